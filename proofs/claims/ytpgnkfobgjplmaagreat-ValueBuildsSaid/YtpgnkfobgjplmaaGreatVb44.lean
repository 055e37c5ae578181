/- The walk of ValueBuilds: tuples and lists of drawn values, and what Elements finds in them. -/
import Derived.Test.YtpgnkfobgjplmaaGreatVb01
import Derived.Test.YtpgnkfobgjplmaaGreatVb26
import Derived.Test.YtpgnkfobgjplmaaGreatVb30
import Derived.Test.YtpgnkfobgjplmaaGreatVb39
import Derived.Test.YtpgnkfobgjplmaaGreatVb43
namespace Go.Proofs.YtpgnkfobgjplmaaGreat
open Go Go.RowKit
set_option maxRecDepth 100000 in
set_option maxHeartbeats 12800000 in
theorem builds_law (hD : Hid DrawnOk) (A : Option Addr) (n c : Nat) (k : Int) (hk : (Lit.int .i64 k).wf = true) (s : List UInt8) (hs : s.length ≤ maxLen) (w : World) (hR : RowII w A n c) :
    Calls Tryz.prog 4 #[.slice A n c, .int .i64 k, .string ⟨s.toArray⟩] w fun e w' => e = .returned (.bool true) ∧ Below w.heap.size w w' := by
  by_cases h4 : 4 < n
  · have q1 : decide ((4 : Int) < (n : Int)) = true := by rw [decide_eq_true_eq]; omega
    clear h4 hR hD
    go_enter Tryz.func4, Tryz.ntmps4
    go_wp2_with (go_at_call 9; refine (awake_any w).mono ?_; rintro e w1 ⟨rfl, hb1⟩; refine Hid.out ?_)
    refine Lib.hid ?_
    go_wp2
    go_ret
    exact ⟨rfl, hb1⟩
  have q1 : decide ((4 : Int) < (n : Int)) = false := by simp; omega
  have hsz : ((⟨s.toArray⟩ : ByteArray).size : Int) = (s.length : Int) := rfl
  by_cases h64 : 64 < s.length
  · have q2 : decide ((64 : Int) < (s.length : Int)) = true := by rw [decide_eq_true_eq]; omega
    clear h4 hR h64 hD
    go_enter Tryz.func4, Tryz.ntmps4
    go_wp2_with (go_at_call 9; refine (awake_any w).mono ?_; rintro e w1 ⟨rfl, hb1⟩; refine Hid.out ?_)
    refine Lib.hid ?_
    go_wp2
    go_ret
    exact ⟨rfl, hb1⟩
  have q2 : decide ((64 : Int) < (s.length : Int)) = false := by simp; omega
  have HR := Lib.hid hR
  have HH := Lib.hid (And.intro (show n ≤ 4 by omega) (show s.length ≤ 64 by omega))
  have HKW := Lib.hid (And.intro hk hs)
  clear hR h4 h64 hk hs
  go_enter Tryz.func4, Tryz.ntmps4
  go_wp2_with fail
  go_loopw [7, 8] (fun l i wr => ∃ (j : Nat) (A1 : Option Addr) (c1 : Nat) (args : List Vl), l = .slice A1 args.length c1 ∧ i = .int .i64 j ∧ j ≤ n ∧ args.length = j ∧ OwnV 4 wr w.heap.size (.slice A1 args.length c1) args ∧ (∀ x ∈ args, okV x = true ∧ sml x) ∧ Below w.heap.size w wr) (fun _ i _ => n - (intOf i).toNat)
  case atStart => exact ⟨0, none, 0, [], rfl, rfl, Nat.zero_le _, rfl, OwnE.nil _ _ _ _ _, by simp, Below.refl _ _⟩
  case round =>
    obtain ⟨j, A1, c1, args, rfl, rfl, hj, hla, hO, hall, hb⟩ := hrel
    have HALL := Lib.hid hall
    have HO := Lib.hid hO
    have HLA := Lib.hid hla
    have hbs := hb.size
    generalize hlb : args.length = la at *
    have HLB := Lib.hid hlb
    obtain rfl : j = la := hla.symm
    clear hall hO hla hlb
    by_cases hjn : j < n
    · obtain ⟨bo, oo, co, u0, hu, hbo, ⟨A', n', c', hcs, hRow⟩, d0⟩ := RowB.at1 HR.out hjn
      injection hu with g1 g2 g3
      subst g1
      clear g2 g3
      simp only [List.cons.injEq, and_true] at hcs
      subst hcs
      have kn : (j : Int) < (n : Int) := by omega
      have kp : (0 : Int) ≤ (j : Int) := by omega
      have x0 : wr.cell? ⟨bo, oo + j, none⟩ = some (.slice A' n' c') := (hb.cell (p := ⟨bo, _, none⟩) hbo).trans d0
      have hRw := (hRow.on hb fun _ _ h => h).mono hb.size (fun _ _ h => h)
      have hnl := hRow.form
      by_cases h40 : 40 < n'
      · have q3 : decide ((40 : Int) < (n' : Int)) = true := by rw [decide_eq_true_eq]; omega
        have HB := Lib.hid hb
        clear hRw hRow hnl h40 d0
        go_wp2_with (go_at_call 9; refine (awake_any wr).mono ?_; rintro e w1 ⟨rfl, hb1⟩; refine Hid.out ?_)
        refine Lib.hid ?_
        go_wp2
        go_ret
        exact ⟨rfl, HB.out.trans (hb1.mono hbs)⟩
      · have q3 : decide ((40 : Int) < (n' : Int)) = false := by simp; omega
        have hvc := hD.out A' n' c' wr hRw (by unfold maxLen; omega)
        have HB := Lib.hid hb
        clear hRw hRow hnl h40 d0
        go_wp2_with (go_at_call 10; refine hvc.mono ?_; rintro e w3 ⟨v, cs, rfl, hvb, hok, hsm, hb3⟩; refine Hid.out ?_)
        refine Lib.hid ?_
        clear hvc
        obtain ⟨a0, a1, a2, P1, e1, f1, P2, e2, f2, P3, e3, f3, P4, e4, f4, rfl⟩ := hvb.form7
        have hO3 := HO.out.old hb3
        have hblk := HO.out.blk
        have hzz := hb3.size
        have hll := HLB.out
        have hmm := HH.out
        go_wp2_with (at_builtin; refine wp_app_v rfl _ _ rfl 4 w.heap.size _ args rfl hO3 v _ 1 _ rfl rfl _ rfl (VB.sub (fun b hb => ⟨by have := hb.1; omega, hb.2, fun e => by have := hblk b e.symm; have := hb.1; omega⟩) (Nat.le_refl _) hvb) rfl (elV_one 4 v _ _ _ hvb) (by omega) (by omega) ?_; intro g cap w4 ho4 hb4 _ _; refine Hid.out ?_)
        refine Lib.hid ?_
        have HR4 := Lib.hid (And.intro ho4 (And.intro hok (And.intro hsm (HB.out.trans ((hb3.mono hbs).trans (hb4.mono (by omega)))))))
        have hw : IntKind.i64.wrap ((j : Int) + 1) = (j : Int) + 1 := IntWalk.i64_in _ (by have := HH.out.1; omega)
        clear ho4 hok hsm hvb hO3 hblk hb4 hll hmm hzz hb3
        go_wp2_with fail
        go_roundw
        case rel =>
          obtain ⟨r1, r2, r3, r4⟩ := HR4.out
          have hl2 : (args ++ [v]).length = j + 1 := by rw [List.length_append, HLB.out]; rfl
          refine ⟨j + 1, some ⟨g, 0, none⟩, cap, args ++ [v], by rw [hl2], by go_num, by omega, hl2, by rw [hl2, ← HLB.out]; exact r1, ?_, r4⟩
          intro x hx
          rcases List.mem_append.1 hx with hx | hx
          · exact HALL.out x hx
          · rw [List.mem_singleton.1 hx]; exact ⟨r2, r3⟩
        case measure => simp [intOf]; try omega
    · obtain rfl : j = n := by omega
      have hP0 : RowP wr wr.heap.size 7 (.slice A1 j c1) j (fun q cs => ∃ x, args[q]? = some x ∧ VS 4 wr wr.heap.size x cs) := by
        have hr := HO.out.row (by omega) (by rw [HLB.out]; have := HH.out.1; unfold maxLen; omega)
        rw [HLB.out] at hr
        exact RowB.sub hr (fun b hb => hb.2) (fun q cs ⟨x, hx, hv⟩ => ⟨x, hx, VB.sub (fun b hb => hb.2) (Nat.le_refl _) hv⟩)
      have HDP := Lib.hid (row_dep hP0 HLB.out)
      have hsml : smlVs args := smlVs_iff.2 fun x hx => (HALL.out x hx).2
      have HP : Hid (∀ V, Below wr.heap.size wr V → RowP V V.heap.size 7 (.slice A1 j c1) j (fun q cs => ∃ x, args[q]? = some x ∧ VS 4 V V.heap.size x cs)) := Lib.hid fun V hV => rowVS_onN hV hP0
      have hT := tuple_any 4 A1 c1 args wr (by rw [HLB.out]; exact hP0) (by rw [HLB.out]; have := HH.out.1; omega) hsml
      rw [HLB.out] at hT
      have HDL : Hid (dep (listV args) ≤ 9) := Lib.hid (Nat.le_trans (dep_list HDP.out) (by rw [HLB.out]; have := HH.out.1; omega))
      have HLs : Hid (∀ V, Below wr.heap.size wr V → Calls Tryz.prog 14 #[.slice A1 j c1] V fun e w' => ∃ cs, e = .returned (.agg cs.toArray) ∧ VB 9 w' (Btw V.heap.size w'.heap.size) (listV args) cs ∧ Below V.heap.size V w') := Lib.hid fun V hV => by
        have h := list_any 4 A1 c1 args V (by rw [HLB.out]; exact HP.out V hV) hsml
        rw [HLB.out] at h
        exact h.mono fun e w' ⟨cs, K, he, hv, hb⟩ => ⟨cs, he, hv.at_dep HDL.out, hb⟩
      have HB := Lib.hid hb
      have HSM := Lib.hid hsml
      clear hP0 hb hsml
      go_wp2_with (go_at_call 13; refine hT.mono ?_; rintro e w2 ⟨csT, rfl, hvT, hb2⟩; refine Hid.out ?_)
      refine Lib.hid ?_
      obtain ⟨a0, a1, a2, P1, e1, f1, P2, e2, f2, P3, e3, f3, P4, e4, f4, rfl⟩ := hvT.form7
      have hLL := HLs.out _ hb2
      clear hT
      go_wp2_with (go_at_call 14; refine hLL.mono ?_; rintro e w3 ⟨csL, rfl, hvL, hb3⟩; refine Hid.out ?_)
      refine Lib.hid ?_
      obtain ⟨b0, b1, b2, Q1, g1, i1, Q2, g2, i2, Q3, g3, i3, Q4, g4, i4, rfl⟩ := hvL.form7
      clear hLL
      have HT2 := Lib.hid hvT
      have HL3 := Lib.hid hvL
      have HB2 := Lib.hid hb2
      have HB3 := Lib.hid hb3
      have hz2 := hb2.size
      have hz3 := hb3.size
      clear hvT hvL hb2 hb3
      go_wp2_with fail
      obtain ⟨w4, hw4⟩ : ∃ V, V = (w3.alloc (.cells #[.int .i64 a0, .int .i64 a1, .string a2, .slice P1 e1 f1, .slice P2 e2 f2, .slice P3 e3 f3, .slice P4 e4 f4] 27)).alloc (.cells #[.int .i64 b0, .int .i64 b1, .string b2, .slice Q1 g1 i1, .slice Q2 g2 i2, .slice Q3 g3 i3, .slice Q4 g4 i4] 27) := ⟨_, rfl⟩
      rw [← hw4]
      have hb34 : Below w3.heap.size w3 w4 := by rw [hw4]; exact ((Below.refl _ _).alloc (Nat.le_refl _) _).alloc (by simp) _
      have hz4 : w4.heap.size = w3.heap.size + 2 := by rw [hw4]; simp
      have k1 : w4.heap[w3.heap.size]? = some (.cells #[.int .i64 a0, .int .i64 a1, .string a2, .slice P1 e1 f1, .slice P2 e2 f2, .slice P3 e3 f3, .slice P4 e4 f4] 27 (0, 0)) := by
        rw [hw4, Below.heap_alloc _ _ _ (by simp)]
        exact heap_alloc_new w3 _
      have k2 : w4.heap[w3.heap.size + 1]? = some (.cells #[.int .i64 b0, .int .i64 b1, .string b2, .slice Q1 g1 i1, .slice Q2 g2 i2, .slice Q3 g3 i3, .slice Q4 g4 i4] 27 (0, 0)) := by
        rw [hw4]
        exact new_at' _ (by simp)
      clear hw4
      have hvL4 : VS 9 w4 w4.heap.size (listV args) [.int .i64 b0, .int .i64 b1, .string b2, .slice Q1 g1 i1, .slice Q2 g2 i2, .slice Q3 g3 i3, .slice Q4 g4 i4] := VS.up hb34.size (Nat.le_refl _) (VS.on hb34 (VB.sub (fun b hb => hb.2) (Nat.le_refl _) HL3.out))
      have HK1 := Lib.hid k1
      have HK2 := Lib.hid k2
      have HVL4 := Lib.hid hvL4
      have HVT4 : Hid (VS 5 w4 w4.heap.size (tupV args) [.int .i64 a0, .int .i64 a1, .string a2, .slice P1 e1 f1, .slice P2 e2 f2, .slice P3 e3 f3, .slice P4 e4 f4]) := Lib.hid (VS.up hb34.size (Nat.le_refl _) (VS.on hb34 (VS.up HB3.out.size (Nat.le_refl _) (VS.on HB3.out (VB.sub (fun b hb => hb.2) (Nat.le_refl _) HT2.out)))))
      have HB4 : Hid (Below wr.heap.size wr w4) := Lib.hid (HB2.out.trans ((HB3.out.mono hz2).trans (hb34.mono (by omega))))
      have hEl := elements_any 9 (listV args) _ w4 hvL4 (sml_list HSM.out) (by omega)
      rw [elemsF_list (l := args) (K := 9) (by rw [HLB.out]; have := HH.out.1; omega)] at hEl
      generalize w3.heap.size = bT at *
      clear k1 k2 hvL4 hb34
      refine hEl.mono ?_
      rintro e w5 ⟨hb5, hcase⟩
      rcases hcase with ⟨l', hl', u, rfl, hu⟩ | ⟨hno, _⟩
      case inr => cases hno
      injection hl' with hl'
      subst hl'
      obtain ⟨Au, cu, rfl, _⟩ := hu.form
      rw [HLB.out] at hu
      have HU := Lib.hid hu
      have HB5 := Lib.hid hb5
      have hz5 := hb5.size
      rw [HLB.out]
      clear hEl hu hb5
      go_wp2_with fail
      refine (int_exact k w5).mono ?_
      rintro e w6 ⟨rfl, hw6⟩
      have HB6 : Hid (Below w5.heap.size w5 w6) := Lib.hid (by rw [hw6]; exact (Below.refl _ _).alloc (Nat.le_refl _) _)
      clear hw6
      go_wp2_with fail
      refine (stringP_any s w6).mono ?_
      rintro e w7 ⟨rfl, hb7⟩
      have HB7 := Lib.hid hb7
      clear hb7
      have hCo := consP_any 1 (intV k) (lfV 2 0 s) _ _ w7 (intVB 0 k HKW.out.1 _ _) (lfVB (by decide) (by decide) HKW.out.2 0 _ _) (sml_int k) ⟨by simp, by simp, by simp, by simp, by simp [smlVs], by simp [smlEs]⟩
      go_wp2_with fail
      refine hCo.mono ?_
      rintro e w8 ⟨csC, rfl, hvC, hb8⟩
      have hE2 := elements_any 2 (consV (intV k) (lfV 2 0 s)) csC w8 (VB.sub (fun b hb => hb.2) (Nat.le_refl _) hvC) (sml_cons (sml_int k) ⟨by simp, by simp, by simp, by simp, by simp [smlVs], by simp [smlEs]⟩) (by omega)
      rw [show lfV 2 0 s = .mk 2 0 s [] [] [] [] from rfl, elemsF_text] at hE2
      obtain ⟨r0, r1, r2, R1, m1, o1, R2, m2, o2, R3, m3, o3, R4, m4, o4, rfl⟩ := hvC.form7
      have HB8 := Lib.hid hb8
      clear hCo hvC hb8
      go_wp2_with fail
      refine hE2.mono ?_
      rintro e w9 ⟨hb9, hcase⟩
      rcases hcase with ⟨l', hl', _⟩ | ⟨_, rfl⟩
      case inl => cases hl'
      clear hE2
      have HB49 : Hid (Below w4.heap.size w4 w9) := Lib.hid (HB5.out.trans ((HB6.out.mono hz5).trans ((HB7.out.mono (Nat.le_trans hz5 HB6.out.size)).trans ((HB8.out.mono (Nat.le_trans hz5 (Nat.le_trans HB6.out.size HB7.out.size))).trans (hb9.mono (Nat.le_trans hz5 (Nat.le_trans HB6.out.size (Nat.le_trans HB7.out.size HB8.out.size))))))))
      have HB59 : Hid (Below w5.heap.size w5 w9) := Lib.hid (HB6.out.trans ((HB7.out.mono HB6.out.size).trans ((HB8.out.mono (Nat.le_trans HB6.out.size HB7.out.size)).trans (hb9.mono (Nat.le_trans HB6.out.size (Nat.le_trans HB7.out.size HB8.out.size))))))
      have hz9 : w4.heap.size ≤ w9.heap.size := HB49.out.size
      clear hb9
      have HS : Hid (∀ V, Below w9.heap.size w9 V → V.cell? ⟨bT, 0, none⟩ = some (.int .i64 a0) ∧ V.cell? ⟨bT, 1, none⟩ = some (.int .i64 a1) ∧ V.cell? ⟨bT, 2, none⟩ = some (.string a2) ∧ V.cell? ⟨bT, 3, none⟩ = some (.slice P1 e1 f1) ∧ V.cell? ⟨bT, 4, none⟩ = some (.slice P2 e2 f2) ∧ V.cell? ⟨bT, 5, none⟩ = some (.slice P3 e3 f3) ∧ V.cell? ⟨bT, 6, none⟩ = some (.slice P4 e4 f4) ∧ V.cell? ⟨bT + 1, 0, none⟩ = some (.int .i64 b0) ∧ V.cell? ⟨bT + 1, 1, none⟩ = some (.int .i64 b1) ∧ V.cell? ⟨bT + 1, 2, none⟩ = some (.string b2) ∧ V.cell? ⟨bT + 1, 3, none⟩ = some (.slice Q1 g1 i1) ∧ V.cell? ⟨bT + 1, 4, none⟩ = some (.slice Q2 g2 i2) ∧ V.cell? ⟨bT + 1, 5, none⟩ = some (.slice Q3 g3 i3) ∧ V.cell? ⟨bT + 1, 6, none⟩ = some (.slice Q4 g4 i4)) := Lib.hid fun V hV => by
        have hv := HB49.out.trans (hV.mono hz9)
        have h1 : V.heap[bT]? = _ := (hv.block _ (by omega)).trans HK1.out
        have h2 : V.heap[bT + 1]? = _ := (hv.block _ (by omega)).trans HK2.out
        exact ⟨(Lib.cell_of_heap h1 0).trans rfl, (Lib.cell_of_heap h1 1).trans rfl, (Lib.cell_of_heap h1 2).trans rfl, (Lib.cell_of_heap h1 3).trans rfl, (Lib.cell_of_heap h1 4).trans rfl, (Lib.cell_of_heap h1 5).trans rfl, (Lib.cell_of_heap h1 6).trans rfl, (Lib.cell_of_heap h2 0).trans rfl, (Lib.cell_of_heap h2 1).trans rfl, (Lib.cell_of_heap h2 2).trans rfl, (Lib.cell_of_heap h2 3).trans rfl, (Lib.cell_of_heap h2 4).trans rfl, (Lib.cell_of_heap h2 5).trans rfl, (Lib.cell_of_heap h2 6).trans rfl⟩
      have HVT : Hid (∀ V, Below w9.heap.size w9 V → VS 5 V V.heap.size (tupV args) [.int .i64 a0, .int .i64 a1, .string a2, .slice P1 e1 f1, .slice P2 e2 f2, .slice P3 e3 f3, .slice P4 e4 f4]) := Lib.hid fun V hV => VS.up (Nat.le_trans hz9 hV.size) (Nat.le_refl _) (VS.on (HB49.out.trans (hV.mono hz9)) HVT4.out)
      have HVL : Hid (∀ V, Below w9.heap.size w9 V → VS 9 V V.heap.size (listV args) [.int .i64 b0, .int .i64 b1, .string b2, .slice Q1 g1 i1, .slice Q2 g2 i2, .slice Q3 g3 i3, .slice Q4 g4 i4]) := Lib.hid fun V hV => VS.up (Nat.le_trans hz9 hV.size) (Nat.le_refl _) (VS.on (HB49.out.trans (hV.mono hz9)) HVL4.out)
      have HPs : Hid (∀ V, Below w9.heap.size w9 V → RowP V V.heap.size 7 (.slice A1 j c1) j (fun q cs => ∃ x, args[q]? = some x ∧ VS 4 V V.heap.size x cs)) := Lib.hid fun V hV => HP.out V (HB4.out.trans ((HB49.out.trans (hV.mono hz9)).mono (by have := HB4.out.size; omega)))
      have HUs : Hid (∀ V, Below w9.heap.size w9 V → RowP V V.heap.size 7 (.slice Au j cu) j (fun q cs => ∃ x, args[q]? = some x ∧ VS 9 V V.heap.size x cs)) := Lib.hid fun V hV => rowVS_onN (HB59.out.trans (hV.mono HB59.out.size)) (RowB.sub HU.out (fun b hb => hb.2) (fun q cs ⟨x, hx, hv⟩ => ⟨x, hx, VB.sub (fun b hb => hb.2) (Nat.le_refl _) hv⟩))
      obtain ⟨hke, _, _⟩ := kids_open (HVT.out w9 (Below.refl _ _))
      obtain rfl : e1 = j := by rw [← hke, ← HLB.out]; rfl
      clear hke
      have HKs : Hid (∀ V, Below w9.heap.size w9 V → RowP V V.heap.size 7 (.slice P1 e1 f1) e1 (fun q cs => ∃ x, args[q]? = some x ∧ VS 4 V V.heap.size x cs)) := Lib.hid fun V hV => (kids_open (HVT.out V hV)).2.2
      have C1 : Hid (∀ V, Below w9.heap.size w9 V → Calls Tryz.prog 11 #[.agg #[.int .i64 a0, .int .i64 a1, .string a2, .slice P1 e1 f1, .slice P2 e2 f2, .slice P3 e3 f3, .slice P4 e4 f4]] V fun e w' => e = .returned (.int .i64 0) ∧ Below V.heap.size V w') := Lib.hid fun V hV => by
        have h := validate_any 5 (tupV args) _ V (HVT.out V hV)
        rw [okV_tup (fun x hx => (HALL.out x hx).1) (by rw [HLB.out]; exact HH.out.1), if_pos rfl] at h
        exact h
      have C2 : Hid (∀ V, Below w9.heap.size w9 V → Calls Tryz.prog 11 #[.agg #[.int .i64 b0, .int .i64 b1, .string b2, .slice Q1 g1 i1, .slice Q2 g2 i2, .slice Q3 g3 i3, .slice Q4 g4 i4]] V fun e w' => e = .returned (.int .i64 0) ∧ Below V.heap.size V w') := Lib.hid fun V hV => by
        have h := validate_any 9 (listV args) _ V (HVL.out V hV)
        rw [(okV_list (fun x hx => (HALL.out x hx).1)).1, if_pos rfl] at h
        exact h
      have hv0 : decide (thn (cmpI args.length args.length) (cmpVs args args) = 0) = true := decide_eq_true (vals_zero.2 rfl)
      have C3 : Hid (∀ V, Below w9.heap.size w9 V → Calls Tryz.prog 19 #[.slice Au e1 cu, .slice A1 e1 c1] V fun e w' => e = .returned (.bool true) ∧ Below V.heap.size V w') := Lib.hid fun V hV => by
        have h := refEqualValues_any 9 Au A1 cu c1 args args V (by rw [HLB.out]; exact HUs.out V hV) (by rw [HLB.out]; exact RowB.sub (HPs.out V hV) (fun _ h => h) (fun _ _ ⟨x, h1, h2⟩ => ⟨x, h1, VS.up (Nat.le_refl _) (by omega) h2⟩))
        rw [hv0, HLB.out] at h
        exact h
      have C4 : Hid (∀ V, Below w9.heap.size w9 V → Calls Tryz.prog 19 #[.slice P1 e1 f1, .slice A1 e1 c1] V fun e w' => e = .returned (.bool true) ∧ Below V.heap.size V w') := Lib.hid fun V hV => by
        have h := refEqualValues_any 4 P1 A1 f1 c1 args args V (by rw [HLB.out]; exact HKs.out V hV) (by rw [HLB.out]; exact HPs.out V hV)
        rw [hv0, HLB.out] at h
        exact h
      clear hv0
      have HB9 : Hid (Below w9.heap.size w9 w9) := Lib.hid (Below.refl _ _)
      -- cells
      obtain ⟨x0, x1, x2, x3, x4, x5, x6, y0, y1, y2, y3, y4, y5, y6⟩ := HS.out w9 HB9.out
      go_wp2_with fail
      refine (C1.out w9 HB9.out).mono ?_
      rintro e w10 ⟨rfl, hb10⟩
      have HB10 : Hid (Below w9.heap.size w9 w10) := Lib.hid (step_below HB9.out (Nat.le_refl _) hb10)
      clear hb10
      clear x0 x1 x2 x3 x4 x5 x6 y0 y1 y2 y3 y4 y5 y6
      -- cells
      obtain ⟨x0, x1, x2, x3, x4, x5, x6, y0, y1, y2, y3, y4, y5, y6⟩ := HS.out w10 HB10.out
      go_wp2_with fail
      refine (C2.out w10 HB10.out).mono ?_
      rintro e w11 ⟨rfl, hb11⟩
      have HB11 : Hid (Below w9.heap.size w9 w11) := Lib.hid (step_below HB10.out (Nat.le_refl _) hb11)
      clear hb11
      clear x0 x1 x2 x3 x4 x5 x6 y0 y1 y2 y3 y4 y5 y6
      -- cells
      obtain ⟨x0, x1, x2, x3, x4, x5, x6, y0, y1, y2, y3, y4, y5, y6⟩ := HS.out w11 HB11.out
      go_wp2_with fail
      refine (C3.out w11 HB11.out).mono ?_
      rintro e w12 ⟨rfl, hb12⟩
      have HB12 : Hid (Below w9.heap.size w9 w12) := Lib.hid (step_below HB11.out (Nat.le_refl _) hb12)
      clear hb12
      clear x0 x1 x2 x3 x4 x5 x6 y0 y1 y2 y3 y4 y5 y6
      -- cells
      obtain ⟨x0, x1, x2, x3, x4, x5, x6, y0, y1, y2, y3, y4, y5, y6⟩ := HS.out w12 HB12.out
      go_wp2_with fail
      refine (C4.out w12 HB12.out).mono ?_
      rintro e w13 ⟨rfl, hb13⟩
      have HB13 : Hid (Below w9.heap.size w9 w13) := Lib.hid (step_below HB12.out (Nat.le_refl _) hb13)
      clear hb13
      clear x0 x1 x2 x3 x4 x5 x6 y0 y1 y2 y3 y4 y5 y6
      have C5 : Hid (∀ V, Below w9.heap.size w9 V → Calls Tryz.prog 21 #[.slice A1 e1 c1] V fun e w' => ∃ cs, e = .returned (.agg cs.toArray) ∧ VS 9 w' w'.heap.size (listV args) cs ∧ Below V.heap.size V w') := Lib.hid fun V hV => by
        have hr : RowV 4 0 V (.slice A1 args.length c1) args := by
          show RowB V (Btw 0 V.heap.size) 7 (.slice A1 args.length c1) args.length (fun j cs => ∃ x, args[j]? = some x ∧ VB 4 V (Btw 0 V.heap.size) x cs)
          rw [HLB.out]
          exact RowB.sub (HPs.out V hV) (fun b hb => ⟨Nat.zero_le _, hb⟩) (fun _ _ ⟨x, h1, h2⟩ => ⟨x, h1, VB.sub (fun b hb => ⟨Nat.zero_le _, hb⟩) (Nat.le_refl _) h2⟩)
        have h := refList_any 4 0 A1 c1 args V (Nat.zero_le _) hr (by rw [HLB.out]; have := HH.out.1; omega)
        rw [HLB.out] at h
        exact h.mono fun e w' ⟨cs, he, hv, hb⟩ => ⟨cs, he, VB.at_dep (VB.sub (fun b hb => hb.2) (Nat.le_refl _) hv) HDL.out, hb⟩
      have hself : ∀ u : Vl, decide (cmpV u u = 0) = true := fun u => decide_eq_true (cmpV_zero.2 rfl)
      have HSF := Lib.hid hself
      clear hself
      have C6 : Hid (∀ (V : World) (cs : List Value), Below w9.heap.size w9 V → VS 9 V V.heap.size (listV args) cs → Calls Tryz.prog 20 #[.agg #[.int .i64 b0, .int .i64 b1, .string b2, .slice Q1 g1 i1, .slice Q2 g2 i2, .slice Q3 g3 i3, .slice Q4 g4 i4], .agg cs.toArray] V fun e w' => e = .returned (.bool true) ∧ Below V.heap.size V w') := Lib.hid fun V cs hV hcs => by
        have h := refEqual_any 9 (listV args) (listV args) _ cs V (HVL.out V hV) hcs
        rw [HSF.out] at h
        exact h
      have C7 : Hid (∀ V : World, Calls Tryz.prog 20 #[.agg #[.int .i64 1, .int .i64 k, .string ⟨#[]⟩, .slice none 0 0, .slice none 0 0, .slice none 0 0, .slice none 0 0], .agg #[.int .i64 1, .int .i64 k, .string ⟨#[]⟩, .slice none 0 0, .slice none 0 0, .slice none 0 0, .slice none 0 0]] V fun e w' => e = .returned (.bool true) ∧ Below V.heap.size V w') := Lib.hid fun V => by
        have h := refEqual_any 1 (intV k) (intV k) _ _ V (intVB 0 k HKW.out.1 _ _) (intVB 0 k HKW.out.1 _ _)
        rw [HSF.out] at h
        exact h
      have C8 : Hid (∀ V : World, Calls Tryz.prog 20 #[.agg #[.int .i64 2, .int .i64 0, .string ⟨s.toArray⟩, .slice none 0 0, .slice none 0 0, .slice none 0 0, .slice none 0 0], .agg #[.int .i64 2, .int .i64 0, .string ⟨s.toArray⟩, .slice none 0 0, .slice none 0 0, .slice none 0 0, .slice none 0 0]] V fun e w' => e = .returned (.bool true) ∧ Below V.heap.size V w') := Lib.hid fun V => by
        have h := refEqual_any 1 (lfV 2 0 s) (lfV 2 0 s) _ _ V (lfVB (by decide) (by decide) HKW.out.2 0 _ _) (lfVB (by decide) (by decide) HKW.out.2 0 _ _)
        rw [HSF.out] at h
        exact h
      have ok3 : okV (lfV 3 0 s) = atomB s := by simp [okV, lfV, labelsB, AscC, usesB, kindB, okVs, okEs]
      have ok4 : okV (lfV 4 k []) = decide (0 ≤ k) := by simp [okV, lfV, labelsB, AscC, usesB, kindB, okVs, okEs]
      have C9 : Hid (∀ V : World, Calls Tryz.prog 11 #[.agg #[.int .i64 3, .int .i64 0, .string ⟨s.toArray⟩, .slice none 0 0, .slice none 0 0, .slice none 0 0, .slice none 0 0]] V fun e w' => e = .returned (.int .i64 (if atomB s then 0 else 1)) ∧ Below V.heap.size V w') := Lib.hid fun V => by
        have h := validate_any 1 (lfV 3 0 s) _ V (lfVB (by decide) (by decide) HKW.out.2 0 _ _)
        rw [ok3] at h
        exact h
      have C10 : Hid (∀ V : World, Calls Tryz.prog 11 #[.agg #[.int .i64 4, .int .i64 k, .string ⟨#[]⟩, .slice none 0 0, .slice none 0 0, .slice none 0 0, .slice none 0 0]] V fun e w' => e = .returned (.int .i64 (if decide (0 ≤ k) then 0 else 1)) ∧ Below V.heap.size V w') := Lib.hid fun V => by
        have h := validate_any 1 (lfV 4 k []) _ V (lfVB (by decide) HKW.out.1 (by simp) 0 _ _)
        rw [ok4] at h
        exact h
      have C11 : Hid (∀ V : World, Calls Tryz.prog 25 #[.string ⟨s.toArray⟩] V fun e w' => e = .returned (.bool (atomB s)) ∧ V = w') := Lib.hid fun V => refIsAtom_any ⟨s.toArray⟩ V HKW.out.2
      clear ok3 ok4
      have hzA : ((if atomB s then (0 : Int) else 1) == 0) = atomB s := by cases atomB s <;> rfl
      generalize (if atomB s then (0 : Int) else 1) = zA at C9 hzA
      generalize atomB s = bA at C11 hzA
      have hzP : ((if decide (0 ≤ k) then (0 : Int) else 1) == 0) = decide (0 ≤ k) := by cases decide (0 ≤ k) <;> rfl
      generalize (if decide (0 ≤ k) then (0 : Int) else 1) = zP at C10 hzP
      generalize hbP : decide (0 ≤ k) = bP at hzP
      go_wp2_with fail
      refine wp_region_held_drew (S := fun V => V.cell? ⟨bT + 1, 0, none⟩ = some (.int .i64 b0) ∧ V.cell? ⟨bT + 1, 1, none⟩ = some (.int .i64 b1) ∧ V.cell? ⟨bT + 1, 2, none⟩ = some (.string b2) ∧ V.cell? ⟨bT + 1, 3, none⟩ = some (.slice Q1 g1 i1) ∧ V.cell? ⟨bT + 1, 4, none⟩ = some (.slice Q2 g2 i2) ∧ V.cell? ⟨bT + 1, 5, none⟩ = some (.slice Q3 g3 i3) ∧ V.cell? ⟨bT + 1, 6, none⟩ = some (.slice Q4 g4 i4)) (by kernel_rfl) (HS.out _ HB13.out.drew).2.2.2.2.2.2.2 (fun hHeld => ?_)
      refine take_op (i := 0) (v := _) rfl (by kernel_rfl) (by kernel_rfl) (by kernel_rfl) (fun _ _ _ h => h) (Or.inl ⟨by rfl, (by intro w hSw; (try dsimp only at hSw); go_simp; try with_reducible rfl)⟩) hHeld ?_
      try simp only [Act.put, List.setIfInBounds_toArray, List.set_cons_zero, List.set_cons_succ]
      refine take_op (i := 1) (v := _) rfl (by kernel_rfl) (by kernel_rfl) (by kernel_rfl) (fun _ _ _ h => h) (Or.inl ⟨by rfl, (by intro w hSw; (try dsimp only at hSw); go_simp; try with_reducible rfl)⟩) hHeld ?_
      try simp only [Act.put, List.setIfInBounds_toArray, List.set_cons_zero, List.set_cons_succ]
      refine one_op 2 (by kernel_rfl) rfl (by rfl) (fun K hK => ?_)
      go_simp
      refine (C5.out _ (HB13.out.drew)).mono ?_
      rintro e w14 ⟨csR, rfl, hvR, hb14⟩
      have HB14 : Hid (Below w9.heap.size w9 w14) := Lib.hid (step_below (HB13.out.drew) (Nat.le_refl _) hb14)
      obtain ⟨p0, p1, p2, S1, m1, o1, S2, m2, o2, S3, m3, o3, S4, m4, o4, rfl⟩ := hvR.form7
      refine hK _ _ (HS.out _ HB14.out).2.2.2.2.2.2.2 ?_
      try simp only [Act.put, List.setIfInBounds_toArray, List.set_cons_zero, List.set_cons_succ]
      refine one_op 3 (by kernel_rfl) rfl (by rfl) (fun K hK => ?_)
      go_simp
      refine (C6.out _ _ (HB14.out) hvR).mono ?_
      rintro e w15 ⟨rfl, hb15⟩
      have HB15 : Hid (Below w9.heap.size w9 w15) := Lib.hid (step_below (HB14.out) (Nat.le_refl _) hb15)
      clear hvR
      refine hK _ _ (HS.out _ HB15.out).2.2.2.2.2.2.2 ?_
      try simp only [Act.put, List.setIfInBounds_toArray, List.set_cons_zero, List.set_cons_succ]
      refine take_op (i := 4) (v := _) rfl (by kernel_rfl) (by kernel_rfl) (by kernel_rfl) (fun _ _ _ h => h) (Or.inl ⟨by rfl, (by intro w hSw; (try dsimp only at hSw); go_simp; try with_reducible rfl)⟩) (HS.out _ HB15.out).2.2.2.2.2.2.2 ?_
      try simp only [Act.put, List.setIfInBounds_toArray, List.set_cons_zero, List.set_cons_succ]
      refine take_op (i := 5) (v := _) rfl (by kernel_rfl) (by kernel_rfl) (by kernel_rfl) (fun _ _ _ h => h) (Or.inl ⟨by rfl, (by intro w hSw; (try dsimp only at hSw); go_simp; try with_reducible rfl)⟩) (HS.out _ HB15.out).2.2.2.2.2.2.2 ?_
      try simp only [Act.put, List.setIfInBounds_toArray, List.set_cons_zero, List.set_cons_succ]
      refine take_op (i := 7) (v := _) rfl (by kernel_rfl) (by kernel_rfl) (by kernel_rfl) (fun _ _ _ h => h) (Or.inl ⟨by rfl, (by intro w hSw; (try dsimp only at hSw); go_simp; try with_reducible rfl)⟩) (HS.out _ HB15.out).2.2.2.2.2.2.2 ?_
      try simp only [Act.put, List.setIfInBounds_toArray, List.set_cons_zero, List.set_cons_succ]
      refine one_op 6 (by kernel_rfl) rfl (by rfl) (fun K hK => ?_)
      go_simp
      refine (int_exact k _).mono ?_
      rintro e w16 ⟨rfl, hw16⟩
      have HB16 : Hid (Below w9.heap.size w9 w16) := Lib.hid (by rw [hw16]; exact HB15.out.alloc HB15.out.size _)
      clear hw16
      refine hK _ _ (HS.out _ HB16.out).2.2.2.2.2.2.2 ?_
      try simp only [Act.put, List.setIfInBounds_toArray, List.set_cons_zero, List.set_cons_succ]
      refine one_op 8 (by kernel_rfl) rfl (by rfl) (fun K hK => ?_)
      go_simp
      refine (refInt_any k _).mono ?_
      rintro e w17 ⟨rfl, hb17⟩
      have HB17 : Hid (Below w9.heap.size w9 w17) := Lib.hid (step_below (HB16.out) (Nat.le_refl _) hb17)
      refine hK _ _ (HS.out _ HB17.out).2.2.2.2.2.2.2 ?_
      try simp only [Act.put, List.setIfInBounds_toArray, List.set_cons_zero, List.set_cons_succ]
      refine one_op 9 (by kernel_rfl) rfl (by rfl) (fun K hK => ?_)
      go_simp
      refine (C7.out _).mono ?_
      rintro e w18 ⟨rfl, hb18⟩
      have HB18 : Hid (Below w9.heap.size w9 w18) := Lib.hid (step_below (HB17.out) (Nat.le_refl _) hb18)
      refine hK _ _ (HS.out _ HB18.out).2.2.2.2.2.2.2 ?_
      try simp only [Act.put, List.setIfInBounds_toArray, List.set_cons_zero, List.set_cons_succ]
      refine take_op (i := 10) (v := _) rfl (by kernel_rfl) (by kernel_rfl) (by kernel_rfl) (fun _ _ _ h => h) (Or.inl ⟨by rfl, (by intro w hSw; (try dsimp only at hSw); go_simp; try with_reducible rfl)⟩) (HS.out _ HB18.out).2.2.2.2.2.2.2 ?_
      try simp only [Act.put, List.setIfInBounds_toArray, List.set_cons_zero, List.set_cons_succ]
      refine take_op (i := 11) (v := _) rfl (by kernel_rfl) (by kernel_rfl) (by kernel_rfl) (fun _ _ _ h => h) (Or.inl ⟨by rfl, (by intro w hSw; (try dsimp only at hSw); go_simp; try with_reducible rfl)⟩) (HS.out _ HB18.out).2.2.2.2.2.2.2 ?_
      try simp only [Act.put, List.setIfInBounds_toArray, List.set_cons_zero, List.set_cons_succ]
      refine take_op (i := 12) (v := _) rfl (by kernel_rfl) (by kernel_rfl) (by kernel_rfl) (fun _ _ _ h => h) (Or.inl ⟨by rfl, (by intro w hSw; (try dsimp only at hSw); go_simp; try with_reducible rfl)⟩) (HS.out _ HB18.out).2.2.2.2.2.2.2 ?_
      try simp only [Act.put, List.setIfInBounds_toArray, List.set_cons_zero, List.set_cons_succ]
      refine take_op (i := 14) (v := _) rfl (by kernel_rfl) (by kernel_rfl) (by kernel_rfl) (fun _ _ _ h => h) (Or.inl ⟨by rfl, (by intro w hSw; (try dsimp only at hSw); go_simp; try with_reducible rfl)⟩) (HS.out _ HB18.out).2.2.2.2.2.2.2 ?_
      try simp only [Act.put, List.setIfInBounds_toArray, List.set_cons_zero, List.set_cons_succ]
      refine one_op 13 (by kernel_rfl) rfl (by rfl) (fun K hK => ?_)
      go_simp
      refine (stringP_any s _).mono ?_
      rintro e w19 ⟨rfl, hb19⟩
      have HB19 : Hid (Below w9.heap.size w9 w19) := Lib.hid (step_below (HB18.out) (Nat.le_refl _) hb19)
      refine hK _ _ (HS.out _ HB19.out).2.2.2.2.2.2.2 ?_
      try simp only [Act.put, List.setIfInBounds_toArray, List.set_cons_zero, List.set_cons_succ]
      refine one_op 15 (by kernel_rfl) rfl (by rfl) (fun K hK => ?_)
      go_simp
      refine (refString_any s _).mono ?_
      rintro e w20 ⟨rfl, hb20⟩
      have HB20 : Hid (Below w9.heap.size w9 w20) := Lib.hid (step_below (HB19.out) (Nat.le_refl _) hb20)
      refine hK _ _ (HS.out _ HB20.out).2.2.2.2.2.2.2 ?_
      try simp only [Act.put, List.setIfInBounds_toArray, List.set_cons_zero, List.set_cons_succ]
      refine one_op 16 (by kernel_rfl) rfl (by rfl) (fun K hK => ?_)
      go_simp
      refine (C8.out _).mono ?_
      rintro e w21 ⟨rfl, hb21⟩
      have HB21 : Hid (Below w9.heap.size w9 w21) := Lib.hid (step_below (HB20.out) (Nat.le_refl _) hb21)
      refine hK _ _ (HS.out _ HB21.out).2.2.2.2.2.2.2 ?_
      try simp only [Act.put, List.setIfInBounds_toArray, List.set_cons_zero, List.set_cons_succ]
      refine take_op (i := 17) (v := _) rfl (by kernel_rfl) (by kernel_rfl) (by kernel_rfl) (fun _ _ _ h => h) (Or.inl ⟨by rfl, (by intro w hSw; (try dsimp only at hSw); go_simp; try with_reducible rfl)⟩) (HS.out _ HB21.out).2.2.2.2.2.2.2 ?_
      try simp only [Act.put, List.setIfInBounds_toArray, List.set_cons_zero, List.set_cons_succ]
      refine take_op (i := 18) (v := _) rfl (by kernel_rfl) (by kernel_rfl) (by kernel_rfl) (fun _ _ _ h => h) (Or.inl ⟨by rfl, (by intro w hSw; (try dsimp only at hSw); go_simp; try with_reducible rfl)⟩) (HS.out _ HB21.out).2.2.2.2.2.2.2 ?_
      try simp only [Act.put, List.setIfInBounds_toArray, List.set_cons_zero, List.set_cons_succ]
      refine take_op (i := 19) (v := _) rfl (by kernel_rfl) (by kernel_rfl) (by kernel_rfl) (fun _ _ _ h => h) (Or.inl ⟨by rfl, (by intro w hSw; (try dsimp only at hSw); go_simp; try with_reducible rfl)⟩) (HS.out _ HB21.out).2.2.2.2.2.2.2 ?_
      try simp only [Act.put, List.setIfInBounds_toArray, List.set_cons_zero, List.set_cons_succ]
      refine take_op (i := 23) (v := _) rfl (by kernel_rfl) (by kernel_rfl) (by kernel_rfl) (fun _ _ _ h => h) (Or.inl ⟨by rfl, (by intro w hSw; (try dsimp only at hSw); go_simp; try with_reducible rfl)⟩) (HS.out _ HB21.out).2.2.2.2.2.2.2 ?_
      try simp only [Act.put, List.setIfInBounds_toArray, List.set_cons_zero, List.set_cons_succ]
      refine one_op 20 (by kernel_rfl) rfl (by rfl) (fun K hK => ?_)
      go_simp
      refine (atomP_any s _).mono ?_
      rintro e w22 ⟨rfl, hb22⟩
      have HB22 : Hid (Below w9.heap.size w9 w22) := Lib.hid (step_below (HB21.out) (Nat.le_refl _) hb22)
      refine hK _ _ (HS.out _ HB22.out).2.2.2.2.2.2.2 ?_
      try simp only [Act.put, List.setIfInBounds_toArray, List.set_cons_zero, List.set_cons_succ]
      refine one_op 21 (by kernel_rfl) rfl (by rfl) (fun K hK => ?_)
      go_simp
      refine (C9.out _).mono ?_
      rintro e w23 ⟨rfl, hb23⟩
      have HB23 : Hid (Below w9.heap.size w9 w23) := Lib.hid (step_below (HB22.out) (Nat.le_refl _) hb23)
      refine hK _ _ (HS.out _ HB23.out).2.2.2.2.2.2.2 ?_
      try simp only [Act.put, List.setIfInBounds_toArray, List.set_cons_zero, List.set_cons_succ]
      refine take_op (i := 22) (v := _) rfl (by kernel_rfl) (by kernel_rfl) (by kernel_rfl) (fun _ _ _ h => h) (Or.inl ⟨by rfl, (by intro w hSw; (try dsimp only at hSw); go_simp; try with_reducible rfl)⟩) (HS.out _ HB23.out).2.2.2.2.2.2.2 ?_
      try simp only [Act.put, List.setIfInBounds_toArray, List.set_cons_zero, List.set_cons_succ]
      refine one_op 24 (by kernel_rfl) rfl (by rfl) (fun K hK => ?_)
      go_simp
      refine (C11.out _).mono ?_
      rintro e w24 ⟨rfl, hw24⟩
      have HB24 : Hid (Below w9.heap.size w9 w24) := Lib.hid (hw24 ▸ HB23.out)
      clear hw24
      refine hK _ _ (HS.out _ HB24.out).2.2.2.2.2.2.2 ?_
      try simp only [Act.put, List.setIfInBounds_toArray, List.set_cons_zero, List.set_cons_succ]
      refine take_op (i := 25) (v := _) rfl (by kernel_rfl) (by kernel_rfl) (by kernel_rfl) (fun _ _ _ h => h) (Or.inl ⟨by rfl, (by intro w hSw; (try dsimp only at hSw); go_simp; try with_reducible rfl)⟩) (HS.out _ HB24.out).2.2.2.2.2.2.2 ?_
      try simp only [Act.put, List.setIfInBounds_toArray, List.set_cons_zero, List.set_cons_succ]
      refine take_op (i := 26) (v := _) rfl (by kernel_rfl) (by kernel_rfl) (by kernel_rfl) (fun _ _ _ h => h) (Or.inl ⟨by rfl, (by intro w hSw; (try dsimp only at hSw); go_simp; try with_reducible rfl)⟩) (HS.out _ HB24.out).2.2.2.2.2.2.2 ?_
      try simp only [Act.put, List.setIfInBounds_toArray, List.set_cons_zero, List.set_cons_succ]
      refine take_op (i := 27) (v := _) rfl (by kernel_rfl) (by kernel_rfl) (by kernel_rfl) (fun _ _ _ h => h) (Or.inl ⟨by rfl, (by intro w hSw; (try dsimp only at hSw); go_simp; try with_reducible rfl)⟩) (HS.out _ HB24.out).2.2.2.2.2.2.2 ?_
      try simp only [Act.put, List.setIfInBounds_toArray, List.set_cons_zero, List.set_cons_succ]
      refine take_op (i := 28) (v := _) rfl (by kernel_rfl) (by kernel_rfl) (by kernel_rfl) (fun _ _ _ h => h) (Or.inl ⟨by rfl, (by intro w hSw; (try dsimp only at hSw); go_simp; try with_reducible rfl)⟩) (HS.out _ HB24.out).2.2.2.2.2.2.2 ?_
      try simp only [Act.put, List.setIfInBounds_toArray, List.set_cons_zero, List.set_cons_succ]
      refine take_op (i := 32) (v := _) rfl (by kernel_rfl) (by kernel_rfl) (by kernel_rfl) (fun _ _ _ h => h) (Or.inl ⟨by rfl, (by intro w hSw; (try dsimp only at hSw); go_simp; try with_reducible rfl)⟩) (HS.out _ HB24.out).2.2.2.2.2.2.2 ?_
      try simp only [Act.put, List.setIfInBounds_toArray, List.set_cons_zero, List.set_cons_succ]
      refine take_op (i := 33) (v := _) rfl (by kernel_rfl) (by kernel_rfl) (by kernel_rfl) (fun _ _ _ h => h) (Or.inl ⟨by rfl, (by intro w hSw; (try dsimp only at hSw); go_simp; try with_reducible rfl)⟩) (HS.out _ HB24.out).2.2.2.2.2.2.2 ?_
      try simp only [Act.put, List.setIfInBounds_toArray, List.set_cons_zero, List.set_cons_succ]
      refine one_op 29 (by kernel_rfl) rfl (by rfl) (fun K hK => ?_)
      go_simp
      refine (pidP_any k _).mono ?_
      rintro e w25 ⟨rfl, hb25⟩
      have HB25 : Hid (Below w9.heap.size w9 w25) := Lib.hid (step_below (HB24.out) (Nat.le_refl _) hb25)
      refine hK _ _ (HS.out _ HB25.out).2.2.2.2.2.2.2 ?_
      try simp only [Act.put, List.setIfInBounds_toArray, List.set_cons_zero, List.set_cons_succ]
      refine one_op 30 (by kernel_rfl) rfl (by rfl) (fun K hK => ?_)
      go_simp
      refine (C10.out _).mono ?_
      rintro e w26 ⟨rfl, hb26⟩
      have HB26 : Hid (Below w9.heap.size w9 w26) := Lib.hid (step_below (HB25.out) (Nat.le_refl _) hb26)
      refine hK _ _ (HS.out _ HB26.out).2.2.2.2.2.2.2 ?_
      try simp only [Act.put, List.setIfInBounds_toArray, List.set_cons_zero, List.set_cons_succ]
      refine take_op (i := 31) (v := _) rfl (by kernel_rfl) (by kernel_rfl) (by kernel_rfl) (fun _ _ _ h => h) (Or.inl ⟨by rfl, (by intro w hSw; (try dsimp only at hSw); go_simp; try with_reducible rfl)⟩) (HS.out _ HB26.out).2.2.2.2.2.2.2 ?_
      try simp only [Act.put, List.setIfInBounds_toArray, List.set_cons_zero, List.set_cons_succ]
      refine take_op (i := 34) (v := _) rfl (by kernel_rfl) (by kernel_rfl) (by kernel_rfl) (fun _ _ _ h => h) (Or.inl ⟨by rfl, (by intro w hSw; (try dsimp only at hSw); go_simp; try with_reducible rfl)⟩) (HS.out _ HB26.out).2.2.2.2.2.2.2 ?_
      try simp only [Act.put, List.setIfInBounds_toArray, List.set_cons_zero, List.set_cons_succ]
      refine take_op (i := 35) (v := _) rfl (by kernel_rfl) (by kernel_rfl) (by kernel_rfl) (fun _ _ _ h => h) (Or.inl ⟨by rfl, (by intro w hSw; (try dsimp only at hSw); go_simp; try with_reducible rfl)⟩) (HS.out _ HB26.out).2.2.2.2.2.2.2 ?_
      try simp only [Act.put, List.setIfInBounds_toArray, List.set_cons_zero, List.set_cons_succ]
      refine take_op (i := 36) (v := _) rfl (by kernel_rfl) (by kernel_rfl) (by kernel_rfl) (fun _ _ _ h => h) (Or.inl ⟨by rfl, (by intro w hSw; (try dsimp only at hSw); go_simp; try with_reducible rfl)⟩) (HS.out _ HB26.out).2.2.2.2.2.2.2 ?_
      try simp only [Act.put, List.setIfInBounds_toArray, List.set_cons_zero, List.set_cons_succ]
      refine one_op 37 (by kernel_rfl) rfl (by rfl) (fun K hK => ?_)
      go_simp
      refine (awake_any _).mono ?_
      rintro e w27 ⟨rfl, hb27⟩
      have HB27 : Hid (Below w9.heap.size w9 w27) := Lib.hid (step_below (HB26.out) (Nat.le_refl _) hb27)
      refine hK _ _ (HS.out _ HB27.out).2.2.2.2.2.2.2 ?_
      try simp only [Act.put, List.setIfInBounds_toArray, List.set_cons_zero, List.set_cons_succ]
      refine take_op (i := 38) (v := _) rfl (by kernel_rfl) (by kernel_rfl) (by kernel_rfl) (fun _ _ _ h => h) (Or.inl ⟨by rfl, (by intro w hSw; (try dsimp only at hSw); go_simp; try with_reducible rfl)⟩) (HS.out _ HB27.out).2.2.2.2.2.2.2 ?_
      try simp only [Act.put, List.setIfInBounds_toArray, List.set_cons_zero, List.set_cons_succ]
      refine take_op (i := 39) (v := _) rfl (by kernel_rfl) (by kernel_rfl) (by kernel_rfl) (fun _ _ _ h => h) (Or.inl ⟨by rfl, (by intro w hSw; (try dsimp only at hSw); go_simp; try with_reducible rfl)⟩) (HS.out _ HB27.out).2.2.2.2.2.2.2 ?_
      try simp only [Act.put, List.setIfInBounds_toArray, List.set_cons_zero, List.set_cons_succ]
      refine wpAnyH_done (by kernel_rfl) ?_ _
      go_wp2
      go_ret
      exact ⟨rfl, HB.out.trans ((HB4.out.mono hbs).trans ((HB49.out.mono (Nat.le_trans hbs HB4.out.size)).trans (HB27.out.mono (Nat.le_trans hbs (Nat.le_trans HB4.out.size hz9)))))⟩
end Go.Proofs.YtpgnkfobgjplmaaGreat
