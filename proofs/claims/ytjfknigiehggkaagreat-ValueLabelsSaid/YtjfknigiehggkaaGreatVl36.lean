/- The walk of ValueLabels: labels put on at the root and taken off everywhere, by the program and by the document. -/
import Derived.Test.YtjfknigiehggkaaGreatVl02
import Derived.Test.YtjfknigiehggkaaGreatVl13
import Derived.Test.YtjfknigiehggkaaGreatVl18
import Derived.Test.YtjfknigiehggkaaGreatVl20
import Derived.Test.YtjfknigiehggkaaGreatVl26
import Derived.Test.YtjfknigiehggkaaGreatVl32
import Derived.Test.YtjfknigiehggkaaGreatVl33
import Derived.Test.YtjfknigiehggkaaGreatVl34
import Derived.Test.YtjfknigiehggkaaGreatVl35
namespace Go.Proofs.YtjfknigiehggkaaGreat
open Go Go.RowKit
set_option maxRecDepth 100000 in
set_option maxHeartbeats 12800000 in
theorem labels_law (hD : Hid DrawnOk) (A : Option Addr) (n c : Nat) (NA : Option Addr) (m nc : Nat) (ss : List Strg) (w : World) (hR : RowP w w.heap.size 1 (.slice A n c) n (fun _ cs => ∃ x, cs = [.int .i64 x] ∧ (Lit.int .i64 x).wf = true)) (hN : NmS w w.heap.size NA m ss) :
    Calls Tryz.prog 7 #[.slice A n c, .slice NA m nc] w fun e w' => e = .returned (.bool true) ∧ Below w.heap.size w w' := by
  by_cases h80 : 80 < n
  · have q1 : decide ((80 : Int) < (n : Int)) = true := by rw [decide_eq_true_eq]; omega
    clear h80 hR hD hN
    go_enter Tryz.func7, Tryz.ntmps7
    go_wp2_with (go_at_call 9; refine (awake_any w).mono ?_; rintro e w1 ⟨rfl, hb1⟩; refine Hid.out ?_)
    refine Lib.hid ?_
    go_wp2
    go_ret
    exact ⟨rfl, hb1⟩
  have q1 : decide ((80 : Int) < (n : Int)) = false := by simp; omega
  by_cases h8 : 8 < m
  · have q2 : decide ((8 : Int) < (m : Int)) = true := by rw [decide_eq_true_eq]; omega
    clear h80 h8 hR hD hN
    go_enter Tryz.func7, Tryz.ntmps7
    go_wp2_with (go_at_call 9; refine (awake_any w).mono ?_; rintro e w1 ⟨rfl, hb1⟩; refine Hid.out ?_)
    refine Lib.hid ?_
    go_wp2
    go_ret
    exact ⟨rfl, hb1⟩
  have q2 : decide ((8 : Int) < (m : Int)) = false := by simp; omega
  have HN := Lib.hid hN
  have HH := Lib.hid (show m ≤ 8 by omega)
  have hvc := hD.out A n c w hR (by unfold maxLen; omega)
  clear hR h80 h8 hN
  go_enter Tryz.func7, Tryz.ntmps7
  go_wp2_with (go_at_call 10; refine hvc.mono ?_; rintro e w1 ⟨v, cs, rfl, hvb, hok, hsm, hb1⟩; refine Hid.out ?_)
  refine Lib.hid ?_
  clear hvc q1 q2
  obtain ⟨a, i, s, B1, n1, d1, B2, n2, d2, B3, n3, d3, B4, n4, d4, rfl⟩ := hvb.form7
  have HOK := Lib.hid (And.intro hok hsm)
  obtain ⟨W1, hW1⟩ : ∃ W1, W1 = w1.alloc (.cells #[.int .i64 a, .int .i64 i, .string s, .slice B1 n1 d1, .slice B2 n2 d2, .slice B3 n3 d3, .slice B4 n4 d4] 27) := ⟨_, rfl⟩
  have hb11 : Below w1.heap.size w1 W1 := by rw [hW1]; exact (Below.refl _ _).alloc (Nat.le_refl _) _
  have k5 : W1.heap[w1.heap.size]? = some (.cells #[.int .i64 a, .int .i64 i, .string s, .slice B1 n1 d1, .slice B2 n2 d2, .slice B3 n3 d3, .slice B4 n4 d4] 27 (0, 0)) := by rw [hW1]; exact heap_alloc_new w1 _
  have hz11 : w1.heap.size < W1.heap.size := by rw [hW1]; simp
  have hv1 : VS 4 W1 W1.heap.size v [.int .i64 a, .int .i64 i, .string s, .slice B1 n1 d1, .slice B2 n2 d2, .slice B3 n3 d3, .slice B4 n4 d4] := VS.up hb11.size (Nat.le_refl _) (VS.on hb11 (VB.sub (fun b hb => hb.2) (Nat.le_refl _) hvb))
  have hbw1 : Below w.heap.size w W1 := hb1.trans (hb11.mono hb1.size)
  have hwl := withLP_any 4 v _ NA m nc ss W1 hv1 hsm ((HN.out.below hbw1).mono hbw1.size) (by have := HH.out; omega)
  have HK5 := Lib.hid k5
  have HV1 := Lib.hid hv1
  have HB1 := Lib.hid (And.intro hbw1 hz11)
  clear hvb hok hsm hb1 hb11 hv1 hbw1 k5 hz11
  go_wp2_with fail
  rw [← hW1]
  clear hW1
  generalize w1.heap.size = b5 at *
  refine hwl.mono ?_
  rintro e w2 ⟨cs2, rfl, hvw, hb2⟩
  clear hwl
  obtain ⟨a', i', s', B1', n1', d1', B2', n2', d2', B3', n3', d3', B4', n4', d4', rfl⟩ := hvw.form7
  obtain ⟨W2, hW2⟩ : ∃ W2, W2 = w2.alloc (.cells #[.int .i64 a', .int .i64 i', .string s', .slice B1' n1' d1', .slice B2' n2' d2', .slice B3' n3' d3', .slice B4' n4' d4'] 27) := ⟨_, rfl⟩
  have hb22 : Below w2.heap.size w2 W2 := by rw [hW2]; exact (Below.refl _ _).alloc (Nat.le_refl _) _
  have k6 : W2.heap[w2.heap.size]? = some (.cells #[.int .i64 a', .int .i64 i', .string s', .slice B1' n1' d1', .slice B2' n2' d2', .slice B3' n3' d3', .slice B4' n4' d4'] 27 (0, 0)) := by rw [hW2]; exact heap_alloc_new w2 _
  have hz22 : w2.heap.size < W2.heap.size := by rw [hW2]; simp
  have hb12 : Below W1.heap.size W1 W2 := hb2.trans (hb22.mono hb2.size)
  have HK6 := Lib.hid k6
  have HV2 : Hid (VS 4 W2 W2.heap.size (withL (srt ss) v) [.int .i64 a', .int .i64 i', .string s', .slice B1' n1' d1', .slice B2' n2' d2', .slice B3' n3' d3', .slice B4' n4' d4']) := Lib.hid (VS.up hb22.size (Nat.le_refl _) (VS.on hb22 (VB.sub (fun b hb => hb.2) (Nat.le_refl _) hvw)))
  have HB2 := Lib.hid (And.intro hb12 hz22)
  clear hvw hb2 hb22 k6 hz22 hb12
  go_wp2_with fail
  rw [← hW2]
  clear hW2
  generalize w2.heap.size = b6 at *
  go_loopw [7, 8] (fun g i wr => ∃ j : Nat, i = .int .i64 j ∧ j ≤ m ∧ g = .bool ((ss.take j).all varB) ∧ wr = W2) (fun _ i _ => m - (intOf i).toNat)
  case atStart => exact ⟨0, rfl, Nat.zero_le _, by simp, rfl⟩
  case round =>
    obtain ⟨j, rfl, hj, rfl, rfl⟩ := hrel
    by_cases hjm : j < m
    · obtain ⟨bn, on, x, rfl, hbn, hx, hxl, hcx⟩ := HN.out.at hjm
      have hbw : Below w.heap.size w wr := HB1.out.1.trans (HB2.out.1.mono HB1.out.1.size)
      have x0 : wr.cell? ⟨bn, on + j, none⟩ = some (.string ⟨x.toArray⟩) := (hbw.cell (p := ⟨bn, _, none⟩) hbn).trans hcx
      have kn : (j : Int) < (m : Int) := by omega
      have kp : (0 : Int) ≤ (j : Int) := by omega
      have hw : IntKind.i64.wrap ((j : Int) + 1) = (j : Int) + 1 := IntWalk.i64_in _ (by have := HH.out; omega)
      have hiv := refIsVariable_any ⟨x.toArray⟩ wr (by simpa [ByteArray.size] using hxl)
      have HT : Hid ((ss.take (j + 1)).all varB = ((ss.take j).all varB && varB x)) := Lib.hid (by rw [← take_step hx, List.all_append]; simp)
      clear hbw hcx hx hbn hxl
      generalize hg : (ss.take j).all varB = g
      rw [hg] at HT
      clear hg
      cases g
      · clear hiv
        go_wp2_with fail
        go_roundw
        case rel => exact ⟨j + 1, by go_num, by omega, by rw [HT.out]; rfl, trivial⟩
        case measure => simp [intOf]; try omega
      · have hq : (⟨x.toArray⟩ : ByteArray).data.toList = x := rfl
        rw [hq] at hiv
        clear hq
        generalize varB x = y at hiv HT
        go_wp2_with (go_at_call 33; refine hiv.mono ?_; rintro e wq ⟨rfl, rfl⟩; refine Hid.out ?_)
        refine Lib.hid ?_
        clear hiv
        go_wp2_with fail
        go_roundw
        case rel => exact ⟨j + 1, by go_num, by omega, by rw [HT.out]; rfl, trivial⟩
        case measure => simp [intOf]; try omega
    · have kn : ¬ (j : Int) < (m : Int) := by omega
      have HG : Hid ((ss.take j).all varB = ss.all varB) := Lib.hid (by rw [List.take_of_length_le (by have := HN.out.1; omega)])
      generalize hg : (ss.take j).all varB = g at *
      clear hg
      have k5 : wr.heap[b5]? = some (.cells #[.int .i64 a, .int .i64 i, .string s, .slice B1 n1 d1, .slice B2 n2 d2, .slice B3 n3 d3, .slice B4 n4 d4] 27 (0, 0)) := (HB2.out.1.block b5 HB1.out.2).trans HK5.out
      obtain ⟨e0, e1, e2, e3, e4, e5, e6⟩ := cells7 k5
      have hv2 : VS 4 wr wr.heap.size v [.int .i64 a, .int .i64 i, .string s, .slice B1 n1 d1, .slice B2 n2 d2, .slice B3 n3 d3, .slice B4 n4 d4] := VS.up HB2.out.1.size (Nat.le_refl _) (VS.on HB2.out.1 HV1.out)
      have hun := unl_any 4 v _ wr hv2 HOK.out.2
      have HV22 := Lib.hid hv2
      have HK52 := Lib.hid k5
      clear hv2 k5 hjm hj
      go_wp2_with fail
      clear e0 e1 e2 e3 e4 e5 e6
      refine hun.mono ?_
      rintro e w3 ⟨cs3, rfl, hvu, hb3⟩
      clear hun
      obtain ⟨a'', i'', s'', B1'', n1'', d1'', B2'', n2'', d2'', B3'', n3'', d3'', B4'', n4'', d4'', rfl⟩ := hvu.form7
      obtain ⟨W3, hW3⟩ : ∃ W3, W3 = w3.alloc (.cells #[.int .i64 a'', .int .i64 i'', .string s'', .slice B1'' n1'' d1'', .slice B2'' n2'' d2'', .slice B3'' n3'' d3'', .slice B4'' n4'' d4''] 27) := ⟨_, rfl⟩
      have hb33 : Below w3.heap.size w3 W3 := by rw [hW3]; exact (Below.refl _ _).alloc (Nat.le_refl _) _
      have k9 : W3.heap[w3.heap.size]? = some (.cells #[.int .i64 a'', .int .i64 i'', .string s'', .slice B1'' n1'' d1'', .slice B2'' n2'' d2'', .slice B3'' n3'' d3'', .slice B4'' n4'' d4''] 27 (0, 0)) := by rw [hW3]; exact heap_alloc_new w3 _
      have hz33 : w3.heap.size < W3.heap.size := by rw [hW3]; simp
      have hb23 : Below wr.heap.size wr W3 := hb3.trans (hb33.mono hb3.size)
      have HBW : Hid (Below w.heap.size w W3) := Lib.hid (HB1.out.1.trans ((HB2.out.1.trans (hb23.mono HB2.out.1.size)).mono HB1.out.1.size))
      have HVu : Hid (∀ V, Below W3.heap.size W3 V → VS 4 V V.heap.size (unl v) [.int .i64 a'', .int .i64 i'', .string s'', .slice B1'' n1'' d1'', .slice B2'' n2'' d2'', .slice B3'' n3'' d3'', .slice B4'' n4'' d4'']) := Lib.hid fun V hV => VS.up (Nat.le_trans hb33.size hV.size) (Nat.le_refl _) (VS.on (hb33.trans (hV.mono hb33.size)) (VB.sub (fun b hb => hb.2) (Nat.le_refl _) hvu))
      have HVv : Hid (∀ V, Below W3.heap.size W3 V → VS 4 V V.heap.size v [.int .i64 a, .int .i64 i, .string s, .slice B1 n1 d1, .slice B2 n2 d2, .slice B3 n3 d3, .slice B4 n4 d4]) := Lib.hid fun V hV => VS.up (Nat.le_trans hb23.size hV.size) (Nat.le_refl _) (VS.on (hb23.trans (hV.mono hb23.size)) HV22.out)
      have HVw : Hid (∀ V, Below W3.heap.size W3 V → VS 4 V V.heap.size (withL (srt ss) v) [.int .i64 a', .int .i64 i', .string s', .slice B1' n1' d1', .slice B2' n2' d2', .slice B3' n3' d3', .slice B4' n4' d4']) := Lib.hid fun V hV => VS.up (Nat.le_trans hb23.size hV.size) (Nat.le_refl _) (VS.on (hb23.trans (hV.mono hb23.size)) HV2.out)
      have HNm : Hid (∀ V, Below W3.heap.size W3 V → NmS V V.heap.size NA m ss) := Lib.hid fun V hV => (HN.out.below (HBW.out.trans (hV.mono HBW.out.size))).mono (Nat.le_trans HBW.out.size hV.size)
      have hb5 : b5 < wr.heap.size := Nat.lt_of_lt_of_le HB1.out.2 HB2.out.1.size
      have hb6 : b6 < wr.heap.size := HB2.out.2
      have HS : Hid (∀ V, Below W3.heap.size W3 V → V.cell? ⟨b5, 0, none⟩ = some (.int .i64 a) ∧ V.cell? ⟨b5, 1, none⟩ = some (.int .i64 i) ∧ V.cell? ⟨b5, 2, none⟩ = some (.string s) ∧ V.cell? ⟨b5, 3, none⟩ = some (.slice B1 n1 d1) ∧ V.cell? ⟨b5, 4, none⟩ = some (.slice B2 n2 d2) ∧ V.cell? ⟨b5, 5, none⟩ = some (.slice B3 n3 d3) ∧ V.cell? ⟨b5, 6, none⟩ = some (.slice B4 n4 d4) ∧ V.cell? ⟨b6, 0, none⟩ = some (.int .i64 a') ∧ V.cell? ⟨b6, 1, none⟩ = some (.int .i64 i') ∧ V.cell? ⟨b6, 2, none⟩ = some (.string s') ∧ V.cell? ⟨b6, 3, none⟩ = some (.slice B1' n1' d1') ∧ V.cell? ⟨b6, 4, none⟩ = some (.slice B2' n2' d2') ∧ V.cell? ⟨b6, 5, none⟩ = some (.slice B3' n3' d3') ∧ V.cell? ⟨b6, 6, none⟩ = some (.slice B4' n4' d4') ∧ V.cell? ⟨w3.heap.size, 0, none⟩ = some (.int .i64 a'') ∧ V.cell? ⟨w3.heap.size, 1, none⟩ = some (.int .i64 i'') ∧ V.cell? ⟨w3.heap.size, 2, none⟩ = some (.string s'') ∧ V.cell? ⟨w3.heap.size, 3, none⟩ = some (.slice B1'' n1'' d1'') ∧ V.cell? ⟨w3.heap.size, 4, none⟩ = some (.slice B2'' n2'' d2'') ∧ V.cell? ⟨w3.heap.size, 5, none⟩ = some (.slice B3'' n3'' d3'') ∧ V.cell? ⟨w3.heap.size, 6, none⟩ = some (.slice B4'' n4'' d4'')) := Lib.hid (by
        have hz := hb23.size
        intro V hV
        have h1 : V.heap[b5]? = _ := (hV.block b5 (by omega)).trans ((hb23.block b5 hb5).trans HK52.out)
        have h2 : V.heap[b6]? = _ := (hV.block b6 (by omega)).trans ((hb23.block b6 hb6).trans HK6.out)
        have h3 : V.heap[w3.heap.size]? = _ := (hV.block w3.heap.size hz33).trans k9
        exact ⟨(Lib.cell_of_heap h1 0).trans rfl, (Lib.cell_of_heap h1 1).trans rfl, (Lib.cell_of_heap h1 2).trans rfl, (Lib.cell_of_heap h1 3).trans rfl, (Lib.cell_of_heap h1 4).trans rfl, (Lib.cell_of_heap h1 5).trans rfl, (Lib.cell_of_heap h1 6).trans rfl, (Lib.cell_of_heap h2 0).trans rfl, (Lib.cell_of_heap h2 1).trans rfl, (Lib.cell_of_heap h2 2).trans rfl, (Lib.cell_of_heap h2 3).trans rfl, (Lib.cell_of_heap h2 4).trans rfl, (Lib.cell_of_heap h2 5).trans rfl, (Lib.cell_of_heap h2 6).trans rfl, (Lib.cell_of_heap h3 0).trans rfl, (Lib.cell_of_heap h3 1).trans rfl, (Lib.cell_of_heap h3 2).trans rfl, (Lib.cell_of_heap h3 3).trans rfl, (Lib.cell_of_heap h3 4).trans rfl, (Lib.cell_of_heap h3 5).trans rfl, (Lib.cell_of_heap h3 6).trans rfl⟩)
      have HLN : Hid (m ≤ 1000000) := Lib.hid (by have := HH.out; omega)
      have hsw : sml (withL (srt ss) v) := sml_withL HOK.out.2 (by have h1 := srt_len ss; have h2 := HN.out.1; have h3 := HH.out; omega)
      have C3 : Hid (∀ V, Below W3.heap.size W3 V → Calls Tryz.prog 35 #[.agg #[.int .i64 a, .int .i64 i, .string s, .slice B1 n1 d1, .slice B2 n2 d2, .slice B3 n3 d3, .slice B4 n4 d4], .slice NA m nc] V fun e w' => ∃ cs', e = .returned (.agg cs'.toArray) ∧ VS 4 w' w'.heap.size (withL (srt ss) v) cs' ∧ Below V.heap.size V w') := Lib.hid fun V hV => (refWithLabels_any 4 0 v _ NA m nc ss V (Nat.zero_le _) (VB.sub (fun b hb => ⟨Nat.zero_le _, hb⟩) (Nat.le_refl _) (HVv.out V hV)) (HNm.out V hV) HLN.out).mono fun e w' ⟨cs', h1, h2, h3⟩ => ⟨cs', h1, VB.sub (fun b hb => hb.2) (Nat.le_refl _) h2, h3⟩
      have C8 : Hid (∀ V, Below W3.heap.size W3 V → Calls Tryz.prog 11 #[.agg #[.int .i64 a', .int .i64 i', .string s', .slice B1' n1' d1', .slice B2' n2' d2', .slice B3' n3' d3', .slice B4' n4' d4']] V fun e w' => e = .returned (.int .i64 (if g then 0 else 1)) ∧ Below V.heap.size V w') := Lib.hid fun V hV => by
        have h := validate_any 4 _ _ V (HVw.out V hV)
        rw [okV_srtL HOK.out.1, ← HG.out] at h
        exact h
      have C15 : Hid (∀ V, Below W3.heap.size W3 V → Calls Tryz.prog 11 #[.agg #[.int .i64 a'', .int .i64 i'', .string s'', .slice B1'' n1'' d1'', .slice B2'' n2'' d2'', .slice B3'' n3'' d3'', .slice B4'' n4'' d4'']] V fun e w' => e = .returned (.int .i64 0) ∧ Below V.heap.size V w') := Lib.hid fun V hV => by
        have h := validate_any 4 _ _ V (HVu.out V hV)
        rw [okV_unl v HOK.out.1, if_pos rfl] at h
        exact h
      have D2 : Hid (∀ V, Below W3.heap.size W3 V → Calls Tryz.prog 36 #[.agg #[.int .i64 a, .int .i64 i, .string s, .slice B1 n1 d1, .slice B2 n2 d2, .slice B3 n3 d3, .slice B4 n4 d4]] V fun e w' => ∃ cs', e = .returned (.agg cs'.toArray) ∧ VS 4 w' w'.heap.size (unl v) cs' ∧ Below V.heap.size V w') := Lib.hid fun V hV => (refUnl_any 4 v _ V.heap.size V (Nat.le_refl _) (HVv.out V hV) HOK.out.2).mono fun e w' ⟨cs', h1, h2, h3⟩ => ⟨cs', h1, VB.sub (fun b hb => by have := h3.size; rcases hb with hb | hb; (omega); (exact hb.2)) (Nat.le_refl _) h2, h3⟩
      have D6 : Hid (∀ V, Below W3.heap.size W3 V → Calls Tryz.prog 34 #[.agg #[.int .i64 a', .int .i64 i', .string s', .slice B1' n1' d1', .slice B2' n2' d2', .slice B3' n3' d3', .slice B4' n4' d4']] V fun e w' => ∃ cs', e = .returned (.agg cs'.toArray) ∧ VS 4 w' w'.heap.size (unl v) cs' ∧ Below V.heap.size V w') := Lib.hid fun V hV => (unl_any 4 _ _ V (HVw.out V hV) hsw).mono fun e w' ⟨cs', h1, h2, h3⟩ => ⟨cs', h1, by rw [unl_withL] at h2; exact VB.sub (fun b hb => hb.2) (Nat.le_refl _) h2, h3⟩
      have D12 : Hid (∀ V, Below W3.heap.size W3 V → Calls Tryz.prog 34 #[.agg #[.int .i64 a'', .int .i64 i'', .string s'', .slice B1'' n1'' d1'', .slice B2'' n2'' d2'', .slice B3'' n3'' d3'', .slice B4'' n4'' d4'']] V fun e w' => ∃ cs', e = .returned (.agg cs'.toArray) ∧ VS 4 w' w'.heap.size (unl v) cs' ∧ Below V.heap.size V w') := Lib.hid fun V hV => (unl_any 4 _ _ V (HVu.out V hV) (sml_unl v HOK.out.2)).mono fun e w' ⟨cs', h1, h2, h3⟩ => ⟨cs', h1, by rw [unl_idem] at h2; exact VB.sub (fun b hb => hb.2) (Nat.le_refl _) h2, h3⟩
      clear hvu hb3 hb33 k9 hz33 hb23 hb5 hb6 hsw
      go_wp2_with fail
      rw [← hW3]
      clear hW3
      generalize w3.heap.size = b9 at *
      clear HV1 HV2 HV22 HK5 HK6 HK52 HB1 HB2
      cases g
      · have C8' : Hid (∀ V, Below W3.heap.size W3 V → Calls Tryz.prog 11 #[.agg #[.int .i64 a', .int .i64 i', .string s', .slice B1' n1' d1', .slice B2' n2' d2', .slice B3' n3' d3', .slice B4' n4' d4']] V fun e w' => e = .returned (.int .i64 1) ∧ Below V.heap.size V w') := C8
        clear C8
        have hB0 : Below W3.heap.size W3 W3.drew := (Below.refl _ _).drew
        refine wp_region_held_drew (S := fun V => V.cell? ⟨b5, 0, none⟩ = some (.int .i64 a) ∧ V.cell? ⟨b5, 1, none⟩ = some (.int .i64 i) ∧ V.cell? ⟨b5, 2, none⟩ = some (.string s) ∧ V.cell? ⟨b5, 3, none⟩ = some (.slice B1 n1 d1) ∧ V.cell? ⟨b5, 4, none⟩ = some (.slice B2 n2 d2) ∧ V.cell? ⟨b5, 5, none⟩ = some (.slice B3 n3 d3) ∧ V.cell? ⟨b5, 6, none⟩ = some (.slice B4 n4 d4) ∧ V.cell? ⟨b6, 0, none⟩ = some (.int .i64 a') ∧ V.cell? ⟨b6, 1, none⟩ = some (.int .i64 i') ∧ V.cell? ⟨b6, 2, none⟩ = some (.string s') ∧ V.cell? ⟨b6, 3, none⟩ = some (.slice B1' n1' d1') ∧ V.cell? ⟨b6, 4, none⟩ = some (.slice B2' n2' d2') ∧ V.cell? ⟨b6, 5, none⟩ = some (.slice B3' n3' d3') ∧ V.cell? ⟨b6, 6, none⟩ = some (.slice B4' n4' d4') ∧ V.cell? ⟨b9, 0, none⟩ = some (.int .i64 a'') ∧ V.cell? ⟨b9, 1, none⟩ = some (.int .i64 i'') ∧ V.cell? ⟨b9, 2, none⟩ = some (.string s'') ∧ V.cell? ⟨b9, 3, none⟩ = some (.slice B1'' n1'' d1'') ∧ V.cell? ⟨b9, 4, none⟩ = some (.slice B2'' n2'' d2'') ∧ V.cell? ⟨b9, 5, none⟩ = some (.slice B3'' n3'' d3'') ∧ V.cell? ⟨b9, 6, none⟩ = some (.slice B4'' n4'' d4'')) (by kernel_rfl) (HS.out _ hB0) (fun _ => ?_)
        refine tk 0 (HS.out _ hB0) ?_
        try simp only [Act.put, pA, pB, pC]
        refine tk 1 (HS.out _ hB0) ?_
        try simp only [Act.put, pA, pB, pC]
        refine tk 2 (HS.out _ hB0) ?_
        try simp only [Act.put, pA, pB, pC]
        refine one_op 3 (by kernel_rfl) rfl (by rfl) (fun K hK => ?_)
        go_simp
        refine (C3.out _ hB0).mono ?_
        rintro e v1 ⟨cs1, rfl, hv1, hb1⟩
        have hB1 : Below W3.heap.size W3 v1 := hB0.trans (hb1.mono hB0.size)
        obtain ⟨a_1, i_1, s_1, B1_1, n1_1, d1_1, B2_1, n2_1, d2_1, B3_1, n3_1, d3_1, B4_1, n4_1, d4_1, rfl⟩ := hv1.form7
        refine hK _ _ (HS.out _ hB1) ?_
        try simp only [Act.put, pA, pB, pC]
        refine one_op 4 (by kernel_rfl) rfl (by rfl) (fun K hK => ?_)
        go_simp
        refine (refEqual_self 4 (withL (srt ss) v) _ _ _ (HVw.out _ hB1) hv1).mono ?_
        rintro e v2 ⟨rfl, hb2⟩
        have hB2 : Below W3.heap.size W3 v2 := hB1.trans (hb2.mono hB1.size)
        refine hK _ _ (HS.out _ hB2) ?_
        try simp only [Act.put, pA, pB, pC]
        refine tk 5 (HS.out _ hB2) ?_
        try simp only [Act.put, pA, pB, pC]
        refine tk 6 (HS.out _ hB2) ?_
        try simp only [Act.put, pA, pB, pC]
        refine tk 7 (HS.out _ hB2) ?_
        try simp only [Act.put, pA, pB, pC]
        refine tk 10 (HS.out _ hB2) ?_
        try simp only [Act.put, pA, pB, pC]
        refine one_op 8 (by kernel_rfl) rfl (by rfl) (fun K hK => ?_)
        go_simp
        refine (C8'.out _ hB2).mono ?_
        rintro e v3 ⟨rfl, hb3⟩
        have hB3 : Below W3.heap.size W3 v3 := hB2.trans (hb3.mono hB2.size)
        refine hK _ _ (HS.out _ hB3) ?_
        try simp only [Act.put, pA, pB, pC]
        refine tk 9 (HS.out _ hB3) ?_
        try simp only [Act.put, pA, pB, pC]
        refine tk 11 (HS.out _ hB3) ?_
        try simp only [Act.put, pA, pB, pC]
        refine tk 12 (HS.out _ hB3) ?_
        try simp only [Act.put, pA, pB, pC]
        refine tk 13 (HS.out _ hB3) ?_
        try simp only [Act.put, pA, pB, pC]
        refine tk 14 (HS.out _ hB3) ?_
        try simp only [Act.put, pA, pB, pC]
        refine one_op 15 (by kernel_rfl) rfl (by rfl) (fun K hK => ?_)
        go_simp
        refine (C15.out _ hB3).mono ?_
        rintro e v4 ⟨rfl, hb4⟩
        have hB4 : Below W3.heap.size W3 v4 := hB3.trans (hb4.mono hB3.size)
        refine hK _ _ (HS.out _ hB4) ?_
        try simp only [Act.put, pA, pB, pC]
        refine tk 16 (HS.out _ hB4) ?_
        try simp only [Act.put, pA, pB, pC]
        refine tk 17 (HS.out _ hB4) ?_
        try simp only [Act.put, pA, pB, pC]
        refine wpAnyH_done (by kernel_rfl) ?_ _
        go_wp2_with fail
        have hB5 : Below W3.heap.size W3 v4.drew := hB4.drew
        refine wp_region_held_drew (S := fun V => V.cell? ⟨b5, 0, none⟩ = some (.int .i64 a) ∧ V.cell? ⟨b5, 1, none⟩ = some (.int .i64 i) ∧ V.cell? ⟨b5, 2, none⟩ = some (.string s) ∧ V.cell? ⟨b5, 3, none⟩ = some (.slice B1 n1 d1) ∧ V.cell? ⟨b5, 4, none⟩ = some (.slice B2 n2 d2) ∧ V.cell? ⟨b5, 5, none⟩ = some (.slice B3 n3 d3) ∧ V.cell? ⟨b5, 6, none⟩ = some (.slice B4 n4 d4) ∧ V.cell? ⟨b6, 0, none⟩ = some (.int .i64 a') ∧ V.cell? ⟨b6, 1, none⟩ = some (.int .i64 i') ∧ V.cell? ⟨b6, 2, none⟩ = some (.string s') ∧ V.cell? ⟨b6, 3, none⟩ = some (.slice B1' n1' d1') ∧ V.cell? ⟨b6, 4, none⟩ = some (.slice B2' n2' d2') ∧ V.cell? ⟨b6, 5, none⟩ = some (.slice B3' n3' d3') ∧ V.cell? ⟨b6, 6, none⟩ = some (.slice B4' n4' d4') ∧ V.cell? ⟨b9, 0, none⟩ = some (.int .i64 a'') ∧ V.cell? ⟨b9, 1, none⟩ = some (.int .i64 i'') ∧ V.cell? ⟨b9, 2, none⟩ = some (.string s'') ∧ V.cell? ⟨b9, 3, none⟩ = some (.slice B1'' n1'' d1'') ∧ V.cell? ⟨b9, 4, none⟩ = some (.slice B2'' n2'' d2'') ∧ V.cell? ⟨b9, 5, none⟩ = some (.slice B3'' n3'' d3'') ∧ V.cell? ⟨b9, 6, none⟩ = some (.slice B4'' n4'' d4'')) (by kernel_rfl) (HS.out _ hB5) (fun _ => ?_)
        refine tk 0 (HS.out _ hB5) ?_
        try simp only [Act.put, pA, pB, pC]
        refine tk 1 (HS.out _ hB5) ?_
        try simp only [Act.put, pA, pB, pC]
        refine one_op 2 (by kernel_rfl) rfl (by rfl) (fun K hK => ?_)
        go_simp
        refine (D2.out _ hB5).mono ?_
        rintro e v6 ⟨cs6, rfl, hv6, hb6⟩
        have hB6 : Below W3.heap.size W3 v6 := hB5.trans (hb6.mono hB5.size)
        obtain ⟨a_6, i_6, s_6, B1_6, n1_6, d1_6, B2_6, n2_6, d2_6, B3_6, n3_6, d3_6, B4_6, n4_6, d4_6, rfl⟩ := hv6.form7
        refine hK _ _ (HS.out _ hB6) ?_
        try simp only [Act.put, pA, pB, pC]
        refine one_op 3 (by kernel_rfl) rfl (by rfl) (fun K hK => ?_)
        go_simp
        refine (refEqual_self 4 (unl v) _ _ _ (HVu.out _ hB6) hv6).mono ?_
        rintro e v7 ⟨rfl, hb7⟩
        have hB7 : Below W3.heap.size W3 v7 := hB6.trans (hb7.mono hB6.size)
        refine hK _ _ (HS.out _ hB7) ?_
        try simp only [Act.put, pA, pB, pC]
        refine tk 4 (HS.out _ hB7) ?_
        try simp only [Act.put, pA, pB, pC]
        refine tk 5 (HS.out _ hB7) ?_
        try simp only [Act.put, pA, pB, pC]
        refine tk 7 (HS.out _ hB7) ?_
        try simp only [Act.put, pA, pB, pC]
        refine one_op 6 (by kernel_rfl) rfl (by rfl) (fun K hK => ?_)
        go_simp
        refine (D6.out _ hB7).mono ?_
        rintro e v8 ⟨cs8, rfl, hv8, hb8⟩
        have hB8 : Below W3.heap.size W3 v8 := hB7.trans (hb8.mono hB7.size)
        obtain ⟨a_8, i_8, s_8, B1_8, n1_8, d1_8, B2_8, n2_8, d2_8, B3_8, n3_8, d3_8, B4_8, n4_8, d4_8, rfl⟩ := hv8.form7
        refine hK _ _ (HS.out _ hB8) ?_
        try simp only [Act.put, pA, pB, pC]
        refine one_op 8 (by kernel_rfl) rfl (by rfl) (fun K hK => ?_)
        go_simp
        refine (refEqual_self 4 (unl v) _ _ _ hv8 (HVu.out _ hB8)).mono ?_
        rintro e v9 ⟨rfl, hb9⟩
        have hB9 : Below W3.heap.size W3 v9 := hB8.trans (hb9.mono hB8.size)
        refine hK _ _ (HS.out _ hB9) ?_
        try simp only [Act.put, pA, pB, pC]
        refine tk 9 (HS.out _ hB9) ?_
        try simp only [Act.put, pA, pB, pC]
        refine tk 10 (HS.out _ hB9) ?_
        try simp only [Act.put, pA, pB, pC]
        refine tk 11 (HS.out _ hB9) ?_
        try simp only [Act.put, pA, pB, pC]
        refine tk 13 (HS.out _ hB9) ?_
        try simp only [Act.put, pA, pB, pC]
        refine one_op 12 (by kernel_rfl) rfl (by rfl) (fun K hK => ?_)
        go_simp
        refine (D12.out _ hB9).mono ?_
        rintro e v10 ⟨cs10, rfl, hv10, hb10⟩
        have hB10 : Below W3.heap.size W3 v10 := hB9.trans (hb10.mono hB9.size)
        obtain ⟨a_10, i_10, s_10, B1_10, n1_10, d1_10, B2_10, n2_10, d2_10, B3_10, n3_10, d3_10, B4_10, n4_10, d4_10, rfl⟩ := hv10.form7
        refine hK _ _ (HS.out _ hB10) ?_
        try simp only [Act.put, pA, pB, pC]
        refine one_op 14 (by kernel_rfl) rfl (by rfl) (fun K hK => ?_)
        go_simp
        refine (refEqual_self 4 (unl v) _ _ _ hv10 (HVu.out _ hB10)).mono ?_
        rintro e v11 ⟨rfl, hb11⟩
        have hB11 : Below W3.heap.size W3 v11 := hB10.trans (hb11.mono hB10.size)
        refine hK _ _ (HS.out _ hB11) ?_
        try simp only [Act.put, pA, pB, pC]
        refine tk 15 (HS.out _ hB11) ?_
        try simp only [Act.put, pA, pB, pC]
        refine tk 16 (HS.out _ hB11) ?_
        try simp only [Act.put, pA, pB, pC]
        refine one_op 17 (by kernel_rfl) rfl (by rfl) (fun K hK => ?_)
        go_simp
        refine (awake_any _).mono ?_
        rintro e v12 ⟨rfl, hb12⟩
        have hB12 : Below W3.heap.size W3 v12 := hB11.trans (hb12.mono hB11.size)
        refine hK _ _ (HS.out _ hB12) ?_
        try simp only [Act.put, pA, pB, pC]
        refine tk 18 (HS.out _ hB12) ?_
        try simp only [Act.put, pA, pB, pC]
        refine tk 19 (HS.out _ hB12) ?_
        try simp only [Act.put, pA, pB, pC]
        refine wpAnyH_done (by kernel_rfl) ?_ _
        go_wp2
        go_ret
        exact ⟨rfl, HBW.out.trans (hB12.mono HBW.out.size)⟩
      · have C8' : Hid (∀ V, Below W3.heap.size W3 V → Calls Tryz.prog 11 #[.agg #[.int .i64 a', .int .i64 i', .string s', .slice B1' n1' d1', .slice B2' n2' d2', .slice B3' n3' d3', .slice B4' n4' d4']] V fun e w' => e = .returned (.int .i64 0) ∧ Below V.heap.size V w') := C8
        clear C8
        have hB0 : Below W3.heap.size W3 W3.drew := (Below.refl _ _).drew
        refine wp_region_held_drew (S := fun V => V.cell? ⟨b5, 0, none⟩ = some (.int .i64 a) ∧ V.cell? ⟨b5, 1, none⟩ = some (.int .i64 i) ∧ V.cell? ⟨b5, 2, none⟩ = some (.string s) ∧ V.cell? ⟨b5, 3, none⟩ = some (.slice B1 n1 d1) ∧ V.cell? ⟨b5, 4, none⟩ = some (.slice B2 n2 d2) ∧ V.cell? ⟨b5, 5, none⟩ = some (.slice B3 n3 d3) ∧ V.cell? ⟨b5, 6, none⟩ = some (.slice B4 n4 d4) ∧ V.cell? ⟨b6, 0, none⟩ = some (.int .i64 a') ∧ V.cell? ⟨b6, 1, none⟩ = some (.int .i64 i') ∧ V.cell? ⟨b6, 2, none⟩ = some (.string s') ∧ V.cell? ⟨b6, 3, none⟩ = some (.slice B1' n1' d1') ∧ V.cell? ⟨b6, 4, none⟩ = some (.slice B2' n2' d2') ∧ V.cell? ⟨b6, 5, none⟩ = some (.slice B3' n3' d3') ∧ V.cell? ⟨b6, 6, none⟩ = some (.slice B4' n4' d4') ∧ V.cell? ⟨b9, 0, none⟩ = some (.int .i64 a'') ∧ V.cell? ⟨b9, 1, none⟩ = some (.int .i64 i'') ∧ V.cell? ⟨b9, 2, none⟩ = some (.string s'') ∧ V.cell? ⟨b9, 3, none⟩ = some (.slice B1'' n1'' d1'') ∧ V.cell? ⟨b9, 4, none⟩ = some (.slice B2'' n2'' d2'') ∧ V.cell? ⟨b9, 5, none⟩ = some (.slice B3'' n3'' d3'') ∧ V.cell? ⟨b9, 6, none⟩ = some (.slice B4'' n4'' d4'')) (by kernel_rfl) (HS.out _ hB0) (fun _ => ?_)
        refine tk 0 (HS.out _ hB0) ?_
        try simp only [Act.put, pA, pB, pC]
        refine tk 1 (HS.out _ hB0) ?_
        try simp only [Act.put, pA, pB, pC]
        refine tk 2 (HS.out _ hB0) ?_
        try simp only [Act.put, pA, pB, pC]
        refine one_op 3 (by kernel_rfl) rfl (by rfl) (fun K hK => ?_)
        go_simp
        refine (C3.out _ hB0).mono ?_
        rintro e v1 ⟨cs1, rfl, hv1, hb1⟩
        have hB1 : Below W3.heap.size W3 v1 := hB0.trans (hb1.mono hB0.size)
        obtain ⟨a_1, i_1, s_1, B1_1, n1_1, d1_1, B2_1, n2_1, d2_1, B3_1, n3_1, d3_1, B4_1, n4_1, d4_1, rfl⟩ := hv1.form7
        refine hK _ _ (HS.out _ hB1) ?_
        try simp only [Act.put, pA, pB, pC]
        refine one_op 4 (by kernel_rfl) rfl (by rfl) (fun K hK => ?_)
        go_simp
        refine (refEqual_self 4 (withL (srt ss) v) _ _ _ (HVw.out _ hB1) hv1).mono ?_
        rintro e v2 ⟨rfl, hb2⟩
        have hB2 : Below W3.heap.size W3 v2 := hB1.trans (hb2.mono hB1.size)
        refine hK _ _ (HS.out _ hB2) ?_
        try simp only [Act.put, pA, pB, pC]
        refine tk 5 (HS.out _ hB2) ?_
        try simp only [Act.put, pA, pB, pC]
        refine tk 6 (HS.out _ hB2) ?_
        try simp only [Act.put, pA, pB, pC]
        refine tk 7 (HS.out _ hB2) ?_
        try simp only [Act.put, pA, pB, pC]
        refine tk 10 (HS.out _ hB2) ?_
        try simp only [Act.put, pA, pB, pC]
        refine one_op 8 (by kernel_rfl) rfl (by rfl) (fun K hK => ?_)
        go_simp
        refine (C8'.out _ hB2).mono ?_
        rintro e v3 ⟨rfl, hb3⟩
        have hB3 : Below W3.heap.size W3 v3 := hB2.trans (hb3.mono hB2.size)
        refine hK _ _ (HS.out _ hB3) ?_
        try simp only [Act.put, pA, pB, pC]
        refine tk 9 (HS.out _ hB3) ?_
        try simp only [Act.put, pA, pB, pC]
        refine tk 11 (HS.out _ hB3) ?_
        try simp only [Act.put, pA, pB, pC]
        refine tk 12 (HS.out _ hB3) ?_
        try simp only [Act.put, pA, pB, pC]
        refine tk 13 (HS.out _ hB3) ?_
        try simp only [Act.put, pA, pB, pC]
        refine tk 14 (HS.out _ hB3) ?_
        try simp only [Act.put, pA, pB, pC]
        refine one_op 15 (by kernel_rfl) rfl (by rfl) (fun K hK => ?_)
        go_simp
        refine (C15.out _ hB3).mono ?_
        rintro e v4 ⟨rfl, hb4⟩
        have hB4 : Below W3.heap.size W3 v4 := hB3.trans (hb4.mono hB3.size)
        refine hK _ _ (HS.out _ hB4) ?_
        try simp only [Act.put, pA, pB, pC]
        refine tk 16 (HS.out _ hB4) ?_
        try simp only [Act.put, pA, pB, pC]
        refine tk 17 (HS.out _ hB4) ?_
        try simp only [Act.put, pA, pB, pC]
        refine wpAnyH_done (by kernel_rfl) ?_ _
        go_wp2_with fail
        have hB5 : Below W3.heap.size W3 v4.drew := hB4.drew
        refine wp_region_held_drew (S := fun V => V.cell? ⟨b5, 0, none⟩ = some (.int .i64 a) ∧ V.cell? ⟨b5, 1, none⟩ = some (.int .i64 i) ∧ V.cell? ⟨b5, 2, none⟩ = some (.string s) ∧ V.cell? ⟨b5, 3, none⟩ = some (.slice B1 n1 d1) ∧ V.cell? ⟨b5, 4, none⟩ = some (.slice B2 n2 d2) ∧ V.cell? ⟨b5, 5, none⟩ = some (.slice B3 n3 d3) ∧ V.cell? ⟨b5, 6, none⟩ = some (.slice B4 n4 d4) ∧ V.cell? ⟨b6, 0, none⟩ = some (.int .i64 a') ∧ V.cell? ⟨b6, 1, none⟩ = some (.int .i64 i') ∧ V.cell? ⟨b6, 2, none⟩ = some (.string s') ∧ V.cell? ⟨b6, 3, none⟩ = some (.slice B1' n1' d1') ∧ V.cell? ⟨b6, 4, none⟩ = some (.slice B2' n2' d2') ∧ V.cell? ⟨b6, 5, none⟩ = some (.slice B3' n3' d3') ∧ V.cell? ⟨b6, 6, none⟩ = some (.slice B4' n4' d4') ∧ V.cell? ⟨b9, 0, none⟩ = some (.int .i64 a'') ∧ V.cell? ⟨b9, 1, none⟩ = some (.int .i64 i'') ∧ V.cell? ⟨b9, 2, none⟩ = some (.string s'') ∧ V.cell? ⟨b9, 3, none⟩ = some (.slice B1'' n1'' d1'') ∧ V.cell? ⟨b9, 4, none⟩ = some (.slice B2'' n2'' d2'') ∧ V.cell? ⟨b9, 5, none⟩ = some (.slice B3'' n3'' d3'') ∧ V.cell? ⟨b9, 6, none⟩ = some (.slice B4'' n4'' d4'')) (by kernel_rfl) (HS.out _ hB5) (fun _ => ?_)
        refine tk 0 (HS.out _ hB5) ?_
        try simp only [Act.put, pA, pB, pC]
        refine tk 1 (HS.out _ hB5) ?_
        try simp only [Act.put, pA, pB, pC]
        refine one_op 2 (by kernel_rfl) rfl (by rfl) (fun K hK => ?_)
        go_simp
        refine (D2.out _ hB5).mono ?_
        rintro e v6 ⟨cs6, rfl, hv6, hb6⟩
        have hB6 : Below W3.heap.size W3 v6 := hB5.trans (hb6.mono hB5.size)
        obtain ⟨a_6, i_6, s_6, B1_6, n1_6, d1_6, B2_6, n2_6, d2_6, B3_6, n3_6, d3_6, B4_6, n4_6, d4_6, rfl⟩ := hv6.form7
        refine hK _ _ (HS.out _ hB6) ?_
        try simp only [Act.put, pA, pB, pC]
        refine one_op 3 (by kernel_rfl) rfl (by rfl) (fun K hK => ?_)
        go_simp
        refine (refEqual_self 4 (unl v) _ _ _ (HVu.out _ hB6) hv6).mono ?_
        rintro e v7 ⟨rfl, hb7⟩
        have hB7 : Below W3.heap.size W3 v7 := hB6.trans (hb7.mono hB6.size)
        refine hK _ _ (HS.out _ hB7) ?_
        try simp only [Act.put, pA, pB, pC]
        refine tk 4 (HS.out _ hB7) ?_
        try simp only [Act.put, pA, pB, pC]
        refine tk 5 (HS.out _ hB7) ?_
        try simp only [Act.put, pA, pB, pC]
        refine tk 7 (HS.out _ hB7) ?_
        try simp only [Act.put, pA, pB, pC]
        refine one_op 6 (by kernel_rfl) rfl (by rfl) (fun K hK => ?_)
        go_simp
        refine (D6.out _ hB7).mono ?_
        rintro e v8 ⟨cs8, rfl, hv8, hb8⟩
        have hB8 : Below W3.heap.size W3 v8 := hB7.trans (hb8.mono hB7.size)
        obtain ⟨a_8, i_8, s_8, B1_8, n1_8, d1_8, B2_8, n2_8, d2_8, B3_8, n3_8, d3_8, B4_8, n4_8, d4_8, rfl⟩ := hv8.form7
        refine hK _ _ (HS.out _ hB8) ?_
        try simp only [Act.put, pA, pB, pC]
        refine one_op 8 (by kernel_rfl) rfl (by rfl) (fun K hK => ?_)
        go_simp
        refine (refEqual_self 4 (unl v) _ _ _ hv8 (HVu.out _ hB8)).mono ?_
        rintro e v9 ⟨rfl, hb9⟩
        have hB9 : Below W3.heap.size W3 v9 := hB8.trans (hb9.mono hB8.size)
        refine hK _ _ (HS.out _ hB9) ?_
        try simp only [Act.put, pA, pB, pC]
        refine tk 9 (HS.out _ hB9) ?_
        try simp only [Act.put, pA, pB, pC]
        refine tk 10 (HS.out _ hB9) ?_
        try simp only [Act.put, pA, pB, pC]
        refine tk 11 (HS.out _ hB9) ?_
        try simp only [Act.put, pA, pB, pC]
        refine tk 13 (HS.out _ hB9) ?_
        try simp only [Act.put, pA, pB, pC]
        refine one_op 12 (by kernel_rfl) rfl (by rfl) (fun K hK => ?_)
        go_simp
        refine (D12.out _ hB9).mono ?_
        rintro e v10 ⟨cs10, rfl, hv10, hb10⟩
        have hB10 : Below W3.heap.size W3 v10 := hB9.trans (hb10.mono hB9.size)
        obtain ⟨a_10, i_10, s_10, B1_10, n1_10, d1_10, B2_10, n2_10, d2_10, B3_10, n3_10, d3_10, B4_10, n4_10, d4_10, rfl⟩ := hv10.form7
        refine hK _ _ (HS.out _ hB10) ?_
        try simp only [Act.put, pA, pB, pC]
        refine one_op 14 (by kernel_rfl) rfl (by rfl) (fun K hK => ?_)
        go_simp
        refine (refEqual_self 4 (unl v) _ _ _ hv10 (HVu.out _ hB10)).mono ?_
        rintro e v11 ⟨rfl, hb11⟩
        have hB11 : Below W3.heap.size W3 v11 := hB10.trans (hb11.mono hB10.size)
        refine hK _ _ (HS.out _ hB11) ?_
        try simp only [Act.put, pA, pB, pC]
        refine tk 15 (HS.out _ hB11) ?_
        try simp only [Act.put, pA, pB, pC]
        refine tk 16 (HS.out _ hB11) ?_
        try simp only [Act.put, pA, pB, pC]
        refine one_op 17 (by kernel_rfl) rfl (by rfl) (fun K hK => ?_)
        go_simp
        refine (awake_any _).mono ?_
        rintro e v12 ⟨rfl, hb12⟩
        have hB12 : Below W3.heap.size W3 v12 := hB11.trans (hb12.mono hB11.size)
        refine hK _ _ (HS.out _ hB12) ?_
        try simp only [Act.put, pA, pB, pC]
        refine tk 18 (HS.out _ hB12) ?_
        try simp only [Act.put, pA, pB, pC]
        refine tk 19 (HS.out _ hB12) ?_
        try simp only [Act.put, pA, pB, pC]
        refine wpAnyH_done (by kernel_rfl) ?_ _
        go_wp2
        go_ret
        exact ⟨rfl, HBW.out.trans (hB12.mono HBW.out.size)⟩
end Go.Proofs.YtjfknigiehggkaaGreat
