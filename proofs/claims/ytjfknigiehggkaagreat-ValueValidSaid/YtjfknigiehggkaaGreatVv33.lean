/- The walk of ValueValid: what Validate says of a drawn value, of a value that comes in, and of four drawn values with one changed field. -/
import Derived.Test.YtjfknigiehggkaaGreatVv25
import Derived.Test.YtjfknigiehggkaaGreatVv28
import Derived.Test.YtjfknigiehggkaaGreatVv32
namespace Go.Proofs.YtjfknigiehggkaaGreat
open Go Go.RowKit
/-- as wpAnyH_par, but where b is full, the rest of the region is walked as the caller says -/
theorem wpAnyH_parTo {P : Program} {md : Region.Mode} {ops : Array Oper} {Q : Exit → Act → World → Prop} {S : World → Prop} {Bs : Type} (L : Bs → Array Bool) (chk : Bs → Nat → Bool) (full : Bs → Bool) (rest : Nat)
    (hkey : ∀ b, full b = false → (Region.ready md ops (L b)).all (chk b) = true) (hne : ∀ b, full b = false → (Region.ready md ops (L b)).isEmpty = false) (hrest : ∀ b, full b = true → rest ≤ (L b).toList.countP (· == false)) (Inv : Bs → Act → World → Prop)
    (hend : ∀ b a w fuel, full b = true → Inv b a w → rest ≤ fuel → wpAnyH P md ops Q S fuel (L b) a w)
    (hstep : ∀ b a w i, Inv b a w → chk b i = true → wpOp P ops Q i (fun a' w' => S w' ∧ ∃ b', L b' = (L b).setIfInBounds i true ∧ Inv b' a' w') a w)
    {fuel : Nat} {listed : Array Bool} {a : Act} {w : World} (b : Bs) (hl : listed = L b) (hc : listed.toList.countP (· == false) ≤ fuel) (h : Inv b a w) : wpAnyH P md ops Q S fuel listed a w := by
  subst hl
  induction fuel generalizing b a w with
  | zero =>
    cases hf : full b with
    | true => exact hend b a w 0 hf h (Nat.le_trans (hrest b hf) hc)
    | false =>
      have h0 := hne b hf
      have hr : Region.ready md ops (L b) = [] := by
        rw [List.eq_nil_iff_forall_not_mem]
        intro i hi
        have := count_set (mem_ready.1 hi).1
        omega
      rw [hr] at h0
      cases h0
  | succ fuel ih =>
    cases hf : full b with
    | true => exact hend b a w (fuel + 1) hf h (Nat.le_trans (hrest b hf) hc)
    | false =>
      refine ⟨fun hr => ?_, fun i hi => ?_⟩
      · have h0 := hne b hf
        rw [hr] at h0
        cases h0
      · refine wpOp_mono (fun a' w' ⟨hS, b', hb', h'⟩ => ⟨hS, ?_⟩) (hstep b a w i h (List.all_eq_true.1 (hkey b hf) i hi))
        rw [← hb']
        refine ih b' h' ?_
        rw [hb']
        have := count_set (mem_ready.1 hi).1
        omega
set_option maxRecDepth 100000 in
set_option maxHeartbeats 12800000 in
theorem valid_law (hD : Hid DrawnOk) (k : Nat) (v : Vl) (cs : List Value) (A : Option Addr) (n c : Nat) (kd ni : Int) (hkd : (Lit.int .i64 kd).wf = true) (hni : (Lit.int .i64 ni).wf = true) (s : List UInt8) (hs : s.length ≤ maxLen) (w : World) (hv : VS k w w.heap.size v cs)
    (hR : RowP w w.heap.size 1 (.slice A n c) n (fun _ cs => ∃ x, cs = [.int .i64 x] ∧ (Lit.int .i64 x).wf = true)) :
    Calls Tryz.prog 3 #[.agg cs.toArray, .slice A n c, .int .i64 kd, .int .i64 ni, .string ⟨s.toArray⟩] w fun e w' => e = .returned (.bool true) ∧ Below w.heap.size w w' := by
  obtain ⟨a1, i1, s1, A1, n1, c1, A2, n2, c2, A3, n3, c3, A4, n4, c4, rfl⟩ := hv.form7
  obtain ⟨W, hW⟩ : ∃ W, W = w.alloc (.cells #[.int .i64 a1, .int .i64 i1, .string s1, .slice A1 n1 c1, .slice A2 n2 c2, .slice A3 n3 c3, .slice A4 n4 c4] 27) := ⟨_, rfl⟩
  have hbb : Below w.heap.size w W := by rw [hW]; exact (Below.refl _ _).alloc (Nat.le_refl _) _
  have hlt : w.heap.size < W.heap.size := by rw [hW]; simp
  have kv : W.heap[w.heap.size]? = some (.cells #[.int .i64 a1, .int .i64 i1, .string s1, .slice A1 n1 c1, .slice A2 n2 c2, .slice A3 n3 c3, .slice A4 n4 c4] 27 (0, 0)) := by rw [hW]; exact heap_alloc_new w _
  have HKV : Hid (∀ V, Below W.heap.size W V → V.heap[w.heap.size]? = some (.cells #[.int .i64 a1, .int .i64 i1, .string s1, .slice A1 n1 c1, .slice A2 n2 c2, .slice A3 n3 c3, .slice A4 n4 c4] 27 (0, 0))) := Lib.hid fun V hV => (hV.block _ hlt).trans kv
  have HVV : Hid (∀ V, Below W.heap.size W V → VS k V V.heap.size v [.int .i64 a1, .int .i64 i1, .string s1, .slice A1 n1 c1, .slice A2 n2 c2, .slice A3 n3 c3, .slice A4 n4 c4]) := Lib.hid fun V hV => VS.up (Nat.le_trans hbb.size hV.size) (Nat.le_refl _) (VS.on (hbb.trans (hV.mono hbb.size)) hv)
  have hsm := small_any k v _ W (HVV.out W (Below.refl _ _))
  have HRW : Hid (∀ V, Below W.heap.size W V → RowP V V.heap.size 1 (.slice A n c) n (fun _ cs => ∃ x, cs = [.int .i64 x] ∧ (Lit.int .i64 x).wf = true)) := Lib.hid fun V hV => (hR.on (hbb.trans (hV.mono hbb.size)) fun _ _ h => h).mono (Nat.le_trans hbb.size hV.size) fun _ _ h => h
  have HNL : Hid (n ≤ maxLen) := Lib.hid (by obtain ⟨_, _, _, h⟩ := hR.form; exact h)
  have HW := Lib.hid hbb
  have HA := Lib.hid (And.intro hkd (And.intro hni hs))
  generalize decide (wrap64 (nodes v : Int) ≤ 60) = sv at hsm
  obtain ⟨q0, q1, q2, q3, q4, q5, q6⟩ : W.cell? ⟨w.heap.size, 0, none⟩ = some (.int .i64 a1) ∧ W.cell? ⟨w.heap.size, 1, none⟩ = some (.int .i64 i1) ∧ W.cell? ⟨w.heap.size, 2, none⟩ = some (.string s1) ∧ W.cell? ⟨w.heap.size, 3, none⟩ = some (.slice A1 n1 c1) ∧ W.cell? ⟨w.heap.size, 4, none⟩ = some (.slice A2 n2 c2) ∧ W.cell? ⟨w.heap.size, 5, none⟩ = some (.slice A3 n3 c3) ∧ W.cell? ⟨w.heap.size, 6, none⟩ = some (.slice A4 n4 c4) := cells7 kv
  clear hv hR hbb kv hkd hni hs hlt
  go_enter Tryz.func3, Tryz.ntmps3
  go_wp2_with fail
  rw [← hW]
  clear hW
  go_wp2_with (go_at_call 8; refine hsm.mono ?_; rintro e w1 ⟨rfl, hb1⟩; refine Hid.out ?_)
  refine Lib.hid ?_
  have HW1 := Lib.hid hb1
  clear hb1 hsm q0 q1 q2 q3 q4 q5 q6
  cases sv
  case false =>
    go_wp2_with (go_at_call 9; refine (awake_any _).mono ?_; rintro e w9 ⟨rfl, hb9⟩; refine Hid.out ?_)
    refine Lib.hid ?_
    go_wp2
    go_ret
    exact ⟨rfl, HW.out.trans ((step_below HW1.out (Nat.le_refl _) hb9).mono HW.out.size)⟩
  by_cases h60 : 60 < n
  · have f60 : decide ((60 : Int) < (n : Int)) = true := by rw [decide_eq_true_eq]; omega
    clear h60
    go_wp2_with (go_at_call 9; refine (awake_any _).mono ?_; rintro e w9 ⟨rfl, hb9⟩; refine Hid.out ?_)
    refine Lib.hid ?_
    go_wp2
    go_ret
    exact ⟨rfl, HW.out.trans ((step_below HW1.out (Nat.le_refl _) hb9).mono HW.out.size)⟩
  have f60 : decide ((60 : Int) < (n : Int)) = false := by rw [decide_eq_false_iff_not]; omega
  clear h60
  go_wp2_with fail
  clear f60
  refine (hD.out A n c w1 (HRW.out w1 HW1.out) HNL.out).mono ?_
  rintro e w2 ⟨x, cx, rfl, hx, hok, hsx, hb2⟩
  obtain ⟨a2, i2, s2, P1, m1, e1, P2, m2, e2, P3, m3, e3, P4, m4, e4, rfl⟩ := hx.form7
  go_wp2_with fail
  obtain ⟨V, hV⟩ : ∃ V, V = w2.alloc (.cells #[.int .i64 a2, .int .i64 i2, .string s2, .slice P1 m1 e1, .slice P2 m2 e2, .slice P3 m3 e3, .slice P4 m4 e4] 27) := ⟨_, rfl⟩
  have hbV : Below w2.heap.size w2 V := by rw [hV]; exact (Below.refl _ _).alloc (Nat.le_refl _) _
  have hbwV : w2.heap.size < V.heap.size := by rw [hV]; simp
  have kx : V.heap[w2.heap.size]? = some (.cells #[.int .i64 a2, .int .i64 i2, .string s2, .slice P1 m1 e1, .slice P2 m2 e2, .slice P3 m3 e3, .slice P4 m4 e4] 27 (0, 0)) := by rw [hV]; exact heap_alloc_new w2 _
  rw [← hV]
  have HVX : Hid (VS 4 V V.heap.size x [.int .i64 a2, .int .i64 i2, .string s2, .slice P1 m1 e1, .slice P2 m2 e2, .slice P3 m3 e3, .slice P4 m4 e4]) := Lib.hid (VS.up hbV.size (Nat.le_refl _) (VS.on hbV (VB.sub (fun b hb => hb.2) (Nat.le_refl _) hx)))
  have HOK := Lib.hid (And.intro hok hsx)
  have HWV : Hid (Below W.heap.size W V) := Lib.hid (step_below (step_below HW1.out (Nat.le_refl _) hb2) (Nat.le_refl _) hbV)
  have HKX : Hid (∀ U, Below V.heap.size V U → U.heap[w2.heap.size]? = some (.cells #[.int .i64 a2, .int .i64 i2, .string s2, .slice P1 m1 e1, .slice P2 m2 e2, .slice P3 m3 e3, .slice P4 m4 e4] 27 (0, 0))) := Lib.hid fun U hU => (hU.block _ hbwV).trans kx
  have HBW := Lib.hid hbwV
  clear hx hok hsx hb2 hbwV kx hV hbV HW1
  generalize w2.heap.size = bw at *
  refine wp_region_held_drew (S := fun U => U.cell? ⟨bw, 0, none⟩ = some (.int .i64 a2) ∧ U.cell? ⟨bw, 1, none⟩ = some (.int .i64 i2) ∧ U.cell? ⟨bw, 2, none⟩ = some (.string s2) ∧ U.cell? ⟨bw, 3, none⟩ = some (.slice P1 m1 e1) ∧ U.cell? ⟨bw, 4, none⟩ = some (.slice P2 m2 e2) ∧ U.cell? ⟨bw, 5, none⟩ = some (.slice P3 m3 e3) ∧ U.cell? ⟨bw, 6, none⟩ = some (.slice P4 m4 e4)) (by kernel_rfl) (by have h := HKX.out _ (Below.refl _ _).drew; exact cells7 h) (fun hHeld => ?_)
  refine tk 0 hHeld ?_
  try simp only [Act.put, pA, pB, pC]
  refine tk 1 hHeld ?_
  try simp only [Act.put, pA, pB, pC]
  refine tk 2 hHeld ?_
  try simp only [Act.put, pA, pB, pC]
  refine tk 3 hHeld ?_
  try simp only [Act.put, pA, pB, pC]
  generalize hA : ({ tmps := _, defers := [] } : Act) = a0
  refine wpAnyH_parTo (Bs := Bool × Bool × Bool × Bool) (L := fun ⟨b4, b5, b6, b7⟩ => #[true, true, true, true, b4, b5, b6, b7, false, false, false, false]) (chk := fun ⟨b4, b5, b6, b7⟩ i => (i == 4 && !b4) || (i == 5 && !b5) || (i == 6 && !b6) || (i == 7 && !b7)) (full := fun ⟨b4, b5, b6, b7⟩ => b4 && (b5 && (b6 && b7))) 4 (by rintro ⟨b4, b5, b6, b7⟩; revert b4 b5 b6 b7; decide +kernel) (by rintro ⟨b4, b5, b6, b7⟩; revert b4 b5 b6 b7; decide +kernel) (by rintro ⟨b4, b5, b6, b7⟩; revert b4 b5 b6 b7; decide +kernel)
    (Inv := fun ⟨b4, b5, b6, b7⟩ a wq => ∃ (u4 u5 u6 u7 : Value), a = ((((a0.put (some 12) u4).put (some 13) u5).put (some 14) u6).put (some 15) u7) ∧ Below V.heap.size V wq ∧ (b4 = true → Bx7 V.heap.size u4 #[.int .i64 0, .int .i64 0, .string ⟨#[]⟩, .slice none 0 0, .slice none 0 0, .slice none 0 0, .slice none 0 0] wq) ∧ (b5 = true → Bx7 V.heap.size u5 #[.int .i64 0, .int .i64 0, .string ⟨#[]⟩, .slice none 0 0, .slice none 0 0, .slice none 0 0, .slice none 0 0] wq) ∧ (b6 = true → Bx7 V.heap.size u6 #[.int .i64 0, .int .i64 0, .string ⟨#[]⟩, .slice none 0 0, .slice none 0 0, .slice none 0 0, .slice none 0 0] wq) ∧ (b7 = true → Bx7 V.heap.size u7 #[.int .i64 0, .int .i64 0, .string ⟨#[]⟩, .slice none 0 0, .slice none 0 0, .slice none 0 0, .slice none 0 0] wq) ∧ (b4 = true → b5 = true → u4 ≠ u5) ∧ (b4 = true → b6 = true → u4 ≠ u6) ∧ (b4 = true → b7 = true → u4 ≠ u7) ∧ (b5 = true → b6 = true → u5 ≠ u6) ∧ (b5 = true → b7 = true → u5 ≠ u7) ∧ (b6 = true → b7 = true → u6 ≠ u7)) ?_ ?_ ⟨false, false, false, false⟩ rfl (by decide) ?_
  rotate_left
  · rintro ⟨b4, b5, b6, b7⟩ a wq i ⟨u4, u5, u6, u7, rfl, hB, h4, h5, h6, h7, g45, g46, g47, g56, g57, g67⟩ hk
    simp only [Bool.or_eq_true, Bool.and_eq_true, beq_iff_eq, Bool.not_eq_true'] at hk
    subst hA
    have hzq : V.heap.size ≤ wq.heap.size := hB.size
    have hb : Below wq.heap.size wq (wq.alloc (.cells #[.int .i64 0, .int .i64 0, .string ⟨#[]⟩, .slice none 0 0, .slice none 0 0, .slice none 0 0, .slice none 0 0] 27 (0, 0))) := (Below.refl _ _).alloc (Nat.le_refl _) _
    have hB' := step_below hB (Nat.le_refl _) hb
    rcases hk with ((⟨rfl, rfl⟩ | ⟨rfl, rfl⟩) | ⟨rfl, rfl⟩) | ⟨rfl, rfl⟩
    · refine step_op rfl (by rfl) (fun K hK => ?_)
      simp only [Act.put, List.setIfInBounds_toArray, List.set_cons_zero, List.set_cons_succ]
      go_simp
      exact hK _ _ ⟨by have h := HKX.out _ hB'; exact cells7 h, ⟨true, b5, b6, b7⟩, rfl, _, u5, u6, u7, rfl, hB', fun _ => Bx7.new hzq _, fun h => (h5 h).old hb, fun h => (h6 h).old hb, fun h => (h7 h).old hb, fun _ h => (h5 h).ne.symm, fun _ h => (h6 h).ne.symm, fun _ h => (h7 h).ne.symm, g56, g57, g67⟩
    · refine step_op rfl (by rfl) (fun K hK => ?_)
      simp only [Act.put, List.setIfInBounds_toArray, List.set_cons_zero, List.set_cons_succ]
      go_simp
      exact hK _ _ ⟨by have h := HKX.out _ hB'; exact cells7 h, ⟨b4, true, b6, b7⟩, rfl, u4, _, u6, u7, rfl, hB', fun h => (h4 h).old hb, fun _ => Bx7.new hzq _, fun h => (h6 h).old hb, fun h => (h7 h).old hb, fun h _ => (h4 h).ne, g46, g47, fun _ h => (h6 h).ne.symm, fun _ h => (h7 h).ne.symm, g67⟩
    · refine step_op rfl (by rfl) (fun K hK => ?_)
      simp only [Act.put, List.setIfInBounds_toArray, List.set_cons_zero, List.set_cons_succ]
      go_simp
      exact hK _ _ ⟨by have h := HKX.out _ hB'; exact cells7 h, ⟨b4, b5, true, b7⟩, rfl, u4, u5, _, u7, rfl, hB', fun h => (h4 h).old hb, fun h => (h5 h).old hb, fun _ => Bx7.new hzq _, fun h => (h7 h).old hb, g45, fun h _ => (h4 h).ne, g47, fun h _ => (h5 h).ne, g57, fun _ h => (h7 h).ne.symm⟩
    · refine step_op rfl (by rfl) (fun K hK => ?_)
      simp only [Act.put, List.setIfInBounds_toArray, List.set_cons_zero, List.set_cons_succ]
      go_simp
      exact hK _ _ ⟨by have h := HKX.out _ hB'; exact cells7 h, ⟨b4, b5, b6, true⟩, rfl, u4, u5, u6, _, rfl, hB', fun h => (h4 h).old hb, fun h => (h5 h).old hb, fun h => (h6 h).old hb, fun _ => Bx7.new hzq _, g45, g46, fun h _ => (h4 h).ne, g56, fun h _ => (h5 h).ne, fun h _ => (h6 h).ne⟩
  · exact ⟨undef, undef, undef, undef, by subst hA; rfl, (Below.refl _ _).drew, nofun, nofun, nofun, nofun, nofun, nofun, nofun, nofun, nofun, nofun⟩
  rintro ⟨b4, b5, b6, b7⟩ a wq fuel hf ⟨u4, u5, u6, u7, rfl, hB, h4, h5, h6, h7, g45, g46, g47, g56, g57, g67⟩ hfl
  simp only [Bool.and_eq_true] at hf
  obtain ⟨rfl, rfl, rfl, rfl⟩ := hf
  subst hA
  obtain ⟨fuel, rfl⟩ : ∃ k, fuel = k + 4 := ⟨fuel - 4, by omega⟩
  obtain ⟨r4, rfl, hr4, l4, k4⟩ := (h4 rfl).lt
  obtain ⟨r5, rfl, hr5, l5, k5⟩ := (h5 rfl).lt
  obtain ⟨r6, rfl, hr6, l6, k6⟩ := (h6 rfl).lt
  obtain ⟨r7, rfl, hr7, l7, k7⟩ := (h7 rfl).lt
  have d45 : r4 ≠ r5 := fun e => g45 rfl rfl (by rw [e])
  have d46 : r4 ≠ r6 := fun e => g46 rfl rfl (by rw [e])
  have d47 : r4 ≠ r7 := fun e => g47 rfl rfl (by rw [e])
  have d56 : r5 ≠ r6 := fun e => g56 rfl rfl (by rw [e])
  have d57 : r5 ≠ r7 := fun e => g57 rfl rfl (by rw [e])
  have d67 : r6 ≠ r7 := fun e => g67 rfl rfl (by rw [e])
  have HNE := Lib.hid (And.intro d45 (And.intro d46 (And.intro d47 (And.intro d56 (And.intro d57 d67)))))
  clear h4 h5 h6 h7 g45 g46 g47 g56 g57 g67 hfl d45 d46 d47 d56 d57 d67
  simp only [Act.put, List.setIfInBounds_toArray, List.set_cons_zero, List.set_cons_succ]
  have HB0 := Lib.hid hB
  clear hB
  obtain ⟨t0, t1, t2, t3, t4, t5, t6⟩ := cells7 k4
  obtain ⟨z0, z1, z2, z3, z4, z5, z6⟩ := frozen7 k4
  refine one_op 8 (by kernel_rfl) rfl (by rfl) (fun K hK => ?_)
  go_simp
  obtain ⟨V1, hV⟩ : ∃ U, U = ((((((wq.setCell ⟨r4, 0, none⟩ (.int .i64 a2)).setCell ⟨r4, 1, none⟩ (.int .i64 i2)).setCell ⟨r4, 2, none⟩ (.string s2)).setCell ⟨r4, 3, none⟩ (.slice P1 m1 e1)).setCell ⟨r4, 4, none⟩ (.slice P2 m2 e2)).setCell ⟨r4, 5, none⟩ (.slice P3 m3 e3)).setCell ⟨r4, 6, none⟩ (.slice P4 m4 e4) := ⟨_, rfl⟩
  rw [← hV]
  obtain ⟨y4, hzV, hbV, hoV⟩ := box7 k4 hr4 _ _ _ _ _ _ _ V1 hV
  clear hV t0 z0 t1 z1 t2 z2 t3 z3 t4 z4 t5 z5 t6 z6
  have HB1 := Lib.hid (HB0.out.trans hbV)
  replace k5 := (hoV r5 (HNE.out.1.symm)).trans k5
  replace k6 := (hoV r6 (HNE.out.2.1.symm)).trans k6
  replace k7 := (hoV r7 (HNE.out.2.2.1.symm)).trans k7
  refine hK _ _ (by have h := HKX.out _ HB1.out; exact cells7 h) ?_
  clear hK K
  try simp only [Act.put, pA, pB, pC]
  replace l4 : r4 < V1.heap.size := by omega
  replace l5 : r5 < V1.heap.size := by omega
  replace l6 : r6 < V1.heap.size := by omega
  replace l7 : r7 < V1.heap.size := by omega
  clear hzV hbV hoV k4
  obtain ⟨t0, t1, t2, t3, t4, t5, t6⟩ := cells7 k5
  obtain ⟨z0, z1, z2, z3, z4, z5, z6⟩ := frozen7 k5
  refine one_op 9 (by kernel_rfl) rfl (by rfl) (fun K hK => ?_)
  go_simp
  obtain ⟨V2, hV⟩ : ∃ U, U = ((((((V1.setCell ⟨r5, 0, none⟩ (.int .i64 a2)).setCell ⟨r5, 1, none⟩ (.int .i64 i2)).setCell ⟨r5, 2, none⟩ (.string s2)).setCell ⟨r5, 3, none⟩ (.slice P1 m1 e1)).setCell ⟨r5, 4, none⟩ (.slice P2 m2 e2)).setCell ⟨r5, 5, none⟩ (.slice P3 m3 e3)).setCell ⟨r5, 6, none⟩ (.slice P4 m4 e4) := ⟨_, rfl⟩
  rw [← hV]
  obtain ⟨y5, hzV, hbV, hoV⟩ := box7 k5 hr5 _ _ _ _ _ _ _ V2 hV
  clear hV t0 z0 t1 z1 t2 z2 t3 z3 t4 z4 t5 z5 t6 z6
  have HB2 := Lib.hid (HB1.out.trans hbV)
  replace y4 := (hoV r4 (HNE.out.1)).trans y4
  replace k6 := (hoV r6 (HNE.out.2.2.2.1.symm)).trans k6
  replace k7 := (hoV r7 (HNE.out.2.2.2.2.1.symm)).trans k7
  refine hK _ _ (by have h := HKX.out _ HB2.out; exact cells7 h) ?_
  clear hK K
  try simp only [Act.put, pA, pB, pC]
  replace l4 : r4 < V2.heap.size := by omega
  replace l5 : r5 < V2.heap.size := by omega
  replace l6 : r6 < V2.heap.size := by omega
  replace l7 : r7 < V2.heap.size := by omega
  clear hzV hbV hoV k5
  obtain ⟨t0, t1, t2, t3, t4, t5, t6⟩ := cells7 k6
  obtain ⟨z0, z1, z2, z3, z4, z5, z6⟩ := frozen7 k6
  refine one_op 10 (by kernel_rfl) rfl (by rfl) (fun K hK => ?_)
  go_simp
  obtain ⟨V3, hV⟩ : ∃ U, U = ((((((V2.setCell ⟨r6, 0, none⟩ (.int .i64 a2)).setCell ⟨r6, 1, none⟩ (.int .i64 i2)).setCell ⟨r6, 2, none⟩ (.string s2)).setCell ⟨r6, 3, none⟩ (.slice P1 m1 e1)).setCell ⟨r6, 4, none⟩ (.slice P2 m2 e2)).setCell ⟨r6, 5, none⟩ (.slice P3 m3 e3)).setCell ⟨r6, 6, none⟩ (.slice P4 m4 e4) := ⟨_, rfl⟩
  rw [← hV]
  obtain ⟨y6, hzV, hbV, hoV⟩ := box7 k6 hr6 _ _ _ _ _ _ _ V3 hV
  clear hV t0 z0 t1 z1 t2 z2 t3 z3 t4 z4 t5 z5 t6 z6
  have HB3 := Lib.hid (HB2.out.trans hbV)
  replace y4 := (hoV r4 (HNE.out.2.1)).trans y4
  replace y5 := (hoV r5 (HNE.out.2.2.2.1)).trans y5
  replace k7 := (hoV r7 (HNE.out.2.2.2.2.2.symm)).trans k7
  refine hK _ _ (by have h := HKX.out _ HB3.out; exact cells7 h) ?_
  clear hK K
  try simp only [Act.put, pA, pB, pC]
  replace l4 : r4 < V3.heap.size := by omega
  replace l5 : r5 < V3.heap.size := by omega
  replace l6 : r6 < V3.heap.size := by omega
  replace l7 : r7 < V3.heap.size := by omega
  clear hzV hbV hoV k6
  obtain ⟨t0, t1, t2, t3, t4, t5, t6⟩ := cells7 k7
  obtain ⟨z0, z1, z2, z3, z4, z5, z6⟩ := frozen7 k7
  refine one_op 11 (by kernel_rfl) rfl (by rfl) (fun K hK => ?_)
  go_simp
  obtain ⟨V4, hV⟩ : ∃ U, U = ((((((V3.setCell ⟨r7, 0, none⟩ (.int .i64 a2)).setCell ⟨r7, 1, none⟩ (.int .i64 i2)).setCell ⟨r7, 2, none⟩ (.string s2)).setCell ⟨r7, 3, none⟩ (.slice P1 m1 e1)).setCell ⟨r7, 4, none⟩ (.slice P2 m2 e2)).setCell ⟨r7, 5, none⟩ (.slice P3 m3 e3)).setCell ⟨r7, 6, none⟩ (.slice P4 m4 e4) := ⟨_, rfl⟩
  rw [← hV]
  obtain ⟨y7, hzV, hbV, hoV⟩ := box7 k7 hr7 _ _ _ _ _ _ _ V4 hV
  clear hV t0 z0 t1 z1 t2 z2 t3 z3 t4 z4 t5 z5 t6 z6
  have HB4 := Lib.hid (HB3.out.trans hbV)
  replace y4 := (hoV r4 (HNE.out.2.2.1)).trans y4
  replace y5 := (hoV r5 (HNE.out.2.2.2.2.1)).trans y5
  replace y6 := (hoV r6 (HNE.out.2.2.2.2.2)).trans y6
  refine hK _ _ (by have h := HKX.out _ HB4.out; exact cells7 h) ?_
  clear hK K
  try simp only [Act.put, pA, pB, pC]
  replace l4 : r4 < V4.heap.size := by omega
  replace l5 : r5 < V4.heap.size := by omega
  replace l6 : r6 < V4.heap.size := by omega
  replace l7 : r7 < V4.heap.size := by omega
  clear hzV hbV hoV k7
  refine wpAnyH_done (by kernel_rfl) ?_ _
  have t4 : V4.cell? ⟨r4, 0, none⟩ = some (.int .i64 a2) := (Lib.cell_of_heap y4 0).trans rfl
  have z4 := Lib.frozen_of_heap y4 0
  have t5 : V4.cell? ⟨r5, 1, none⟩ = some (.int .i64 i2) := (Lib.cell_of_heap y5 1).trans rfl
  have z5 := Lib.frozen_of_heap y5 1
  have t6 : V4.cell? ⟨r6, 2, none⟩ = some (.string s2) := (Lib.cell_of_heap y6 2).trans rfl
  have z6 := Lib.frozen_of_heap y6 2
  have tb : V4.cell? ⟨bw, 6, none⟩ = some (.slice P4 m4 e4) := (Lib.cell_of_heap (HKX.out _ HB4.out) 6).trans rfl
  obtain ⟨V5, hV⟩ : ∃ U, U = ((V4.setCell ⟨r4, 0, none⟩ (.int .i64 kd)).setCell ⟨r5, 1, none⟩ (.int .i64 ni)).setCell ⟨r6, 2, none⟩ (.string ⟨s.toArray⟩) := ⟨_, rfl⟩
  have hz5 : V5.heap.size = V4.heap.size := by rw [hV]; simp
  have hbV : Below V.heap.size V4 V5 := by rw [hV]; exact Below.setCell (Below.setCell (Below.setCell (Below.refl _ _) (p := ⟨r4, 0, none⟩) hr4 _) (p := ⟨r5, 1, none⟩) hr5 _) (p := ⟨r6, 2, none⟩) hr6 _
  have x4 : V5.heap[r4]? = some (.cells #[.int .i64 kd, .int .i64 i2, .string s2, .slice P1 m1 e1, .slice P2 m2 e2, .slice P3 m3 e3, .slice P4 m4 e4] 27 (0, 0)) := by
    rw [hV]
    refine (heap_setCell_other _ _ _ _ HNE.out.2.1).trans ((heap_setCell_other _ _ _ _ HNE.out.1).trans ?_)
    have := heap_setCell_same V4 r4 0 _ _ (.int .i64 kd) y4
    simpa using this
  have x5 : V5.heap[r5]? = some (.cells #[.int .i64 a2, .int .i64 ni, .string s2, .slice P1 m1 e1, .slice P2 m2 e2, .slice P3 m3 e3, .slice P4 m4 e4] 27 (0, 0)) := by
    rw [hV]
    refine (heap_setCell_other _ _ _ _ HNE.out.2.2.2.1).trans ?_
    have := heap_setCell_same (V4.setCell ⟨r4, 0, none⟩ (.int .i64 kd)) r5 1 _ _ (.int .i64 ni) ((heap_setCell_other _ _ _ _ HNE.out.1.symm).trans y5)
    simpa using this
  have x6 : V5.heap[r6]? = some (.cells #[.int .i64 a2, .int .i64 i2, .string ⟨s.toArray⟩, .slice P1 m1 e1, .slice P2 m2 e2, .slice P3 m3 e3, .slice P4 m4 e4] 27 (0, 0)) := by
    rw [hV]
    have := heap_setCell_same ((V4.setCell ⟨r4, 0, none⟩ (.int .i64 kd)).setCell ⟨r5, 1, none⟩ (.int .i64 ni)) r6 2 _ _ (.string ⟨s.toArray⟩) ((heap_setCell_other _ _ _ _ HNE.out.2.2.2.1.symm).trans ((heap_setCell_other _ _ _ _ HNE.out.2.1.symm).trans y6))
    simpa using this
  have x7 : V5.heap[r7]? = some (.cells #[.int .i64 a2, .int .i64 i2, .string s2, .slice P1 m1 e1, .slice P2 m2 e2, .slice P3 m3 e3, .slice P4 m4 e4] 27 (0, 0)) := by
    rw [hV]
    exact (heap_setCell_other _ _ _ _ HNE.out.2.2.2.2.2.symm).trans ((heap_setCell_other _ _ _ _ HNE.out.2.2.2.2.1.symm).trans ((heap_setCell_other _ _ _ _ HNE.out.2.2.1.symm).trans y7))
  replace l4 : r4 < V5.heap.size := by omega
  replace l5 : r5 < V5.heap.size := by omega
  replace l6 : r6 < V5.heap.size := by omega
  replace l7 : r7 < V5.heap.size := by omega
  have HB5 := Lib.hid (HB4.out.trans hbV)
  have HX := Lib.hid (And.intro x4 (And.intro x5 x6))
  have HL := Lib.hid (And.intro (And.intro l4 hr4) (And.intro (And.intro l5 hr5) (And.intro (And.intro l6 hr6) (And.intro l7 hr7))))
  have HX7 := Lib.hid x7
  clear hbV x4 x5 x6 y4 y5 y6 y7 HB0 HB1 HB2 HB3 HB4 hr4 hr5 hr6 hr7 l4 l5 l6
  obtain ⟨ls, hll, hlm, hlr⟩ := HVX.out.labs HOK.out.2
  have hlr5 := hlr.on HB5.out (fun _ _ h => h)
  have HLM := Lib.hid (And.intro hll hlm)
  have HSZ4 := Lib.hid (show V5.heap.size ≤ V4.heap.size by omega)
  have HSZ := Lib.hid (show V4.heap.size ≤ V5.heap.size by omega)
  have HV := Lib.hid hV
  rw [hV] at hlr5
  clear hlr hV hz5 hll hlm
  go_wp2_with (at_builtin; refine wp_row_s rfl _ _ rfl V4.heap.size (.slice none 0 0) [] rfl (OwnE.nil _ _ _ _ _) P4 m4 e4 ls HLM.out.1 _ rfl hlr5 (by have := HLM.out.2; simp; omega) (by simp) ?_; intro u39 w5 ho5 hb5; refine Hid.out ?_)
  refine Lib.hid ?_
  rw [← HV.out] at hb5
  replace hb5 := hb5.mono (Nat.le_refl _)
  clear t4 z4 t5 z5 t6 z6 tb
  obtain ⟨G, cG, rfl⟩ := ho5.form
  have HO5 : Hid (OwnE elS 9 1 w5 V4.heap.size (.slice G ([] ++ ls).length cG) ([] ++ ls)) := Lib.hid ho5
  have HB6 := Lib.hid hb5
  have hz56 := Nat.le_trans HSZ.out hb5.size
  clear ho5 hb5 hlr5
  go_wp2_with (at_builtin; refine wp_app_s rfl _ _ rfl V4.heap.size _ _ rfl HO5.out s HA.out.2.2 _ _ rfl rfl (by have := HLM.out; simp; omega) hz56 ?_; intro g cap w6 ho6 hb6; refine Hid.out ?_)
  refine Lib.hid ?_
  have HR6 := Lib.hid (ho6.row (by decide) (by have := HLM.out; simp; unfold maxLen; omega))
  have hB6 : Below V4.heap.size V5 w6 := HB6.out.trans hb6
  have k7' : w6.heap[r7]? = some (.cells #[.int .i64 a2, .int .i64 i2, .string s2, .slice P1 m1 e1, .slice P2 m2 e2, .slice P3 m3 e3, .slice P4 m4 e4] 27 (0, 0)) := (hB6.block r7 (by have := HSZ4.out; omega)).trans HX7.out
  have HBB6 := Lib.hid hB6
  have t6 : w6.cell? ⟨r7, 6, none⟩ = some (.slice P4 m4 e4) := (Lib.cell_of_heap k7' 6).trans rfl
  have z6 := Lib.frozen_of_heap k7' 6
  have hv4 : V.heap.size ≤ V4.heap.size := by have := HB5.out.size; have := HSZ4.out; omega
  have HBV6 : Hid (Below V.heap.size V w6) := Lib.hid (HB5.out.trans (hB6.mono hv4))
  have hnb : ¬ bw = r7 := by have := HBW.out; have := HL.out.2.2.2.2; omega
  have hnb' : ¬ r7 = bw := fun h => hnb h.symm
  obtain ⟨q0, q1, q2, q3, q4, q5, q6⟩ : w6.cell? ⟨bw, 0, none⟩ = some (.int .i64 a2) ∧ w6.cell? ⟨bw, 1, none⟩ = some (.int .i64 i2) ∧ w6.cell? ⟨bw, 2, none⟩ = some (.string s2) ∧ w6.cell? ⟨bw, 3, none⟩ = some (.slice P1 m1 e1) ∧ w6.cell? ⟨bw, 4, none⟩ = some (.slice P2 m2 e2) ∧ w6.cell? ⟨bw, 5, none⟩ = some (.slice P3 m3 e3) ∧ w6.cell? ⟨bw, 6, none⟩ = some (.slice P4 m4 e4) := by have h := HKX.out w6 HBV6.out; exact cells7 h
  obtain ⟨V6, hV6⟩ : ∃ U, U = w6.setCell ⟨r7, 6, none⟩ (.slice (some ⟨g, 0, none⟩) (([] ++ ls).length + 1) cap) := ⟨_, rfl⟩
  have hzV : V6.heap.size = w6.heap.size := by rw [hV6]; simp
  have hoV : ∀ b, b ≠ r7 → V6.heap[b]? = w6.heap[b]? := fun b hb => by rw [hV6]; exact heap_setCell_other _ _ _ _ hb
  have hbV6 : Below V.heap.size V V6 := by rw [hV6]; exact HBV6.out.trans (Below.setCell (Below.refl _ _) (p := ⟨r7, 6, none⟩) HL.out.2.2.2.2 _)
  have k7 : V6.heap[r7]? = some (.cells #[.int .i64 a2, .int .i64 i2, .string s2, .slice P1 m1 e1, .slice P2 m2 e2, .slice P3 m3 e3, .slice (some ⟨g, 0, none⟩) (([] ++ ls).length + 1) cap] 27 (0, 0)) := by
    rw [hV6]
    have := heap_setCell_same w6 r7 6 _ _ (.slice (some ⟨g, 0, none⟩) (([] ++ ls).length + 1) cap) k7'
    simpa using this
  have k4 : V6.heap[r4]? = some (.cells #[.int .i64 kd, .int .i64 i2, .string s2, .slice P1 m1 e1, .slice P2 m2 e2, .slice P3 m3 e3, .slice P4 m4 e4] 27 (0, 0)) := (hoV r4 HNE.out.2.2.1).trans ((hB6.block r4 (by have := HL.out.1.1; have := HSZ4.out; omega)).trans HX.out.1)
  have k5 : V6.heap[r5]? = some (.cells #[.int .i64 a2, .int .i64 ni, .string s2, .slice P1 m1 e1, .slice P2 m2 e2, .slice P3 m3 e3, .slice P4 m4 e4] 27 (0, 0)) := (hoV r5 HNE.out.2.2.2.2.1).trans ((hB6.block r5 (by have := HL.out.2.1.1; have := HSZ4.out; omega)).trans HX.out.2.1)
  have k6 : V6.heap[r6]? = some (.cells #[.int .i64 a2, .int .i64 i2, .string ⟨s.toArray⟩, .slice P1 m1 e1, .slice P2 m2 e2, .slice P3 m3 e3, .slice P4 m4 e4] 27 (0, 0)) := (hoV r6 HNE.out.2.2.2.2.2).trans ((hB6.block r6 (by have := HL.out.2.2.1.1; have := HSZ4.out; omega)).trans HX.out.2.2)
  have hls : V6.heap.size ≥ V5.heap.size := by have := HBB6.out.size; omega
  have HK4 : Hid (∀ U, Below V6.heap.size V6 U → U.heap[r4]? = some (.cells #[.int .i64 kd, .int .i64 i2, .string s2, .slice P1 m1 e1, .slice P2 m2 e2, .slice P3 m3 e3, .slice P4 m4 e4] 27 (0, 0))) := Lib.hid fun U hU => (hU.block r4 (by have := HL.out.1.1; omega)).trans k4
  have HK5 : Hid (∀ U, Below V6.heap.size V6 U → U.heap[r5]? = some (.cells #[.int .i64 a2, .int .i64 ni, .string s2, .slice P1 m1 e1, .slice P2 m2 e2, .slice P3 m3 e3, .slice P4 m4 e4] 27 (0, 0))) := Lib.hid fun U hU => (hU.block r5 (by have := HL.out.2.1.1; omega)).trans k5
  have HK6 : Hid (∀ U, Below V6.heap.size V6 U → U.heap[r6]? = some (.cells #[.int .i64 a2, .int .i64 i2, .string ⟨s.toArray⟩, .slice P1 m1 e1, .slice P2 m2 e2, .slice P3 m3 e3, .slice P4 m4 e4] 27 (0, 0))) := Lib.hid fun U hU => (hU.block r6 (by have := HL.out.2.2.1.1; omega)).trans k6
  have HK7 : Hid (∀ U, Below V6.heap.size V6 U → U.heap[r7]? = some (.cells #[.int .i64 a2, .int .i64 i2, .string s2, .slice P1 m1 e1, .slice P2 m2 e2, .slice P3 m3 e3, .slice (some ⟨g, 0, none⟩) (([] ++ ls).length + 1) cap] 27 (0, 0))) := Lib.hid fun U hU => (hU.block r7 (by have := HL.out.2.2.2.1; omega)).trans k7
  have HWU : Hid (∀ U, Below V6.heap.size V6 U → Below W.heap.size W U) := Lib.hid fun U hU => HWV.out.trans ((hbV6.trans (hU.mono hbV6.size)).mono HWV.out.size)
  have HVU : Hid (∀ U, Below V6.heap.size V6 U → Below V.heap.size V U) := Lib.hid fun U hU => hbV6.trans (hU.mono hbV6.size)
  have HXU : Hid (∀ (y : Vl) (cs : List Value), VB 4 V (fun b => b < V.heap.size) y cs → ∀ U, Below V6.heap.size V6 U → VS 4 U U.heap.size y cs) := Lib.hid fun y cs h U hU => VS.up (HVU.out U hU).size (Nat.le_refl _) (VS.on (HVU.out U hU) h)
  have HRU : Hid (∀ U, Below V6.heap.size V6 U → RowB U (fun b => b < U.heap.size) 1 (.slice (some ⟨g, 0, none⟩) (([] ++ ls).length + 1) cap) (([] ++ ls) ++ [s]).length (fun j cs => ∃ x, (([] ++ ls) ++ [s])[j]? = some x ∧ cs = [.string ⟨x.toArray⟩] ∧ x.length ≤ maxLen)) := Lib.hid fun U hU => by
    have hs : Same (Btw V4.heap.size w6.heap.size) w6 V6 := ⟨by omega, fun b i hb _ => World.cell?_of_block (hoV b (by have := hb.1; have := HL.out.2.2.2.1; have := HSZ4.out; omega))⟩
    exact RowB.sub (RowB.keep (RowB.keep HR6.out hs fun _ _ h => h) (.of_below hU fun b hb => by have := hb.2; omega) fun _ _ h => h) (fun b hb => by have := hb.2; have := hU.size; omega) fun _ _ h => h
  have C0 : Hid (∀ U, Below V6.heap.size V6 U → Calls Tryz.prog 11 #[.agg #[.int .i64 a2, .int .i64 i2, .string s2, .slice P1 m1 e1, .slice P2 m2 e2, .slice P3 m3 e3, .slice P4 m4 e4]] U fun e w' => e = .returned (.int .i64 0) ∧ Below U.heap.size U w') := Lib.hid fun U hU => by
    have h := validate_any 4 x _ U (HXU.out x _ HVX.out U hU)
    rw [HOK.out.1, if_pos rfl] at h
    exact h
  have Cv : Hid (∀ U, Below V6.heap.size V6 U → Calls Tryz.prog 12 #[.agg #[.int .i64 a1, .int .i64 i1, .string s1, .slice A1 n1 c1, .slice A2 n2 c2, .slice A3 n3 c3, .slice A4 n4 c4]] U fun e w' => e = .returned (.bool true) ∧ Below U.heap.size U w') := Lib.hid fun U hU => judged_any k v _ U (HVV.out U (HWU.out U hU))
  have C4 : Hid (∀ U, Below V6.heap.size V6 U → Calls Tryz.prog 12 #[.agg #[.int .i64 kd, .int .i64 i2, .string s2, .slice P1 m1 e1, .slice P2 m2 e2, .slice P3 m3 e3, .slice P4 m4 e4]] U fun e w' => e = .returned (.bool true) ∧ Below U.heap.size U w') := Lib.hid fun U hU => by
    obtain ⟨y, hy⟩ := VB.setKind (k := 3) HVX.out kd HA.out.1
    exact judged_any 4 y _ U (HXU.out y _ hy U hU)
  have C5 : Hid (∀ U, Below V6.heap.size V6 U → Calls Tryz.prog 12 #[.agg #[.int .i64 a2, .int .i64 ni, .string s2, .slice P1 m1 e1, .slice P2 m2 e2, .slice P3 m3 e3, .slice P4 m4 e4]] U fun e w' => e = .returned (.bool true) ∧ Below U.heap.size U w') := Lib.hid fun U hU => by
    obtain ⟨y, hy⟩ := VB.setInt (k := 3) HVX.out ni HA.out.2.1
    exact judged_any 4 y _ U (HXU.out y _ hy U hU)
  have C6 : Hid (∀ U, Below V6.heap.size V6 U → Calls Tryz.prog 12 #[.agg #[.int .i64 a2, .int .i64 i2, .string ⟨s.toArray⟩, .slice P1 m1 e1, .slice P2 m2 e2, .slice P3 m3 e3, .slice P4 m4 e4]] U fun e w' => e = .returned (.bool true) ∧ Below U.heap.size U w') := Lib.hid fun U hU => by
    obtain ⟨y, hy⟩ := VB.setText (k := 3) HVX.out s HA.out.2.2
    exact judged_any 4 y _ U (HXU.out y _ hy U hU)
  have C7 : Hid (∀ U, Below V6.heap.size V6 U → Calls Tryz.prog 12 #[.agg #[.int .i64 a2, .int .i64 i2, .string s2, .slice P1 m1 e1, .slice P2 m2 e2, .slice P3 m3 e3, .slice (some ⟨g, 0, none⟩) (([] ++ ls).length + 1) cap]] U fun e w' => e = .returned (.bool true) ∧ Below U.heap.size U w') := Lib.hid fun U hU => by
    obtain ⟨y, hy⟩ := VB.setLabs (k := 3) (HXU.out x _ HVX.out U hU) _ _ (HRU.out U hU)
    exact judged_any 4 y _ U hy
  have H6 := Lib.hid hV6
  clear ho6 hb6 hB6 hz56 k4 k5 k6 k7 k7' hzV hoV hbV6 hls hv4 l7 HR6 HX HX7 HL
  go_wp2_with fail
  rw [show w6.setCell ⟨r7, 6, none⟩ (.slice (some ⟨g, 0, none⟩) (ls.length + 1) cap) = V6 from H6.out.symm]
  clear q0 q1 q2 q3 q4 q5 q6 t6 z6 hnb hnb' hV6
  refine (C0.out V6 (Below.refl _ _)).mono ?_
  rintro e u0 ⟨rfl, hb0⟩
  have HC0 : Hid (Below V6.heap.size V6 u0) := Lib.hid hb0
  clear hb0
  obtain ⟨q0, q1, q2, q3, q4, q5, q6⟩ : u0.cell? ⟨w.heap.size, 0, none⟩ = some (.int .i64 a1) ∧ u0.cell? ⟨w.heap.size, 1, none⟩ = some (.int .i64 i1) ∧ u0.cell? ⟨w.heap.size, 2, none⟩ = some (.string s1) ∧ u0.cell? ⟨w.heap.size, 3, none⟩ = some (.slice A1 n1 c1) ∧ u0.cell? ⟨w.heap.size, 4, none⟩ = some (.slice A2 n2 c2) ∧ u0.cell? ⟨w.heap.size, 5, none⟩ = some (.slice A3 n3 c3) ∧ u0.cell? ⟨w.heap.size, 6, none⟩ = some (.slice A4 n4 c4) := by have h := HKV.out u0 (HWU.out u0 HC0.out); exact cells7 h
  go_wp2_with fail
  clear q0 q1 q2 q3 q4 q5 q6
  refine (Cv.out u0 HC0.out).mono ?_
  rintro e u1 ⟨rfl, hb0⟩
  have HC1 : Hid (Below V6.heap.size V6 u1) := Lib.hid (step_below HC0.out (Nat.le_refl _) hb0)
  clear hb0
  obtain ⟨q0, q1, q2, q3, q4, q5, q6⟩ : u1.cell? ⟨r4, 0, none⟩ = some (.int .i64 kd) ∧ u1.cell? ⟨r4, 1, none⟩ = some (.int .i64 i2) ∧ u1.cell? ⟨r4, 2, none⟩ = some (.string s2) ∧ u1.cell? ⟨r4, 3, none⟩ = some (.slice P1 m1 e1) ∧ u1.cell? ⟨r4, 4, none⟩ = some (.slice P2 m2 e2) ∧ u1.cell? ⟨r4, 5, none⟩ = some (.slice P3 m3 e3) ∧ u1.cell? ⟨r4, 6, none⟩ = some (.slice P4 m4 e4) := by have h := HK4.out u1 HC1.out; exact cells7 h
  go_wp2_with fail
  clear q0 q1 q2 q3 q4 q5 q6
  refine (C4.out u1 HC1.out).mono ?_
  rintro e u2 ⟨rfl, hb0⟩
  have HC2 : Hid (Below V6.heap.size V6 u2) := Lib.hid (step_below HC1.out (Nat.le_refl _) hb0)
  clear hb0
  obtain ⟨q0, q1, q2, q3, q4, q5, q6⟩ : u2.cell? ⟨r5, 0, none⟩ = some (.int .i64 a2) ∧ u2.cell? ⟨r5, 1, none⟩ = some (.int .i64 ni) ∧ u2.cell? ⟨r5, 2, none⟩ = some (.string s2) ∧ u2.cell? ⟨r5, 3, none⟩ = some (.slice P1 m1 e1) ∧ u2.cell? ⟨r5, 4, none⟩ = some (.slice P2 m2 e2) ∧ u2.cell? ⟨r5, 5, none⟩ = some (.slice P3 m3 e3) ∧ u2.cell? ⟨r5, 6, none⟩ = some (.slice P4 m4 e4) := by have h := HK5.out u2 HC2.out; exact cells7 h
  go_wp2_with fail
  clear q0 q1 q2 q3 q4 q5 q6
  refine (C5.out u2 HC2.out).mono ?_
  rintro e u3 ⟨rfl, hb0⟩
  have HC3 : Hid (Below V6.heap.size V6 u3) := Lib.hid (step_below HC2.out (Nat.le_refl _) hb0)
  clear hb0
  obtain ⟨q0, q1, q2, q3, q4, q5, q6⟩ : u3.cell? ⟨r6, 0, none⟩ = some (.int .i64 a2) ∧ u3.cell? ⟨r6, 1, none⟩ = some (.int .i64 i2) ∧ u3.cell? ⟨r6, 2, none⟩ = some (.string ⟨s.toArray⟩) ∧ u3.cell? ⟨r6, 3, none⟩ = some (.slice P1 m1 e1) ∧ u3.cell? ⟨r6, 4, none⟩ = some (.slice P2 m2 e2) ∧ u3.cell? ⟨r6, 5, none⟩ = some (.slice P3 m3 e3) ∧ u3.cell? ⟨r6, 6, none⟩ = some (.slice P4 m4 e4) := by have h := HK6.out u3 HC3.out; exact cells7 h
  go_wp2_with fail
  clear q0 q1 q2 q3 q4 q5 q6
  refine (C6.out u3 HC3.out).mono ?_
  rintro e u4 ⟨rfl, hb0⟩
  have HC4 : Hid (Below V6.heap.size V6 u4) := Lib.hid (step_below HC3.out (Nat.le_refl _) hb0)
  clear hb0
  obtain ⟨q0, q1, q2, q3, q4, q5, q6⟩ : u4.cell? ⟨r7, 0, none⟩ = some (.int .i64 a2) ∧ u4.cell? ⟨r7, 1, none⟩ = some (.int .i64 i2) ∧ u4.cell? ⟨r7, 2, none⟩ = some (.string s2) ∧ u4.cell? ⟨r7, 3, none⟩ = some (.slice P1 m1 e1) ∧ u4.cell? ⟨r7, 4, none⟩ = some (.slice P2 m2 e2) ∧ u4.cell? ⟨r7, 5, none⟩ = some (.slice P3 m3 e3) ∧ u4.cell? ⟨r7, 6, none⟩ = some (.slice (some ⟨g, 0, none⟩) (ls.length + 1) cap) := by have h := HK7.out u4 HC4.out; exact cells7 h
  go_wp2_with fail
  clear q0 q1 q2 q3 q4 q5 q6
  refine (C7.out u4 HC4.out).mono ?_
  rintro e u5 ⟨rfl, hb0⟩
  have HC5 : Hid (Below V6.heap.size V6 u5) := Lib.hid (step_below HC4.out (Nat.le_refl _) hb0)
  clear hb0
  go_wp2_with (go_at_call 9; refine (awake_any _).mono ?_; rintro e u9 ⟨rfl, hb9⟩; refine Hid.out ?_)
  refine Lib.hid ?_
  go_wp2
  go_ret
  exact ⟨rfl, HW.out.trans ((HWU.out u9 (step_below HC5.out (Nat.le_refl _) hb9)).mono HW.out.size)⟩
end Go.Proofs.YtjfknigiehggkaaGreat
