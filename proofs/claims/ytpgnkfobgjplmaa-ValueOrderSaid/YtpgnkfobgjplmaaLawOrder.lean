/- What the law ValueOrder returns: true, whatever the three values are. Conditions: none. -/
import Derived.Test.YtpgnkfobgjplmaaAwake4
import Derived.Test.YtpgnkfobgjplmaaCompareR
namespace Go.Proofs.Ytpgnkfobgjplmaa
open Go Go.RowKit
set_option maxRecDepth 100000 in
set_option maxHeartbeats 1600000 in
theorem small_any (k : Nat) (v : Vl) (cs : List Value) (w : World) (h : VS k w w.heap.size v cs) : Calls Try.prog 5 #[.agg cs.toArray] w fun e w' => e = .returned (.bool (decide (wrap64 (nodes v) ≤ 60))) ∧ Below w.heap.size w w' := by
  obtain ⟨a, i, s, B1, n1, d1, B2, n2, d2, B3, n3, d3, B4, n4, d4, rfl⟩ := h.form7
  obtain ⟨W, hW⟩ : ∃ W, W = w.alloc (.cells #[.int .i64 a, .int .i64 i, .string s, .slice B1 n1 d1, .slice B2 n2 d2, .slice B3 n3 d3, .slice B4 n4 d4] 27) := ⟨_, rfl⟩
  have hbb : Below w.heap.size w W := by rw [hW]; exact (Below.refl _ _).alloc (Nat.le_refl _) _
  have q0 : W.cell? ⟨w.heap.size, 0, none⟩ = some (.int .i64 a) := by rw [hW]; simp
  have q1 : W.cell? ⟨w.heap.size, 1, none⟩ = some (.int .i64 i) := by rw [hW]; simp
  have q2 : W.cell? ⟨w.heap.size, 2, none⟩ = some (.string s) := by rw [hW]; simp
  have q3 : W.cell? ⟨w.heap.size, 3, none⟩ = some (.slice B1 n1 d1) := by rw [hW]; simp
  have q4 : W.cell? ⟨w.heap.size, 4, none⟩ = some (.slice B2 n2 d2) := by rw [hW]; simp
  have q5 : W.cell? ⟨w.heap.size, 5, none⟩ = some (.slice B3 n3 d3) := by rw [hW]; simp
  have q6 : W.cell? ⟨w.heap.size, 6, none⟩ = some (.slice B4 n4 d4) := by rw [hW]; simp
  have hc := nodes_any k v _ W (VS.up hbb.size (Nat.le_refl _) (VS.on hbb h))
  have HB := Lib.hid hbb
  clear h hbb
  generalize wrap64 (nodes v : Int) = z at hc ⊢
  go_enter Try.func5, Try.ntmps5
  go_wp2_with fail
  rw [← hW]
  clear hW
  go_wp2_with (go_at_call 9; refine hc.mono ?_; rintro e w1 ⟨rfl, hb1⟩; refine Hid.out ?_)
  refine Lib.hid ?_
  clear hc
  go_wp2
  go_ret
  exact ⟨rfl, HB.out.trans (hb1.mono HB.out.size)⟩
set_option maxRecDepth 100000 in
set_option maxHeartbeats 12800000 in
theorem order_law (k : Nat) (a b c : Vl) (ca cb cc : List Value) (w : World) (ha : VS k w w.heap.size a ca) (hb : VS k w w.heap.size b cb) (hc : VS k w w.heap.size c cc) : Calls Try.prog 4 #[.agg ca.toArray, .agg cb.toArray, .agg cc.toArray] w fun e w' => e = .returned (.bool true) ∧ Below w.heap.size w w' := by
  obtain ⟨a1, i1, s1, B11, n11, d11, B21, n21, d21, B31, n31, d31, B41, n41, d41, rfl⟩ := ha.form7
  obtain ⟨a2, i2, s2, B12, n12, d12, B22, n22, d22, B32, n32, d32, B42, n42, d42, rfl⟩ := hb.form7
  obtain ⟨a3, i3, s3, B13, n13, d13, B23, n23, d23, B33, n33, d33, B43, n43, d43, rfl⟩ := hc.form7
  obtain ⟨W, hW⟩ : ∃ W, W = ((w.alloc (.cells #[.int .i64 a1, .int .i64 i1, .string s1, .slice B11 n11 d11, .slice B21 n21 d21, .slice B31 n31 d31, .slice B41 n41 d41] 27)).alloc (.cells #[.int .i64 a2, .int .i64 i2, .string s2, .slice B12 n12 d12, .slice B22 n22 d22, .slice B32 n32 d32, .slice B42 n42 d42] 27)).alloc (.cells #[.int .i64 a3, .int .i64 i3, .string s3, .slice B13 n13 d13, .slice B23 n23 d23, .slice B33 n33 d33, .slice B43 n43 d43] 27) := ⟨_, rfl⟩
  have hbb : Below w.heap.size w W := by rw [hW]; exact (((Below.refl _ _).alloc (Nat.le_refl _) _).alloc (by simp) _).alloc (by simp; omega) _
  have hz : W.heap.size = w.heap.size + 3 := by rw [hW]; simp
  have k0 : W.heap[w.heap.size]? = some (.cells #[.int .i64 a1, .int .i64 i1, .string s1, .slice B11 n11 d11, .slice B21 n21 d21, .slice B31 n31 d31, .slice B41 n41 d41] 27 (0, 0)) := by rw [hW, Below.heap_alloc _ _ _ (by simp; omega), Below.heap_alloc _ _ _ (by simp)]; exact heap_alloc_new w _
  have k1 : W.heap[w.heap.size + 1]? = some (.cells #[.int .i64 a2, .int .i64 i2, .string s2, .slice B12 n12 d12, .slice B22 n22 d22, .slice B32 n32 d32, .slice B42 n42 d42] 27 (0, 0)) := by rw [hW, Below.heap_alloc _ _ _ (by simp)]; exact new_at' _ (by simp)
  have k2 : W.heap[w.heap.size + 1 + 1]? = some (.cells #[.int .i64 a3, .int .i64 i3, .string s3, .slice B13 n13 d13, .slice B23 n23 d23, .slice B33 n33 d33, .slice B43 n43 d43] 27 (0, 0)) := by rw [hW]; exact new_at' _ (by simp)
  have hHK : ∀ wq, Below W.heap.size W wq → wq.cell? ⟨w.heap.size, 0, none⟩ = some (.int .i64 a1) ∧ wq.cell? ⟨w.heap.size, 1, none⟩ = some (.int .i64 i1) ∧ wq.cell? ⟨w.heap.size, 2, none⟩ = some (.string s1) ∧ wq.cell? ⟨w.heap.size, 3, none⟩ = some (.slice B11 n11 d11) ∧ wq.cell? ⟨w.heap.size, 4, none⟩ = some (.slice B21 n21 d21) ∧ wq.cell? ⟨w.heap.size, 5, none⟩ = some (.slice B31 n31 d31) ∧ wq.cell? ⟨w.heap.size, 6, none⟩ = some (.slice B41 n41 d41) ∧ wq.cell? ⟨w.heap.size + 1, 0, none⟩ = some (.int .i64 a2) ∧ wq.cell? ⟨w.heap.size + 1, 1, none⟩ = some (.int .i64 i2) ∧ wq.cell? ⟨w.heap.size + 1, 2, none⟩ = some (.string s2) ∧ wq.cell? ⟨w.heap.size + 1, 3, none⟩ = some (.slice B12 n12 d12) ∧ wq.cell? ⟨w.heap.size + 1, 4, none⟩ = some (.slice B22 n22 d22) ∧ wq.cell? ⟨w.heap.size + 1, 5, none⟩ = some (.slice B32 n32 d32) ∧ wq.cell? ⟨w.heap.size + 1, 6, none⟩ = some (.slice B42 n42 d42) ∧ wq.cell? ⟨w.heap.size + 1 + 1, 0, none⟩ = some (.int .i64 a3) ∧ wq.cell? ⟨w.heap.size + 1 + 1, 1, none⟩ = some (.int .i64 i3) ∧ wq.cell? ⟨w.heap.size + 1 + 1, 2, none⟩ = some (.string s3) ∧ wq.cell? ⟨w.heap.size + 1 + 1, 3, none⟩ = some (.slice B13 n13 d13) ∧ wq.cell? ⟨w.heap.size + 1 + 1, 4, none⟩ = some (.slice B23 n23 d23) ∧ wq.cell? ⟨w.heap.size + 1 + 1, 5, none⟩ = some (.slice B33 n33 d33) ∧ wq.cell? ⟨w.heap.size + 1 + 1, 6, none⟩ = some (.slice B43 n43 d43) := fun wq h => ⟨(h.cell (p := ⟨_, 0, none⟩) (by show w.heap.size < _; omega)).trans ((Lib.cell_of_heap k0 0).trans rfl), (h.cell (p := ⟨_, 1, none⟩) (by show w.heap.size < _; omega)).trans ((Lib.cell_of_heap k0 1).trans rfl), (h.cell (p := ⟨_, 2, none⟩) (by show w.heap.size < _; omega)).trans ((Lib.cell_of_heap k0 2).trans rfl), (h.cell (p := ⟨_, 3, none⟩) (by show w.heap.size < _; omega)).trans ((Lib.cell_of_heap k0 3).trans rfl), (h.cell (p := ⟨_, 4, none⟩) (by show w.heap.size < _; omega)).trans ((Lib.cell_of_heap k0 4).trans rfl), (h.cell (p := ⟨_, 5, none⟩) (by show w.heap.size < _; omega)).trans ((Lib.cell_of_heap k0 5).trans rfl), (h.cell (p := ⟨_, 6, none⟩) (by show w.heap.size < _; omega)).trans ((Lib.cell_of_heap k0 6).trans rfl), (h.cell (p := ⟨_, 0, none⟩) (by show w.heap.size + 1 < _; omega)).trans ((Lib.cell_of_heap k1 0).trans rfl), (h.cell (p := ⟨_, 1, none⟩) (by show w.heap.size + 1 < _; omega)).trans ((Lib.cell_of_heap k1 1).trans rfl), (h.cell (p := ⟨_, 2, none⟩) (by show w.heap.size + 1 < _; omega)).trans ((Lib.cell_of_heap k1 2).trans rfl), (h.cell (p := ⟨_, 3, none⟩) (by show w.heap.size + 1 < _; omega)).trans ((Lib.cell_of_heap k1 3).trans rfl), (h.cell (p := ⟨_, 4, none⟩) (by show w.heap.size + 1 < _; omega)).trans ((Lib.cell_of_heap k1 4).trans rfl), (h.cell (p := ⟨_, 5, none⟩) (by show w.heap.size + 1 < _; omega)).trans ((Lib.cell_of_heap k1 5).trans rfl), (h.cell (p := ⟨_, 6, none⟩) (by show w.heap.size + 1 < _; omega)).trans ((Lib.cell_of_heap k1 6).trans rfl), (h.cell (p := ⟨_, 0, none⟩) (by show w.heap.size + 1 + 1 < _; omega)).trans ((Lib.cell_of_heap k2 0).trans rfl), (h.cell (p := ⟨_, 1, none⟩) (by show w.heap.size + 1 + 1 < _; omega)).trans ((Lib.cell_of_heap k2 1).trans rfl), (h.cell (p := ⟨_, 2, none⟩) (by show w.heap.size + 1 + 1 < _; omega)).trans ((Lib.cell_of_heap k2 2).trans rfl), (h.cell (p := ⟨_, 3, none⟩) (by show w.heap.size + 1 + 1 < _; omega)).trans ((Lib.cell_of_heap k2 3).trans rfl), (h.cell (p := ⟨_, 4, none⟩) (by show w.heap.size + 1 + 1 < _; omega)).trans ((Lib.cell_of_heap k2 4).trans rfl), (h.cell (p := ⟨_, 5, none⟩) (by show w.heap.size + 1 + 1 < _; omega)).trans ((Lib.cell_of_heap k2 5).trans rfl), (h.cell (p := ⟨_, 6, none⟩) (by show w.heap.size + 1 + 1 < _; omega)).trans ((Lib.cell_of_heap k2 6).trans rfl)⟩
  have HK := Lib.hid hHK
  have HVA : Hid (∀ wq, Below W.heap.size W wq → VS k wq wq.heap.size a [.int .i64 a1, .int .i64 i1, .string s1, .slice B11 n11 d11, .slice B21 n21 d21, .slice B31 n31 d31, .slice B41 n41 d41]) := Lib.hid fun wq h => VS.up (Nat.le_trans hbb.size h.size) (Nat.le_refl _) (VS.on (hbb.trans (h.mono hbb.size)) ha)
  have HVB : Hid (∀ wq, Below W.heap.size W wq → VS k wq wq.heap.size b [.int .i64 a2, .int .i64 i2, .string s2, .slice B12 n12 d12, .slice B22 n22 d22, .slice B32 n32 d32, .slice B42 n42 d42]) := Lib.hid fun wq h => VS.up (Nat.le_trans hbb.size h.size) (Nat.le_refl _) (VS.on (hbb.trans (h.mono hbb.size)) hb)
  have HVC : Hid (∀ wq, Below W.heap.size W wq → VS k wq wq.heap.size c [.int .i64 a3, .int .i64 i3, .string s3, .slice B13 n13 d13, .slice B23 n23 d23, .slice B33 n33 d33, .slice B43 n43 d43]) := Lib.hid fun wq h => VS.up (Nat.le_trans hbb.size h.size) (Nat.le_refl _) (VS.on (hbb.trans (h.mono hbb.size)) hc)
  have HB := Lib.hid hbb
  have HW0 := Lib.hid (Below.refl W.heap.size W)
  have HSA := fun wq h => small_any k a _ wq (HVA.out wq h)
  have HSB := fun wq h => small_any k b _ wq (HVB.out wq h)
  have HSC := fun wq h => small_any k c _ wq (HVC.out wq h)
  have HSA := Lib.hid HSA
  have HSB := Lib.hid HSB
  have HSC := Lib.hid HSC
  generalize decide (wrap64 (nodes a : Int) ≤ 60) = sa at HSA
  generalize decide (wrap64 (nodes b : Int) ≤ 60) = sb at HSB
  generalize decide (wrap64 (nodes c : Int) ≤ 60) = sc at HSC
  obtain ⟨q00, q01, q02, q03, q04, q05, q06, q10, q11, q12, q13, q14, q15, q16, q20, q21, q22, q23, q24, q25, q26⟩ := hHK W (Below.refl _ _)
  clear ha hb hc hbb k0 k1 k2 hHK hz
  go_enter Try.func4, Try.ntmps4
  go_wp2_with fail
  rw [← hW]
  clear hW
  go_wp2_with (go_at_call 5; refine (HSA.out _ HW0.out).mono ?_; rintro e w1 ⟨rfl, hb1⟩; refine Hid.out ?_)
  refine Lib.hid ?_
  have HW1 := Lib.hid (step_below HW0.out (Nat.le_refl _) hb1)
  clear hb1 q00 q01 q02 q03 q04 q05 q06 q10 q11 q12 q13 q14 q15 q16 q20 q21 q22 q23 q24 q25 q26
  cases sa
  case false =>
    go_wp2_with (go_at_call 6; refine (awake_any _).mono ?_; rintro e w9 ⟨rfl, hb9⟩; refine Hid.out ?_)
    refine Lib.hid ?_
    go_wp2
    go_ret
    exact ⟨rfl, HB.out.trans ((step_below HW1.out (Nat.le_refl _) hb9).mono HB.out.size)⟩
  obtain ⟨q00, q01, q02, q03, q04, q05, q06, q10, q11, q12, q13, q14, q15, q16, q20, q21, q22, q23, q24, q25, q26⟩ := HK.out _ HW1.out
  go_wp2_with (go_at_call 5; refine (HSB.out _ HW1.out).mono ?_; rintro e w2 ⟨rfl, hb2⟩; refine Hid.out ?_)
  refine Lib.hid ?_
  have HW2 := Lib.hid (step_below HW1.out (Nat.le_refl _) hb2)
  clear hb2 q00 q01 q02 q03 q04 q05 q06 q10 q11 q12 q13 q14 q15 q16 q20 q21 q22 q23 q24 q25 q26
  cases sb
  case false =>
    go_wp2_with (go_at_call 6; refine (awake_any _).mono ?_; rintro e w9 ⟨rfl, hb9⟩; refine Hid.out ?_)
    refine Lib.hid ?_
    go_wp2
    go_ret
    exact ⟨rfl, HB.out.trans ((step_below HW2.out (Nat.le_refl _) hb9).mono HB.out.size)⟩
  obtain ⟨q00, q01, q02, q03, q04, q05, q06, q10, q11, q12, q13, q14, q15, q16, q20, q21, q22, q23, q24, q25, q26⟩ := HK.out _ HW2.out
  go_wp2_with (go_at_call 5; refine (HSC.out _ HW2.out).mono ?_; rintro e w3 ⟨rfl, hb3⟩; refine Hid.out ?_)
  refine Lib.hid ?_
  have HW3 := Lib.hid (step_below HW2.out (Nat.le_refl _) hb3)
  clear hb3 q00 q01 q02 q03 q04 q05 q06 q10 q11 q12 q13 q14 q15 q16 q20 q21 q22 q23 q24 q25 q26
  cases sc
  case false =>
    go_wp2_with (go_at_call 6; refine (awake_any _).mono ?_; rintro e w9 ⟨rfl, hb9⟩; refine Hid.out ?_)
    refine Lib.hid ?_
    go_wp2
    go_ret
    exact ⟨rfl, HB.out.trans ((step_below HW3.out (Nat.le_refl _) hb9).mono HB.out.size)⟩
  obtain ⟨q00, q01, q02, q03, q04, q05, q06, q10, q11, q12, q13, q14, q15, q16, q20, q21, q22, q23, q24, q25, q26⟩ := HK.out _ HW3.out
  go_wp2_with fail
  have H3 : Hid (∀ wq, Below w3.heap.size w3 wq → Below W.heap.size W wq) := Lib.hid fun wq h => step_below HW3.out (Nat.le_refl _) h
  clear q00 q01 q02 q03 q04 q05 q06 q10 q11 q12 q13 q14 q15 q16 q20 q21 q22 q23 q24 q25 q26
  refine wp_region_held_drew (S := fun wq => wq.cell? ⟨w.heap.size, 0, none⟩ = some (.int .i64 a1) ∧ wq.cell? ⟨w.heap.size, 1, none⟩ = some (.int .i64 i1) ∧ wq.cell? ⟨w.heap.size, 2, none⟩ = some (.string s1) ∧ wq.cell? ⟨w.heap.size, 3, none⟩ = some (.slice B11 n11 d11) ∧ wq.cell? ⟨w.heap.size, 4, none⟩ = some (.slice B21 n21 d21) ∧ wq.cell? ⟨w.heap.size, 5, none⟩ = some (.slice B31 n31 d31) ∧ wq.cell? ⟨w.heap.size, 6, none⟩ = some (.slice B41 n41 d41) ∧ wq.cell? ⟨w.heap.size + 1, 0, none⟩ = some (.int .i64 a2) ∧ wq.cell? ⟨w.heap.size + 1, 1, none⟩ = some (.int .i64 i2) ∧ wq.cell? ⟨w.heap.size + 1, 2, none⟩ = some (.string s2) ∧ wq.cell? ⟨w.heap.size + 1, 3, none⟩ = some (.slice B12 n12 d12) ∧ wq.cell? ⟨w.heap.size + 1, 4, none⟩ = some (.slice B22 n22 d22) ∧ wq.cell? ⟨w.heap.size + 1, 5, none⟩ = some (.slice B32 n32 d32) ∧ wq.cell? ⟨w.heap.size + 1, 6, none⟩ = some (.slice B42 n42 d42) ∧ wq.cell? ⟨w.heap.size + 1 + 1, 0, none⟩ = some (.int .i64 a3) ∧ wq.cell? ⟨w.heap.size + 1 + 1, 1, none⟩ = some (.int .i64 i3) ∧ wq.cell? ⟨w.heap.size + 1 + 1, 2, none⟩ = some (.string s3) ∧ wq.cell? ⟨w.heap.size + 1 + 1, 3, none⟩ = some (.slice B13 n13 d13) ∧ wq.cell? ⟨w.heap.size + 1 + 1, 4, none⟩ = some (.slice B23 n23 d23) ∧ wq.cell? ⟨w.heap.size + 1 + 1, 5, none⟩ = some (.slice B33 n33 d33) ∧ wq.cell? ⟨w.heap.size + 1 + 1, 6, none⟩ = some (.slice B43 n43 d43)) (by kernel_rfl) (HK.out _ HW3.out.drew) (fun _ => ?_)
  have hB9 : Below W.heap.size W w3.drew := HW3.out.drew
  refine take_op (i := 0) (v := _) rfl (by kernel_rfl) (by kernel_rfl) (by kernel_rfl) (fun _ _ _ h => h) (Or.inl ⟨by rfl, (by intro w hSw; (try dsimp only at hSw); go_simp; try with_reducible rfl)⟩) (HK.out _ hB9) ?_
  try simp only [Act.put, List.setIfInBounds_toArray, List.set_cons_zero, List.set_cons_succ]
  refine take_op (i := 1) (v := _) rfl (by kernel_rfl) (by kernel_rfl) (by kernel_rfl) (fun _ _ _ h => h) (Or.inl ⟨by rfl, (by intro w hSw; (try dsimp only at hSw); go_simp; try with_reducible rfl)⟩) (HK.out _ hB9) ?_
  try simp only [Act.put, List.setIfInBounds_toArray, List.set_cons_zero, List.set_cons_succ]
  refine take_op (i := 3) (v := _) rfl (by kernel_rfl) (by kernel_rfl) (by kernel_rfl) (fun _ _ _ h => h) (Or.inl ⟨by rfl, (by intro w hSw; (try dsimp only at hSw); go_simp; try with_reducible rfl)⟩) (HK.out _ hB9) ?_
  try simp only [Act.put, List.setIfInBounds_toArray, List.set_cons_zero, List.set_cons_succ]
  refine take_op (i := 4) (v := _) rfl (by kernel_rfl) (by kernel_rfl) (by kernel_rfl) (fun _ _ _ h => h) (Or.inl ⟨by rfl, (by intro w hSw; (try dsimp only at hSw); go_simp; try with_reducible rfl)⟩) (HK.out _ hB9) ?_
  try simp only [Act.put, List.setIfInBounds_toArray, List.set_cons_zero, List.set_cons_succ]
  refine take_op (i := 6) (v := _) rfl (by kernel_rfl) (by kernel_rfl) (by kernel_rfl) (fun _ _ _ h => h) (Or.inl ⟨by rfl, (by intro w hSw; (try dsimp only at hSw); go_simp; try with_reducible rfl)⟩) (HK.out _ hB9) ?_
  try simp only [Act.put, List.setIfInBounds_toArray, List.set_cons_zero, List.set_cons_succ]
  refine take_op (i := 7) (v := _) rfl (by kernel_rfl) (by kernel_rfl) (by kernel_rfl) (fun _ _ _ h => h) (Or.inl ⟨by rfl, (by intro w hSw; (try dsimp only at hSw); go_simp; try with_reducible rfl)⟩) (HK.out _ hB9) ?_
  try simp only [Act.put, List.setIfInBounds_toArray, List.set_cons_zero, List.set_cons_succ]
  refine one_op 2 (by kernel_rfl) rfl (by rfl) (fun K9 hK => ?_)
  go_simp
  refine (compareP_any k a b _ _ _ (HVA.out _ hB9) (HVB.out _ hB9)).mono ?_
  rintro e w10 ⟨rfl, hb10⟩
  have hB10 : Below W.heap.size W w10 := step_below hB9 (Nat.le_refl _) hb10
  clear hB9 hb10
  refine hK _ _ (HK.out _ hB10) ?_
  try simp only [Act.put, List.setIfInBounds_toArray, List.set_cons_zero, List.set_cons_succ]
  clear hK K9
  refine one_op 5 (by kernel_rfl) rfl (by rfl) (fun K9 hK => ?_)
  go_simp
  refine (compareP_any k b c _ _ _ (HVB.out _ hB10) (HVC.out _ hB10)).mono ?_
  rintro e w11 ⟨rfl, hb11⟩
  have hB11 : Below W.heap.size W w11 := step_below hB10 (Nat.le_refl _) hb11
  clear hB10 hb11
  refine hK _ _ (HK.out _ hB11) ?_
  try simp only [Act.put, List.setIfInBounds_toArray, List.set_cons_zero, List.set_cons_succ]
  clear hK K9
  refine one_op 8 (by kernel_rfl) rfl (by rfl) (fun K9 hK => ?_)
  go_simp
  refine (compareP_any k a c _ _ _ (HVA.out _ hB11) (HVC.out _ hB11)).mono ?_
  rintro e w12 ⟨rfl, hb12⟩
  have hB12 : Below W.heap.size W w12 := step_below hB11 (Nat.le_refl _) hb12
  clear hB11 hb12
  refine hK _ _ (HK.out _ hB12) ?_
  try simp only [Act.put, List.setIfInBounds_toArray, List.set_cons_zero, List.set_cons_succ]
  clear hK K9
  refine take_op (i := 9) (v := _) rfl (by kernel_rfl) (by kernel_rfl) (by kernel_rfl) (fun _ _ _ h => h) (Or.inl ⟨by rfl, (by intro w hSw; (try dsimp only at hSw); go_simp; try with_reducible rfl)⟩) (HK.out _ hB12) ?_
  try simp only [Act.put, List.setIfInBounds_toArray, List.set_cons_zero, List.set_cons_succ]
  refine take_op (i := 10) (v := _) rfl (by kernel_rfl) (by kernel_rfl) (by kernel_rfl) (fun _ _ _ h => h) (Or.inl ⟨by rfl, (by intro w hSw; (try dsimp only at hSw); go_simp; try with_reducible rfl)⟩) (HK.out _ hB12) ?_
  try simp only [Act.put, List.setIfInBounds_toArray, List.set_cons_zero, List.set_cons_succ]
  refine take_op (i := 11) (v := _) rfl (by kernel_rfl) (by kernel_rfl) (by kernel_rfl) (fun _ _ _ h => h) (Or.inl ⟨by rfl, (by intro w hSw; (try dsimp only at hSw); go_simp; try with_reducible rfl)⟩) (HK.out _ hB12) ?_
  try simp only [Act.put, List.setIfInBounds_toArray, List.set_cons_zero, List.set_cons_succ]
  refine wpAnyH_done (by kernel_rfl) ?_ _
  have HX1 := Lib.hid (cmpV_range a b)
  have HX2 := Lib.hid (cmpV_swap a b)
  have HT : Hid (cmpV a b ≤ 0 → cmpV b c ≤ 0 → cmpV a c ≤ 0 ∧ (cmpV a b < 0 ∨ cmpV b c < 0 → cmpV a c < 0)) := Lib.hid fun h1 h2 => cmpV_trans h1 h2
  have HR := Lib.hid fun wq h => compareR_any k a b _ _ wq (HVA.out wq h) (HVB.out wq h)
  have HQ := Lib.hid fun wq h => compareP_any k b a _ _ wq (HVB.out wq h) (HVA.out wq h)
  have HE := Lib.hid fun wq h => equalP_any k a b _ _ wq (HVA.out wq h) (HVB.out wq h)
  have HEA : Hid (∀ wq, Below W.heap.size W wq → Calls Try.prog 14 #[.agg #[.int .i64 a1, .int .i64 i1, .string s1, .slice B11 n11 d11, .slice B21 n21 d21, .slice B31 n31 d31, .slice B41 n41 d41], .agg #[.int .i64 a1, .int .i64 i1, .string s1, .slice B11 n11 d11, .slice B21 n21 d21, .slice B31 n31 d31, .slice B41 n41 d41]] wq fun e w' => e = .returned (.bool true) ∧ Below wq.heap.size wq w') := Lib.hid fun wq h => (equalP_any k a a _ _ wq (HVA.out wq h) (HVA.out wq h)).mono fun e w' ⟨h1, h2⟩ => ⟨by rw [h1, cmpV_zero.2 rfl]; rfl, h2⟩
  generalize cmpV b a = xr at HX2 HQ
  generalize cmpV a b = x at HX1 HX2 HT HR HE ⊢
  generalize cmpV b c = y at HT ⊢
  generalize cmpV a c = z at HT ⊢
  obtain ⟨q00, q01, q02, q03, q04, q05, q06, q10, q11, q12, q13, q14, q15, q16, q20, q21, q22, q23, q24, q25, q26⟩ := HK.out _ hB12
  have HW12 := Lib.hid hB12
  clear hB12
  have hxr : xr = -x := HX2.out
  subst hxr
  have HP : Hid ((x = 1) ∨ (x = 0 ∧ 0 < y) ∨ (x = 0 ∧ y ≤ 0 ∧ z ≤ 0) ∨ (x = -1 ∧ 0 < y) ∨ (x = -1 ∧ y ≤ 0 ∧ z < 0)) := Lib.hid (by
    rcases HX1.out with h | h | h <;> rcases Int.lt_or_le 0 y with h' | h' <;> (have := HT.out) <;> omega)
  clear HX1 HX2 HT
  rcases HP.out with rfl | ⟨rfl, hy⟩ | ⟨rfl, hy, hz⟩ | ⟨rfl, hy⟩ | ⟨rfl, hy, hz⟩
  · clear HP
    go_wp2_with (go_at_call 13; refine (HR.out _ HW12.out).mono ?_; rintro e w13 ⟨rfl, hb13⟩; refine Hid.out ?_)
    refine Lib.hid ?_
    have HW13 := Lib.hid (step_below HW12.out (Nat.le_refl _) hb13)
    clear hb13 q00 q01 q02 q03 q04 q05 q06 q10 q11 q12 q13 q14 q15 q16 q20 q21 q22 q23 q24 q25 q26
    obtain ⟨q00, q01, q02, q03, q04, q05, q06, q10, q11, q12, q13, q14, q15, q16, q20, q21, q22, q23, q24, q25, q26⟩ := HK.out _ HW13.out
    go_wp2_with (go_at_call 12; refine (HQ.out _ HW13.out).mono ?_; rintro e w14 ⟨rfl, hb14⟩; refine Hid.out ?_)
    refine Lib.hid ?_
    have HW14 := Lib.hid (step_below HW13.out (Nat.le_refl _) hb14)
    clear hb14 q00 q01 q02 q03 q04 q05 q06 q10 q11 q12 q13 q14 q15 q16 q20 q21 q22 q23 q24 q25 q26
    obtain ⟨q00, q01, q02, q03, q04, q05, q06, q10, q11, q12, q13, q14, q15, q16, q20, q21, q22, q23, q24, q25, q26⟩ := HK.out _ HW14.out
    go_wp2_with (go_at_call 14; refine (HE.out _ HW14.out).mono ?_; rintro e w15 ⟨rfl, hb15⟩; refine Hid.out ?_)
    refine Lib.hid ?_
    have HW15 := Lib.hid (step_below HW14.out (Nat.le_refl _) hb15)
    clear hb15 q00 q01 q02 q03 q04 q05 q06 q10 q11 q12 q13 q14 q15 q16 q20 q21 q22 q23 q24 q25 q26
    obtain ⟨q00, q01, q02, q03, q04, q05, q06, q10, q11, q12, q13, q14, q15, q16, q20, q21, q22, q23, q24, q25, q26⟩ := HK.out _ HW15.out
    go_wp2_with (go_at_call 14; refine (HEA.out _ HW15.out).mono ?_; rintro e w16 ⟨rfl, hb16⟩; refine Hid.out ?_)
    refine Lib.hid ?_
    have HW16 := Lib.hid (step_below HW15.out (Nat.le_refl _) hb16)
    clear hb16 q00 q01 q02 q03 q04 q05 q06 q10 q11 q12 q13 q14 q15 q16 q20 q21 q22 q23 q24 q25 q26
    go_wp2_with (go_at_call 6; refine (awake_any _).mono ?_; rintro e w17 ⟨rfl, hb17⟩; refine Hid.out ?_)
    refine Lib.hid ?_
    go_wp2
    go_ret
    exact ⟨rfl, HB.out.trans ((step_below HW16.out (Nat.le_refl _) hb17).mono HB.out.size)⟩
  · clear HP
    go_wp2_with (go_at_call 13; refine (HR.out _ HW12.out).mono ?_; rintro e w13 ⟨rfl, hb13⟩; refine Hid.out ?_)
    refine Lib.hid ?_
    have HW13 := Lib.hid (step_below HW12.out (Nat.le_refl _) hb13)
    clear hb13 q00 q01 q02 q03 q04 q05 q06 q10 q11 q12 q13 q14 q15 q16 q20 q21 q22 q23 q24 q25 q26
    obtain ⟨q00, q01, q02, q03, q04, q05, q06, q10, q11, q12, q13, q14, q15, q16, q20, q21, q22, q23, q24, q25, q26⟩ := HK.out _ HW13.out
    go_wp2_with (go_at_call 14; refine (HE.out _ HW13.out).mono ?_; rintro e w15 ⟨rfl, hb15⟩; refine Hid.out ?_)
    refine Lib.hid ?_
    have HW15 := Lib.hid (step_below HW13.out (Nat.le_refl _) hb15)
    clear hb15 q00 q01 q02 q03 q04 q05 q06 q10 q11 q12 q13 q14 q15 q16 q20 q21 q22 q23 q24 q25 q26
    obtain ⟨q00, q01, q02, q03, q04, q05, q06, q10, q11, q12, q13, q14, q15, q16, q20, q21, q22, q23, q24, q25, q26⟩ := HK.out _ HW15.out
    go_wp2_with (go_at_call 14; refine (HEA.out _ HW15.out).mono ?_; rintro e w16 ⟨rfl, hb16⟩; refine Hid.out ?_)
    refine Lib.hid ?_
    have HW16 := Lib.hid (step_below HW15.out (Nat.le_refl _) hb16)
    clear hb16 q00 q01 q02 q03 q04 q05 q06 q10 q11 q12 q13 q14 q15 q16 q20 q21 q22 q23 q24 q25 q26
    go_wp2_with (go_at_call 6; refine (awake_any _).mono ?_; rintro e w17 ⟨rfl, hb17⟩; refine Hid.out ?_)
    refine Lib.hid ?_
    go_wp2
    go_ret
    exact ⟨rfl, HB.out.trans ((step_below HW16.out (Nat.le_refl _) hb17).mono HB.out.size)⟩
  · clear HP
    go_wp2_with (go_at_call 13; refine (HR.out _ HW12.out).mono ?_; rintro e w13 ⟨rfl, hb13⟩; refine Hid.out ?_)
    refine Lib.hid ?_
    have HW13 := Lib.hid (step_below HW12.out (Nat.le_refl _) hb13)
    clear hb13 q00 q01 q02 q03 q04 q05 q06 q10 q11 q12 q13 q14 q15 q16 q20 q21 q22 q23 q24 q25 q26
    obtain ⟨q00, q01, q02, q03, q04, q05, q06, q10, q11, q12, q13, q14, q15, q16, q20, q21, q22, q23, q24, q25, q26⟩ := HK.out _ HW13.out
    go_wp2_with (go_at_call 14; refine (HE.out _ HW13.out).mono ?_; rintro e w15 ⟨rfl, hb15⟩; refine Hid.out ?_)
    refine Lib.hid ?_
    have HW15 := Lib.hid (step_below HW13.out (Nat.le_refl _) hb15)
    clear hb15 q00 q01 q02 q03 q04 q05 q06 q10 q11 q12 q13 q14 q15 q16 q20 q21 q22 q23 q24 q25 q26
    obtain ⟨q00, q01, q02, q03, q04, q05, q06, q10, q11, q12, q13, q14, q15, q16, q20, q21, q22, q23, q24, q25, q26⟩ := HK.out _ HW15.out
    go_wp2_with (go_at_call 14; refine (HEA.out _ HW15.out).mono ?_; rintro e w16 ⟨rfl, hb16⟩; refine Hid.out ?_)
    refine Lib.hid ?_
    have HW16 := Lib.hid (step_below HW15.out (Nat.le_refl _) hb16)
    clear hb16 q00 q01 q02 q03 q04 q05 q06 q10 q11 q12 q13 q14 q15 q16 q20 q21 q22 q23 q24 q25 q26
    go_wp2_with (go_at_call 6; refine (awake_any _).mono ?_; rintro e w17 ⟨rfl, hb17⟩; refine Hid.out ?_)
    refine Lib.hid ?_
    go_wp2
    go_ret
    exact ⟨rfl, HB.out.trans ((step_below HW16.out (Nat.le_refl _) hb17).mono HB.out.size)⟩
  · clear HP
    go_wp2_with (go_at_call 13; refine (HR.out _ HW12.out).mono ?_; rintro e w13 ⟨rfl, hb13⟩; refine Hid.out ?_)
    refine Lib.hid ?_
    have HW13 := Lib.hid (step_below HW12.out (Nat.le_refl _) hb13)
    clear hb13 q00 q01 q02 q03 q04 q05 q06 q10 q11 q12 q13 q14 q15 q16 q20 q21 q22 q23 q24 q25 q26
    obtain ⟨q00, q01, q02, q03, q04, q05, q06, q10, q11, q12, q13, q14, q15, q16, q20, q21, q22, q23, q24, q25, q26⟩ := HK.out _ HW13.out
    go_wp2_with (go_at_call 12; refine (HQ.out _ HW13.out).mono ?_; rintro e w14 ⟨rfl, hb14⟩; refine Hid.out ?_)
    refine Lib.hid ?_
    have HW14 := Lib.hid (step_below HW13.out (Nat.le_refl _) hb14)
    clear hb14 q00 q01 q02 q03 q04 q05 q06 q10 q11 q12 q13 q14 q15 q16 q20 q21 q22 q23 q24 q25 q26
    obtain ⟨q00, q01, q02, q03, q04, q05, q06, q10, q11, q12, q13, q14, q15, q16, q20, q21, q22, q23, q24, q25, q26⟩ := HK.out _ HW14.out
    go_wp2_with (go_at_call 14; refine (HE.out _ HW14.out).mono ?_; rintro e w15 ⟨rfl, hb15⟩; refine Hid.out ?_)
    refine Lib.hid ?_
    have HW15 := Lib.hid (step_below HW14.out (Nat.le_refl _) hb15)
    clear hb15 q00 q01 q02 q03 q04 q05 q06 q10 q11 q12 q13 q14 q15 q16 q20 q21 q22 q23 q24 q25 q26
    obtain ⟨q00, q01, q02, q03, q04, q05, q06, q10, q11, q12, q13, q14, q15, q16, q20, q21, q22, q23, q24, q25, q26⟩ := HK.out _ HW15.out
    go_wp2_with (go_at_call 14; refine (HEA.out _ HW15.out).mono ?_; rintro e w16 ⟨rfl, hb16⟩; refine Hid.out ?_)
    refine Lib.hid ?_
    have HW16 := Lib.hid (step_below HW15.out (Nat.le_refl _) hb16)
    clear hb16 q00 q01 q02 q03 q04 q05 q06 q10 q11 q12 q13 q14 q15 q16 q20 q21 q22 q23 q24 q25 q26
    go_wp2_with (go_at_call 6; refine (awake_any _).mono ?_; rintro e w17 ⟨rfl, hb17⟩; refine Hid.out ?_)
    refine Lib.hid ?_
    go_wp2
    go_ret
    exact ⟨rfl, HB.out.trans ((step_below HW16.out (Nat.le_refl _) hb17).mono HB.out.size)⟩
  · clear HP
    have hz2 : z ≤ 0 := by omega
    go_wp2_with (go_at_call 13; refine (HR.out _ HW12.out).mono ?_; rintro e w13 ⟨rfl, hb13⟩; refine Hid.out ?_)
    refine Lib.hid ?_
    have HW13 := Lib.hid (step_below HW12.out (Nat.le_refl _) hb13)
    clear hb13 q00 q01 q02 q03 q04 q05 q06 q10 q11 q12 q13 q14 q15 q16 q20 q21 q22 q23 q24 q25 q26
    obtain ⟨q00, q01, q02, q03, q04, q05, q06, q10, q11, q12, q13, q14, q15, q16, q20, q21, q22, q23, q24, q25, q26⟩ := HK.out _ HW13.out
    go_wp2_with (go_at_call 12; refine (HQ.out _ HW13.out).mono ?_; rintro e w14 ⟨rfl, hb14⟩; refine Hid.out ?_)
    refine Lib.hid ?_
    have HW14 := Lib.hid (step_below HW13.out (Nat.le_refl _) hb14)
    clear hb14 q00 q01 q02 q03 q04 q05 q06 q10 q11 q12 q13 q14 q15 q16 q20 q21 q22 q23 q24 q25 q26
    obtain ⟨q00, q01, q02, q03, q04, q05, q06, q10, q11, q12, q13, q14, q15, q16, q20, q21, q22, q23, q24, q25, q26⟩ := HK.out _ HW14.out
    go_wp2_with (go_at_call 14; refine (HE.out _ HW14.out).mono ?_; rintro e w15 ⟨rfl, hb15⟩; refine Hid.out ?_)
    refine Lib.hid ?_
    have HW15 := Lib.hid (step_below HW14.out (Nat.le_refl _) hb15)
    clear hb15 q00 q01 q02 q03 q04 q05 q06 q10 q11 q12 q13 q14 q15 q16 q20 q21 q22 q23 q24 q25 q26
    obtain ⟨q00, q01, q02, q03, q04, q05, q06, q10, q11, q12, q13, q14, q15, q16, q20, q21, q22, q23, q24, q25, q26⟩ := HK.out _ HW15.out
    go_wp2_with (go_at_call 14; refine (HEA.out _ HW15.out).mono ?_; rintro e w16 ⟨rfl, hb16⟩; refine Hid.out ?_)
    refine Lib.hid ?_
    have HW16 := Lib.hid (step_below HW15.out (Nat.le_refl _) hb16)
    clear hb16 q00 q01 q02 q03 q04 q05 q06 q10 q11 q12 q13 q14 q15 q16 q20 q21 q22 q23 q24 q25 q26
    go_wp2_with (go_at_call 6; refine (awake_any _).mono ?_; rintro e w17 ⟨rfl, hb17⟩; refine Hid.out ?_)
    refine Lib.hid ?_
    go_wp2
    go_ret
    exact ⟨rfl, HB.out.trans ((step_below HW16.out (Nat.le_refl _) hb17).mono HB.out.size)⟩
end Go.Proofs.Ytpgnkfobgjplmaa
