/- What the law ValueMeasures returns: true. Condition: the two values are together no greater than 1048576. -/
import Derived.Test.YtpgnkfobgjplmaaLawOrder
import Derived.Test.YtpgnkfobgjplmaaHighR
import Derived.Test.YtpgnkfobgjplmaaTuple
import Derived.Test.YtpgnkfobgjplmaaValWt
namespace Go.Proofs.Ytpgnkfobgjplmaa
open Go Go.RowKit
mutual
theorem nodes_wt : ∀ v : Vl, nodes v ≤ wt v
  | .mk _ _ _ v y e l => by
    unfold nodes wt
    have := nodesVs_wt v
    have := nodesEs_wt e
    omega
theorem nodesVs_wt : ∀ l : List Vl, nodesVs l ≤ wtVs l
  | [] => Nat.zero_le _
  | a :: s => by
    unfold nodesVs wtVs
    have := nodes_wt a
    have := nodesVs_wt s
    omega
theorem nodesE_wt : ∀ e : En, nodesE e ≤ wtE e
  | .mk a f r => by
    unfold nodesE wtE
    have := nodesVs_wt a
    have := nodes_wt r
    cases f <;> simp <;> omega
theorem nodesEs_wt : ∀ l : List En, nodesEs l ≤ wtEs l
  | [] => Nat.zero_le _
  | a :: s => by
    unfold nodesEs wtEs
    have := nodesE_wt a
    have := nodesEs_wt s
    omega
end
theorem wrap_small {n : Nat} (h : n ≤ 1048577) : wrap64 (n : Int) = n := by unfold wrap64; omega
theorem nodes_tup (v w : Vl) : nodes (tupV [v, w]) = 1 + nodes v + nodes w := by simp [tupV, nodes, nodesVs, nodesEs]; omega
theorem high_tup (v w : Vl) : high (tupV [v, w]) = 1 + max (high v) (high w) := by simp [tupV, high, highVs, highEs]; omega
set_option maxRecDepth 100000 in
set_option maxHeartbeats 12800000 in
theorem measures_law (k : Nat) (u v : Vl) (ca cb : List Value) (w : World) (ha : VS k w w.heap.size u ca) (hb : VS k w w.heap.size v cb) (hwt : wt u + wt v ≤ 1048576) : Calls Try.prog 3 #[.agg ca.toArray, .agg cb.toArray] w fun e w' => e = .returned (.bool true) ∧ Below w.heap.size w w' := by
  obtain ⟨a1, i1, s1, B11, n11, d11, B21, n21, d21, B31, n31, d31, B41, n41, d41, rfl⟩ := ha.form7
  obtain ⟨a2, i2, s2, B12, n12, d12, B22, n22, d22, B32, n32, d32, B42, n42, d42, rfl⟩ := hb.form7
  obtain ⟨W, hW⟩ : ∃ W, W = (w.alloc (.cells #[.int .i64 a1, .int .i64 i1, .string s1, .slice B11 n11 d11, .slice B21 n21 d21, .slice B31 n31 d31, .slice B41 n41 d41] 27)).alloc (.cells #[.int .i64 a2, .int .i64 i2, .string s2, .slice B12 n12 d12, .slice B22 n22 d22, .slice B32 n32 d32, .slice B42 n42 d42] 27) := ⟨_, rfl⟩
  have hbb : Below w.heap.size w W := by rw [hW]; exact ((Below.refl _ _).alloc (Nat.le_refl _) _).alloc (by simp) _
  have hz : W.heap.size = w.heap.size + 2 := by rw [hW]; simp
  have k0 : W.heap[w.heap.size]? = some (.cells #[.int .i64 a1, .int .i64 i1, .string s1, .slice B11 n11 d11, .slice B21 n21 d21, .slice B31 n31 d31, .slice B41 n41 d41] 27 (0, 0)) := by rw [hW, Below.heap_alloc _ _ _ (by simp)]; exact heap_alloc_new w _
  have k1 : W.heap[w.heap.size + 1]? = some (.cells #[.int .i64 a2, .int .i64 i2, .string s2, .slice B12 n12 d12, .slice B22 n22 d22, .slice B32 n32 d32, .slice B42 n42 d42] 27 (0, 0)) := by rw [hW]; exact new_at' _ (by simp)
  have hHK : ∀ wq, Below W.heap.size W wq → wq.cell? ⟨w.heap.size, 0, none⟩ = some (.int .i64 a1) ∧ wq.cell? ⟨w.heap.size, 1, none⟩ = some (.int .i64 i1) ∧ wq.cell? ⟨w.heap.size, 2, none⟩ = some (.string s1) ∧ wq.cell? ⟨w.heap.size, 3, none⟩ = some (.slice B11 n11 d11) ∧ wq.cell? ⟨w.heap.size, 4, none⟩ = some (.slice B21 n21 d21) ∧ wq.cell? ⟨w.heap.size, 5, none⟩ = some (.slice B31 n31 d31) ∧ wq.cell? ⟨w.heap.size, 6, none⟩ = some (.slice B41 n41 d41) ∧ wq.cell? ⟨w.heap.size + 1, 0, none⟩ = some (.int .i64 a2) ∧ wq.cell? ⟨w.heap.size + 1, 1, none⟩ = some (.int .i64 i2) ∧ wq.cell? ⟨w.heap.size + 1, 2, none⟩ = some (.string s2) ∧ wq.cell? ⟨w.heap.size + 1, 3, none⟩ = some (.slice B12 n12 d12) ∧ wq.cell? ⟨w.heap.size + 1, 4, none⟩ = some (.slice B22 n22 d22) ∧ wq.cell? ⟨w.heap.size + 1, 5, none⟩ = some (.slice B32 n32 d32) ∧ wq.cell? ⟨w.heap.size + 1, 6, none⟩ = some (.slice B42 n42 d42) := fun wq h => ⟨(h.cell (p := ⟨_, 0, none⟩) (by show w.heap.size < _; omega)).trans ((Lib.cell_of_heap k0 0).trans rfl), (h.cell (p := ⟨_, 1, none⟩) (by show w.heap.size < _; omega)).trans ((Lib.cell_of_heap k0 1).trans rfl), (h.cell (p := ⟨_, 2, none⟩) (by show w.heap.size < _; omega)).trans ((Lib.cell_of_heap k0 2).trans rfl), (h.cell (p := ⟨_, 3, none⟩) (by show w.heap.size < _; omega)).trans ((Lib.cell_of_heap k0 3).trans rfl), (h.cell (p := ⟨_, 4, none⟩) (by show w.heap.size < _; omega)).trans ((Lib.cell_of_heap k0 4).trans rfl), (h.cell (p := ⟨_, 5, none⟩) (by show w.heap.size < _; omega)).trans ((Lib.cell_of_heap k0 5).trans rfl), (h.cell (p := ⟨_, 6, none⟩) (by show w.heap.size < _; omega)).trans ((Lib.cell_of_heap k0 6).trans rfl), (h.cell (p := ⟨_, 0, none⟩) (by show w.heap.size + 1 < _; omega)).trans ((Lib.cell_of_heap k1 0).trans rfl), (h.cell (p := ⟨_, 1, none⟩) (by show w.heap.size + 1 < _; omega)).trans ((Lib.cell_of_heap k1 1).trans rfl), (h.cell (p := ⟨_, 2, none⟩) (by show w.heap.size + 1 < _; omega)).trans ((Lib.cell_of_heap k1 2).trans rfl), (h.cell (p := ⟨_, 3, none⟩) (by show w.heap.size + 1 < _; omega)).trans ((Lib.cell_of_heap k1 3).trans rfl), (h.cell (p := ⟨_, 4, none⟩) (by show w.heap.size + 1 < _; omega)).trans ((Lib.cell_of_heap k1 4).trans rfl), (h.cell (p := ⟨_, 5, none⟩) (by show w.heap.size + 1 < _; omega)).trans ((Lib.cell_of_heap k1 5).trans rfl), (h.cell (p := ⟨_, 6, none⟩) (by show w.heap.size + 1 < _; omega)).trans ((Lib.cell_of_heap k1 6).trans rfl)⟩
  have HK := Lib.hid hHK
  have hVA : ∀ wq, Below W.heap.size W wq → VS k wq wq.heap.size u [.int .i64 a1, .int .i64 i1, .string s1, .slice B11 n11 d11, .slice B21 n21 d21, .slice B31 n31 d31, .slice B41 n41 d41] := fun wq h => VS.up (Nat.le_trans hbb.size h.size) (Nat.le_refl _) (VS.on (hbb.trans (h.mono hbb.size)) ha)
  have hVB : ∀ wq, Below W.heap.size W wq → VS k wq wq.heap.size v [.int .i64 a2, .int .i64 i2, .string s2, .slice B12 n12 d12, .slice B22 n22 d22, .slice B32 n32 d32, .slice B42 n42 d42] := fun wq h => VS.up (Nat.le_trans hbb.size h.size) (Nat.le_refl _) (VS.on (hbb.trans (h.mono hbb.size)) hb)
  have HVA := Lib.hid hVA
  have HVB := Lib.hid hVB
  have HB := Lib.hid hbb
  have HZ := Lib.hid hz
  have HW0 := Lib.hid (Below.refl W.heap.size W)
  have HSA := Lib.hid fun wq h => small_any k u _ wq (hVA wq h)
  have HSB := Lib.hid fun wq h => small_any k v _ wq (hVB wq h)
  have HWT := Lib.hid hwt
  generalize decide (wrap64 (nodes u : Int) ≤ 60) = sa at HSA
  generalize decide (wrap64 (nodes v : Int) ≤ 60) = sb at HSB
  obtain ⟨q00, q01, q02, q03, q04, q05, q06, q10, q11, q12, q13, q14, q15, q16⟩ := hHK W (Below.refl _ _)
  clear ha hb hbb k0 k1 hHK hz hVA hVB hwt
  go_enter Try.func3, Try.ntmps3
  go_wp2_with fail
  rw [← hW]
  clear hW
  go_wp2_with (go_at_call 5; refine (HSA.out _ HW0.out).mono ?_; rintro e w1 ⟨rfl, hb1⟩; refine Hid.out ?_)
  refine Lib.hid ?_
  have HW1 := Lib.hid (step_below HW0.out (Nat.le_refl _) hb1)
  clear hb1 q00 q01 q02 q03 q04 q05 q06 q10 q11 q12 q13 q14 q15 q16
  cases sa
  case false =>
    go_wp2_with (go_at_call 6; refine (awake_any _).mono ?_; rintro e w9 ⟨rfl, hb9⟩; refine Hid.out ?_)
    refine Lib.hid ?_
    go_wp2
    go_ret
    exact ⟨rfl, HB.out.trans ((step_below HW1.out (Nat.le_refl _) hb9).mono HB.out.size)⟩
  obtain ⟨q00, q01, q02, q03, q04, q05, q06, q10, q11, q12, q13, q14, q15, q16⟩ := HK.out _ HW1.out
  go_wp2_with (go_at_call 5; refine (HSB.out _ HW1.out).mono ?_; rintro e w2 ⟨rfl, hb2⟩; refine Hid.out ?_)
  refine Lib.hid ?_
  have HW2 := Lib.hid (step_below HW1.out (Nat.le_refl _) hb2)
  clear hb2 q00 q01 q02 q03 q04 q05 q06 q10 q11 q12 q13 q14 q15 q16
  cases sb
  case false =>
    go_wp2_with (go_at_call 6; refine (awake_any _).mono ?_; rintro e w9 ⟨rfl, hb9⟩; refine Hid.out ?_)
    refine Lib.hid ?_
    go_wp2
    go_ret
    exact ⟨rfl, HB.out.trans ((step_below HW2.out (Nat.le_refl _) hb9).mono HB.out.size)⟩
  obtain ⟨q00, q01, q02, q03, q04, q05, q06, q10, q11, q12, q13, q14, q15, q16⟩ := HK.out _ HW2.out
  obtain ⟨X, hX⟩ : ∃ X, X = w2.alloc (.cells #[.int .i64 a1, .int .i64 i1, .string s1, .slice B11 n11 d11, .slice B21 n21 d21, .slice B31 n31 d31, .slice B41 n41 d41, .int .i64 a2, .int .i64 i2, .string s2, .slice B12 n12 d12, .slice B22 n22 d22, .slice B32 n32 d32, .slice B42 n42 d42] 27) := ⟨_, rfl⟩
  have hbX : Below w2.heap.size w2 X := by rw [hX]; exact (Below.refl _ _).alloc (Nat.le_refl _) _
  have hzX : X.heap.size = w2.heap.size + 1 := by rw [hX]; simp
  have kX : X.heap[w2.heap.size]? = some (.cells #[.int .i64 a1, .int .i64 i1, .string s1, .slice B11 n11 d11, .slice B21 n21 d21, .slice B31 n31 d31, .slice B41 n41 d41, .int .i64 a2, .int .i64 i2, .string s2, .slice B12 n12 d12, .slice B22 n22 d22, .slice B32 n32 d32, .slice B42 n42 d42] 27 (0, 0)) := by rw [hX]; exact heap_alloc_new w2 _
  have HWX := Lib.hid (step_below HW2.out (Nat.le_refl _) hbX)
  have hcell : ∀ q, X.cell? ⟨w2.heap.size, q, none⟩ = (#[.int .i64 a1, .int .i64 i1, .string s1, .slice B11 n11 d11, .slice B21 n21 d21, .slice B31 n31 d31, .slice B41 n41 d41, .int .i64 a2, .int .i64 i2, .string s2, .slice B12 n12 d12, .slice B22 n22 d22, .slice B32 n32 d32, .slice B42 n42 d42] : Array Value)[q]? := fun q => Lib.cell_of_heap kX q
  have hrow : RowP X X.heap.size 7 (.slice (some ⟨w2.heap.size, 0, none⟩) [u, v].length 2) [u, v].length (fun j cs => ∃ x, [u, v][j]? = some x ∧ VS k X X.heap.size x cs) := by
    refine ⟨_, _, rfl, ⟨by unfold maxLen; simp, by simp⟩, fun _ => ⟨w2.heap.size, 0, rfl, by omega, by omega, fun j hj => ?_⟩⟩
    match j, hj with
    | 0, _ =>
      refine ⟨[.int .i64 a1, .int .i64 i1, .string s1, .slice B11 n11 d11, .slice B21 n21 d21, .slice B31 n31 d31, .slice B41 n41 d41], rfl, fun q hq => ?_, u, rfl, HVA.out _ HWX.out⟩
      rw [show 0 + 0 * 7 + q = q by omega, hcell]
      match q, hq with
      | 0, _ => rfl
      | 1, _ => rfl
      | 2, _ => rfl
      | 3, _ => rfl
      | 4, _ => rfl
      | 5, _ => rfl
      | 6, _ => rfl
    | 1, _ =>
      refine ⟨[.int .i64 a2, .int .i64 i2, .string s2, .slice B12 n12 d12, .slice B22 n22 d22, .slice B32 n32 d32, .slice B42 n42 d42], rfl, fun q hq => ?_, v, rfl, HVB.out _ HWX.out⟩
      rw [show 0 + 1 * 7 + q = 7 + q by omega, hcell]
      match q, hq with
      | 0, _ => rfl
      | 1, _ => rfl
      | 2, _ => rfl
      | 3, _ => rfl
      | 4, _ => rfl
      | 5, _ => rfl
      | 6, _ => rfl
  have hT := tuple_any k _ 2 [u, v] X hrow (by simp) (by have := HWT.out; simp only [smlVs, and_true]; exact ⟨sml_wt u (by omega), sml_wt v (by omega)⟩)
  clear hrow hcell kX hbX hzX
  go_wp2_with fail
  rw [← hX]
  clear hX
  refine hT.mono ?_
  rintro e w3 ⟨cs, rfl, hvt, hb3⟩
  clear hT q00 q01 q02 q03 q04 q05 q06 q10 q11 q12 q13 q14 q15 q16
  obtain ⟨a3, i3, s3, B13, n13, d13, B23, n23, d23, B33, n33, d33, B43, n43, d43, rfl⟩ := hvt.form7
  have HW3 := Lib.hid (step_below HWX.out (Nat.le_refl _) hb3)
  obtain ⟨Y, hY⟩ : ∃ Y, Y = w3.alloc (.cells #[.int .i64 a3, .int .i64 i3, .string s3, .slice B13 n13 d13, .slice B23 n23 d23, .slice B33 n33 d33, .slice B43 n43 d43] 27) := ⟨_, rfl⟩
  have hbY : Below w3.heap.size w3 Y := by rw [hY]; exact (Below.refl _ _).alloc (Nat.le_refl _) _
  have hzY : Y.heap.size = w3.heap.size + 1 := by rw [hY]; simp
  have kY : Y.heap[w3.heap.size]? = some (.cells #[.int .i64 a3, .int .i64 i3, .string s3, .slice B13 n13 d13, .slice B23 n23 d23, .slice B33 n33 d33, .slice B43 n43 d43] 27 (0, 0)) := by rw [hY]; exact heap_alloc_new w3 _
  have HWY := Lib.hid (step_below HW3.out (Nat.le_refl _) hbY)
  have hvY : VS (k + 1) Y Y.heap.size (tupV [u, v]) [.int .i64 a3, .int .i64 i3, .string s3, .slice B13 n13 d13, .slice B23 n23 d23, .slice B33 n33 d33, .slice B43 n43 d43] := VB.sub (fun b h => by have := h.2; omega) (Nat.le_refl _) (VB.keep (.of_below hbY fun _ h => h.2) hvt)
  have HK9 : Hid (∀ wq, Below Y.heap.size Y wq → wq.cell? ⟨w.heap.size, 0, none⟩ = some (.int .i64 a1) ∧ wq.cell? ⟨w.heap.size, 1, none⟩ = some (.int .i64 i1) ∧ wq.cell? ⟨w.heap.size, 2, none⟩ = some (.string s1) ∧ wq.cell? ⟨w.heap.size, 3, none⟩ = some (.slice B11 n11 d11) ∧ wq.cell? ⟨w.heap.size, 4, none⟩ = some (.slice B21 n21 d21) ∧ wq.cell? ⟨w.heap.size, 5, none⟩ = some (.slice B31 n31 d31) ∧ wq.cell? ⟨w.heap.size, 6, none⟩ = some (.slice B41 n41 d41) ∧ wq.cell? ⟨w.heap.size + 1, 0, none⟩ = some (.int .i64 a2) ∧ wq.cell? ⟨w.heap.size + 1, 1, none⟩ = some (.int .i64 i2) ∧ wq.cell? ⟨w.heap.size + 1, 2, none⟩ = some (.string s2) ∧ wq.cell? ⟨w.heap.size + 1, 3, none⟩ = some (.slice B12 n12 d12) ∧ wq.cell? ⟨w.heap.size + 1, 4, none⟩ = some (.slice B22 n22 d22) ∧ wq.cell? ⟨w.heap.size + 1, 5, none⟩ = some (.slice B32 n32 d32) ∧ wq.cell? ⟨w.heap.size + 1, 6, none⟩ = some (.slice B42 n42 d42) ∧ wq.cell? ⟨w3.heap.size, 0, none⟩ = some (.int .i64 a3) ∧ wq.cell? ⟨w3.heap.size, 1, none⟩ = some (.int .i64 i3) ∧ wq.cell? ⟨w3.heap.size, 2, none⟩ = some (.string s3) ∧ wq.cell? ⟨w3.heap.size, 3, none⟩ = some (.slice B13 n13 d13) ∧ wq.cell? ⟨w3.heap.size, 4, none⟩ = some (.slice B23 n23 d23) ∧ wq.cell? ⟨w3.heap.size, 5, none⟩ = some (.slice B33 n33 d33) ∧ wq.cell? ⟨w3.heap.size, 6, none⟩ = some (.slice B43 n43 d43)) := Lib.hid fun wq h => by
    obtain ⟨p0, p1, p2, p3, p4, p5, p6, p7, p8, p9, p10, p11, p12, p13⟩ := HK.out wq (step_below HWY.out (Nat.le_refl _) h)
    exact ⟨p0, p1, p2, p3, p4, p5, p6, p7, p8, p9, p10, p11, p12, p13, (h.cell (p := ⟨_, 0, none⟩) (by show w3.heap.size < _; omega)).trans ((Lib.cell_of_heap kY 0).trans rfl), (h.cell (p := ⟨_, 1, none⟩) (by show w3.heap.size < _; omega)).trans ((Lib.cell_of_heap kY 1).trans rfl), (h.cell (p := ⟨_, 2, none⟩) (by show w3.heap.size < _; omega)).trans ((Lib.cell_of_heap kY 2).trans rfl), (h.cell (p := ⟨_, 3, none⟩) (by show w3.heap.size < _; omega)).trans ((Lib.cell_of_heap kY 3).trans rfl), (h.cell (p := ⟨_, 4, none⟩) (by show w3.heap.size < _; omega)).trans ((Lib.cell_of_heap kY 4).trans rfl), (h.cell (p := ⟨_, 5, none⟩) (by show w3.heap.size < _; omega)).trans ((Lib.cell_of_heap kY 5).trans rfl), (h.cell (p := ⟨_, 6, none⟩) (by show w3.heap.size < _; omega)).trans ((Lib.cell_of_heap kY 6).trans rfl)⟩
  have hA : ∀ wq, Below Y.heap.size Y wq → VS k wq wq.heap.size u [.int .i64 a1, .int .i64 i1, .string s1, .slice B11 n11 d11, .slice B21 n21 d21, .slice B31 n31 d31, .slice B41 n41 d41] := fun wq h => HVA.out wq (step_below HWY.out (Nat.le_refl _) h)
  have hBv : ∀ wq, Below Y.heap.size Y wq → VS k wq wq.heap.size v [.int .i64 a2, .int .i64 i2, .string s2, .slice B12 n12 d12, .slice B22 n22 d22, .slice B32 n32 d32, .slice B42 n42 d42] := fun wq h => HVB.out wq (step_below HWY.out (Nat.le_refl _) h)
  have hC : ∀ wq, Below Y.heap.size Y wq → VS (k + 1) wq wq.heap.size (tupV [u, v]) [.int .i64 a3, .int .i64 i3, .string s3, .slice B13 n13 d13, .slice B23 n23 d23, .slice B33 n33 d33, .slice B43 n43 d43] := fun wq h => VS.up h.size (Nat.le_refl _) (VS.on h hvY)
  have hn1 := nodes_wt u
  have hn2 := nodes_wt v
  have hh1 := high_wt u
  have hh2 := high_wt v
  have hw0 := HWT.out
  have N1 : Hid (∀ wq, Below Y.heap.size Y wq → Calls Try.prog 8 #[.agg #[.int .i64 a1, .int .i64 i1, .string s1, .slice B11 n11 d11, .slice B21 n21 d21, .slice B31 n31 d31, .slice B41 n41 d41]] wq fun e w' => e = .returned (.int .i64 ((nodes u : Nat) : Int)) ∧ Below wq.heap.size wq w') := Lib.hid fun wq h => (nodesP_any _ u _ wq (hA wq h)).mono fun e w' ⟨h1, h2⟩ => ⟨by rw [h1]; rw [wrap_small (by omega)], h2⟩
  have N2 : Hid (∀ wq, Below Y.heap.size Y wq → Calls Try.prog 9 #[.agg #[.int .i64 a1, .int .i64 i1, .string s1, .slice B11 n11 d11, .slice B21 n21 d21, .slice B31 n31 d31, .slice B41 n41 d41]] wq fun e w' => e = .returned (.int .i64 ((nodes u : Nat) : Int)) ∧ Below wq.heap.size wq w') := Lib.hid fun wq h => (nodes_any _ u _ wq (hA wq h)).mono fun e w' ⟨h1, h2⟩ => ⟨by rw [h1]; rw [wrap_small (by omega)], h2⟩
  have N3 : Hid (∀ wq, Below Y.heap.size Y wq → Calls Try.prog 8 #[.agg #[.int .i64 a2, .int .i64 i2, .string s2, .slice B12 n12 d12, .slice B22 n22 d22, .slice B32 n32 d32, .slice B42 n42 d42]] wq fun e w' => e = .returned (.int .i64 ((nodes v : Nat) : Int)) ∧ Below wq.heap.size wq w') := Lib.hid fun wq h => (nodesP_any _ v _ wq (hBv wq h)).mono fun e w' ⟨h1, h2⟩ => ⟨by rw [h1]; rw [wrap_small (by omega)], h2⟩
  have N4 : Hid (∀ wq, Below Y.heap.size Y wq → Calls Try.prog 8 #[.agg #[.int .i64 a3, .int .i64 i3, .string s3, .slice B13 n13 d13, .slice B23 n23 d23, .slice B33 n33 d33, .slice B43 n43 d43]] wq fun e w' => e = .returned (.int .i64 (1 + ((nodes u : Nat) : Int) + ((nodes v : Nat) : Int))) ∧ Below wq.heap.size wq w') := Lib.hid fun wq h => (nodesP_any _ (tupV [u, v]) _ wq (hC wq h)).mono fun e w' ⟨h1, h2⟩ => ⟨by rw [h1]; rw [nodes_tup, wrap_small (by omega)]; rfl, h2⟩
  have H1 : Hid (∀ wq, Below Y.heap.size Y wq → Calls Try.prog 10 #[.agg #[.int .i64 a1, .int .i64 i1, .string s1, .slice B11 n11 d11, .slice B21 n21 d21, .slice B31 n31 d31, .slice B41 n41 d41]] wq fun e w' => e = .returned (.int .i64 ((high u : Nat) : Int)) ∧ Below wq.heap.size wq w') := Lib.hid fun wq h => (heightP_any _ u _ wq (hA wq h) (by omega)).mono fun e w' ⟨h1, h2⟩ => ⟨by rw [h1], h2⟩
  have H2 : Hid (∀ wq, Below Y.heap.size Y wq → Calls Try.prog 11 #[.agg #[.int .i64 a1, .int .i64 i1, .string s1, .slice B11 n11 d11, .slice B21 n21 d21, .slice B31 n31 d31, .slice B41 n41 d41]] wq fun e w' => e = .returned (.int .i64 ((high u : Nat) : Int)) ∧ Below wq.heap.size wq w') := Lib.hid fun wq h => (heightR_any _ u _ wq (hA wq h) (by omega)).mono fun e w' ⟨h1, h2⟩ => ⟨by rw [h1], h2⟩
  have H3 : Hid (∀ wq, Below Y.heap.size Y wq → Calls Try.prog 10 #[.agg #[.int .i64 a2, .int .i64 i2, .string s2, .slice B12 n12 d12, .slice B22 n22 d22, .slice B32 n32 d32, .slice B42 n42 d42]] wq fun e w' => e = .returned (.int .i64 ((high v : Nat) : Int)) ∧ Below wq.heap.size wq w') := Lib.hid fun wq h => (heightP_any _ v _ wq (hBv wq h) (by omega)).mono fun e w' ⟨h1, h2⟩ => ⟨by rw [h1], h2⟩
  have H4 : Hid (∀ wq, Below Y.heap.size Y wq → Calls Try.prog 10 #[.agg #[.int .i64 a3, .int .i64 i3, .string s3, .slice B13 n13 d13, .slice B23 n23 d23, .slice B33 n33 d33, .slice B43 n43 d43]] wq fun e w' => e = .returned (.int .i64 (1 + max ((high u : Nat) : Int) ((high v : Nat) : Int))) ∧ Below wq.heap.size wq w') := Lib.hid fun wq h => (heightP_any _ (tupV [u, v]) _ wq (hC wq h) (by rw [high_tup]; omega)).mono fun e w' ⟨h1, h2⟩ => ⟨by rw [h1]; rw [high_tup]; congr 2; omega, h2⟩
  have bn : (0 : Int) ≤ ((nodes u : Nat) : Int) ∧ ((nodes u : Nat) : Int) ≤ 1048576 ∧ (0 : Int) ≤ ((nodes v : Nat) : Int) ∧ ((nodes v : Nat) : Int) ≤ 1048576 := by omega
  have bh : (0 : Int) ≤ ((high u : Nat) : Int) ∧ ((high u : Nat) : Int) ≤ 1048576 ∧ (0 : Int) ≤ ((high v : Nat) : Int) ∧ ((high v : Nat) : Int) ≤ 1048576 := by omega
  clear hA hBv hC hn1 hn2 hh1 hh2 hw0 hvY hvt kY
  generalize ((nodes u : Nat) : Int) = nu at N1 N2 N4 bn
  generalize ((nodes v : Nat) : Int) = nv at N3 N4 bn
  generalize ((high u : Nat) : Int) = hu at H1 H2 H4 bh
  generalize ((high v : Nat) : Int) = hv at H3 H4 bh
  have x1 : IntKind.i64.wrap (1 + nu) = 1 + nu := IntWalk.i64_in _ (by omega)
  have x2 : IntKind.i64.wrap (1 + nu + nv) = 1 + nu + nv := IntWalk.i64_in _ (by omega)
  have x3 : IntKind.i64.wrap (1 + max hu hv) = 1 + max hu hv := IntWalk.i64_in _ (by omega)
  clear bn bh
  go_wp2_with fail
  rw [← hY]
  clear hY
  refine wp_region_held_drew (S := fun wq => wq.cell? ⟨w.heap.size, 0, none⟩ = some (.int .i64 a1) ∧ wq.cell? ⟨w.heap.size, 1, none⟩ = some (.int .i64 i1) ∧ wq.cell? ⟨w.heap.size, 2, none⟩ = some (.string s1) ∧ wq.cell? ⟨w.heap.size, 3, none⟩ = some (.slice B11 n11 d11) ∧ wq.cell? ⟨w.heap.size, 4, none⟩ = some (.slice B21 n21 d21) ∧ wq.cell? ⟨w.heap.size, 5, none⟩ = some (.slice B31 n31 d31) ∧ wq.cell? ⟨w.heap.size, 6, none⟩ = some (.slice B41 n41 d41) ∧ wq.cell? ⟨w.heap.size + 1, 0, none⟩ = some (.int .i64 a2) ∧ wq.cell? ⟨w.heap.size + 1, 1, none⟩ = some (.int .i64 i2) ∧ wq.cell? ⟨w.heap.size + 1, 2, none⟩ = some (.string s2) ∧ wq.cell? ⟨w.heap.size + 1, 3, none⟩ = some (.slice B12 n12 d12) ∧ wq.cell? ⟨w.heap.size + 1, 4, none⟩ = some (.slice B22 n22 d22) ∧ wq.cell? ⟨w.heap.size + 1, 5, none⟩ = some (.slice B32 n32 d32) ∧ wq.cell? ⟨w.heap.size + 1, 6, none⟩ = some (.slice B42 n42 d42) ∧ wq.cell? ⟨w3.heap.size, 0, none⟩ = some (.int .i64 a3) ∧ wq.cell? ⟨w3.heap.size, 1, none⟩ = some (.int .i64 i3) ∧ wq.cell? ⟨w3.heap.size, 2, none⟩ = some (.string s3) ∧ wq.cell? ⟨w3.heap.size, 3, none⟩ = some (.slice B13 n13 d13) ∧ wq.cell? ⟨w3.heap.size, 4, none⟩ = some (.slice B23 n23 d23) ∧ wq.cell? ⟨w3.heap.size, 5, none⟩ = some (.slice B33 n33 d33) ∧ wq.cell? ⟨w3.heap.size, 6, none⟩ = some (.slice B43 n43 d43)) (by kernel_rfl) (HK9.out _ (Below.refl _ _).drew) (fun _ => ?_)
  have hB9 : Below Y.heap.size Y Y.drew := (Below.refl _ _).drew
  refine take_op (i := 0) (v := _) rfl (by kernel_rfl) (by kernel_rfl) (by kernel_rfl) (fun _ _ _ h => h) (Or.inl ⟨by rfl, (by intro w hSw; (try dsimp only at hSw); go_simp; try with_reducible rfl)⟩) (HK9.out _ hB9) ?_
  try simp only [Act.put, List.setIfInBounds_toArray, List.set_cons_zero, List.set_cons_succ]
  refine take_op (i := 2) (v := _) rfl (by kernel_rfl) (by kernel_rfl) (by kernel_rfl) (fun _ _ _ h => h) (Or.inl ⟨by rfl, (by intro w hSw; (try dsimp only at hSw); go_simp; try with_reducible rfl)⟩) (HK9.out _ hB9) ?_
  try simp only [Act.put, List.setIfInBounds_toArray, List.set_cons_zero, List.set_cons_succ]
  refine one_op 1 (by kernel_rfl) rfl (by rfl) (fun K9 hK => ?_)
  go_simp
  refine (N1.out _ hB9).mono ?_
  rintro e w10 ⟨rfl, hb10⟩
  have hB10 : Below Y.heap.size Y w10 := step_below hB9 (Nat.le_refl _) hb10
  clear hB9 hb10
  refine hK _ _ (HK9.out _ hB10) ?_
  try simp only [Act.put, List.setIfInBounds_toArray, List.set_cons_zero, List.set_cons_succ]
  clear hK K9
  refine one_op 3 (by kernel_rfl) rfl (by rfl) (fun K9 hK => ?_)
  go_simp
  refine (N2.out _ hB10).mono ?_
  rintro e w11 ⟨rfl, hb11⟩
  have hB11 : Below Y.heap.size Y w11 := step_below hB10 (Nat.le_refl _) hb11
  clear hB10 hb11
  refine hK _ _ (HK9.out _ hB11) ?_
  try simp only [Act.put, List.setIfInBounds_toArray, List.set_cons_zero, List.set_cons_succ]
  clear hK K9
  refine take_op (i := 4) (v := _) rfl (by kernel_rfl) (by kernel_rfl) (by kernel_rfl) (fun _ _ _ h => h) (Or.inl ⟨by rfl, (by intro w hSw; (try dsimp only at hSw); go_simp; try with_reducible rfl)⟩) (HK9.out _ hB11) ?_
  try simp only [Act.put, List.setIfInBounds_toArray, List.set_cons_zero, List.set_cons_succ]
  refine take_op (i := 5) (v := _) rfl (by kernel_rfl) (by kernel_rfl) (by kernel_rfl) (fun _ _ _ h => h) (Or.inl ⟨by rfl, (by intro w hSw; (try dsimp only at hSw); go_simp; try with_reducible rfl)⟩) (HK9.out _ hB11) ?_
  try simp only [Act.put, List.setIfInBounds_toArray, List.set_cons_zero, List.set_cons_succ]
  refine take_op (i := 6) (v := _) rfl (by kernel_rfl) (by kernel_rfl) (by kernel_rfl) (fun _ _ _ h => h) (Or.inl ⟨by rfl, (by intro w hSw; (try dsimp only at hSw); go_simp; try with_reducible rfl)⟩) (HK9.out _ hB11) ?_
  try simp only [Act.put, List.setIfInBounds_toArray, List.set_cons_zero, List.set_cons_succ]
  refine take_op (i := 8) (v := _) rfl (by kernel_rfl) (by kernel_rfl) (by kernel_rfl) (fun _ _ _ h => h) (Or.inl ⟨by rfl, (by intro w hSw; (try dsimp only at hSw); go_simp; try with_reducible rfl)⟩) (HK9.out _ hB11) ?_
  try simp only [Act.put, List.setIfInBounds_toArray, List.set_cons_zero, List.set_cons_succ]
  refine one_op 7 (by kernel_rfl) rfl (by rfl) (fun K9 hK => ?_)
  go_simp
  refine (H1.out _ hB11).mono ?_
  rintro e w12 ⟨rfl, hb12⟩
  have hB12 : Below Y.heap.size Y w12 := step_below hB11 (Nat.le_refl _) hb12
  clear hB11 hb12
  refine hK _ _ (HK9.out _ hB12) ?_
  try simp only [Act.put, List.setIfInBounds_toArray, List.set_cons_zero, List.set_cons_succ]
  clear hK K9
  refine one_op 9 (by kernel_rfl) rfl (by rfl) (fun K9 hK => ?_)
  go_simp
  refine (H2.out _ hB12).mono ?_
  rintro e w13 ⟨rfl, hb13⟩
  have hB13 : Below Y.heap.size Y w13 := step_below hB12 (Nat.le_refl _) hb13
  clear hB12 hb13
  refine hK _ _ (HK9.out _ hB13) ?_
  try simp only [Act.put, List.setIfInBounds_toArray, List.set_cons_zero, List.set_cons_succ]
  clear hK K9
  refine take_op (i := 10) (v := _) rfl (by kernel_rfl) (by kernel_rfl) (by kernel_rfl) (fun _ _ _ h => h) (Or.inl ⟨by rfl, (by intro w hSw; (try dsimp only at hSw); go_simp; try with_reducible rfl)⟩) (HK9.out _ hB13) ?_
  try simp only [Act.put, List.setIfInBounds_toArray, List.set_cons_zero, List.set_cons_succ]
  refine take_op (i := 11) (v := _) rfl (by kernel_rfl) (by kernel_rfl) (by kernel_rfl) (fun _ _ _ h => h) (Or.inl ⟨by rfl, (by intro w hSw; (try dsimp only at hSw); go_simp; try with_reducible rfl)⟩) (HK9.out _ hB13) ?_
  try simp only [Act.put, List.setIfInBounds_toArray, List.set_cons_zero, List.set_cons_succ]
  refine take_op (i := 12) (v := _) rfl (by kernel_rfl) (by kernel_rfl) (by kernel_rfl) (fun _ _ _ h => h) (Or.inl ⟨by rfl, (by intro w hSw; (try dsimp only at hSw); go_simp; try with_reducible rfl)⟩) (HK9.out _ hB13) ?_
  try simp only [Act.put, List.setIfInBounds_toArray, List.set_cons_zero, List.set_cons_succ]
  refine take_op (i := 13) (v := _) rfl (by kernel_rfl) (by kernel_rfl) (by kernel_rfl) (fun _ _ _ h => h) (Or.inl ⟨by rfl, (by intro w hSw; (try dsimp only at hSw); go_simp; try with_reducible rfl)⟩) (HK9.out _ hB13) ?_
  try simp only [Act.put, List.setIfInBounds_toArray, List.set_cons_zero, List.set_cons_succ]
  refine take_op (i := 15) (v := _) rfl (by kernel_rfl) (by kernel_rfl) (by kernel_rfl) (fun _ _ _ h => h) (Or.inl ⟨by rfl, (by intro w hSw; (try dsimp only at hSw); go_simp; try with_reducible rfl)⟩) (HK9.out _ hB13) ?_
  try simp only [Act.put, List.setIfInBounds_toArray, List.set_cons_zero, List.set_cons_succ]
  refine take_op (i := 18) (v := _) rfl (by kernel_rfl) (by kernel_rfl) (by kernel_rfl) (fun _ _ _ h => h) (Or.inl ⟨by rfl, (by intro w hSw; (try dsimp only at hSw); go_simp; try with_reducible rfl)⟩) (HK9.out _ hB13) ?_
  try simp only [Act.put, List.setIfInBounds_toArray, List.set_cons_zero, List.set_cons_succ]
  refine one_op 14 (by kernel_rfl) rfl (by rfl) (fun K9 hK => ?_)
  go_simp
  refine (N4.out _ hB13).mono ?_
  rintro e w14 ⟨rfl, hb14⟩
  have hB14 : Below Y.heap.size Y w14 := step_below hB13 (Nat.le_refl _) hb14
  clear hB13 hb14
  refine hK _ _ (HK9.out _ hB14) ?_
  try simp only [Act.put, List.setIfInBounds_toArray, List.set_cons_zero, List.set_cons_succ]
  clear hK K9
  refine one_op 16 (by kernel_rfl) rfl (by rfl) (fun K9 hK => ?_)
  go_simp
  refine (N1.out _ hB14).mono ?_
  rintro e w15 ⟨rfl, hb15⟩
  have hB15 : Below Y.heap.size Y w15 := step_below hB14 (Nat.le_refl _) hb15
  clear hB14 hb15
  refine hK _ _ (HK9.out _ hB15) ?_
  try simp only [Act.put, List.setIfInBounds_toArray, List.set_cons_zero, List.set_cons_succ]
  clear hK K9
  refine take_op (i := 17) (v := _) rfl (by kernel_rfl) (by kernel_rfl) (by kernel_rfl) (fun _ _ _ h => h) (Or.inl ⟨by rfl, (by intro w hSw; (try dsimp only at hSw); go_simp; try with_reducible rfl)⟩) (HK9.out _ hB15) ?_
  try simp only [Act.put, List.setIfInBounds_toArray, List.set_cons_zero, List.set_cons_succ]
  refine one_op 19 (by kernel_rfl) rfl (by rfl) (fun K9 hK => ?_)
  go_simp
  refine (N3.out _ hB15).mono ?_
  rintro e w16 ⟨rfl, hb16⟩
  have hB16 : Below Y.heap.size Y w16 := step_below hB15 (Nat.le_refl _) hb16
  clear hB15 hb16
  refine hK _ _ (HK9.out _ hB16) ?_
  try simp only [Act.put, List.setIfInBounds_toArray, List.set_cons_zero, List.set_cons_succ]
  clear hK K9
  refine take_op (i := 20) (v := _) rfl (by kernel_rfl) (by kernel_rfl) (by kernel_rfl) (fun _ _ _ h => h) (Or.inl ⟨by rfl, (by intro w hSw; (try dsimp only at hSw); go_simp; try with_reducible rfl)⟩) (HK9.out _ hB16) ?_
  try simp only [Act.put, List.setIfInBounds_toArray, List.set_cons_zero, List.set_cons_succ]
  refine take_op (i := 21) (v := _) rfl (by kernel_rfl) (by kernel_rfl) (by kernel_rfl) (fun _ _ _ h => h) (Or.inl ⟨by rfl, (by intro w hSw; (try dsimp only at hSw); go_simp; try with_reducible rfl)⟩) (HK9.out _ hB16) ?_
  try simp only [Act.put, List.setIfInBounds_toArray, List.set_cons_zero, List.set_cons_succ]
  refine take_op (i := 22) (v := _) rfl (by kernel_rfl) (by kernel_rfl) (by kernel_rfl) (fun _ _ _ h => h) (Or.inl ⟨by rfl, (by intro w hSw; (try dsimp only at hSw); go_simp; try with_reducible rfl)⟩) (HK9.out _ hB16) ?_
  try simp only [Act.put, List.setIfInBounds_toArray, List.set_cons_zero, List.set_cons_succ]
  refine take_op (i := 23) (v := _) rfl (by kernel_rfl) (by kernel_rfl) (by kernel_rfl) (fun _ _ _ h => h) (Or.inl ⟨by rfl, (by intro w hSw; (try dsimp only at hSw); go_simp; try with_reducible rfl)⟩) (HK9.out _ hB16) ?_
  try simp only [Act.put, List.setIfInBounds_toArray, List.set_cons_zero, List.set_cons_succ]
  refine take_op (i := 24) (v := _) rfl (by kernel_rfl) (by kernel_rfl) (by kernel_rfl) (fun _ _ _ h => h) (Or.inl ⟨by rfl, (by intro w hSw; (try dsimp only at hSw); go_simp; try with_reducible rfl)⟩) (HK9.out _ hB16) ?_
  try simp only [Act.put, List.setIfInBounds_toArray, List.set_cons_zero, List.set_cons_succ]
  refine take_op (i := 26) (v := _) rfl (by kernel_rfl) (by kernel_rfl) (by kernel_rfl) (fun _ _ _ h => h) (Or.inl ⟨by rfl, (by intro w hSw; (try dsimp only at hSw); go_simp; try with_reducible rfl)⟩) (HK9.out _ hB16) ?_
  try simp only [Act.put, List.setIfInBounds_toArray, List.set_cons_zero, List.set_cons_succ]
  refine take_op (i := 28) (v := _) rfl (by kernel_rfl) (by kernel_rfl) (by kernel_rfl) (fun _ _ _ h => h) (Or.inl ⟨by rfl, (by intro w hSw; (try dsimp only at hSw); go_simp; try with_reducible rfl)⟩) (HK9.out _ hB16) ?_
  try simp only [Act.put, List.setIfInBounds_toArray, List.set_cons_zero, List.set_cons_succ]
  refine one_op 25 (by kernel_rfl) rfl (by rfl) (fun K9 hK => ?_)
  go_simp
  refine (H4.out _ hB16).mono ?_
  rintro e w17 ⟨rfl, hb17⟩
  have hB17 : Below Y.heap.size Y w17 := step_below hB16 (Nat.le_refl _) hb17
  clear hB16 hb17
  refine hK _ _ (HK9.out _ hB17) ?_
  try simp only [Act.put, List.setIfInBounds_toArray, List.set_cons_zero, List.set_cons_succ]
  clear hK K9
  refine one_op 27 (by kernel_rfl) rfl (by rfl) (fun K9 hK => ?_)
  go_simp
  refine (H1.out _ hB17).mono ?_
  rintro e w18 ⟨rfl, hb18⟩
  have hB18 : Below Y.heap.size Y w18 := step_below hB17 (Nat.le_refl _) hb18
  clear hB17 hb18
  refine hK _ _ (HK9.out _ hB18) ?_
  try simp only [Act.put, List.setIfInBounds_toArray, List.set_cons_zero, List.set_cons_succ]
  clear hK K9
  refine one_op 29 (by kernel_rfl) rfl (by rfl) (fun K9 hK => ?_)
  go_simp
  refine (H3.out _ hB18).mono ?_
  rintro e w19 ⟨rfl, hb19⟩
  have hB19 : Below Y.heap.size Y w19 := step_below hB18 (Nat.le_refl _) hb19
  clear hB18 hb19
  refine hK _ _ (HK9.out _ hB19) ?_
  try simp only [Act.put, List.setIfInBounds_toArray, List.set_cons_zero, List.set_cons_succ]
  clear hK K9
  refine one_op 30 (by kernel_rfl) rfl (by rfl) (fun K9 hK => ?_)
  go_simp
  refine hK _ _ (HK9.out _ hB19) ?_
  try simp only [Act.put, List.setIfInBounds_toArray, List.set_cons_zero, List.set_cons_succ]
  clear hK K9
  refine take_op (i := 31) (v := _) rfl (by kernel_rfl) (by kernel_rfl) (by kernel_rfl) (fun _ _ _ h => h) (Or.inl ⟨by rfl, (by intro w hSw; (try dsimp only at hSw); go_simp; try with_reducible rfl)⟩) (HK9.out _ hB19) ?_
  try simp only [Act.put, List.setIfInBounds_toArray, List.set_cons_zero, List.set_cons_succ]
  refine take_op (i := 32) (v := _) rfl (by kernel_rfl) (by kernel_rfl) (by kernel_rfl) (fun _ _ _ h => h) (Or.inl ⟨by rfl, (by intro w hSw; (try dsimp only at hSw); go_simp; try with_reducible rfl)⟩) (HK9.out _ hB19) ?_
  try simp only [Act.put, List.setIfInBounds_toArray, List.set_cons_zero, List.set_cons_succ]
  refine take_op (i := 33) (v := _) rfl (by kernel_rfl) (by kernel_rfl) (by kernel_rfl) (fun _ _ _ h => h) (Or.inl ⟨by rfl, (by intro w hSw; (try dsimp only at hSw); go_simp; try with_reducible rfl)⟩) (HK9.out _ hB19) ?_
  try simp only [Act.put, List.setIfInBounds_toArray, List.set_cons_zero, List.set_cons_succ]
  refine take_op (i := 34) (v := _) rfl (by kernel_rfl) (by kernel_rfl) (by kernel_rfl) (fun _ _ _ h => h) (Or.inl ⟨by rfl, (by intro w hSw; (try dsimp only at hSw); go_simp; try with_reducible rfl)⟩) (HK9.out _ hB19) ?_
  try simp only [Act.put, List.setIfInBounds_toArray, List.set_cons_zero, List.set_cons_succ]
  refine one_op 35 (by kernel_rfl) rfl (by rfl) (fun K9 hK => ?_)
  go_simp
  refine (awake_any _).mono ?_
  rintro e w20 ⟨rfl, hb20⟩
  have hB20 : Below Y.heap.size Y w20 := step_below hB19 (Nat.le_refl _) hb20
  clear hB19 hb20
  refine hK _ _ (HK9.out _ hB20) ?_
  try simp only [Act.put, List.setIfInBounds_toArray, List.set_cons_zero, List.set_cons_succ]
  clear hK K9
  refine take_op (i := 36) (v := _) rfl (by kernel_rfl) (by kernel_rfl) (by kernel_rfl) (fun _ _ _ h => h) (Or.inl ⟨by rfl, (by intro w hSw; (try dsimp only at hSw); go_simp; try with_reducible rfl)⟩) (HK9.out _ hB20) ?_
  try simp only [Act.put, List.setIfInBounds_toArray, List.set_cons_zero, List.set_cons_succ]
  refine take_op (i := 37) (v := _) rfl (by kernel_rfl) (by kernel_rfl) (by kernel_rfl) (fun _ _ _ h => h) (Or.inl ⟨by rfl, (by intro w hSw; (try dsimp only at hSw); go_simp; try with_reducible rfl)⟩) (HK9.out _ hB20) ?_
  try simp only [Act.put, List.setIfInBounds_toArray, List.set_cons_zero, List.set_cons_succ]
  refine wpAnyH_done (by kernel_rfl) ?_ _
  go_wp2
  go_ret
  exact ⟨rfl, HB.out.trans ((step_below HWY.out (Nat.le_refl _) hB20).mono HB.out.size)⟩
end Go.Proofs.Ytpgnkfobgjplmaa
