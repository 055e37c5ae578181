/- What Int, Nil, cons, Cons and Tuple return. -/
import Derived.Test.YtjfknigiehggkaaGreatVl14
namespace Go.Proofs.YtjfknigiehggkaaGreat
open Go Go.RowKit
def intV (n : Int) : Vl := .mk 1 n [] [] [] [] []
def nilV : Vl := .mk 5 0 [] [] [] [] []
def consV (a b : Vl) : Vl := .mk 7 0 [] [a, b] [] [] []
def tupV (l : List Vl) : Vl := .mk 6 0 [] l [] [] []
theorem zeroRw (w : World) (B : Nat → Prop) (c : Nat) (R : Nat → List Value → Prop) : RowB w B c (.slice none 0 0) 0 R := ⟨none, 0, rfl, ⟨Nat.zero_le _, Nat.le_refl _⟩, fun h => absurd h (by omega)⟩
set_option maxHeartbeats 400000 in
theorem nil_any (w : World) : Calls Tryz.prog 41 #[] w fun e w' => e = .returned (.agg #[.int .i64 5, .int .i64 0, .string ⟨#[]⟩, .slice none 0 0, .slice none 0 0, .slice none 0 0, .slice none 0 0]) ∧ Below w.heap.size w w' := by
  go_enter Tryz.func41, Tryz.ntmps41
  go_wp2
  refine bodyPost_ret (v := .agg #[.int .i64 5, .int .i64 0, .string ⟨#[]⟩, .slice none 0 0, .slice none 0 0, .slice none 0 0, .slice none 0 0]) (by simp [results, Tryz.results41, go_sem]) rfl ?_
  exact ⟨rfl, (Below.refl _ _).alloc (Nat.le_refl _) _⟩
theorem nilVB (k : Nat) (V : World) (B : Nat → Prop) : VB (k + 1) V B nilV [.int .i64 5, .int .i64 0, .string ⟨#[]⟩, .slice none 0 0, .slice none 0 0, .slice none 0 0, .slice none 0 0] :=
  ⟨_, _, _, _, rfl, by decide, by decide, Nat.zero_le _, zeroRw _ _ _ _, zeroRw _ _ _ _, zeroRw _ _ _ _, zeroRw _ _ _ _⟩
set_option maxRecDepth 100000 in
set_option maxHeartbeats 3200000 in
theorem cons_any (k lo : Nat) (u v : Vl) (ca cb : List Value) (w : World) (hlo : lo ≤ w.heap.size) (ha : VB k w (Btw lo w.heap.size) u ca) (hb : VB k w (Btw lo w.heap.size) v cb) :
    Calls Tryz.prog 47 #[.agg ca.toArray, .agg cb.toArray] w fun e w' => ∃ cs, e = .returned (.agg cs.toArray) ∧ VB (k + 1) w' (Btw lo w'.heap.size) (consV u v) cs ∧ Below w.heap.size w w' := by
  obtain ⟨a, i, s, B1, n1, d1, B2, n2, d2, B3, n3, d3, B4, n4, d4, rfl⟩ := ha.form7
  obtain ⟨a', i', s', B1', n1', d1', B2', n2', d2', B3', n3', d3', B4', n4', d4', rfl⟩ := hb.form7
  go_enter Tryz.func47, Tryz.ntmps47
  go_wp2
  obtain ⟨V, hV⟩ : ∃ V, V = (((w.alloc (.cells #[.int .i64 a, .int .i64 i, .string s, .slice B1 n1 d1, .slice B2 n2 d2, .slice B3 n3 d3, .slice B4 n4 d4] 27)).alloc (.cells #[.int .i64 a', .int .i64 i', .string s', .slice B1' n1' d1', .slice B2' n2' d2', .slice B3' n3' d3', .slice B4' n4' d4'] 27)).alloc (.cells #[Value.int .i64 7, Value.int .i64 0, Value.string ⟨#[]⟩, Value.slice (some ⟨w.heap.size + 1 + 1 + 1, 0, none⟩) 2 2, Value.slice none 0 0, Value.slice none 0 0, Value.slice none 0 0] 27)).alloc (.cells #[.int .i64 a, .int .i64 i, .string s, .slice B1 n1 d1, .slice B2 n2 d2, .slice B3 n3 d3, .slice B4 n4 d4, .int .i64 a', .int .i64 i', .string s', .slice B1' n1' d1', .slice B2' n2' d2', .slice B3' n3' d3', .slice B4' n4' d4'] 27) := ⟨_, rfl⟩
  rw [← hV]
  have hb4 : Below w.heap.size w V := by rw [hV]; exact ((((Below.refl _ _).alloc (Nat.le_refl _) _).alloc (by simp) _).alloc (by simp; omega) _).alloc (by simp; omega) _
  have hz : V.heap.size = w.heap.size + 4 := by rw [hV]; simp
  have k4 : V.heap[w.heap.size + 3]? = some (.cells #[.int .i64 a, .int .i64 i, .string s, .slice B1 n1 d1, .slice B2 n2 d2, .slice B3 n3 d3, .slice B4 n4 d4, .int .i64 a', .int .i64 i', .string s', .slice B1' n1' d1', .slice B2' n2' d2', .slice B3' n3' d3', .slice B4' n4' d4'] 27 (0, 0)) := by rw [hV]; exact new_at' _ (by simp)
  have k3 : V.heap[w.heap.size + 2]? = some (.cells #[Value.int .i64 7, Value.int .i64 0, Value.string ⟨#[]⟩, Value.slice (some ⟨w.heap.size + 1 + 1 + 1, 0, none⟩) 2 2, Value.slice none 0 0, Value.slice none 0 0, Value.slice none 0 0] 27 (0, 0)) := by rw [hV, Below.heap_alloc _ _ _ (by simp)]; exact new_at' _ (by simp)
  obtain ⟨e0, e1, e2, e3, e4, e5, e6⟩ := cells7 k3
  clear hV
  refine bodyPost_ret (v := .agg #[Value.int .i64 7, Value.int .i64 0, Value.string ⟨#[]⟩, Value.slice (some ⟨w.heap.size + 1 + 1 + 1, 0, none⟩) 2 2, Value.slice none 0 0, Value.slice none 0 0, Value.slice none 0 0]) (by simp [results, Tryz.results47, go_sem, e0, e1, e2, e3, e4, e5, e6]) rfl ?_
  have hs : Same (Btw lo w.heap.size) w V := .of_below hb4 fun _ h => h.2
  have hsub : ∀ b, Btw lo w.heap.size b → Btw lo V.heap.size b := fun b h => ⟨h.1, by have := h.2; omega⟩
  refine ⟨_, rfl, ⟨_, _, _, _, rfl, by decide, by decide, Nat.zero_le _, ⟨_, _, rfl, by unfold maxLen; simp, fun _ => ⟨w.heap.size + 3, 0, rfl, ⟨by omega, by omega⟩, by omega, fun j hj => ?_⟩⟩, zeroRw _ _ _ _, zeroRw _ _ _ _, zeroRw _ _ _ _⟩, hb4⟩
  have hcell : ∀ q, V.cell? ⟨w.heap.size + 3, q, none⟩ = (#[.int .i64 a, .int .i64 i, .string s, .slice B1 n1 d1, .slice B2 n2 d2, .slice B3 n3 d3, .slice B4 n4 d4, .int .i64 a', .int .i64 i', .string s', .slice B1' n1' d1', .slice B2' n2' d2', .slice B3' n3' d3', .slice B4' n4' d4'] : Array Value)[q]? := fun q => Lib.cell_of_heap k4 q
  match j, hj with
  | 0, _ =>
    refine ⟨[.int .i64 a, .int .i64 i, .string s, .slice B1 n1 d1, .slice B2 n2 d2, .slice B3 n3 d3, .slice B4 n4 d4], rfl, fun q hq => ?_, u, rfl, VB.sub hsub (Nat.le_refl _) (VB.keep hs ha)⟩
    rw [show 0 + 0 * 7 + q = q by omega, hcell]
    match q, hq with
    | 0, _ => rfl
    | 1, _ => rfl
    | 2, _ => rfl
    | 3, _ => rfl
    | 4, _ => rfl
    | 5, _ => rfl
    | 6, _ => rfl
  | 1, _ =>
    refine ⟨[.int .i64 a', .int .i64 i', .string s', .slice B1' n1' d1', .slice B2' n2' d2', .slice B3' n3' d3', .slice B4' n4' d4'], rfl, fun q hq => ?_, v, rfl, VB.sub hsub (Nat.le_refl _) (VB.keep hs hb)⟩
    rw [show 0 + 1 * 7 + q = 7 + q by omega, hcell]
    match q, hq with
    | 0, _ => rfl
    | 1, _ => rfl
    | 2, _ => rfl
    | 3, _ => rfl
    | 4, _ => rfl
    | 5, _ => rfl
    | 6, _ => rfl
set_option maxRecDepth 100000 in
set_option maxHeartbeats 3200000 in
theorem consP_any (k : Nat) (u v : Vl) (ca cb : List Value) (w : World) (ha : VS k w w.heap.size u ca) (hb : VS k w w.heap.size v cb) (su : sml u) (sv : sml v) :
    Calls Tryz.prog 16 #[.agg ca.toArray, .agg cb.toArray] w fun e w' => ∃ cs, e = .returned (.agg cs.toArray) ∧ VB (k + 1) w' (Btw w.heap.size w'.heap.size) (consV u v) cs ∧ Below w.heap.size w w' := by
  obtain ⟨a, i, s, B1, n1, d1, B2, n2, d2, B3, n3, d3, B4, n4, d4, rfl⟩ := ha.form7
  obtain ⟨a', i', s', B1', n1', d1', B2', n2', d2', B3', n3', d3', B4', n4', d4', rfl⟩ := hb.form7
  obtain ⟨W, hW⟩ : ∃ W, W = ((w.alloc (.cells #[.int .i64 a, .int .i64 i, .string s, .slice B1 n1 d1, .slice B2 n2 d2, .slice B3 n3 d3, .slice B4 n4 d4] 27)).alloc (.cells #[.int .i64 a', .int .i64 i', .string s', .slice B1' n1' d1', .slice B2' n2' d2', .slice B3' n3' d3', .slice B4' n4' d4'] 27)).alloc (.cells #[.int .i64 0, .int .i64 0, .string ⟨#[]⟩, .slice none 0 0, .slice none 0 0, .slice none 0 0, .slice none 0 0] 27) := ⟨_, rfl⟩
  have hbb : Below w.heap.size w W := by rw [hW]; exact (((Below.refl _ _).alloc (Nat.le_refl _) _).alloc (by simp) _).alloc (by simp; omega) _
  have hz : W.heap.size = w.heap.size + 3 := by rw [hW]; simp
  have k1 : W.heap[w.heap.size]? = some (.cells #[.int .i64 a, .int .i64 i, .string s, .slice B1 n1 d1, .slice B2 n2 d2, .slice B3 n3 d3, .slice B4 n4 d4] 27 (0, 0)) := by rw [hW, Below.heap_alloc _ _ _ (by simp; omega), Below.heap_alloc _ _ _ (by simp)]; exact heap_alloc_new w _
  have k2 : W.heap[w.heap.size + 1]? = some (.cells #[.int .i64 a', .int .i64 i', .string s', .slice B1' n1' d1', .slice B2' n2' d2', .slice B3' n3' d3', .slice B4' n4' d4'] 27 (0, 0)) := by rw [hW, Below.heap_alloc _ _ _ (by simp)]; exact new_at' _ (by simp)
  have k3 : W.heap[w.heap.size + 2]? = some (.cells #[.int .i64 0, .int .i64 0, .string ⟨#[]⟩, .slice none 0 0, .slice none 0 0, .slice none 0 0, .slice none 0 0] 27 (0, 0)) := by rw [hW]; exact new_at' _ (by simp)
  have hHK : ∀ wq, Below W.heap.size W wq → wq.cell? ⟨w.heap.size, 0, none⟩ = some (.int .i64 a) ∧ wq.cell? ⟨w.heap.size, 1, none⟩ = some (.int .i64 i) ∧ wq.cell? ⟨w.heap.size, 2, none⟩ = some (.string s) ∧ wq.cell? ⟨w.heap.size, 3, none⟩ = some (.slice B1 n1 d1) ∧ wq.cell? ⟨w.heap.size, 4, none⟩ = some (.slice B2 n2 d2) ∧ wq.cell? ⟨w.heap.size, 5, none⟩ = some (.slice B3 n3 d3) ∧ wq.cell? ⟨w.heap.size, 6, none⟩ = some (.slice B4 n4 d4) ∧ wq.cell? ⟨w.heap.size + 1, 0, none⟩ = some (.int .i64 a') ∧ wq.cell? ⟨w.heap.size + 1, 1, none⟩ = some (.int .i64 i') ∧ wq.cell? ⟨w.heap.size + 1, 2, none⟩ = some (.string s') ∧ wq.cell? ⟨w.heap.size + 1, 3, none⟩ = some (.slice B1' n1' d1') ∧ wq.cell? ⟨w.heap.size + 1, 4, none⟩ = some (.slice B2' n2' d2') ∧ wq.cell? ⟨w.heap.size + 1, 5, none⟩ = some (.slice B3' n3' d3') ∧ wq.cell? ⟨w.heap.size + 1, 6, none⟩ = some (.slice B4' n4' d4') := fun wq h => ⟨(h.cell (p := ⟨_, 0, none⟩) (by show w.heap.size < _; omega)).trans ((Lib.cell_of_heap k1 0).trans rfl), (h.cell (p := ⟨_, 1, none⟩) (by show w.heap.size < _; omega)).trans ((Lib.cell_of_heap k1 1).trans rfl), (h.cell (p := ⟨_, 2, none⟩) (by show w.heap.size < _; omega)).trans ((Lib.cell_of_heap k1 2).trans rfl), (h.cell (p := ⟨_, 3, none⟩) (by show w.heap.size < _; omega)).trans ((Lib.cell_of_heap k1 3).trans rfl), (h.cell (p := ⟨_, 4, none⟩) (by show w.heap.size < _; omega)).trans ((Lib.cell_of_heap k1 4).trans rfl), (h.cell (p := ⟨_, 5, none⟩) (by show w.heap.size < _; omega)).trans ((Lib.cell_of_heap k1 5).trans rfl), (h.cell (p := ⟨_, 6, none⟩) (by show w.heap.size < _; omega)).trans ((Lib.cell_of_heap k1 6).trans rfl), (h.cell (p := ⟨_, 0, none⟩) (by show w.heap.size + 1 < _; omega)).trans ((Lib.cell_of_heap k2 0).trans rfl), (h.cell (p := ⟨_, 1, none⟩) (by show w.heap.size + 1 < _; omega)).trans ((Lib.cell_of_heap k2 1).trans rfl), (h.cell (p := ⟨_, 2, none⟩) (by show w.heap.size + 1 < _; omega)).trans ((Lib.cell_of_heap k2 2).trans rfl), (h.cell (p := ⟨_, 3, none⟩) (by show w.heap.size + 1 < _; omega)).trans ((Lib.cell_of_heap k2 3).trans rfl), (h.cell (p := ⟨_, 4, none⟩) (by show w.heap.size + 1 < _; omega)).trans ((Lib.cell_of_heap k2 4).trans rfl), (h.cell (p := ⟨_, 5, none⟩) (by show w.heap.size + 1 < _; omega)).trans ((Lib.cell_of_heap k2 5).trans rfl), (h.cell (p := ⟨_, 6, none⟩) (by show w.heap.size + 1 < _; omega)).trans ((Lib.cell_of_heap k2 6).trans rfl)⟩
  have HK := Lib.hid hHK
  have hK2 : ∀ wq, Below W.heap.size W wq → wq.heap[w.heap.size + 2]? = some (.cells #[.int .i64 0, .int .i64 0, .string ⟨#[]⟩, .slice none 0 0, .slice none 0 0, .slice none 0 0, .slice none 0 0] 27 (0, 0)) := fun wq h => (h.block _ (by omega)).trans k3
  have HK2 := Lib.hid hK2
  have HZ := Lib.hid hz
  have HB := Lib.hid hbb
  have HC : Hid (∀ V, Below w.heap.size w V → Calls Tryz.prog 45 #[.agg #[.int .i64 a, .int .i64 i, .string s, .slice B1 n1 d1, .slice B2 n2 d2, .slice B3 n3 d3, .slice B4 n4 d4]] V fun e w' => ∃ cs', e = .returned (.agg cs'.toArray) ∧ VB k w' (Btw V.heap.size w'.heap.size) u cs' ∧ Below V.heap.size V w') := Lib.hid fun V hV => clone_any k u _ V (VS.up hV.size (Nat.le_refl _) (VS.on hV ha)) su
  have HD : Hid (∀ V, Below w.heap.size w V → Calls Tryz.prog 45 #[.agg #[.int .i64 a', .int .i64 i', .string s', .slice B1' n1' d1', .slice B2' n2' d2', .slice B3' n3' d3', .slice B4' n4' d4']] V fun e w' => ∃ cs', e = .returned (.agg cs'.toArray) ∧ VB k w' (Btw V.heap.size w'.heap.size) v cs' ∧ Below V.heap.size V w') := Lib.hid fun V hV => clone_any k v _ V (VS.up hV.size (Nat.le_refl _) (VS.on hV hb)) sv
  clear ha hb su sv hbb k1 k2 k3 hHK hK2 hz
  go_enter Tryz.func16, Tryz.ntmps16
  go_wp2_with fail
  rw [← hW]
  clear hW
  refine wp_region_held_drew (S := fun wq => wq.cell? ⟨w.heap.size, 0, none⟩ = some (.int .i64 a) ∧ wq.cell? ⟨w.heap.size, 1, none⟩ = some (.int .i64 i) ∧ wq.cell? ⟨w.heap.size, 2, none⟩ = some (.string s) ∧ wq.cell? ⟨w.heap.size, 3, none⟩ = some (.slice B1 n1 d1) ∧ wq.cell? ⟨w.heap.size, 4, none⟩ = some (.slice B2 n2 d2) ∧ wq.cell? ⟨w.heap.size, 5, none⟩ = some (.slice B3 n3 d3) ∧ wq.cell? ⟨w.heap.size, 6, none⟩ = some (.slice B4 n4 d4) ∧ wq.cell? ⟨w.heap.size + 1, 0, none⟩ = some (.int .i64 a') ∧ wq.cell? ⟨w.heap.size + 1, 1, none⟩ = some (.int .i64 i') ∧ wq.cell? ⟨w.heap.size + 1, 2, none⟩ = some (.string s') ∧ wq.cell? ⟨w.heap.size + 1, 3, none⟩ = some (.slice B1' n1' d1') ∧ wq.cell? ⟨w.heap.size + 1, 4, none⟩ = some (.slice B2' n2' d2') ∧ wq.cell? ⟨w.heap.size + 1, 5, none⟩ = some (.slice B3' n3' d3') ∧ wq.cell? ⟨w.heap.size + 1, 6, none⟩ = some (.slice B4' n4' d4')) (by kernel_rfl) (HK.out _ (Below.refl _ _).drew) (fun _ => ?_)
  have hB9 : Below W.heap.size W W.drew := (Below.refl _ _).drew
  refine tk 0 (HK.out _ hB9) ?_
  try simp only [Act.put, pA, pB, pC]
  refine tk 2 (HK.out _ hB9) ?_
  try simp only [Act.put, pA, pB, pC]
  refine one_op 1 (by kernel_rfl) rfl (by rfl) (fun K hK => ?_)
  go_simp
  refine (HC.out _ (HB.out.trans (hB9.mono HB.out.size))).mono ?_
  rintro e w10 ⟨cs10, rfl, hv10, hb10⟩
  obtain ⟨a2, i2, s2, B12, n12, d12, B22, n22, d22, B32, n32, d32, B42, n42, d42, rfl⟩ := hv10.form7
  have hB10 : Below W.heap.size W w10 := step_below hB9 (Nat.le_refl _) hb10
  refine hK _ _ (HK.out _ hB10) ?_
  try simp only [Act.put, pA, pB, pC]
  clear hK K
  refine one_op 3 (by kernel_rfl) rfl (by rfl) (fun K hK => ?_)
  go_simp
  refine (HD.out _ (HB.out.trans (hB10.mono HB.out.size))).mono ?_
  rintro e w11 ⟨cs11, rfl, hv11, hb11⟩
  obtain ⟨a3, i3, s3, B13, n13, d13, B23, n23, d23, B33, n33, d33, B43, n43, d43, rfl⟩ := hv11.form7
  have hB11 : Below W.heap.size W w11 := step_below hB10 (Nat.le_refl _) hb11
  refine hK _ _ (HK.out _ hB11) ?_
  try simp only [Act.put, pA, pB, pC]
  clear hK K
  have hz9 := HZ.out
  have hd : W.drew.heap.size = W.heap.size := rfl
  have hz10 := hB10.size
  have hz11 := hb11.size
  have hcc := cons_any k W.heap.size u v _ _ w11 (by omega) (VB.sub (fun b h => ⟨by have := h.1; omega, by have := h.2; omega⟩) (Nat.le_refl _) (VB.keep (.of_below hb11 fun _ h => h.2) hv10)) (VB.sub (fun b h => ⟨by have := h.1; omega, by have := h.2; omega⟩) (Nat.le_refl _) hv11)
  clear hz9 hd hz10 hz11
  refine one_op 4 (by kernel_rfl) rfl (by rfl) (fun K hK => ?_)
  go_simp
  refine hcc.mono ?_
  rintro e w12 ⟨cs12, rfl, hv12, hb12⟩
  obtain ⟨a9, i9, s9, B19, n19, d19, B29, n29, d29, B39, n39, d39, B49, n49, d49, rfl⟩ := hv12.form7
  have hB12 : Below W.heap.size W w12 := step_below hB11 (Nat.le_refl _) hb12
  clear hcc
  refine hK _ _ (HK.out _ hB12) ?_
  try simp only [Act.put, pA, pB, pC]
  clear hK K
  have ho : ∀ i, w12.cell? ⟨w.heap.size + 2, i, none⟩ = (#[.int .i64 0, .int .i64 0, .string ⟨#[]⟩, .slice none 0 0, .slice none 0 0, .slice none 0 0, .slice none 0 0] : Array Value)[i]? := fun i => Lib.cell_of_heap (HK2.out _ hB12) i
  have hfz : ∀ i, w12.frozen? ⟨w.heap.size + 2, i, none⟩ = false := fun i => Lib.frozen_of_heap (HK2.out _ hB12) i
  have s0 := (ho 0).trans rfl
  have z0 := hfz 0
  have s1 := (ho 1).trans rfl
  have z1 := hfz 1
  have s2 := (ho 2).trans rfl
  have z2 := hfz 2
  have s3 := (ho 3).trans rfl
  have z3 := hfz 3
  have s4 := (ho 4).trans rfl
  have z4 := hfz 4
  have s5 := (ho 5).trans rfl
  have z5 := hfz 5
  have s6 := (ho 6).trans rfl
  have z6 := hfz 6
  clear ho hfz
  refine one_op 5 (by kernel_rfl) rfl (by rfl) (fun K hK => ?_)
  go_simp
  obtain ⟨V, hV⟩ : ∃ V, V = (((((((w12.setCell ⟨(w.heap.size + 1 + 1), 0, none⟩ (Value.int .i64 a9)).setCell ⟨(w.heap.size + 1 + 1), 1, none⟩ (Value.int .i64 i9)).setCell ⟨(w.heap.size + 1 + 1), 2, none⟩ (Value.string s9)).setCell ⟨(w.heap.size + 1 + 1), 3, none⟩ (Value.slice B19 n19 d19)).setCell ⟨(w.heap.size + 1 + 1), 4, none⟩ (Value.slice B29 n29 d29)).setCell ⟨(w.heap.size + 1 + 1), 5, none⟩ (Value.slice B39 n39 d39)).setCell ⟨(w.heap.size + 1 + 1), 6, none⟩ (Value.slice B49 n49 d49)) := ⟨_, rfl⟩
  rw [← hV]
  have hob : V.heap[w.heap.size + 2]? = some (.cells #[Value.int .i64 a9, Value.int .i64 i9, Value.string s9, Value.slice B19 n19 d19, Value.slice B29 n29 d29, Value.slice B39 n39 d39, Value.slice B49 n49 d49] 27 (0, 0)) := by rw [hV]; exact obj7 (HK2.out _ hB12) (Value.int .i64 a9) (Value.int .i64 i9) (Value.string s9) (Value.slice B19 n19 d19) (Value.slice B29 n29 d29) (Value.slice B39 n39 d39) (Value.slice B49 n49 d49)
  have hBV : Below w.heap.size w V := by rw [hV]; exact Below.setCell (Below.setCell (Below.setCell (Below.setCell (Below.setCell (Below.setCell (Below.setCell ((HB.out.trans (hB12.mono HB.out.size))) (p := ⟨w.heap.size + 1 + 1, 0, none⟩) (by show w.heap.size ≤ w.heap.size + 1 + 1; omega) _) (p := ⟨w.heap.size + 1 + 1, 1, none⟩) (by show w.heap.size ≤ w.heap.size + 1 + 1; omega) _) (p := ⟨w.heap.size + 1 + 1, 2, none⟩) (by show w.heap.size ≤ w.heap.size + 1 + 1; omega) _) (p := ⟨w.heap.size + 1 + 1, 3, none⟩) (by show w.heap.size ≤ w.heap.size + 1 + 1; omega) _) (p := ⟨w.heap.size + 1 + 1, 4, none⟩) (by show w.heap.size ≤ w.heap.size + 1 + 1; omega) _) (p := ⟨w.heap.size + 1 + 1, 5, none⟩) (by show w.heap.size ≤ w.heap.size + 1 + 1; omega) _) (p := ⟨w.heap.size + 1 + 1, 6, none⟩) (by show w.heap.size ≤ w.heap.size + 1 + 1; omega) _
  have hszV : V.heap.size = w12.heap.size := by rw [hV]; simp
  have hcl : ∀ b i, b < w.heap.size + 2 → V.cell? ⟨b, i, none⟩ = w12.cell? ⟨b, i, none⟩ := by
    intro b i hb
    rw [hV]
    repeat rw [World.cell?_setCell_other _ _ _ _ (by intro e; simp only [Addr.mk.injEq] at e; omega)]
  have hcl2 : ∀ b i, w.heap.size + 2 < b → V.cell? ⟨b, i, none⟩ = w12.cell? ⟨b, i, none⟩ := by
    intro b i hb
    rw [hV]
    repeat rw [World.cell?_setCell_other _ _ _ _ (by intro e; simp only [Addr.mk.injEq] at e; omega)]
  obtain ⟨a0, a1, a2, a3, a4, a5, a6, b0, b1, b2, b3, b4, b5, b6⟩ := HK.out _ hB12
  refine hK _ _ ⟨(hcl _ 0 (by omega)).trans a0, (hcl _ 1 (by omega)).trans a1, (hcl _ 2 (by omega)).trans a2, (hcl _ 3 (by omega)).trans a3, (hcl _ 4 (by omega)).trans a4, (hcl _ 5 (by omega)).trans a5, (hcl _ 6 (by omega)).trans a6, (hcl _ 0 (by omega)).trans b0, (hcl _ 1 (by omega)).trans b1, (hcl _ 2 (by omega)).trans b2, (hcl _ 3 (by omega)).trans b3, (hcl _ 4 (by omega)).trans b4, (hcl _ 5 (by omega)).trans b5, (hcl _ 6 (by omega)).trans b6⟩ ?_
  try simp only [Act.put, pA, pB, pC]
  clear hK K hcl hV s0 s1 s2 s3 s4 s5 s6 z0 z1 z2 z3 z4 z5 z6 a0 a1 a2 a3 a4 a5 a6 b0 b1 b2 b3 b4 b5 b6
  refine wpAnyH_done (by kernel_rfl) ?_ _
  obtain ⟨s0, s1, s2, s3, s4, s5, s6⟩ := cells7 hob
  go_wp2
  refine bodyPost_ret (v := .agg #[Value.int .i64 a9, Value.int .i64 i9, Value.string s9, Value.slice B19 n19 d19, Value.slice B29 n29 d29, Value.slice B39 n39 d39, Value.slice B49 n49 d49]) (by simp [results, Tryz.results16, go_sem, s0, s1, s2, s3, s4, s5, s6]) rfl ?_
  have hz9 := HZ.out
  have hsm : Same (Btw W.heap.size w12.heap.size) w12 V := ⟨by omega, fun b q h _ => hcl2 b q (by have := h.1; omega)⟩
  exact ⟨_, rfl, VB.sub (fun b h => ⟨by have := h.1; omega, by have := h.2; omega⟩) (Nat.le_refl _) (VB.keep hsm hv12), hBV⟩
end Go.Proofs.YtjfknigiehggkaaGreat
