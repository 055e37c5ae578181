/- The law's sanity check returns true. -/
import Derived.Test.YtjfknigiehggkaaGreatVl02
import Derived.Test.YtjfknigiehggkaaGreatVl19
import Derived.Test.YtjfknigiehggkaaGreatVl34
namespace Go.Proofs.YtjfknigiehggkaaGreat
open Go Go.RowKit
set_option maxHeartbeats 400000 in
theorem int_exact (n : Int) (w : World) : Calls Tryz.prog 17 #[.int .i64 n] w fun e w' => e = .returned (.agg #[.int .i64 1, .int .i64 n, .string ⟨#[]⟩, .slice none 0 0, .slice none 0 0, .slice none 0 0, .slice none 0 0]) ∧ w' = w.alloc (.cells #[.int .i64 1, .int .i64 n, .string ⟨#[]⟩, .slice none 0 0, .slice none 0 0, .slice none 0 0, .slice none 0 0] 27) := by
  go_enter Tryz.func17, Tryz.ntmps17
  go_wp2
  refine bodyPost_ret (v := .agg #[.int .i64 1, .int .i64 n, .string ⟨#[]⟩, .slice none 0 0, .slice none 0 0, .slice none 0 0, .slice none 0 0]) (by simp [results, Tryz.results17, go_sem]) rfl ?_
  exact ⟨rfl, rfl⟩
def aV : Vl := listV [intV 1, intV 2]
theorem intVB (k : Nat) (n : Int) (hn : (Lit.int .i64 n).wf = true) (V : World) (B : Nat → Prop) : VB (k + 1) V B (intV n) [.int .i64 1, .int .i64 n, .string ⟨#[]⟩, .slice none 0 0, .slice none 0 0, .slice none 0 0, .slice none 0 0] :=
  ⟨_, _, _, _, rfl, by decide, hn, Nat.zero_le _, zeroRw _ _ _ _, zeroRw _ _ _ _, zeroRw _ _ _ _, zeroRw _ _ _ _⟩
theorem awake_nodes : nodes aV = 5 := by decide +kernel
theorem awake_high : high aV = 3 := by decide +kernel
theorem awake_ok : okV aV = true := by decide +kernel
theorem awake_bad : okV zeroV = false := by decide +kernel
theorem sml_int (n : Int) : sml (intV n) := by simp [intV, sml, smlVs, smlEs]
theorem sml_nil : sml nilV := by simp [nilV, sml, smlVs, smlEs]
theorem sml_cons {a b : Vl} (ha : sml a) (hb : sml b) : sml (consV a b) := by simp [consV, sml, smlVs, smlEs, ha, hb]
set_option maxRecDepth 100000 in
set_option maxHeartbeats 6400000 in
theorem awake_any (w : World) : Calls Tryz.prog 9 #[] w fun e w' => e = .returned (.bool true) ∧ Below w.heap.size w w' := by
  obtain ⟨W0, hW0⟩ : ∃ W0, W0 = ((w.alloc (.cells #[.int .i64 1, .int .i64 1, .string ⟨#[]⟩, .slice none 0 0, .slice none 0 0, .slice none 0 0, .slice none 0 0] 27)).alloc (.cells #[.int .i64 1, .int .i64 2, .string ⟨#[]⟩, .slice none 0 0, .slice none 0 0, .slice none 0 0, .slice none 0 0] 27)).alloc (.cells #[.int .i64 1, .int .i64 1, .string ⟨#[]⟩, .slice none 0 0, .slice none 0 0, .slice none 0 0, .slice none 0 0, .int .i64 1, .int .i64 2, .string ⟨#[]⟩, .slice none 0 0, .slice none 0 0, .slice none 0 0, .slice none 0 0] 27) := ⟨_, rfl⟩
  have hb0 : Below w.heap.size w W0 := by rw [hW0]; exact (((Below.refl _ _).alloc (Nat.le_refl _) _).alloc (by simp) _).alloc (by simp; omega) _
  have hz0 : W0.heap.size = w.heap.size + 3 := by rw [hW0]; simp
  have kA : W0.heap[w.heap.size + 2]? = some (.cells #[.int .i64 1, .int .i64 1, .string ⟨#[]⟩, .slice none 0 0, .slice none 0 0, .slice none 0 0, .slice none 0 0, .int .i64 1, .int .i64 2, .string ⟨#[]⟩, .slice none 0 0, .slice none 0 0, .slice none 0 0, .slice none 0 0] 27 (0, 0)) := by rw [hW0]; exact new_at' _ (by simp)
  have hcell : ∀ q, W0.cell? ⟨w.heap.size + 2, q, none⟩ = (#[.int .i64 1, .int .i64 1, .string ⟨#[]⟩, .slice none 0 0, .slice none 0 0, .slice none 0 0, .slice none 0 0, .int .i64 1, .int .i64 2, .string ⟨#[]⟩, .slice none 0 0, .slice none 0 0, .slice none 0 0, .slice none 0 0] : Array Value)[q]? := fun q => Lib.cell_of_heap kA q
  have hrow : RowP W0 W0.heap.size 7 (.slice (some ⟨w.heap.size + 2, 0, none⟩) [intV 1, intV 2].length 2) [intV 1, intV 2].length (fun j cs => ∃ x, [intV 1, intV 2][j]? = some x ∧ VS 1 W0 W0.heap.size x cs) := by
    refine ⟨_, _, rfl, ⟨by unfold maxLen; simp, by simp⟩, fun _ => ⟨w.heap.size + 2, 0, rfl, by omega, by omega, fun j hj => ?_⟩⟩
    match j, hj with
    | 0, _ =>
      refine ⟨[.int .i64 1, .int .i64 1, .string ⟨#[]⟩, .slice none 0 0, .slice none 0 0, .slice none 0 0, .slice none 0 0], rfl, fun q hq => ?_, intV 1, rfl, intVB 0 1 (by decide) _ _⟩
      rw [show 0 + 0 * 7 + q = q by omega, hcell]
      match q, hq with
      | 0, _ => rfl
      | 1, _ => rfl
      | 2, _ => rfl
      | 3, _ => rfl
      | 4, _ => rfl
      | 5, _ => rfl
      | 6, _ => rfl
    | 1, _ =>
      refine ⟨[.int .i64 1, .int .i64 2, .string ⟨#[]⟩, .slice none 0 0, .slice none 0 0, .slice none 0 0, .slice none 0 0], rfl, fun q hq => ?_, intV 2, rfl, intVB 0 2 (by decide) _ _⟩
      rw [show 0 + 1 * 7 + q = 7 + q by omega, hcell]
      match q, hq with
      | 0, _ => rfl
      | 1, _ => rfl
      | 2, _ => rfl
      | 3, _ => rfl
      | 4, _ => rfl
      | 5, _ => rfl
      | 6, _ => rfl
  have hL := list_any 1 _ 2 [intV 1, intV 2] W0 hrow (by simp [smlVs, sml_int])
  have HB0 := Lib.hid hb0
  have HZ0 := Lib.hid hz0
  clear hcell hrow kA hb0
  go_enter Tryz.func9, Tryz.ntmps9
  go_wp2_with (go_at_call 17; refine (int_exact _ _).mono ?_; rintro e w' ⟨rfl, rfl⟩)
  rw [← hW0]
  clear hW0
  refine hL.mono ?_
  rintro e w1 ⟨cs, K, rfl, hv, hb⟩
  clear hL
  obtain ⟨a1, i1, s1, B11, n11, d11, B21, n21, d21, B31, n31, d31, B41, n41, d41, rfl⟩ := hv.form7
  go_wp2_with fail
  obtain ⟨W, hW⟩ : ∃ W, W = w1.alloc (.cells #[.int .i64 a1, .int .i64 i1, .string s1, .slice B11 n11 d11, .slice B21 n21 d21, .slice B31 n31 d31, .slice B41 n41 d41] 27) := ⟨_, rfl⟩
  rw [← hW]
  have hbW : Below W0.heap.size W0 W := hb.trans (by rw [hW]; exact (Below.refl _ _).alloc hb.size _)
  have hzW : W.heap.size = w1.heap.size + 1 := by rw [hW]; simp
  have kW : W.heap[w1.heap.size]? = some (.cells #[.int .i64 a1, .int .i64 i1, .string s1, .slice B11 n11 d11, .slice B21 n21 d21, .slice B31 n31 d31, .slice B41 n41 d41] 27 (0, 0)) := by rw [hW]; exact heap_alloc_new w1 _
  have hv1 : VS (K + 5) W W.heap.size aV [.int .i64 a1, .int .i64 i1, .string s1, .slice B11 n11 d11, .slice B21 n21 d21, .slice B31 n31 d31, .slice B41 n41 d41] := VB.sub (fun b h => by have := h.2; omega) (by omega) (VB.keep (.of_below (show Below w1.heap.size w1 W by rw [hW]; exact (Below.refl _ _).alloc (Nat.le_refl _) _) fun _ h => h.2) hv)
  have hHV : ∀ wq, Below W.heap.size W wq → VS (K + 5) wq wq.heap.size aV [.int .i64 a1, .int .i64 i1, .string s1, .slice B11 n11 d11, .slice B21 n21 d21, .slice B31 n31 d31, .slice B41 n41 d41] := fun wq h => VS.up h.size (Nat.le_refl _) (VS.on h hv1)
  have HK : Hid (∀ wq, Below W.heap.size W wq → wq.cell? ⟨w1.heap.size, 0, none⟩ = some (.int .i64 a1) ∧ wq.cell? ⟨w1.heap.size, 1, none⟩ = some (.int .i64 i1) ∧ wq.cell? ⟨w1.heap.size, 2, none⟩ = some (.string s1) ∧ wq.cell? ⟨w1.heap.size, 3, none⟩ = some (.slice B11 n11 d11) ∧ wq.cell? ⟨w1.heap.size, 4, none⟩ = some (.slice B21 n21 d21) ∧ wq.cell? ⟨w1.heap.size, 5, none⟩ = some (.slice B31 n31 d31) ∧ wq.cell? ⟨w1.heap.size, 6, none⟩ = some (.slice B41 n41 d41)) := Lib.hid fun wq h => ⟨(h.cell (p := ⟨_, 0, none⟩) (by show w1.heap.size < _; omega)).trans ((Lib.cell_of_heap kW 0).trans rfl), (h.cell (p := ⟨_, 1, none⟩) (by show w1.heap.size < _; omega)).trans ((Lib.cell_of_heap kW 1).trans rfl), (h.cell (p := ⟨_, 2, none⟩) (by show w1.heap.size < _; omega)).trans ((Lib.cell_of_heap kW 2).trans rfl), (h.cell (p := ⟨_, 3, none⟩) (by show w1.heap.size < _; omega)).trans ((Lib.cell_of_heap kW 3).trans rfl), (h.cell (p := ⟨_, 4, none⟩) (by show w1.heap.size < _; omega)).trans ((Lib.cell_of_heap kW 4).trans rfl), (h.cell (p := ⟨_, 5, none⟩) (by show w1.heap.size < _; omega)).trans ((Lib.cell_of_heap kW 5).trans rfl), (h.cell (p := ⟨_, 6, none⟩) (by show w1.heap.size < _; omega)).trans ((Lib.cell_of_heap kW 6).trans rfl)⟩
  have HN : Hid (∀ wq, Below W.heap.size W wq → Calls Tryz.prog 38 #[.agg #[.int .i64 a1, .int .i64 i1, .string s1, .slice B11 n11 d11, .slice B21 n21 d21, .slice B31 n31 d31, .slice B41 n41 d41]] wq fun e w' => e = .returned (.int .i64 5) ∧ Below wq.heap.size wq w') := Lib.hid fun wq h => (nodesP_any _ aV _ wq (hHV wq h)).mono fun e w' ⟨h1, h2⟩ => ⟨by rw [h1, awake_nodes]; simp [wrap64], h2⟩
  have HH : Hid (∀ wq, Below W.heap.size W wq → Calls Tryz.prog 39 #[.agg #[.int .i64 a1, .int .i64 i1, .string s1, .slice B11 n11 d11, .slice B21 n21 d21, .slice B31 n31 d31, .slice B41 n41 d41]] wq fun e w' => e = .returned (.int .i64 3) ∧ Below wq.heap.size wq w') := Lib.hid fun wq h => (heightP_any _ aV _ wq (hHV wq h) (by rw [awake_high]; omega)).mono fun e w' ⟨h1, h2⟩ => ⟨by rw [h1, awake_high]; rfl, h2⟩
  have HV1 : Hid (∀ wq, Below W.heap.size W wq → Calls Tryz.prog 11 #[.agg #[.int .i64 a1, .int .i64 i1, .string s1, .slice B11 n11 d11, .slice B21 n21 d21, .slice B31 n31 d31, .slice B41 n41 d41]] wq fun e w' => e = .returned (.int .i64 0) ∧ Below wq.heap.size wq w') := Lib.hid fun wq h => (validate_any _ aV _ wq (hHV wq h)).mono fun e w' ⟨h1, h2⟩ => ⟨by rw [h1, awake_ok]; rfl, h2⟩
  have HV0 : Hid (∀ wq : World, Calls Tryz.prog 11 #[.agg #[.int .i64 0, .int .i64 0, .string ⟨#[]⟩, .slice none 0 0, .slice none 0 0, .slice none 0 0, .slice none 0 0]] wq fun e w' => e = .returned (.int .i64 1) ∧ Below wq.heap.size wq w') := Lib.hid fun wq => (validate_any 1 zeroV _ wq (zeroVB 0 wq _)).mono fun e w' ⟨h1, h2⟩ => ⟨by rw [h1, awake_bad]; rfl, h2⟩
  have HV := Lib.hid hHV
  have HBW := Lib.hid (HB0.out.trans (hbW.mono (by have := HZ0.out; omega)))
  clear hW hbW hv1 hHV hv hb hzW kW
  refine wp_region_held_drew (S := fun wq => wq.cell? ⟨w1.heap.size, 0, none⟩ = some (.int .i64 a1) ∧ wq.cell? ⟨w1.heap.size, 1, none⟩ = some (.int .i64 i1) ∧ wq.cell? ⟨w1.heap.size, 2, none⟩ = some (.string s1) ∧ wq.cell? ⟨w1.heap.size, 3, none⟩ = some (.slice B11 n11 d11) ∧ wq.cell? ⟨w1.heap.size, 4, none⟩ = some (.slice B21 n21 d21) ∧ wq.cell? ⟨w1.heap.size, 5, none⟩ = some (.slice B31 n31 d31) ∧ wq.cell? ⟨w1.heap.size, 6, none⟩ = some (.slice B41 n41 d41)) (by kernel_rfl) (HK.out _ (Below.refl _ _).drew) (fun _ => ?_)
  have hB9 : Below W.heap.size W W.drew := (Below.refl _ _).drew
  refine tk 0 (HK.out _ hB9) ?_
  try simp only [Act.put, pA, pB, pC]
  refine one_op 1 (by kernel_rfl) rfl (by rfl) (fun K9 hK => ?_)
  go_simp
  refine (HN.out _ hB9).mono ?_
  rintro e w20 ⟨rfl, hb10⟩
  have hB10 : Below W.heap.size W w20 := step_below hB9 (Nat.le_refl _) hb10
  clear hB9 hb10
  refine hK _ _ (HK.out _ hB10) ?_
  try simp only [Act.put, pA, pB, pC]
  clear hK K9
  refine tk 2 (HK.out _ hB10) ?_
  try simp only [Act.put, pA, pB, pC]
  refine tk 3 (HK.out _ hB10) ?_
  try simp only [Act.put, pA, pB, pC]
  refine tk 4 (HK.out _ hB10) ?_
  try simp only [Act.put, pA, pB, pC]
  refine one_op 5 (by kernel_rfl) rfl (by rfl) (fun K9 hK => ?_)
  go_simp
  refine (HH.out _ hB10).mono ?_
  rintro e w21 ⟨rfl, hb11⟩
  have hB11 : Below W.heap.size W w21 := step_below hB10 (Nat.le_refl _) hb11
  clear hB10 hb11
  refine hK _ _ (HK.out _ hB11) ?_
  try simp only [Act.put, pA, pB, pC]
  clear hK K9
  refine tk 6 (HK.out _ hB11) ?_
  try simp only [Act.put, pA, pB, pC]
  refine tk 7 (HK.out _ hB11) ?_
  try simp only [Act.put, pA, pB, pC]
  refine tk 8 (HK.out _ hB11) ?_
  try simp only [Act.put, pA, pB, pC]
  refine tk 9 (HK.out _ hB11) ?_
  try simp only [Act.put, pA, pB, pC]
  refine one_op 10 (by kernel_rfl) rfl (by rfl) (fun K9 hK => ?_)
  go_simp
  refine (HV1.out _ hB11).mono ?_
  rintro e w22 ⟨rfl, hb12⟩
  have hB12 : Below W.heap.size W w22 := step_below hB11 (Nat.le_refl _) hb12
  clear hB11 hb12
  refine hK _ _ (HK.out _ hB12) ?_
  try simp only [Act.put, pA, pB, pC]
  clear hK K9
  refine tk 11 (HK.out _ hB12) ?_
  try simp only [Act.put, pA, pB, pC]
  refine tk 12 (HK.out _ hB12) ?_
  try simp only [Act.put, pA, pB, pC]
  refine tk 13 (HK.out _ hB12) ?_
  try simp only [Act.put, pA, pB, pC]
  refine tk 14 (HK.out _ hB12) ?_
  try simp only [Act.put, pA, pB, pC]
  refine one_op 15 (by kernel_rfl) rfl (by rfl) (fun K9 hK => ?_)
  go_simp
  refine (HV0.out _).mono ?_
  rintro e w23 ⟨rfl, hb13⟩
  have hB13 : Below W.heap.size W w23 := step_below hB12 (Nat.le_refl _) hb13
  clear hB12 hb13
  refine hK _ _ (HK.out _ hB13) ?_
  try simp only [Act.put, pA, pB, pC]
  clear hK K9
  refine tk 16 (HK.out _ hB13) ?_
  try simp only [Act.put, pA, pB, pC]
  refine tk 17 (HK.out _ hB13) ?_
  try simp only [Act.put, pA, pB, pC]
  refine tk 18 (HK.out _ hB13) ?_
  try simp only [Act.put, pA, pB, pC]
  refine tk 19 (HK.out _ hB13) ?_
  try simp only [Act.put, pA, pB, pC]
  refine one_op 20 (by kernel_rfl) rfl (by rfl) (fun K9 hK => ?_)
  go_simp
  refine (int_exact _ _).mono ?_
  rintro e w24 ⟨rfl, hw14⟩
  have hb14 := (Below.refl _ _).alloc (Nat.le_refl _) _ |> fun (h : Below _ _ _) => hw14 ▸ h
  clear hw14
  have hB14 : Below W.heap.size W w24 := step_below hB13 (Nat.le_refl _) hb14
  clear hB13 hb14
  refine hK _ _ (HK.out _ hB14) ?_
  try simp only [Act.put, pA, pB, pC]
  clear hK K9
  refine one_op 21 (by kernel_rfl) rfl (by rfl) (fun K9 hK => ?_)
  go_simp
  refine (int_exact _ _).mono ?_
  rintro e w25 ⟨rfl, hw15⟩
  have hb15 := (Below.refl _ _).alloc (Nat.le_refl _) _ |> fun (h : Below _ _ _) => hw15 ▸ h
  clear hw15
  have hB15 : Below W.heap.size W w25 := step_below hB14 (Nat.le_refl _) hb15
  clear hB14 hb15
  refine hK _ _ (HK.out _ hB15) ?_
  try simp only [Act.put, pA, pB, pC]
  clear hK K9
  refine one_op 22 (by kernel_rfl) rfl (by rfl) (fun K9 hK => ?_)
  go_simp
  refine (nil_any _).mono ?_
  rintro e w26 ⟨rfl, hb16⟩
  have hB16 : Below W.heap.size W w26 := step_below hB15 (Nat.le_refl _) hb16
  clear hB15 hb16
  refine hK _ _ (HK.out _ hB16) ?_
  try simp only [Act.put, pA, pB, pC]
  clear hK K9
  refine one_op 23 (by kernel_rfl) rfl (by rfl) (fun K9 hK => ?_)
  go_simp
  refine (consP_any 1 (intV 2) nilV _ _ _ (intVB 0 2 (by decide) _ _) (nilVB 0 _ _) (sml_int 2) sml_nil).mono ?_
  rintro e w27 ⟨c17, rfl, v17, hb17⟩
  have hB17 : Below W.heap.size W w27 := step_below hB16 (Nat.le_refl _) hb17
  clear hB16
  refine hK _ _ (HK.out _ hB17) ?_
  try simp only [Act.put, pA, pB, pC]
  clear hK K9
  refine one_op 24 (by kernel_rfl) rfl (by rfl) (fun K9 hK => ?_)
  go_simp
  refine (consP_any 2 (intV 1) (consV (intV 2) nilV) _ _ _ (intVB 1 1 (by decide) _ _) (VB.sub (fun _ h => h.2) (Nat.le_refl _) v17) (sml_int 1) (sml_cons (sml_int 2) sml_nil)).mono ?_
  rintro e w28 ⟨c18, rfl, v18, hb18⟩
  have hB18 : Below W.heap.size W w28 := step_below hB17 (Nat.le_refl _) hb18
  clear hB17
  refine hK _ _ (HK.out _ hB18) ?_
  try simp only [Act.put, pA, pB, pC]
  clear hK K9
  refine one_op 25 (by kernel_rfl) rfl (by rfl) (fun K9 hK => ?_)
  go_simp
  have hq : decide (cmpV aV (consV (intV 1) (consV (intV 2) nilV)) = 0) = true := by rw [decide_eq_true_iff]; exact cmpV_zero.2 rfl
  refine (equalP_any (K + 5) aV (consV (intV 1) (consV (intV 2) nilV)) _ _ _ (HV.out _ hB18) (VB.sub (fun _ h => h.2) (by omega) v18)).mono ?_
  rintro e w29 ⟨he, hb19⟩
  rw [hq] at he
  subst he
  clear hq v17 v18
  have hB19 : Below W.heap.size W w29 := step_below hB18 (Nat.le_refl _) hb19
  clear hB18 hb19
  refine hK _ _ (HK.out _ hB19) ?_
  try simp only [Act.put, pA, pB, pC]
  clear hK K9
  refine tk 26 (HK.out _ hB19) ?_
  try simp only [Act.put, pA, pB, pC]
  refine tk 27 (HK.out _ hB19) ?_
  try simp only [Act.put, List.setIfInBounds_toArray, List.set_cons_zero]
  refine wpAnyH_done (by kernel_rfl) ?_ _
  go_wp2
  go_ret
  exact ⟨rfl, HBW.out.trans (hB19.mono HBW.out.size)⟩
end Go.Proofs.YtjfknigiehggkaaGreat
