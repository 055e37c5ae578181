/- The law's sanity check returns true. -/
import Derived.Test.YtjfknigiehggkaaGreatVm02
import Derived.Test.YtjfknigiehggkaaGreatVm03
import Derived.Test.YtjfknigiehggkaaGreatVm14
import Derived.Test.YtjfknigiehggkaaGreatVm19
import Derived.Test.YtjfknigiehggkaaGreatVm20
import Derived.Test.YtjfknigiehggkaaGreatVm27
import Derived.Test.YtjfknigiehggkaaGreatVm32
import Derived.Test.YtjfknigiehggkaaGreatVm33
namespace Go.Proofs.YtjfknigiehggkaaGreat
open Go Go.RowKit
set_option maxHeartbeats 400000 in
theorem int_exact (n : Int) (w : World) : Calls Tryz.prog 17 #[.int .i64 n] w fun e w' => e = .returned (.agg #[.int .i64 1, .int .i64 n, .string ⟨#[]⟩, .slice none 0 0, .slice none 0 0, .slice none 0 0, .slice none 0 0]) ∧ w' = w.alloc (.cells #[.int .i64 1, .int .i64 n, .string ⟨#[]⟩, .slice none 0 0, .slice none 0 0, .slice none 0 0, .slice none 0 0] 27) := by
  go_enter Tryz.func17, Tryz.ntmps17
  go_wp2
  refine bodyPost_ret (v := .agg #[.int .i64 1, .int .i64 n, .string ⟨#[]⟩, .slice none 0 0, .slice none 0 0, .slice none 0 0, .slice none 0 0]) (by simp [results, Tryz.results17, go_sem]) rfl ?_
  exact ⟨rfl, rfl⟩
def aV : Vl := listV [intV 1, intV 2]
theorem intVB (k : Nat) (n : Int) (hn : (Lit.int .i64 n).wf = true) (V : World) (B : Nat → Prop) : VB (k + 1) V B (intV n) [.int .i64 1, .int .i64 n, .string ⟨#[]⟩, .slice none 0 0, .slice none 0 0, .slice none 0 0, .slice none 0 0] :=
  ⟨_, _, _, _, rfl, by decide, hn, Nat.zero_le _, zeroRw _ _ _ _, zeroRw _ _ _ _, zeroRw _ _ _ _, zeroRw _ _ _ _⟩
theorem awake_nodes : nodes aV = 5 := by decide +kernel
theorem awake_high : high aV = 3 := by decide +kernel
theorem awake_ok : okV aV = true := by decide +kernel
theorem awake_bad : okV zeroV = false := by decide +kernel
theorem sml_int (n : Int) : sml (intV n) := by simp [intV, sml, smlVs, smlEs]
theorem sml_nil : sml nilV := by simp [nilV, sml, smlVs, smlEs]
theorem sml_cons {a b : Vl} (ha : sml a) (hb : sml b) : sml (consV a b) := by simp [consV, sml, smlVs, smlEs, ha, hb]
set_option maxRecDepth 100000 in
set_option maxHeartbeats 6400000 in
theorem awake_any (w : World) : Calls Tryz.prog 9 #[] w fun e w' => e = .returned (.bool true) ∧ Below w.heap.size w w' := by
  obtain ⟨W0, hW0⟩ : ∃ W0, W0 = ((w.alloc (.cells #[.int .i64 1, .int .i64 1, .string ⟨#[]⟩, .slice none 0 0, .slice none 0 0, .slice none 0 0, .slice none 0 0] 27)).alloc (.cells #[.int .i64 1, .int .i64 2, .string ⟨#[]⟩, .slice none 0 0, .slice none 0 0, .slice none 0 0, .slice none 0 0] 27)).alloc (.cells #[.int .i64 1, .int .i64 1, .string ⟨#[]⟩, .slice none 0 0, .slice none 0 0, .slice none 0 0, .slice none 0 0, .int .i64 1, .int .i64 2, .string ⟨#[]⟩, .slice none 0 0, .slice none 0 0, .slice none 0 0, .slice none 0 0] 27) := ⟨_, rfl⟩
  have hb0 : Below w.heap.size w W0 := by rw [hW0]; exact (((Below.refl _ _).alloc (Nat.le_refl _) _).alloc (by simp) _).alloc (by simp; omega) _
  have hz0 : W0.heap.size = w.heap.size + 3 := by rw [hW0]; simp
  have kA : W0.heap[w.heap.size + 2]? = some (.cells #[.int .i64 1, .int .i64 1, .string ⟨#[]⟩, .slice none 0 0, .slice none 0 0, .slice none 0 0, .slice none 0 0, .int .i64 1, .int .i64 2, .string ⟨#[]⟩, .slice none 0 0, .slice none 0 0, .slice none 0 0, .slice none 0 0] 27 (0, 0)) := by rw [hW0]; exact new_at' _ (by simp)
  have hcell : ∀ q, W0.cell? ⟨w.heap.size + 2, q, none⟩ = (#[.int .i64 1, .int .i64 1, .string ⟨#[]⟩, .slice none 0 0, .slice none 0 0, .slice none 0 0, .slice none 0 0, .int .i64 1, .int .i64 2, .string ⟨#[]⟩, .slice none 0 0, .slice none 0 0, .slice none 0 0, .slice none 0 0] : Array Value)[q]? := fun q => Lib.cell_of_heap kA q
  have hrow : RowP W0 W0.heap.size 7 (.slice (some ⟨w.heap.size + 2, 0, none⟩) [intV 1, intV 2].length 2) [intV 1, intV 2].length (fun j cs => ∃ x, [intV 1, intV 2][j]? = some x ∧ VS 1 W0 W0.heap.size x cs) := by
    refine ⟨_, _, rfl, ⟨by unfold maxLen; simp, by simp⟩, fun _ => ⟨w.heap.size + 2, 0, rfl, by omega, by omega, fun j hj => ?_⟩⟩
    match j, hj with
    | 0, _ =>
      refine ⟨[.int .i64 1, .int .i64 1, .string ⟨#[]⟩, .slice none 0 0, .slice none 0 0, .slice none 0 0, .slice none 0 0], rfl, fun q hq => ?_, intV 1, rfl, intVB 0 1 (by decide) _ _⟩
      rw [show 0 + 0 * 7 + q = q by omega, hcell]
      match q, hq with
      | 0, _ => rfl
      | 1, _ => rfl
      | 2, _ => rfl
      | 3, _ => rfl
      | 4, _ => rfl
      | 5, _ => rfl
      | 6, _ => rfl
    | 1, _ =>
      refine ⟨[.int .i64 1, .int .i64 2, .string ⟨#[]⟩, .slice none 0 0, .slice none 0 0, .slice none 0 0, .slice none 0 0], rfl, fun q hq => ?_, intV 2, rfl, intVB 0 2 (by decide) _ _⟩
      rw [show 0 + 1 * 7 + q = 7 + q by omega, hcell]
      match q, hq with
      | 0, _ => rfl
      | 1, _ => rfl
      | 2, _ => rfl
      | 3, _ => rfl
      | 4, _ => rfl
      | 5, _ => rfl
      | 6, _ => rfl
  have hL := list_any 1 _ 2 [intV 1, intV 2] W0 hrow (by simp [smlVs, sml_int])
  have HB0 := Lib.hid hb0
  have HZ0 := Lib.hid hz0
  clear hcell hrow kA hb0
  go_enter Tryz.func9, Tryz.ntmps9
  go_wp2_with (go_at_call 17; refine (int_exact _ _).mono ?_; rintro e w' ⟨rfl, rfl⟩)
  rw [← hW0]
  clear hW0
  refine hL.mono ?_
  rintro e w1 ⟨cs, K, rfl, hv, hb⟩
  clear hL
  obtain ⟨a1, i1, s1, B11, n11, d11, B21, n21, d21, B31, n31, d31, B41, n41, d41, rfl⟩ := hv.form7
  go_wp2_with fail
  obtain ⟨W, hW⟩ : ∃ W, W = w1.alloc (.cells #[.int .i64 a1, .int .i64 i1, .string s1, .slice B11 n11 d11, .slice B21 n21 d21, .slice B31 n31 d31, .slice B41 n41 d41] 27) := ⟨_, rfl⟩
  rw [← hW]
  have hbW : Below W0.heap.size W0 W := hb.trans (by rw [hW]; exact (Below.refl _ _).alloc hb.size _)
  have hzW : W.heap.size = w1.heap.size + 1 := by rw [hW]; simp
  have kW : W.heap[w1.heap.size]? = some (.cells #[.int .i64 a1, .int .i64 i1, .string s1, .slice B11 n11 d11, .slice B21 n21 d21, .slice B31 n31 d31, .slice B41 n41 d41] 27 (0, 0)) := by rw [hW]; exact heap_alloc_new w1 _
  have hv1 : VS (K + 5) W W.heap.size aV [.int .i64 a1, .int .i64 i1, .string s1, .slice B11 n11 d11, .slice B21 n21 d21, .slice B31 n31 d31, .slice B41 n41 d41] := VB.sub (fun b h => by have := h.2; omega) (by omega) (VB.keep (.of_below (show Below w1.heap.size w1 W by rw [hW]; exact (Below.refl _ _).alloc (Nat.le_refl _) _) fun _ h => h.2) hv)
  have hHV : ∀ wq, Below W.heap.size W wq → VS (K + 5) wq wq.heap.size aV [.int .i64 a1, .int .i64 i1, .string s1, .slice B11 n11 d11, .slice B21 n21 d21, .slice B31 n31 d31, .slice B41 n41 d41] := fun wq h => VS.up h.size (Nat.le_refl _) (VS.on h hv1)
  have HK : Hid (∀ wq, Below W.heap.size W wq → wq.cell? ⟨w1.heap.size, 0, none⟩ = some (.int .i64 a1) ∧ wq.cell? ⟨w1.heap.size, 1, none⟩ = some (.int .i64 i1) ∧ wq.cell? ⟨w1.heap.size, 2, none⟩ = some (.string s1) ∧ wq.cell? ⟨w1.heap.size, 3, none⟩ = some (.slice B11 n11 d11) ∧ wq.cell? ⟨w1.heap.size, 4, none⟩ = some (.slice B21 n21 d21) ∧ wq.cell? ⟨w1.heap.size, 5, none⟩ = some (.slice B31 n31 d31) ∧ wq.cell? ⟨w1.heap.size, 6, none⟩ = some (.slice B41 n41 d41)) := Lib.hid fun wq h => ⟨(h.cell (p := ⟨_, 0, none⟩) (by show w1.heap.size < _; omega)).trans ((Lib.cell_of_heap kW 0).trans rfl), (h.cell (p := ⟨_, 1, none⟩) (by show w1.heap.size < _; omega)).trans ((Lib.cell_of_heap kW 1).trans rfl), (h.cell (p := ⟨_, 2, none⟩) (by show w1.heap.size < _; omega)).trans ((Lib.cell_of_heap kW 2).trans rfl), (h.cell (p := ⟨_, 3, none⟩) (by show w1.heap.size < _; omega)).trans ((Lib.cell_of_heap kW 3).trans rfl), (h.cell (p := ⟨_, 4, none⟩) (by show w1.heap.size < _; omega)).trans ((Lib.cell_of_heap kW 4).trans rfl), (h.cell (p := ⟨_, 5, none⟩) (by show w1.heap.size < _; omega)).trans ((Lib.cell_of_heap kW 5).trans rfl), (h.cell (p := ⟨_, 6, none⟩) (by show w1.heap.size < _; omega)).trans ((Lib.cell_of_heap kW 6).trans rfl)⟩
  have HN : Hid (∀ wq, Below W.heap.size W wq → Calls Tryz.prog 38 #[.agg #[.int .i64 a1, .int .i64 i1, .string s1, .slice B11 n11 d11, .slice B21 n21 d21, .slice B31 n31 d31, .slice B41 n41 d41]] wq fun e w' => e = .returned (.int .i64 5) ∧ Below wq.heap.size wq w') := Lib.hid fun wq h => (nodesP_any _ aV _ wq (hHV wq h)).mono fun e w' ⟨h1, h2⟩ => ⟨by rw [h1, awake_nodes]; simp [wrap64], h2⟩
  have HH : Hid (∀ wq, Below W.heap.size W wq → Calls Tryz.prog 39 #[.agg #[.int .i64 a1, .int .i64 i1, .string s1, .slice B11 n11 d11, .slice B21 n21 d21, .slice B31 n31 d31, .slice B41 n41 d41]] wq fun e w' => e = .returned (.int .i64 3) ∧ Below wq.heap.size wq w') := Lib.hid fun wq h => (heightP_any _ aV _ wq (hHV wq h) (by rw [awake_high]; omega)).mono fun e w' ⟨h1, h2⟩ => ⟨by rw [h1, awake_high]; rfl, h2⟩
  have HV1 : Hid (∀ wq, Below W.heap.size W wq → Calls Tryz.prog 11 #[.agg #[.int .i64 a1, .int .i64 i1, .string s1, .slice B11 n11 d11, .slice B21 n21 d21, .slice B31 n31 d31, .slice B41 n41 d41]] wq fun e w' => e = .returned (.int .i64 0) ∧ Below wq.heap.size wq w') := Lib.hid fun wq h => (validate_any _ aV _ wq (hHV wq h)).mono fun e w' ⟨h1, h2⟩ => ⟨by rw [h1, awake_ok]; rfl, h2⟩
  have HV0 : Hid (∀ wq : World, Calls Tryz.prog 11 #[.agg #[.int .i64 0, .int .i64 0, .string ⟨#[]⟩, .slice none 0 0, .slice none 0 0, .slice none 0 0, .slice none 0 0]] wq fun e w' => e = .returned (.int .i64 1) ∧ Below wq.heap.size wq w') := Lib.hid fun wq => (validate_any 1 zeroV _ wq (zeroVB 0 wq _)).mono fun e w' ⟨h1, h2⟩ => ⟨by rw [h1, awake_bad]; rfl, h2⟩
  have HV := Lib.hid hHV
  have HBW := Lib.hid (HB0.out.trans (hbW.mono (by have := HZ0.out; omega)))
  clear hW hbW hv1 hHV hv hb hzW kW
  refine wp_region_held_drew (S := fun wq => wq.cell? ⟨w1.heap.size, 0, none⟩ = some (.int .i64 a1) ∧ wq.cell? ⟨w1.heap.size, 1, none⟩ = some (.int .i64 i1) ∧ wq.cell? ⟨w1.heap.size, 2, none⟩ = some (.string s1) ∧ wq.cell? ⟨w1.heap.size, 3, none⟩ = some (.slice B11 n11 d11) ∧ wq.cell? ⟨w1.heap.size, 4, none⟩ = some (.slice B21 n21 d21) ∧ wq.cell? ⟨w1.heap.size, 5, none⟩ = some (.slice B31 n31 d31) ∧ wq.cell? ⟨w1.heap.size, 6, none⟩ = some (.slice B41 n41 d41)) (by kernel_rfl) (HK.out _ (Below.refl _ _).drew) (fun _ => ?_)
  have hB9 : Below W.heap.size W W.drew := (Below.refl _ _).drew
  refine tk 0 (HK.out _ hB9) ?_
  try simp only [Act.put, pA, pB, pC]
  refine one_op 1 (by kernel_rfl) rfl (by rfl) (fun K9 hK => ?_)
  go_simp
  refine (HN.out _ hB9).mono ?_
  rintro e w20 ⟨rfl, hb10⟩
  have hB10 : Below W.heap.size W w20 := step_below hB9 (Nat.le_refl _) hb10
  clear hB9 hb10
  refine hK _ _ (HK.out _ hB10) ?_
  try simp only [Act.put, pA, pB, pC]
  clear hK K9
  refine tk 2 (HK.out _ hB10) ?_
  try simp only [Act.put, pA, pB, pC]
  refine tk 3 (HK.out _ hB10) ?_
  try simp only [Act.put, pA, pB, pC]
  refine tk 4 (HK.out _ hB10) ?_
  try simp only [Act.put, pA, pB, pC]
  refine one_op 5 (by kernel_rfl) rfl (by rfl) (fun K9 hK => ?_)
  go_simp
  refine (HH.out _ hB10).mono ?_
  rintro e w21 ⟨rfl, hb11⟩
  have hB11 : Below W.heap.size W w21 := step_below hB10 (Nat.le_refl _) hb11
  clear hB10 hb11
  refine hK _ _ (HK.out _ hB11) ?_
  try simp only [Act.put, pA, pB, pC]
  clear hK K9
  refine tk 6 (HK.out _ hB11) ?_
  try simp only [Act.put, pA, pB, pC]
  refine tk 7 (HK.out _ hB11) ?_
  try simp only [Act.put, pA, pB, pC]
  refine tk 8 (HK.out _ hB11) ?_
  try simp only [Act.put, pA, pB, pC]
  refine tk 9 (HK.out _ hB11) ?_
  try simp only [Act.put, pA, pB, pC]
  refine one_op 10 (by kernel_rfl) rfl (by rfl) (fun K9 hK => ?_)
  go_simp
  refine (HV1.out _ hB11).mono ?_
  rintro e w22 ⟨rfl, hb12⟩
  have hB12 : Below W.heap.size W w22 := step_below hB11 (Nat.le_refl _) hb12
  clear hB11 hb12
  refine hK _ _ (HK.out _ hB12) ?_
  try simp only [Act.put, pA, pB, pC]
  clear hK K9
  refine tk 11 (HK.out _ hB12) ?_
  try simp only [Act.put, pA, pB, pC]
  refine tk 12 (HK.out _ hB12) ?_
  try simp only [Act.put, pA, pB, pC]
  refine tk 13 (HK.out _ hB12) ?_
  try simp only [Act.put, pA, pB, pC]
  refine tk 14 (HK.out _ hB12) ?_
  try simp only [Act.put, pA, pB, pC]
  refine one_op 15 (by kernel_rfl) rfl (by rfl) (fun K9 hK => ?_)
  go_simp
  refine (HV0.out _).mono ?_
  rintro e w23 ⟨rfl, hb13⟩
  have hB13 : Below W.heap.size W w23 := step_below hB12 (Nat.le_refl _) hb13
  clear hB12 hb13
  refine hK _ _ (HK.out _ hB13) ?_
  try simp only [Act.put, pA, pB, pC]
  clear hK K9
  refine tk 16 (HK.out _ hB13) ?_
  try simp only [Act.put, pA, pB, pC]
  refine tk 17 (HK.out _ hB13) ?_
  try simp only [Act.put, pA, pB, pC]
  refine tk 18 (HK.out _ hB13) ?_
  try simp only [Act.put, pA, pB, pC]
  refine tk 19 (HK.out _ hB13) ?_
  try simp only [Act.put, pA, pB, pC]
  refine one_op 20 (by kernel_rfl) rfl (by rfl) (fun K9 hK => ?_)
  go_simp
  refine (int_exact _ _).mono ?_
  rintro e w24 ⟨rfl, hw14⟩
  have hb14 := (Below.refl _ _).alloc (Nat.le_refl _) _ |> fun (h : Below _ _ _) => hw14 ▸ h
  clear hw14
  have hB14 : Below W.heap.size W w24 := step_below hB13 (Nat.le_refl _) hb14
  clear hB13 hb14
  refine hK _ _ (HK.out _ hB14) ?_
  try simp only [Act.put, pA, pB, pC]
  clear hK K9
  refine one_op 21 (by kernel_rfl) rfl (by rfl) (fun K9 hK => ?_)
  go_simp
  refine (int_exact _ _).mono ?_
  rintro e w25 ⟨rfl, hw15⟩
  have hb15 := (Below.refl _ _).alloc (Nat.le_refl _) _ |> fun (h : Below _ _ _) => hw15 ▸ h
  clear hw15
  have hB15 : Below W.heap.size W w25 := step_below hB14 (Nat.le_refl _) hb15
  clear hB14 hb15
  refine hK _ _ (HK.out _ hB15) ?_
  try simp only [Act.put, pA, pB, pC]
  clear hK K9
  refine one_op 22 (by kernel_rfl) rfl (by rfl) (fun K9 hK => ?_)
  go_simp
  refine (nil_any _).mono ?_
  rintro e w26 ⟨rfl, hb16⟩
  have hB16 : Below W.heap.size W w26 := step_below hB15 (Nat.le_refl _) hb16
  clear hB15 hb16
  refine hK _ _ (HK.out _ hB16) ?_
  try simp only [Act.put, pA, pB, pC]
  clear hK K9
  refine one_op 23 (by kernel_rfl) rfl (by rfl) (fun K9 hK => ?_)
  go_simp
  refine (consP_any 1 (intV 2) nilV _ _ _ (intVB 0 2 (by decide) _ _) (nilVB 0 _ _) (sml_int 2) sml_nil).mono ?_
  rintro e w27 ⟨c17, rfl, v17, hb17⟩
  have hB17 : Below W.heap.size W w27 := step_below hB16 (Nat.le_refl _) hb17
  clear hB16
  refine hK _ _ (HK.out _ hB17) ?_
  try simp only [Act.put, pA, pB, pC]
  clear hK K9
  refine one_op 24 (by kernel_rfl) rfl (by rfl) (fun K9 hK => ?_)
  go_simp
  refine (consP_any 2 (intV 1) (consV (intV 2) nilV) _ _ _ (intVB 1 1 (by decide) _ _) (VB.sub (fun _ h => h.2) (Nat.le_refl _) v17) (sml_int 1) (sml_cons (sml_int 2) sml_nil)).mono ?_
  rintro e w28 ⟨c18, rfl, v18, hb18⟩
  have hB18 : Below W.heap.size W w28 := step_below hB17 (Nat.le_refl _) hb18
  clear hB17
  refine hK _ _ (HK.out _ hB18) ?_
  try simp only [Act.put, pA, pB, pC]
  clear hK K9
  refine one_op 25 (by kernel_rfl) rfl (by rfl) (fun K9 hK => ?_)
  go_simp
  have hq : decide (cmpV aV (consV (intV 1) (consV (intV 2) nilV)) = 0) = true := by rw [decide_eq_true_iff]; exact cmpV_zero.2 rfl
  refine (equalP_any (K + 5) aV (consV (intV 1) (consV (intV 2) nilV)) _ _ _ (HV.out _ hB18) (VB.sub (fun _ h => h.2) (by omega) v18)).mono ?_
  rintro e w29 ⟨he, hb19⟩
  rw [hq] at he
  subst he
  clear hq v17 v18
  have hB19 : Below W.heap.size W w29 := step_below hB18 (Nat.le_refl _) hb19
  clear hB18 hb19
  refine hK _ _ (HK.out _ hB19) ?_
  try simp only [Act.put, pA, pB, pC]
  clear hK K9
  refine tk 26 (HK.out _ hB19) ?_
  try simp only [Act.put, pA, pB, pC]
  refine tk 27 (HK.out _ hB19) ?_
  try simp only [Act.put, List.setIfInBounds_toArray, List.set_cons_zero]
  refine wpAnyH_done (by kernel_rfl) ?_ _
  go_wp2
  go_ret
  exact ⟨rfl, HBW.out.trans (hB19.mono HBW.out.size)⟩
end Go.Proofs.YtjfknigiehggkaaGreat
namespace Go.Proofs.YtjfknigiehggkaaGreat
open Go Go.RowKit
theorem okV_mapV {keys : List (Int × List UInt8)} {vs : List Vl} (hk : keysB keys = true) (hv : ∀ x ∈ vs, okV x = true) (hl : keys.length = vs.length) : okV (mapV (srtC cK (keys.zip vs))) = true := by
  have hmem : ∀ p ∈ srtC cK (keys.zip vs), keyB p.1.1 p.1.2 = true ∧ okV p.2 = true := fun p hp => by
    have hz := List.of_mem_zip (mem_srtC_sub hp)
    exact ⟨List.all_eq_true.1 hk _ hz.1, hv _ hz.2⟩
  have h1 : okVs ((srtC cK (keys.zip vs)).map Prod.snd) = true := by
    rw [okVs_all, List.all_eq_true]
    intro x hx
    obtain ⟨p, hp, rfl⟩ := List.mem_map.1 hx
    exact (hmem p hp).2
  have h2 : ((srtC cK (keys.zip vs)).map Prod.fst).all (fun x => keyB x.1 x.2) = true := by
    rw [List.all_eq_true]
    intro x hx
    obtain ⟨p, hp, rfl⟩ := List.mem_map.1 hx
    exact (hmem p hp).1
  have h3 : AscC cmpK ((srtC cK (keys.zip vs)).map Prod.fst) := by rw [srt_fst]; exact asc_srtC totK _
  generalize srtC cK (keys.zip vs) = z at *
  unfold mapV
  simp only [okV, labelsB, usesB, kindB, okEs, h1]
  rw [h2]
  simp [AscC] at *
  exact decide_eq_true h3
set_option maxRecDepth 100000 in
set_option maxHeartbeats 12800000 in
theorem maps_law (hD : Hid DrawnOk) (A : Option Addr) (c : Nat) (keys : List (Int × List UInt8)) (A0 : Option Addr) (n c0 : Nat) (w : World) (hK : RowP w w.heap.size 2 (.slice A keys.length c) keys.length (fun j cs => ∃ x, keys[j]? = some x ∧ kyC x cs)) (hR : RowII w A0 n c0) :
    Calls Tryz.prog 5 #[.slice A keys.length c, .slice A0 n c0] w fun e w' => e = .returned (.bool true) ∧ Below w.heap.size w w' := by
  have HK := Lib.hid hK
  have HR := Lib.hid hR
  generalize hkn : keys.length = kn at *
  have HKN := Lib.hid hkn
  clear hK hR hkn
  by_cases h1 : 12 < kn
  · have q1 : decide ((12 : Int) < (kn : Int)) = true := by rw [decide_eq_true_eq]; omega
    clear h1 hD
    go_enter Tryz.func5, Tryz.ntmps5
    go_wp2_with (go_at_call 9; refine (awake_any w).mono ?_; rintro e w1 ⟨rfl, hb1⟩; refine Hid.out ?_)
    refine Lib.hid ?_
    go_wp2
    go_ret
    exact ⟨rfl, hb1⟩
  have q1 : decide ((12 : Int) < (kn : Int)) = false := by rw [decide_eq_false_iff_not]; omega
  by_cases h2 : 12 < n
  · have q2 : decide ((12 : Int) < (n : Int)) = true := by rw [decide_eq_true_eq]; omega
    clear h1 h2 hD
    go_enter Tryz.func5, Tryz.ntmps5
    go_wp2_with (go_at_call 9; refine (awake_any w).mono ?_; rintro e w1 ⟨rfl, hb1⟩; refine Hid.out ?_)
    refine Lib.hid ?_
    go_wp2
    go_ret
    exact ⟨rfl, hb1⟩
  have q2 : decide ((12 : Int) < (n : Int)) = false := by rw [decide_eq_false_iff_not]; omega
  have HH := Lib.hid (And.intro (show n ≤ 12 by omega) (show kn ≤ 12 by omega))
  clear h1 h2
  go_enter Tryz.func5, Tryz.ntmps5
  go_wp2_with fail
  clear q1 q2
  go_loopw [5, 6] (fun l i wr => ∃ (j : Nat) (A1 : Option Addr) (c1 : Nat) (args : List Vl), l = .slice A1 args.length c1 ∧ i = .int .i64 j ∧ j ≤ n ∧ args.length = j ∧ OwnV 4 wr w.heap.size (.slice A1 args.length c1) args ∧ (∀ x ∈ args, okV x = true ∧ sml x) ∧ Below w.heap.size w wr) (fun _ i _ => n - (intOf i).toNat)
  case atStart => exact ⟨0, none, 0, [], rfl, rfl, Nat.zero_le _, rfl, OwnE.nil _ _ _ _ _, by simp, Below.refl _ _⟩
  case round =>
    obtain ⟨j, A1, c1, args, rfl, rfl, hj, hla, hO, hall, hb⟩ := hrel
    have HALL := Lib.hid hall
    have HO := Lib.hid hO
    have HLA := Lib.hid hla
    have hbs := hb.size
    generalize hlb : args.length = la at *
    have HLB := Lib.hid hlb
    obtain rfl : j = la := hla.symm
    clear hall hO hla hlb
    by_cases hjn : j < n
    · obtain ⟨bo, oo, co, u0, hu, hbo, ⟨A', n', c', hcs, hRow⟩, d0⟩ := RowB.at1 HR.out hjn
      injection hu with g1 g2 g3
      subst g1
      clear g2 g3
      simp only [List.cons.injEq, and_true] at hcs
      subst hcs
      have kn' : (j : Int) < (n : Int) := by omega
      have kp : (0 : Int) ≤ (j : Int) := by omega
      have x0 : wr.cell? ⟨bo, oo + j, none⟩ = some (.slice A' n' c') := (hb.cell (p := ⟨bo, _, none⟩) hbo).trans d0
      have hRw := (hRow.on hb fun _ _ h => h).mono hb.size (fun _ _ h => h)
      have hnl := hRow.form
      by_cases h40 : 20 < n'
      · have q3 : decide ((20 : Int) < (n' : Int)) = true := by rw [decide_eq_true_eq]; omega
        have HB := Lib.hid hb
        clear hRw hRow hnl h40 d0
        go_wp2_with (go_at_call 9; refine (awake_any wr).mono ?_; rintro e w1 ⟨rfl, hb1⟩; refine Hid.out ?_)
        refine Lib.hid ?_
        go_wp2
        go_ret
        exact ⟨rfl, HB.out.trans (hb1.mono hbs)⟩
      · have q3 : decide ((20 : Int) < (n' : Int)) = false := by simp; omega
        have hvc := hD.out A' n' c' wr hRw (by unfold maxLen; omega)
        have HB := Lib.hid hb
        clear hRw hRow hnl h40 d0
        go_wp2_with (go_at_call 10; refine hvc.mono ?_; rintro e w3 ⟨v, cs, rfl, hvb, hok, hsm, hb3⟩; refine Hid.out ?_)
        refine Lib.hid ?_
        clear hvc
        obtain ⟨a0, a1, a2, P1, e1, f1, P2, e2, f2, P3, e3, f3, P4, e4, f4, rfl⟩ := hvb.form7
        have hO3 := HO.out.old hb3
        have hblk := HO.out.blk
        have hzz := hb3.size
        have hll := HLB.out
        have hmm := HH.out
        go_wp2_with (at_builtin; refine wp_app_v rfl _ _ rfl 4 w.heap.size _ args rfl hO3 v _ 1 _ rfl rfl _ rfl (VB.sub (fun b hb => ⟨by have := hb.1; omega, hb.2, fun e => by have := hblk b e.symm; have := hb.1; omega⟩) (Nat.le_refl _) hvb) rfl (elV_one 4 v _ _ _ hvb) (by omega) (by omega) ?_; intro g cap w4 ho4 hb4 _ _; refine Hid.out ?_)
        refine Lib.hid ?_
        have HR4 := Lib.hid (And.intro ho4 (And.intro hok (And.intro hsm (HB.out.trans ((hb3.mono hbs).trans (hb4.mono (by omega)))))))
        have hw : IntKind.i64.wrap ((j : Int) + 1) = (j : Int) + 1 := IntWalk.i64_in _ (by have := HH.out.1; omega)
        clear ho4 hok hsm hvb hO3 hblk hb4 hll hmm hzz hb3
        go_wp2_with fail
        go_roundw
        case rel =>
          obtain ⟨r1, r2, r3, r4⟩ := HR4.out
          have hl2 : (args ++ [v]).length = j + 1 := by rw [List.length_append, HLB.out]; rfl
          refine ⟨j + 1, some ⟨g, 0, none⟩, cap, args ++ [v], by rw [hl2], by go_num, by omega, hl2, by rw [hl2, ← HLB.out]; exact r1, ?_, r4⟩
          intro x hx
          rcases List.mem_append.1 hx with hx | hx
          · exact HALL.out x hx
          · rw [List.mem_singleton.1 hx]; exact ⟨r2, r3⟩
        case measure => simp [intOf]; try omega
    · obtain rfl : j = n := by omega
      have hP0 : RowP wr wr.heap.size 7 (.slice A1 args.length c1) args.length (fun q cs => ∃ x, args[q]? = some x ∧ VS 4 wr wr.heap.size x cs) := by
        have hr := OwnE.row (v := .slice A1 args.length c1) (by rw [HLB.out]; exact HO.out) (by omega) (by rw [HLB.out]; have := HH.out.1; unfold maxLen; omega)
        exact RowB.sub hr (fun b hb => hb.2) (fun q cs ⟨x, hx, hv⟩ => ⟨x, hx, VB.sub (fun b hb => hb.2) (Nat.le_refl _) hv⟩)
      have hsml : smlVs args := smlVs_iff.2 fun x hx => (HALL.out x hx).2
      have HP : Hid (∀ V, Below wr.heap.size wr V → RowP V V.heap.size 7 (.slice A1 args.length c1) args.length (fun q cs => ∃ x, args[q]? = some x ∧ VS 4 V V.heap.size x cs)) := Lib.hid fun V hV => (hP0.on hV fun _ _ ⟨x, h1, h2⟩ => ⟨x, h1, VS.up hV.size (Nat.le_refl _) (VS.on hV h2)⟩).mono hV.size fun _ _ h => h
      have HKR : Hid (∀ V, Below wr.heap.size wr V → RowP V V.heap.size 2 (.slice A keys.length c) keys.length (fun j cs => ∃ x, keys[j]? = some x ∧ kyC x cs)) := Lib.hid fun V hV => by
        have hbV := hb.trans (hV.mono hbs)
        rw [HKN.out]
        exact (HK.out.on hbV fun _ _ h => h).mono hbV.size fun _ _ h => h
      have hm := mapP_any 4 A c keys A1 c1 args wr (HKR.out wr (Below.refl _ _)) hP0 (by rw [HKN.out]; have := HH.out.2; omega) hsml
      have HRM : Hid (∀ V, Below wr.heap.size wr V → Calls Tryz.prog 28 #[.slice A kn c, .slice A1 j c1] V (MapR 4 0 keys args V)) := Lib.hid fun V hV => by
        have h := refMap_any 4 0 A c keys A1 c1 args V (Nat.zero_le _) (RowB.sub (HKR.out V hV) (fun b hb => ⟨Nat.zero_le _, hb⟩) fun _ _ h => h) (RowB.sub (HP.out V hV) (fun b hb => ⟨Nat.zero_le _, hb⟩) fun _ _ ⟨x, h1, h2⟩ => ⟨x, h1, VB.sub (fun b hb => ⟨Nat.zero_le _, hb⟩) (Nat.le_refl _) h2⟩) (by rw [HKN.out]; have := HH.out.2; omega)
        rw [HKN.out, HLB.out] at h
        exact h
      rw [HKN.out, HLB.out] at hm
      have HB := Lib.hid hb
      clear hP0 hb hsml hjn hj
      go_wp2_with fail
      refine hm.mono ?_
      rintro e w2 ⟨hb2, hcase⟩
      clear hm
      have HB2 := Lib.hid hb2
      clear hb2
      rcases hcase with ⟨hno, rfl⟩ | ⟨hl, hk, hd, rfl⟩ | ⟨hl, hk, hd, cs, rfl, hv⟩
      · have HNO := Lib.hid hno
        clear hno
        go_wp2_with fail
        obtain ⟨w3, hw3⟩ : ∃ V, V = w2.alloc (.cells #[.int .i64 0, .int .i64 0, .string ⟨#[]⟩, .slice none 0 0, .slice none 0 0, .slice none 0 0, .slice none 0 0] 27) := ⟨_, rfl⟩
        have hb3 : Below w2.heap.size w2 w3 := by rw [hw3]; exact (Below.refl _ _).alloc (Nat.le_refl _) _
        have hz3 : w3.heap.size = w2.heap.size + 1 := by rw [hw3]; simp
        have k3 : w3.heap[w2.heap.size]? = some (.cells #[.int .i64 0, .int .i64 0, .string ⟨#[]⟩, .slice none 0 0, .slice none 0 0, .slice none 0 0, .slice none 0 0] 27 (0, 0)) := by rw [hw3]; exact heap_alloc_new w2 _
        rw [← hw3]
        clear hw3
        have HB3 : Hid (Below wr.heap.size wr w3) := Lib.hid (HB2.out.trans (hb3.mono HB2.out.size))
        refine (HRM.out w3 HB3.out).mono ?_
        rintro e w4 ⟨hb4, hcase⟩
        rcases hcase with ⟨hno', rfl⟩ | ⟨hl', hk', _, rfl⟩ | ⟨hl', hk', _, cs', rfl, hv'⟩
        · have hz4 := hb4.size
          have k4 : w4.heap[w2.heap.size]? = some (.cells #[.int .i64 0, .int .i64 0, .string ⟨#[]⟩, .slice none 0 0, .slice none 0 0, .slice none 0 0, .slice none 0 0] 27 (0, 0)) := (hb4.block _ (by omega)).trans k3
          have HB4 : Hid (Below wr.heap.size wr w4) := Lib.hid (HB3.out.trans (hb4.mono HB3.out.size))
          obtain ⟨w5, hw5⟩ : ∃ V, V = w4.alloc (.cells #[.int .i64 0, .int .i64 0, .string ⟨#[]⟩, .slice none 0 0, .slice none 0 0, .slice none 0 0, .slice none 0 0] 27) := ⟨_, rfl⟩
          have hb5 : Below w4.heap.size w4 w5 := by rw [hw5]; exact (Below.refl _ _).alloc (Nat.le_refl _) _
          have k5 : w5.heap[w2.heap.size]? = some (.cells #[.int .i64 0, .int .i64 0, .string ⟨#[]⟩, .slice none 0 0, .slice none 0 0, .slice none 0 0, .slice none 0 0] 27 (0, 0)) := (hb5.block _ (by omega)).trans k4
          have k5' := k5
          rw [hw5] at k5'
          obtain ⟨t0, t1, t2, t3, t4, t5, t6⟩ := cells7 k5'
          have hz5 : w2.heap.size < w5.heap.size := by have := hb5.size; omega
          have HB5 : Hid (Below wr.heap.size wr w5) := Lib.hid (HB4.out.trans (hb5.mono HB4.out.size))
          have HKM : Hid (∀ V, Below w5.heap.size w5 V → V.heap[w2.heap.size]? = some (.cells #[.int .i64 0, .int .i64 0, .string ⟨#[]⟩, .slice none 0 0, .slice none 0 0, .slice none 0 0, .slice none 0 0] 27 (0, 0))) := Lib.hid fun V hV => (hV.block _ hz5).trans k5
          have hEq := refEqual_any 1 zeroV zeroV [.int .i64 0, .int .i64 0, .string ⟨#[]⟩, .slice none 0 0, .slice none 0 0, .slice none 0 0, .slice none 0 0] [.int .i64 0, .int .i64 0, .string ⟨#[]⟩, .slice none 0 0, .slice none 0 0, .slice none 0 0, .slice none 0 0] w5 (zeroVB 0 _ _) (zeroVB 0 _ _)
          rw [decide_eq_true (cmpV_zero.2 rfl)] at hEq
          clear hb3 hb4 hb5 k3 k4 k5 k5' hz3 hz4 hz5
          go_wp2_with fail
          rw [← hw5]
          clear hw5 t0 t1 t2 t3 t4 t5 t6
          refine hEq.mono ?_
          rintro e w6 ⟨rfl, hb6⟩
          clear hEq
          go_wp2_with (go_at_call 9; refine (awake_any _).mono ?_; rintro e w9 ⟨rfl, hb9⟩; refine Hid.out ?_)
          refine Lib.hid ?_
          go_wp2
          go_ret
          exact ⟨rfl, HB.out.trans ((HB5.out.trans ((hb6.trans (hb9.mono hb6.size)).mono HB5.out.size)).mono hbs)⟩
        · exact absurd ⟨hl', hk'⟩ HNO.out
        · exact absurd ⟨hl', hk'⟩ HNO.out
      · have HOK := Lib.hid (And.intro hl (And.intro hk hd))
        clear hl hk hd
        go_wp2_with fail
        obtain ⟨w3, hw3⟩ : ∃ V, V = w2.alloc (.cells #[.int .i64 0, .int .i64 0, .string ⟨#[]⟩, .slice none 0 0, .slice none 0 0, .slice none 0 0, .slice none 0 0] 27) := ⟨_, rfl⟩
        have hb3 : Below w2.heap.size w2 w3 := by rw [hw3]; exact (Below.refl _ _).alloc (Nat.le_refl _) _
        have hz3 : w3.heap.size = w2.heap.size + 1 := by rw [hw3]; simp
        have k3 : w3.heap[w2.heap.size]? = some (.cells #[.int .i64 0, .int .i64 0, .string ⟨#[]⟩, .slice none 0 0, .slice none 0 0, .slice none 0 0, .slice none 0 0] 27 (0, 0)) := by rw [hw3]; exact heap_alloc_new w2 _
        rw [← hw3]
        clear hw3
        have HB3 : Hid (Below wr.heap.size wr w3) := Lib.hid (HB2.out.trans (hb3.mono HB2.out.size))
        refine (HRM.out w3 HB3.out).mono ?_
        rintro e w4 ⟨hb4, hcase⟩
        rcases hcase with ⟨hno', rfl⟩ | ⟨hl', hk', hd', rfl⟩ | ⟨hl', hk', hd', cs', rfl, hv'⟩
        · exact absurd ⟨HOK.out.1, HOK.out.2.1⟩ hno'
        · have hz4 := hb4.size
          have k4 : w4.heap[w2.heap.size]? = some (.cells #[.int .i64 0, .int .i64 0, .string ⟨#[]⟩, .slice none 0 0, .slice none 0 0, .slice none 0 0, .slice none 0 0] 27 (0, 0)) := (hb4.block _ (by omega)).trans k3
          have HB4 : Hid (Below wr.heap.size wr w4) := Lib.hid (HB3.out.trans (hb4.mono HB3.out.size))
          obtain ⟨w5, hw5⟩ : ∃ V, V = w4.alloc (.cells #[.int .i64 0, .int .i64 0, .string ⟨#[]⟩, .slice none 0 0, .slice none 0 0, .slice none 0 0, .slice none 0 0] 27) := ⟨_, rfl⟩
          have hb5 : Below w4.heap.size w4 w5 := by rw [hw5]; exact (Below.refl _ _).alloc (Nat.le_refl _) _
          have k5 : w5.heap[w2.heap.size]? = some (.cells #[.int .i64 0, .int .i64 0, .string ⟨#[]⟩, .slice none 0 0, .slice none 0 0, .slice none 0 0, .slice none 0 0] 27 (0, 0)) := (hb5.block _ (by omega)).trans k4
          have k5' := k5
          rw [hw5] at k5'
          obtain ⟨t0, t1, t2, t3, t4, t5, t6⟩ := cells7 k5'
          have hz5 : w2.heap.size < w5.heap.size := by have := hb5.size; omega
          have HB5 : Hid (Below wr.heap.size wr w5) := Lib.hid (HB4.out.trans (hb5.mono HB4.out.size))
          have HKM : Hid (∀ V, Below w5.heap.size w5 V → V.heap[w2.heap.size]? = some (.cells #[.int .i64 0, .int .i64 0, .string ⟨#[]⟩, .slice none 0 0, .slice none 0 0, .slice none 0 0, .slice none 0 0] 27 (0, 0))) := Lib.hid fun V hV => (hV.block _ hz5).trans k5
          have hEq := refEqual_any 1 zeroV zeroV [.int .i64 0, .int .i64 0, .string ⟨#[]⟩, .slice none 0 0, .slice none 0 0, .slice none 0 0, .slice none 0 0] [.int .i64 0, .int .i64 0, .string ⟨#[]⟩, .slice none 0 0, .slice none 0 0, .slice none 0 0, .slice none 0 0] w5 (zeroVB 0 _ _) (zeroVB 0 _ _)
          rw [decide_eq_true (cmpV_zero.2 rfl)] at hEq
          clear hb3 hb4 hb5 k3 k4 k5 k5' hz3 hz4 hz5
          go_wp2_with fail
          rw [← hw5]
          clear hw5 t0 t1 t2 t3 t4 t5 t6
          refine hEq.mono ?_
          rintro e w6 ⟨rfl, hb6⟩
          clear hEq
          go_wp2_with (go_at_call 9; refine (awake_any _).mono ?_; rintro e w9 ⟨rfl, hb9⟩; refine Hid.out ?_)
          refine Lib.hid ?_
          go_wp2
          go_ret
          exact ⟨rfl, HB.out.trans ((HB5.out.trans ((hb6.trans (hb9.mono hb6.size)).mono HB5.out.size)).mono hbs)⟩
        · exact absurd hd' HOK.out.2.2
      · have HOK := Lib.hid (And.intro hl (And.intro hk hd))
        clear hl hk hd
        obtain ⟨a2, i2, s2, P1, m1, e1, P2, m2, e2, P3, m3, e3, P4, m4, e4, rfl⟩ := hv.form7
        have HV := Lib.hid hv
        clear hv
        go_wp2_with fail
        obtain ⟨w3, hw3⟩ : ∃ V, V = w2.alloc (.cells #[.int .i64 a2, .int .i64 i2, .string s2, .slice P1 m1 e1, .slice P2 m2 e2, .slice P3 m3 e3, .slice P4 m4 e4] 27) := ⟨_, rfl⟩
        have hb3 : Below w2.heap.size w2 w3 := by rw [hw3]; exact (Below.refl _ _).alloc (Nat.le_refl _) _
        have hz3 : w3.heap.size = w2.heap.size + 1 := by rw [hw3]; simp
        have k3 : w3.heap[w2.heap.size]? = some (.cells #[.int .i64 a2, .int .i64 i2, .string s2, .slice P1 m1 e1, .slice P2 m2 e2, .slice P3 m3 e3, .slice P4 m4 e4] 27 (0, 0)) := by rw [hw3]; exact heap_alloc_new w2 _
        rw [← hw3]
        clear hw3
        have HB3 : Hid (Below wr.heap.size wr w3) := Lib.hid (HB2.out.trans (hb3.mono HB2.out.size))
        refine (HRM.out w3 HB3.out).mono ?_
        rintro e w4 ⟨hb4, hcase⟩
        rcases hcase with ⟨hno', rfl⟩ | ⟨hl', hk', hd', rfl⟩ | ⟨hl', hk', hd', cs', rfl, hv'⟩
        · exact absurd ⟨HOK.out.1, HOK.out.2.1⟩ hno'
        · exact absurd HOK.out.2.2 hd'
        · have hz4 := hb4.size
          have k4 : w4.heap[w2.heap.size]? = some (.cells #[.int .i64 a2, .int .i64 i2, .string s2, .slice P1 m1 e1, .slice P2 m2 e2, .slice P3 m3 e3, .slice P4 m4 e4] 27 (0, 0)) := (hb4.block _ (by omega)).trans k3
          have HB4 : Hid (Below wr.heap.size wr w4) := Lib.hid (HB3.out.trans (hb4.mono HB3.out.size))
          obtain ⟨a3, i3, s3, Q1, n1, f1, Q2, n2, f2, Q3, n3, f3, Q4, n4, f4, rfl⟩ := hv'.form7
          have HV' := Lib.hid hv'
          have HB34 := Lib.hid hb4
          have HB23 := Lib.hid hb3
          clear hv'
          obtain ⟨w5, hw5⟩ : ∃ V, V = w4.alloc (.cells #[.int .i64 a3, .int .i64 i3, .string s3, .slice Q1 n1 f1, .slice Q2 n2 f2, .slice Q3 n3 f3, .slice Q4 n4 f4] 27) := ⟨_, rfl⟩
          have hb5 : Below w4.heap.size w4 w5 := by rw [hw5]; exact (Below.refl _ _).alloc (Nat.le_refl _) _
          have k5 : w5.heap[w2.heap.size]? = some (.cells #[.int .i64 a2, .int .i64 i2, .string s2, .slice P1 m1 e1, .slice P2 m2 e2, .slice P3 m3 e3, .slice P4 m4 e4] 27 (0, 0)) := (hb5.block _ (by omega)).trans k4
          have k5' := k5
          rw [hw5] at k5'
          obtain ⟨t0, t1, t2, t3, t4, t5, t6⟩ := cells7 k5'
          have hz5 : w2.heap.size < w5.heap.size := by have := hb5.size; omega
          have HB5 : Hid (Below wr.heap.size wr w5) := Lib.hid (HB4.out.trans (hb5.mono HB4.out.size))
          have HKM : Hid (∀ V, Below w5.heap.size w5 V → V.heap[w2.heap.size]? = some (.cells #[.int .i64 a2, .int .i64 i2, .string s2, .slice P1 m1 e1, .slice P2 m2 e2, .slice P3 m3 e3, .slice P4 m4 e4] 27 (0, 0))) := Lib.hid fun V hV => (hV.block _ hz5).trans k5
          have hEq := refEqual_any 5 (mapV (srtC cK (keys.zip args))) (mapV (srtC cK (keys.zip args))) [.int .i64 a2, .int .i64 i2, .string s2, .slice P1 m1 e1, .slice P2 m2 e2, .slice P3 m3 e3, .slice P4 m4 e4] [.int .i64 a3, .int .i64 i3, .string s3, .slice Q1 n1 f1, .slice Q2 n2 f2, .slice Q3 n3 f3, .slice Q4 n4 f4] w5 (VS.up hb5.size (Nat.le_refl _) (VS.on hb5 (VS.up hb4.size (Nat.le_refl _) (VS.on hb4 (VS.up hb3.size (Nat.le_refl _) (VS.on hb3 (VB.sub (fun b hb => hb.2) (Nat.le_refl _) HV.out))))))) (VS.up hb5.size (Nat.le_refl _) (VS.on hb5 (VB.sub (fun b hb => hb.2) (Nat.le_refl _) HV'.out)))
          rw [decide_eq_true (cmpV_zero.2 rfl)] at hEq
          have HVM : Hid (∀ V, Below w5.heap.size w5 V → Calls Tryz.prog 11 #[.agg #[.int .i64 a2, .int .i64 i2, .string s2, .slice P1 m1 e1, .slice P2 m2 e2, .slice P3 m3 e3, .slice P4 m4 e4]] V fun e w' => e = .returned (.int .i64 0) ∧ Below V.heap.size V w') := Lib.hid fun V hV => by
            have hh : Below w2.heap.size w2 V := hb3.trans ((hb4.trans ((hb5.trans (hV.mono hb5.size)).mono hb4.size)).mono hb3.size)
            have h := validate_any 5 (mapV (srtC cK (keys.zip args))) [.int .i64 a2, .int .i64 i2, .string s2, .slice P1 m1 e1, .slice P2 m2 e2, .slice P3 m3 e3, .slice P4 m4 e4] V (VS.up hh.size (Nat.le_refl _) (VS.on hh (VB.sub (fun b hb => hb.2) (Nat.le_refl _) HV.out)))
            rw [okV_mapV HOK.out.2.1 (fun x hx => (HALL.out x hx).1) HOK.out.1, if_pos rfl] at h
            exact h
          clear hb3 hb4 hb5 k3 k4 k5 k5' hz3 hz4 hz5
          go_wp2_with fail
          rw [← hw5]
          clear hw5 t0 t1 t2 t3 t4 t5 t6
          refine hEq.mono ?_
          rintro e w6 ⟨rfl, hb6⟩
          clear hEq
          have HB6 : Hid (Below w5.heap.size w5 w6) := Lib.hid hb6
          clear hb6
          obtain ⟨t0, t1, t2, t3, t4, t5, t6⟩ := cells7 (HKM.out w6 HB6.out)
          go_wp2_with fail
          clear t0 t1 t2 t3 t4 t5 t6
          refine (HVM.out w6 HB6.out).mono ?_
          rintro e w7 ⟨rfl, hb7⟩
          go_wp2_with (go_at_call 9; refine (awake_any _).mono ?_; rintro e w9 ⟨rfl, hb9⟩; refine Hid.out ?_)
          refine Lib.hid ?_
          go_wp2
          go_ret
          exact ⟨rfl, HB.out.trans ((HB5.out.trans ((HB6.out.trans ((hb7.trans (hb9.mono hb7.size)).mono HB6.out.size)).mono HB5.out.size)).mono hbs)⟩
end Go.Proofs.YtjfknigiehggkaaGreat
