/- And, Or, Not on diagrams of functions. -/
import Derived.Test.YtplmbmecjhmiiaaDoorVal6
namespace Go.Proofs.YtplmbmecjhmiiaaDoor
open Go Go.RowKit
/-- the result box r of a world V6, filled; the row stays -/
theorem fill6 {V6 : World} {r base : Nat} {A : Option Addr} {c : Nat} {f : BF} (hf : F12 f) (hr : V6.heap[r]? = some (.cells #[.slice none 0 0, .int .i64 0] 29 (0, 0))) (hO : OwnNd V6 base (.slice A (can f []).1.length c) (can f []).1) (hrb : r < base) :
    ∃ V7, V7 = (V6.setCell ⟨r, 0, none⟩ (.slice A (can f []).1.length c)).setCell ⟨r, 1, none⟩ (.int .i64 (can f []).2) ∧ V7.heap[r]? = some (.cells #[.slice A (can f []).1.length c, .int .i64 (can f []).2] 29 (0, 0)) ∧ (∀ g, g ≠ r → V7.heap[g]? = V6.heap[g]?) ∧ Below r V6 V7 ∧ Dia f V7 V7.heap.size (.agg #[.slice A (can f []).1.length c, .int .i64 (can f []).2]) := by
  refine ⟨_, rfl, ?_, fun g hg => (heap_setCell_other _ _ _ _ hg).trans (heap_setCell_other _ _ _ _ hg), ((Below.refl r V6).setCell (p := ⟨r, 0, none⟩) (Nat.le_refl _) _).setCell (p := ⟨r, 1, none⟩) (Nat.le_refl _) _, Dia.of_own hf (OwnE.low (OwnE.low hO hrb) hrb)⟩
  have h0 := heap_setCell_same _ _ 0 _ _ (.slice A (can f []).1.length c) hr
  have h1 := heap_setCell_same _ _ 1 _ _ (.int .i64 (can f []).2) h0
  simpa using h1
/-- combine on two diagrams of functions -/
theorem comb_dia (fch : Nat) (ch : Bool → Bool → Bool) (hch : Hid (∀ (x y : Bool) (w : World), Calls Tryd.prog fch #[.bool x, .bool y] w fun e w' => e = .returned (.bool (ch x y)) ∧ w = w')) (ech : ∀ args w, (callFunc fch args).run Tryd.prog w = .ok (.enter fch args) w)
    {f g : BF} {v1 v2 : Value} {w : World} (h1 : Dia f w w.heap.size v1) (h2 : Dia g w w.heap.size v2) :
    F12 (fun s => ch (f s) (g s)) ∧ Calls Tryd.prog 23 #[v1, v2, .func (.func fch) #[] #[]] w fun e w' => ∃ A c base, e = .returned (.agg #[.slice A (can (fun s => ch (f s) (g s)) []).1.length c, .int .i64 (can (fun s => ch (f s) (g s)) []).2]) ∧ w.heap.size ≤ base ∧ OwnNd w' base (.slice A (can (fun s => ch (f s) (g s)) []).1.length c) (can (fun s => ch (f s) (g s)) []).1 ∧ Below w.heap.size w w' := by
  obtain ⟨hf, A1, c1, rfl, N1⟩ := h1
  obtain ⟨hg, A2, c2, rfl, N2⟩ := h2
  obtain ⟨_, G1, r1, F1⟩ := can_ok hf Good_nil
  obtain ⟨_, G2, r2, F2⟩ := can_ok hg Good_nil
  refine ⟨fun s t h => by simp only [hf s t h, hg s t h], ?_⟩
  have := combine_any fch ch hch ech A1 A2 _ _ c1 c2 (can f []).1 (can g []).1 (can f []).2 (can g []).2 w N1 N2 rfl rfl G1.ord G2.ord r1 r2 ⟨by have := can_small hf; omega, by have := can_small hg; omega⟩
  rw [show gP ch (can f []).1 (can g []).1 (can f []).2 (can g []).2 = fun s => ch (f s) (g s) from by funext s; unfold gP comb; simp only [F1, F2]] at this
  exact this
theorem and1_any (x y : Bool) (w : World) : Calls Tryd.prog 25 #[.bool x, .bool y] w fun e w' => e = .returned (.bool (x && y)) ∧ w = w' := by
  cases x <;> cases y
  all_goals
    go_enter Tryd.func25, Tryd.ntmps25
    go_wp2
    go_ret
    exact ⟨rfl, rfl⟩
theorem or1_any (x y : Bool) (w : World) : Calls Tryd.prog 29 #[.bool x, .bool y] w fun e w' => e = .returned (.bool (x || y)) ∧ w = w' := by
  cases x <;> cases y
  all_goals
    go_enter Tryd.func29, Tryd.ntmps29
    go_wp2
    go_ret
    exact ⟨rfl, rfl⟩
theorem not1_any (x y : Bool) (w : World) : Calls Tryd.prog 26 #[.bool x, .bool y] w fun e w' => e = .returned (.bool (x != y)) ∧ w = w' := by
  cases x <;> cases y
  all_goals
    go_enter Tryd.func26, Tryd.ntmps26
    go_wp2
    go_ret
    exact ⟨rfl, rfl⟩
set_option maxRecDepth 100000 in
set_option maxHeartbeats 1600000 in
theorem and_any {f g : BF} {v1 v2 : Value} {w : World} (h1 : Dia f w w.heap.size v1) (h2 : Dia g w w.heap.size v2) : Calls Tryd.prog 10 #[v1, v2] w fun e w' => ∃ v, e = .returned v ∧ Dia (fun s => f s && g s) w' w'.heap.size v ∧ Below w.heap.size w w' := by
  have HD1 := Lib.hid h1
  have HD2 := Lib.hid h2
  obtain ⟨hf, A1, c1, rfl, -⟩ := h1
  obtain ⟨hg, A2, c2, rfl, -⟩ := h2
  obtain ⟨W, hW⟩ : ∃ W, W = ((w.alloc (.cells #[.slice A1 (can f []).1.length c1, .int .i64 (can f []).2] 29)).alloc (.cells #[.slice A2 (can g []).1.length c2, .int .i64 (can g []).2] 29)).alloc (.cells #[.slice none 0 0, .int .i64 0] 29) := ⟨_, rfl⟩
  have hb : Below w.heap.size w W := by rw [hW]; exact (((Below.refl _ _).alloc (Nat.le_refl _) _).alloc (by simp) _).alloc (by simp <;> omega) _
  have hz : W.heap.size = w.heap.size + 3 := by rw [hW]; simp
  have k1 : W.heap[w.heap.size]? = some (.cells #[.slice A1 (can f []).1.length c1, .int .i64 (can f []).2] 29 (0, 0)) := by rw [hW]; exact (Below.heap_alloc _ _ _ (by simp <;> omega)).trans ((Below.heap_alloc _ _ _ (by simp)).trans (heap_alloc_new w _))
  have k2 : W.heap[w.heap.size + 1]? = some (.cells #[.slice A2 (can g []).1.length c2, .int .i64 (can g []).2] 29 (0, 0)) := by rw [hW]; exact (Below.heap_alloc _ _ _ (by simp)).trans (new_at' _ (by simp))
  have k3 : W.heap[w.heap.size + 2]? = some (.cells #[.slice none 0 0, .int .i64 0] 29 (0, 0)) := by rw [hW]; exact new_at' _ (by simp)
  have HK3 : Hid (∀ V, Below W.heap.size W V → V.heap[w.heap.size + 2]? = some (.cells #[.slice none 0 0, .int .i64 0] 29 (0, 0))) := Lib.hid fun V hV => (hV.block _ (by omega)).trans k3
  have HB := Lib.hid (And.intro hb hz)
  have HA1 : Hid (∀ V, Below W.heap.size W V → Calls Tryd.prog 24 #[.agg #[.slice A1 (can f []).1.length c1, .int .i64 (can f []).2]] V fun e w' => e = .returned (.agg #[.slice A1 (can f []).1.length c1, .int .i64 (can f []).2]) ∧ Below V.heap.size V w') := Lib.hid fun V hV => by
    have hbV := hb.trans (hV.mono (by omega))
    exact accept_dia (HD1.out.on hbV hbV.size)
  have HA2 : Hid (∀ V, Below W.heap.size W V → Calls Tryd.prog 24 #[.agg #[.slice A2 (can g []).1.length c2, .int .i64 (can g []).2]] V fun e w' => e = .returned (.agg #[.slice A2 (can g []).1.length c2, .int .i64 (can g []).2]) ∧ Below V.heap.size V w') := Lib.hid fun V hV => by
    have hbV := hb.trans (hV.mono (by omega))
    exact accept_dia (HD2.out.on hbV hbV.size)
  have ech := enters_of Tryd.func25 (by kernel_rfl) rfl
  have HC : Hid (F12 (fun s => f s && g s) ∧ ∀ V, Below W.heap.size W V → Calls Tryd.prog 23 #[.agg #[.slice A1 (can f []).1.length c1, .int .i64 (can f []).2], .agg #[.slice A2 (can g []).1.length c2, .int .i64 (can g []).2], .func (.func 25) #[] #[]] V fun e w' => ∃ A c base, e = .returned (.agg #[.slice A (can (fun s => f s && g s) []).1.length c, .int .i64 (can (fun s => f s && g s) []).2]) ∧ V.heap.size ≤ base ∧ OwnNd w' base (.slice A (can (fun s => f s && g s) []).1.length c) (can (fun s => f s && g s) []).1 ∧ Below V.heap.size V w') := Lib.hid ⟨fun s t h => by simp only [hf s t h, hg s t h], fun V hV => by
    have hbV := hb.trans (hV.mono (by omega))
    exact (comb_dia 25 (fun x y => x && y) (Lib.hid and1_any) ech (HD1.out.on hbV hbV.size) (HD2.out.on hbV hbV.size)).2⟩
  generalize (fun s => f s && g s) = fg at *
  generalize (can f []).1.length = n1 at *
  generalize ((can f []).2 : Int) = x1 at *
  generalize (can g []).1.length = n2 at *
  generalize ((can g []).2 : Int) = x2 at *
  have HS : Hid (∀ V, Below W.heap.size W V → (V.cell? ⟨w.heap.size, 0, none⟩ = some (.slice A1 n1 c1) ∧ V.cell? ⟨w.heap.size, 1, none⟩ = some (.int .i64 x1) ∧ V.cell? ⟨w.heap.size + 1, 0, none⟩ = some (.slice A2 n2 c2) ∧ V.cell? ⟨w.heap.size + 1, 1, none⟩ = some (.int .i64 x2))) := Lib.hid fun V hV => by
    obtain ⟨a0, a1⟩ := cells2 ((hV.block _ (by omega)).trans k1)
    obtain ⟨b0, b1⟩ := cells2 ((hV.block _ (by omega)).trans k2)
    exact ⟨a0, a1, b0, b1⟩
  clear HD1 HD2 hf hg hb hz k1 k2 k3
  go_enter Tryd.func10, Tryd.ntmps10
  go_wp2_with fail
  rw [← hW]
  clear hW
  refine wp_region_held_drew (S := fun V => (V.cell? ⟨w.heap.size, 0, none⟩ = some (.slice A1 n1 c1) ∧ V.cell? ⟨w.heap.size, 1, none⟩ = some (.int .i64 x1) ∧ V.cell? ⟨w.heap.size + 1, 0, none⟩ = some (.slice A2 n2 c2) ∧ V.cell? ⟨w.heap.size + 1, 1, none⟩ = some (.int .i64 x2))) (by kernel_rfl) (HS.out _ (Below.refl _ W).drew) (fun _ => ?_)
  refine tk 0 (HS.out _ (Below.refl _ W).drew) ?_
  try simp only [Act.put, pA, pB, pC]
  refine tk 2 (HS.out _ (Below.refl _ W).drew) ?_
  try simp only [Act.put, pA, pB, pC]
  refine one_op 1 (by kernel_rfl) rfl (by rfl) (fun K hK => ?_)
  go_simp
  refine (HA1.out _ (Below.refl _ W).drew).mono ?_
  rintro e V1 ⟨rfl, hb1⟩
  have HB1 := Lib.hid ((Below.refl W.heap.size W).drew.trans (hb1.mono (Nat.le_refl _)))
  clear hb1
  refine hK _ _ (HS.out _ HB1.out) ?_
  try simp only [Act.put, pA, pB, pC]
  clear hK K
  refine one_op 3 (by kernel_rfl) rfl (by rfl) (fun K hK => ?_)
  go_simp
  refine (HA2.out _ HB1.out).mono ?_
  rintro e V2 ⟨rfl, hb2⟩
  have HB2 := Lib.hid (HB1.out.trans (hb2.mono HB1.out.size))
  clear hb2
  refine hK _ _ (HS.out _ HB2.out) ?_
  try simp only [Act.put, pA, pB, pC]
  clear hK K
  refine one_op 4 (by kernel_rfl) rfl (by rfl) (fun K hK => ?_)
  go_simp
  refine (HC.out.2 _ HB2.out).mono ?_
  rintro e V3 ⟨A, c, base, rfl, hbase, hO, hb3⟩
  have hB3 := HB2.out.trans (hb3.mono HB2.out.size)
  have hr := HK3.out _ hB3
  obtain ⟨V7, hV7, kr7, ko7, hb7, hD7⟩ := fill6 HC.out.1 hr hO (by have := HB2.out.size; have := HB.out.2; omega)
  have HB3 := Lib.hid hB3
  obtain ⟨d0, d1⟩ := cells2 hr
  have z0 := Lib.frozen_of_heap hr 0
  have z1 := Lib.frozen_of_heap hr 1
  have hS7 : (fun V => (V.cell? ⟨w.heap.size, 0, none⟩ = some (.slice A1 n1 c1) ∧ V.cell? ⟨w.heap.size, 1, none⟩ = some (.int .i64 x1) ∧ V.cell? ⟨w.heap.size + 1, 0, none⟩ = some (.slice A2 n2 c2) ∧ V.cell? ⟨w.heap.size + 1, 1, none⟩ = some (.int .i64 x2))) V7 := by
    obtain ⟨p0, p1, p2, p3⟩ := HS.out _ HB3.out
    exact ⟨(World.cell?_of_block (a := ⟨w.heap.size, 0, none⟩) (ko7 _ (show w.heap.size ≠ w.heap.size + 2 by omega))).trans p0, (World.cell?_of_block (a := ⟨w.heap.size, 1, none⟩) (ko7 _ (show w.heap.size ≠ w.heap.size + 2 by omega))).trans p1, (World.cell?_of_block (a := ⟨w.heap.size + 1, 0, none⟩) (ko7 _ (show w.heap.size + 1 ≠ w.heap.size + 2 by omega))).trans p2, (World.cell?_of_block (a := ⟨w.heap.size + 1, 1, none⟩) (ko7 _ (show w.heap.size + 1 ≠ w.heap.size + 2 by omega))).trans p3⟩
  have HF := Lib.hid (And.intro hD7 ((HB.out.1.trans (HB3.out.mono HB.out.1.size)).trans (hb7.mono (by omega))))
  clear hO hb3 hB3 hr hb7 hD7 ko7 hbase
  refine hK _ _ (HS.out _ HB3.out) ?_
  try simp only [Act.put, pA, pB, pC]
  clear hK K
  generalize (can fg []).1.length = n at *
  generalize ((can fg []).2 : Int) = x at *
  refine one_op 5 (by kernel_rfl) rfl (by rfl) (fun K hK => ?_)
  go_simp
  rw [← hV7]
  obtain ⟨f0, f1⟩ := cells2 kr7
  clear hV7 kr7 d0 d1 z0 z1
  refine hK _ _ hS7 ?_
  try simp only [Act.put, pA, pB, pC]
  clear hK K hS7
  refine wpAnyH_done (by kernel_rfl) ?_ _
  go_wp2
  refine bodyPost_ret (v := .agg #[.slice A n c, .int .i64 x]) (by simp [results, Tryd.results10, go_sem, f0, f1]) rfl ?_
  exact ⟨_, rfl, HF.out.1, HF.out.2⟩
set_option maxRecDepth 100000 in
set_option maxHeartbeats 1600000 in
theorem or_any {f g : BF} {v1 v2 : Value} {w : World} (h1 : Dia f w w.heap.size v1) (h2 : Dia g w w.heap.size v2) : Calls Tryd.prog 13 #[v1, v2] w fun e w' => ∃ v, e = .returned v ∧ Dia (fun s => f s || g s) w' w'.heap.size v ∧ Below w.heap.size w w' := by
  have HD1 := Lib.hid h1
  have HD2 := Lib.hid h2
  obtain ⟨hf, A1, c1, rfl, -⟩ := h1
  obtain ⟨hg, A2, c2, rfl, -⟩ := h2
  obtain ⟨W, hW⟩ : ∃ W, W = ((w.alloc (.cells #[.slice A1 (can f []).1.length c1, .int .i64 (can f []).2] 29)).alloc (.cells #[.slice A2 (can g []).1.length c2, .int .i64 (can g []).2] 29)).alloc (.cells #[.slice none 0 0, .int .i64 0] 29) := ⟨_, rfl⟩
  have hb : Below w.heap.size w W := by rw [hW]; exact (((Below.refl _ _).alloc (Nat.le_refl _) _).alloc (by simp) _).alloc (by simp <;> omega) _
  have hz : W.heap.size = w.heap.size + 3 := by rw [hW]; simp
  have k1 : W.heap[w.heap.size]? = some (.cells #[.slice A1 (can f []).1.length c1, .int .i64 (can f []).2] 29 (0, 0)) := by rw [hW]; exact (Below.heap_alloc _ _ _ (by simp <;> omega)).trans ((Below.heap_alloc _ _ _ (by simp)).trans (heap_alloc_new w _))
  have k2 : W.heap[w.heap.size + 1]? = some (.cells #[.slice A2 (can g []).1.length c2, .int .i64 (can g []).2] 29 (0, 0)) := by rw [hW]; exact (Below.heap_alloc _ _ _ (by simp)).trans (new_at' _ (by simp))
  have k3 : W.heap[w.heap.size + 2]? = some (.cells #[.slice none 0 0, .int .i64 0] 29 (0, 0)) := by rw [hW]; exact new_at' _ (by simp)
  have HK3 : Hid (∀ V, Below W.heap.size W V → V.heap[w.heap.size + 2]? = some (.cells #[.slice none 0 0, .int .i64 0] 29 (0, 0))) := Lib.hid fun V hV => (hV.block _ (by omega)).trans k3
  have HB := Lib.hid (And.intro hb hz)
  have HA1 : Hid (∀ V, Below W.heap.size W V → Calls Tryd.prog 24 #[.agg #[.slice A1 (can f []).1.length c1, .int .i64 (can f []).2]] V fun e w' => e = .returned (.agg #[.slice A1 (can f []).1.length c1, .int .i64 (can f []).2]) ∧ Below V.heap.size V w') := Lib.hid fun V hV => by
    have hbV := hb.trans (hV.mono (by omega))
    exact accept_dia (HD1.out.on hbV hbV.size)
  have HA2 : Hid (∀ V, Below W.heap.size W V → Calls Tryd.prog 24 #[.agg #[.slice A2 (can g []).1.length c2, .int .i64 (can g []).2]] V fun e w' => e = .returned (.agg #[.slice A2 (can g []).1.length c2, .int .i64 (can g []).2]) ∧ Below V.heap.size V w') := Lib.hid fun V hV => by
    have hbV := hb.trans (hV.mono (by omega))
    exact accept_dia (HD2.out.on hbV hbV.size)
  have ech := enters_of Tryd.func29 (by kernel_rfl) rfl
  have HC : Hid (F12 (fun s => f s || g s) ∧ ∀ V, Below W.heap.size W V → Calls Tryd.prog 23 #[.agg #[.slice A1 (can f []).1.length c1, .int .i64 (can f []).2], .agg #[.slice A2 (can g []).1.length c2, .int .i64 (can g []).2], .func (.func 29) #[] #[]] V fun e w' => ∃ A c base, e = .returned (.agg #[.slice A (can (fun s => f s || g s) []).1.length c, .int .i64 (can (fun s => f s || g s) []).2]) ∧ V.heap.size ≤ base ∧ OwnNd w' base (.slice A (can (fun s => f s || g s) []).1.length c) (can (fun s => f s || g s) []).1 ∧ Below V.heap.size V w') := Lib.hid ⟨fun s t h => by simp only [hf s t h, hg s t h], fun V hV => by
    have hbV := hb.trans (hV.mono (by omega))
    exact (comb_dia 29 (fun x y => x || y) (Lib.hid or1_any) ech (HD1.out.on hbV hbV.size) (HD2.out.on hbV hbV.size)).2⟩
  generalize (fun s => f s || g s) = fg at *
  generalize (can f []).1.length = n1 at *
  generalize ((can f []).2 : Int) = x1 at *
  generalize (can g []).1.length = n2 at *
  generalize ((can g []).2 : Int) = x2 at *
  have HS : Hid (∀ V, Below W.heap.size W V → (V.cell? ⟨w.heap.size, 0, none⟩ = some (.slice A1 n1 c1) ∧ V.cell? ⟨w.heap.size, 1, none⟩ = some (.int .i64 x1) ∧ V.cell? ⟨w.heap.size + 1, 0, none⟩ = some (.slice A2 n2 c2) ∧ V.cell? ⟨w.heap.size + 1, 1, none⟩ = some (.int .i64 x2))) := Lib.hid fun V hV => by
    obtain ⟨a0, a1⟩ := cells2 ((hV.block _ (by omega)).trans k1)
    obtain ⟨b0, b1⟩ := cells2 ((hV.block _ (by omega)).trans k2)
    exact ⟨a0, a1, b0, b1⟩
  clear HD1 HD2 hf hg hb hz k1 k2 k3
  go_enter Tryd.func13, Tryd.ntmps13
  go_wp2_with fail
  rw [← hW]
  clear hW
  refine wp_region_held_drew (S := fun V => (V.cell? ⟨w.heap.size, 0, none⟩ = some (.slice A1 n1 c1) ∧ V.cell? ⟨w.heap.size, 1, none⟩ = some (.int .i64 x1) ∧ V.cell? ⟨w.heap.size + 1, 0, none⟩ = some (.slice A2 n2 c2) ∧ V.cell? ⟨w.heap.size + 1, 1, none⟩ = some (.int .i64 x2))) (by kernel_rfl) (HS.out _ (Below.refl _ W).drew) (fun _ => ?_)
  refine tk 0 (HS.out _ (Below.refl _ W).drew) ?_
  try simp only [Act.put, pA, pB, pC]
  refine tk 2 (HS.out _ (Below.refl _ W).drew) ?_
  try simp only [Act.put, pA, pB, pC]
  refine one_op 1 (by kernel_rfl) rfl (by rfl) (fun K hK => ?_)
  go_simp
  refine (HA1.out _ (Below.refl _ W).drew).mono ?_
  rintro e V1 ⟨rfl, hb1⟩
  have HB1 := Lib.hid ((Below.refl W.heap.size W).drew.trans (hb1.mono (Nat.le_refl _)))
  clear hb1
  refine hK _ _ (HS.out _ HB1.out) ?_
  try simp only [Act.put, pA, pB, pC]
  clear hK K
  refine one_op 3 (by kernel_rfl) rfl (by rfl) (fun K hK => ?_)
  go_simp
  refine (HA2.out _ HB1.out).mono ?_
  rintro e V2 ⟨rfl, hb2⟩
  have HB2 := Lib.hid (HB1.out.trans (hb2.mono HB1.out.size))
  clear hb2
  refine hK _ _ (HS.out _ HB2.out) ?_
  try simp only [Act.put, pA, pB, pC]
  clear hK K
  refine one_op 4 (by kernel_rfl) rfl (by rfl) (fun K hK => ?_)
  go_simp
  refine (HC.out.2 _ HB2.out).mono ?_
  rintro e V3 ⟨A, c, base, rfl, hbase, hO, hb3⟩
  have hB3 := HB2.out.trans (hb3.mono HB2.out.size)
  have hr := HK3.out _ hB3
  obtain ⟨V7, hV7, kr7, ko7, hb7, hD7⟩ := fill6 HC.out.1 hr hO (by have := HB2.out.size; have := HB.out.2; omega)
  have HB3 := Lib.hid hB3
  obtain ⟨d0, d1⟩ := cells2 hr
  have z0 := Lib.frozen_of_heap hr 0
  have z1 := Lib.frozen_of_heap hr 1
  have hS7 : (fun V => (V.cell? ⟨w.heap.size, 0, none⟩ = some (.slice A1 n1 c1) ∧ V.cell? ⟨w.heap.size, 1, none⟩ = some (.int .i64 x1) ∧ V.cell? ⟨w.heap.size + 1, 0, none⟩ = some (.slice A2 n2 c2) ∧ V.cell? ⟨w.heap.size + 1, 1, none⟩ = some (.int .i64 x2))) V7 := by
    obtain ⟨p0, p1, p2, p3⟩ := HS.out _ HB3.out
    exact ⟨(World.cell?_of_block (a := ⟨w.heap.size, 0, none⟩) (ko7 _ (show w.heap.size ≠ w.heap.size + 2 by omega))).trans p0, (World.cell?_of_block (a := ⟨w.heap.size, 1, none⟩) (ko7 _ (show w.heap.size ≠ w.heap.size + 2 by omega))).trans p1, (World.cell?_of_block (a := ⟨w.heap.size + 1, 0, none⟩) (ko7 _ (show w.heap.size + 1 ≠ w.heap.size + 2 by omega))).trans p2, (World.cell?_of_block (a := ⟨w.heap.size + 1, 1, none⟩) (ko7 _ (show w.heap.size + 1 ≠ w.heap.size + 2 by omega))).trans p3⟩
  have HF := Lib.hid (And.intro hD7 ((HB.out.1.trans (HB3.out.mono HB.out.1.size)).trans (hb7.mono (by omega))))
  clear hO hb3 hB3 hr hb7 hD7 ko7 hbase
  refine hK _ _ (HS.out _ HB3.out) ?_
  try simp only [Act.put, pA, pB, pC]
  clear hK K
  generalize (can fg []).1.length = n at *
  generalize ((can fg []).2 : Int) = x at *
  refine one_op 5 (by kernel_rfl) rfl (by rfl) (fun K hK => ?_)
  go_simp
  rw [← hV7]
  obtain ⟨f0, f1⟩ := cells2 kr7
  clear hV7 kr7 d0 d1 z0 z1
  refine hK _ _ hS7 ?_
  try simp only [Act.put, pA, pB, pC]
  clear hK K hS7
  refine wpAnyH_done (by kernel_rfl) ?_ _
  go_wp2
  refine bodyPost_ret (v := .agg #[.slice A n c, .int .i64 x]) (by simp [results, Tryd.results13, go_sem, f0, f1]) rfl ?_
  exact ⟨_, rfl, HF.out.1, HF.out.2⟩
theorem F12_tt : F12 ttB := fun _ _ _ => rfl
theorem F12_ff : F12 ffB := fun _ _ _ => rfl
theorem NdR_nil (w : World) (B : Nat → Prop) : NdR w B none 0 0 [] := ⟨rfl, none, 0, rfl, ⟨Nat.zero_le _, Nat.le_refl _⟩, fun h => absurd h (by omega)⟩
theorem dia_tt (w : World) (H : Nat) : Dia ttB w H (.agg #[.slice none 0 0, .int .i64 1]) := ⟨F12_tt, none, 0, by rw [can_tt Good_nil]; rfl, by rw [can_tt Good_nil]; exact NdR_nil _ _⟩
theorem dia_ff (w : World) (H : Nat) : Dia ffB w H (.agg #[.slice none 0 0, .int .i64 0]) := ⟨F12_ff, none, 0, by rw [can_ff Good_nil]; rfl, by rw [can_ff Good_nil]; exact NdR_nil _ _⟩
set_option maxRecDepth 100000 in
set_option maxHeartbeats 1600000 in
theorem not_any {f : BF} {v1 : Value} {w : World} (h1 : Dia f w w.heap.size v1) : Calls Tryd.prog 11 #[v1] w fun e w' => ∃ v, e = .returned v ∧ Dia (fun s => !f s) w' w'.heap.size v ∧ Below w.heap.size w w' := by
  have HD1 := Lib.hid h1
  obtain ⟨hf, A1, c1, rfl, -⟩ := h1
  obtain ⟨W, hW⟩ : ∃ W, W = (w.alloc (.cells #[.slice A1 (can f []).1.length c1, .int .i64 (can f []).2] 29)).alloc (.cells #[.slice none 0 0, .int .i64 0] 29) := ⟨_, rfl⟩
  have hb : Below w.heap.size w W := by rw [hW]; exact ((Below.refl _ _).alloc (Nat.le_refl _) _).alloc (by simp) _
  have hz : W.heap.size = w.heap.size + 2 := by rw [hW]; simp
  have k1 : W.heap[w.heap.size]? = some (.cells #[.slice A1 (can f []).1.length c1, .int .i64 (can f []).2] 29 (0, 0)) := by rw [hW]; exact (Below.heap_alloc _ _ _ (by simp)).trans (heap_alloc_new w _)
  have k3 : W.heap[w.heap.size + 1]? = some (.cells #[.slice none 0 0, .int .i64 0] 29 (0, 0)) := by rw [hW]; exact new_at' _ (by simp)
  have HK3 : Hid (∀ V, Below W.heap.size W V → V.heap[w.heap.size + 1]? = some (.cells #[.slice none 0 0, .int .i64 0] 29 (0, 0))) := Lib.hid fun V hV => (hV.block _ (by omega)).trans k3
  have HB := Lib.hid (And.intro hb hz)
  have HA1 : Hid (∀ V, Below W.heap.size W V → Calls Tryd.prog 24 #[.agg #[.slice A1 (can f []).1.length c1, .int .i64 (can f []).2]] V fun e w' => e = .returned (.agg #[.slice A1 (can f []).1.length c1, .int .i64 (can f []).2]) ∧ Below V.heap.size V w') := Lib.hid fun V hV => by
    have hbV := hb.trans (hV.mono (by omega))
    exact accept_dia (HD1.out.on hbV hbV.size)
  have ech := enters_of Tryd.func26 (by kernel_rfl) rfl
  have HC : Hid (F12 (fun s => !f s) ∧ ∀ V, Below W.heap.size W V → Calls Tryd.prog 23 #[.agg #[.slice A1 (can f []).1.length c1, .int .i64 (can f []).2], .agg #[.slice none 0 0, .int .i64 1], .func (.func 26) #[] #[]] V fun e w' => ∃ A c base, e = .returned (.agg #[.slice A (can (fun s => !f s) []).1.length c, .int .i64 (can (fun s => !f s) []).2]) ∧ V.heap.size ≤ base ∧ OwnNd w' base (.slice A (can (fun s => !f s) []).1.length c) (can (fun s => !f s) []).1 ∧ Below V.heap.size V w') := Lib.hid ⟨fun s t h => by simp only [hf s t h], fun V hV => by
    have hbV := hb.trans (hV.mono (by omega))
    have := (comb_dia 26 (fun x y => x != y) (Lib.hid not1_any) ech (HD1.out.on hbV hbV.size) (dia_tt V V.heap.size)).2
    rw [show (fun s => (f s != ttB s)) = (fun s => !f s) from by funext s; unfold ttB; cases f s <;> rfl] at this
    exact this⟩
  generalize (fun s => !f s) = fg at *
  generalize (can f []).1.length = n1 at *
  generalize ((can f []).2 : Int) = x1 at *
  obtain ⟨a0, a1⟩ := cells2 k1
  rw [hW] at a0 a1
  clear HD1 hf hb hz k1 k3
  go_enter Tryd.func11, Tryd.ntmps11
  go_wp2_with fail
  rw [← hW]
  clear hW a0 a1
  refine (HA1.out _ (Below.refl _ W)).mono ?_
  rintro e V1 ⟨rfl, hb1⟩
  have HB1 := Lib.hid hb1
  clear hb1
  go_wp2_with fail
  refine (true_any V1).mono ?_
  rintro e V2 ⟨rfl, hb2⟩
  have HB2 := Lib.hid (HB1.out.trans (hb2.mono HB1.out.size))
  clear hb2
  go_wp2_with fail
  refine (HC.out.2 _ HB2.out).mono ?_
  rintro e V3 ⟨A, c, base, rfl, hbase, hO, hb3⟩
  have hB3 := HB2.out.trans (hb3.mono HB2.out.size)
  have hr := HK3.out _ hB3
  obtain ⟨V7, hV7, kr7, ko7, hb7, hD7⟩ := fill6 HC.out.1 hr hO (by have := HB2.out.size; have := HB.out.2; omega)
  have HB3 := Lib.hid hB3
  obtain ⟨d0, d1⟩ := cells2 hr
  have z0 := Lib.frozen_of_heap hr 0
  have z1 := Lib.frozen_of_heap hr 1
  have HF := Lib.hid (And.intro hD7 ((HB.out.1.trans (HB3.out.mono HB.out.1.size)).trans (hb7.mono (by omega))))
  clear hO hb3 hB3 hr hb7 hD7 ko7 hbase
  generalize (can fg []).1.length = n at *
  generalize ((can fg []).2 : Int) = x at *
  obtain ⟨f0, f1⟩ := cells2 kr7
  clear kr7
  go_wp2
  rw [← hV7]
  refine bodyPost_ret (v := .agg #[.slice A n c, .int .i64 x]) (by simp [results, Tryd.results11, go_sem, f0, f1]) rfl ?_
  exact ⟨_, rfl, HF.out.1, HF.out.2⟩
theorem can_lit {l : Nat} (hl : l < 12) : can (fun s => s l) [] = ([⟨l, 1, 0⟩], 2) := by
  have hf : F12 (fun s => s l) := fun s t h => h l hl
  have c1 : cut (fun s => s l) l true = ttB := by funext s; exact upd_same s l true
  have c0 : cut (fun s => s l) l false = ffB := by funext s; exact upd_same s l false
  rw [can_step hf hl (fun x hx s b => upd_other _ _ (by omega)) Good_nil, c1, c0, can_tt Good_nil]
  dsimp only
  rw [can_ff Good_nil]
  rfl
set_option maxRecDepth 100000 in
set_option maxHeartbeats 1600000 in
theorem literal_any (l : Nat) (hl : l < 12) (w : World) : Calls Tryd.prog 9 #[.int .i64 l] w fun e w' => ∃ v, e = .returned (.tuple #[v, .int .i64 0]) ∧ Dia (fun s => s l) w' w'.heap.size v ∧ Below w.heap.size w w' := by
  have hlit := isLiteral_any (l : Int) (w.alloc (.cells #[.slice none 0 0, .int .i64 0] 29))
  rw [show decide (0 ≤ (l : Int) ∧ (l : Int) < 12) = true from by rw [decide_eq_true_eq]; omega] at hlit
  obtain ⟨V7, hV7⟩ : ∃ V7, V7 = ((w.alloc (.cells #[.slice (some ⟨w.heap.size + 1 + 1, 0, none⟩) 1 1, .int .i64 2] 29)).alloc (.cells #[.int .i64 l, .int .i64 1, .int .i64 0] 51)).alloc (.cells #[.int .i64 l, .int .i64 1, .int .i64 0] 51) := ⟨_, rfl⟩
  have hb7 : Below w.heap.size w V7 := by rw [hV7]; exact (((Below.refl _ _).alloc (Nat.le_refl _) _).alloc (by simp) _).alloc (by simp <;> omega) _
  have kr7 : V7.heap[w.heap.size]? = some (.cells #[.slice (some ⟨w.heap.size + 1 + 1, 0, none⟩) 1 1, .int .i64 2] 29 (0, 0)) := by rw [hV7]; exact (Below.heap_alloc _ _ _ (by simp <;> omega)).trans ((Below.heap_alloc _ _ _ (by simp)).trans (heap_alloc_new w _))
  have k7 : V7.heap[w.heap.size + 1 + 1]? = some (.cells #[.int .i64 l, .int .i64 1, .int .i64 0] 51 (0, 0)) := by rw [hV7]; exact new_at' _ (by simp)
  have hD : Dia (fun s => s l) V7 V7.heap.size (.agg #[.slice (some ⟨w.heap.size + 1 + 1, 0, none⟩) 1 1, .int .i64 2]) := by
    refine ⟨fun s t h => h l hl, some ⟨w.heap.size + 1 + 1, 0, none⟩, 1, by rw [can_lit hl]; rfl, ?_⟩
    rw [can_lit hl]
    refine ⟨rfl, _, _, rfl, ⟨(by decide : (1 : Nat) ≤ 2 ^ 63 - 1), Nat.le_refl _⟩, fun _ => ⟨_, _, rfl, lt_of_heap k7, lt_of_heap k7, fun j hj => ?_⟩⟩
    obtain rfl : j = 0 := by simp at hj; exact hj
    obtain ⟨d0, d1, d2⟩ := cells3 k7
    refine ⟨C3 (ni ⟨l, 1, 0⟩), rfl, fun i hi => ?_, ni ⟨l, 1, 0⟩, rfl, rfl⟩
    match i, hi with
    | 0, _ => exact d0
    | 1, _ => exact d1
    | 2, _ => exact d2
  obtain ⟨f0, f1⟩ := cells2 kr7
  have HF := Lib.hid (And.intro hD hb7)
  clear hD hb7 kr7 k7 hl
  go_enter Tryd.func9, Tryd.ntmps9
  go_wp2_with fail
  refine hlit.mono ?_
  rintro e w1 ⟨rfl, hw1⟩
  subst w1
  clear hlit
  go_wp2
  rw [← hV7]
  refine bodyPost_ret (v := .tuple #[.agg #[.slice (some ⟨w.heap.size + 1 + 1, 0, none⟩) 1 1, .int .i64 2], .int .i64 0]) (by simp [results, Tryd.results9, go_sem, f0, f1]) rfl ?_
  exact ⟨_, rfl, HF.out.1, HF.out.2⟩
end Go.Proofs.YtplmbmecjhmiiaaDoor
