/- What the source of drawn values returns for a number: one that is less than the bound; only the source's own place turns. -/
import Derived.Test.YtcjgaohblaidjaaGreatDoorVb11
namespace Go.Proofs.YtcjgaohblaidjaaGreatDoor
open Go Go.RowKit
structure Eff (p : Nat) (w w' : World) : Prop where
 below : Below p w w'
 other : ∀ b, b ≠ p → b < w.heap.size → w'.heap[b]? = w.heap[b]?
theorem Eff.refl (p : Nat) (w : World) : Eff p w w := ⟨Below.refl _ _, fun _ _ _ => rfl⟩
theorem Eff.trans {p : Nat} {w w' w'' : World} (h : Eff p w w') (h' : Eff p w' w'') : Eff p w w'' :=
 ⟨h.below.trans h'.below, fun b hb hl => (h'.other b hb (Nat.lt_of_lt_of_le hl h.below.size)).trans (h.other b hb hl)⟩
theorem Eff.of_below {p : Nat} {w w' : World} (h : Below w.heap.size w w') (hp : p ≤ w.heap.size) : Eff p w w' := ⟨h.mono hp, fun b _ hl => h.block b hl⟩
theorem Eff.size {p : Nat} {w w' : World} (h : Eff p w w') : w.heap.size ≤ w'.heap.size := h.below.size
def SrcOk (h p : Nat) (w : World) : Prop :=
 ∃ A n c q, w.heap[p]? = some (.cells #[.slice A n c, .int .i64 (q : Nat)] 48 (0, 0)) ∧ h ≤ p ∧ q ≤ n ∧ n ≤ maxLen ∧ RowP w h 1 (.slice A n c) n (fun _ cs => ∃ x, cs = [.int .i64 x] ∧ (Lit.int .i64 x).wf = true)
theorem SrcOk.lt {h p : Nat} {w : World} (hs : SrcOk h p w) : p < w.heap.size := by
 obtain ⟨A, n, c, q, h1, _⟩ := hs
 exact (Array.getElem?_eq_some_iff.1 h1).1
theorem SrcOk.below {h p : Nat} {w w' : World} (hs : SrcOk h p w) (hb : Below w.heap.size w w') : SrcOk h p w' := by
 have hl := hs.lt
 obtain ⟨A, n, c, q, h1, h2, h3, h4, h5⟩ := hs
 exact ⟨A, n, c, q, (hb.block p hl).trans h1, h2, h3, h4, h5.on (hb.mono (by omega)) fun _ _ h => h⟩
theorem i64_wf {x : Int} (h : (Lit.int .i64 x).wf = true) : -9223372036854775808 ≤ x ∧ x ≤ 9223372036854775807 := by
 simpa [Lit.wf, IntKind.min, IntKind.max, IntKind.signed, IntKind.bits] using h
set_option maxRecDepth 100000 in
set_option maxHeartbeats 3200000 in
theorem next_any (h p : Nat) (m : Int) (w : World) (hS : SrcOk h p w) (hn : 1 ≤ m) (hn2 : m ≤ 100) : Calls Tryz.prog 54 #[.pointer (some ⟨p, 0, none⟩), .int .i64 m] w fun e w' => ∃ j : Int, e = .returned (.int .i64 j) ∧ 0 ≤ j ∧ j < m ∧ SrcOk h p w' ∧ Eff p w w' := by
 have hlp := hS.lt
 obtain ⟨A, len, c, q, h1, h2, h3, h4, h5⟩ := hS
 unfold maxLen at h4
 have e0 : w.cell? ⟨p, 0, none⟩ = some (.slice A len c) := (Lib.cell_of_heap h1 0).trans rfl
 have e1 : w.cell? ⟨p, 1, none⟩ = some (.int .i64 (q : Int)) := (Lib.cell_of_heap h1 1).trans rfl
 have n1 : decide (m < 1) = false := by rw [decide_eq_false_iff_not]; omega
 have H1 := Lib.hid h1
 have H5 := Lib.hid h5
 by_cases hq : q < len
 case neg =>
  have hge : decide ((len : Int) ≤ (q : Int)) = true := by rw [decide_eq_true_iff]; omega
  have hge2 : decide (len ≤ q) = true := by rw [decide_eq_true_iff]; omega
  have HK : Hid (∀ wq, Below w.heap.size w wq → wq.cell? ⟨p, 0, none⟩ = some (.slice A len c) ∧ wq.cell? ⟨p, 1, none⟩ = some (.int .i64 (q : Int))) := Lib.hid fun wq hb => ⟨(hb.cell (p := ⟨p, 0, none⟩) hlp).trans e0, (hb.cell (p := ⟨p, 1, none⟩) hlp).trans e1⟩
  have hS : SrcOk h p w := ⟨A, len, c, q, h1, h2, h3, by unfold maxLen; omega, h5⟩
  have HS := Lib.hid hS
  have hlast : Hid (∀ wq, Below w.heap.size w wq → SrcOk h p wq ∧ Eff p w wq) := Lib.hid fun wq hb => ⟨hS.below hb, Eff.of_below hb (by omega)⟩
  clear h1 h5 hS
  go_enter Tryz.func54, Tryz.ntmps54
  go_wp2_with fail
  refine wp_region_held_drew (S := fun wq => wq.cell? ⟨p, 0, none⟩ = some (.slice A len c) ∧ wq.cell? ⟨p, 1, none⟩ = some (.int .i64 (q : Int))) (by kernel_rfl) (HK.out _ (Below.refl _ _).drew) (fun _ => ?_)
  have hB9 : Below w.heap.size w w.drew := (Below.refl _ _).drew
  refine tk 0 (HK.out _ hB9) ?_
  try simp only [Act.put, pA, pB, pC]
  refine tk 1 (HK.out _ hB9) ?_
  try simp only [Act.put, pA, pB, pC]
  refine tk 2 (HK.out _ hB9) ?_
  try simp only [Act.put, pA, pB, pC]
  refine tk 3 (HK.out _ hB9) ?_
  try simp only [Act.put, pA, pB, pC]
  refine tk 4 (HK.out _ hB9) ?_
  try simp only [Act.put, pA, pB, pC]
  refine tk 5 (HK.out _ hB9) ?_
  try simp only [Act.put, pA, pB, pC]
  refine tk 6 (HK.out _ hB9) ?_
  try simp only [Act.put, pA, pB, pC]
  refine tk 7 (HK.out _ hB9) ?_
  try simp only [Act.put, pA, pB, pC]
  refine tk 8 (HK.out _ hB9) ?_
  try simp only [Act.put, pA, pB, pC]
  refine tk 9 (HK.out _ hB9) ?_
  try simp only [Act.put, pA, pB, pC]
  refine tk 10 (HK.out _ hB9) ?_
  try simp only [Act.put, pA, pB, pC]
  refine tk 11 (HK.out _ hB9) ?_
  try simp only [Act.put, pA, pB, pC]
  refine tk 12 (HK.out _ hB9) ?_
  try simp only [Act.put, pA, pB, pC]
  refine tk 13 (HK.out _ hB9) ?_
  try simp only [Act.put, pA, pB, pC]
  refine wpAnyH_done (by kernel_rfl) ?_ _
  go_wp2
  go_ret
  exact ⟨0, rfl, by omega, by omega, hlast.out _ (Below.refl _ _).drew⟩
 obtain ⟨b, off, cap0, x0, hu, hbH, ⟨x, hx, hwf⟩, c0⟩ := h5.at1 hq
 injection hu with hA _ hcap
 subst hA hcap
 simp only [List.cons.injEq, and_true] at hx
 subst hx
 have hxb := i64_wf hwf
 have hlt : (q : Int) < (len : Int) := by omega
 have m0 : ¬ m = 0 := by omega
 have hlt2 : decide ((len : Int) ≤ (q : Int)) = false := by rw [decide_eq_false_iff_not]; omega
 have hlt3 : decide (len ≤ q) = false := by rw [decide_eq_false_iff_not]; omega
 have k0 : (0 : Int) ≤ (q : Int) := by omega
 have HK : Hid (∀ wq, Below w.heap.size w wq → wq.cell? ⟨p, 0, none⟩ = some (.slice (some ⟨b, off, none⟩) len c) ∧ wq.cell? ⟨p, 1, none⟩ = some (.int .i64 (q : Int)) ∧ wq.cell? ⟨b, off + q, none⟩ = some (.int .i64 x)) := Lib.hid fun wq hb => ⟨(hb.cell (p := ⟨p, 0, none⟩) hlp).trans e0, (hb.cell (p := ⟨p, 1, none⟩) hlp).trans e1, (hb.cell (p := ⟨b, off + q, none⟩) (by show b < _; omega)).trans c0⟩
 have hm1 := Int.tmod_lt_of_pos x (show (0 : Int) < m by omega)
 have hm2 : -m < x.tmod m := by
  have h := Int.tmod_lt_of_pos (-x) (show (0 : Int) < m by omega)
  rw [Int.neg_tmod] at h
  omega
 clear h1 h5 c0
 go_enter Tryz.func54, Tryz.ntmps54
 go_wp2_with fail
 refine wp_region_held_drew (S := fun wq => wq.cell? ⟨p, 0, none⟩ = some (.slice (some ⟨b, off, none⟩) len c) ∧ wq.cell? ⟨p, 1, none⟩ = some (.int .i64 (q : Int)) ∧ wq.cell? ⟨b, off + q, none⟩ = some (.int .i64 x)) (by kernel_rfl) (HK.out _ (Below.refl _ _).drew) (fun _ => ?_)
 have hB9 : Below w.heap.size w w.drew := (Below.refl _ _).drew
 refine tk 0 (HK.out _ hB9) ?_
 try simp only [Act.put, pA, pB, pC]
 refine tk 1 (HK.out _ hB9) ?_
 try simp only [Act.put, pA, pB, pC]
 refine tk 2 (HK.out _ hB9) ?_
 try simp only [Act.put, pA, pB, pC]
 refine tk 3 (HK.out _ hB9) ?_
 try simp only [Act.put, pA, pB, pC]
 refine tk 4 (HK.out _ hB9) ?_
 try simp only [Act.put, pA, pB, pC]
 refine tk 5 (HK.out _ hB9) ?_
 try simp only [Act.put, pA, pB, pC]
 refine tk 6 (HK.out _ hB9) ?_
 try simp only [Act.put, pA, pB, pC]
 refine tk 7 (HK.out _ hB9) ?_
 try simp only [Act.put, pA, pB, pC]
 refine tk 8 (HK.out _ hB9) ?_
 try simp only [Act.put, pA, pB, pC]
 refine tk 9 (HK.out _ hB9) ?_
 try simp only [Act.put, pA, pB, pC]
 refine tk 10 (HK.out _ hB9) ?_
 try simp only [Act.put, pA, pB, pC]
 refine tk 11 (HK.out _ hB9) ?_
 try simp only [Act.put, pA, pB, pC]
 refine tk 12 (HK.out _ hB9) ?_
 try simp only [Act.put, pA, pB, pC]
 refine tk 13 (HK.out _ hB9) ?_
 try simp only [Act.put, pA, pB, pC]
 refine wpAnyH_done (by kernel_rfl) ?_ _
 obtain ⟨e0, e1, e2⟩ := HK.out _ (Below.refl _ _).drew
 go_wp2_with fail
 refine wp_region_held_drew (S := fun wq => wq.cell? ⟨p, 0, none⟩ = some (.slice (some ⟨b, off, none⟩) len c) ∧ wq.cell? ⟨p, 1, none⟩ = some (.int .i64 (q : Int)) ∧ wq.cell? ⟨b, off + q, none⟩ = some (.int .i64 x)) (by kernel_rfl) (HK.out _ (Below.refl _ _).drew.drew) (fun _ => ?_)
 have hB9 : Below w.heap.size w w.drew.drew := (Below.refl _ _).drew.drew
 refine tk 0 (HK.out _ hB9) ?_
 try simp only [Act.put, pA, pB, pC]
 refine tk 1 (HK.out _ hB9) ?_
 try simp only [Act.put, pA, pB, pC]
 refine tk 2 (HK.out _ hB9) ?_
 try simp only [Act.put, pA, pB, pC]
 refine tk 3 (HK.out _ hB9) ?_
 try simp only [Act.put, pA, pB, pC]
 refine tk 4 (HK.out _ hB9) ?_
 try simp only [Act.put, pA, pB, pC]
 refine tk 5 (HK.out _ hB9) ?_
 try simp only [Act.put, pA, pB, pC]
 refine tk 6 (HK.out _ hB9) ?_
 try simp only [Act.put, pA, pB, pC]
 refine tk 7 (HK.out _ hB9) ?_
 try simp only [Act.put, pA, pB, pC]
 refine tk 8 (HK.out _ hB9) ?_
 try simp only [Act.put, pA, pB, pC]
 refine tk 9 (HK.out _ hB9) ?_
 try simp only [Act.put, pA, pB, pC]
 refine tk 10 (HK.out _ hB9) ?_
 try simp only [Act.put, pA, pB, pC]
 refine tk 11 (HK.out _ hB9) ?_
 try simp only [Act.put, pA, pB, pC]
 refine tk 12 (HK.out _ hB9) ?_
 try simp only [Act.put, pA, pB, pC]
 refine wpAnyH_done (by kernel_rfl) ?_ _
 have hmr := Lib.hid (And.intro hm1 hm2)
 clear hm1 hm2 e0 e1 e2
 obtain ⟨e0, e1, e2⟩ := HK.out _ hB9
 have z1 : w.drew.drew.frozen? ⟨p, 1, none⟩ = false := Lib.frozen_of_heap (show w.drew.drew.heap[p]? = _ from H1.out) 1
 have hwq : IntKind.i64.wrap ((q : Int) + 1) = (q : Int) + 1 := IntWalk.i64_in _ (by omega)
 have hfin : Hid (SrcOk h p (w.drew.drew.setCell ⟨p, 1, none⟩ (.int .i64 ((q : Int) + 1))) ∧ Eff p w (w.drew.drew.setCell ⟨p, 1, none⟩ (.int .i64 ((q : Int) + 1)))) := Lib.hid (by
  have hob := heap_setCell_same w.drew.drew p 1 _ _ (.int .i64 ((q : Int) + 1)) H1.out
  have hbw : Below p w (w.drew.drew.setCell ⟨p, 1, none⟩ (.int .i64 ((q : Int) + 1))) := (Below.refl p w).drew.drew.setCell (p := ⟨p, 1, none⟩) (Nat.le_refl _) _
  refine ⟨⟨_, len, c, q + 1, by simpa using hob, h2, by omega, by unfold maxLen; omega, H5.out.on (hbw.mono h2) fun _ _ h => h⟩, hbw, fun b hb _ => heap_setCell_other _ _ _ _ hb⟩)
 generalize x.tmod m = t at hmr
 have ht := hmr.out
 by_cases hneg : t < 0
 ·
  have hw2 : IntKind.i64.wrap (t + m) = t + m := IntWalk.i64_in _ (by omega)
  go_wp2
  go_ret
  exact ⟨t + m, rfl, by omega, by omega, hfin.out⟩
 ·
  go_wp2
  go_ret
  exact ⟨t, rfl, by omega, by omega, hfin.out⟩
end Go.Proofs.YtcjgaohblaidjaaGreatDoor
