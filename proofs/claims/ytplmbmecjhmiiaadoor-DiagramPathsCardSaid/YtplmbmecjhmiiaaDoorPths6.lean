/- Paths: the paths of a diagram. -/
import Derived.Test.YtplmbmecjhmiiaaDoorPthM6
import Derived.Test.YtplmbmecjhmiiaaDoorAnd6
namespace Go.Proofs.YtplmbmecjhmiiaaDoor
open Go Go.RowKit Go.Maps
set_option maxRecDepth 100000 in
set_option maxHeartbeats 6400000 in
theorem paths_any {f : BF} {v : Value} {w : World} (h : Dia f w w.heap.size v) : Calls Tryd.prog 12 #[v] w fun e w' => ∃ X v' base, e = .returned v' ∧ w.heap.size ≤ base ∧ OwnP X w' base v' (pth (can f []).1 13 (can f []).2 [] []) ∧ (pth (can f []).1 13 (can f []).2 [] []).length ≤ 4096 ∧ Below w.heap.size w w' := by
  have HD := Lib.hid h
  obtain ⟨hf, A1, c1, rfl, hN⟩ := h
  obtain ⟨_, hG, hr, hF⟩ := can_ok hf Good_nil
  have hs := can_small hf
  have hO := hG.ord
  have hpl := pth_len hO 13 (can f []).2 [] [] hr
  obtain ⟨W, hW⟩ : ∃ W, W = w.alloc (.cells #[.slice A1 (can f []).1.length c1, .int .i64 (can f []).2] 29) := ⟨_, rfl⟩
  have hb : Below w.heap.size w W := by rw [hW]; exact (Below.refl _ _).alloc (Nat.le_refl _) _
  have hz : W.heap.size = w.heap.size + 1 := by rw [hW]; simp
  have kd : W.heap[w.heap.size]? = some (.cells #[.slice A1 (can f []).1.length c1, .int .i64 (can f []).2] 29 (0, 0)) := by rw [hW]; exact heap_alloc_new w _
  have hacc := accept_dia (HD.out.on hb hb.size)
  obtain ⟨d0, d1⟩ := cells2 kd
  rw [hW] at d0 d1
  generalize (can f []).1 = us at *
  generalize (can f []).2 = x at *
  have HH := Lib.hid (And.intro hN (And.intro hO (And.intro hr (And.intro hs (And.intro hb (And.intro hz (And.intro kd hpl)))))))
  have eg : ∀ args w, (callFunc 27 args).run Tryd.prog w = .ok (.enter 27 args) w := enters_of Tryd.func27 (by kernel_rfl) rfl
  clear hN hO hr hs hb hz kd hpl HD hf hF hG
  go_enter Tryd.func12, Tryd.ntmps12
  go_wp2_with fail
  rw [← hW]
  clear hW d0 d1
  refine hacc.mono ?_
  rintro e w1 ⟨rfl, hb1⟩
  clear hacc
  obtain ⟨hN, hO, hr, hs, hb, hz, kd, hpl⟩ := HH.out
  have hbw : Below w.heap.size w w1 := hb.trans (hb1.mono hb.size)
  have kd1 := (hb1.block _ (by omega)).trans kd
  obtain ⟨d0, d1⟩ := cells2 kd1
  have z0 := Lib.frozen_of_heap kd1 0
  have z1 := Lib.frozen_of_heap kd1 1
  obtain ⟨V0, hV0⟩ : ∃ V0, V0 = (w1.setCell ⟨w.heap.size, 0, none⟩ (.slice A1 us.length c1)).setCell ⟨w.heap.size, 1, none⟩ (.int .i64 x) := ⟨_, rfl⟩
  have hz0 : V0.heap.size = w1.heap.size := by rw [hV0]; simp
  have hbV0 : Below w.heap.size w V0 := by rw [hV0]; exact (hbw.setCell (p := ⟨w.heap.size, 0, none⟩) (Nat.le_refl _) _).setCell (p := ⟨w.heap.size, 1, none⟩) (Nat.le_refl _) _
  have kd0 : V0.heap[w.heap.size]? = some (.cells #[.slice A1 us.length c1, .int .i64 x] 29 (0, 0)) := by
    rw [hV0]
    have h0 := heap_setCell_same _ _ 0 _ _ (.slice A1 us.length c1) kd1
    have h1 := heap_setCell_same _ _ 1 _ _ (.int .i64 x) h0
    simpa using h1
  obtain ⟨V, hV⟩ : ∃ V, V = (((V0.alloc (.cells #[.slice none 0 0] 22)).alloc (.cells #[.slice none 0 0] 24)).alloc (.cells #[.slice none 0 0] 24)).alloc (.cells #[.func (.func 27) #[] #[.pointer (some ⟨w1.heap.size, 0, none⟩), .pointer (some ⟨w1.heap.size + 1, 0, none⟩), .pointer (some ⟨w1.heap.size + 1 + 1, 0, none⟩), .pointer (some ⟨w.heap.size, 0, none⟩), .pointer (some ⟨w1.heap.size + 1 + 1 + 1, 0, none⟩)]] 57) := ⟨_, rfl⟩
  have hbV : Below V0.heap.size V0 V := by rw [hV]; exact ((((Below.refl _ _).alloc (Nat.le_refl _) _).alloc (by simp) _).alloc (by simp <;> omega) _).alloc (by simp <;> omega) _
  have hzV : V.heap.size = w1.heap.size + 4 := by rw [hV]; simp [hz0]
  have k1 : V.heap[w1.heap.size]? = some (.cells #[.slice none 0 0] 22 (0, 0)) := by rw [hV, ← hz0]; exact (Below.heap_alloc _ _ _ (by simp <;> omega)).trans ((Below.heap_alloc _ _ _ (by simp <;> omega)).trans ((Below.heap_alloc _ _ _ (by simp)).trans (heap_alloc_new V0 _)))
  have k2 : V.heap[w1.heap.size + 1]? = some (.cells #[.slice none 0 0] 24 (0, 0)) := by rw [hV, ← hz0]; exact (Below.heap_alloc _ _ _ (by simp <;> omega)).trans ((Below.heap_alloc _ _ _ (by simp)).trans (new_at' _ (by simp)))
  have k3 : V.heap[w1.heap.size + 1 + 1]? = some (.cells #[.slice none 0 0] 24 (0, 0)) := by rw [hV, ← hz0]; exact (Below.heap_alloc _ _ _ (by simp)).trans (new_at' _ (by simp))
  have k4 : V.heap[w1.heap.size + 1 + 1 + 1]? = some (.cells #[.func (.func 27) #[] #[.pointer (some ⟨w1.heap.size, 0, none⟩), .pointer (some ⟨w1.heap.size + 1, 0, none⟩), .pointer (some ⟨w1.heap.size + 1 + 1, 0, none⟩), .pointer (some ⟨w.heap.size, 0, none⟩), .pointer (some ⟨w1.heap.size + 1 + 1 + 1, 0, none⟩)]] 57 (0, 0)) := by rw [hV]; exact new_at' _ (by simp [hz0])
  have kdV := (hbV.block _ (by have := hbw.size; have := lt_of_heap kd0; omega)).trans kd0
  have hbwV : Below w.heap.size w V := hbV0.trans (hbV.mono (by have := hbV0.size; omega))
  have hs1 := lt_of_heap kd1
  have hWf : (PE.mk w1.heap.size (w1.heap.size + 1) (w1.heap.size + 1 + 1) w.heap.size (w1.heap.size + 1 + 1 + 1) (w1.heap.size + 4) w.heap.size A1 c1 (x : Int) us).Wf := by
    refine ⟨⟨?_, ?_, ?_, ?_, ?_⟩, ⟨?_, ?_⟩, ⟨?_, ?_, ?_⟩, ⟨?_, ?_, ?_, ?_⟩, hO, by show us.length ≤ 100000; omega⟩ <;> (try (intro hx; rcases hx with hx | hx | hx)) <;> (try dsimp only at *) <;> omega
  have hSt : (PE.mk w1.heap.size (w1.heap.size + 1) (w1.heap.size + 1 + 1) w.heap.size (w1.heap.size + 1 + 1 + 1) (w1.heap.size + 4) w.heap.size A1 c1 (x : Int) us).St V [] [] [] none none none (.slice none 0 0) (.slice none 0 0) (.slice none 0 0) :=
    ⟨⟨kdV, k4, hN.on hbwV⟩, k2, k3, k1, OwnE.nil _ _ _ _ _, OwnE.nil _ _ _ _ _, OwnE.nil _ _ _ _ _, rfl, rfl, rfl, by dsimp only; omega, nofun, nofun, nofun⟩
  have hcall := walkP_any (PE.mk w1.heap.size (w1.heap.size + 1) (w1.heap.size + 1 + 1) w.heap.size (w1.heap.size + 1 + 1 + 1) (w1.heap.size + 4) w.heap.size A1 c1 (x : Int) us) hWf 13 x [] [] [] none none none V (by omega) ⟨hr, ⟨_, _, _, hSt⟩, by simp; omega, by have := pow_ok (litR us x); show 0 + 2 ^ (12 - litR us x) ≤ 100000; omega⟩
  have f1 := (Lib.cell_of_heap k4 0).trans (show (#[.func (.func 27) #[] #[.pointer (some ⟨w1.heap.size, 0, none⟩), .pointer (some ⟨w1.heap.size + 1, 0, none⟩), .pointer (some ⟨w1.heap.size + 1 + 1, 0, none⟩), .pointer (some ⟨w.heap.size, 0, none⟩), .pointer (some ⟨w1.heap.size + 1 + 1 + 1, 0, none⟩)]] : Array Value)[0]? = some (.func (.func 27) #[] #[.pointer (some ⟨w1.heap.size, 0, none⟩), .pointer (some ⟨w1.heap.size + 1, 0, none⟩), .pointer (some ⟨w1.heap.size + 1 + 1, 0, none⟩), .pointer (some ⟨w.heap.size, 0, none⟩), .pointer (some ⟨w1.heap.size + 1 + 1 + 1, 0, none⟩)]) from rfl)
  obtain ⟨_, f2⟩ := cells2 kdV
  have HF := Lib.hid (And.intro hbwV (And.intro hpl (And.intro hs1 (And.intro hbw.size hzV))))
  rw [hV, hV0] at f1 f2
  have HC := Lib.hid hcall
  clear hN hO hr hs hb hz kd hpl HH hbw kd1 hz0 hbV0 kd0 hbV hzV k1 k2 k3 k4 kdV hbwV hs1 hWf hSt hcall hb1
  go_wp2_with fail
  rw [← hV0, ← hV]
  clear d0 d1 z0 z1 f1 f2 hV hV0
  refine HC.out.mono ?_
  rintro e V5 ⟨rfl, a1, a2, a3, xp, xq, xs, hS5, hA5⟩
  have y0 := (Lib.cell_of_heap hS5.ks 0).trans (show (#[xs] : Array Value)[0]? = some xs from rfl)
  have hos := hS5.os
  have hbf : Below w.heap.size w V5 := by
    obtain ⟨q1, _, q3, q4, q5⟩ := HF.out
    refine q1.trans (hA5.ke.toBelow q1.size fun b hb => ?_)
    rcases hb with hb | hb
    · rcases hb with hb | hb | hb <;> dsimp only at hb <;> omega
    · rcases hb with hb | hb | hb <;> cases hb
  have HZ := Lib.hid (And.intro hos hbf)
  clear hS5 hA5 hos hbf HC
  go_wp2
  go_ret
  refine ⟨_, xs, w1.heap.size + 4, rfl, by have := HF.out.2.2.2.1; omega, HZ.out.1, Nat.le_trans HF.out.2.1 (pow_ok _), HZ.out.2⟩
end Go.Proofs.YtplmbmecjhmiiaaDoor
