/- disjunction: the diagram of the function of terms. -/
import Derived.Test.YtplmbmecjhmiiaaDoorDisj6
import Derived.Test.YtplmbmecjhmiiaaDoorAnd6
namespace Go.Proofs.YtplmbmecjhmiiaaDoor
open Go Go.RowKit Go.Maps
set_option maxRecDepth 100000 in
set_option maxHeartbeats 6400000 in
theorem disjunction_any (v : Value) (l : List Tm) (w : World) (h : TmR w (fun b => b < w.heap.size) v l) (hlow : Low l 0) (hl : l.length ≤ 1000) (hT : TabW w) :
    Calls Tryd.prog 16 #[v] w fun e w' => ∃ d, e = .returned d ∧ Dia (gT l) w' w'.heap.size d ∧ Below w.heap.size w w' := by
  obtain ⟨W0, hW0⟩ : ∃ W0, W0 = w.alloc (.cells #[.slice none 0 0, .int .i64 0] 29) := ⟨_, rfl⟩
  have hz0 : W0.heap.size = w.heap.size + 1 := by rw [hW0]; simp
  have hb0 : Below w.heap.size w W0 := by rw [hW0]; exact (Below.refl _ _).alloc (Nat.le_refl _) _
  have kr0 : W0.heap[w.heap.size]? = some (.cells #[.slice none 0 0, .int .i64 0] 29 (0, 0)) := by rw [hW0]; exact heap_alloc_new w _
  have hnb := newBuilder_any 0 W0
  rw [hz0] at hnb
  obtain ⟨W2, hW2⟩ : ∃ W2, W2 = (W0.alloc (.map #[] 0)).alloc (.cells #[.slice none 0 0, .map (some (w.heap.size + 1))] 89) := ⟨_, rfl⟩
  rw [← hW2] at hnb
  have hz2 : W2.heap.size = w.heap.size + 3 := by rw [hW2]; simp; omega
  have hb2 : Below W0.heap.size W0 W2 := by rw [hW2]; exact ((Below.refl _ _).alloc (Nat.le_refl _) _).alloc (by simp) _
  have kq : W2.heap[w.heap.size + 1]? = some (.map #[] 0) := by rw [hW2, ← hz0]; exact (Below.heap_alloc _ _ _ (by simp)).trans (heap_alloc_new W0 _)
  have kp : W2.heap[w.heap.size + 2]? = some (.cells #[.slice none 0 0, .map (some (w.heap.size + 1))] 89 (0, 0)) := by rw [hW2]; exact new_at' _ (by simp; omega)
  obtain ⟨W4, hW4⟩ : ∃ W4, W4 = (W2.alloc (.cells #[.pointer (some ⟨w.heap.size + 2, 0, none⟩)] 65)).alloc (.cells #[.func (.func 32) #[] #[.pointer (some ⟨w.heap.size + 4, 0, none⟩), .pointer (some ⟨w.heap.size + 3, 0, none⟩)]] 67) := ⟨_, rfl⟩
  have hz4 : W4.heap.size = w.heap.size + 5 := by rw [hW4]; simp; omega
  have hb4 : Below W2.heap.size W2 W4 := by rw [hW4]; exact ((Below.refl _ _).alloc (Nat.le_refl _) _).alloc (by simp) _
  have kd : W4.heap[w.heap.size + 3]? = some (.cells #[.pointer (some ⟨w.heap.size + 2, 0, none⟩)] 65 (0, 0)) := by rw [hW4, ← hz2]; exact (Below.heap_alloc _ _ _ (by simp)).trans (heap_alloc_new W2 _)
  have kw : W4.heap[w.heap.size + 4]? = some (.cells #[.func (.func 32) #[] #[.pointer (some ⟨w.heap.size + 4, 0, none⟩), .pointer (some ⟨w.heap.size + 3, 0, none⟩)]] 67 (0, 0)) := by rw [hW4]; exact new_at' _ (by simp; omega)
  have hbW : Below w.heap.size w W4 := hb0.trans ((hb2.trans (hb4.mono hb2.size)).mono hb0.size)
  have hr4 : W4.heap[w.heap.size]? = some (.cells #[.slice none 0 0, .int .i64 0] 29 (0, 0)) := (hb4.block _ (by omega)).trans ((hb2.block _ (by omega)).trans kr0)
  have hq4 := (hb4.block _ (lt_of_heap kq)).trans kq
  have hp4 := (hb4.block _ (lt_of_heap kp)).trans kp
  obtain ⟨E, hE⟩ : ∃ E : DE, E = ⟨w.heap.size + 4, w.heap.size + 3, w.heap.size + 2, w.heap.size + 1, w.heap.size + 5⟩ := ⟨_, rfl⟩
  have htb : 1 < w.heap.size := World.block_lt_of_cell? _ _ (hT 0 (by decide))
  have hWf : E.Wf := by
    rw [hE]
    refine ⟨⟨?_, ?_⟩, ⟨?_, ?_⟩, ?_, ?_⟩ <;> (try (intro hx; rcases hx with hx | hx)) <;> (try dsimp only at *) <;> omega
  have hSt : ∀ V, Below W4.heap.size W4 V → E.St V [] none := fun V hV => by
    have hwV : Below w.heap.size w V := hbW.trans (hV.mono hbW.size)
    have hsz := hV.size
    have K : ∀ (g : Nat) (o : Obj), W4.heap[g]? = some o → V.heap[g]? = some o := fun g o h => (hV.block g (lt_of_heap h)).trans h
    rw [hE]
    refine ⟨⟨K _ _ kw, K _ _ kd, hT.on hwV⟩, ⟨none, 0, 0, fun _ => none, K _ _ hp4, OwnE.nil _ _ _ _ _, MapF.empty _ _ (K _ _ hq4), Nat.le_refl _, fun x y => by simp, by dsimp only; omega, by dsimp only; omega, by dsimp only; omega, by dsimp only; omega, rfl⟩, Good_nil⟩
  have hTm : ∀ V, Below W4.heap.size W4 V → TmN E none V v l := fun V hV => by
    have hwV : Below w.heap.size w V := hbW.trans (hV.mono hbW.size)
    rw [hE]
    exact RowB.sub (h.on hwV) (fun b hb => ⟨Nat.lt_of_lt_of_le hb hwV.size, fun hx => by
      rcases hx with (hx | hx) | hx
      · dsimp only at hx; omega
      · dsimp only at hx; omega
      · cases hx⟩) fun _ _ h => h
  have HWALK : Hid (∀ V, Below W4.heap.size W4 V → Calls Tryd.prog 32 #[v, .pointer (some ⟨w.heap.size + 4, 0, none⟩), .pointer (some ⟨w.heap.size + 3, 0, none⟩)] V (E.Post l [] none V)) := Lib.hid fun V hV => by
    have := walkD_any E hWf 13 v l 0 [] none V (by omega) ⟨hTm V hV, hSt V hV, hlow, by omega, hl, by simp⟩
    rw [hE] at this ⊢
    exact this
  have HS : Hid (∀ V, Below W4.heap.size W4 V → V.cell? ⟨w.heap.size + 3, 0, none⟩ = some (.pointer (some ⟨w.heap.size + 2, 0, none⟩)) ∧ V.cell? ⟨w.heap.size + 4, 0, none⟩ = some (.func (.func 32) #[] #[.pointer (some ⟨w.heap.size + 4, 0, none⟩), .pointer (some ⟨w.heap.size + 3, 0, none⟩)])) := Lib.hid fun V hV => ⟨(Lib.cell_of_heap ((hV.block _ (lt_of_heap kd)).trans kd) 0).trans rfl, (Lib.cell_of_heap ((hV.block _ (lt_of_heap kw)).trans kw) 0).trans rfl⟩
  have HH := Lib.hid (And.intro hbW (And.intro hz4 (And.intro hr4 (And.intro hWf hE))))
  have eg : ∀ args w, (callFunc 32 args).run Tryd.prog w = .ok (.enter 32 args) w := enters_of Tryd.func32 (by kernel_rfl) rfl
  have HNB := Lib.hid hnb
  have HZ2 := Lib.hid hz2
  have HF12 : Hid (F12 (gT l)) := Lib.hid (gT_12 l)
  clear h hlow hl hT hz0 hb0 kr0 hnb hz2 hb2 kq kp hz4 hb4 kd kw hbW hr4 hq4 hp4 hE htb hWf hSt hTm hW2
  go_enter Tryd.func16, Tryd.ntmps16
  go_wp2_with fail
  rw [← hW0]
  clear hW0
  refine HNB.out.mono ?_
  rintro e W2' ⟨rfl, rfl⟩
  go_wp2_with fail
  rw [HZ2.out]
  rw [show w.heap.size + 3 + 1 = w.heap.size + 4 from rfl, show w.heap.size + 1 + 1 = w.heap.size + 2 from rfl]
  rw [← hW4]
  clear hW4
  have HC0 := Lib.hid ((Below.refl W4.heap.size W4).drew)
  refine wp_region_held_drew (S := fun U => U.cell? ⟨w.heap.size + 3, 0, none⟩ = some (.pointer (some ⟨w.heap.size + 2, 0, none⟩)) ∧ U.cell? ⟨w.heap.size + 4, 0, none⟩ = some (.func (.func 32) #[] #[.pointer (some ⟨w.heap.size + 4, 0, none⟩), .pointer (some ⟨w.heap.size + 3, 0, none⟩)])) (by kernel_rfl) (HS.out _ HC0.out) (fun _ => ?_)
  refine tk 0 (HS.out _ HC0.out) ?_
  try simp only [Act.put, pA, pB, pC]
  refine tk 1 (HS.out _ HC0.out) ?_
  try simp only [Act.put, pA, pB, pC]
  refine tk 2 (HS.out _ HC0.out) ?_
  try simp only [Act.put, pA, pB, pC]
  refine one_op 3 (by kernel_rfl) rfl (by rfl) (fun K hK => ?_)
  go_simp
  refine (HWALK.out _ HC0.out).mono ?_
  rintro e V1 hp
  obtain ⟨rfl, ⟨u1, hS1, hn1⟩, hK1⟩ := hp
  obtain ⟨hbW, hz4, hr4, hWf, hE⟩ := HH.out
  have hcell : ∀ U, E.Box U → U.cell? ⟨w.heap.size + 3, 0, none⟩ = some (.pointer (some ⟨w.heap.size + 2, 0, none⟩)) ∧ U.cell? ⟨w.heap.size + 4, 0, none⟩ = some (.func (.func 32) #[] #[.pointer (some ⟨w.heap.size + 4, 0, none⟩), .pointer (some ⟨w.heap.size + 3, 0, none⟩)]) := fun U hU => by
    rw [hE] at hU
    exact ⟨(Lib.cell_of_heap hU.d 0).trans rfl, (Lib.cell_of_heap hU.fw 0).trans rfl⟩
  have hX : ∀ b, E.X b ∨ some b = none → b = w.heap.size + 2 ∨ b = w.heap.size + 1 := fun b hb => by
    rw [hE] at hb
    rcases hb with (hb | hb) | hb
    · exact .inl hb
    · exact .inr hb
    · cases hb
  have hd0 := HC0.out
  have s0 : W4.heap.size ≤ W4.drew.heap.size := hd0.size
  have hr1 : V1.heap[w.heap.size]? = some (.cells #[.slice none 0 0, .int .i64 0] 29 (0, 0)) := (hK1.block _ (by show w.heap.size < W4.drew.heap.size; omega) fun hx => by have := hX _ hx; omega).trans ((hd0.block _ (by omega)).trans hr4)
  have hb1 : Below w.heap.size w V1 := (hbW.trans (hd0.mono hbW.size)).trans (hK1.toBelow (by show w.heap.size ≤ W4.drew.heap.size; omega) fun b hb => by have := hX _ hb; omega)
  generalize hcan : can (gT l) [] = cn at *
  obtain ⟨nd, rt⟩ := cn
  dsimp only at hS1 ⊢
  have HBD : Hid (Calls Tryd.prog 37 #[.pointer (some ⟨w.heap.size + 2, 0, none⟩), .int .i64 rt] V1 fun e w' => ∃ A c, e = .returned (.agg #[.slice A nd.length c, .int .i64 rt]) ∧ OwnNd w' (w.heap.size + 5) (.slice A nd.length c) nd ∧ Below V1.heap.size V1 w') := Lib.hid (by
    have := bdiagram_any E.p E.q E.base nd (rt : Int) V1 u1 hS1.2.1
    rw [hE] at this
    exact this)
  have HH1 := Lib.hid (And.intro hr1 (And.intro hb1 (And.intro hcan (And.intro (hcell V1 hS1.1) (show w.heap.size + 5 ≤ V1.heap.size from by have := hS1.2.1.base; rw [hE] at this; exact this)))))
  clear hbW hz4 hr4 hWf hE hcell hX hd0 s0 hr1 hb1 hcan hS1 hn1 hK1
  refine hK _ _ HH1.out.2.2.2.1 ?_
  try simp only [Act.put, pA, pB, pC]
  clear hK K
  refine one_op 4 (by kernel_rfl) rfl (by rfl) (fun K hK => ?_)
  go_simp
  refine HBD.out.mono ?_
  rintro e V6 ⟨A, c, rfl, hO, hb6⟩
  obtain ⟨hr1, hb1, hcan, hc1, hs1⟩ := HH1.out
  have hr6 : V6.heap[w.heap.size]? = some (.cells #[.slice none 0 0, .int .i64 0] 29 (0, 0)) := (hb6.block _ (by omega)).trans hr1
  have hc6 : V6.cell? ⟨w.heap.size + 3, 0, none⟩ = some (.pointer (some ⟨w.heap.size + 2, 0, none⟩)) ∧ V6.cell? ⟨w.heap.size + 4, 0, none⟩ = some (.func (.func 32) #[] #[.pointer (some ⟨w.heap.size + 4, 0, none⟩), .pointer (some ⟨w.heap.size + 3, 0, none⟩)]) := ⟨(hb6.cell (p := ⟨w.heap.size + 3, 0, none⟩) (Nat.lt_of_lt_of_le (show w.heap.size + 3 < w.heap.size + 5 by omega) hs1)).trans hc1.1, (hb6.cell (p := ⟨w.heap.size + 4, 0, none⟩) (Nat.lt_of_lt_of_le (show w.heap.size + 4 < w.heap.size + 5 by omega) hs1)).trans hc1.2⟩
  have hO' : OwnNd V6 (w.heap.size + 5) (.slice A (can (gT l) []).1.length c) (can (gT l) []).1 := by rw [hcan]; exact hO
  obtain ⟨V7, hV7, kr7, ko7, hb7, hD7⟩ := fill6 HF12.out hr6 hO' (by omega)
  rw [hcan] at hV7 kr7 hD7
  dsimp only at hV7 kr7 hD7
  have hc7 : V7.cell? ⟨w.heap.size + 3, 0, none⟩ = some (.pointer (some ⟨w.heap.size + 2, 0, none⟩)) ∧ V7.cell? ⟨w.heap.size + 4, 0, none⟩ = some (.func (.func 32) #[] #[.pointer (some ⟨w.heap.size + 4, 0, none⟩), .pointer (some ⟨w.heap.size + 3, 0, none⟩)]) := ⟨(World.cell?_of_block (a := ⟨w.heap.size + 3, 0, none⟩) (ko7 _ (show w.heap.size + 3 ≠ w.heap.size by omega))).trans hc6.1, (World.cell?_of_block (a := ⟨w.heap.size + 4, 0, none⟩) (ko7 _ (show w.heap.size + 4 ≠ w.heap.size by omega))).trans hc6.2⟩
  have HF := Lib.hid (And.intro hD7 ((hb1.trans (hb6.mono (by omega))).trans hb7))
  have HC7 := Lib.hid hc7
  obtain ⟨d0, d1⟩ := cells2 hr6
  have z0 := Lib.frozen_of_heap hr6 0
  have z1 := Lib.frozen_of_heap hr6 1
  obtain ⟨f0, f1⟩ := cells2 kr7
  have HD6 := Lib.hid hc6
  clear hr1 hb1 hcan hc1 hs1 hr6 hc6 hO hO' hb6 kr7 ko7 hb7 hD7 hc7 HBD HH1 HH
  refine hK _ _ HD6.out ?_
  try simp only [Act.put, pA, pB, pC]
  clear hK K
  refine one_op 5 (by kernel_rfl) rfl (by rfl) (fun K hK => ?_)
  go_simp
  rw [← hV7]
  refine hK _ _ HC7.out ?_
  try simp only [Act.put, pA, pB, pC]
  clear hK K hV7 d0 d1 z0 z1
  refine wpAnyH_done (by kernel_rfl) ?_ _
  go_wp2
  refine bodyPost_ret (v := .agg #[.slice A nd.length c, .int .i64 rt]) (by simp [results, Tryd.results16, go_sem, f0, f1]) rfl ?_
  exact ⟨_, rfl, HF.out.1, HF.out.2⟩
end Go.Proofs.YtplmbmecjhmiiaaDoor
