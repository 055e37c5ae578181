/- The builder of a diagram: newBuilder, reference, diagram. -/
import Derived.Test.YtplmbmecjhmiiaaDoorApp6
import Derived.Test.YtplmbmecjhmiiaaDoorMapF6
import Derived.Test.YtplmbmecjhmiiaaDoorSmall6
import Derived.Test.YtplmbmecjhmiiaaDoorPar
import Derived.Carry
import Derived.Lib.AppendZeros
import Derived.WalkArith
namespace Go.Proofs.YtplmbmecjhmiiaaDoor
open Go Go.RowKit Go.Maps
/-- all blocks below base but those of X are as they were -/
structure Ke (base : Nat) (X : Nat → Prop) (w w' : World) : Prop where
  below : Below 0 w w'
  block : ∀ b, b < base → ¬ X b → w'.heap[b]? = w.heap[b]?
theorem Ke.refl (base : Nat) (X : Nat → Prop) (w : World) : Ke base X w w := ⟨Below.refl _ _, fun _ _ _ => rfl⟩
theorem Ke.trans {base : Nat} {X : Nat → Prop} {a b c : World} (h : Ke base X a b) (k : Ke base X b c) : Ke base X a c := ⟨h.below.trans k.below, fun q hq hx => (k.block q hq hx).trans (h.block q hq hx)⟩
theorem Ke.of {base : Nat} {X : Nat → Prop} {w w' : World} (h : Below base w w') : Ke base X w w' := ⟨h.mono (Nat.zero_le _), fun b hb _ => h.block b hb⟩
theorem Ke.size {base : Nat} {X : Nat → Prop} {w w' : World} (h : Ke base X w w') : w.heap.size ≤ w'.heap.size := h.below.size
theorem Ke.sub {base : Nat} {X Y : Nat → Prop} {w w' : World} (h : Ke base X w w') (hX : ∀ b, X b → Y b) : Ke base Y w w' := ⟨h.below, fun b hb hy => h.block b hb fun hx => hy (hX b hx)⟩
theorem Ke.toBelow {base lo : Nat} {X : Nat → Prop} {w w' : World} (h : Ke base X w w') (hlo : lo ≤ base) (hX : ∀ b, X b → lo ≤ b) : Below lo w w' := ⟨h.below.os, h.below.tape, h.below.output, h.below.size, fun b hb => h.block b (by omega) fun hx => by have := hX b hx; omega⟩
theorem Ke.set {base : Nat} {X : Nat → Prop} {w w' : World} (h : Ke base X w w') {g i : Nat} {x : Value} (hg : X g ∨ base ≤ g) : Ke base X w (w'.setCell ⟨g, i, none⟩ x) :=
  ⟨h.below.setCell (p := ⟨g, i, none⟩) (Nat.zero_le _) _, fun b hb hx => (heap_setCell_other _ _ _ _ (show b ≠ g from fun e => by subst e; rcases hg with hg | hg; (exact hx hg); (omega))).trans (h.block b hb hx)⟩
/-- what the builder's map holds: each node's reference -/
def MapOf (ns : List Nd) (m : Int × Int × Int → Option Int) : Prop := ∀ x y, m x = some y ↔ ∃ (i : Nat) (n : Nd), ns[i]? = some n ∧ ni n = x ∧ y = (i : Int) + 2
/-- the builder at block p, its map at block q, its nodes from block base on -/
def BldR (w : World) (p q base : Nat) (ns : List Nd) (u : Option Nat) : Prop :=
  ∃ A c k m, w.heap[p]? = some (.cells #[.slice A ns.length c, .map (some q)] 89 (0, 0)) ∧ OwnNd w base (.slice A ns.length c) ns ∧ MapF 51 kv3 w q k m ∧ k ≤ ns.length ∧ MapOf ns m ∧ p < base ∧ q < base ∧ p ≠ q ∧ base ≤ w.heap.size ∧ (Value.slice A ns.length c).ownBlock = u
/-- the own block stays, or is a new one -/
def Nxt (z : Nat) (u u' : Option Nat) : Prop := u' = u ∨ ∀ g, u' = some g → z ≤ g
theorem own_blk {w : World} {base : Nat} {v : Value} {ns : List Nd} (h : OwnNd w base v ns) : ∀ b, v.ownBlock = some b → base ≤ b ∧ b < w.heap.size := by
  intro b hb
  obtain ⟨xs, ho, _⟩ := h
  rcases ho.2 with ⟨rfl, _⟩ | ⟨g, cap, cur, rfl, hB, hg, _⟩
  · simp [Value.ownBlock] at hb
  · simp [Value.ownBlock] at hb
    subst hb
    exact ⟨hB, (Array.getElem?_eq_some_iff.1 hg).1⟩
theorem share {G F : Prop} (h : F → G) (hF : F) : G := h hF
theorem ni_inj {x y : Nd} (h : ni x = ni y) : x = y := by
  cases x; cases y
  simp [ni] at h
  obtain ⟨h1, h2, h3⟩ := h
  congr <;> omega
theorem BldR.old {w w' : World} {p q base : Nat} {ns : List Nd} {u : Option Nat} (h : BldR w p q base ns u) (hb : Below w.heap.size w w') : BldR w' p q base ns u := by
  obtain ⟨A, c, k, m, h1, h2, h3, h4, h5, h6, h7, h8, h9, h10⟩ := h
  exact ⟨A, c, k, m, (hb.block p (by omega)).trans h1, h2.old hb, h3.kept (hb.block q (by omega)), h4, h5, h6, h7, h8, Nat.le_trans h9 hb.size, h10⟩
set_option maxRecDepth 100000 in
set_option maxHeartbeats 800000 in
theorem newBuilder_any (z : Nat) (w : World) : Calls Tryd.prog 31 #[.int .i64 z] w fun e w' => e = .returned (.pointer (some ⟨w.heap.size + 1, 0, none⟩)) ∧ w' = (w.alloc (.map #[] 0)).alloc (.cells #[.slice none 0 0, .map (some w.heap.size)] 89) := by
  have hmk : (Instr.makeMap 87 (some (.int .i64 (z : Int)))).run Tryd.prog w = .ok (.map (some w.heap.size)) (w.alloc (.map #[] 0)) := by kernel_rfl
  go_enter Tryd.func31, Tryd.ntmps31
  go_wp2
  go_ret
  exact ⟨by simp, rfl⟩
theorem bld_new (w : World) : BldR ((w.alloc (.map #[] 0)).alloc (.cells #[.slice none 0 0, .map (some w.heap.size)] 89)) (w.heap.size + 1) w.heap.size (w.heap.size + 2) [] none := by
  refine ⟨none, 0, 0, fun _ => none, new_at' _ (by simp), OwnE.nil _ _ _ _ _, (MapF.made 51 kv3 w).kept (Below.heap_alloc _ _ _ (by simp)), Nat.le_refl _, fun x y => ?_, by omega, by omega, by omega, by simp, rfl⟩
  simp
set_option maxRecDepth 100000 in
set_option maxHeartbeats 800000 in
theorem bdiagram_any (p q base : Nat) (ns : List Nd) (r : Int) (w : World) (u : Option Nat) (h : BldR w p q base ns u) : Calls Tryd.prog 37 #[.pointer (some ⟨p, 0, none⟩), .int .i64 r] w fun e w' => ∃ A c, e = .returned (.agg #[.slice A ns.length c, .int .i64 r]) ∧ OwnNd w' base (.slice A ns.length c) ns ∧ Below w.heap.size w w' := by
  obtain ⟨A, c, k, m, h1, h2, _, _, _, h6, _, _, h9, _⟩ := h
  obtain ⟨W, hW⟩ : ∃ W, W = w.alloc (.cells #[.slice none 0 0, .int .i64 0] 29) := ⟨_, rfl⟩
  have hb : Below w.heap.size w W := by rw [hW]; exact (Below.refl _ _).alloc (Nat.le_refl _) _
  have kp : W.heap[p]? = _ := (hb.block p (by omega)).trans h1
  obtain ⟨x0, x1⟩ := cells2 kp
  rw [hW] at x0 x1
  have HO := Lib.hid h2
  generalize hn : ns.length = n at *
  clear h1 h2 kp hW
  go_enter Tryd.func37, Tryd.ntmps37
  go_wp2
  refine bodyPost_ret (v := .agg #[.slice A n c, .int .i64 r]) (by simp [results, Tryd.results37, go_sem]) rfl ?_
  have hbf : Below w.heap.size w (w.alloc (.cells #[.slice A n c, .int .i64 r] 29)) := (Below.refl _ _).alloc (Nat.le_refl _) _
  exact ⟨A, c, rfl, HO.out.old hbf, hbf⟩
set_option maxRecDepth 100000 in
set_option maxHeartbeats 3200000 in
theorem reference_any (p q base : Nat) (ns : List Nd) (l h o : Nat) (w : World) (u : Option Nat) (hB : BldR w p q base ns u) (hG : Good ns) (hl : l < 12) (hh : h < ns.length + 2) (ho : o < ns.length + 2) (hlen : ns.length ≤ 100000) :
    Calls Tryd.prog 36 #[.pointer (some ⟨p, 0, none⟩), .agg #[.int .i64 l, .int .i64 h, .int .i64 o]] w fun e w' => e = .returned (.int .i64 (mkN ns l h o).2) ∧ ∃ u', BldR w' p q base (mkN ns l h o).1 u' ∧ Nxt w.heap.size u u' ∧ Ke w.heap.size (fun b => b = p ∨ b = q ∨ some b = u) w w' := by
  have hBB := hB
  obtain ⟨A, c, k, m, b1, b2, b3, b4, b5, b6, b7, b8, b9, b10⟩ := hB
  obtain ⟨W, hW⟩ : ∃ W, W = w.alloc (.cells #[.int .i64 l, .int .i64 h, .int .i64 o] 51) := ⟨_, rfl⟩
  have hb : Below w.heap.size w W := by rw [hW]; exact (Below.refl _ _).alloc (Nat.le_refl _) _
  have hz : W.heap.size = w.heap.size + 1 := by rw [hW]; simp
  have kn : W.heap[w.heap.size]? = some (.cells #[.int .i64 l, .int .i64 h, .int .i64 o] 51 (0, 0)) := by rw [hW]; exact heap_alloc_new w _
  by_cases hho : h = o
  · subst hho
    rw [mkN_same]
    have HF : Hid (∃ u', BldR W p q base ns u' ∧ Nxt w.heap.size u u' ∧ Ke w.heap.size (fun b => b = p ∨ b = q ∨ some b = u) w W) := Lib.hid ⟨u, hBB.old hb, .inl rfl, Ke.of hb⟩
    clear hBB b1 b2 b3 b4 b5 b6 b7 b8 b9 b10 kn hz hb hG
    go_enter Tryd.func36, Tryd.ntmps36
    go_wp2
    go_ret
    rw [← hW]
    exact ⟨rfl, HF.out⟩
  · have hne : ((h : Int) == (o : Int)) = false := by rw [beq_eq_false_iff_ne]; omega
    have hx : (ni ⟨l, h, o⟩) = ((l : Int), (h : Int), (o : Int)) := rfl
    have wf : ∀ x : Nat, x ≤ 200000 → W6 (x : Int) := fun x hx => by
      unfold W6
      exact WalkArith.wf_i64 (by omega)
    have hkey := key3_ok (ni ⟨l, h, o⟩) ⟨wf l (by omega), wf h (by omega), wf o (by omega)⟩
    have hm : m (ni ⟨l, h, o⟩) = none ∨ ∃ i : Nat, m (ni ⟨l, h, o⟩) = some ((i : Int) + 2) ∧ ns[i]? = some ⟨l, h, o⟩ := by
      cases e : m (ni ⟨l, h, o⟩) with
      | none => exact .inl rfl
      | some y =>
        obtain ⟨i, n, h1, h2, h3⟩ := (b5 _ _).1 e
        rw [ni_inj h2] at h1
        exact .inr ⟨i, by rw [h3], h1⟩
    obtain ⟨cv, hlook, hcv⟩ := (b3.kept (w' := W.drew) (hb.block q (by omega))).look keyed3 Tryd.underlying87 (ni ⟨l, h, o⟩) hkey
    have hkv : kv3 (ni ⟨l, h, o⟩) = .agg #[.int .i64 l, .int .i64 h, .int .i64 o] := rfl
    rw [hkv] at hlook
    have kp : W.heap[p]? = some (.cells #[.slice A ns.length c, .map (some q)] 89 (0, 0)) := (hb.block p (by omega)).trans b1
    have HS3 : Hid (W.drew.cell? ⟨p, 1, none⟩ = some (.map (some q)) ∧ W.drew.cell? ⟨w.heap.size, 0, none⟩ = some (.int .i64 l) ∧ W.drew.cell? ⟨w.heap.size, 1, none⟩ = some (.int .i64 h) ∧ W.drew.cell? ⟨w.heap.size, 2, none⟩ = some (.int .i64 o)) := Lib.hid ⟨(cells2 kp).2, (cells3 kn).1, (cells3 kn).2.1, (cells3 kn).2.2⟩
    rcases hm with hm | ⟨i, hm, hi⟩
    · rw [hm] at hlook
      have hnew : (⟨l, h, o⟩ : Nd) ∉ ns := fun hmem => by
        obtain ⟨j, hj⟩ := List.getElem?_of_mem hmem
        have := (b5 (ni ⟨l, h, o⟩) ((j : Int) + 2)).2 ⟨j, _, hj, rfl, rfl⟩
        rw [hm] at this
        cases this
      rw [mkN_new hho hnew]
      have hO2 : OwnNd W.drew.drew base (.slice A ns.length c) ns := b2.old hb.drew.drew
      obtain ⟨g, cap, w6, hr6, hO6, hb6, hk6, hg6⟩ := app_nd W.drew.drew base _ ns hO2 ⟨l, h, o⟩ (by omega) (by show base ≤ W.heap.size; omega) 27
      have hown : ∀ b, (Value.slice A ns.length c).ownBlock = some b → base ≤ b ∧ b < w.heap.size := own_blk b2
      have hne6 : ∀ b, b < base → some b ≠ (Value.slice A ns.length c).ownBlock := fun b hb e => by have := hown b e.symm; omega
      have hdz : W.drew.drew.heap.size = w.heap.size + 1 := hz
      have hs6 := hb6.size
      have kp6 : w6.heap[p]? = some (.cells #[.slice A ns.length c, .map (some q)] 89 (0, 0)) := (hk6 p (by omega) (hne6 p b6)).trans kp
      have kn6 : w6.heap[w.heap.size]? = some (.cells #[.int .i64 l, .int .i64 h, .int .i64 o] 51 (0, 0)) := (hk6 w.heap.size (by omega) (fun e => by have := hown _ e.symm; omega)).trans kn
      obtain ⟨V, hV⟩ : ∃ V, V = w6.setCell ⟨p, 0, none⟩ (.slice (some ⟨g, 0, none⟩) (ns.length + 1) cap) := ⟨_, rfl⟩
      have kpV : V.heap[p]? = some (.cells #[.slice (some ⟨g, 0, none⟩) (ns.length + 1) cap, .map (some q)] 89 (0, 0)) := by rw [hV]; simpa using heap_setCell_same _ _ 0 _ _ (.slice (some ⟨g, 0, none⟩) (ns.length + 1) cap) kp6
      have knV : V.heap[w.heap.size]? = some (.cells #[.int .i64 l, .int .i64 h, .int .i64 o] 51 (0, 0)) := by rw [hV, heap_setCell_other _ _ _ _ (show w.heap.size ≠ p by omega)]; exact kn6
      have kV : ∀ b, b ≠ p → V.heap[b]? = w6.heap[b]? := fun b hb => by rw [hV]; exact heap_setCell_other _ _ _ _ hb
      have hVs : V.heap.size = w6.heap.size := by rw [hV]; simp
      have hMV := b3.kept (w' := V.drew) ((kV q (by omega)).trans ((hk6 q (by omega) (hne6 q b7)).trans (hb.block q (by omega))))
      obtain ⟨w8, hr8, hM8, hg8⟩ := hMV.put keyed3 (fun _ _ => kv3_inj) Tryd.underlying87 (by unfold maxLen; omega) (ni ⟨l, h, o⟩) hkey ((ns.length : Int) + 2) (wf (ns.length + 2) (by omega))
      rw [hkv] at hr8
      have kp8 : w8.heap[p]? = some (.cells #[.slice (some ⟨g, 0, none⟩) (ns.length + 1) cap, .map (some q)] 89 (0, 0)) := (hg8.block p (by show p < V.heap.size; omega) (by intro e; injection e with e; omega)).trans kpV
      have kn8 : w8.heap[w.heap.size]? = some (.cells #[.int .i64 l, .int .i64 h, .int .i64 o] 51 (0, 0)) := (hg8.block _ (by show w.heap.size < V.heap.size; omega) (by intro e; injection e with e; omega)).trans knV
      have HS7 : Hid ((fun V => V.cell? ⟨p, 1, none⟩ = some (.map (some q)) ∧ V.cell? ⟨w.heap.size, 0, none⟩ = some (.int .i64 l) ∧ V.cell? ⟨w.heap.size, 1, none⟩ = some (.int .i64 h) ∧ V.cell? ⟨w.heap.size, 2, none⟩ = some (.int .i64 o)) V.drew ∧ (fun V => V.cell? ⟨p, 1, none⟩ = some (.map (some q)) ∧ V.cell? ⟨w.heap.size, 0, none⟩ = some (.int .i64 l) ∧ V.cell? ⟨w.heap.size, 1, none⟩ = some (.int .i64 h) ∧ V.cell? ⟨w.heap.size, 2, none⟩ = some (.int .i64 o)) w8) := Lib.hid ⟨⟨(cells2 kpV).2, (cells3 knV).1, (cells3 knV).2.1, (cells3 knV).2.2⟩, ⟨(cells2 kp8).2, (cells3 kn8).1, (cells3 kn8).2.1, (cells3 kn8).2.2⟩⟩
      have HF : Hid (∃ u', BldR w8 p q base (ns ++ [⟨l, h, o⟩]) u' ∧ Nxt w.heap.size u u' ∧ Ke w.heap.size (fun b => b = p ∨ b = q ∨ some b = u) w w8) := Lib.hid (by
        have hOV : OwnNd V base (.slice (some ⟨g, 0, none⟩) (ns.length + 1) cap) (ns ++ [⟨l, h, o⟩]) := by rw [hV]; exact OwnE.low hO6 b6
        have hO8 : OwnNd w8 base (.slice (some ⟨g, 0, none⟩) (ns.length + 1) cap) (ns ++ [⟨l, h, o⟩]) := OwnE.kept (w := V.drew) hOV hg8.size fun b h1 h2 => hg8.block b h2 (by intro e; injection e with e; omega)
        refine ⟨some g, ⟨some ⟨g, 0, none⟩, cap, k + 1, _, by rw [List.length_append]; exact kp8, by rw [List.length_append]; exact hO8, hM8, by rw [List.length_append]; exact Nat.succ_le_succ b4, ?_, b6, b7, b8, Nat.le_trans (show base ≤ V.heap.size by omega) hg8.size, by simp [Value.ownBlock]⟩, (by
            rcases hg6 with h | h
            · exact .inl (h.symm.trans b10)
            · exact .inr fun g' e => by injection e with e; omega), ?_, ?_⟩
        · intro x y
          dsimp only
          by_cases hx : x = ni ⟨l, h, o⟩
          · rw [if_pos hx]
            constructor
            · intro e
              injection e with e
              exact ⟨ns.length, ⟨l, h, o⟩, by simp, hx.symm, e.symm⟩
            · rintro ⟨j, n, h1, h2, rfl⟩
              rw [hx] at h2
              have := ni_inj h2
              subst this
              by_cases hj : j < ns.length
              · rw [List.getElem?_append_left hj] at h1
                exact absurd (List.mem_of_getElem? h1) hnew
              · have h3 := (List.getElem?_eq_some_iff.1 h1).1
                rw [List.length_append, List.length_singleton] at h3
                rw [show j = ns.length by omega]
          · rw [if_neg hx, b5]
            constructor
            · rintro ⟨j, n, h1, h2, rfl⟩
              exact ⟨j, n, by rw [List.getElem?_append_left (List.getElem?_eq_some_iff.1 h1).1]; exact h1, h2, rfl⟩
            · rintro ⟨j, n, h1, h2, rfl⟩
              by_cases hj : j < ns.length
              · rw [List.getElem?_append_left hj] at h1
                exact ⟨j, n, h1, h2, rfl⟩
              · rw [List.getElem?_append_right (by omega)] at h1
                have h3 := (List.getElem?_eq_some_iff.1 h1).1
                rw [List.length_singleton] at h3
                rw [show j - ns.length = 0 by omega] at h1
                simp at h1
                subst h1
                exact absurd h2.symm hx
        · have h1 : Below 0 w V := by rw [hV]; exact ((hb.mono (Nat.zero_le _)).drew.drew.trans (hb6.mono (Nat.zero_le _))).setCell (p := ⟨p, 0, none⟩) (Nat.zero_le _) _
          exact h1.drew.grown hg8 (Nat.zero_le _) (fun _ _ => Nat.zero_le _)
        · intro b hbl hX
          have hbp : b ≠ p := fun e => hX (.inl e)
          have hbq : b ≠ q := fun e => hX (.inr (.inl e))
          have hbb : some b ≠ (Value.slice A ns.length c).ownBlock := fun e => hX (.inr (.inr (e.trans b10)))
          exact (hg8.block b (by show b < V.heap.size; omega) (by intro e; injection e with e; omega)).trans ((kV b hbp).trans ((hk6 b (by omega) hbb).trans (hb.block b hbl))))
      obtain ⟨e0, e1⟩ := cells2 (show W.drew.heap[p]? = _ from kp)
      have z6 := Lib.frozen_of_heap kp6 0
      have e6 := (cells2 kp6).1
      have hw : IntKind.i64.wrap (2 + (ns.length : Int)) = (ns.length : Int) + 2 := by rw [show 2 + (ns.length : Int) = (ns.length : Int) + 2 by omega]; exact IntWalk.i64_in _ (by omega)
      have HS6 : Hid ((W.drew.drew.cell? ⟨w.heap.size, 0, none⟩ = some (.int .i64 l) ∧ W.drew.drew.cell? ⟨w.heap.size, 1, none⟩ = some (.int .i64 h) ∧ W.drew.drew.cell? ⟨w.heap.size, 2, none⟩ = some (.int .i64 o)) ∧ (w6.cell? ⟨w.heap.size, 0, none⟩ = some (.int .i64 l) ∧ w6.cell? ⟨w.heap.size, 1, none⟩ = some (.int .i64 h) ∧ w6.cell? ⟨w.heap.size, 2, none⟩ = some (.int .i64 o)) ∧ (V.cell? ⟨w.heap.size, 0, none⟩ = some (.int .i64 l) ∧ V.cell? ⟨w.heap.size, 1, none⟩ = some (.int .i64 h) ∧ V.cell? ⟨w.heap.size, 2, none⟩ = some (.int .i64 o)) ∧ V.drew.cell? ⟨p, 1, none⟩ = some (.map (some q))) := Lib.hid ⟨⟨(cells3 kn).1, (cells3 kn).2.1, (cells3 kn).2.2⟩, ⟨(cells3 kn6).1, (cells3 kn6).2.1, (cells3 kn6).2.2⟩, ⟨(cells3 knV).1, (cells3 knV).2.1, (cells3 knV).2.2⟩, (cells2 kpV).2⟩
      have kna : (W.drew.drew.alloc (.cells #[.int .i64 l, .int .i64 h, .int .i64 o] 51)).heap[w.heap.size]? = some (.cells #[.int .i64 l, .int .i64 h, .int .i64 o] 51 (0, 0)) := (Below.heap_alloc _ _ _ (by omega)).trans kn
      have HSA : Hid ((W.drew.drew.alloc (.cells #[.int .i64 l, .int .i64 h, .int .i64 o] 51)).cell? ⟨w.heap.size, 0, none⟩ = some (.int .i64 l) ∧ (W.drew.drew.alloc (.cells #[.int .i64 l, .int .i64 h, .int .i64 o] 51)).cell? ⟨w.heap.size, 1, none⟩ = some (.int .i64 h) ∧ (W.drew.drew.alloc (.cells #[.int .i64 l, .int .i64 h, .int .i64 o] 51)).cell? ⟨w.heap.size, 2, none⟩ = some (.int .i64 o)) := Lib.hid ⟨(cells3 kna).1, (cells3 kna).2.1, (cells3 kna).2.2⟩
      have kpa : (W.drew.drew.alloc (.cells #[.int .i64 l, .int .i64 h, .int .i64 o] 51)).cell? ⟨p, 0, none⟩ = some (.slice A ns.length c) := (Lib.cell_of_heap ((Below.heap_alloc _ _ _ (by omega)).trans (show W.drew.drew.heap[p]? = _ from kp)) 0).trans rfl
      have kpa' : ((W.alloc (.cells #[.int .i64 l, .int .i64 h, .int .i64 o] 51)).drew.drew).cell? ⟨p, 0, none⟩ = some (.slice A ns.length c) := kpa
      have kpd : W.drew.drew.cell? ⟨p, 0, none⟩ = some (.slice A ns.length c) := e0
      have hr6' : (Builtin.append_ #[27, 27] 27 #[.slice A ns.length c, .slice (some ⟨W.heap.size, 0, none⟩) 1 1]).run Tryd.prog ((W.alloc (.cells #[.int .i64 l, .int .i64 h, .int .i64 o] 51)).drew.drew) = .ok (.slice (some ⟨g, 0, none⟩) (ns.length + 1) cap) w6 := hr6
      clear hr6
      have HNL0 : ns.length = ns.length := rfl
      generalize hNL : ns.length = n at *
      have HNL := Lib.hid hNL
      clear HNL0 hNL
      clear hBB b1 b2 b3 b4 b5 b6 b7 b8 b9 b10 hb hz kn hG hh ho hx wf hkey hm hcv hO2 hO6 hb6 hk6 hg6 hown hne6 hdz hs6 kp6 kn6 kpV knV kV hVs hMV hM8 hg8 kp8 kn8 kna hnew hl hlen kp hkv
      go_enter Tryd.func36, Tryd.ntmps36
      go_wp2_with fail
      rw [← hW]
      clear hW
      refine wp_region_held_drew (S := fun V => V.cell? ⟨p, 1, none⟩ = some (.map (some q)) ∧ V.cell? ⟨w.heap.size, 0, none⟩ = some (.int .i64 l) ∧ V.cell? ⟨w.heap.size, 1, none⟩ = some (.int .i64 h) ∧ V.cell? ⟨w.heap.size, 2, none⟩ = some (.int .i64 o)) (by kernel_rfl) HS3.out (fun _ => ?_)
      refine tk 0 (HS3.out) ?_
      try simp only [Act.put, pA, pB, pC]
      refine tk 1 (HS3.out) ?_
      try simp only [Act.put, pA, pB, pC]
      refine tk 2 (HS3.out) ?_
      try simp only [Act.put, pA, pB, pC]
      refine tk 3 (HS3.out) ?_
      try simp only [Act.put, pA, pB, pC]
      refine tk 4 (HS3.out) ?_
      try simp only [Act.put, pA, pB, pC]
      refine one_op 5 (by kernel_rfl) rfl (by rfl) (fun K hK => ?_)
      go_simp
      refine hK _ _ HS3.out ?_
      try simp only [Act.put, pA, pB, pC]
      clear hK K
      refine tk 6 (HS3.out) ?_
      try simp only [Act.put, pA, pB, pC]
      refine tk 7 (HS3.out) ?_
      try simp only [Act.put, pA, pB, pC]
      refine tk 8 (HS3.out) ?_
      try simp only [Act.put, pA, pB, pC]
      refine tk 9 (HS3.out) ?_
      try simp only [Act.put, pA, pB, pC]
      refine tk 10 (HS3.out) ?_
      try simp only [Act.put, pA, pB, pC]
      refine wpAnyH_done (by kernel_rfl) ?_ _
      go_wp2_with fail
      apply share
      case h =>
        intro hfin
        have HFIN := Lib.hid hfin
        clear hfin
        refine wp_region_held_drew (S := fun V => V.cell? ⟨w.heap.size, 0, none⟩ = some (.int .i64 l) ∧ V.cell? ⟨w.heap.size, 1, none⟩ = some (.int .i64 h) ∧ V.cell? ⟨w.heap.size, 2, none⟩ = some (.int .i64 o)) (by kernel_rfl) HS6.out.1 (fun _ => ?_)
        refine tk 0 (HS6.out.1) ?_
        try simp only [Act.put, pA, pB, pC]
        refine tk 1 (HS6.out.1) ?_
        try simp only [Act.put, pA, pB, pC]
        refine tk 2 (HS6.out.1) ?_
        try simp only [Act.put, pA, pB, pC]
        refine tk 3 (HS6.out.1) ?_
        try simp only [Act.put, pA, pB, pC]
        refine tk 5 (HS6.out.1) ?_
        try simp only [Act.put, pA, pB, pC]
        refine wpAnyH_all (rs := [4, 6]) (by kernel_rfl) (by simp) fun j hj => ?_
        have hj2 : j = 4 ∨ j = 6 := by simpa using hj
        clear hj
        rcases hj2 with rfl | rfl
        · refine step_op rfl (by rfl) (fun K hK => ?_)
          go_simp
          refine hK _ _ ⟨HS6.out.1, ?_⟩
          try simp only [Act.put, pA, pB, pC]
          refine one_op 6 (by kernel_rfl) rfl (by rfl) (fun K hK => ?_)
          go_simp
          refine hK _ _ HSA.out ?_
          try simp only [Act.put, pA, pB, pC]
          refine one_op 7 (by kernel_rfl) rfl (by rfl) (fun K hK => ?_)
          refine Lib.wp_append_run _ _ _ _ _ rfl _ _ rfl rfl _ w6 hr6' ?_
          refine hK _ _ HS6.out.2.1 ?_
          try simp only [Act.put, pA, pB, pC]
          refine tk 8 (HS6.out.2.1) ?_
          try simp only [Act.put, pA, pB, pC]
          refine tk 9 (HS6.out.2.1) ?_
          try simp only [Act.put, pA, pB, pC]
          refine one_op 10 (by kernel_rfl) rfl (by rfl) (fun K hK => ?_)
          go_simp
          rw [← hV]
          refine hK _ _ HS6.out.2.2.1 ?_
          try simp only [Act.put, pA, pB, pC]
          refine wpAnyH_done (by kernel_rfl) ?_ _
          exact HFIN.out
        · refine step_op rfl (by rfl) (fun K hK => ?_)
          go_simp
          refine hK _ _ ⟨HSA.out, ?_⟩
          try simp only [Act.put, pA, pB, pC]
          refine one_op 4 (by kernel_rfl) rfl (by rfl) (fun K hK => ?_)
          go_simp
          refine hK _ _ HSA.out ?_
          try simp only [Act.put, pA, pB, pC]
          refine one_op 7 (by kernel_rfl) rfl (by rfl) (fun K hK => ?_)
          refine Lib.wp_append_run _ _ _ _ _ rfl _ _ rfl rfl _ w6 hr6' ?_
          refine hK _ _ HS6.out.2.1 ?_
          try simp only [Act.put, pA, pB, pC]
          refine tk 8 (HS6.out.2.1) ?_
          try simp only [Act.put, pA, pB, pC]
          refine tk 9 (HS6.out.2.1) ?_
          try simp only [Act.put, pA, pB, pC]
          refine one_op 10 (by kernel_rfl) rfl (by rfl) (fun K hK => ?_)
          go_simp
          rw [← hV]
          refine hK _ _ HS6.out.2.2.1 ?_
          try simp only [Act.put, pA, pB, pC]
          refine wpAnyH_done (by kernel_rfl) ?_ _
          exact HFIN.out
      case hF =>
        clear hV e0 e1 e6 z6 kpa kpa' kpd hr6'
        go_wp2_with fail
        refine wp_region_held_drew (S := fun V => V.cell? ⟨p, 1, none⟩ = some (.map (some q)) ∧ V.cell? ⟨w.heap.size, 0, none⟩ = some (.int .i64 l) ∧ V.cell? ⟨w.heap.size, 1, none⟩ = some (.int .i64 h) ∧ V.cell? ⟨w.heap.size, 2, none⟩ = some (.int .i64 o)) (by kernel_rfl) HS7.out.1 (fun _ => ?_)
        refine tk 0 (HS7.out.1) ?_
        try simp only [Act.put, pA, pB, pC]
        refine tk 1 (HS7.out.1) ?_
        try simp only [Act.put, pA, pB, pC]
        refine tk 2 (HS7.out.1) ?_
        try simp only [Act.put, pA, pB, pC]
        refine tk 3 (HS7.out.1) ?_
        try simp only [Act.put, pA, pB, pC]
        refine tk 4 (HS7.out.1) ?_
        try simp only [Act.put, pA, pB, pC]
        refine tk 5 (HS7.out.1) ?_
        try simp only [Act.put, pA, pB, pC]
        refine one_op 6 (by kernel_rfl) rfl (by rfl) (fun K hK => ?_)
        go_simp
        refine hK _ _ HS7.out.2 ?_
        try simp only [Act.put, pA, pB, pC]
        refine wpAnyH_done (by kernel_rfl) ?_ _
        go_wp2
        go_ret
        exact ⟨by simp [← HNL.out], HF.out⟩
    · have hcv2 := hcv _ hm
      subst hcv2
      rw [hm] at hlook
      rw [mkN_old hG hi]
      have HF : Hid (∃ u', BldR W.drew p q base ns u' ∧ Nxt w.heap.size u u' ∧ Ke w.heap.size (fun b => b = p ∨ b = q ∨ some b = u) w W.drew) := Lib.hid ⟨u, hBB.old hb.drew, .inl rfl, Ke.of hb.drew⟩
      clear hBB b1 b2 b3 b4 b5 b6 b7 b8 b9 b10 hb hz kn hG hh ho hx wf hkey hm hi hcv kp hl hlen hkv
      go_enter Tryd.func36, Tryd.ntmps36
      go_wp2_with fail
      rw [← hW]
      clear hW
      refine wp_region_held_drew (S := fun V => V.cell? ⟨p, 1, none⟩ = some (.map (some q)) ∧ V.cell? ⟨w.heap.size, 0, none⟩ = some (.int .i64 l) ∧ V.cell? ⟨w.heap.size, 1, none⟩ = some (.int .i64 h) ∧ V.cell? ⟨w.heap.size, 2, none⟩ = some (.int .i64 o)) (by kernel_rfl) HS3.out (fun _ => ?_)
      refine tk 0 (HS3.out) ?_
      try simp only [Act.put, pA, pB, pC]
      refine tk 1 (HS3.out) ?_
      try simp only [Act.put, pA, pB, pC]
      refine tk 2 (HS3.out) ?_
      try simp only [Act.put, pA, pB, pC]
      refine tk 3 (HS3.out) ?_
      try simp only [Act.put, pA, pB, pC]
      refine tk 4 (HS3.out) ?_
      try simp only [Act.put, pA, pB, pC]
      refine one_op 5 (by kernel_rfl) rfl (by rfl) (fun K hK => ?_)
      go_simp
      refine hK _ _ HS3.out ?_
      try simp only [Act.put, pA, pB, pC]
      clear hK K
      refine tk 6 (HS3.out) ?_
      try simp only [Act.put, pA, pB, pC]
      refine tk 7 (HS3.out) ?_
      try simp only [Act.put, pA, pB, pC]
      refine tk 8 (HS3.out) ?_
      try simp only [Act.put, pA, pB, pC]
      refine tk 9 (HS3.out) ?_
      try simp only [Act.put, pA, pB, pC]
      refine tk 10 (HS3.out) ?_
      try simp only [Act.put, pA, pB, pC]
      refine wpAnyH_done (by kernel_rfl) ?_ _
      go_wp2
      go_ret
      exact ⟨by simp, HF.out⟩
end Go.Proofs.YtplmbmecjhmiiaaDoor
