/- The walk of the law LiteralsSets: it returns true. -/
import Derived.Test.YtkmfpkdcedfgfaaLawKit
namespace Go.Proofs.Ytkmfpkdcedfgfaa
open Go.RowKit Go.Sort
/-- as wpAnyH_par, but where b is full, the rest of the region is walked as the caller says -/
theorem wpAnyH_parTo {P : Program} {md : Region.Mode} {ops : Array Oper} {Q : Exit → Act → World → Prop} {S : World → Prop} {Bs : Type} (L : Bs → Array Bool) (chk : Bs → Nat → Bool) (full : Bs → Bool) (rest : Nat)
    (hkey : ∀ b, full b = false → (Region.ready md ops (L b)).all (chk b) = true) (hne : ∀ b, full b = false → (Region.ready md ops (L b)).isEmpty = false) (hrest : ∀ b, full b = true → rest ≤ (L b).toList.countP (· == false)) (Inv : Bs → Act → World → Prop)
    (hend : ∀ b a w fuel, full b = true → Inv b a w → rest ≤ fuel → wpAnyH P md ops Q S fuel (L b) a w)
    (hstep : ∀ b a w i, Inv b a w → chk b i = true → wpOp P ops Q i (fun a' w' => S w' ∧ ∃ b', L b' = (L b).setIfInBounds i true ∧ Inv b' a' w') a w)
    {fuel : Nat} {listed : Array Bool} {a : Act} {w : World} (b : Bs) (hl : listed = L b) (hc : listed.toList.countP (· == false) ≤ fuel) (h : Inv b a w) : wpAnyH P md ops Q S fuel listed a w := by
  subst hl
  induction fuel generalizing b a w with
  | zero =>
    cases hf : full b with
    | true => exact hend b a w 0 hf h (Nat.le_trans (hrest b hf) hc)
    | false =>
      have h0 := hne b hf
      have hr : Region.ready md ops (L b) = [] := by
        rw [List.eq_nil_iff_forall_not_mem]
        intro i hi
        have := count_set (mem_ready.1 hi).1
        omega
      rw [hr] at h0
      cases h0
  | succ fuel ih =>
    cases hf : full b with
    | true => exact hend b a w (fuel + 1) hf h (Nat.le_trans (hrest b hf) hc)
    | false =>
      refine ⟨fun hr => ?_, fun i hi => ?_⟩
      · have h0 := hne b hf
        rw [hr] at h0
        cases h0
      · refine wpOp_mono (fun a' w' ⟨hS, b', hb', h'⟩ => ⟨hS, ?_⟩) (hstep b a w i h (List.all_eq_true.1 (hkey b hf) i hi))
        rw [← hb']
        refine ih b' h' ?_
        rw [hb']
        have := count_set (mem_ready.1 hi).1
        omega
theorem ConF.cells {H r : Nat} {t : TypeId} {a b : Value} {w : World} (h : ConF H t (.pointer (some ⟨r, 0, none⟩)) (.agg #[a, b]) w) : w.cell? ⟨r, 0, none⟩ = some a ∧ w.cell? ⟨r, 1, none⟩ = some b := by
  obtain ⟨r', x, y, h1, h2, h3, h4⟩ := h
  injection h1 with h1
  injection h1 with h1
  injection h1 with h1
  subst h1
  simp only [Value.agg.injEq, Array.mk.injEq, List.cons.injEq, and_true] at h4
  obtain ⟨rfl, rfl⟩ := h4
  exact ⟨cell0 h3, cell1 h3⟩
theorem ConF.lt {H r : Nat} {t : TypeId} {u : Value} {w : World} (h : ConF H t (.pointer (some ⟨r, 0, none⟩)) u w) : r < w.heap.size := by
  obtain ⟨r', x, y, h1, h2, h3, h4⟩ := h
  injection h1 with h1
  injection h1 with h1
  injection h1 with h1
  subst h1
  exact heap_lt h3
theorem OwnN.store2 {w : World} {B r : Nat} {v : Value} {ss : List Strg} {t : TypeId} {x y : Value} (h : OwnN w B v ss) (hr : w.heap[r]? = some (.cells #[x, y] t (0, 0))) (ht : t ≠ 9) (a b : Value) : OwnN ((w.setCell ⟨r, 0, none⟩ a).setCell ⟨r, 1, none⟩ b) B v ss := by
  refine (h.store hr ht 0 a).store (t := t) (cs := #[a, y]) (fz := (0, 0)) ?_ ht 1 b
  simpa using Lib.heap_setCell_same (i := 0) hr a
theorem or_vals {a b x y : Bool} (h1 : a = x) (h2 : b = y) : (a || b) = (x || y) := by rw [h1, h2]
theorem and_vals {a b x y : Bool} (h1 : a = x) (h2 : b = y) : (a && b) = (x && y) := by rw [h1, h2]
set_option maxRecDepth 100000 in
set_option maxHeartbeats 6400000 in
theorem literalsSets_any (co co' : Bool) (A A' : Option Addr) (n c n' c' : Nat) (rs rs' : List Strg) (s : Strg) (w : World) (hR : NmS w w.heap.size A n rs) (hR' : NmS w w.heap.size A' n' rs') (hn : n ≤ 9223372036854775807) (hn' : n' ≤ 9223372036854775807) :
    Calls Try.prog 4 #[.agg #[.bool co, .slice A n c], .agg #[.bool co', .slice A' n' c'], .string ⟨s.toArray⟩] w fun e w' => e = .returned (.bool true) ∧ Below w.heap.size w w' := by
  have HR := Lib.hid hR
  have HR' := Lib.hid hR'
  obtain ⟨hx1, hx2, hx3, hxz, hbW⟩ := boxes3 w (.cells #[.bool co, .slice A n c] 24 (0, 0)) (.cells #[.bool co', .slice A' n' c'] 24 (0, 0)) (.cells #[.bool co, .slice A n c, .bool co', .slice A' n' c'] 24 (0, 0))
  have hs := short2_any (w.heap.size + 1 + 1) A A' n c n' c' _ ((Lib.cell_of_heap hx3 1).trans rfl) ((Lib.cell_of_heap hx3 3).trans rfl) hn hn'
  have hb1 := hbW
  clear hR hR'
  by_cases hn1 : n ≤ 40
  · by_cases hn2 : n' ≤ 40
    · rw [decide_eq_true hn1, decide_eq_true hn2, Bool.and_self] at hs
      obtain ⟨g, hg⟩ : ∃ g, (co || co') = g := ⟨_, rfl⟩
      obtain ⟨f, hf⟩ : ∃ f, (co && co') = f := ⟨_, rfl⟩
      obtain ⟨nc, hnc⟩ : ∃ nc, (!co) = nc := ⟨_, rfl⟩
      have HG := Lib.hid hg
      have HF := Lib.hid hf
      have HN := Lib.hid hnc
      clear hg hf hnc hx3 hb1
      go_enter Try.func4, Try.ntmps4
      go_wp2_with (go_at_call 8; refine hs.mono ?_; rintro e w1 ⟨rfl, rfl⟩; refine Hid.out ?_)
      refine Lib.hid ?_
      clear hs
      go_wp2_with fail
      generalize (((w.alloc (.cells #[.bool co, .slice A n c] 24)).alloc (.cells #[.bool co', .slice A' n' c'] 24)).alloc (.cells #[.bool co, .slice A n c, .bool co', .slice A' n' c'] 24)) = W1 at hx1 hx2 hxz hbW ⊢
      have HB1 := Lib.hid hbW
      have HK := Lib.hid (held2_of (h := w.heap.size) (H := w.heap.size + 3) (W0 := W1) (by omega) (by omega) (cell0 hx1) (cell1 hx1) (cell0 hx2) (cell1 hx2))
      have hlt : w.heap.size ≤ w.heap.size + 3 := by omega
      clear hx1 hx2 hbW
      refine wp_region_held_drew (S := fun wq => Held2 w.heap.size (.bool co) (.slice A n c) (.bool co') (.slice A' n' c') (w.heap.size + 3) W1 wq) (by kernel_rfl) (HK.out _ (Below.refl _ _).drew) (fun hHeld => ?_)
      refine take_op (i := 0) (v := _) rfl (by kernel_rfl) (by kernel_rfl) (by kernel_rfl) (fun _ _ _ h => h) (Or.inl ⟨by rfl, (by intro w hSw; (try dsimp only at hSw); go_simp; try with_reducible rfl)⟩) hHeld ?_
      simp only [Act.put, List.setIfInBounds_toArray, List.set_cons_zero, List.set_cons_succ]
      refine take_op (i := 1) (v := _) rfl (by kernel_rfl) (by kernel_rfl) (by kernel_rfl) (fun _ _ _ h => h) (Or.inl ⟨by rfl, (by intro w hSw; (try dsimp only at hSw); go_simp; try with_reducible rfl)⟩) hHeld ?_
      simp only [Act.put, List.setIfInBounds_toArray, List.set_cons_zero, List.set_cons_succ]
      refine take_op (i := 3) (v := _) rfl (by kernel_rfl) (by kernel_rfl) (by kernel_rfl) (fun _ _ _ h => h) (Or.inl ⟨by rfl, (by intro w hSw; (try dsimp only at hSw); go_simp; try with_reducible rfl)⟩) hHeld ?_
      simp only [Act.put, List.setIfInBounds_toArray, List.set_cons_zero, List.set_cons_succ]
      refine take_op (i := 4) (v := _) rfl (by kernel_rfl) (by kernel_rfl) (by kernel_rfl) (fun _ _ _ h => h) (Or.inl ⟨by rfl, (by intro w hSw; (try dsimp only at hSw); go_simp; try with_reducible rfl)⟩) hHeld ?_
      simp only [Act.put, List.setIfInBounds_toArray, List.set_cons_zero, List.set_cons_succ]
      refine take_op (i := 6) (v := _) rfl (by kernel_rfl) (by kernel_rfl) (by kernel_rfl) (fun _ _ _ h => h) (Or.inl ⟨by rfl, (by intro w hSw; (try dsimp only at hSw); go_simp; try with_reducible rfl)⟩) hHeld ?_
      simp only [Act.put, List.setIfInBounds_toArray, List.set_cons_zero, List.set_cons_succ]
      generalize hA : ({ tmps := _, defers := [] } : Act) = a0
      refine wpAnyH_parTo (Bs := Bool × Bool × Bool × Bool × Bool × Bool) (L := fun ⟨b2, b5, b7, b8, b9, b10⟩ => #[true, true, b2, true, true, b2 && b5, true, b2 && (b5 && b7), b8, b9, b10, false, false, false])
        (chk := fun ⟨b2, b5, b7, b8, b9, b10⟩ i => (i == 2 && !b2) || (i == 5 && (!b5 && b2)) || (i == 7 && (!b7 && (b2 && b5))) || (i == 8 && !b8) || (i == 9 && !b9) || (i == 10 && !b10))
        (full := fun ⟨b2, b5, b7, b8, b9, b10⟩ => b2 && (b5 && (b7 && (b8 && (b9 && b10))))) 3 (by rintro ⟨b2, b5, b7, b8, b9, b10⟩; revert b2 b5 b7 b8 b9 b10; decide +kernel) (by rintro ⟨b2, b5, b7, b8, b9, b10⟩; revert b2 b5 b7 b8 b9 b10; decide +kernel) (by rintro ⟨b2, b5, b7, b8, b9, b10⟩; revert b2 b5 b7 b8 b9 b10; decide +kernel)
        (Inv := fun ⟨b2, b5, b7, b8, b9, b10⟩ a wq => ∃ (u20 u23 u25 u7 u8 u9 : Value), a = ((((((a0.put (some 20) u20).put (some 23) u23).put (some 25) u25).put (some 7) u7).put (some 8) u8).put (some 9) u9) ∧ Below (w.heap.size + 3) W1 wq ∧ (b2 = true → SetF (w.heap.size + 3) g (fun x => inN co rs x || inN co' rs' x) (n + n') u20 wq) ∧ (b5 = true → SetF (w.heap.size + 3) f (fun x => inN co rs x && inN co' rs' x) (n + n') u23 wq) ∧ (b7 = true → SetF (w.heap.size + 3) nc (inN nc rs) n u25 wq) ∧ (b8 = true → BoxF (w.heap.size + 3) 24 u7 wq) ∧ (b9 = true → BoxF (w.heap.size + 3) 24 u8 wq) ∧ (b10 = true → BoxF (w.heap.size + 3) 24 u9 wq) ∧ (b8 = true → b9 = true → u7 ≠ u8) ∧ (b8 = true → b10 = true → u7 ≠ u9) ∧ (b9 = true → b10 = true → u8 ≠ u9)) ?_ ?_ ⟨false, false, false, false, false, false⟩ rfl (by decide) ?_
      · rintro ⟨b2, b5, b7, b8, b9, b10⟩ a wq fuel hf ⟨u20, u23, u25, u7, u8, u9, rfl, hB, h2, h5, h7, h8, h9, h10, n1, n2, n3⟩ hfl
        simp only [Bool.and_eq_true] at hf
        obtain ⟨rfl, rfl, rfl, rfl, rfl, rfl⟩ := hf
        subst hA
        obtain ⟨fuel, rfl⟩ : ∃ k, fuel = k + 3 := ⟨fuel - 3, by omega⟩
        replace n1 := n1 rfl rfl
        replace n2 := n2 rfl rfl
        replace n3 := n3 rfl rfl
        replace h8 := h8 rfl
        replace h9 := h9 rfl
        replace h10 := h10 rfl
        obtain ⟨m1, A1, c1, rfl, p1, hs1, hq1, hk1⟩ := h2 rfl
        obtain ⟨m2, A2, c2, rfl, p2, hs2, hq2, hk2⟩ := h5 rfl
        obtain ⟨m3, A3, c3, rfl, p3, hs3, hq3, hk3⟩ := h7 rfl
        clear h2 h5 h7 hfl
        have Qu := Lib.hid hq1
        have Qi := Lib.hid hq2
        have Qc := Lib.hid hq3
        clear hq1 hq2 hq3
        simp only [Act.put, List.setIfInBounds_toArray, List.set_cons_zero, List.set_cons_succ]
        obtain ⟨r1, x1, y1, rfl, hr1, hc1⟩ := h8
        have g0 := cell0 hc1
        have g1 := cell1 hc1
        have f0 := Lib.frozen_of_heap hc1 0
        have f1 := Lib.frozen_of_heap hc1 1
        refine one_op 11 (by kernel_rfl) rfl (by rfl) (fun K hK => ?_)
        go_simp
        replace hB := Below.setCell2 hB hr1 0 1 (.bool g) (.slice A1 m1.length c1)
        replace p1 := p1.store2 hc1 (by decide) (.bool g) (.slice A1 m1.length c1)
        replace p2 := p2.store2 hc1 (by decide) (.bool g) (.slice A1 m1.length c1)
        replace p3 := p3.store2 hc1 (by decide) (.bool g) (.slice A1 m1.length c1)
        replace h9 := h9.store hc1 (.bool g) (.slice A1 m1.length c1)
        replace h10 := h10.store hc1 (.bool g) (.slice A1 m1.length c1)
        have q0 := ConF.new (t := 24) hr1 hc1 (.bool g) (.slice A1 m1.length c1)
        clear hr1 hc1 g0 g1 f0 f1
        refine hK _ _ (HK.out _ hB) ?_
        clear hK K
        generalize World.setCell (World.setCell _ _ _) _ _ = w21 at hB p1 p2 p3 q0 h9 h10 ⊢
        try simp only [List.setIfInBounds_toArray, List.set_cons_zero, List.set_cons_succ]
        obtain ⟨r2, x2, y2, rfl, hr2, hc2⟩ := h9
        have g0 := cell0 hc2
        have g1 := cell1 hc2
        have f0 := Lib.frozen_of_heap hc2 0
        have f1 := Lib.frozen_of_heap hc2 1
        refine one_op 12 (by kernel_rfl) rfl (by rfl) (fun K hK => ?_)
        go_simp
        replace hB := Below.setCell2 hB hr2 0 1 (.bool f) (.slice A2 m2.length c2)
        replace p1 := p1.store2 hc2 (by decide) (.bool f) (.slice A2 m2.length c2)
        replace p2 := p2.store2 hc2 (by decide) (.bool f) (.slice A2 m2.length c2)
        replace p3 := p3.store2 hc2 (by decide) (.bool f) (.slice A2 m2.length c2)
        replace q0 := q0.store n1 (.bool f) (.slice A2 m2.length c2)
        replace h10 := h10.store hc2 (.bool f) (.slice A2 m2.length c2)
        have q1 := ConF.new (t := 24) hr2 hc2 (.bool f) (.slice A2 m2.length c2)
        clear hr2 hc2 g0 g1 f0 f1
        refine hK _ _ (HK.out _ hB) ?_
        clear hK K
        generalize World.setCell (World.setCell _ _ _) _ _ = w22 at hB p1 p2 p3 q0 q1 h10 ⊢
        try simp only [List.setIfInBounds_toArray, List.set_cons_zero, List.set_cons_succ]
        obtain ⟨r3, x3, y3, rfl, hr3, hc3⟩ := h10
        have g0 := cell0 hc3
        have g1 := cell1 hc3
        have f0 := Lib.frozen_of_heap hc3 0
        have f1 := Lib.frozen_of_heap hc3 1
        refine one_op 13 (by kernel_rfl) rfl (by rfl) (fun K hK => ?_)
        go_simp
        replace hB := Below.setCell2 hB hr3 0 1 (.bool nc) (.slice A3 m3.length c3)
        replace p1 := p1.store2 hc3 (by decide) (.bool nc) (.slice A3 m3.length c3)
        replace p2 := p2.store2 hc3 (by decide) (.bool nc) (.slice A3 m3.length c3)
        replace p3 := p3.store2 hc3 (by decide) (.bool nc) (.slice A3 m3.length c3)
        replace q0 := q0.store n2 (.bool nc) (.slice A3 m3.length c3)
        replace q1 := q1.store n3 (.bool nc) (.slice A3 m3.length c3)
        have q2 := ConF.new (t := 24) hr3 hc3 (.bool nc) (.slice A3 m3.length c3)
        clear hr3 hc3 g0 g1 f0 f1
        refine hK _ _ (HK.out _ hB) ?_
        clear hK K
        generalize World.setCell (World.setCell _ _ _) _ _ = w23 at hB p1 p2 p3 q0 q1 q2  ⊢
        try simp only [List.setIfInBounds_toArray, List.set_cons_zero, List.set_cons_succ]
        refine wpAnyH_done (by kernel_rfl) ?_ _
        go_wp2_with fail
        obtain ⟨d1, d2⟩ := q0.cells
        obtain ⟨d3, d4⟩ := q1.cells
        obtain ⟨d5, d6⟩ := q2.cells
        have z1 := q0.lt
        have z2 := q1.lt
        have z3 := q2.lt
        have hz := hB.size
        have Ku := Lib.hid (kept_set p1 hs1)
        have Ki := Lib.hid (kept_set p2 hs2)
        have Kc := Lib.hid (kept_set p3 hs3)
        have hbW := HB1.out.trans (hB.mono hlt)
        have HBW := Lib.hid hbW
        have Ka := Lib.hid (kept_arg HR.out hbW)
        have Kb := Lib.hid (kept_arg HR'.out hbW)
        replace HK := Lib.hid (HK.out _ hB)
        obtain ⟨x, hx⟩ : ∃ x, inN co rs s = x := ⟨_, rfl⟩
        obtain ⟨y, hy⟩ : ∃ y, inN co' rs' s = y := ⟨_, rfl⟩
        have HX := Lib.hid hx
        have HY := Lib.hid hy
        clear hx hy p1 p2 p3 hs1 hs2 hs3 q0 q1 q2 n1 n2 n3 hbW
        generalize w23 = W at *
        have HK : Hid (∀ wq, Below W.heap.size W wq → wq.cell? ⟨w.heap.size, 0, none⟩ = some (.bool co) ∧ wq.cell? ⟨w.heap.size, 1, none⟩ = some (.slice A n c) ∧ wq.cell? ⟨w.heap.size + 1, 0, none⟩ = some (.bool co') ∧ wq.cell? ⟨w.heap.size + 1, 1, none⟩ = some (.slice A' n' c') ∧ wq.cell? ⟨r1, 0, none⟩ = some (.bool g) ∧ wq.cell? ⟨r1, 1, none⟩ = some (.slice A1 m1.length c1) ∧ wq.cell? ⟨r2, 0, none⟩ = some (.bool f) ∧ wq.cell? ⟨r2, 1, none⟩ = some (.slice A2 m2.length c2) ∧ wq.cell? ⟨r3, 0, none⟩ = some (.bool nc) ∧ wq.cell? ⟨r3, 1, none⟩ = some (.slice A3 m3.length c3)) := by
          obtain ⟨a1, a2, b1, b2, _⟩ := HK.out
          exact Lib.hid (fun wq h => ⟨(h.cell (p := ⟨_, 0, none⟩) (by show w.heap.size < _; omega)).trans a1, (h.cell (p := ⟨_, 1, none⟩) (by show w.heap.size < _; omega)).trans a2, (h.cell (p := ⟨_, 0, none⟩) (by show w.heap.size + 1 < _; omega)).trans b1, (h.cell (p := ⟨_, 1, none⟩) (by show w.heap.size + 1 < _; omega)).trans b2, (h.cell (p := ⟨_, 0, none⟩) z1).trans d1, (h.cell (p := ⟨_, 1, none⟩) z1).trans d2, (h.cell (p := ⟨_, 0, none⟩) z2).trans d3, (h.cell (p := ⟨_, 1, none⟩) z2).trans d4, (h.cell (p := ⟨_, 0, none⟩) z3).trans d5, (h.cell (p := ⟨_, 1, none⟩) z3).trans d6⟩)
        clear d1 d2 d3 d4 d5 d6 z1 z2 z3 hz
        refine wp_region_held_drew (S := fun wq => wq.cell? ⟨w.heap.size, 0, none⟩ = some (.bool co) ∧ wq.cell? ⟨w.heap.size, 1, none⟩ = some (.slice A n c) ∧ wq.cell? ⟨w.heap.size + 1, 0, none⟩ = some (.bool co') ∧ wq.cell? ⟨w.heap.size + 1, 1, none⟩ = some (.slice A' n' c') ∧ wq.cell? ⟨r1, 0, none⟩ = some (.bool g) ∧ wq.cell? ⟨r1, 1, none⟩ = some (.slice A1 m1.length c1) ∧ wq.cell? ⟨r2, 0, none⟩ = some (.bool f) ∧ wq.cell? ⟨r2, 1, none⟩ = some (.slice A2 m2.length c2) ∧ wq.cell? ⟨r3, 0, none⟩ = some (.bool nc) ∧ wq.cell? ⟨r3, 1, none⟩ = some (.slice A3 m3.length c3)) (by kernel_rfl) (HK.out _ (Below.refl _ _).drew) (fun _ => ?_)
        have hB30 : Below W.heap.size W W.drew := (Below.refl _ _).drew
        refine take_op (i := 0) (v := _) rfl (by kernel_rfl) (by kernel_rfl) (by kernel_rfl) (fun _ _ _ h => h) (Or.inl ⟨by rfl, (by intro w hSw; (try dsimp only at hSw); go_simp; try with_reducible rfl)⟩) (HK.out _ hB30) ?_
        try simp only [Act.put, List.setIfInBounds_toArray, List.set_cons_zero, List.set_cons_succ]
        refine take_op (i := 1) (v := _) rfl (by kernel_rfl) (by kernel_rfl) (by kernel_rfl) (fun _ _ _ h => h) (Or.inl ⟨by rfl, (by intro w hSw; (try dsimp only at hSw); go_simp; try with_reducible rfl)⟩) (HK.out _ hB30) ?_
        try simp only [Act.put, List.setIfInBounds_toArray, List.set_cons_zero, List.set_cons_succ]
        refine take_op (i := 3) (v := _) rfl (by kernel_rfl) (by kernel_rfl) (by kernel_rfl) (fun _ _ _ h => h) (Or.inl ⟨by rfl, (by intro w hSw; (try dsimp only at hSw); go_simp; try with_reducible rfl)⟩) (HK.out _ hB30) ?_
        try simp only [Act.put, List.setIfInBounds_toArray, List.set_cons_zero, List.set_cons_succ]
        refine take_op (i := 4) (v := _) rfl (by kernel_rfl) (by kernel_rfl) (by kernel_rfl) (fun _ _ _ h => h) (Or.inl ⟨by rfl, (by intro w hSw; (try dsimp only at hSw); go_simp; try with_reducible rfl)⟩) (HK.out _ hB30) ?_
        try simp only [Act.put, List.setIfInBounds_toArray, List.set_cons_zero, List.set_cons_succ]
        refine one_op 2 (by kernel_rfl) rfl (by rfl) (fun K hK => ?_)
        go_simp
        refine (hasName_as co A n c rs s x _ (Ka.out _ hB30) (by omega) HX.out).mono ?_
        rintro e w31 ⟨rfl, hb31⟩
        have hB31 : Below W.heap.size W w31 := step_below hB30 (Nat.le_refl _) hb31
        clear hb31 hB30
        refine hK _ _ (HK.out _ hB31) ?_
        try simp only [Act.put, List.setIfInBounds_toArray, List.set_cons_zero, List.set_cons_succ]
        clear hK K
        refine one_op 5 (by kernel_rfl) rfl (by rfl) (fun K hK => ?_)
        go_simp
        refine (hasName_as co' A' n' c' rs' s y _ (Kb.out _ hB31) (by omega) HY.out).mono ?_
        rintro e w32 ⟨rfl, hb32⟩
        have hB32 : Below W.heap.size W w32 := step_below hB31 (Nat.le_refl _) hb32
        clear hb32 hB31
        refine hK _ _ (HK.out _ hB32) ?_
        try simp only [Act.put, List.setIfInBounds_toArray, List.set_cons_zero, List.set_cons_succ]
        clear hK K
        refine take_op (i := 6) (v := _) rfl (by kernel_rfl) (by kernel_rfl) (by kernel_rfl) (fun _ _ _ h => h) (Or.inl ⟨by rfl, (by intro w hSw; (try dsimp only at hSw); go_simp; try with_reducible rfl)⟩) (HK.out _ hB32) ?_
        try simp only [Act.put, List.setIfInBounds_toArray, List.set_cons_zero, List.set_cons_succ]
        refine take_op (i := 7) (v := _) rfl (by kernel_rfl) (by kernel_rfl) (by kernel_rfl) (fun _ _ _ h => h) (Or.inl ⟨by rfl, (by intro w hSw; (try dsimp only at hSw); go_simp; try with_reducible rfl)⟩) (HK.out _ hB32) ?_
        try simp only [Act.put, List.setIfInBounds_toArray, List.set_cons_zero, List.set_cons_succ]
        refine wpAnyH_done (by kernel_rfl) ?_ _
        go_wp2_with fail
        cases x <;> cases y
        · refine wp_region_held_drew (S := fun wq => wq.cell? ⟨w.heap.size, 0, none⟩ = some (.bool co) ∧ wq.cell? ⟨w.heap.size, 1, none⟩ = some (.slice A n c) ∧ wq.cell? ⟨w.heap.size + 1, 0, none⟩ = some (.bool co') ∧ wq.cell? ⟨w.heap.size + 1, 1, none⟩ = some (.slice A' n' c') ∧ wq.cell? ⟨r1, 0, none⟩ = some (.bool g) ∧ wq.cell? ⟨r1, 1, none⟩ = some (.slice A1 m1.length c1) ∧ wq.cell? ⟨r2, 0, none⟩ = some (.bool f) ∧ wq.cell? ⟨r2, 1, none⟩ = some (.slice A2 m2.length c2) ∧ wq.cell? ⟨r3, 0, none⟩ = some (.bool nc) ∧ wq.cell? ⟨r3, 1, none⟩ = some (.slice A3 m3.length c3)) (by kernel_rfl) (HK.out _ hB32.drew) (fun _ => ?_)
          have hB40 : Below W.heap.size W w32.drew := hB32.drew
          refine take_op (i := 0) (v := _) rfl (by kernel_rfl) (by kernel_rfl) (by kernel_rfl) (fun _ _ _ h => h) (Or.inl ⟨by rfl, (by intro w hSw; (try dsimp only at hSw); go_simp; try with_reducible rfl)⟩) (HK.out _ hB40) ?_
          try simp only [Act.put, List.setIfInBounds_toArray, List.set_cons_zero, List.set_cons_succ]
          refine one_op 1 (by kernel_rfl) rfl (by rfl) (fun K hK => ?_)
          go_simp
          refine (valid_yes g A1 m1.length c1 m1 _ _ (Ku.out _ hB40) (by omega) Qu.out).mono ?_
          rintro e w41 ⟨rfl, hb41⟩
          have hB41 : Below W.heap.size W w41 := step_below hB40 (Nat.le_refl _) hb41
          clear hb41 hB40
          refine hK _ _ (HK.out _ hB41) ?_
          try simp only [Act.put, List.setIfInBounds_toArray, List.set_cons_zero, List.set_cons_succ]
          clear hK K
          refine take_op (i := 2) (v := _) rfl (by kernel_rfl) (by kernel_rfl) (by kernel_rfl) (fun _ _ _ h => h) (Or.inl ⟨by rfl, (by intro w hSw; (try dsimp only at hSw); go_simp; try with_reducible rfl)⟩) (HK.out _ hB41) ?_
          try simp only [Act.put, List.setIfInBounds_toArray, List.set_cons_zero, List.set_cons_succ]
          refine take_op (i := 3) (v := _) rfl (by kernel_rfl) (by kernel_rfl) (by kernel_rfl) (fun _ _ _ h => h) (Or.inl ⟨by rfl, (by intro w hSw; (try dsimp only at hSw); go_simp; try with_reducible rfl)⟩) (HK.out _ hB41) ?_
          try simp only [Act.put, List.setIfInBounds_toArray, List.set_cons_zero, List.set_cons_succ]
          refine one_op 4 (by kernel_rfl) rfl (by rfl) (fun K hK => ?_)
          go_simp
          refine (valid_yes f A2 m2.length c2 m2 _ _ (Ki.out _ hB41) (by omega) Qi.out).mono ?_
          rintro e w42 ⟨rfl, hb42⟩
          have hB42 : Below W.heap.size W w42 := step_below hB41 (Nat.le_refl _) hb42
          clear hb42 hB41
          refine hK _ _ (HK.out _ hB42) ?_
          try simp only [Act.put, List.setIfInBounds_toArray, List.set_cons_zero, List.set_cons_succ]
          clear hK K
          refine take_op (i := 5) (v := _) rfl (by kernel_rfl) (by kernel_rfl) (by kernel_rfl) (fun _ _ _ h => h) (Or.inl ⟨by rfl, (by intro w hSw; (try dsimp only at hSw); go_simp; try with_reducible rfl)⟩) (HK.out _ hB42) ?_
          try simp only [Act.put, List.setIfInBounds_toArray, List.set_cons_zero, List.set_cons_succ]
          refine take_op (i := 6) (v := _) rfl (by kernel_rfl) (by kernel_rfl) (by kernel_rfl) (fun _ _ _ h => h) (Or.inl ⟨by rfl, (by intro w hSw; (try dsimp only at hSw); go_simp; try with_reducible rfl)⟩) (HK.out _ hB42) ?_
          try simp only [Act.put, List.setIfInBounds_toArray, List.set_cons_zero, List.set_cons_succ]
          refine take_op (i := 7) (v := _) rfl (by kernel_rfl) (by kernel_rfl) (by kernel_rfl) (fun _ _ _ h => h) (Or.inl ⟨by rfl, (by intro w hSw; (try dsimp only at hSw); go_simp; try with_reducible rfl)⟩) (HK.out _ hB42) ?_
          try simp only [Act.put, List.setIfInBounds_toArray, List.set_cons_zero, List.set_cons_succ]
          refine one_op 8 (by kernel_rfl) rfl (by rfl) (fun K hK => ?_)
          go_simp
          refine (valid_yes nc A3 m3.length c3 m3 _ _ (Kc.out _ hB42) (by omega) Qc.out).mono ?_
          rintro e w43 ⟨rfl, hb43⟩
          have hB43 : Below W.heap.size W w43 := step_below hB42 (Nat.le_refl _) hb43
          clear hb43 hB42
          refine hK _ _ (HK.out _ hB43) ?_
          try simp only [Act.put, List.setIfInBounds_toArray, List.set_cons_zero, List.set_cons_succ]
          clear hK K
          refine take_op (i := 9) (v := _) rfl (by kernel_rfl) (by kernel_rfl) (by kernel_rfl) (fun _ _ _ h => h) (Or.inl ⟨by rfl, (by intro w hSw; (try dsimp only at hSw); go_simp; try with_reducible rfl)⟩) (HK.out _ hB43) ?_
          try simp only [Act.put, List.setIfInBounds_toArray, List.set_cons_zero, List.set_cons_succ]
          refine take_op (i := 10) (v := _) rfl (by kernel_rfl) (by kernel_rfl) (by kernel_rfl) (fun _ _ _ h => h) (Or.inl ⟨by rfl, (by intro w hSw; (try dsimp only at hSw); go_simp; try with_reducible rfl)⟩) (HK.out _ hB43) ?_
          try simp only [Act.put, List.setIfInBounds_toArray, List.set_cons_zero, List.set_cons_succ]
          refine take_op (i := 11) (v := _) rfl (by kernel_rfl) (by kernel_rfl) (by kernel_rfl) (fun _ _ _ h => h) (Or.inl ⟨by rfl, (by intro w hSw; (try dsimp only at hSw); go_simp; try with_reducible rfl)⟩) (HK.out _ hB43) ?_
          try simp only [Act.put, List.setIfInBounds_toArray, List.set_cons_zero, List.set_cons_succ]
          refine take_op (i := 12) (v := _) rfl (by kernel_rfl) (by kernel_rfl) (by kernel_rfl) (fun _ _ _ h => h) (Or.inl ⟨by rfl, (by intro w hSw; (try dsimp only at hSw); go_simp; try with_reducible rfl)⟩) (HK.out _ hB43) ?_
          try simp only [Act.put, List.setIfInBounds_toArray, List.set_cons_zero, List.set_cons_succ]
          refine take_op (i := 14) (v := _) rfl (by kernel_rfl) (by kernel_rfl) (by kernel_rfl) (fun _ _ _ h => h) (Or.inl ⟨by rfl, (by intro w hSw; (try dsimp only at hSw); go_simp; try with_reducible rfl)⟩) (HK.out _ hB43) ?_
          try simp only [Act.put, List.setIfInBounds_toArray, List.set_cons_zero, List.set_cons_succ]
          refine one_op 13 (by kernel_rfl) rfl (by rfl) (fun K hK => ?_)
          go_simp
          refine (contains_as g A1 m1.length c1 m1 s false _ (Ku.out _ hB43) (by omega) ((Qu.out.2 s).trans (or_vals HX.out HY.out))).mono ?_
          rintro e w44 ⟨rfl, hb44⟩
          have hB44 : Below W.heap.size W w44 := step_below hB43 (Nat.le_refl _) hb44
          clear hb44 hB43
          refine hK _ _ (HK.out _ hB44) ?_
          try simp only [Act.put, List.setIfInBounds_toArray, List.set_cons_zero, List.set_cons_succ]
          clear hK K
          refine take_op (i := 15) (v := _) rfl (by kernel_rfl) (by kernel_rfl) (by kernel_rfl) (fun _ _ _ h => h) (Or.inl ⟨by rfl, (by intro w hSw; (try dsimp only at hSw); go_simp; try with_reducible rfl)⟩) (HK.out _ hB44) ?_
          try simp only [Act.put, List.setIfInBounds_toArray, List.set_cons_zero, List.set_cons_succ]
          refine take_op (i := 16) (v := _) rfl (by kernel_rfl) (by kernel_rfl) (by kernel_rfl) (fun _ _ _ h => h) (Or.inl ⟨by rfl, (by intro w hSw; (try dsimp only at hSw); go_simp; try with_reducible rfl)⟩) (HK.out _ hB44) ?_
          try simp only [Act.put, List.setIfInBounds_toArray, List.set_cons_zero, List.set_cons_succ]
          refine take_op (i := 17) (v := _) rfl (by kernel_rfl) (by kernel_rfl) (by kernel_rfl) (fun _ _ _ h => h) (Or.inl ⟨by rfl, (by intro w hSw; (try dsimp only at hSw); go_simp; try with_reducible rfl)⟩) (HK.out _ hB44) ?_
          try simp only [Act.put, List.setIfInBounds_toArray, List.set_cons_zero, List.set_cons_succ]
          refine take_op (i := 18) (v := _) rfl (by kernel_rfl) (by kernel_rfl) (by kernel_rfl) (fun _ _ _ h => h) (Or.inl ⟨by rfl, (by intro w hSw; (try dsimp only at hSw); go_simp; try with_reducible rfl)⟩) (HK.out _ hB44) ?_
          try simp only [Act.put, List.setIfInBounds_toArray, List.set_cons_zero, List.set_cons_succ]
          refine take_op (i := 19) (v := _) rfl (by kernel_rfl) (by kernel_rfl) (by kernel_rfl) (fun _ _ _ h => h) (Or.inl ⟨by rfl, (by intro w hSw; (try dsimp only at hSw); go_simp; try with_reducible rfl)⟩) (HK.out _ hB44) ?_
          try simp only [Act.put, List.setIfInBounds_toArray, List.set_cons_zero, List.set_cons_succ]
          refine take_op (i := 20) (v := _) rfl (by kernel_rfl) (by kernel_rfl) (by kernel_rfl) (fun _ _ _ h => h) (Or.inl ⟨by rfl, (by intro w hSw; (try dsimp only at hSw); go_simp; try with_reducible rfl)⟩) (HK.out _ hB44) ?_
          try simp only [Act.put, List.setIfInBounds_toArray, List.set_cons_zero, List.set_cons_succ]
          refine take_op (i := 21) (v := _) rfl (by kernel_rfl) (by kernel_rfl) (by kernel_rfl) (fun _ _ _ h => h) (Or.inl ⟨by rfl, (by intro w hSw; (try dsimp only at hSw); go_simp; try with_reducible rfl)⟩) (HK.out _ hB44) ?_
          try simp only [Act.put, List.setIfInBounds_toArray, List.set_cons_zero, List.set_cons_succ]
          refine take_op (i := 22) (v := _) rfl (by kernel_rfl) (by kernel_rfl) (by kernel_rfl) (fun _ _ _ h => h) (Or.inl ⟨by rfl, (by intro w hSw; (try dsimp only at hSw); go_simp; try with_reducible rfl)⟩) (HK.out _ hB44) ?_
          try simp only [Act.put, List.setIfInBounds_toArray, List.set_cons_zero, List.set_cons_succ]
          refine take_op (i := 24) (v := _) rfl (by kernel_rfl) (by kernel_rfl) (by kernel_rfl) (fun _ _ _ h => h) (Or.inl ⟨by rfl, (by intro w hSw; (try dsimp only at hSw); go_simp; try with_reducible rfl)⟩) (HK.out _ hB44) ?_
          try simp only [Act.put, List.setIfInBounds_toArray, List.set_cons_zero, List.set_cons_succ]
          refine one_op 23 (by kernel_rfl) rfl (by rfl) (fun K hK => ?_)
          go_simp
          refine (contains_as f A2 m2.length c2 m2 s false _ (Ki.out _ hB44) (by omega) ((Qi.out.2 s).trans (and_vals HX.out HY.out))).mono ?_
          rintro e w45 ⟨rfl, hb45⟩
          have hB45 : Below W.heap.size W w45 := step_below hB44 (Nat.le_refl _) hb45
          clear hb45 hB44
          refine hK _ _ (HK.out _ hB45) ?_
          try simp only [Act.put, List.setIfInBounds_toArray, List.set_cons_zero, List.set_cons_succ]
          clear hK K
          refine take_op (i := 25) (v := _) rfl (by kernel_rfl) (by kernel_rfl) (by kernel_rfl) (fun _ _ _ h => h) (Or.inl ⟨by rfl, (by intro w hSw; (try dsimp only at hSw); go_simp; try with_reducible rfl)⟩) (HK.out _ hB45) ?_
          try simp only [Act.put, List.setIfInBounds_toArray, List.set_cons_zero, List.set_cons_succ]
          refine take_op (i := 26) (v := undef) rfl (by kernel_rfl) (by kernel_rfl) (by kernel_rfl) (fun _ _ _ h => h) (Or.inr ⟨by rfl, rfl⟩) (HK.out _ hB45) ?_
          try simp only [Act.put, List.setIfInBounds_toArray, List.set_cons_zero, List.set_cons_succ]
          refine take_op (i := 27) (v := _) rfl (by kernel_rfl) (by kernel_rfl) (by kernel_rfl) (fun _ _ _ h => h) (Or.inl ⟨by rfl, (by intro w hSw; (try dsimp only at hSw); go_simp; try with_reducible rfl)⟩) (HK.out _ hB45) ?_
          try simp only [Act.put, List.setIfInBounds_toArray, List.set_cons_zero, List.set_cons_succ]
          refine take_op (i := 28) (v := _) rfl (by kernel_rfl) (by kernel_rfl) (by kernel_rfl) (fun _ _ _ h => h) (Or.inl ⟨by rfl, (by intro w hSw; (try dsimp only at hSw); go_simp; try with_reducible rfl)⟩) (HK.out _ hB45) ?_
          try simp only [Act.put, List.setIfInBounds_toArray, List.set_cons_zero, List.set_cons_succ]
          refine take_op (i := 29) (v := _) rfl (by kernel_rfl) (by kernel_rfl) (by kernel_rfl) (fun _ _ _ h => h) (Or.inl ⟨by rfl, (by intro w hSw; (try dsimp only at hSw); go_simp; try with_reducible rfl)⟩) (HK.out _ hB45) ?_
          try simp only [Act.put, List.setIfInBounds_toArray, List.set_cons_zero, List.set_cons_succ]
          refine take_op (i := 30) (v := _) rfl (by kernel_rfl) (by kernel_rfl) (by kernel_rfl) (fun _ _ _ h => h) (Or.inl ⟨by rfl, (by intro w hSw; (try dsimp only at hSw); go_simp; try with_reducible rfl)⟩) (HK.out _ hB45) ?_
          try simp only [Act.put, List.setIfInBounds_toArray, List.set_cons_zero, List.set_cons_succ]
          refine take_op (i := 31) (v := _) rfl (by kernel_rfl) (by kernel_rfl) (by kernel_rfl) (fun _ _ _ h => h) (Or.inl ⟨by rfl, (by intro w hSw; (try dsimp only at hSw); go_simp; try with_reducible rfl)⟩) (HK.out _ hB45) ?_
          try simp only [Act.put, List.setIfInBounds_toArray, List.set_cons_zero, List.set_cons_succ]
          refine take_op (i := 32) (v := _) rfl (by kernel_rfl) (by kernel_rfl) (by kernel_rfl) (fun _ _ _ h => h) (Or.inl ⟨by rfl, (by intro w hSw; (try dsimp only at hSw); go_simp; try with_reducible rfl)⟩) (HK.out _ hB45) ?_
          try simp only [Act.put, List.setIfInBounds_toArray, List.set_cons_zero, List.set_cons_succ]
          refine take_op (i := 34) (v := _) rfl (by kernel_rfl) (by kernel_rfl) (by kernel_rfl) (fun _ _ _ h => h) (Or.inl ⟨by rfl, (by intro w hSw; (try dsimp only at hSw); go_simp; try with_reducible rfl)⟩) (HK.out _ hB45) ?_
          try simp only [Act.put, List.setIfInBounds_toArray, List.set_cons_zero, List.set_cons_succ]
          refine take_op (i := 35) (v := _) rfl (by kernel_rfl) (by kernel_rfl) (by kernel_rfl) (fun _ _ _ h => h) (Or.inl ⟨by rfl, (by intro w hSw; (try dsimp only at hSw); go_simp; try with_reducible rfl)⟩) (HK.out _ hB45) ?_
          try simp only [Act.put, List.setIfInBounds_toArray, List.set_cons_zero, List.set_cons_succ]
          refine one_op 33 (by kernel_rfl) rfl (by rfl) (fun K hK => ?_)
          go_simp
          refine (contains_as nc A3 m3.length c3 m3 s true _ (Kc.out _ hB45) (by omega) ((Qc.out.2 s).trans ((inN_neg HN.out rs s).trans (congrArg not HX.out)))).mono ?_
          rintro e w46 ⟨rfl, hb46⟩
          have hB46 : Below W.heap.size W w46 := step_below hB45 (Nat.le_refl _) hb46
          clear hb46 hB45
          refine hK _ _ (HK.out _ hB46) ?_
          try simp only [Act.put, List.setIfInBounds_toArray, List.set_cons_zero, List.set_cons_succ]
          clear hK K
          refine take_op (i := 36) (v := _) rfl (by kernel_rfl) (by kernel_rfl) (by kernel_rfl) (fun _ _ _ h => h) (Or.inl ⟨by rfl, (by intro w hSw; (try dsimp only at hSw); go_simp; try with_reducible rfl)⟩) (HK.out _ hB46) ?_
          try simp only [Act.put, List.setIfInBounds_toArray, List.set_cons_zero, List.set_cons_succ]
          refine take_op (i := 37) (v := _) rfl (by kernel_rfl) (by kernel_rfl) (by kernel_rfl) (fun _ _ _ h => h) (Or.inl ⟨by rfl, (by intro w hSw; (try dsimp only at hSw); go_simp; try with_reducible rfl)⟩) (HK.out _ hB46) ?_
          try simp only [Act.put, List.setIfInBounds_toArray, List.set_cons_zero, List.set_cons_succ]
          refine take_op (i := 38) (v := _) rfl (by kernel_rfl) (by kernel_rfl) (by kernel_rfl) (fun _ _ _ h => h) (Or.inl ⟨by rfl, (by intro w hSw; (try dsimp only at hSw); go_simp; try with_reducible rfl)⟩) (HK.out _ hB46) ?_
          try simp only [Act.put, List.setIfInBounds_toArray, List.set_cons_zero, List.set_cons_succ]
          refine take_op (i := 39) (v := _) rfl (by kernel_rfl) (by kernel_rfl) (by kernel_rfl) (fun _ _ _ h => h) (Or.inl ⟨by rfl, (by intro w hSw; (try dsimp only at hSw); go_simp; try with_reducible rfl)⟩) (HK.out _ hB46) ?_
          try simp only [Act.put, List.setIfInBounds_toArray, List.set_cons_zero, List.set_cons_succ]
          refine take_op (i := 40) (v := _) rfl (by kernel_rfl) (by kernel_rfl) (by kernel_rfl) (fun _ _ _ h => h) (Or.inl ⟨by rfl, (by intro w hSw; (try dsimp only at hSw); go_simp; try with_reducible rfl)⟩) (HK.out _ hB46) ?_
          try simp only [Act.put, List.setIfInBounds_toArray, List.set_cons_zero, List.set_cons_succ]
          refine take_op (i := 41) (v := _) rfl (by kernel_rfl) (by kernel_rfl) (by kernel_rfl) (fun _ _ _ h => h) (Or.inl ⟨by rfl, (by intro w hSw; (try dsimp only at hSw); go_simp; try with_reducible rfl)⟩) (HK.out _ hB46) ?_
          try simp only [Act.put, List.setIfInBounds_toArray, List.set_cons_zero, List.set_cons_succ]
          refine one_op 42 (by kernel_rfl) rfl (by rfl) (fun K hK => ?_)
          go_simp
          refine (unionNames_as co co' g A A' n c n' c' rs rs' _ (Ka.out _ hB46) (Kb.out _ hB46) (by omega) (by omega) HG.out).mono ?_
          rintro e w47 ⟨m47, A47, c47, rfl, ho47, hs47, hq47, hk47, hb47⟩
          have hB47 : Below W.heap.size W w47 := step_below hB46 (Nat.le_refl _) hb47
          have K47 := kept_set ho47 hs47
          have Q47 := Lib.hid hq47
          have t47_47 : Below w47.heap.size w47 w47 := Below.refl _ _
          clear ho47 hq47
          clear hb47 hB46
          refine hK _ _ (HK.out _ hB47) ?_
          try simp only [Act.put, List.setIfInBounds_toArray, List.set_cons_zero, List.set_cons_succ]
          clear hK K
          refine one_op 43 (by kernel_rfl) rfl (by rfl) (fun K hK => ?_)
          go_simp
          refine (same_yes g g A1 A47 m1.length m47.length c1 c47 m1 m47 _ (Ku.out _ hB47) (K47 _ t47_47) (by omega) (by omega) rfl (isSet_unique Qu.out Q47.out fun _ => rfl)).mono ?_
          rintro e w48 ⟨rfl, hb48⟩
          have hB48 : Below W.heap.size W w48 := step_below hB47 (Nat.le_refl _) hb48
          have t47_48 := step_on t47_47 hb48
          clear hb48 hB47 t47_47
          refine hK _ _ (HK.out _ hB48) ?_
          try simp only [Act.put, List.setIfInBounds_toArray, List.set_cons_zero, List.set_cons_succ]
          clear hK K
          refine take_op (i := 44) (v := _) rfl (by kernel_rfl) (by kernel_rfl) (by kernel_rfl) (fun _ _ _ h => h) (Or.inl ⟨by rfl, (by intro w hSw; (try dsimp only at hSw); go_simp; try with_reducible rfl)⟩) (HK.out _ hB48) ?_
          try simp only [Act.put, List.setIfInBounds_toArray, List.set_cons_zero, List.set_cons_succ]
          refine take_op (i := 45) (v := _) rfl (by kernel_rfl) (by kernel_rfl) (by kernel_rfl) (fun _ _ _ h => h) (Or.inl ⟨by rfl, (by intro w hSw; (try dsimp only at hSw); go_simp; try with_reducible rfl)⟩) (HK.out _ hB48) ?_
          try simp only [Act.put, List.setIfInBounds_toArray, List.set_cons_zero, List.set_cons_succ]
          refine take_op (i := 46) (v := _) rfl (by kernel_rfl) (by kernel_rfl) (by kernel_rfl) (fun _ _ _ h => h) (Or.inl ⟨by rfl, (by intro w hSw; (try dsimp only at hSw); go_simp; try with_reducible rfl)⟩) (HK.out _ hB48) ?_
          try simp only [Act.put, List.setIfInBounds_toArray, List.set_cons_zero, List.set_cons_succ]
          refine take_op (i := 47) (v := _) rfl (by kernel_rfl) (by kernel_rfl) (by kernel_rfl) (fun _ _ _ h => h) (Or.inl ⟨by rfl, (by intro w hSw; (try dsimp only at hSw); go_simp; try with_reducible rfl)⟩) (HK.out _ hB48) ?_
          try simp only [Act.put, List.setIfInBounds_toArray, List.set_cons_zero, List.set_cons_succ]
          refine take_op (i := 48) (v := _) rfl (by kernel_rfl) (by kernel_rfl) (by kernel_rfl) (fun _ _ _ h => h) (Or.inl ⟨by rfl, (by intro w hSw; (try dsimp only at hSw); go_simp; try with_reducible rfl)⟩) (HK.out _ hB48) ?_
          try simp only [Act.put, List.setIfInBounds_toArray, List.set_cons_zero, List.set_cons_succ]
          refine one_op 49 (by kernel_rfl) rfl (by rfl) (fun K hK => ?_)
          go_simp
          refine (intersectNames_as co co' f A A' n c n' c' rs rs' _ (Ka.out _ hB48) (Kb.out _ hB48) (by omega) (by omega) HF.out).mono ?_
          rintro e w49 ⟨m49, A49, c49, rfl, ho49, hs49, hq49, hk49, hb49⟩
          have hB49 : Below W.heap.size W w49 := step_below hB48 (Nat.le_refl _) hb49
          have t47_49 := step_on t47_48 hb49
          have K49 := kept_set ho49 hs49
          have Q49 := Lib.hid hq49
          have t49_49 : Below w49.heap.size w49 w49 := Below.refl _ _
          clear ho49 hq49
          clear hb49 hB48 t47_48
          refine hK _ _ (HK.out _ hB49) ?_
          try simp only [Act.put, List.setIfInBounds_toArray, List.set_cons_zero, List.set_cons_succ]
          clear hK K
          refine one_op 50 (by kernel_rfl) rfl (by rfl) (fun K hK => ?_)
          go_simp
          refine (same_yes f f A2 A49 m2.length m49.length c2 c49 m2 m49 _ (Ki.out _ hB49) (K49 _ t49_49) (by omega) (by omega) rfl (isSet_unique Qi.out Q49.out fun _ => rfl)).mono ?_
          rintro e w50 ⟨rfl, hb50⟩
          have hB50 : Below W.heap.size W w50 := step_below hB49 (Nat.le_refl _) hb50
          have t47_50 := step_on t47_49 hb50
          have t49_50 := step_on t49_49 hb50
          clear hb50 hB49 t47_49 t49_49
          refine hK _ _ (HK.out _ hB50) ?_
          try simp only [Act.put, List.setIfInBounds_toArray, List.set_cons_zero, List.set_cons_succ]
          clear hK K
          refine take_op (i := 51) (v := _) rfl (by kernel_rfl) (by kernel_rfl) (by kernel_rfl) (fun _ _ _ h => h) (Or.inl ⟨by rfl, (by intro w hSw; (try dsimp only at hSw); go_simp; try with_reducible rfl)⟩) (HK.out _ hB50) ?_
          try simp only [Act.put, List.setIfInBounds_toArray, List.set_cons_zero, List.set_cons_succ]
          refine take_op (i := 52) (v := _) rfl (by kernel_rfl) (by kernel_rfl) (by kernel_rfl) (fun _ _ _ h => h) (Or.inl ⟨by rfl, (by intro w hSw; (try dsimp only at hSw); go_simp; try with_reducible rfl)⟩) (HK.out _ hB50) ?_
          try simp only [Act.put, List.setIfInBounds_toArray, List.set_cons_zero, List.set_cons_succ]
          refine one_op 53 (by kernel_rfl) rfl (by rfl) (fun K hK => ?_)
          go_simp
          refine (awake_any _).mono ?_
          rintro e w51 ⟨rfl, hb51⟩
          have hB51 : Below W.heap.size W w51 := step_below hB50 (Nat.le_refl _) hb51
          have t47_51 := step_on t47_50 hb51
          have t49_51 := step_on t49_50 hb51
          clear hb51 hB50 t47_50 t49_50
          refine hK _ _ (HK.out _ hB51) ?_
          try simp only [Act.put, List.setIfInBounds_toArray, List.set_cons_zero, List.set_cons_succ]
          clear hK K
          refine take_op (i := 54) (v := _) rfl (by kernel_rfl) (by kernel_rfl) (by kernel_rfl) (fun _ _ _ h => h) (Or.inl ⟨by rfl, (by intro w hSw; (try dsimp only at hSw); go_simp; try with_reducible rfl)⟩) (HK.out _ hB51) ?_
          try simp only [Act.put, List.setIfInBounds_toArray, List.set_cons_zero, List.set_cons_succ]
          refine take_op (i := 55) (v := _) rfl (by kernel_rfl) (by kernel_rfl) (by kernel_rfl) (fun _ _ _ h => h) (Or.inl ⟨by rfl, (by intro w hSw; (try dsimp only at hSw); go_simp; try with_reducible rfl)⟩) (HK.out _ hB51) ?_
          try simp only [Act.put, List.setIfInBounds_toArray, List.set_cons_zero, List.set_cons_succ]
          refine wpAnyH_done (by kernel_rfl) ?_ _
          go_wp2
          go_ret
          exact ⟨rfl, HBW.out.trans (hB51.mono HBW.out.size)⟩
        · refine wp_region_held_drew (S := fun wq => wq.cell? ⟨w.heap.size, 0, none⟩ = some (.bool co) ∧ wq.cell? ⟨w.heap.size, 1, none⟩ = some (.slice A n c) ∧ wq.cell? ⟨w.heap.size + 1, 0, none⟩ = some (.bool co') ∧ wq.cell? ⟨w.heap.size + 1, 1, none⟩ = some (.slice A' n' c') ∧ wq.cell? ⟨r1, 0, none⟩ = some (.bool g) ∧ wq.cell? ⟨r1, 1, none⟩ = some (.slice A1 m1.length c1) ∧ wq.cell? ⟨r2, 0, none⟩ = some (.bool f) ∧ wq.cell? ⟨r2, 1, none⟩ = some (.slice A2 m2.length c2) ∧ wq.cell? ⟨r3, 0, none⟩ = some (.bool nc) ∧ wq.cell? ⟨r3, 1, none⟩ = some (.slice A3 m3.length c3)) (by kernel_rfl) (HK.out _ hB32.drew) (fun _ => ?_)
          have hB40 : Below W.heap.size W w32.drew := hB32.drew
          refine take_op (i := 0) (v := _) rfl (by kernel_rfl) (by kernel_rfl) (by kernel_rfl) (fun _ _ _ h => h) (Or.inl ⟨by rfl, (by intro w hSw; (try dsimp only at hSw); go_simp; try with_reducible rfl)⟩) (HK.out _ hB40) ?_
          try simp only [Act.put, List.setIfInBounds_toArray, List.set_cons_zero, List.set_cons_succ]
          refine one_op 1 (by kernel_rfl) rfl (by rfl) (fun K hK => ?_)
          go_simp
          refine (valid_yes g A1 m1.length c1 m1 _ _ (Ku.out _ hB40) (by omega) Qu.out).mono ?_
          rintro e w41 ⟨rfl, hb41⟩
          have hB41 : Below W.heap.size W w41 := step_below hB40 (Nat.le_refl _) hb41
          clear hb41 hB40
          refine hK _ _ (HK.out _ hB41) ?_
          try simp only [Act.put, List.setIfInBounds_toArray, List.set_cons_zero, List.set_cons_succ]
          clear hK K
          refine take_op (i := 2) (v := _) rfl (by kernel_rfl) (by kernel_rfl) (by kernel_rfl) (fun _ _ _ h => h) (Or.inl ⟨by rfl, (by intro w hSw; (try dsimp only at hSw); go_simp; try with_reducible rfl)⟩) (HK.out _ hB41) ?_
          try simp only [Act.put, List.setIfInBounds_toArray, List.set_cons_zero, List.set_cons_succ]
          refine take_op (i := 3) (v := _) rfl (by kernel_rfl) (by kernel_rfl) (by kernel_rfl) (fun _ _ _ h => h) (Or.inl ⟨by rfl, (by intro w hSw; (try dsimp only at hSw); go_simp; try with_reducible rfl)⟩) (HK.out _ hB41) ?_
          try simp only [Act.put, List.setIfInBounds_toArray, List.set_cons_zero, List.set_cons_succ]
          refine one_op 4 (by kernel_rfl) rfl (by rfl) (fun K hK => ?_)
          go_simp
          refine (valid_yes f A2 m2.length c2 m2 _ _ (Ki.out _ hB41) (by omega) Qi.out).mono ?_
          rintro e w42 ⟨rfl, hb42⟩
          have hB42 : Below W.heap.size W w42 := step_below hB41 (Nat.le_refl _) hb42
          clear hb42 hB41
          refine hK _ _ (HK.out _ hB42) ?_
          try simp only [Act.put, List.setIfInBounds_toArray, List.set_cons_zero, List.set_cons_succ]
          clear hK K
          refine take_op (i := 5) (v := _) rfl (by kernel_rfl) (by kernel_rfl) (by kernel_rfl) (fun _ _ _ h => h) (Or.inl ⟨by rfl, (by intro w hSw; (try dsimp only at hSw); go_simp; try with_reducible rfl)⟩) (HK.out _ hB42) ?_
          try simp only [Act.put, List.setIfInBounds_toArray, List.set_cons_zero, List.set_cons_succ]
          refine take_op (i := 6) (v := _) rfl (by kernel_rfl) (by kernel_rfl) (by kernel_rfl) (fun _ _ _ h => h) (Or.inl ⟨by rfl, (by intro w hSw; (try dsimp only at hSw); go_simp; try with_reducible rfl)⟩) (HK.out _ hB42) ?_
          try simp only [Act.put, List.setIfInBounds_toArray, List.set_cons_zero, List.set_cons_succ]
          refine take_op (i := 7) (v := _) rfl (by kernel_rfl) (by kernel_rfl) (by kernel_rfl) (fun _ _ _ h => h) (Or.inl ⟨by rfl, (by intro w hSw; (try dsimp only at hSw); go_simp; try with_reducible rfl)⟩) (HK.out _ hB42) ?_
          try simp only [Act.put, List.setIfInBounds_toArray, List.set_cons_zero, List.set_cons_succ]
          refine one_op 8 (by kernel_rfl) rfl (by rfl) (fun K hK => ?_)
          go_simp
          refine (valid_yes nc A3 m3.length c3 m3 _ _ (Kc.out _ hB42) (by omega) Qc.out).mono ?_
          rintro e w43 ⟨rfl, hb43⟩
          have hB43 : Below W.heap.size W w43 := step_below hB42 (Nat.le_refl _) hb43
          clear hb43 hB42
          refine hK _ _ (HK.out _ hB43) ?_
          try simp only [Act.put, List.setIfInBounds_toArray, List.set_cons_zero, List.set_cons_succ]
          clear hK K
          refine take_op (i := 9) (v := _) rfl (by kernel_rfl) (by kernel_rfl) (by kernel_rfl) (fun _ _ _ h => h) (Or.inl ⟨by rfl, (by intro w hSw; (try dsimp only at hSw); go_simp; try with_reducible rfl)⟩) (HK.out _ hB43) ?_
          try simp only [Act.put, List.setIfInBounds_toArray, List.set_cons_zero, List.set_cons_succ]
          refine take_op (i := 10) (v := _) rfl (by kernel_rfl) (by kernel_rfl) (by kernel_rfl) (fun _ _ _ h => h) (Or.inl ⟨by rfl, (by intro w hSw; (try dsimp only at hSw); go_simp; try with_reducible rfl)⟩) (HK.out _ hB43) ?_
          try simp only [Act.put, List.setIfInBounds_toArray, List.set_cons_zero, List.set_cons_succ]
          refine take_op (i := 11) (v := _) rfl (by kernel_rfl) (by kernel_rfl) (by kernel_rfl) (fun _ _ _ h => h) (Or.inl ⟨by rfl, (by intro w hSw; (try dsimp only at hSw); go_simp; try with_reducible rfl)⟩) (HK.out _ hB43) ?_
          try simp only [Act.put, List.setIfInBounds_toArray, List.set_cons_zero, List.set_cons_succ]
          refine take_op (i := 12) (v := _) rfl (by kernel_rfl) (by kernel_rfl) (by kernel_rfl) (fun _ _ _ h => h) (Or.inl ⟨by rfl, (by intro w hSw; (try dsimp only at hSw); go_simp; try with_reducible rfl)⟩) (HK.out _ hB43) ?_
          try simp only [Act.put, List.setIfInBounds_toArray, List.set_cons_zero, List.set_cons_succ]
          refine take_op (i := 14) (v := _) rfl (by kernel_rfl) (by kernel_rfl) (by kernel_rfl) (fun _ _ _ h => h) (Or.inl ⟨by rfl, (by intro w hSw; (try dsimp only at hSw); go_simp; try with_reducible rfl)⟩) (HK.out _ hB43) ?_
          try simp only [Act.put, List.setIfInBounds_toArray, List.set_cons_zero, List.set_cons_succ]
          refine one_op 13 (by kernel_rfl) rfl (by rfl) (fun K hK => ?_)
          go_simp
          refine (contains_as g A1 m1.length c1 m1 s true _ (Ku.out _ hB43) (by omega) ((Qu.out.2 s).trans (or_vals HX.out HY.out))).mono ?_
          rintro e w44 ⟨rfl, hb44⟩
          have hB44 : Below W.heap.size W w44 := step_below hB43 (Nat.le_refl _) hb44
          clear hb44 hB43
          refine hK _ _ (HK.out _ hB44) ?_
          try simp only [Act.put, List.setIfInBounds_toArray, List.set_cons_zero, List.set_cons_succ]
          clear hK K
          refine take_op (i := 15) (v := _) rfl (by kernel_rfl) (by kernel_rfl) (by kernel_rfl) (fun _ _ _ h => h) (Or.inl ⟨by rfl, (by intro w hSw; (try dsimp only at hSw); go_simp; try with_reducible rfl)⟩) (HK.out _ hB44) ?_
          try simp only [Act.put, List.setIfInBounds_toArray, List.set_cons_zero, List.set_cons_succ]
          refine take_op (i := 16) (v := _) rfl (by kernel_rfl) (by kernel_rfl) (by kernel_rfl) (fun _ _ _ h => h) (Or.inl ⟨by rfl, (by intro w hSw; (try dsimp only at hSw); go_simp; try with_reducible rfl)⟩) (HK.out _ hB44) ?_
          try simp only [Act.put, List.setIfInBounds_toArray, List.set_cons_zero, List.set_cons_succ]
          refine take_op (i := 17) (v := _) rfl (by kernel_rfl) (by kernel_rfl) (by kernel_rfl) (fun _ _ _ h => h) (Or.inl ⟨by rfl, (by intro w hSw; (try dsimp only at hSw); go_simp; try with_reducible rfl)⟩) (HK.out _ hB44) ?_
          try simp only [Act.put, List.setIfInBounds_toArray, List.set_cons_zero, List.set_cons_succ]
          refine take_op (i := 18) (v := _) rfl (by kernel_rfl) (by kernel_rfl) (by kernel_rfl) (fun _ _ _ h => h) (Or.inl ⟨by rfl, (by intro w hSw; (try dsimp only at hSw); go_simp; try with_reducible rfl)⟩) (HK.out _ hB44) ?_
          try simp only [Act.put, List.setIfInBounds_toArray, List.set_cons_zero, List.set_cons_succ]
          refine take_op (i := 19) (v := _) rfl (by kernel_rfl) (by kernel_rfl) (by kernel_rfl) (fun _ _ _ h => h) (Or.inl ⟨by rfl, (by intro w hSw; (try dsimp only at hSw); go_simp; try with_reducible rfl)⟩) (HK.out _ hB44) ?_
          try simp only [Act.put, List.setIfInBounds_toArray, List.set_cons_zero, List.set_cons_succ]
          refine take_op (i := 20) (v := _) rfl (by kernel_rfl) (by kernel_rfl) (by kernel_rfl) (fun _ _ _ h => h) (Or.inl ⟨by rfl, (by intro w hSw; (try dsimp only at hSw); go_simp; try with_reducible rfl)⟩) (HK.out _ hB44) ?_
          try simp only [Act.put, List.setIfInBounds_toArray, List.set_cons_zero, List.set_cons_succ]
          refine take_op (i := 21) (v := _) rfl (by kernel_rfl) (by kernel_rfl) (by kernel_rfl) (fun _ _ _ h => h) (Or.inl ⟨by rfl, (by intro w hSw; (try dsimp only at hSw); go_simp; try with_reducible rfl)⟩) (HK.out _ hB44) ?_
          try simp only [Act.put, List.setIfInBounds_toArray, List.set_cons_zero, List.set_cons_succ]
          refine take_op (i := 22) (v := _) rfl (by kernel_rfl) (by kernel_rfl) (by kernel_rfl) (fun _ _ _ h => h) (Or.inl ⟨by rfl, (by intro w hSw; (try dsimp only at hSw); go_simp; try with_reducible rfl)⟩) (HK.out _ hB44) ?_
          try simp only [Act.put, List.setIfInBounds_toArray, List.set_cons_zero, List.set_cons_succ]
          refine take_op (i := 24) (v := _) rfl (by kernel_rfl) (by kernel_rfl) (by kernel_rfl) (fun _ _ _ h => h) (Or.inl ⟨by rfl, (by intro w hSw; (try dsimp only at hSw); go_simp; try with_reducible rfl)⟩) (HK.out _ hB44) ?_
          try simp only [Act.put, List.setIfInBounds_toArray, List.set_cons_zero, List.set_cons_succ]
          refine one_op 23 (by kernel_rfl) rfl (by rfl) (fun K hK => ?_)
          go_simp
          refine (contains_as f A2 m2.length c2 m2 s false _ (Ki.out _ hB44) (by omega) ((Qi.out.2 s).trans (and_vals HX.out HY.out))).mono ?_
          rintro e w45 ⟨rfl, hb45⟩
          have hB45 : Below W.heap.size W w45 := step_below hB44 (Nat.le_refl _) hb45
          clear hb45 hB44
          refine hK _ _ (HK.out _ hB45) ?_
          try simp only [Act.put, List.setIfInBounds_toArray, List.set_cons_zero, List.set_cons_succ]
          clear hK K
          refine take_op (i := 25) (v := _) rfl (by kernel_rfl) (by kernel_rfl) (by kernel_rfl) (fun _ _ _ h => h) (Or.inl ⟨by rfl, (by intro w hSw; (try dsimp only at hSw); go_simp; try with_reducible rfl)⟩) (HK.out _ hB45) ?_
          try simp only [Act.put, List.setIfInBounds_toArray, List.set_cons_zero, List.set_cons_succ]
          refine take_op (i := 26) (v := undef) rfl (by kernel_rfl) (by kernel_rfl) (by kernel_rfl) (fun _ _ _ h => h) (Or.inr ⟨by rfl, rfl⟩) (HK.out _ hB45) ?_
          try simp only [Act.put, List.setIfInBounds_toArray, List.set_cons_zero, List.set_cons_succ]
          refine take_op (i := 27) (v := _) rfl (by kernel_rfl) (by kernel_rfl) (by kernel_rfl) (fun _ _ _ h => h) (Or.inl ⟨by rfl, (by intro w hSw; (try dsimp only at hSw); go_simp; try with_reducible rfl)⟩) (HK.out _ hB45) ?_
          try simp only [Act.put, List.setIfInBounds_toArray, List.set_cons_zero, List.set_cons_succ]
          refine take_op (i := 28) (v := _) rfl (by kernel_rfl) (by kernel_rfl) (by kernel_rfl) (fun _ _ _ h => h) (Or.inl ⟨by rfl, (by intro w hSw; (try dsimp only at hSw); go_simp; try with_reducible rfl)⟩) (HK.out _ hB45) ?_
          try simp only [Act.put, List.setIfInBounds_toArray, List.set_cons_zero, List.set_cons_succ]
          refine take_op (i := 29) (v := _) rfl (by kernel_rfl) (by kernel_rfl) (by kernel_rfl) (fun _ _ _ h => h) (Or.inl ⟨by rfl, (by intro w hSw; (try dsimp only at hSw); go_simp; try with_reducible rfl)⟩) (HK.out _ hB45) ?_
          try simp only [Act.put, List.setIfInBounds_toArray, List.set_cons_zero, List.set_cons_succ]
          refine take_op (i := 30) (v := _) rfl (by kernel_rfl) (by kernel_rfl) (by kernel_rfl) (fun _ _ _ h => h) (Or.inl ⟨by rfl, (by intro w hSw; (try dsimp only at hSw); go_simp; try with_reducible rfl)⟩) (HK.out _ hB45) ?_
          try simp only [Act.put, List.setIfInBounds_toArray, List.set_cons_zero, List.set_cons_succ]
          refine take_op (i := 31) (v := _) rfl (by kernel_rfl) (by kernel_rfl) (by kernel_rfl) (fun _ _ _ h => h) (Or.inl ⟨by rfl, (by intro w hSw; (try dsimp only at hSw); go_simp; try with_reducible rfl)⟩) (HK.out _ hB45) ?_
          try simp only [Act.put, List.setIfInBounds_toArray, List.set_cons_zero, List.set_cons_succ]
          refine take_op (i := 32) (v := _) rfl (by kernel_rfl) (by kernel_rfl) (by kernel_rfl) (fun _ _ _ h => h) (Or.inl ⟨by rfl, (by intro w hSw; (try dsimp only at hSw); go_simp; try with_reducible rfl)⟩) (HK.out _ hB45) ?_
          try simp only [Act.put, List.setIfInBounds_toArray, List.set_cons_zero, List.set_cons_succ]
          refine take_op (i := 34) (v := _) rfl (by kernel_rfl) (by kernel_rfl) (by kernel_rfl) (fun _ _ _ h => h) (Or.inl ⟨by rfl, (by intro w hSw; (try dsimp only at hSw); go_simp; try with_reducible rfl)⟩) (HK.out _ hB45) ?_
          try simp only [Act.put, List.setIfInBounds_toArray, List.set_cons_zero, List.set_cons_succ]
          refine take_op (i := 35) (v := _) rfl (by kernel_rfl) (by kernel_rfl) (by kernel_rfl) (fun _ _ _ h => h) (Or.inl ⟨by rfl, (by intro w hSw; (try dsimp only at hSw); go_simp; try with_reducible rfl)⟩) (HK.out _ hB45) ?_
          try simp only [Act.put, List.setIfInBounds_toArray, List.set_cons_zero, List.set_cons_succ]
          refine one_op 33 (by kernel_rfl) rfl (by rfl) (fun K hK => ?_)
          go_simp
          refine (contains_as nc A3 m3.length c3 m3 s true _ (Kc.out _ hB45) (by omega) ((Qc.out.2 s).trans ((inN_neg HN.out rs s).trans (congrArg not HX.out)))).mono ?_
          rintro e w46 ⟨rfl, hb46⟩
          have hB46 : Below W.heap.size W w46 := step_below hB45 (Nat.le_refl _) hb46
          clear hb46 hB45
          refine hK _ _ (HK.out _ hB46) ?_
          try simp only [Act.put, List.setIfInBounds_toArray, List.set_cons_zero, List.set_cons_succ]
          clear hK K
          refine take_op (i := 36) (v := _) rfl (by kernel_rfl) (by kernel_rfl) (by kernel_rfl) (fun _ _ _ h => h) (Or.inl ⟨by rfl, (by intro w hSw; (try dsimp only at hSw); go_simp; try with_reducible rfl)⟩) (HK.out _ hB46) ?_
          try simp only [Act.put, List.setIfInBounds_toArray, List.set_cons_zero, List.set_cons_succ]
          refine take_op (i := 37) (v := _) rfl (by kernel_rfl) (by kernel_rfl) (by kernel_rfl) (fun _ _ _ h => h) (Or.inl ⟨by rfl, (by intro w hSw; (try dsimp only at hSw); go_simp; try with_reducible rfl)⟩) (HK.out _ hB46) ?_
          try simp only [Act.put, List.setIfInBounds_toArray, List.set_cons_zero, List.set_cons_succ]
          refine take_op (i := 38) (v := _) rfl (by kernel_rfl) (by kernel_rfl) (by kernel_rfl) (fun _ _ _ h => h) (Or.inl ⟨by rfl, (by intro w hSw; (try dsimp only at hSw); go_simp; try with_reducible rfl)⟩) (HK.out _ hB46) ?_
          try simp only [Act.put, List.setIfInBounds_toArray, List.set_cons_zero, List.set_cons_succ]
          refine take_op (i := 39) (v := _) rfl (by kernel_rfl) (by kernel_rfl) (by kernel_rfl) (fun _ _ _ h => h) (Or.inl ⟨by rfl, (by intro w hSw; (try dsimp only at hSw); go_simp; try with_reducible rfl)⟩) (HK.out _ hB46) ?_
          try simp only [Act.put, List.setIfInBounds_toArray, List.set_cons_zero, List.set_cons_succ]
          refine take_op (i := 40) (v := _) rfl (by kernel_rfl) (by kernel_rfl) (by kernel_rfl) (fun _ _ _ h => h) (Or.inl ⟨by rfl, (by intro w hSw; (try dsimp only at hSw); go_simp; try with_reducible rfl)⟩) (HK.out _ hB46) ?_
          try simp only [Act.put, List.setIfInBounds_toArray, List.set_cons_zero, List.set_cons_succ]
          refine take_op (i := 41) (v := _) rfl (by kernel_rfl) (by kernel_rfl) (by kernel_rfl) (fun _ _ _ h => h) (Or.inl ⟨by rfl, (by intro w hSw; (try dsimp only at hSw); go_simp; try with_reducible rfl)⟩) (HK.out _ hB46) ?_
          try simp only [Act.put, List.setIfInBounds_toArray, List.set_cons_zero, List.set_cons_succ]
          refine one_op 42 (by kernel_rfl) rfl (by rfl) (fun K hK => ?_)
          go_simp
          refine (unionNames_as co co' g A A' n c n' c' rs rs' _ (Ka.out _ hB46) (Kb.out _ hB46) (by omega) (by omega) HG.out).mono ?_
          rintro e w47 ⟨m47, A47, c47, rfl, ho47, hs47, hq47, hk47, hb47⟩
          have hB47 : Below W.heap.size W w47 := step_below hB46 (Nat.le_refl _) hb47
          have K47 := kept_set ho47 hs47
          have Q47 := Lib.hid hq47
          have t47_47 : Below w47.heap.size w47 w47 := Below.refl _ _
          clear ho47 hq47
          clear hb47 hB46
          refine hK _ _ (HK.out _ hB47) ?_
          try simp only [Act.put, List.setIfInBounds_toArray, List.set_cons_zero, List.set_cons_succ]
          clear hK K
          refine one_op 43 (by kernel_rfl) rfl (by rfl) (fun K hK => ?_)
          go_simp
          refine (same_yes g g A1 A47 m1.length m47.length c1 c47 m1 m47 _ (Ku.out _ hB47) (K47 _ t47_47) (by omega) (by omega) rfl (isSet_unique Qu.out Q47.out fun _ => rfl)).mono ?_
          rintro e w48 ⟨rfl, hb48⟩
          have hB48 : Below W.heap.size W w48 := step_below hB47 (Nat.le_refl _) hb48
          have t47_48 := step_on t47_47 hb48
          clear hb48 hB47 t47_47
          refine hK _ _ (HK.out _ hB48) ?_
          try simp only [Act.put, List.setIfInBounds_toArray, List.set_cons_zero, List.set_cons_succ]
          clear hK K
          refine take_op (i := 44) (v := _) rfl (by kernel_rfl) (by kernel_rfl) (by kernel_rfl) (fun _ _ _ h => h) (Or.inl ⟨by rfl, (by intro w hSw; (try dsimp only at hSw); go_simp; try with_reducible rfl)⟩) (HK.out _ hB48) ?_
          try simp only [Act.put, List.setIfInBounds_toArray, List.set_cons_zero, List.set_cons_succ]
          refine take_op (i := 45) (v := _) rfl (by kernel_rfl) (by kernel_rfl) (by kernel_rfl) (fun _ _ _ h => h) (Or.inl ⟨by rfl, (by intro w hSw; (try dsimp only at hSw); go_simp; try with_reducible rfl)⟩) (HK.out _ hB48) ?_
          try simp only [Act.put, List.setIfInBounds_toArray, List.set_cons_zero, List.set_cons_succ]
          refine take_op (i := 46) (v := _) rfl (by kernel_rfl) (by kernel_rfl) (by kernel_rfl) (fun _ _ _ h => h) (Or.inl ⟨by rfl, (by intro w hSw; (try dsimp only at hSw); go_simp; try with_reducible rfl)⟩) (HK.out _ hB48) ?_
          try simp only [Act.put, List.setIfInBounds_toArray, List.set_cons_zero, List.set_cons_succ]
          refine take_op (i := 47) (v := _) rfl (by kernel_rfl) (by kernel_rfl) (by kernel_rfl) (fun _ _ _ h => h) (Or.inl ⟨by rfl, (by intro w hSw; (try dsimp only at hSw); go_simp; try with_reducible rfl)⟩) (HK.out _ hB48) ?_
          try simp only [Act.put, List.setIfInBounds_toArray, List.set_cons_zero, List.set_cons_succ]
          refine take_op (i := 48) (v := _) rfl (by kernel_rfl) (by kernel_rfl) (by kernel_rfl) (fun _ _ _ h => h) (Or.inl ⟨by rfl, (by intro w hSw; (try dsimp only at hSw); go_simp; try with_reducible rfl)⟩) (HK.out _ hB48) ?_
          try simp only [Act.put, List.setIfInBounds_toArray, List.set_cons_zero, List.set_cons_succ]
          refine one_op 49 (by kernel_rfl) rfl (by rfl) (fun K hK => ?_)
          go_simp
          refine (intersectNames_as co co' f A A' n c n' c' rs rs' _ (Ka.out _ hB48) (Kb.out _ hB48) (by omega) (by omega) HF.out).mono ?_
          rintro e w49 ⟨m49, A49, c49, rfl, ho49, hs49, hq49, hk49, hb49⟩
          have hB49 : Below W.heap.size W w49 := step_below hB48 (Nat.le_refl _) hb49
          have t47_49 := step_on t47_48 hb49
          have K49 := kept_set ho49 hs49
          have Q49 := Lib.hid hq49
          have t49_49 : Below w49.heap.size w49 w49 := Below.refl _ _
          clear ho49 hq49
          clear hb49 hB48 t47_48
          refine hK _ _ (HK.out _ hB49) ?_
          try simp only [Act.put, List.setIfInBounds_toArray, List.set_cons_zero, List.set_cons_succ]
          clear hK K
          refine one_op 50 (by kernel_rfl) rfl (by rfl) (fun K hK => ?_)
          go_simp
          refine (same_yes f f A2 A49 m2.length m49.length c2 c49 m2 m49 _ (Ki.out _ hB49) (K49 _ t49_49) (by omega) (by omega) rfl (isSet_unique Qi.out Q49.out fun _ => rfl)).mono ?_
          rintro e w50 ⟨rfl, hb50⟩
          have hB50 : Below W.heap.size W w50 := step_below hB49 (Nat.le_refl _) hb50
          have t47_50 := step_on t47_49 hb50
          have t49_50 := step_on t49_49 hb50
          clear hb50 hB49 t47_49 t49_49
          refine hK _ _ (HK.out _ hB50) ?_
          try simp only [Act.put, List.setIfInBounds_toArray, List.set_cons_zero, List.set_cons_succ]
          clear hK K
          refine take_op (i := 51) (v := _) rfl (by kernel_rfl) (by kernel_rfl) (by kernel_rfl) (fun _ _ _ h => h) (Or.inl ⟨by rfl, (by intro w hSw; (try dsimp only at hSw); go_simp; try with_reducible rfl)⟩) (HK.out _ hB50) ?_
          try simp only [Act.put, List.setIfInBounds_toArray, List.set_cons_zero, List.set_cons_succ]
          refine take_op (i := 52) (v := _) rfl (by kernel_rfl) (by kernel_rfl) (by kernel_rfl) (fun _ _ _ h => h) (Or.inl ⟨by rfl, (by intro w hSw; (try dsimp only at hSw); go_simp; try with_reducible rfl)⟩) (HK.out _ hB50) ?_
          try simp only [Act.put, List.setIfInBounds_toArray, List.set_cons_zero, List.set_cons_succ]
          refine one_op 53 (by kernel_rfl) rfl (by rfl) (fun K hK => ?_)
          go_simp
          refine (awake_any _).mono ?_
          rintro e w51 ⟨rfl, hb51⟩
          have hB51 : Below W.heap.size W w51 := step_below hB50 (Nat.le_refl _) hb51
          have t47_51 := step_on t47_50 hb51
          have t49_51 := step_on t49_50 hb51
          clear hb51 hB50 t47_50 t49_50
          refine hK _ _ (HK.out _ hB51) ?_
          try simp only [Act.put, List.setIfInBounds_toArray, List.set_cons_zero, List.set_cons_succ]
          clear hK K
          refine take_op (i := 54) (v := _) rfl (by kernel_rfl) (by kernel_rfl) (by kernel_rfl) (fun _ _ _ h => h) (Or.inl ⟨by rfl, (by intro w hSw; (try dsimp only at hSw); go_simp; try with_reducible rfl)⟩) (HK.out _ hB51) ?_
          try simp only [Act.put, List.setIfInBounds_toArray, List.set_cons_zero, List.set_cons_succ]
          refine take_op (i := 55) (v := _) rfl (by kernel_rfl) (by kernel_rfl) (by kernel_rfl) (fun _ _ _ h => h) (Or.inl ⟨by rfl, (by intro w hSw; (try dsimp only at hSw); go_simp; try with_reducible rfl)⟩) (HK.out _ hB51) ?_
          try simp only [Act.put, List.setIfInBounds_toArray, List.set_cons_zero, List.set_cons_succ]
          refine wpAnyH_done (by kernel_rfl) ?_ _
          go_wp2
          go_ret
          exact ⟨rfl, HBW.out.trans (hB51.mono HBW.out.size)⟩
        · refine wp_region_held_drew (S := fun wq => wq.cell? ⟨w.heap.size, 0, none⟩ = some (.bool co) ∧ wq.cell? ⟨w.heap.size, 1, none⟩ = some (.slice A n c) ∧ wq.cell? ⟨w.heap.size + 1, 0, none⟩ = some (.bool co') ∧ wq.cell? ⟨w.heap.size + 1, 1, none⟩ = some (.slice A' n' c') ∧ wq.cell? ⟨r1, 0, none⟩ = some (.bool g) ∧ wq.cell? ⟨r1, 1, none⟩ = some (.slice A1 m1.length c1) ∧ wq.cell? ⟨r2, 0, none⟩ = some (.bool f) ∧ wq.cell? ⟨r2, 1, none⟩ = some (.slice A2 m2.length c2) ∧ wq.cell? ⟨r3, 0, none⟩ = some (.bool nc) ∧ wq.cell? ⟨r3, 1, none⟩ = some (.slice A3 m3.length c3)) (by kernel_rfl) (HK.out _ hB32.drew) (fun _ => ?_)
          have hB40 : Below W.heap.size W w32.drew := hB32.drew
          refine take_op (i := 0) (v := _) rfl (by kernel_rfl) (by kernel_rfl) (by kernel_rfl) (fun _ _ _ h => h) (Or.inl ⟨by rfl, (by intro w hSw; (try dsimp only at hSw); go_simp; try with_reducible rfl)⟩) (HK.out _ hB40) ?_
          try simp only [Act.put, List.setIfInBounds_toArray, List.set_cons_zero, List.set_cons_succ]
          refine one_op 1 (by kernel_rfl) rfl (by rfl) (fun K hK => ?_)
          go_simp
          refine (valid_yes g A1 m1.length c1 m1 _ _ (Ku.out _ hB40) (by omega) Qu.out).mono ?_
          rintro e w41 ⟨rfl, hb41⟩
          have hB41 : Below W.heap.size W w41 := step_below hB40 (Nat.le_refl _) hb41
          clear hb41 hB40
          refine hK _ _ (HK.out _ hB41) ?_
          try simp only [Act.put, List.setIfInBounds_toArray, List.set_cons_zero, List.set_cons_succ]
          clear hK K
          refine take_op (i := 2) (v := _) rfl (by kernel_rfl) (by kernel_rfl) (by kernel_rfl) (fun _ _ _ h => h) (Or.inl ⟨by rfl, (by intro w hSw; (try dsimp only at hSw); go_simp; try with_reducible rfl)⟩) (HK.out _ hB41) ?_
          try simp only [Act.put, List.setIfInBounds_toArray, List.set_cons_zero, List.set_cons_succ]
          refine take_op (i := 3) (v := _) rfl (by kernel_rfl) (by kernel_rfl) (by kernel_rfl) (fun _ _ _ h => h) (Or.inl ⟨by rfl, (by intro w hSw; (try dsimp only at hSw); go_simp; try with_reducible rfl)⟩) (HK.out _ hB41) ?_
          try simp only [Act.put, List.setIfInBounds_toArray, List.set_cons_zero, List.set_cons_succ]
          refine one_op 4 (by kernel_rfl) rfl (by rfl) (fun K hK => ?_)
          go_simp
          refine (valid_yes f A2 m2.length c2 m2 _ _ (Ki.out _ hB41) (by omega) Qi.out).mono ?_
          rintro e w42 ⟨rfl, hb42⟩
          have hB42 : Below W.heap.size W w42 := step_below hB41 (Nat.le_refl _) hb42
          clear hb42 hB41
          refine hK _ _ (HK.out _ hB42) ?_
          try simp only [Act.put, List.setIfInBounds_toArray, List.set_cons_zero, List.set_cons_succ]
          clear hK K
          refine take_op (i := 5) (v := _) rfl (by kernel_rfl) (by kernel_rfl) (by kernel_rfl) (fun _ _ _ h => h) (Or.inl ⟨by rfl, (by intro w hSw; (try dsimp only at hSw); go_simp; try with_reducible rfl)⟩) (HK.out _ hB42) ?_
          try simp only [Act.put, List.setIfInBounds_toArray, List.set_cons_zero, List.set_cons_succ]
          refine take_op (i := 6) (v := _) rfl (by kernel_rfl) (by kernel_rfl) (by kernel_rfl) (fun _ _ _ h => h) (Or.inl ⟨by rfl, (by intro w hSw; (try dsimp only at hSw); go_simp; try with_reducible rfl)⟩) (HK.out _ hB42) ?_
          try simp only [Act.put, List.setIfInBounds_toArray, List.set_cons_zero, List.set_cons_succ]
          refine take_op (i := 7) (v := _) rfl (by kernel_rfl) (by kernel_rfl) (by kernel_rfl) (fun _ _ _ h => h) (Or.inl ⟨by rfl, (by intro w hSw; (try dsimp only at hSw); go_simp; try with_reducible rfl)⟩) (HK.out _ hB42) ?_
          try simp only [Act.put, List.setIfInBounds_toArray, List.set_cons_zero, List.set_cons_succ]
          refine one_op 8 (by kernel_rfl) rfl (by rfl) (fun K hK => ?_)
          go_simp
          refine (valid_yes nc A3 m3.length c3 m3 _ _ (Kc.out _ hB42) (by omega) Qc.out).mono ?_
          rintro e w43 ⟨rfl, hb43⟩
          have hB43 : Below W.heap.size W w43 := step_below hB42 (Nat.le_refl _) hb43
          clear hb43 hB42
          refine hK _ _ (HK.out _ hB43) ?_
          try simp only [Act.put, List.setIfInBounds_toArray, List.set_cons_zero, List.set_cons_succ]
          clear hK K
          refine take_op (i := 9) (v := _) rfl (by kernel_rfl) (by kernel_rfl) (by kernel_rfl) (fun _ _ _ h => h) (Or.inl ⟨by rfl, (by intro w hSw; (try dsimp only at hSw); go_simp; try with_reducible rfl)⟩) (HK.out _ hB43) ?_
          try simp only [Act.put, List.setIfInBounds_toArray, List.set_cons_zero, List.set_cons_succ]
          refine take_op (i := 10) (v := _) rfl (by kernel_rfl) (by kernel_rfl) (by kernel_rfl) (fun _ _ _ h => h) (Or.inl ⟨by rfl, (by intro w hSw; (try dsimp only at hSw); go_simp; try with_reducible rfl)⟩) (HK.out _ hB43) ?_
          try simp only [Act.put, List.setIfInBounds_toArray, List.set_cons_zero, List.set_cons_succ]
          refine take_op (i := 11) (v := _) rfl (by kernel_rfl) (by kernel_rfl) (by kernel_rfl) (fun _ _ _ h => h) (Or.inl ⟨by rfl, (by intro w hSw; (try dsimp only at hSw); go_simp; try with_reducible rfl)⟩) (HK.out _ hB43) ?_
          try simp only [Act.put, List.setIfInBounds_toArray, List.set_cons_zero, List.set_cons_succ]
          refine take_op (i := 12) (v := _) rfl (by kernel_rfl) (by kernel_rfl) (by kernel_rfl) (fun _ _ _ h => h) (Or.inl ⟨by rfl, (by intro w hSw; (try dsimp only at hSw); go_simp; try with_reducible rfl)⟩) (HK.out _ hB43) ?_
          try simp only [Act.put, List.setIfInBounds_toArray, List.set_cons_zero, List.set_cons_succ]
          refine take_op (i := 14) (v := _) rfl (by kernel_rfl) (by kernel_rfl) (by kernel_rfl) (fun _ _ _ h => h) (Or.inl ⟨by rfl, (by intro w hSw; (try dsimp only at hSw); go_simp; try with_reducible rfl)⟩) (HK.out _ hB43) ?_
          try simp only [Act.put, List.setIfInBounds_toArray, List.set_cons_zero, List.set_cons_succ]
          refine one_op 13 (by kernel_rfl) rfl (by rfl) (fun K hK => ?_)
          go_simp
          refine (contains_as g A1 m1.length c1 m1 s true _ (Ku.out _ hB43) (by omega) ((Qu.out.2 s).trans (or_vals HX.out HY.out))).mono ?_
          rintro e w44 ⟨rfl, hb44⟩
          have hB44 : Below W.heap.size W w44 := step_below hB43 (Nat.le_refl _) hb44
          clear hb44 hB43
          refine hK _ _ (HK.out _ hB44) ?_
          try simp only [Act.put, List.setIfInBounds_toArray, List.set_cons_zero, List.set_cons_succ]
          clear hK K
          refine take_op (i := 15) (v := _) rfl (by kernel_rfl) (by kernel_rfl) (by kernel_rfl) (fun _ _ _ h => h) (Or.inl ⟨by rfl, (by intro w hSw; (try dsimp only at hSw); go_simp; try with_reducible rfl)⟩) (HK.out _ hB44) ?_
          try simp only [Act.put, List.setIfInBounds_toArray, List.set_cons_zero, List.set_cons_succ]
          refine take_op (i := 16) (v := undef) rfl (by kernel_rfl) (by kernel_rfl) (by kernel_rfl) (fun _ _ _ h => h) (Or.inr ⟨by rfl, rfl⟩) (HK.out _ hB44) ?_
          try simp only [Act.put, List.setIfInBounds_toArray, List.set_cons_zero, List.set_cons_succ]
          refine take_op (i := 17) (v := _) rfl (by kernel_rfl) (by kernel_rfl) (by kernel_rfl) (fun _ _ _ h => h) (Or.inl ⟨by rfl, (by intro w hSw; (try dsimp only at hSw); go_simp; try with_reducible rfl)⟩) (HK.out _ hB44) ?_
          try simp only [Act.put, List.setIfInBounds_toArray, List.set_cons_zero, List.set_cons_succ]
          refine take_op (i := 18) (v := _) rfl (by kernel_rfl) (by kernel_rfl) (by kernel_rfl) (fun _ _ _ h => h) (Or.inl ⟨by rfl, (by intro w hSw; (try dsimp only at hSw); go_simp; try with_reducible rfl)⟩) (HK.out _ hB44) ?_
          try simp only [Act.put, List.setIfInBounds_toArray, List.set_cons_zero, List.set_cons_succ]
          refine take_op (i := 19) (v := _) rfl (by kernel_rfl) (by kernel_rfl) (by kernel_rfl) (fun _ _ _ h => h) (Or.inl ⟨by rfl, (by intro w hSw; (try dsimp only at hSw); go_simp; try with_reducible rfl)⟩) (HK.out _ hB44) ?_
          try simp only [Act.put, List.setIfInBounds_toArray, List.set_cons_zero, List.set_cons_succ]
          refine take_op (i := 20) (v := _) rfl (by kernel_rfl) (by kernel_rfl) (by kernel_rfl) (fun _ _ _ h => h) (Or.inl ⟨by rfl, (by intro w hSw; (try dsimp only at hSw); go_simp; try with_reducible rfl)⟩) (HK.out _ hB44) ?_
          try simp only [Act.put, List.setIfInBounds_toArray, List.set_cons_zero, List.set_cons_succ]
          refine take_op (i := 21) (v := _) rfl (by kernel_rfl) (by kernel_rfl) (by kernel_rfl) (fun _ _ _ h => h) (Or.inl ⟨by rfl, (by intro w hSw; (try dsimp only at hSw); go_simp; try with_reducible rfl)⟩) (HK.out _ hB44) ?_
          try simp only [Act.put, List.setIfInBounds_toArray, List.set_cons_zero, List.set_cons_succ]
          refine take_op (i := 22) (v := _) rfl (by kernel_rfl) (by kernel_rfl) (by kernel_rfl) (fun _ _ _ h => h) (Or.inl ⟨by rfl, (by intro w hSw; (try dsimp only at hSw); go_simp; try with_reducible rfl)⟩) (HK.out _ hB44) ?_
          try simp only [Act.put, List.setIfInBounds_toArray, List.set_cons_zero, List.set_cons_succ]
          refine take_op (i := 24) (v := _) rfl (by kernel_rfl) (by kernel_rfl) (by kernel_rfl) (fun _ _ _ h => h) (Or.inl ⟨by rfl, (by intro w hSw; (try dsimp only at hSw); go_simp; try with_reducible rfl)⟩) (HK.out _ hB44) ?_
          try simp only [Act.put, List.setIfInBounds_toArray, List.set_cons_zero, List.set_cons_succ]
          refine one_op 23 (by kernel_rfl) rfl (by rfl) (fun K hK => ?_)
          go_simp
          refine (contains_as f A2 m2.length c2 m2 s false _ (Ki.out _ hB44) (by omega) ((Qi.out.2 s).trans (and_vals HX.out HY.out))).mono ?_
          rintro e w45 ⟨rfl, hb45⟩
          have hB45 : Below W.heap.size W w45 := step_below hB44 (Nat.le_refl _) hb45
          clear hb45 hB44
          refine hK _ _ (HK.out _ hB45) ?_
          try simp only [Act.put, List.setIfInBounds_toArray, List.set_cons_zero, List.set_cons_succ]
          clear hK K
          refine take_op (i := 25) (v := _) rfl (by kernel_rfl) (by kernel_rfl) (by kernel_rfl) (fun _ _ _ h => h) (Or.inl ⟨by rfl, (by intro w hSw; (try dsimp only at hSw); go_simp; try with_reducible rfl)⟩) (HK.out _ hB45) ?_
          try simp only [Act.put, List.setIfInBounds_toArray, List.set_cons_zero, List.set_cons_succ]
          refine take_op (i := 26) (v := _) rfl (by kernel_rfl) (by kernel_rfl) (by kernel_rfl) (fun _ _ _ h => h) (Or.inl ⟨by rfl, (by intro w hSw; (try dsimp only at hSw); go_simp; try with_reducible rfl)⟩) (HK.out _ hB45) ?_
          try simp only [Act.put, List.setIfInBounds_toArray, List.set_cons_zero, List.set_cons_succ]
          refine take_op (i := 27) (v := _) rfl (by kernel_rfl) (by kernel_rfl) (by kernel_rfl) (fun _ _ _ h => h) (Or.inl ⟨by rfl, (by intro w hSw; (try dsimp only at hSw); go_simp; try with_reducible rfl)⟩) (HK.out _ hB45) ?_
          try simp only [Act.put, List.setIfInBounds_toArray, List.set_cons_zero, List.set_cons_succ]
          refine take_op (i := 28) (v := _) rfl (by kernel_rfl) (by kernel_rfl) (by kernel_rfl) (fun _ _ _ h => h) (Or.inl ⟨by rfl, (by intro w hSw; (try dsimp only at hSw); go_simp; try with_reducible rfl)⟩) (HK.out _ hB45) ?_
          try simp only [Act.put, List.setIfInBounds_toArray, List.set_cons_zero, List.set_cons_succ]
          refine take_op (i := 29) (v := _) rfl (by kernel_rfl) (by kernel_rfl) (by kernel_rfl) (fun _ _ _ h => h) (Or.inl ⟨by rfl, (by intro w hSw; (try dsimp only at hSw); go_simp; try with_reducible rfl)⟩) (HK.out _ hB45) ?_
          try simp only [Act.put, List.setIfInBounds_toArray, List.set_cons_zero, List.set_cons_succ]
          refine take_op (i := 30) (v := _) rfl (by kernel_rfl) (by kernel_rfl) (by kernel_rfl) (fun _ _ _ h => h) (Or.inl ⟨by rfl, (by intro w hSw; (try dsimp only at hSw); go_simp; try with_reducible rfl)⟩) (HK.out _ hB45) ?_
          try simp only [Act.put, List.setIfInBounds_toArray, List.set_cons_zero, List.set_cons_succ]
          refine take_op (i := 31) (v := _) rfl (by kernel_rfl) (by kernel_rfl) (by kernel_rfl) (fun _ _ _ h => h) (Or.inl ⟨by rfl, (by intro w hSw; (try dsimp only at hSw); go_simp; try with_reducible rfl)⟩) (HK.out _ hB45) ?_
          try simp only [Act.put, List.setIfInBounds_toArray, List.set_cons_zero, List.set_cons_succ]
          refine take_op (i := 32) (v := _) rfl (by kernel_rfl) (by kernel_rfl) (by kernel_rfl) (fun _ _ _ h => h) (Or.inl ⟨by rfl, (by intro w hSw; (try dsimp only at hSw); go_simp; try with_reducible rfl)⟩) (HK.out _ hB45) ?_
          try simp only [Act.put, List.setIfInBounds_toArray, List.set_cons_zero, List.set_cons_succ]
          refine take_op (i := 34) (v := _) rfl (by kernel_rfl) (by kernel_rfl) (by kernel_rfl) (fun _ _ _ h => h) (Or.inl ⟨by rfl, (by intro w hSw; (try dsimp only at hSw); go_simp; try with_reducible rfl)⟩) (HK.out _ hB45) ?_
          try simp only [Act.put, List.setIfInBounds_toArray, List.set_cons_zero, List.set_cons_succ]
          refine take_op (i := 35) (v := _) rfl (by kernel_rfl) (by kernel_rfl) (by kernel_rfl) (fun _ _ _ h => h) (Or.inl ⟨by rfl, (by intro w hSw; (try dsimp only at hSw); go_simp; try with_reducible rfl)⟩) (HK.out _ hB45) ?_
          try simp only [Act.put, List.setIfInBounds_toArray, List.set_cons_zero, List.set_cons_succ]
          refine one_op 33 (by kernel_rfl) rfl (by rfl) (fun K hK => ?_)
          go_simp
          refine (contains_as nc A3 m3.length c3 m3 s false _ (Kc.out _ hB45) (by omega) ((Qc.out.2 s).trans ((inN_neg HN.out rs s).trans (congrArg not HX.out)))).mono ?_
          rintro e w46 ⟨rfl, hb46⟩
          have hB46 : Below W.heap.size W w46 := step_below hB45 (Nat.le_refl _) hb46
          clear hb46 hB45
          refine hK _ _ (HK.out _ hB46) ?_
          try simp only [Act.put, List.setIfInBounds_toArray, List.set_cons_zero, List.set_cons_succ]
          clear hK K
          refine take_op (i := 36) (v := _) rfl (by kernel_rfl) (by kernel_rfl) (by kernel_rfl) (fun _ _ _ h => h) (Or.inl ⟨by rfl, (by intro w hSw; (try dsimp only at hSw); go_simp; try with_reducible rfl)⟩) (HK.out _ hB46) ?_
          try simp only [Act.put, List.setIfInBounds_toArray, List.set_cons_zero, List.set_cons_succ]
          refine take_op (i := 37) (v := _) rfl (by kernel_rfl) (by kernel_rfl) (by kernel_rfl) (fun _ _ _ h => h) (Or.inl ⟨by rfl, (by intro w hSw; (try dsimp only at hSw); go_simp; try with_reducible rfl)⟩) (HK.out _ hB46) ?_
          try simp only [Act.put, List.setIfInBounds_toArray, List.set_cons_zero, List.set_cons_succ]
          refine take_op (i := 38) (v := _) rfl (by kernel_rfl) (by kernel_rfl) (by kernel_rfl) (fun _ _ _ h => h) (Or.inl ⟨by rfl, (by intro w hSw; (try dsimp only at hSw); go_simp; try with_reducible rfl)⟩) (HK.out _ hB46) ?_
          try simp only [Act.put, List.setIfInBounds_toArray, List.set_cons_zero, List.set_cons_succ]
          refine take_op (i := 39) (v := _) rfl (by kernel_rfl) (by kernel_rfl) (by kernel_rfl) (fun _ _ _ h => h) (Or.inl ⟨by rfl, (by intro w hSw; (try dsimp only at hSw); go_simp; try with_reducible rfl)⟩) (HK.out _ hB46) ?_
          try simp only [Act.put, List.setIfInBounds_toArray, List.set_cons_zero, List.set_cons_succ]
          refine take_op (i := 40) (v := _) rfl (by kernel_rfl) (by kernel_rfl) (by kernel_rfl) (fun _ _ _ h => h) (Or.inl ⟨by rfl, (by intro w hSw; (try dsimp only at hSw); go_simp; try with_reducible rfl)⟩) (HK.out _ hB46) ?_
          try simp only [Act.put, List.setIfInBounds_toArray, List.set_cons_zero, List.set_cons_succ]
          refine take_op (i := 41) (v := _) rfl (by kernel_rfl) (by kernel_rfl) (by kernel_rfl) (fun _ _ _ h => h) (Or.inl ⟨by rfl, (by intro w hSw; (try dsimp only at hSw); go_simp; try with_reducible rfl)⟩) (HK.out _ hB46) ?_
          try simp only [Act.put, List.setIfInBounds_toArray, List.set_cons_zero, List.set_cons_succ]
          refine one_op 42 (by kernel_rfl) rfl (by rfl) (fun K hK => ?_)
          go_simp
          refine (unionNames_as co co' g A A' n c n' c' rs rs' _ (Ka.out _ hB46) (Kb.out _ hB46) (by omega) (by omega) HG.out).mono ?_
          rintro e w47 ⟨m47, A47, c47, rfl, ho47, hs47, hq47, hk47, hb47⟩
          have hB47 : Below W.heap.size W w47 := step_below hB46 (Nat.le_refl _) hb47
          have K47 := kept_set ho47 hs47
          have Q47 := Lib.hid hq47
          have t47_47 : Below w47.heap.size w47 w47 := Below.refl _ _
          clear ho47 hq47
          clear hb47 hB46
          refine hK _ _ (HK.out _ hB47) ?_
          try simp only [Act.put, List.setIfInBounds_toArray, List.set_cons_zero, List.set_cons_succ]
          clear hK K
          refine one_op 43 (by kernel_rfl) rfl (by rfl) (fun K hK => ?_)
          go_simp
          refine (same_yes g g A1 A47 m1.length m47.length c1 c47 m1 m47 _ (Ku.out _ hB47) (K47 _ t47_47) (by omega) (by omega) rfl (isSet_unique Qu.out Q47.out fun _ => rfl)).mono ?_
          rintro e w48 ⟨rfl, hb48⟩
          have hB48 : Below W.heap.size W w48 := step_below hB47 (Nat.le_refl _) hb48
          have t47_48 := step_on t47_47 hb48
          clear hb48 hB47 t47_47
          refine hK _ _ (HK.out _ hB48) ?_
          try simp only [Act.put, List.setIfInBounds_toArray, List.set_cons_zero, List.set_cons_succ]
          clear hK K
          refine take_op (i := 44) (v := _) rfl (by kernel_rfl) (by kernel_rfl) (by kernel_rfl) (fun _ _ _ h => h) (Or.inl ⟨by rfl, (by intro w hSw; (try dsimp only at hSw); go_simp; try with_reducible rfl)⟩) (HK.out _ hB48) ?_
          try simp only [Act.put, List.setIfInBounds_toArray, List.set_cons_zero, List.set_cons_succ]
          refine take_op (i := 45) (v := _) rfl (by kernel_rfl) (by kernel_rfl) (by kernel_rfl) (fun _ _ _ h => h) (Or.inl ⟨by rfl, (by intro w hSw; (try dsimp only at hSw); go_simp; try with_reducible rfl)⟩) (HK.out _ hB48) ?_
          try simp only [Act.put, List.setIfInBounds_toArray, List.set_cons_zero, List.set_cons_succ]
          refine take_op (i := 46) (v := _) rfl (by kernel_rfl) (by kernel_rfl) (by kernel_rfl) (fun _ _ _ h => h) (Or.inl ⟨by rfl, (by intro w hSw; (try dsimp only at hSw); go_simp; try with_reducible rfl)⟩) (HK.out _ hB48) ?_
          try simp only [Act.put, List.setIfInBounds_toArray, List.set_cons_zero, List.set_cons_succ]
          refine take_op (i := 47) (v := _) rfl (by kernel_rfl) (by kernel_rfl) (by kernel_rfl) (fun _ _ _ h => h) (Or.inl ⟨by rfl, (by intro w hSw; (try dsimp only at hSw); go_simp; try with_reducible rfl)⟩) (HK.out _ hB48) ?_
          try simp only [Act.put, List.setIfInBounds_toArray, List.set_cons_zero, List.set_cons_succ]
          refine take_op (i := 48) (v := _) rfl (by kernel_rfl) (by kernel_rfl) (by kernel_rfl) (fun _ _ _ h => h) (Or.inl ⟨by rfl, (by intro w hSw; (try dsimp only at hSw); go_simp; try with_reducible rfl)⟩) (HK.out _ hB48) ?_
          try simp only [Act.put, List.setIfInBounds_toArray, List.set_cons_zero, List.set_cons_succ]
          refine one_op 49 (by kernel_rfl) rfl (by rfl) (fun K hK => ?_)
          go_simp
          refine (intersectNames_as co co' f A A' n c n' c' rs rs' _ (Ka.out _ hB48) (Kb.out _ hB48) (by omega) (by omega) HF.out).mono ?_
          rintro e w49 ⟨m49, A49, c49, rfl, ho49, hs49, hq49, hk49, hb49⟩
          have hB49 : Below W.heap.size W w49 := step_below hB48 (Nat.le_refl _) hb49
          have t47_49 := step_on t47_48 hb49
          have K49 := kept_set ho49 hs49
          have Q49 := Lib.hid hq49
          have t49_49 : Below w49.heap.size w49 w49 := Below.refl _ _
          clear ho49 hq49
          clear hb49 hB48 t47_48
          refine hK _ _ (HK.out _ hB49) ?_
          try simp only [Act.put, List.setIfInBounds_toArray, List.set_cons_zero, List.set_cons_succ]
          clear hK K
          refine one_op 50 (by kernel_rfl) rfl (by rfl) (fun K hK => ?_)
          go_simp
          refine (same_yes f f A2 A49 m2.length m49.length c2 c49 m2 m49 _ (Ki.out _ hB49) (K49 _ t49_49) (by omega) (by omega) rfl (isSet_unique Qi.out Q49.out fun _ => rfl)).mono ?_
          rintro e w50 ⟨rfl, hb50⟩
          have hB50 : Below W.heap.size W w50 := step_below hB49 (Nat.le_refl _) hb50
          have t47_50 := step_on t47_49 hb50
          have t49_50 := step_on t49_49 hb50
          clear hb50 hB49 t47_49 t49_49
          refine hK _ _ (HK.out _ hB50) ?_
          try simp only [Act.put, List.setIfInBounds_toArray, List.set_cons_zero, List.set_cons_succ]
          clear hK K
          refine take_op (i := 51) (v := _) rfl (by kernel_rfl) (by kernel_rfl) (by kernel_rfl) (fun _ _ _ h => h) (Or.inl ⟨by rfl, (by intro w hSw; (try dsimp only at hSw); go_simp; try with_reducible rfl)⟩) (HK.out _ hB50) ?_
          try simp only [Act.put, List.setIfInBounds_toArray, List.set_cons_zero, List.set_cons_succ]
          refine take_op (i := 52) (v := _) rfl (by kernel_rfl) (by kernel_rfl) (by kernel_rfl) (fun _ _ _ h => h) (Or.inl ⟨by rfl, (by intro w hSw; (try dsimp only at hSw); go_simp; try with_reducible rfl)⟩) (HK.out _ hB50) ?_
          try simp only [Act.put, List.setIfInBounds_toArray, List.set_cons_zero, List.set_cons_succ]
          refine one_op 53 (by kernel_rfl) rfl (by rfl) (fun K hK => ?_)
          go_simp
          refine (awake_any _).mono ?_
          rintro e w51 ⟨rfl, hb51⟩
          have hB51 : Below W.heap.size W w51 := step_below hB50 (Nat.le_refl _) hb51
          have t47_51 := step_on t47_50 hb51
          have t49_51 := step_on t49_50 hb51
          clear hb51 hB50 t47_50 t49_50
          refine hK _ _ (HK.out _ hB51) ?_
          try simp only [Act.put, List.setIfInBounds_toArray, List.set_cons_zero, List.set_cons_succ]
          clear hK K
          refine take_op (i := 54) (v := _) rfl (by kernel_rfl) (by kernel_rfl) (by kernel_rfl) (fun _ _ _ h => h) (Or.inl ⟨by rfl, (by intro w hSw; (try dsimp only at hSw); go_simp; try with_reducible rfl)⟩) (HK.out _ hB51) ?_
          try simp only [Act.put, List.setIfInBounds_toArray, List.set_cons_zero, List.set_cons_succ]
          refine take_op (i := 55) (v := _) rfl (by kernel_rfl) (by kernel_rfl) (by kernel_rfl) (fun _ _ _ h => h) (Or.inl ⟨by rfl, (by intro w hSw; (try dsimp only at hSw); go_simp; try with_reducible rfl)⟩) (HK.out _ hB51) ?_
          try simp only [Act.put, List.setIfInBounds_toArray, List.set_cons_zero, List.set_cons_succ]
          refine wpAnyH_done (by kernel_rfl) ?_ _
          go_wp2
          go_ret
          exact ⟨rfl, HBW.out.trans (hB51.mono HBW.out.size)⟩
        · refine wp_region_held_drew (S := fun wq => wq.cell? ⟨w.heap.size, 0, none⟩ = some (.bool co) ∧ wq.cell? ⟨w.heap.size, 1, none⟩ = some (.slice A n c) ∧ wq.cell? ⟨w.heap.size + 1, 0, none⟩ = some (.bool co') ∧ wq.cell? ⟨w.heap.size + 1, 1, none⟩ = some (.slice A' n' c') ∧ wq.cell? ⟨r1, 0, none⟩ = some (.bool g) ∧ wq.cell? ⟨r1, 1, none⟩ = some (.slice A1 m1.length c1) ∧ wq.cell? ⟨r2, 0, none⟩ = some (.bool f) ∧ wq.cell? ⟨r2, 1, none⟩ = some (.slice A2 m2.length c2) ∧ wq.cell? ⟨r3, 0, none⟩ = some (.bool nc) ∧ wq.cell? ⟨r3, 1, none⟩ = some (.slice A3 m3.length c3)) (by kernel_rfl) (HK.out _ hB32.drew) (fun _ => ?_)
          have hB40 : Below W.heap.size W w32.drew := hB32.drew
          refine take_op (i := 0) (v := _) rfl (by kernel_rfl) (by kernel_rfl) (by kernel_rfl) (fun _ _ _ h => h) (Or.inl ⟨by rfl, (by intro w hSw; (try dsimp only at hSw); go_simp; try with_reducible rfl)⟩) (HK.out _ hB40) ?_
          try simp only [Act.put, List.setIfInBounds_toArray, List.set_cons_zero, List.set_cons_succ]
          refine one_op 1 (by kernel_rfl) rfl (by rfl) (fun K hK => ?_)
          go_simp
          refine (valid_yes g A1 m1.length c1 m1 _ _ (Ku.out _ hB40) (by omega) Qu.out).mono ?_
          rintro e w41 ⟨rfl, hb41⟩
          have hB41 : Below W.heap.size W w41 := step_below hB40 (Nat.le_refl _) hb41
          clear hb41 hB40
          refine hK _ _ (HK.out _ hB41) ?_
          try simp only [Act.put, List.setIfInBounds_toArray, List.set_cons_zero, List.set_cons_succ]
          clear hK K
          refine take_op (i := 2) (v := _) rfl (by kernel_rfl) (by kernel_rfl) (by kernel_rfl) (fun _ _ _ h => h) (Or.inl ⟨by rfl, (by intro w hSw; (try dsimp only at hSw); go_simp; try with_reducible rfl)⟩) (HK.out _ hB41) ?_
          try simp only [Act.put, List.setIfInBounds_toArray, List.set_cons_zero, List.set_cons_succ]
          refine take_op (i := 3) (v := _) rfl (by kernel_rfl) (by kernel_rfl) (by kernel_rfl) (fun _ _ _ h => h) (Or.inl ⟨by rfl, (by intro w hSw; (try dsimp only at hSw); go_simp; try with_reducible rfl)⟩) (HK.out _ hB41) ?_
          try simp only [Act.put, List.setIfInBounds_toArray, List.set_cons_zero, List.set_cons_succ]
          refine one_op 4 (by kernel_rfl) rfl (by rfl) (fun K hK => ?_)
          go_simp
          refine (valid_yes f A2 m2.length c2 m2 _ _ (Ki.out _ hB41) (by omega) Qi.out).mono ?_
          rintro e w42 ⟨rfl, hb42⟩
          have hB42 : Below W.heap.size W w42 := step_below hB41 (Nat.le_refl _) hb42
          clear hb42 hB41
          refine hK _ _ (HK.out _ hB42) ?_
          try simp only [Act.put, List.setIfInBounds_toArray, List.set_cons_zero, List.set_cons_succ]
          clear hK K
          refine take_op (i := 5) (v := _) rfl (by kernel_rfl) (by kernel_rfl) (by kernel_rfl) (fun _ _ _ h => h) (Or.inl ⟨by rfl, (by intro w hSw; (try dsimp only at hSw); go_simp; try with_reducible rfl)⟩) (HK.out _ hB42) ?_
          try simp only [Act.put, List.setIfInBounds_toArray, List.set_cons_zero, List.set_cons_succ]
          refine take_op (i := 6) (v := _) rfl (by kernel_rfl) (by kernel_rfl) (by kernel_rfl) (fun _ _ _ h => h) (Or.inl ⟨by rfl, (by intro w hSw; (try dsimp only at hSw); go_simp; try with_reducible rfl)⟩) (HK.out _ hB42) ?_
          try simp only [Act.put, List.setIfInBounds_toArray, List.set_cons_zero, List.set_cons_succ]
          refine take_op (i := 7) (v := _) rfl (by kernel_rfl) (by kernel_rfl) (by kernel_rfl) (fun _ _ _ h => h) (Or.inl ⟨by rfl, (by intro w hSw; (try dsimp only at hSw); go_simp; try with_reducible rfl)⟩) (HK.out _ hB42) ?_
          try simp only [Act.put, List.setIfInBounds_toArray, List.set_cons_zero, List.set_cons_succ]
          refine one_op 8 (by kernel_rfl) rfl (by rfl) (fun K hK => ?_)
          go_simp
          refine (valid_yes nc A3 m3.length c3 m3 _ _ (Kc.out _ hB42) (by omega) Qc.out).mono ?_
          rintro e w43 ⟨rfl, hb43⟩
          have hB43 : Below W.heap.size W w43 := step_below hB42 (Nat.le_refl _) hb43
          clear hb43 hB42
          refine hK _ _ (HK.out _ hB43) ?_
          try simp only [Act.put, List.setIfInBounds_toArray, List.set_cons_zero, List.set_cons_succ]
          clear hK K
          refine take_op (i := 9) (v := _) rfl (by kernel_rfl) (by kernel_rfl) (by kernel_rfl) (fun _ _ _ h => h) (Or.inl ⟨by rfl, (by intro w hSw; (try dsimp only at hSw); go_simp; try with_reducible rfl)⟩) (HK.out _ hB43) ?_
          try simp only [Act.put, List.setIfInBounds_toArray, List.set_cons_zero, List.set_cons_succ]
          refine take_op (i := 10) (v := _) rfl (by kernel_rfl) (by kernel_rfl) (by kernel_rfl) (fun _ _ _ h => h) (Or.inl ⟨by rfl, (by intro w hSw; (try dsimp only at hSw); go_simp; try with_reducible rfl)⟩) (HK.out _ hB43) ?_
          try simp only [Act.put, List.setIfInBounds_toArray, List.set_cons_zero, List.set_cons_succ]
          refine take_op (i := 11) (v := _) rfl (by kernel_rfl) (by kernel_rfl) (by kernel_rfl) (fun _ _ _ h => h) (Or.inl ⟨by rfl, (by intro w hSw; (try dsimp only at hSw); go_simp; try with_reducible rfl)⟩) (HK.out _ hB43) ?_
          try simp only [Act.put, List.setIfInBounds_toArray, List.set_cons_zero, List.set_cons_succ]
          refine take_op (i := 12) (v := _) rfl (by kernel_rfl) (by kernel_rfl) (by kernel_rfl) (fun _ _ _ h => h) (Or.inl ⟨by rfl, (by intro w hSw; (try dsimp only at hSw); go_simp; try with_reducible rfl)⟩) (HK.out _ hB43) ?_
          try simp only [Act.put, List.setIfInBounds_toArray, List.set_cons_zero, List.set_cons_succ]
          refine take_op (i := 14) (v := _) rfl (by kernel_rfl) (by kernel_rfl) (by kernel_rfl) (fun _ _ _ h => h) (Or.inl ⟨by rfl, (by intro w hSw; (try dsimp only at hSw); go_simp; try with_reducible rfl)⟩) (HK.out _ hB43) ?_
          try simp only [Act.put, List.setIfInBounds_toArray, List.set_cons_zero, List.set_cons_succ]
          refine one_op 13 (by kernel_rfl) rfl (by rfl) (fun K hK => ?_)
          go_simp
          refine (contains_as g A1 m1.length c1 m1 s true _ (Ku.out _ hB43) (by omega) ((Qu.out.2 s).trans (or_vals HX.out HY.out))).mono ?_
          rintro e w44 ⟨rfl, hb44⟩
          have hB44 : Below W.heap.size W w44 := step_below hB43 (Nat.le_refl _) hb44
          clear hb44 hB43
          refine hK _ _ (HK.out _ hB44) ?_
          try simp only [Act.put, List.setIfInBounds_toArray, List.set_cons_zero, List.set_cons_succ]
          clear hK K
          refine take_op (i := 15) (v := _) rfl (by kernel_rfl) (by kernel_rfl) (by kernel_rfl) (fun _ _ _ h => h) (Or.inl ⟨by rfl, (by intro w hSw; (try dsimp only at hSw); go_simp; try with_reducible rfl)⟩) (HK.out _ hB44) ?_
          try simp only [Act.put, List.setIfInBounds_toArray, List.set_cons_zero, List.set_cons_succ]
          refine take_op (i := 16) (v := undef) rfl (by kernel_rfl) (by kernel_rfl) (by kernel_rfl) (fun _ _ _ h => h) (Or.inr ⟨by rfl, rfl⟩) (HK.out _ hB44) ?_
          try simp only [Act.put, List.setIfInBounds_toArray, List.set_cons_zero, List.set_cons_succ]
          refine take_op (i := 17) (v := _) rfl (by kernel_rfl) (by kernel_rfl) (by kernel_rfl) (fun _ _ _ h => h) (Or.inl ⟨by rfl, (by intro w hSw; (try dsimp only at hSw); go_simp; try with_reducible rfl)⟩) (HK.out _ hB44) ?_
          try simp only [Act.put, List.setIfInBounds_toArray, List.set_cons_zero, List.set_cons_succ]
          refine take_op (i := 18) (v := _) rfl (by kernel_rfl) (by kernel_rfl) (by kernel_rfl) (fun _ _ _ h => h) (Or.inl ⟨by rfl, (by intro w hSw; (try dsimp only at hSw); go_simp; try with_reducible rfl)⟩) (HK.out _ hB44) ?_
          try simp only [Act.put, List.setIfInBounds_toArray, List.set_cons_zero, List.set_cons_succ]
          refine take_op (i := 19) (v := _) rfl (by kernel_rfl) (by kernel_rfl) (by kernel_rfl) (fun _ _ _ h => h) (Or.inl ⟨by rfl, (by intro w hSw; (try dsimp only at hSw); go_simp; try with_reducible rfl)⟩) (HK.out _ hB44) ?_
          try simp only [Act.put, List.setIfInBounds_toArray, List.set_cons_zero, List.set_cons_succ]
          refine take_op (i := 20) (v := _) rfl (by kernel_rfl) (by kernel_rfl) (by kernel_rfl) (fun _ _ _ h => h) (Or.inl ⟨by rfl, (by intro w hSw; (try dsimp only at hSw); go_simp; try with_reducible rfl)⟩) (HK.out _ hB44) ?_
          try simp only [Act.put, List.setIfInBounds_toArray, List.set_cons_zero, List.set_cons_succ]
          refine take_op (i := 21) (v := _) rfl (by kernel_rfl) (by kernel_rfl) (by kernel_rfl) (fun _ _ _ h => h) (Or.inl ⟨by rfl, (by intro w hSw; (try dsimp only at hSw); go_simp; try with_reducible rfl)⟩) (HK.out _ hB44) ?_
          try simp only [Act.put, List.setIfInBounds_toArray, List.set_cons_zero, List.set_cons_succ]
          refine take_op (i := 22) (v := _) rfl (by kernel_rfl) (by kernel_rfl) (by kernel_rfl) (fun _ _ _ h => h) (Or.inl ⟨by rfl, (by intro w hSw; (try dsimp only at hSw); go_simp; try with_reducible rfl)⟩) (HK.out _ hB44) ?_
          try simp only [Act.put, List.setIfInBounds_toArray, List.set_cons_zero, List.set_cons_succ]
          refine take_op (i := 24) (v := _) rfl (by kernel_rfl) (by kernel_rfl) (by kernel_rfl) (fun _ _ _ h => h) (Or.inl ⟨by rfl, (by intro w hSw; (try dsimp only at hSw); go_simp; try with_reducible rfl)⟩) (HK.out _ hB44) ?_
          try simp only [Act.put, List.setIfInBounds_toArray, List.set_cons_zero, List.set_cons_succ]
          refine one_op 23 (by kernel_rfl) rfl (by rfl) (fun K hK => ?_)
          go_simp
          refine (contains_as f A2 m2.length c2 m2 s true _ (Ki.out _ hB44) (by omega) ((Qi.out.2 s).trans (and_vals HX.out HY.out))).mono ?_
          rintro e w45 ⟨rfl, hb45⟩
          have hB45 : Below W.heap.size W w45 := step_below hB44 (Nat.le_refl _) hb45
          clear hb45 hB44
          refine hK _ _ (HK.out _ hB45) ?_
          try simp only [Act.put, List.setIfInBounds_toArray, List.set_cons_zero, List.set_cons_succ]
          clear hK K
          refine take_op (i := 25) (v := _) rfl (by kernel_rfl) (by kernel_rfl) (by kernel_rfl) (fun _ _ _ h => h) (Or.inl ⟨by rfl, (by intro w hSw; (try dsimp only at hSw); go_simp; try with_reducible rfl)⟩) (HK.out _ hB45) ?_
          try simp only [Act.put, List.setIfInBounds_toArray, List.set_cons_zero, List.set_cons_succ]
          refine take_op (i := 26) (v := _) rfl (by kernel_rfl) (by kernel_rfl) (by kernel_rfl) (fun _ _ _ h => h) (Or.inl ⟨by rfl, (by intro w hSw; (try dsimp only at hSw); go_simp; try with_reducible rfl)⟩) (HK.out _ hB45) ?_
          try simp only [Act.put, List.setIfInBounds_toArray, List.set_cons_zero, List.set_cons_succ]
          refine take_op (i := 27) (v := _) rfl (by kernel_rfl) (by kernel_rfl) (by kernel_rfl) (fun _ _ _ h => h) (Or.inl ⟨by rfl, (by intro w hSw; (try dsimp only at hSw); go_simp; try with_reducible rfl)⟩) (HK.out _ hB45) ?_
          try simp only [Act.put, List.setIfInBounds_toArray, List.set_cons_zero, List.set_cons_succ]
          refine take_op (i := 28) (v := _) rfl (by kernel_rfl) (by kernel_rfl) (by kernel_rfl) (fun _ _ _ h => h) (Or.inl ⟨by rfl, (by intro w hSw; (try dsimp only at hSw); go_simp; try with_reducible rfl)⟩) (HK.out _ hB45) ?_
          try simp only [Act.put, List.setIfInBounds_toArray, List.set_cons_zero, List.set_cons_succ]
          refine take_op (i := 29) (v := _) rfl (by kernel_rfl) (by kernel_rfl) (by kernel_rfl) (fun _ _ _ h => h) (Or.inl ⟨by rfl, (by intro w hSw; (try dsimp only at hSw); go_simp; try with_reducible rfl)⟩) (HK.out _ hB45) ?_
          try simp only [Act.put, List.setIfInBounds_toArray, List.set_cons_zero, List.set_cons_succ]
          refine take_op (i := 30) (v := _) rfl (by kernel_rfl) (by kernel_rfl) (by kernel_rfl) (fun _ _ _ h => h) (Or.inl ⟨by rfl, (by intro w hSw; (try dsimp only at hSw); go_simp; try with_reducible rfl)⟩) (HK.out _ hB45) ?_
          try simp only [Act.put, List.setIfInBounds_toArray, List.set_cons_zero, List.set_cons_succ]
          refine take_op (i := 31) (v := _) rfl (by kernel_rfl) (by kernel_rfl) (by kernel_rfl) (fun _ _ _ h => h) (Or.inl ⟨by rfl, (by intro w hSw; (try dsimp only at hSw); go_simp; try with_reducible rfl)⟩) (HK.out _ hB45) ?_
          try simp only [Act.put, List.setIfInBounds_toArray, List.set_cons_zero, List.set_cons_succ]
          refine take_op (i := 32) (v := _) rfl (by kernel_rfl) (by kernel_rfl) (by kernel_rfl) (fun _ _ _ h => h) (Or.inl ⟨by rfl, (by intro w hSw; (try dsimp only at hSw); go_simp; try with_reducible rfl)⟩) (HK.out _ hB45) ?_
          try simp only [Act.put, List.setIfInBounds_toArray, List.set_cons_zero, List.set_cons_succ]
          refine take_op (i := 34) (v := _) rfl (by kernel_rfl) (by kernel_rfl) (by kernel_rfl) (fun _ _ _ h => h) (Or.inl ⟨by rfl, (by intro w hSw; (try dsimp only at hSw); go_simp; try with_reducible rfl)⟩) (HK.out _ hB45) ?_
          try simp only [Act.put, List.setIfInBounds_toArray, List.set_cons_zero, List.set_cons_succ]
          refine take_op (i := 35) (v := _) rfl (by kernel_rfl) (by kernel_rfl) (by kernel_rfl) (fun _ _ _ h => h) (Or.inl ⟨by rfl, (by intro w hSw; (try dsimp only at hSw); go_simp; try with_reducible rfl)⟩) (HK.out _ hB45) ?_
          try simp only [Act.put, List.setIfInBounds_toArray, List.set_cons_zero, List.set_cons_succ]
          refine one_op 33 (by kernel_rfl) rfl (by rfl) (fun K hK => ?_)
          go_simp
          refine (contains_as nc A3 m3.length c3 m3 s false _ (Kc.out _ hB45) (by omega) ((Qc.out.2 s).trans ((inN_neg HN.out rs s).trans (congrArg not HX.out)))).mono ?_
          rintro e w46 ⟨rfl, hb46⟩
          have hB46 : Below W.heap.size W w46 := step_below hB45 (Nat.le_refl _) hb46
          clear hb46 hB45
          refine hK _ _ (HK.out _ hB46) ?_
          try simp only [Act.put, List.setIfInBounds_toArray, List.set_cons_zero, List.set_cons_succ]
          clear hK K
          refine take_op (i := 36) (v := _) rfl (by kernel_rfl) (by kernel_rfl) (by kernel_rfl) (fun _ _ _ h => h) (Or.inl ⟨by rfl, (by intro w hSw; (try dsimp only at hSw); go_simp; try with_reducible rfl)⟩) (HK.out _ hB46) ?_
          try simp only [Act.put, List.setIfInBounds_toArray, List.set_cons_zero, List.set_cons_succ]
          refine take_op (i := 37) (v := _) rfl (by kernel_rfl) (by kernel_rfl) (by kernel_rfl) (fun _ _ _ h => h) (Or.inl ⟨by rfl, (by intro w hSw; (try dsimp only at hSw); go_simp; try with_reducible rfl)⟩) (HK.out _ hB46) ?_
          try simp only [Act.put, List.setIfInBounds_toArray, List.set_cons_zero, List.set_cons_succ]
          refine take_op (i := 38) (v := _) rfl (by kernel_rfl) (by kernel_rfl) (by kernel_rfl) (fun _ _ _ h => h) (Or.inl ⟨by rfl, (by intro w hSw; (try dsimp only at hSw); go_simp; try with_reducible rfl)⟩) (HK.out _ hB46) ?_
          try simp only [Act.put, List.setIfInBounds_toArray, List.set_cons_zero, List.set_cons_succ]
          refine take_op (i := 39) (v := _) rfl (by kernel_rfl) (by kernel_rfl) (by kernel_rfl) (fun _ _ _ h => h) (Or.inl ⟨by rfl, (by intro w hSw; (try dsimp only at hSw); go_simp; try with_reducible rfl)⟩) (HK.out _ hB46) ?_
          try simp only [Act.put, List.setIfInBounds_toArray, List.set_cons_zero, List.set_cons_succ]
          refine take_op (i := 40) (v := _) rfl (by kernel_rfl) (by kernel_rfl) (by kernel_rfl) (fun _ _ _ h => h) (Or.inl ⟨by rfl, (by intro w hSw; (try dsimp only at hSw); go_simp; try with_reducible rfl)⟩) (HK.out _ hB46) ?_
          try simp only [Act.put, List.setIfInBounds_toArray, List.set_cons_zero, List.set_cons_succ]
          refine take_op (i := 41) (v := _) rfl (by kernel_rfl) (by kernel_rfl) (by kernel_rfl) (fun _ _ _ h => h) (Or.inl ⟨by rfl, (by intro w hSw; (try dsimp only at hSw); go_simp; try with_reducible rfl)⟩) (HK.out _ hB46) ?_
          try simp only [Act.put, List.setIfInBounds_toArray, List.set_cons_zero, List.set_cons_succ]
          refine one_op 42 (by kernel_rfl) rfl (by rfl) (fun K hK => ?_)
          go_simp
          refine (unionNames_as co co' g A A' n c n' c' rs rs' _ (Ka.out _ hB46) (Kb.out _ hB46) (by omega) (by omega) HG.out).mono ?_
          rintro e w47 ⟨m47, A47, c47, rfl, ho47, hs47, hq47, hk47, hb47⟩
          have hB47 : Below W.heap.size W w47 := step_below hB46 (Nat.le_refl _) hb47
          have K47 := kept_set ho47 hs47
          have Q47 := Lib.hid hq47
          have t47_47 : Below w47.heap.size w47 w47 := Below.refl _ _
          clear ho47 hq47
          clear hb47 hB46
          refine hK _ _ (HK.out _ hB47) ?_
          try simp only [Act.put, List.setIfInBounds_toArray, List.set_cons_zero, List.set_cons_succ]
          clear hK K
          refine one_op 43 (by kernel_rfl) rfl (by rfl) (fun K hK => ?_)
          go_simp
          refine (same_yes g g A1 A47 m1.length m47.length c1 c47 m1 m47 _ (Ku.out _ hB47) (K47 _ t47_47) (by omega) (by omega) rfl (isSet_unique Qu.out Q47.out fun _ => rfl)).mono ?_
          rintro e w48 ⟨rfl, hb48⟩
          have hB48 : Below W.heap.size W w48 := step_below hB47 (Nat.le_refl _) hb48
          have t47_48 := step_on t47_47 hb48
          clear hb48 hB47 t47_47
          refine hK _ _ (HK.out _ hB48) ?_
          try simp only [Act.put, List.setIfInBounds_toArray, List.set_cons_zero, List.set_cons_succ]
          clear hK K
          refine take_op (i := 44) (v := _) rfl (by kernel_rfl) (by kernel_rfl) (by kernel_rfl) (fun _ _ _ h => h) (Or.inl ⟨by rfl, (by intro w hSw; (try dsimp only at hSw); go_simp; try with_reducible rfl)⟩) (HK.out _ hB48) ?_
          try simp only [Act.put, List.setIfInBounds_toArray, List.set_cons_zero, List.set_cons_succ]
          refine take_op (i := 45) (v := _) rfl (by kernel_rfl) (by kernel_rfl) (by kernel_rfl) (fun _ _ _ h => h) (Or.inl ⟨by rfl, (by intro w hSw; (try dsimp only at hSw); go_simp; try with_reducible rfl)⟩) (HK.out _ hB48) ?_
          try simp only [Act.put, List.setIfInBounds_toArray, List.set_cons_zero, List.set_cons_succ]
          refine take_op (i := 46) (v := _) rfl (by kernel_rfl) (by kernel_rfl) (by kernel_rfl) (fun _ _ _ h => h) (Or.inl ⟨by rfl, (by intro w hSw; (try dsimp only at hSw); go_simp; try with_reducible rfl)⟩) (HK.out _ hB48) ?_
          try simp only [Act.put, List.setIfInBounds_toArray, List.set_cons_zero, List.set_cons_succ]
          refine take_op (i := 47) (v := _) rfl (by kernel_rfl) (by kernel_rfl) (by kernel_rfl) (fun _ _ _ h => h) (Or.inl ⟨by rfl, (by intro w hSw; (try dsimp only at hSw); go_simp; try with_reducible rfl)⟩) (HK.out _ hB48) ?_
          try simp only [Act.put, List.setIfInBounds_toArray, List.set_cons_zero, List.set_cons_succ]
          refine take_op (i := 48) (v := _) rfl (by kernel_rfl) (by kernel_rfl) (by kernel_rfl) (fun _ _ _ h => h) (Or.inl ⟨by rfl, (by intro w hSw; (try dsimp only at hSw); go_simp; try with_reducible rfl)⟩) (HK.out _ hB48) ?_
          try simp only [Act.put, List.setIfInBounds_toArray, List.set_cons_zero, List.set_cons_succ]
          refine one_op 49 (by kernel_rfl) rfl (by rfl) (fun K hK => ?_)
          go_simp
          refine (intersectNames_as co co' f A A' n c n' c' rs rs' _ (Ka.out _ hB48) (Kb.out _ hB48) (by omega) (by omega) HF.out).mono ?_
          rintro e w49 ⟨m49, A49, c49, rfl, ho49, hs49, hq49, hk49, hb49⟩
          have hB49 : Below W.heap.size W w49 := step_below hB48 (Nat.le_refl _) hb49
          have t47_49 := step_on t47_48 hb49
          have K49 := kept_set ho49 hs49
          have Q49 := Lib.hid hq49
          have t49_49 : Below w49.heap.size w49 w49 := Below.refl _ _
          clear ho49 hq49
          clear hb49 hB48 t47_48
          refine hK _ _ (HK.out _ hB49) ?_
          try simp only [Act.put, List.setIfInBounds_toArray, List.set_cons_zero, List.set_cons_succ]
          clear hK K
          refine one_op 50 (by kernel_rfl) rfl (by rfl) (fun K hK => ?_)
          go_simp
          refine (same_yes f f A2 A49 m2.length m49.length c2 c49 m2 m49 _ (Ki.out _ hB49) (K49 _ t49_49) (by omega) (by omega) rfl (isSet_unique Qi.out Q49.out fun _ => rfl)).mono ?_
          rintro e w50 ⟨rfl, hb50⟩
          have hB50 : Below W.heap.size W w50 := step_below hB49 (Nat.le_refl _) hb50
          have t47_50 := step_on t47_49 hb50
          have t49_50 := step_on t49_49 hb50
          clear hb50 hB49 t47_49 t49_49
          refine hK _ _ (HK.out _ hB50) ?_
          try simp only [Act.put, List.setIfInBounds_toArray, List.set_cons_zero, List.set_cons_succ]
          clear hK K
          refine take_op (i := 51) (v := _) rfl (by kernel_rfl) (by kernel_rfl) (by kernel_rfl) (fun _ _ _ h => h) (Or.inl ⟨by rfl, (by intro w hSw; (try dsimp only at hSw); go_simp; try with_reducible rfl)⟩) (HK.out _ hB50) ?_
          try simp only [Act.put, List.setIfInBounds_toArray, List.set_cons_zero, List.set_cons_succ]
          refine take_op (i := 52) (v := _) rfl (by kernel_rfl) (by kernel_rfl) (by kernel_rfl) (fun _ _ _ h => h) (Or.inl ⟨by rfl, (by intro w hSw; (try dsimp only at hSw); go_simp; try with_reducible rfl)⟩) (HK.out _ hB50) ?_
          try simp only [Act.put, List.setIfInBounds_toArray, List.set_cons_zero, List.set_cons_succ]
          refine one_op 53 (by kernel_rfl) rfl (by rfl) (fun K hK => ?_)
          go_simp
          refine (awake_any _).mono ?_
          rintro e w51 ⟨rfl, hb51⟩
          have hB51 : Below W.heap.size W w51 := step_below hB50 (Nat.le_refl _) hb51
          have t47_51 := step_on t47_50 hb51
          have t49_51 := step_on t49_50 hb51
          clear hb51 hB50 t47_50 t49_50
          refine hK _ _ (HK.out _ hB51) ?_
          try simp only [Act.put, List.setIfInBounds_toArray, List.set_cons_zero, List.set_cons_succ]
          clear hK K
          refine take_op (i := 54) (v := _) rfl (by kernel_rfl) (by kernel_rfl) (by kernel_rfl) (fun _ _ _ h => h) (Or.inl ⟨by rfl, (by intro w hSw; (try dsimp only at hSw); go_simp; try with_reducible rfl)⟩) (HK.out _ hB51) ?_
          try simp only [Act.put, List.setIfInBounds_toArray, List.set_cons_zero, List.set_cons_succ]
          refine take_op (i := 55) (v := _) rfl (by kernel_rfl) (by kernel_rfl) (by kernel_rfl) (fun _ _ _ h => h) (Or.inl ⟨by rfl, (by intro w hSw; (try dsimp only at hSw); go_simp; try with_reducible rfl)⟩) (HK.out _ hB51) ?_
          try simp only [Act.put, List.setIfInBounds_toArray, List.set_cons_zero, List.set_cons_succ]
          refine wpAnyH_done (by kernel_rfl) ?_ _
          go_wp2
          go_ret
          exact ⟨rfl, HBW.out.trans (hB51.mono HBW.out.size)⟩
      · rintro ⟨b2, b5, b7, b8, b9, b10⟩ a wq i ⟨u20, u23, u25, u7, u8, u9, rfl, hB, h2, h5, h7, h8, h9, h10, n1, n2, n3⟩ hk
        simp only [Bool.or_eq_true, Bool.and_eq_true, beq_iff_eq, Bool.not_eq_true'] at hk
        subst hA
        have hzq : w.heap.size + 3 ≤ wq.heap.size := by have := hB.size; omega
        rcases hk with ((((⟨rfl, rfl⟩ | ⟨rfl, rfl, rfl⟩) | ⟨rfl, rfl, rfl, rfl⟩) | ⟨rfl, rfl⟩) | ⟨rfl, rfl⟩) | ⟨rfl, rfl⟩
        · refine step_op rfl (by rfl) (fun K hK => ?_)
          simp only [Act.put, List.setIfInBounds_toArray, List.set_cons_zero, List.set_cons_succ]
          go_simp
          refine (union_as co co' g A A' n c n' c' rs rs' _ (HR.out.on (HB1.out.trans (hB.mono hlt))) (HR'.out.on (HB1.out.trans (hB.mono hlt))) (by omega) (by omega) HG.out).mono ?_
          intro e w1 hret
          obtain ⟨v, rfl, hv, hb⟩ := hret.setF hzq
          have hB' := step_below hB (by omega) hb
          exact hK _ _ ⟨HK.out _ hB', ⟨true, false, false, b8, b9, b10⟩, rfl, v, u23, u25, u7, u8, u9, rfl, hB', fun _ => hv, nofun, nofun, fun h => (h8 h).old hb, fun h => (h9 h).old hb, fun h => (h10 h).old hb, n1, n2, n3⟩
        · refine step_op rfl (by rfl) (fun K hK => ?_)
          simp only [Act.put, List.setIfInBounds_toArray, List.set_cons_zero, List.set_cons_succ]
          go_simp
          refine (intersect_as co co' f A A' n c n' c' rs rs' _ (HR.out.on (HB1.out.trans (hB.mono hlt))) (HR'.out.on (HB1.out.trans (hB.mono hlt))) (by omega) (by omega) HF.out).mono ?_
          intro e w1 hret
          obtain ⟨v, rfl, hv, hb⟩ := hret.setF hzq
          have hB' := step_below hB (by omega) hb
          exact hK _ _ ⟨HK.out _ hB', ⟨true, true, false, b8, b9, b10⟩, rfl, u20, v, u25, u7, u8, u9, rfl, hB', fun h => (h2 h).old hb, fun _ => hv, nofun, fun h => (h8 h).old hb, fun h => (h9 h).old hb, fun h => (h10 h).old hb, n1, n2, n3⟩
        · refine step_op rfl (by rfl) (fun K hK => ?_)
          simp only [Act.put, List.setIfInBounds_toArray, List.set_cons_zero, List.set_cons_succ]
          go_simp
          refine (complement_as co nc A n c rs _ (HR.out.on (HB1.out.trans (hB.mono hlt))) (by omega) HN.out).mono ?_
          intro e w1 hret
          obtain ⟨v, rfl, hv, hb⟩ := hret.setF hzq
          have hB' := step_below hB (by omega) hb
          exact hK _ _ ⟨HK.out _ hB', ⟨true, true, true, b8, b9, b10⟩, rfl, u20, u23, v, u7, u8, u9, rfl, hB', fun h => (h2 h).old hb, fun h => (h5 h).old hb, fun _ => hv, fun h => (h8 h).old hb, fun h => (h9 h).old hb, fun h => (h10 h).old hb, n1, n2, n3⟩
        · refine step_op rfl (by rfl) (fun K hK => ?_)
          simp only [Act.put, List.setIfInBounds_toArray, List.set_cons_zero, List.set_cons_succ]
          go_simp
          have hb : Below wq.heap.size wq (wq.alloc (.cells #[.bool false, .slice none 0 0] 24)) := (Below.refl _ _).alloc (Nat.le_refl _) _
          have hB' := step_below hB (by omega) hb
          exact hK _ _ ⟨HK.out _ hB', ⟨b2, b5, b7, true, b9, b10⟩, rfl, u20, u23, u25, _, u8, u9, rfl, hB', fun h => (h2 h).old hb, fun h => (h5 h).old hb, fun h => (h7 h).old hb, fun _ => BoxF.new _ hzq _ _, fun h => (h9 h).old hb, fun h => (h10 h).old hb, fun _ h => (h9 h).ne.symm, fun _ h => (h10 h).ne.symm, n3⟩
        · refine step_op rfl (by rfl) (fun K hK => ?_)
          simp only [Act.put, List.setIfInBounds_toArray, List.set_cons_zero, List.set_cons_succ]
          go_simp
          have hb : Below wq.heap.size wq (wq.alloc (.cells #[.bool false, .slice none 0 0] 24)) := (Below.refl _ _).alloc (Nat.le_refl _) _
          have hB' := step_below hB (by omega) hb
          exact hK _ _ ⟨HK.out _ hB', ⟨b2, b5, b7, b8, true, b10⟩, rfl, u20, u23, u25, u7, _, u9, rfl, hB', fun h => (h2 h).old hb, fun h => (h5 h).old hb, fun h => (h7 h).old hb, fun h => (h8 h).old hb, fun _ => BoxF.new _ hzq _ _, fun h => (h10 h).old hb, fun h _ => (h8 h).ne, n2, fun _ h => (h10 h).ne.symm⟩
        · refine step_op rfl (by rfl) (fun K hK => ?_)
          simp only [Act.put, List.setIfInBounds_toArray, List.set_cons_zero, List.set_cons_succ]
          go_simp
          have hb : Below wq.heap.size wq (wq.alloc (.cells #[.bool false, .slice none 0 0] 24)) := (Below.refl _ _).alloc (Nat.le_refl _) _
          have hB' := step_below hB (by omega) hb
          exact hK _ _ ⟨HK.out _ hB', ⟨b2, b5, b7, b8, b9, true⟩, rfl, u20, u23, u25, u7, u8, _, rfl, hB', fun h => (h2 h).old hb, fun h => (h5 h).old hb, fun h => (h7 h).old hb, fun h => (h8 h).old hb, fun h => (h9 h).old hb, fun _ => BoxF.new _ hzq _ _, n1, fun h _ => (h8 h).ne, fun h _ => (h9 h).ne⟩
      · exact ⟨undef, undef, undef, undef, undef, undef, by subst hA; rfl, (Below.refl _ _).drew, nofun, nofun, nofun, nofun, nofun, nofun, nofun, nofun, nofun⟩
    · rw [decide_eq_true hn1, decide_eq_false hn2, Bool.and_false] at hs
      go_enter Try.func4, Try.ntmps4
      go_wp2_with (go_at_call 8; refine hs.mono ?_; rintro e w1 ⟨rfl, rfl⟩; refine Hid.out ?_)
      refine Lib.hid ?_
      go_wp2_with (go_at_call 9; refine (awake_any _).mono ?_; rintro e w2 ⟨rfl, hb2⟩; refine Hid.out ?_)
      refine Lib.hid ?_
      go_wp2
      go_ret
      exact ⟨rfl, hb1.trans (hb2.mono hb1.size)⟩
  · rw [decide_eq_false hn1, Bool.false_and] at hs
    go_enter Try.func4, Try.ntmps4
    go_wp2_with (go_at_call 8; refine hs.mono ?_; rintro e w1 ⟨rfl, rfl⟩; refine Hid.out ?_)
    refine Lib.hid ?_
    go_wp2_with (go_at_call 9; refine (awake_any _).mono ?_; rintro e w2 ⟨rfl, hb2⟩; refine Hid.out ?_)
    refine Lib.hid ?_
    go_wp2
    go_ret
    exact ⟨rfl, hb1.trans (hb2.mono hb1.size)⟩
end Go.Proofs.Ytkmfpkdcedfgfaa
