/- The law DiagramValid. -/
import Derived.Test.YtplmbmecjhmiiaaVDA6
import Derived.Test.YtplmbmecjhmiiaaDrawn6
import Derived.Test.YtplmbmecjhmiiaaAwake6
namespace Go.Proofs.Ytplmbmecjhmiiaa
open Go Go.RowKit
/-- an index out of a number, as a law makes it -/
theorem remU (x : Int) (n : Nat) (h0 : 0 < n) (hn : n ≤ 100000) : ∃ k : Nat, k < n ∧ Hid (IntKind.i64.wrap (Int.tmod (IntKind.u64.wrap x) (IntKind.u64.wrap (n : Int))) = (k : Int)) := by
  have hu : IntKind.u64.wrap (n : Int) = (n : Int) := by rw [IntKind.wrap_u64]; omega
  have hx : ∃ y : Nat, IntKind.u64.wrap x = (y : Int) := ⟨(IntKind.u64.wrap x).toNat, by rw [IntKind.wrap_u64]; omega⟩
  obtain ⟨y, hy⟩ := hx
  rw [hu, hy]
  have hm : Int.tmod (y : Int) (n : Int) = ((y % n : Nat) : Int) := by rw [Int.tmod_eq_emod_of_nonneg (by omega)]; rfl
  have hlt := Nat.mod_lt y h0
  rw [hm]
  generalize y % n = k at *
  exact ⟨k, hlt, Lib.hid (IntWalk.i64_in _ (by omega))⟩
theorem OwnNd.kept1 {w w' : World} {base : Nat} {v : Value} {l : List Nd} (h : OwnNd w base v l) (hs : w.heap.size ≤ w'.heap.size) (hb : ∀ g, v.ownBlock = some g → w'.heap[g]? = w.heap[g]?) : OwnNd w' base v l := by
  obtain ⟨xs, ho, hx⟩ := h
  refine ⟨xs, ⟨ho.1, ?_⟩, fun j x hj => hx j x hj⟩
  rcases ho.2 with hn | ⟨g, cap, cur, rfl, hB, hg, rest⟩
  · exact .inl hn
  · exact .inr ⟨g, cap, cur, rfl, hB, (hb g rfl).trans hg, rest⟩
theorem OwnNd.down {w : World} {base base' : Nat} {v : Value} {l : List Nd} (h : OwnNd w base v l) (hb : base' ≤ base) : OwnNd w base' v l := by
  obtain ⟨xs, ho, hx⟩ := h
  refine ⟨xs, ⟨ho.1, ?_⟩, fun j x hj => hx j x hj⟩
  rcases ho.2 with hn | ⟨g, cap, cur, rfl, hB, rest⟩
  · exact .inl hn
  · exact .inr ⟨g, cap, cur, rfl, Nat.le_trans hb hB, rest⟩
theorem OwnNd.typed {w : World} {base g : Nat} {v : Value} {l : List Nd} (h : OwnNd w base v l) (hg : v.ownBlock = some g) : base ≤ g ∧ ∃ cur, w.heap[g]? = some (.cells cur 32 (0, 0)) := by
  obtain ⟨xs, ho, _⟩ := h
  rcases ho.2 with ⟨rfl, _⟩ | ⟨g', cap, cur, rfl, hB, hg', _⟩
  · simp [Value.ownBlock] at hg
  · simp [Value.ownBlock] at hg
    subst hg
    exact ⟨hB, cur, hg'⟩
/-- a store into a variable of another type -/
theorem OwnNd.setbox {w : World} {base b i : Nat} {v u : Value} {l : List Nd} {T : TypeId} {cs : Array Value} (h : OwnNd w base v l) (hb : w.heap[b]? = some (.cells cs T (0, 0))) (hT : T ≠ 32) : OwnNd (w.setCell ⟨b, i, none⟩ u) base v l :=
  h.kept1 (by simp) fun g hg => heap_setCell_other _ _ _ _ fun e => by
    obtain ⟨_, cur, hcur⟩ := h.typed hg
    rw [e, hb] at hcur
    simp at hcur
    exact hT hcur.2
/-- a copy of a list of nodes -/
theorem more_nd (w : World) (A : Option Addr) (n c : Nat) (us : List Nd) (h : NdR w (fun b => b < w.heap.size) A n c (us.map ni)) (hn : us.length = n) (hl : n ≤ 100000) : ∃ A' c' w1, (Builtin.append_ #[22, 22] 22 #[.slice none 0 0, .slice A n c]).run Try.prog w = .ok (.slice A' n c') w1 ∧ OwnNd w1 w.heap.size (.slice A' n c') us ∧ Below w.heap.size w w1 := by
  obtain ⟨i0, hi, hz0, hz1, hz2⟩ := info_parts Try.infoN
  have h1c : ∀ (x : Nd) (w : World) (B : Nat → Prop) (cs : List Value), elN.E x w B cs → ∀ u ∈ cs, u.oneCell' = true := fun x w B cs h u hu => by
    have h' : cs = C3 (ni x) := h
    rw [h'] at hu
    simp [C3, ni] at hu
    rcases hu with rfl | rfl | rfl <;> rfl
  obtain ⟨v1, w1, hr1, hO1, hb1, _, _⟩ := app_row elN 22 22 32 i0 (.agg #[.int .i64 0, .int .i64 0, .int .i64 0]) 3 24 Try.underlying22 hi hz0 hz1 hz2 rfl (by decide) (by decide) h1c w w.heap.size (.slice none 0 0) [] (OwnE.nil _ _ _ _ _) A n c us hn (fun b => b < w.heap.size) (RowB.sub h.2 (fun _ h => h) (fun j cs ⟨x, h1, h2⟩ => by
    rw [List.getElem?_map] at h1
    cases hu : us[j]? with
    | none => rw [hu] at h1; cases h1
    | some y => rw [hu] at h1; cases h1; exact ⟨y, rfl, h2⟩)) (by simp; omega) (Nat.le_refl _)
  rw [List.nil_append] at hO1
  obtain ⟨A', c', rfl⟩ := hO1.form
  rw [hn] at hr1 hO1
  exact ⟨A', c', w1, hr1, hO1, hb1⟩
theorem agg3_of {cs : List Value} (h : cs.length = 3) : ∃ a b c, cs = [a, b, c] := by
  match cs, h with
  | [a, b, c], _ => exact ⟨a, b, c, rfl⟩
/-- one reference of a list of nodes changed -/
theorem NdR.put {w : World} {B : Nat → Prop} {g n c k : Nat} {is : List (Int × Int × Int)} {x : Int × Int × Int} {cur : Array Value} {T : TypeId} (h : NdR w B (some ⟨g, 0, none⟩) n c is) (hg : w.heap[g]? = some (.cells cur T (0, 0))) (hk : k < n) (hx : is[k]? = some x) (t : Int) :
    NdR (w.setCell ⟨g, k * 3 + 2, none⟩ (.int .i64 t)) B (some ⟨g, 0, none⟩) n c (is.set k (x.1, x.2.1, t)) := by
  obtain ⟨h0, A, cap, e1, hb, h3⟩ := h
  refine ⟨by rw [List.length_set]; exact h0, A, cap, e1, hb, fun hn => ?_⟩
  obtain ⟨b, off, rfl, h5, h6, h7⟩ := h3 hn
  injection e1 with e1 _ _
  injection e1 with e1
  injection e1 with e1 e2 _
  subst e1 e2
  refine ⟨g, 0, rfl, h5, by simpa using h6, fun j hj => ?_⟩
  have hcell : ∀ q, (w.setCell ⟨g, k * 3 + 2, none⟩ (.int .i64 t)).cell? ⟨g, q, none⟩ = (cur.setIfInBounds (k * 3 + 2) (.int .i64 t))[q]? := fun q => Lib.cell_of_heap (heap_setCell_same _ _ _ _ _ _ hg) q
  have hold : ∀ q, w.cell? ⟨g, q, none⟩ = cur[q]? := fun q => Lib.cell_of_heap hg q
  obtain ⟨cs, h8, h9, y, hy, hc⟩ := h7 j hj
  by_cases e : j = k
  · subst e
    rw [hx] at hy
    cases hy
    have hlt : j * 3 + 2 < cur.size := by
      have := h9 2 (by omega)
      rw [Nat.zero_add, hold, hc] at this
      exact (Array.getElem?_eq_some_iff.1 this).1
    refine ⟨C3 (x.1, x.2.1, t), rfl, fun i hi => ?_, _, by rw [List.getElem?_set_self (by omega)], rfl⟩
    rw [Nat.zero_add, hcell]
    by_cases e2 : i = 2
    · subst e2
      rw [Array.getElem?_setIfInBounds_self_of_lt hlt]; rfl
    · rw [Array.getElem?_setIfInBounds_ne (by omega)]
      have := h9 i hi
      rw [Nat.zero_add, hold, hc] at this
      rw [this]
      have hi2 : i = 0 ∨ i = 1 := by omega
      rcases hi2 with rfl | rfl <;> rfl
  · refine ⟨cs, h8, fun i hi => ?_, y, by rw [List.getElem?_set_ne (fun h => e h.symm)]; exact hy, hc⟩
    have := h9 i hi
    rw [Nat.zero_add, hold] at this
    rw [Nat.zero_add, hcell, Array.getElem?_setIfInBounds_ne (by omega)]
    exact this
set_option maxRecDepth 100000 in
set_option maxHeartbeats 16000000 in
theorem validLaw_any (A : Option Addr) (n c : Nat) (q : Int) (is : List (Int × Int × Int)) (v : Value) (l : List (List Int × List Int)) (ia it : Int) (w : World) (hN : NdR w (fun b => b < w.heap.size) A n c is) (hP : PthR w w.heap.size v l) : Calls Try.prog 3 #[.agg #[.slice A n c, .int .i64 q], v, .int .i64 ia, .int .i64 it] w fun e w' => e = .returned (.bool true) ∧ Below w.heap.size w w' := by
  obtain ⟨W, hW⟩ : ∃ W, W = w.alloc (.cells #[.slice A n c, .int .i64 q] 24) := ⟨_, rfl⟩
  have hb : Below w.heap.size w W := by rw [hW]; exact (Below.refl _ _).alloc (Nat.le_refl _) _
  have hz : W.heap.size = w.heap.size + 1 := by rw [hW]; simp
  have kd : W.heap[w.heap.size]? = some (.cells #[.slice A n c, .int .i64 q] 24 (0, 0)) := by rw [hW]; exact heap_alloc_new w _
  obtain ⟨b, hb2⟩ := valid_both is q
  have HN := Lib.hid (And.intro hN (And.intro hP hb2))
  have HW := Lib.hid (And.intro hb (And.intro hz kd))
  obtain ⟨d0, d1⟩ := cells2 kd
  clear hN hP hb2 hb hz kd
  rw [hW] at d0 d1
  go_enter Try.func3, Try.ntmps3
  by_cases h20 : (20 : Int) < (n : Int)
  · have hawk := Lib.hid (awake_any W)
    go_wp2_with fail
    rw [← hW]
    refine hawk.out.mono ?_
    rintro e w' ⟨rfl, hb⟩
    have HZ := Lib.hid (HW.out.1.trans (hb.mono HW.out.1.size))
    clear hb hW d0 d1
    go_wp2
    go_ret
    exact ⟨rfl, HZ.out⟩
  · have H20 : Hid (n ≤ 20) := Lib.hid (by omega)
    go_wp2_with fail
    rw [← hW]
    clear hW d0 d1
    refine (drawn_one v l W ((HN.out.2.1.on HW.out.1).up HW.out.1.size)).mono ?_
    rintro e w1 ⟨A1, n1, c1, x1, p1, rfl, hd1, hp1, hb1⟩
    obtain ⟨W1, hW1⟩ : ∃ W1, W1 = w1.alloc (.cells #[.slice A1 n1 c1, .int .i64 x1] 24) := ⟨_, rfl⟩
    have hbW1 : Below w1.heap.size w1 W1 := by rw [hW1]; exact (Below.refl _ _).alloc (Nat.le_refl _) _
    have k1 : W1.heap[w1.heap.size]? = some (.cells #[.slice A1 n1 c1, .int .i64 x1] 24 (0, 0)) := by rw [hW1]; exact heap_alloc_new w1 _
    have hbw := hb1.trans (hbW1.mono hb1.size)
    have kd1 : W1.heap[w.heap.size]? = some (.cells #[.slice A n c, .int .i64 q] 24 (0, 0)) := by
      exact (hbw.block _ (by have := HW.out.2.1; omega)).trans HW.out.2.2
    have hzlt : w.heap.size < w1.heap.size := by have := HW.out.2.1; have := hb1.size; omega
    have HB1 : Hid (Below w.heap.size w W1) := Lib.hid (HW.out.1.trans (hbw.mono HW.out.1.size))
    have HBOTH : Hid (∀ V, Below W1.heap.size W1 V → (Calls Try.prog 10 #[.agg #[.slice A n c, .int .i64 q]] V fun e w' => e = .returned (.bool b) ∧ Below V.heap.size V w') ∧ (Calls Try.prog 11 #[.agg #[.slice A n c, .int .i64 q]] V fun e w' => e = .returned (.bool b) ∧ Below V.heap.size V w')) := Lib.hid fun V hV => by
      have hbV := HB1.out.trans (hV.mono HB1.out.size)
      exact HN.out.2.2 A n c V ((HN.out.1.on hbV).up fun b hb => Nat.lt_of_lt_of_le hb hbV.size) (by have := H20.out; omega)
    have HSX : Hid (∀ V, Below W1.heap.size W1 V → (V.cell? ⟨w.heap.size, 0, none⟩ = some (.slice A n c) ∧ V.cell? ⟨w.heap.size, 1, none⟩ = some (.int .i64 q) ∧ V.cell? ⟨w1.heap.size, 0, none⟩ = some (.slice A1 n1 c1) ∧ V.cell? ⟨w1.heap.size, 1, none⟩ = some (.int .i64 x1))) := Lib.hid fun V hV => by
      obtain ⟨a0, a1⟩ := cells2 ((hV.block _ (lt_of_heap kd1)).trans kd1)
      obtain ⟨b0, b1⟩ := cells2 ((hV.block _ (lt_of_heap k1)).trans k1)
      exact ⟨a0, a1, b0, b1⟩
    have HD1 := Lib.hid (fun h : p1 = true => (hd1 h).on hbW1 hbW1.size)
    have HZX := Lib.hid (And.intro hzlt (lt_of_heap k1))
    have HC0 := Lib.hid ((Below.refl W1.heap.size W1).drew)
    clear hd1 hp1 hb1 hbW1 k1 hbw kd1 hzlt
    cases p1
    · go_wp2_with fail
      rw [← hW1]
      clear hW1
      refine wp_region_held_drew (S := fun V => (V.cell? ⟨w.heap.size, 0, none⟩ = some (.slice A n c) ∧ V.cell? ⟨w.heap.size, 1, none⟩ = some (.int .i64 q) ∧ V.cell? ⟨w1.heap.size, 0, none⟩ = some (.slice A1 n1 c1) ∧ V.cell? ⟨w1.heap.size, 1, none⟩ = some (.int .i64 x1))) (by kernel_rfl) (HSX.out _ HC0.out) (fun _ => ?_)
      refine tk 0 (HSX.out _ HC0.out) ?_
      try simp only [Act.put, pA, pB, pC]
      refine tk 2 (HSX.out _ HC0.out) ?_
      try simp only [Act.put, pA, pB, pC]
      refine one_op 1 (by kernel_rfl) rfl (by rfl) (fun K hK => ?_)
      go_simp
      refine ((HBOTH.out _ HC0.out).1).mono ?_
      rintro e V1 ⟨rfl, hb1⟩
      have HC1 := Lib.hid (HC0.out.trans (hb1.mono HC0.out.size))
      clear hb1
      refine hK _ _ (HSX.out _ HC1.out) ?_
      try simp only [Act.put, pA, pB, pC]
      clear hK K
      try simp only [beq_self_eq_true]
      refine one_op 3 (by kernel_rfl) rfl (by rfl) (fun K hK => ?_)
      go_simp
      refine ((HBOTH.out _ HC1.out).2).mono ?_
      rintro e V2 ⟨rfl, hb2⟩
      have HC2 := Lib.hid (HC1.out.trans (hb2.mono HC1.out.size))
      clear hb2
      refine hK _ _ (HSX.out _ HC2.out) ?_
      try simp only [Act.put, pA, pB, pC]
      clear hK K
      try simp only [beq_self_eq_true]
      refine tk 4 (HSX.out _ HC2.out) ?_
      try simp only [Act.put, pA, pB, pC]
      try simp only [beq_self_eq_true]
      refine tk 5 (HSX.out _ HC2.out) ?_
      try simp only [Act.put, pA, pB, pC]
      try simp only [beq_self_eq_true]
      refine one_op 6 (by kernel_rfl) rfl (by rfl) (fun K hK => ?_)
      go_simp
      refine (awake_any _).mono ?_
      rintro e V3 ⟨rfl, hb3⟩
      have HC3 := Lib.hid (HC2.out.trans (hb3.mono HC2.out.size))
      clear hb3
      refine hK _ _ (HSX.out _ HC3.out) ?_
      try simp only [Act.put, pA, pB, pC]
      clear hK K
      try simp only [beq_self_eq_true]
      refine tk 7 (HSX.out _ HC3.out) ?_
      try simp only [Act.put, pA, pB, pC]
      refine tk 8 (HSX.out _ HC3.out) ?_
      try simp only [Act.put, pA, pB, pC]
      refine wpAnyH_done (by kernel_rfl) ?_ _
      have HZ := Lib.hid (HB1.out.trans (HC3.out.mono HB1.out.size))
      go_wp2
      go_ret
      exact ⟨rfl, HZ.out⟩
    · obtain ⟨hf, A1', c1', hv, hN1⟩ := HD1.out rfl
      injection hv with hv
      simp only [Array.mk.injEq, List.cons.injEq, Value.slice.injEq, Value.int.injEq, and_true, true_and] at hv
      obtain ⟨⟨rfl, hn1, rfl⟩, hx1⟩ := hv
      have hs1 := can_small hf
      have HU : Hid (∃ us : List Nd, us.length = n1 ∧ NdR W1 (fun b => b < W1.heap.size) A1 n1 c1 (us.map ni) ∧ n1 ≤ 4095) := Lib.hid ⟨(can (fP l) []).1, hn1.symm, by rw [hn1]; exact hN1, by omega⟩
      clear hn1 hx1 hN1 hs1
      obtain ⟨us, hus⟩ := HU.out
      have HUS := Lib.hid hus
      clear hus HU
      have HCP : Hid (∀ V, Below W1.heap.size W1 V → ∃ A' c' w1, (Builtin.append_ #[22, 22] 22 #[.slice none 0 0, .slice A1 n1 c1]).run Try.prog V = .ok (.slice A' n1 c') w1 ∧ OwnNd w1 V.heap.size (.slice A' n1 c') us ∧ Below V.heap.size V w1) := Lib.hid fun V hV =>
        more_nd V A1 n1 c1 us ((HUS.out.2.1.on hV).up fun b hb => Nat.lt_of_lt_of_le hb hV.size) HUS.out.1 (by have := HUS.out.2.2; omega)
      go_wp2_with fail
      rw [← hW1]
      clear hW1
      refine wp_region_held_drew (S := fun V => (V.cell? ⟨w.heap.size, 0, none⟩ = some (.slice A n c) ∧ V.cell? ⟨w.heap.size, 1, none⟩ = some (.int .i64 q) ∧ V.cell? ⟨w1.heap.size, 0, none⟩ = some (.slice A1 n1 c1) ∧ V.cell? ⟨w1.heap.size, 1, none⟩ = some (.int .i64 x1))) (by kernel_rfl) (HSX.out _ HC0.out) (fun _ => ?_)
      refine tk 0 (HSX.out _ HC0.out) ?_
      try simp only [Act.put, pA, pB, pC]
      refine tk 1 (HSX.out _ HC0.out) ?_
      try simp only [Act.put, pA, pB, pC]
      refine tk 3 (HSX.out _ HC0.out) ?_
      try simp only [Act.put, pA, pB, pC]
      refine tk 4 (HSX.out _ HC0.out) ?_
      try simp only [Act.put, pA, pB, pC]
      generalize hA : ({ tmps := _, defers := [] } : Act) = a0
      refine wpAnyH_par (Bs := Bool × Bool × Bool × Bool) (L := fun ⟨bc, bb, ba, bs⟩ => #[true, true, bc, true, true, bb, ba, bs]) (chk := fun ⟨bc, bb, ba, bs⟩ i => (i == 2 && !bc) || ((i == 5 && (bc && !bb)) || ((i == 6 && !ba) || (i == 7 && (bb && (ba && !bs)))))) (full := fun ⟨bc, bb, ba, bs⟩ => bc && (bb && (ba && bs))) (by rintro ⟨bc, bb, ba, bs⟩; revert bc bb ba bs; decide +kernel) (by rintro ⟨bc, bb, ba, bs⟩; revert bc bb ba bs; decide +kernel)
        (Inv := fun ⟨bc, bb, ba, bs⟩ a wq => ∃ (u2 u5 u6 : Value), a = (((a0.put (some 35) u2).put (some 38) u5).put (some 11) u6) ∧ Below W1.heap.size W1 wq ∧ (bc = true → ∃ A2 c2, u2 = .slice A2 n1 c2 ∧ OwnNd wq W1.heap.size u2 us) ∧ (bb = true → u5 = .agg #[u2, .int .i64 x1]) ∧ (ba = true → bs = false → BoxD W1.heap.size u6 wq) ∧ (bs = true → ∃ zy, u6 = .pointer (some ⟨zy, 0, none⟩) ∧ W1.heap.size ≤ zy ∧ wq.heap[zy]? = some (.cells #[u2, .int .i64 x1] 24 (0, 0))) ∧ (bb = true → bc = true) ∧ (bs = true → bb = true ∧ ba = true)) ?_ ?_ (b := ⟨false, false, false, false⟩) rfl (by decide) ?_
      rotate_left
      · rintro ⟨bc, bb, ba, bs⟩ a wq i ⟨u2, u5, u6, rfl, hB, i2, i5, i6, i7, g5, g7⟩ hk
        simp only [Bool.or_eq_true, Bool.and_eq_true, beq_iff_eq, Bool.not_eq_true'] at hk
        subst hA
        have hzq : W1.heap.size ≤ wq.heap.size := hB.size
        rcases hk with ⟨rfl, rfl⟩ | ⟨rfl, rfl, rfl⟩ | ⟨rfl, rfl⟩ | ⟨rfl, rfl, rfl, rfl⟩
        · have eb : bb = false := by cases bb; rfl; exact absurd (g5 rfl) (by simp)
          have es : bs = false := by cases bs; rfl; exact absurd (g7 rfl).1 (by simp [eb])
          subst eb es
          obtain ⟨A2, c2, w2, hr, hO2, hb2⟩ := HCP.out wq hB
          have hB2 := hB.trans (hb2.mono hzq)
          refine step_op rfl (by rfl) (fun K hK => ?_)
          refine Lib.wp_append_run _ _ _ _ _ rfl _ _ rfl rfl _ w2 hr ?_
          exact hK _ _ ⟨HSX.out _ hB2, ⟨true, false, ba, false⟩, rfl, _, u5, u6, rfl, hB2, fun _ => ⟨A2, c2, rfl, hO2.down hzq⟩, nofun, fun h h2 => (i6 h h2).old hb2, nofun, nofun, nofun⟩
        · have es : bs = false := by cases bs; rfl; exact absurd (g7 rfl).1 (by simp)
          subst es
          obtain ⟨A2, c2, rfl, hO2⟩ := i2 rfl
          refine step_op rfl (by rfl) (fun K hK => ?_)
          simp only [Act.put, List.setIfInBounds_toArray, List.set_cons_zero, List.set_cons_succ]
          go_simp
          exact hK _ _ ⟨HSX.out _ hB, ⟨true, true, ba, false⟩, rfl, _, _, u6, rfl, hB, fun _ => ⟨A2, c2, rfl, hO2⟩, fun _ => rfl, i6, nofun, fun _ => rfl, nofun⟩
        · have es : bs = false := by cases bs; rfl; exact absurd (g7 rfl).2 (by simp)
          subst es
          have hb2 : Below wq.heap.size wq (wq.alloc (.cells #[.slice none 0 0, .int .i64 0] 24)) := (Below.refl _ _).alloc (Nat.le_refl _) _
          have hB2 := hB.trans (hb2.mono hzq)
          refine step_op rfl (by rfl) (fun K hK => ?_)
          simp only [Act.put, List.setIfInBounds_toArray, List.set_cons_zero, List.set_cons_succ]
          go_simp
          exact hK _ _ ⟨HSX.out _ hB2, ⟨bc, bb, true, false⟩, rfl, u2, u5, _, rfl, hB2, fun h => (let ⟨A2, c2, h1, h2⟩ := i2 h; ⟨A2, c2, h1, h2.old hb2⟩), i5, fun _ _ => ⟨_, rfl, hzq, heap_alloc_new wq _⟩, nofun, g5, nofun⟩
        · obtain rfl := g5 rfl
          obtain ⟨A2, c2, rfl, hO2⟩ := i2 rfl
          obtain rfl := i5 rfl
          obtain ⟨zy, rfl, hzy, ky⟩ := i6 rfl rfl
          have h0 := heap_setCell_same _ _ 0 _ _ (.slice A2 n1 c2) ky
          have h1 := heap_setCell_same _ _ 1 _ _ (.int .i64 x1) h0
          obtain ⟨t0, t1⟩ := cells2 ky
          have f0 := Lib.frozen_of_heap ky 0
          have f1 := Lib.frozen_of_heap ky 1
          have hB2 : Below W1.heap.size W1 ((wq.setCell ⟨zy, 0, none⟩ (.slice A2 n1 c2)).setCell ⟨zy, 1, none⟩ (.int .i64 x1)) := (hB.setCell (p := ⟨zy, 0, none⟩) hzy _).setCell (p := ⟨zy, 1, none⟩) hzy _
          have hO3 := (hO2.setbox (i := 0) (u := .slice A2 n1 c2) ky (by decide)).setbox (i := 1) (u := .int .i64 x1) h0 (by decide)
          obtain ⟨V7, hV7⟩ : ∃ V7, V7 = (wq.setCell ⟨zy, 0, none⟩ (.slice A2 n1 c2)).setCell ⟨zy, 1, none⟩ (.int .i64 x1) := ⟨_, rfl⟩
          rw [← hV7] at hB2 hO3 h1
          refine step_op rfl (by rfl) (fun K hK => ?_)
          simp only [Act.put, List.setIfInBounds_toArray, List.set_cons_zero, List.set_cons_succ]
          go_simp
          rw [← hV7]
          exact hK _ _ ⟨HSX.out _ hB2, ⟨true, true, true, true⟩, rfl, _, _, _, rfl, hB2, fun _ => ⟨A2, c2, rfl, hO3⟩, fun _ => rfl, fun _ h => absurd h (by simp), fun _ => ⟨zy, rfl, hzy, by simpa using h1⟩, fun _ => rfl, fun _ => ⟨rfl, rfl⟩⟩
      · exact ⟨undef, undef, undef, by subst hA; rfl, (Below.refl _ _).drew, nofun, nofun, nofun, nofun, nofun, nofun⟩
      rintro ⟨bc, bb, ba, bs⟩ a wq hf ⟨u2, u5, u6, rfl, hB, i2, i5, _, i7, _, _⟩
      simp only [Bool.and_eq_true] at hf
      obtain ⟨rfl, rfl, rfl, rfl⟩ := hf
      subst hA
      obtain ⟨A2, c2, rfl, hO2⟩ := i2 rfl
      obtain ⟨zy, rfl, hzy, ky⟩ := i7 rfl
      clear i2 i5 i7
      simp only [Act.put, List.setIfInBounds_toArray, List.set_cons_zero, List.set_cons_succ]
      obtain ⟨W2, rfl⟩ : ∃ W2, W2 = wq := ⟨_, rfl⟩
      have HY0 : Hid (Below W1.heap.size W1 W2 ∧ OwnNd W2 W1.heap.size (.slice A2 n1 c2) us ∧ W1.heap.size ≤ zy ∧ W2.heap[zy]? = some (.cells #[.slice A2 n1 c2, .int .i64 x1] 24 (0, 0))) := Lib.hid ⟨hB, hO2, hzy, ky⟩
      obtain ⟨y0, y1⟩ := cells2 ky
      clear hB hO2 hzy ky
      by_cases hn0 : (0 : Int) < (n1 : Int)
      · obtain ⟨g, hg2, hge, cur, hcur, hlen⟩ : ∃ g, A2 = some ⟨g, 0, none⟩ ∧ W1.heap.size ≤ g ∧ ∃ cur, W2.heap[g]? = some (.cells cur 32 (0, 0)) ∧ n1 * 3 ≤ cur.size := by
          obtain ⟨xs, ho, _⟩ := HY0.out.2.1
          rcases ho.2 with ⟨he, h0⟩ | ⟨g, cap, cur, he, hB, hg, h1, h2, h3, _⟩
          · injection he with _ e2 _
            omega
          · injection he with e1 e2 e3
            exact ⟨g, e1, hB, cur, hg, by rw [h3]; have := HUS.out.1; omega⟩
        subst hg2
        obtain ⟨k, hk, hke⟩ : ∃ k : Nat, k < n1 ∧ Hid (IntKind.i64.wrap (Int.tmod (IntKind.u64.wrap ia) (IntKind.u64.wrap (n1 : Int))) = (k : Int)) := remU ia n1 (by omega) (by have := HUS.out.2.2; omega)
        obtain ⟨n3, hn3⟩ : ∃ n3, n3 = n1 + 2 := ⟨_, rfl⟩
        have hw3 : IntKind.i64.wrap ((n1 : Int) + 2) = (n3 : Int) := by have := HUS.out.2.2; rw [IntWalk.i64_in _ (by omega)]; omega
        obtain ⟨t, ht, hte⟩ : ∃ t : Nat, t < n3 ∧ Hid (IntKind.i64.wrap (Int.tmod (IntKind.u64.wrap it) (IntKind.u64.wrap (n3 : Int))) = (t : Int)) := remU it n3 (by omega) (by have := HUS.out.2.2; omega)
        have HKT := Lib.hid (And.intro hk (And.intro ht (And.intro hn3 (And.intro hge (And.intro hcur hlen)))))
        have kk : (k : Int) < (n1 : Int) := by omega
        have hnz1 : ¬ IntKind.u64.wrap (n1 : Int) = 0 := by have := HUS.out.2.2; rw [IntKind.wrap_u64]; omega
        have hnz3 : ¬ IntKind.u64.wrap (n3 : Int) = 0 := by have := HUS.out.2.2; rw [IntKind.wrap_u64]; omega
        have k0 : (0 : Int) ≤ (k : Int) := by omega
        clear hk ht hn3 hge hcur hlen
        have hkk : wrap64 (Int.tmod (IntKind.u64.wrap ia) (IntKind.u64.wrap (n1 : Int))) = (k : Int) := (IntWalk.i64_left _).symm.trans hke.out
        go_wp2_with fail
        clear hkk hke hnz1 y1
        have hne : zy ≠ g := fun e => by
          have h1 := HY0.out.2.2.2
          rw [e, HKT.out.2.2.2.2.1] at h1
          simp at h1
        have h0' : (W2.drew).heap[g]? = some (.cells cur 32 (0, 0)) := HKT.out.2.2.2.2.1
        have hcell : W2.drew.cell? ⟨g, k * 3 + 2, none⟩ = some (cur[k * 3 + 2]'(by have := HKT.out; omega)) := (Lib.cell_of_heap h0' _).trans (Array.getElem?_eq_getElem _)
        have hfro : W2.drew.frozen? ⟨g, k * 3 + 2, none⟩ = false := Lib.frozen_of_heap h0' _
        obtain ⟨z9, hz9⟩ : ∃ z9, W2.drew.cell? ⟨g, k * 3 + 2, none⟩ = some z9 := ⟨_, hcell⟩
        obtain ⟨W3, hW3⟩ : ∃ W3, W3 = (W2.setCell ⟨g, k * 3 + 2, none⟩ (.int .i64 t)).drew := ⟨_, rfl⟩
        have hb3 : Below W1.heap.size W1 W3 := by rw [hW3]; exact (HY0.out.1.setCell (p := ⟨g, k * 3 + 2, none⟩) HKT.out.2.2.2.1 _).drew
        have ky3 : W3.heap[zy]? = some (.cells #[.slice (some ⟨g, 0, none⟩) n1 c2, .int .i64 x1] 24 (0, 0)) := by rw [hW3]; exact (heap_setCell_other _ _ _ _ hne).trans HY0.out.2.2.2
        have hS3 : W3.cell? ⟨zy, 0, none⟩ = some (.slice (some ⟨g, 0, none⟩) n1 c2) := (cells2 ky3).1
        have H3 : Hid (Below W1.heap.size W1 W3 ∧ W3.heap[zy]? = some (.cells #[.slice (some ⟨g, 0, none⟩) n1 c2, .int .i64 x1] 24 (0, 0)) ∧ ∃ js, NdR W3 (fun b => b < W3.heap.size) (some ⟨g, 0, none⟩) n1 c2 js) := Lib.hid ⟨hb3, ky3, by
          have h := NdR_of_own (ns := us) (w := W2) (base := W1.heap.size) (c := c2) (A := some ⟨g, 0, none⟩) (by rw [HUS.out.1]; exact HY0.out.2.1) (by rw [HUS.out.1]; have := HUS.out.2.2; omega)
          rw [HUS.out.1] at h
          have hx : (us.map ni)[k]? = some (ni (us[k]'(by have := HUS.out.1; have := HKT.out.1; omega))) := by rw [List.getElem?_map, List.getElem?_eq_getElem]; rfl
          have h' := (NdR.put h (w := W2) h0' HKT.out.1 hx (t : Int)).on (Below.refl _ _).drew
          rw [← hW3] at h'
          exact ⟨_, h'.up fun b hb => by rw [hW3]; simpa using hb⟩⟩
        have y2 : W2.drew.cell? ⟨zy, 0, none⟩ = some (.slice (some ⟨g, 0, none⟩) n1 c2) := y0
        clear hcell h0' hb3 ky3 HY0 y0 hne
        have htt := hte.out
        refine wp_region_held_drew (S := fun V => V.cell? ⟨zy, 0, none⟩ = some (.slice (some ⟨g, 0, none⟩) n1 c2)) (by kernel_rfl) y2 (fun _ => ?_)
        refine tk 0 (y2) ?_
        try simp only [Act.put, pA, pB, pC]
        refine tk 1 (y2) ?_
        try simp only [Act.put, pA, pB, pC]
        refine tk 2 (y2) ?_
        try simp only [Act.put, pA, pB, pC]
        refine tk 3 (y2) ?_
        try simp only [Act.put, pA, pB, pC]
        refine tk 4 (y2) ?_
        try simp only [Act.put, pA, pB, pC]
        refine tk 5 (y2) ?_
        try simp only [Act.put, pA, pB, pC]
        refine tk 6 (y2) ?_
        try simp only [Act.put, pA, pB, pC]
        refine tk 7 (y2) ?_
        try simp only [Act.put, pA, pB, pC]
        refine tk 8 (y2) ?_
        try simp only [Act.put, pA, pB, pC]
        refine tk 9 (y2) ?_
        try simp only [Act.put, pA, pB, pC]
        refine tk 10 (y2) ?_
        try simp only [Act.put, pA, pB, pC]
        refine tk 11 (y2) ?_
        try simp only [Act.put, pA, pB, pC]
        refine tk 12 (y2) ?_
        try simp only [Act.put, pA, pB, pC]
        refine tk 13 (y2) ?_
        try simp only [Act.put, pA, pB, pC]
        refine one_op 14 (by kernel_rfl) rfl (by rfl) (fun K hK => ?_)
        go_simp
        rw [← hW3]
        refine hK _ _ hS3 ?_
        try simp only [Act.put, pA, pB, pC]
        clear hK K
        refine wpAnyH_done (by kernel_rfl) ?_ _
        clear hW3 hS3 y2 hz9 hfro hw3 hte htt hnz3 kk k0
        go_wp2_with fail
        have HS3 : Hid (∀ V, Below W3.heap.size W3 V → (V.cell? ⟨w.heap.size, 0, none⟩ = some (.slice A n c) ∧ V.cell? ⟨w.heap.size, 1, none⟩ = some (.int .i64 q) ∧ V.cell? ⟨w1.heap.size, 0, none⟩ = some (.slice A1 n1 c1) ∧ V.cell? ⟨w1.heap.size, 1, none⟩ = some (.int .i64 x1) ∧ V.cell? ⟨zy, 0, none⟩ = some (.slice (some ⟨g, 0, none⟩) n1 c2) ∧ V.cell? ⟨zy, 1, none⟩ = some (.int .i64 x1))) := Lib.hid fun V hV => by
          obtain ⟨a0, a1, b0, b1⟩ := HSX.out V (H3.out.1.trans (hV.mono H3.out.1.size))
          obtain ⟨e0, e1⟩ := cells2 ((hV.block _ (lt_of_heap H3.out.2.1)).trans H3.out.2.1)
          exact ⟨a0, a1, b0, b1, e0, e1⟩
        have HX3 : Hid (∀ V, Below W3.heap.size W3 V → Calls Try.prog 10 #[.agg #[.slice A1 n1 c1, .int .i64 x1]] V fun e w' => e = .returned (.bool true) ∧ Below V.heap.size V w') := Lib.hid fun V hV => valid_dia ((HD1.out (by trivial)).on (H3.out.1.trans (hV.mono H3.out.1.size)) (H3.out.1.trans (hV.mono H3.out.1.size)).size)
        have HBO3 : Hid (∀ V, Below W3.heap.size W3 V → (Calls Try.prog 10 #[.agg #[.slice A n c, .int .i64 q]] V fun e w' => e = .returned (.bool b) ∧ Below V.heap.size V w') ∧ (Calls Try.prog 11 #[.agg #[.slice A n c, .int .i64 q]] V fun e w' => e = .returned (.bool b) ∧ Below V.heap.size V w')) := Lib.hid fun V hV => HBOTH.out V (H3.out.1.trans (hV.mono H3.out.1.size))
        obtain ⟨js, hjs⟩ := H3.out.2.2
        obtain ⟨b3, hb3⟩ := valid_both js x1
        have HBY : Hid (∀ V, Below W3.heap.size W3 V → (Calls Try.prog 10 #[.agg #[.slice (some ⟨g, 0, none⟩) n1 c2, .int .i64 x1]] V fun e w' => e = .returned (.bool b3) ∧ Below V.heap.size V w') ∧ (Calls Try.prog 11 #[.agg #[.slice (some ⟨g, 0, none⟩) n1 c2, .int .i64 x1]] V fun e w' => e = .returned (.bool b3) ∧ Below V.heap.size V w')) := Lib.hid fun V hV => hb3 (some ⟨g, 0, none⟩) n1 c2 V ((hjs.on hV).up fun b hb => Nat.lt_of_lt_of_le hb hV.size) (by have := HUS.out.2.2; omega)
        have HBF : Hid (Below w.heap.size w W3) := Lib.hid (HB1.out.trans (H3.out.1.mono HB1.out.size))
        have HD0 := Lib.hid ((Below.refl W3.heap.size W3).drew)
        clear hjs hb3
        refine wp_region_held_drew (S := fun V => (V.cell? ⟨w.heap.size, 0, none⟩ = some (.slice A n c) ∧ V.cell? ⟨w.heap.size, 1, none⟩ = some (.int .i64 q) ∧ V.cell? ⟨w1.heap.size, 0, none⟩ = some (.slice A1 n1 c1) ∧ V.cell? ⟨w1.heap.size, 1, none⟩ = some (.int .i64 x1) ∧ V.cell? ⟨zy, 0, none⟩ = some (.slice (some ⟨g, 0, none⟩) n1 c2) ∧ V.cell? ⟨zy, 1, none⟩ = some (.int .i64 x1))) (by kernel_rfl) (HS3.out _ HD0.out) (fun _ => ?_)
        refine tk 0 (HS3.out _ HD0.out) ?_
        try simp only [Act.put, pA, pB, pC]
        try simp only [beq_self_eq_true]
        refine tk 2 (HS3.out _ HD0.out) ?_
        try simp only [Act.put, pA, pB, pC]
        try simp only [beq_self_eq_true]
        refine one_op 1 (by kernel_rfl) rfl (by rfl) (fun K hK => ?_)
        go_simp
        refine ((HBO3.out _ HD0.out).1).mono ?_
        rintro e U1 ⟨rfl, hb1⟩
        have HE1 := Lib.hid (HD0.out.trans (hb1.mono HD0.out.size))
        clear hb1
        refine hK _ _ (HS3.out _ HE1.out) ?_
        try simp only [Act.put, pA, pB, pC]
        clear hK K
        try simp only [beq_self_eq_true]
        refine one_op 3 (by kernel_rfl) rfl (by rfl) (fun K hK => ?_)
        go_simp
        refine ((HBO3.out _ HE1.out).2).mono ?_
        rintro e U2 ⟨rfl, hb2⟩
        have HE2 := Lib.hid (HE1.out.trans (hb2.mono HE1.out.size))
        clear hb2
        refine hK _ _ (HS3.out _ HE2.out) ?_
        try simp only [Act.put, pA, pB, pC]
        clear hK K
        try simp only [beq_self_eq_true]
        refine tk 4 (HS3.out _ HE2.out) ?_
        try simp only [Act.put, pA, pB, pC]
        try simp only [beq_self_eq_true]
        refine tk 5 (HS3.out _ HE2.out) ?_
        try simp only [Act.put, pA, pB, pC]
        try simp only [beq_self_eq_true]
        refine tk 6 (HS3.out _ HE2.out) ?_
        try simp only [Act.put, pA, pB, pC]
        try simp only [beq_self_eq_true]
        refine one_op 7 (by kernel_rfl) rfl (by rfl) (fun K hK => ?_)
        go_simp
        refine (HX3.out _ HE2.out).mono ?_
        rintro e U3 ⟨rfl, hb3⟩
        have HE3 := Lib.hid (HE2.out.trans (hb3.mono HE2.out.size))
        clear hb3
        refine hK _ _ (HS3.out _ HE3.out) ?_
        try simp only [Act.put, pA, pB, pC]
        clear hK K
        try simp only [beq_self_eq_true]
        refine tk 8 (HS3.out _ HE3.out) ?_
        try simp only [Act.put, pA, pB, pC]
        try simp only [beq_self_eq_true]
        refine tk 9 (HS3.out _ HE3.out) ?_
        try simp only [Act.put, pA, pB, pC]
        try simp only [beq_self_eq_true]
        refine tk 10 (HS3.out _ HE3.out) ?_
        try simp only [Act.put, pA, pB, pC]
        try simp only [beq_self_eq_true]
        refine tk 12 (HS3.out _ HE3.out) ?_
        try simp only [Act.put, pA, pB, pC]
        try simp only [beq_self_eq_true]
        refine one_op 11 (by kernel_rfl) rfl (by rfl) (fun K hK => ?_)
        go_simp
        refine ((HBY.out _ HE3.out).1).mono ?_
        rintro e U4 ⟨rfl, hb4⟩
        have HE4 := Lib.hid (HE3.out.trans (hb4.mono HE3.out.size))
        clear hb4
        refine hK _ _ (HS3.out _ HE4.out) ?_
        try simp only [Act.put, pA, pB, pC]
        clear hK K
        try simp only [beq_self_eq_true]
        refine one_op 13 (by kernel_rfl) rfl (by rfl) (fun K hK => ?_)
        go_simp
        refine ((HBY.out _ HE4.out).2).mono ?_
        rintro e U5 ⟨rfl, hb5⟩
        have HE5 := Lib.hid (HE4.out.trans (hb5.mono HE4.out.size))
        clear hb5
        refine hK _ _ (HS3.out _ HE5.out) ?_
        try simp only [Act.put, pA, pB, pC]
        clear hK K
        try simp only [beq_self_eq_true]
        refine tk 14 (HS3.out _ HE5.out) ?_
        try simp only [Act.put, pA, pB, pC]
        try simp only [beq_self_eq_true]
        refine tk 15 (HS3.out _ HE5.out) ?_
        try simp only [Act.put, pA, pB, pC]
        try simp only [beq_self_eq_true]
        refine tk 16 (HS3.out _ HE5.out) ?_
        try simp only [Act.put, pA, pB, pC]
        try simp only [beq_self_eq_true]
        refine one_op 17 (by kernel_rfl) rfl (by rfl) (fun K hK => ?_)
        go_simp
        refine (awake_any _).mono ?_
        rintro e U6 ⟨rfl, hb6⟩
        have HE6 := Lib.hid (HE5.out.trans (hb6.mono HE5.out.size))
        clear hb6
        refine hK _ _ (HS3.out _ HE6.out) ?_
        try simp only [Act.put, pA, pB, pC]
        clear hK K
        try simp only [beq_self_eq_true]
        refine tk 18 (HS3.out _ HE6.out) ?_
        try simp only [Act.put, pA, pB, pC]
        try simp only [beq_self_eq_true]
        refine tk 19 (HS3.out _ HE6.out) ?_
        try simp only [Act.put, pA, pB, pC]
        try simp only [beq_self_eq_true]
        refine wpAnyH_done (by kernel_rfl) ?_ _
        have HZ := Lib.hid (HBF.out.trans (HE6.out.mono HBF.out.size))
        go_wp2
        go_ret
        exact ⟨rfl, HZ.out⟩
      · obtain ⟨W3, rfl⟩ : ∃ W3, W3 = W2 := ⟨_, rfl⟩
        have H3 : Hid (Below W1.heap.size W1 W3 ∧ W3.heap[zy]? = some (.cells #[.slice A2 n1 c2, .int .i64 x1] 24 (0, 0)) ∧ ∃ js, NdR W3 (fun b => b < W3.heap.size) A2 n1 c2 js) := Lib.hid ⟨HY0.out.1, HY0.out.2.2.2, us.map ni, by
          have h := NdR_of_own (ns := us) (w := W3) (base := W1.heap.size) (c := c2) (A := A2) (by rw [HUS.out.1]; exact HY0.out.2.1) (by rw [HUS.out.1]; have := HUS.out.2.2; omega)
          rw [HUS.out.1] at h
          exact h⟩
        clear HY0
        go_wp2_with fail
        clear y0 y1
        have HS3 : Hid (∀ V, Below W3.heap.size W3 V → (V.cell? ⟨w.heap.size, 0, none⟩ = some (.slice A n c) ∧ V.cell? ⟨w.heap.size, 1, none⟩ = some (.int .i64 q) ∧ V.cell? ⟨w1.heap.size, 0, none⟩ = some (.slice A1 n1 c1) ∧ V.cell? ⟨w1.heap.size, 1, none⟩ = some (.int .i64 x1) ∧ V.cell? ⟨zy, 0, none⟩ = some (.slice A2 n1 c2) ∧ V.cell? ⟨zy, 1, none⟩ = some (.int .i64 x1))) := Lib.hid fun V hV => by
          obtain ⟨a0, a1, b0, b1⟩ := HSX.out V (H3.out.1.trans (hV.mono H3.out.1.size))
          obtain ⟨e0, e1⟩ := cells2 ((hV.block _ (lt_of_heap H3.out.2.1)).trans H3.out.2.1)
          exact ⟨a0, a1, b0, b1, e0, e1⟩
        have HX3 : Hid (∀ V, Below W3.heap.size W3 V → Calls Try.prog 10 #[.agg #[.slice A1 n1 c1, .int .i64 x1]] V fun e w' => e = .returned (.bool true) ∧ Below V.heap.size V w') := Lib.hid fun V hV => valid_dia ((HD1.out (by trivial)).on (H3.out.1.trans (hV.mono H3.out.1.size)) (H3.out.1.trans (hV.mono H3.out.1.size)).size)
        have HBO3 : Hid (∀ V, Below W3.heap.size W3 V → (Calls Try.prog 10 #[.agg #[.slice A n c, .int .i64 q]] V fun e w' => e = .returned (.bool b) ∧ Below V.heap.size V w') ∧ (Calls Try.prog 11 #[.agg #[.slice A n c, .int .i64 q]] V fun e w' => e = .returned (.bool b) ∧ Below V.heap.size V w')) := Lib.hid fun V hV => HBOTH.out V (H3.out.1.trans (hV.mono H3.out.1.size))
        obtain ⟨js, hjs⟩ := H3.out.2.2
        obtain ⟨b3, hb3⟩ := valid_both js x1
        have HBY : Hid (∀ V, Below W3.heap.size W3 V → (Calls Try.prog 10 #[.agg #[.slice A2 n1 c2, .int .i64 x1]] V fun e w' => e = .returned (.bool b3) ∧ Below V.heap.size V w') ∧ (Calls Try.prog 11 #[.agg #[.slice A2 n1 c2, .int .i64 x1]] V fun e w' => e = .returned (.bool b3) ∧ Below V.heap.size V w')) := Lib.hid fun V hV => hb3 A2 n1 c2 V ((hjs.on hV).up fun b hb => Nat.lt_of_lt_of_le hb hV.size) (by have := HUS.out.2.2; omega)
        have HBF : Hid (Below w.heap.size w W3) := Lib.hid (HB1.out.trans (H3.out.1.mono HB1.out.size))
        have HD0 := Lib.hid ((Below.refl W3.heap.size W3).drew)
        clear hjs hb3
        refine wp_region_held_drew (S := fun V => (V.cell? ⟨w.heap.size, 0, none⟩ = some (.slice A n c) ∧ V.cell? ⟨w.heap.size, 1, none⟩ = some (.int .i64 q) ∧ V.cell? ⟨w1.heap.size, 0, none⟩ = some (.slice A1 n1 c1) ∧ V.cell? ⟨w1.heap.size, 1, none⟩ = some (.int .i64 x1) ∧ V.cell? ⟨zy, 0, none⟩ = some (.slice A2 n1 c2) ∧ V.cell? ⟨zy, 1, none⟩ = some (.int .i64 x1))) (by kernel_rfl) (HS3.out _ HD0.out) (fun _ => ?_)
        refine tk 0 (HS3.out _ HD0.out) ?_
        try simp only [Act.put, pA, pB, pC]
        try simp only [beq_self_eq_true]
        refine tk 2 (HS3.out _ HD0.out) ?_
        try simp only [Act.put, pA, pB, pC]
        try simp only [beq_self_eq_true]
        refine one_op 1 (by kernel_rfl) rfl (by rfl) (fun K hK => ?_)
        go_simp
        refine ((HBO3.out _ HD0.out).1).mono ?_
        rintro e U1 ⟨rfl, hb1⟩
        have HE1 := Lib.hid (HD0.out.trans (hb1.mono HD0.out.size))
        clear hb1
        refine hK _ _ (HS3.out _ HE1.out) ?_
        try simp only [Act.put, pA, pB, pC]
        clear hK K
        try simp only [beq_self_eq_true]
        refine one_op 3 (by kernel_rfl) rfl (by rfl) (fun K hK => ?_)
        go_simp
        refine ((HBO3.out _ HE1.out).2).mono ?_
        rintro e U2 ⟨rfl, hb2⟩
        have HE2 := Lib.hid (HE1.out.trans (hb2.mono HE1.out.size))
        clear hb2
        refine hK _ _ (HS3.out _ HE2.out) ?_
        try simp only [Act.put, pA, pB, pC]
        clear hK K
        try simp only [beq_self_eq_true]
        refine tk 4 (HS3.out _ HE2.out) ?_
        try simp only [Act.put, pA, pB, pC]
        try simp only [beq_self_eq_true]
        refine tk 5 (HS3.out _ HE2.out) ?_
        try simp only [Act.put, pA, pB, pC]
        try simp only [beq_self_eq_true]
        refine tk 6 (HS3.out _ HE2.out) ?_
        try simp only [Act.put, pA, pB, pC]
        try simp only [beq_self_eq_true]
        refine one_op 7 (by kernel_rfl) rfl (by rfl) (fun K hK => ?_)
        go_simp
        refine (HX3.out _ HE2.out).mono ?_
        rintro e U3 ⟨rfl, hb3⟩
        have HE3 := Lib.hid (HE2.out.trans (hb3.mono HE2.out.size))
        clear hb3
        refine hK _ _ (HS3.out _ HE3.out) ?_
        try simp only [Act.put, pA, pB, pC]
        clear hK K
        try simp only [beq_self_eq_true]
        refine tk 8 (HS3.out _ HE3.out) ?_
        try simp only [Act.put, pA, pB, pC]
        try simp only [beq_self_eq_true]
        refine tk 9 (HS3.out _ HE3.out) ?_
        try simp only [Act.put, pA, pB, pC]
        try simp only [beq_self_eq_true]
        refine tk 10 (HS3.out _ HE3.out) ?_
        try simp only [Act.put, pA, pB, pC]
        try simp only [beq_self_eq_true]
        refine tk 12 (HS3.out _ HE3.out) ?_
        try simp only [Act.put, pA, pB, pC]
        try simp only [beq_self_eq_true]
        refine one_op 11 (by kernel_rfl) rfl (by rfl) (fun K hK => ?_)
        go_simp
        refine ((HBY.out _ HE3.out).1).mono ?_
        rintro e U4 ⟨rfl, hb4⟩
        have HE4 := Lib.hid (HE3.out.trans (hb4.mono HE3.out.size))
        clear hb4
        refine hK _ _ (HS3.out _ HE4.out) ?_
        try simp only [Act.put, pA, pB, pC]
        clear hK K
        try simp only [beq_self_eq_true]
        refine one_op 13 (by kernel_rfl) rfl (by rfl) (fun K hK => ?_)
        go_simp
        refine ((HBY.out _ HE4.out).2).mono ?_
        rintro e U5 ⟨rfl, hb5⟩
        have HE5 := Lib.hid (HE4.out.trans (hb5.mono HE4.out.size))
        clear hb5
        refine hK _ _ (HS3.out _ HE5.out) ?_
        try simp only [Act.put, pA, pB, pC]
        clear hK K
        try simp only [beq_self_eq_true]
        refine tk 14 (HS3.out _ HE5.out) ?_
        try simp only [Act.put, pA, pB, pC]
        try simp only [beq_self_eq_true]
        refine tk 15 (HS3.out _ HE5.out) ?_
        try simp only [Act.put, pA, pB, pC]
        try simp only [beq_self_eq_true]
        refine tk 16 (HS3.out _ HE5.out) ?_
        try simp only [Act.put, pA, pB, pC]
        try simp only [beq_self_eq_true]
        refine one_op 17 (by kernel_rfl) rfl (by rfl) (fun K hK => ?_)
        go_simp
        refine (awake_any _).mono ?_
        rintro e U6 ⟨rfl, hb6⟩
        have HE6 := Lib.hid (HE5.out.trans (hb6.mono HE5.out.size))
        clear hb6
        refine hK _ _ (HS3.out _ HE6.out) ?_
        try simp only [Act.put, pA, pB, pC]
        clear hK K
        try simp only [beq_self_eq_true]
        refine tk 18 (HS3.out _ HE6.out) ?_
        try simp only [Act.put, pA, pB, pC]
        try simp only [beq_self_eq_true]
        refine tk 19 (HS3.out _ HE6.out) ?_
        try simp only [Act.put, pA, pB, pC]
        try simp only [beq_self_eq_true]
        refine wpAnyH_done (by kernel_rfl) ?_ _
        have HZ := Lib.hid (HBF.out.trans (HE6.out.mono HBF.out.size))
        go_wp2
        go_ret
        exact ⟨rfl, HZ.out⟩
end Go.Proofs.Ytplmbmecjhmiiaa
