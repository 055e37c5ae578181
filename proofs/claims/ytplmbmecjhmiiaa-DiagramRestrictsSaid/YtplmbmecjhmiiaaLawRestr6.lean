/- The law DiagramRestricts. -/
import Derived.Test.YtplmbmecjhmiiaaDrawn6
import Derived.Test.YtplmbmecjhmiiaaAwake6
import Derived.Test.YtplmbmecjhmiiaaRestr6
import Derived.Test.YtplmbmecjhmiiaaSup6
namespace Go.Proofs.Ytplmbmecjhmiiaa
open Go Go.RowKit
/-- a literal out of a number, as the law makes it -/
theorem rem12 (x : Int) : ∃ k : Nat, k < 12 ∧ Hid (IntKind.i64.wrap (Int.tmod (IntKind.u64.wrap x) 12) = (k : Int)) := by
  have hx : ∃ y : Nat, IntKind.u64.wrap x = (y : Int) := ⟨(IntKind.u64.wrap x).toNat, by rw [IntKind.wrap_u64]; omega⟩
  obtain ⟨y, hy⟩ := hx
  rw [hy]
  have hm : Int.tmod (y : Int) 12 = ((y % 12 : Nat) : Int) := by rw [Int.tmod_eq_emod_of_nonneg (by omega)]; rfl
  have hlt := Nat.mod_lt y (show 0 < 12 by omega)
  rw [hm]
  generalize y % 12 = k at *
  exact ⟨k, hlt, Lib.hid (IntWalk.i64_in _ (by omega))⟩
theorem mem_take_succ {L : List Int} {i : Nat} {y : Int} (h : L[i]? = some y) (k : Int) : decide (k ∈ L.take (i + 1)) = (decide (k ∈ L.take i) || decide (y = k)) := by
  rw [List.take_add_one, h, Bool.eq_iff_iff]
  simp only [Bool.or_eq_true, decide_eq_true_eq, List.mem_append, Option.toList_some, List.mem_singleton]
  constructor
  · rintro (h | h)
    · exact .inl h
    · exact .inr h.symm
  · rintro (h | h)
    · exact .inl h
    · exact .inr h.symm
set_option maxRecDepth 100000 in
set_option maxHeartbeats 16000000 in
theorem restricts_any (v : Value) (l : List (List Int × List Int)) (ia : Int) (w : World) (hP : PthR w w.heap.size v l) : Calls Try.prog 6 #[v, .int .i64 ia] w fun e w' => e = .returned (.bool true) ∧ Below w.heap.size w w' := by
  have HP := Lib.hid hP
  obtain ⟨k, hk12, hke⟩ := rem12 ia
  have HK := Lib.hid hk12
  clear hP hk12
  go_enter Try.func6, Try.ntmps6
  go_wp2_with fail
  refine (drawn_one v l w HP.out).mono ?_
  rintro e w1 ⟨A1, n1, c1, x1, p1, rfl, hd1, hp1, hb1⟩
  obtain ⟨W1, hW1⟩ : ∃ W1, W1 = w1.alloc (.cells #[.slice A1 n1 c1, .int .i64 x1] 24) := ⟨_, rfl⟩
  have hbW1 : Below w1.heap.size w1 W1 := by rw [hW1]; exact (Below.refl _ _).alloc (Nat.le_refl _) _
  have k1 : W1.heap[w1.heap.size]? = some (.cells #[.slice A1 n1 c1, .int .i64 x1] 24 (0, 0)) := by rw [hW1]; exact heap_alloc_new w1 _
  have HB1 : Hid (Below w.heap.size w W1) := Lib.hid (hb1.trans (hbW1.mono hb1.size))
  have HS : Hid (∀ V, Below W1.heap.size W1 V → (V.cell? ⟨w1.heap.size, 0, none⟩ = some (.slice A1 n1 c1) ∧ V.cell? ⟨w1.heap.size, 1, none⟩ = some (.int .i64 x1))) := Lib.hid fun V hV => cells2 ((hV.block _ (lt_of_heap k1)).trans k1)
  have HD : Hid (p1 = true → ∀ V, Below W1.heap.size W1 V → Dia (fP l) V V.heap.size (.agg #[.slice A1 n1 c1, .int .i64 x1])) := Lib.hid fun h V hV => (((hd1 h).on hbW1 hbW1.size).on hV hV.size)
  have HLT := Lib.hid (lt_of_heap k1)
  have hawk := Lib.hid (awake_any W1)
  clear hd1 hp1 hb1 hbW1 k1
  cases p1
  · go_wp2_with fail
    rw [← hW1]
    refine hawk.out.mono ?_
    rintro e w' ⟨rfl, hb⟩
    have HZ := Lib.hid (HB1.out.trans (hb.mono HB1.out.size))
    clear hb hW1
    go_wp2
    go_ret
    exact ⟨rfl, HZ.out⟩
  · have HDa : Hid (∀ V, Below W1.heap.size W1 V → Dia (fP l) V V.heap.size (.agg #[.slice A1 n1 c1, .int .i64 x1])) := Lib.hid (HD.out rfl)
    clear HD hawk
    have hkk : wrap64 (Int.tmod (IntKind.u64.wrap ia) 12) = (k : Int) := (IntWalk.i64_left _).symm.trans hke.out
    go_wp2_with fail
    simp only [hkk]
    rw [← hW1]
    clear hW1 hkk hke
    refine wp_region_held_drew (S := fun V => (V.cell? ⟨w1.heap.size, 0, none⟩ = some (.slice A1 n1 c1) ∧ V.cell? ⟨w1.heap.size, 1, none⟩ = some (.int .i64 x1))) (by kernel_rfl) (HS.out _ (Below.refl _ W1).drew) (fun _ => ?_)
    refine tk 0 (HS.out _ (Below.refl _ W1).drew) ?_
    try simp only [Act.put, pA, pB, pC]
    refine tk 1 (HS.out _ (Below.refl _ W1).drew) ?_
    try simp only [Act.put, pA, pB, pC]
    refine tk 3 (HS.out _ (Below.refl _ W1).drew) ?_
    try simp only [Act.put, pA, pB, pC]
    refine tk 4 (HS.out _ (Below.refl _ W1).drew) ?_
    try simp only [Act.put, pA, pB, pC]
    generalize hA : ({ tmps := _, defers := [] } : Act) = a0
    refine wpAnyH_par (Bs := Bool × Bool × Bool × Bool × Bool × Bool) (L := fun ⟨c1, c2, a1, a2, s1, s2⟩ => #[true, true, c1, true, true, c2, a1, a2, s1, s2]) (chk := fun ⟨c1, c2, a1, a2, s1, s2⟩ i => (i == 2 && (!c1)) || ((i == 5 && (!c2 && (c1))) || ((i == 6 && (!a1)) || ((i == 7 && (!a2)) || ((i == 8 && (!s1 && (a1 && (c2)))) || (i == 9 && (!s2 && (a2 && (s1))))))))) (full := fun ⟨c1, c2, a1, a2, s1, s2⟩ => c1 && (c2 && (a1 && (a2 && (s1 && (s2)))))) (by rintro ⟨c1, c2, a1, a2, s1, s2⟩; revert c1 c2 a1 a2 s1 s2; decide +kernel) (by rintro ⟨c1, c2, a1, a2, s1, s2⟩; revert c1 c2 a1 a2 s1 s2; decide +kernel)
      (Inv := fun ⟨c1, c2, a1, a2, s1, s2⟩ a wq => ∃ (u1 u2 v1 v2 : Value), a = ((((a0.put (some 30) u1).put (some 33) u2).put (some 8) v1).put (some 9) v2) ∧ Below W1.heap.size W1 wq ∧ (c1 = true → Dia (cutI (fP l) (k : Int) true) wq wq.heap.size u1) ∧ (c2 = true → Dia (cutI (fP l) (k : Int) false) wq wq.heap.size u2) ∧ (a1 = true → s1 = false → BoxD W1.heap.size v1 wq) ∧ (a2 = true → s2 = false → BoxD W1.heap.size v2 wq) ∧ (s1 = true → BoxF (cutI (fP l) (k : Int) true) W1.heap.size v1 wq) ∧ (s2 = true → BoxF (cutI (fP l) (k : Int) false) W1.heap.size v2 wq) ∧ (a1 = true → a2 = true → v1 ≠ v2) ∧ (c2 = true → c1 = true) ∧ (s1 = true → c2 = true ∧ a1 = true) ∧ (s2 = true → s1 = true ∧ a2 = true)) ?_ ?_ (b := ⟨false, false, false, false, false, false⟩) rfl (by decide) ?_
    rotate_left
    · rintro ⟨c1, c2, a1, a2, s1, s2⟩ a wq i ⟨u1, u2, v1, v2, rfl, hB, d1, d2, hba1, hba2, hbs1, hbs2, n12, g2, gs1, gs2⟩ hk
      simp only [Bool.or_eq_true, Bool.and_eq_true, beq_iff_eq, Bool.not_eq_true'] at hk
      subst hA
      have hzq : W1.heap.size ≤ wq.heap.size := hB.size
      rcases hk with ⟨rfl, rfl⟩ | ⟨rfl, rfl, rfl⟩ | ⟨rfl, rfl⟩ | ⟨rfl, rfl⟩ | ⟨rfl, rfl, rfl, rfl⟩ | ⟨rfl, rfl, rfl, rfl⟩
      · have e2 : c2 = false := by cases c2; rfl; exact absurd (g2 rfl) (by simp)
        have es1 : s1 = false := by cases s1; rfl; exact absurd (gs1 rfl).1 (by simp [e2])
        have es2 : s2 = false := by cases s2; rfl; exact absurd (gs2 rfl).1 (by simp [es1])
        subst e2 es1 es2
        refine step_op rfl (by rfl) (fun K hK => ?_)
        simp only [Act.put, List.setIfInBounds_toArray, List.set_cons_zero, List.set_cons_succ]
        go_simp
        refine (restrict_dia (HDa.out _ hB) (k : Int) true).mono ?_
        rintro e w' ⟨v', rfl, hd, hb'⟩
        have hB' := hB.trans (hb'.mono hzq)
        exact hK _ _ ⟨HS.out _ hB', ⟨true, false, a1, a2, false, false⟩, rfl, _, u2, v1, v2, rfl, hB', fun _ => hd, nofun, fun h h2 => (hba1 h h2).old hb', fun h h2 => (hba2 h h2).old hb', nofun, nofun, n12, nofun, nofun, nofun⟩
      · have es1 : s1 = false := by cases s1; rfl; exact absurd (gs1 rfl).1 (by simp)
        have es2 : s2 = false := by cases s2; rfl; exact absurd (gs2 rfl).1 (by simp [es1])
        subst es1 es2
        refine step_op rfl (by rfl) (fun K hK => ?_)
        simp only [Act.put, List.setIfInBounds_toArray, List.set_cons_zero, List.set_cons_succ]
        go_simp
        refine (restrict_dia (HDa.out _ hB) (k : Int) false).mono ?_
        rintro e w' ⟨v', rfl, hd, hb'⟩
        have hB' := hB.trans (hb'.mono hzq)
        exact hK _ _ ⟨HS.out _ hB', ⟨true, true, a1, a2, false, false⟩, rfl, u1, _, v1, v2, rfl, hB', fun h => (d1 h).on hb' hb'.size, fun _ => hd, fun h h2 => (hba1 h h2).old hb', fun h h2 => (hba2 h h2).old hb', nofun, nofun, n12, fun _ => rfl, nofun, nofun⟩
      · have es1 : s1 = false := by cases s1; rfl; exact absurd (gs1 rfl).2 (by simp)
        have es2 : s2 = false := by cases s2; rfl; exact absurd (gs2 rfl).1 (by simp [es1])
        subst es1 es2
        have hb' : Below wq.heap.size wq (wq.alloc (.cells #[.slice none 0 0, .int .i64 0] 24)) := (Below.refl _ _).alloc (Nat.le_refl _) _
        have hB' := hB.trans (hb'.mono hzq)
        refine step_op rfl (by rfl) (fun K hK => ?_)
        simp only [Act.put, List.setIfInBounds_toArray, List.set_cons_zero, List.set_cons_succ]
        go_simp
        exact hK _ _ ⟨HS.out _ hB', ⟨c1, c2, true, a2, false, false⟩, rfl, u1, u2, _, v2, rfl, hB', fun h => (d1 h).on hb' hb'.size, fun h => (d2 h).on hb' hb'.size, fun _ _ => ⟨_, rfl, hzq, heap_alloc_new wq _⟩, fun h h2 => (hba2 h h2).old hb', nofun, nofun, fun _ h e => by obtain ⟨b, hu, hl⟩ := box_lt (hba2 h) (f := (cutI (fP l) (k : Int) false)) nofun; rw [hu] at e; simp at e <;> omega, g2, nofun, nofun⟩
      · have es2 : s2 = false := by cases s2; rfl; exact absurd (gs2 rfl).2 (by simp)
        subst es2
        have hb' : Below wq.heap.size wq (wq.alloc (.cells #[.slice none 0 0, .int .i64 0] 24)) := (Below.refl _ _).alloc (Nat.le_refl _) _
        have hB' := hB.trans (hb'.mono hzq)
        refine step_op rfl (by rfl) (fun K hK => ?_)
        simp only [Act.put, List.setIfInBounds_toArray, List.set_cons_zero, List.set_cons_succ]
        go_simp
        exact hK _ _ ⟨HS.out _ hB', ⟨c1, c2, a1, true, s1, false⟩, rfl, u1, u2, v1, _, rfl, hB', fun h => (d1 h).on hb' hb'.size, fun h => (d2 h).on hb' hb'.size, fun h h2 => (hba1 h h2).old hb', fun _ _ => ⟨_, rfl, hzq, heap_alloc_new wq _⟩, fun h => (hbs1 h).old hb', nofun, fun h _ e => by obtain ⟨b, hu, hl⟩ := box_lt (hba1 h) (hbs1); rw [hu] at e; simp at e <;> omega, g2, gs1, nofun⟩
      · have es2 : s2 = false := by cases s2; rfl; exact absurd (gs2 rfl).1 (by simp)
        subst es2
        obtain ⟨b, rfl, hzb, kb⟩ := hba1 rfl rfl
        have hd := d1 (g2 rfl)
        obtain ⟨A, n, c, x, hform⟩ := hd.form
        subst hform
        obtain ⟨V7, hV7, hF, hB', hk7, ⟨t0, t1, z0, z1⟩, hkD, hkF⟩ := box_fill2 kb hzb hd hB
        refine step_op rfl (by rfl) (fun K hK => ?_)
        simp only [Act.put, List.setIfInBounds_toArray, List.set_cons_zero, List.set_cons_succ]
        go_simp
        rw [← hV7]
        exact hK _ _ ⟨HS.out _ hB', ⟨c1, true, true, a2, true, false⟩, rfl, _, u2, _, v2, rfl, hB', fun h => hk7 _ _ (d1 h), fun h => hk7 _ _ (d2 h), fun _ h => absurd h (by simp), fun h h2 => hkD _ (hba2 h h2) (fun e => n12 rfl h e.symm), fun _ => hF, nofun, n12, g2, fun _ => ⟨rfl, rfl⟩, nofun⟩
      · obtain ⟨b, rfl, hzb, kb⟩ := hba2 rfl rfl
        have hd := d2 (gs1 rfl).1
        obtain ⟨A, n, c, x, hform⟩ := hd.form
        subst hform
        obtain ⟨V7, hV7, hF, hB', hk7, ⟨t0, t1, z0, z1⟩, hkD, hkF⟩ := box_fill2 kb hzb hd hB
        refine step_op rfl (by rfl) (fun K hK => ?_)
        simp only [Act.put, List.setIfInBounds_toArray, List.set_cons_zero, List.set_cons_succ]
        go_simp
        rw [← hV7]
        exact hK _ _ ⟨HS.out _ hB', ⟨c1, c2, a1, true, true, true⟩, rfl, u1, _, v1, _, rfl, hB', fun h => hk7 _ _ (d1 h), fun h => hk7 _ _ (d2 h), fun h h2 => hkD _ (hba1 h h2) (n12 h rfl), fun _ h => absurd h (by simp), fun h => hkF _ _ (hbs1 h) (n12 (gs1 h).2 rfl), fun _ => hF, n12, g2, gs1, fun _ => ⟨rfl, rfl⟩⟩
    · exact ⟨undef, undef, undef, undef, by subst hA; rfl, (Below.refl _ _).drew, nofun, nofun, nofun, nofun, nofun, nofun, nofun, nofun, nofun, nofun⟩
    rintro ⟨c1, c2, a1, a2, s1, s2⟩ a wq hf ⟨u1, u2, v1, v2, rfl, hB, _, _, _, _, hbs1, hbs2, n12, _, _, _⟩
    simp only [Bool.and_eq_true] at hf
    obtain ⟨rfl, rfl, rfl, rfl, rfl, rfl⟩ := hf
    subst hA
    replace hbs1 := hbs1 rfl
    replace hbs2 := hbs2 rfl
    obtain ⟨W3, rfl⟩ : ∃ W3, W3 = wq := ⟨_, rfl⟩
    obtain ⟨b5, A5, n5, c5, x5, rfl, hz5, k5, hd5⟩ := hbs1
    obtain ⟨b6, A6, n6, c6, x6, rfl, hz6, k6, hd6⟩ := hbs2
    have HB3 := Lib.hid hB
    have H56 := Lib.hid (And.intro k5 (And.intro k6 (And.intro hd5 hd6)))
    clear hB hz5 hz6 k5 k6 hd5 hd6 n12
    simp only [Act.put, List.setIfInBounds_toArray, List.set_cons_zero, List.set_cons_succ]
    go_wp2_with fail
    refine (literal_any k HK.out W3).mono ?_
    rintro e w7 ⟨v7, rfl, hd7, hb7⟩
    obtain ⟨A7, n7, c7, x7, rfl⟩ := hd7.form
    obtain ⟨W7, hW7⟩ : ∃ W7, W7 = w7.alloc (.cells #[.slice A7 n7 c7, .int .i64 x7] 24) := ⟨_, rfl⟩
    have hbW7 : Below w7.heap.size w7 W7 := by rw [hW7]; exact (Below.refl _ _).alloc (Nat.le_refl _) _
    have k7 : W7.heap[w7.heap.size]? = some (.cells #[.slice A7 n7 c7, .int .i64 x7] 24 (0, 0)) := by rw [hW7]; exact heap_alloc_new w7 _
    obtain ⟨b7, hb7e⟩ : ∃ b7, b7 = w7.heap.size := ⟨_, rfl⟩
    have hb37 : Below W3.heap.size W3 W7 := hb7.trans (hbW7.mono hb7.size)
    have HB7 : Hid (Below W1.heap.size W1 W7) := Lib.hid (HB3.out.trans (hb37.mono HB3.out.size))
    have HS7 : Hid (∀ V, Below W7.heap.size W7 V → (V.cell? ⟨w1.heap.size, 0, none⟩ = some (.slice A1 n1 c1) ∧ V.cell? ⟨w1.heap.size, 1, none⟩ = some (.int .i64 x1) ∧ V.cell? ⟨b5, 0, none⟩ = some (.slice A5 n5 c5) ∧ V.cell? ⟨b5, 1, none⟩ = some (.int .i64 x5) ∧ V.cell? ⟨b6, 0, none⟩ = some (.slice A6 n6 c6) ∧ V.cell? ⟨b6, 1, none⟩ = some (.int .i64 x6) ∧ V.cell? ⟨b7, 0, none⟩ = some (.slice A7 n7 c7) ∧ V.cell? ⟨b7, 1, none⟩ = some (.int .i64 x7))) := Lib.hid fun V hV => by
      have h3 := hb37.trans (hV.mono hb37.size)
      obtain ⟨a0, a1⟩ := HS.out V (HB3.out.trans (h3.mono HB3.out.size))
      obtain ⟨d0, d1⟩ := cells2 ((h3.block _ (lt_of_heap H56.out.1)).trans H56.out.1)
      obtain ⟨e0, e1⟩ := cells2 ((h3.block _ (lt_of_heap H56.out.2.1)).trans H56.out.2.1)
      obtain ⟨f0, f1⟩ := cells2 ((hV.block _ (lt_of_heap k7)).trans k7)
      rw [← hb7e] at f0 f1
      exact ⟨a0, a1, d0, d1, e0, e1, f0, f1⟩
    have HE5 : Hid (∀ V, Below W7.heap.size W7 V → Dia (cutI (fP l) (k : Int) true) V V.heap.size (.agg #[.slice A5 n5 c5, .int .i64 x5])) := Lib.hid fun V hV => by
      have h3 := hb37.trans (hV.mono hb37.size)
      exact H56.out.2.2.1.on h3 h3.size
    have HE6 : Hid (∀ V, Below W7.heap.size W7 V → Dia (cutI (fP l) (k : Int) false) V V.heap.size (.agg #[.slice A6 n6 c6, .int .i64 x6])) := Lib.hid fun V hV => by
      have h3 := hb37.trans (hV.mono hb37.size)
      exact H56.out.2.2.2.on h3 h3.size
    have HE7 : Hid (∀ V, Below W7.heap.size W7 V → Dia (fun s => s k) V V.heap.size (.agg #[.slice A7 n7 c7, .int .i64 x7])) := Lib.hid fun V hV => (hd7.on hbW7 hbW7.size).on hV hV.size
    clear hd7 hb7 hbW7 k7 hb37 H56
    go_wp2_with fail
    rw [← hW7, ← hb7e]
    clear hW7 hb7e
    refine wp_region_held_drew (S := fun V => (V.cell? ⟨w1.heap.size, 0, none⟩ = some (.slice A1 n1 c1) ∧ V.cell? ⟨w1.heap.size, 1, none⟩ = some (.int .i64 x1) ∧ V.cell? ⟨b5, 0, none⟩ = some (.slice A5 n5 c5) ∧ V.cell? ⟨b5, 1, none⟩ = some (.int .i64 x5) ∧ V.cell? ⟨b6, 0, none⟩ = some (.slice A6 n6 c6) ∧ V.cell? ⟨b6, 1, none⟩ = some (.int .i64 x6) ∧ V.cell? ⟨b7, 0, none⟩ = some (.slice A7 n7 c7) ∧ V.cell? ⟨b7, 1, none⟩ = some (.int .i64 x7))) (by kernel_rfl) (HS7.out _ (Below.refl _ W7).drew) (fun _ => ?_)
    refine tk 0 (HS7.out _ (Below.refl _ W7).drew) ?_
    try simp only [Act.put, pA, pB, pC]
    refine tk 1 (HS7.out _ (Below.refl _ W7).drew) ?_
    try simp only [Act.put, pA, pB, pC]
    refine tk 3 (HS7.out _ (Below.refl _ W7).drew) ?_
    try simp only [Act.put, pA, pB, pC]
    refine tk 5 (HS7.out _ (Below.refl _ W7).drew) ?_
    try simp only [Act.put, pA, pB, pC]
    generalize hA : ({ tmps := _, defers := [] } : Act) = a0
    refine wpAnyH_par (Bs := Bool × Bool × Bool × Bool × Bool × Bool) (L := fun ⟨c1, c2, c3, c4, ba, bs⟩ => #[true, true, c1, true, c2, true, c3, c4, ba, bs]) (chk := fun ⟨c1, c2, c3, c4, ba, bs⟩ i => (i == 2 && (!c1)) || ((i == 4 && (!c2 && (c1))) || ((i == 6 && (!c3 && (c2))) || ((i == 7 && (!c4 && (c3))) || ((i == 8 && (!ba)) || (i == 9 && (!bs && (c4 && (ba))))))))) (full := fun ⟨c1, c2, c3, c4, ba, bs⟩ => c1 && (c2 && (c3 && (c4 && (ba && (bs)))))) (by rintro ⟨c1, c2, c3, c4, ba, bs⟩; revert c1 c2 c3 c4 ba bs; decide +kernel) (by rintro ⟨c1, c2, c3, c4, ba, bs⟩; revert c1 c2 c3 c4 ba bs; decide +kernel)
      (Inv := fun ⟨c1, c2, c3, c4, ba, bs⟩ a wq => ∃ (u1 u2 u3 u4 uA : Value), a = (((((a0.put (some 41) u1).put (some 43) u2).put (some 45) u3).put (some 46) u4).put (some 12) uA) ∧ Below W7.heap.size W7 wq ∧ (c1 = true → Dia (fun s => s k && cutI (fP l) (k : Int) true s) wq wq.heap.size u1) ∧ (c2 = true → Dia (fun s => !s k) wq wq.heap.size u2) ∧ (c3 = true → Dia (fun s => !s k && cutI (fP l) (k : Int) false s) wq wq.heap.size u3) ∧ (c4 = true → Dia (fun s => (s k && cutI (fP l) (k : Int) true s) || (!s k && cutI (fP l) (k : Int) false s)) wq wq.heap.size u4) ∧ (ba = true → bs = false → BoxD W7.heap.size uA wq) ∧ (bs = true → BoxF (fun s => (s k && cutI (fP l) (k : Int) true s) || (!s k && cutI (fP l) (k : Int) false s)) W7.heap.size uA wq) ∧ (c2 = true → c1 = true) ∧ (c3 = true → c2 = true) ∧ (c4 = true → c3 = true) ∧ (bs = true → c4 = true ∧ ba = true)) ?_ ?_ (b := ⟨false, false, false, false, false, false⟩) rfl (by decide) ?_
    rotate_left
    · rintro ⟨c1, c2, c3, c4, ba, bs⟩ a wq i ⟨u1, u2, u3, u4, uA, rfl, hB, d1, d2, d3, d4, hba, hbs, g2, g3, g4, gs⟩ hk
      simp only [Bool.or_eq_true, Bool.and_eq_true, beq_iff_eq, Bool.not_eq_true'] at hk
      subst hA
      have hzq : W7.heap.size ≤ wq.heap.size := hB.size
      rcases hk with ⟨rfl, rfl⟩ | ⟨rfl, rfl, rfl⟩ | ⟨rfl, rfl, rfl⟩ | ⟨rfl, rfl, rfl⟩ | ⟨rfl, rfl⟩ | ⟨rfl, rfl, rfl, rfl⟩
      · have e2 : c2 = false := by cases c2; rfl; exact absurd (g2 rfl) (by simp)
        have e3 : c3 = false := by cases c3; rfl; exact absurd (g3 rfl) (by simp [e2])
        have e4 : c4 = false := by cases c4; rfl; exact absurd (g4 rfl) (by simp [e3])
        have es : bs = false := by cases bs; rfl; exact absurd (gs rfl).1 (by simp [e4])
        subst e2 e3 e4 es
        refine step_op rfl (by rfl) (fun K hK => ?_)
        simp only [Act.put, List.setIfInBounds_toArray, List.set_cons_zero, List.set_cons_succ]
        go_simp
        refine (and_any (HE7.out _ hB) (HE5.out _ hB)).mono ?_
        rintro e w' ⟨v', rfl, hd, hb'⟩
        have hB' := hB.trans (hb'.mono hzq)
        exact hK _ _ ⟨HS7.out _ hB', ⟨true, false, false, false, ba, false⟩, rfl, _, u2, u3, u4, uA, rfl, hB', fun _ => hd, nofun, nofun, nofun, fun h h2 => (hba h h2).old hb', nofun, nofun, nofun, nofun, nofun⟩
      · have e3 : c3 = false := by cases c3; rfl; exact absurd (g3 rfl) (by simp)
        have e4 : c4 = false := by cases c4; rfl; exact absurd (g4 rfl) (by simp [e3])
        have es : bs = false := by cases bs; rfl; exact absurd (gs rfl).1 (by simp [e4])
        subst e3 e4 es
        refine step_op rfl (by rfl) (fun K hK => ?_)
        simp only [Act.put, List.setIfInBounds_toArray, List.set_cons_zero, List.set_cons_succ]
        go_simp
        refine (not_any (HE7.out _ hB)).mono ?_
        rintro e w' ⟨v', rfl, hd, hb'⟩
        have hB' := hB.trans (hb'.mono hzq)
        exact hK _ _ ⟨HS7.out _ hB', ⟨true, true, false, false, ba, false⟩, rfl, u1, _, u3, u4, uA, rfl, hB', fun h => (d1 h).on hb' hb'.size, fun _ => hd, nofun, nofun, fun h h2 => (hba h h2).old hb', nofun, fun _ => rfl, nofun, nofun, nofun⟩
      · have e4 : c4 = false := by cases c4; rfl; exact absurd (g4 rfl) (by simp)
        have es : bs = false := by cases bs; rfl; exact absurd (gs rfl).1 (by simp [e4])
        subst e4 es
        refine step_op rfl (by rfl) (fun K hK => ?_)
        simp only [Act.put, List.setIfInBounds_toArray, List.set_cons_zero, List.set_cons_succ]
        go_simp
        refine (and_any (d2 rfl) (HE6.out _ hB)).mono ?_
        rintro e w' ⟨v', rfl, hd, hb'⟩
        have hB' := hB.trans (hb'.mono hzq)
        exact hK _ _ ⟨HS7.out _ hB', ⟨c1, true, true, false, ba, false⟩, rfl, u1, u2, _, u4, uA, rfl, hB', fun h => (d1 h).on hb' hb'.size, fun h => (d2 h).on hb' hb'.size, fun _ => hd, nofun, fun h h2 => (hba h h2).old hb', nofun, g2, fun _ => rfl, nofun, nofun⟩
      · have es : bs = false := by cases bs; rfl; exact absurd (gs rfl).1 (by simp)
        subst es
        refine step_op rfl (by rfl) (fun K hK => ?_)
        simp only [Act.put, List.setIfInBounds_toArray, List.set_cons_zero, List.set_cons_succ]
        go_simp
        refine (or_any (d1 (g2 (g3 rfl))) (d3 rfl)).mono ?_
        rintro e w' ⟨v', rfl, hd, hb'⟩
        have hB' := hB.trans (hb'.mono hzq)
        exact hK _ _ ⟨HS7.out _ hB', ⟨c1, c2, true, true, ba, false⟩, rfl, u1, u2, u3, _, uA, rfl, hB', fun h => (d1 h).on hb' hb'.size, fun h => (d2 h).on hb' hb'.size, fun h => (d3 h).on hb' hb'.size, fun _ => hd, fun h h2 => (hba h h2).old hb', nofun, g2, g3, fun _ => rfl, nofun⟩
      · have es : bs = false := by cases bs; rfl; exact absurd (gs rfl).2 (by simp)
        subst es
        have hb' : Below wq.heap.size wq (wq.alloc (.cells #[.slice none 0 0, .int .i64 0] 24)) := (Below.refl _ _).alloc (Nat.le_refl _) _
        have hB' := hB.trans (hb'.mono hzq)
        refine step_op rfl (by rfl) (fun K hK => ?_)
        simp only [Act.put, List.setIfInBounds_toArray, List.set_cons_zero, List.set_cons_succ]
        go_simp
        exact hK _ _ ⟨HS7.out _ hB', ⟨c1, c2, c3, c4, true, false⟩, rfl, u1, u2, u3, u4, _, rfl, hB', fun h => (d1 h).on hb' hb'.size, fun h => (d2 h).on hb' hb'.size, fun h => (d3 h).on hb' hb'.size, fun h => (d4 h).on hb' hb'.size, fun _ _ => ⟨_, rfl, hzq, heap_alloc_new wq _⟩, nofun, g2, g3, g4, nofun⟩
      · obtain ⟨b, rfl, hzb, kb⟩ := hba rfl rfl
        have hd := d4 rfl
        obtain ⟨A, n, c, x, rfl⟩ := hd.form
        obtain ⟨V7, hV7, hF, hB', hk7, t0, t1, z0, z1⟩ := box_fill kb hzb hd hB
        refine step_op rfl (by rfl) (fun K hK => ?_)
        simp only [Act.put, List.setIfInBounds_toArray, List.set_cons_zero, List.set_cons_succ]
        go_simp
        rw [← hV7]
        exact hK _ _ ⟨HS7.out _ hB', ⟨c1, c2, c3, true, true, true⟩, rfl, u1, u2, u3, _, _, rfl, hB', fun h => hk7 _ _ (d1 h), fun h => hk7 _ _ (d2 h), fun h => hk7 _ _ (d3 h), fun h => hk7 _ _ (d4 h), fun _ h => absurd h (by simp), fun _ => hF, g2, g3, g4, fun _ => ⟨rfl, rfl⟩⟩
    · exact ⟨undef, undef, undef, undef, undef, by subst hA; rfl, (Below.refl _ _).drew, nofun, nofun, nofun, nofun, nofun, nofun, nofun, nofun, nofun, nofun⟩
    rintro ⟨c1, c2, c3, c4, ba, bs⟩ a wq hf ⟨u1, u2, u3, u4, uA, rfl, hB, _, _, _, _, _, hbox, _, _, _, _⟩
    simp only [Bool.and_eq_true] at hf
    obtain ⟨rfl, rfl, rfl, rfl, rfl, rfl⟩ := hf
    subst hA
    replace hbox := hbox rfl
    obtain ⟨W8, rfl⟩ : ∃ W8, W8 = wq := ⟨_, rfl⟩
    obtain ⟨b8, A8, n8, c8, x8, rfl, hz8, k8, hd8⟩ := hbox
    have hsp : (fun s => (s k && cutI (fP l) (k : Int) true s) || (!s k && cutI (fP l) (k : Int) false s)) = fP l := by
      rw [cutI_nat, cutI_nat]
      exact split_cut (fP l) k
    rw [hsp] at hd8
    have HB8 : Hid (Below W1.heap.size W1 W8) := Lib.hid (HB7.out.trans (hB.mono HB7.out.size))
    have HS8 : Hid (∀ V, Below W8.heap.size W8 V → (V.cell? ⟨w1.heap.size, 0, none⟩ = some (.slice A1 n1 c1) ∧ V.cell? ⟨w1.heap.size, 1, none⟩ = some (.int .i64 x1) ∧ V.cell? ⟨b5, 0, none⟩ = some (.slice A5 n5 c5) ∧ V.cell? ⟨b5, 1, none⟩ = some (.int .i64 x5) ∧ V.cell? ⟨b6, 0, none⟩ = some (.slice A6 n6 c6) ∧ V.cell? ⟨b6, 1, none⟩ = some (.int .i64 x6) ∧ V.cell? ⟨b8, 0, none⟩ = some (.slice A8 n8 c8) ∧ V.cell? ⟨b8, 1, none⟩ = some (.int .i64 x8))) := Lib.hid fun V hV => by
      obtain ⟨a0, a1, d0, d1, e0, e1, _, _⟩ := HS7.out V (hB.trans (hV.mono hB.size))
      obtain ⟨f0, f1⟩ := cells2 ((hV.block _ (lt_of_heap k8)).trans k8)
      exact ⟨a0, a1, d0, d1, e0, e1, f0, f1⟩
    have HF : Hid ((∀ V, Below W8.heap.size W8 V → Dia (cutI (fP l) (k : Int) true) V V.heap.size (.agg #[.slice A5 n5 c5, .int .i64 x5])) ∧ (∀ V, Below W8.heap.size W8 V → Dia (cutI (fP l) (k : Int) false) V V.heap.size (.agg #[.slice A6 n6 c6, .int .i64 x6])) ∧ (∀ V, Below W8.heap.size W8 V → Dia (fP l) V V.heap.size (.agg #[.slice A8 n8 c8, .int .i64 x8])) ∧ (∀ V, Below W8.heap.size W8 V → Dia (fP l) V V.heap.size (.agg #[.slice A1 n1 c1, .int .i64 x1]))) := Lib.hid
      ⟨fun V hV => HE5.out V (hB.trans (hV.mono hB.size)), fun V hV => HE6.out V (hB.trans (hV.mono hB.size)), fun V hV => hd8.on hV hV.size, fun V hV => HDa.out V (HB8.out.trans (hV.mono HB8.out.size))⟩
    have hf12 : F12 (fP l) := ((HDa.out _ (Below.refl _ W1))).1
    have HF12 := Lib.hid hf12
    clear hB hz8 k8 hd8 hsp HE5 HE6 HE7 HS7 HB7 HDa HS HB3 hf12
    simp only [Act.put, List.setIfInBounds_toArray, List.set_cons_zero, List.set_cons_succ]
    obtain ⟨y0, y1, _⟩ := HS8.out _ (Below.refl _ W8)
    go_wp2_with fail
    clear y0 y1
    refine (support_dia (HF.out.2.2.2 _ (Below.refl _ W8))).mono ?_
    rintro e w9 ⟨v9, L, rfl, hO9, hL1, hL2, hL3, hb9⟩
    obtain ⟨A9, c9, rfl⟩ := hO9.form
    have hI9 : IntR w9 (fun b => b < w9.heap.size) (.slice A9 L.length c9) L := RowB.sub (hO9.int (by unfold maxLen; omega)) (fun b hb => hb.2.1) (fun _ _ h => h)
    have HMEM : Hid (decide ((k : Int) ∈ L) = true ↔ ¬ Ind (fP l) k) := Lib.hid (by
      rw [decide_eq_true_eq, hL2, ← lit_iff HF12.out]
      constructor
      · rintro ⟨n, hn, e⟩; exact ⟨n, hn, by omega⟩
      · rintro ⟨n, hn, e⟩; exact ⟨n, hn, by omega⟩)
    obtain ⟨m, hm⟩ : ∃ m, m = L.length := ⟨_, rfl⟩
    rw [← hm] at hI9 ⊢
    have H9 := Lib.hid (And.intro hb9 (And.intro hI9 (And.intro hL1 (And.intro hm.symm (show m ≤ 4095 by omega)))))
    clear hO9 hL1 hL2 hL3 hb9 hI9 hm
    go_wp2_with fail
    go_loopw [13, 15] (fun s i wr => ∃ j : Nat, i = .int .i64 j ∧ j ≤ m ∧ s = .bool (decide ((k : Int) ∈ L.take j)) ∧ Hid (Below w9.heap.size w9 wr)) (fun _ i _ => m - (intOf i).toNat)
    case atStart => exact ⟨0, rfl, by omega, by simp, Lib.hid (Below.refl _ _)⟩
    case round =>
      obtain ⟨j, rfl, hj, rfl, hwr⟩ := hrel
      by_cases hjm : j < m
      · have km : (j : Int) < (m : Int) := by omega
        have k0 : (0 : Int) ≤ (j : Int) := by omega
        have hwj : IntKind.i64.wrap ((j : Int) + 1) = ((j + 1 : Nat) : Int) := by have := H9.out.2.2.2.2; rw [IntWalk.i64_in _ (by omega)]; omega
        have hLj : L[j]? = some (L[j]'(by have := H9.out.2.2.2.1; omega)) := List.getElem?_eq_getElem _
        generalize (L[j]'(by have := H9.out.2.2.2.1; omega)) = y at hLj
        have HAT : Hid (∀ V, Below w9.heap.size w9 V → ∃ b off, A9 = some ⟨b, off, none⟩ ∧ ∀ q z, L[q]? = some z → V.cell? ⟨b, off + q, none⟩ = some (.int .i64 z)) := Lib.hid fun V hV => by
          have hr := RowB.on (H := w9.heap.size) H9.out.2.1 hV (fun _ _ h => h)
          obtain ⟨A', cap, e1, _, h3⟩ := hr
          injection e1 with e1 _ _
          have hl := H9.out.2.2.2.1
          obtain ⟨b, off, h4, h5, _, h7⟩ := h3 (by omega)
          refine ⟨b, off, e1.trans h4, fun q z hq => ?_⟩
          obtain ⟨cs, h8, h9, z', hz', rfl⟩ := h7 q (by have := (List.getElem?_eq_some_iff.1 hq).1; omega)
          rw [hq] at hz'
          cases hz'
          have := h9 0 (by omega)
          simpa using this
        obtain ⟨b, off, rfl, c0⟩ := HAT.out _ hwr.out
        have cj := c0 j y hLj
        have hmt : decide ((k : Int) ∈ L.take (j + 1)) = (decide ((k : Int) ∈ L.take j) || decide (y = (k : Int))) := mem_take_succ hLj k
        have HX := Lib.hid (And.intro hjm (And.intro hLj hmt))
        have hwp := hwr.out.drew
        have cq := c0
        clear hmt c0
        generalize hg0 : decide ((k : Int) ∈ L.take j) = g0 at *
        have HG0 := Lib.hid hg0
        generalize hg1 : decide (y = (k : Int)) = g1 at *
        have hyk : ((y == (k : Int)) : Bool) = g1 := by rw [← hg1, Bool.eq_iff_iff]; simp
        have HG1 := Lib.hid hg1
        clear hg0 hg1
        rcases Nat.eq_zero_or_pos j with hj0 | hj0
        · subst hj0
          rw [Nat.add_zero] at cj
          clear cq km k0 hwj
          have HE : Hid (wr.drew.cell? ⟨b, off, none⟩ = some (.int .i64 y)) := Lib.hid cj
          cases g0
          · go_wp2_with fail
            refine wp_region_held_drew (S := fun V => V.cell? ⟨b, off, none⟩ = some (.int .i64 y)) (by kernel_rfl) HE.out (fun _ => ?_)
            refine tk 0 (HE.out) ?_
            try simp only [Act.put, pA, pB, pC]
            refine tk 1 (HE.out) ?_
            try simp only [Act.put, pA, pB, pC]
            refine tk 2 (HE.out) ?_
            try simp only [Act.put, pA, pB, pC]
            refine tu 3 (HE.out) ?_
            try simp only [Act.put, pA, pB, pC]
            refine tu 4 (HE.out) ?_
            try simp only [Act.put, pA, pB, pC]
            refine tu 5 (HE.out) ?_
            try simp only [Act.put, pA, pB, pC]
            refine tu 6 (HE.out) ?_
            try simp only [Act.put, pA, pB, pC]
            refine tu 7 (HE.out) ?_
            try simp only [Act.put, pA, pB, pC]
            refine tu 8 (HE.out) ?_
            try simp only [Act.put, pA, pB, pC]
            refine tu 9 (HE.out) ?_
            try simp only [Act.put, pA, pB, pC]
            refine tu 10 (HE.out) ?_
            try simp only [Act.put, pA, pB, pC]
            refine tu 11 (HE.out) ?_
            try simp only [Act.put, pA, pB, pC]
            refine tu 12 (HE.out) ?_
            try simp only [Act.put, pA, pB, pC]
            refine tk 13 (HE.out) ?_
            try simp only [Act.put, pA, pB, pC]
            refine wpAnyH_done (by kernel_rfl) ?_ _
            have HD := Lib.hid hwp
            go_wp2
            go_roundw
            case rel => exact ⟨0 + 1, by go_num, by have := HX.out.1; omega, congrArg Value.bool (by rw [HX.out.2.2]; rfl), HD⟩
            case measure => have := HX.out.1; simp [intOf]; omega
          · go_wp2_with fail
            refine wp_region_held_drew (S := fun V => V.cell? ⟨b, off, none⟩ = some (.int .i64 y)) (by kernel_rfl) HE.out (fun _ => ?_)
            refine tk 0 (HE.out) ?_
            try simp only [Act.put, pA, pB, pC]
            refine tk 1 (HE.out) ?_
            try simp only [Act.put, pA, pB, pC]
            refine tk 2 (HE.out) ?_
            try simp only [Act.put, pA, pB, pC]
            refine tu 3 (HE.out) ?_
            try simp only [Act.put, pA, pB, pC]
            refine tu 4 (HE.out) ?_
            try simp only [Act.put, pA, pB, pC]
            refine tu 5 (HE.out) ?_
            try simp only [Act.put, pA, pB, pC]
            refine tu 6 (HE.out) ?_
            try simp only [Act.put, pA, pB, pC]
            refine tu 7 (HE.out) ?_
            try simp only [Act.put, pA, pB, pC]
            refine tu 8 (HE.out) ?_
            try simp only [Act.put, pA, pB, pC]
            refine tu 9 (HE.out) ?_
            try simp only [Act.put, pA, pB, pC]
            refine tu 10 (HE.out) ?_
            try simp only [Act.put, pA, pB, pC]
            refine tu 11 (HE.out) ?_
            try simp only [Act.put, pA, pB, pC]
            refine tu 12 (HE.out) ?_
            try simp only [Act.put, pA, pB, pC]
            refine tk 13 (HE.out) ?_
            try simp only [Act.put, pA, pB, pC]
            refine wpAnyH_done (by kernel_rfl) ?_ _
            have HD := Lib.hid hwp
            go_wp2
            go_roundw
            case rel => exact ⟨0 + 1, by go_num, by have := HX.out.1; omega, congrArg Value.bool (by rw [HX.out.2.2]; rfl), HD⟩
            case measure => have := HX.out.1; simp [intOf]; omega
        · have q0 : (0 : Int) < (j : Int) := by omega
          obtain ⟨j1, hj1⟩ : ∃ j1, j = j1 + 1 := ⟨j - 1, by omega⟩
          have hw1 : IntKind.i64.wrap ((j : Int) - 1) = (j1 : Int) := by have := H9.out.2.2.2.2; rw [IntWalk.i64_in _ (by omega)]; omega
          have hLp : L[j1]? = some (L[j1]'(by have := H9.out.2.2.2.1; omega)) := List.getElem?_eq_getElem _
          generalize hyp : (L[j1]'(by have := H9.out.2.2.2.1; omega)) = yp at hLp
          have hlt : ¬ y ≤ yp := by
            have hp := List.pairwise_iff_getElem.1 H9.out.2.2.1 j1 j (by have := H9.out.2.2.2.1; omega) (by have := H9.out.2.2.2.1; omega) (by omega)
            rw [List.getElem?_eq_getElem (by have := H9.out.2.2.2.1; omega)] at hLj
            injection hLj with hLj
            rw [hyp, hLj] at hp
            omega
          have kj1 : (0 : Int) ≤ (j1 : Int) := by omega
          have cp := cq j1 yp hLp
          have kj2 : (j1 : Int) < (m : Int) := by omega
          clear cq hj1 hLp hyp
          have HE : Hid (wr.drew.cell? ⟨b, off + j, none⟩ = some (.int .i64 y) ∧ wr.drew.cell? ⟨b, off + j1, none⟩ = some (.int .i64 yp)) := Lib.hid ⟨cj, cp⟩
          cases g0
          · go_wp2_with fail
            refine wp_region_held_drew (S := fun V => V.cell? ⟨b, off + j, none⟩ = some (.int .i64 y) ∧ V.cell? ⟨b, off + j1, none⟩ = some (.int .i64 yp)) (by kernel_rfl) HE.out (fun _ => ?_)
            refine tk 0 (HE.out) ?_
            try simp only [Act.put, pA, pB, pC]
            refine tk 1 (HE.out) ?_
            try simp only [Act.put, pA, pB, pC]
            refine tk 2 (HE.out) ?_
            try simp only [Act.put, pA, pB, pC]
            refine tk 3 (HE.out) ?_
            try simp only [Act.put, pA, pB, pC]
            refine tk 4 (HE.out) ?_
            try simp only [Act.put, pA, pB, pC]
            refine tk 5 (HE.out) ?_
            try simp only [Act.put, pA, pB, pC]
            refine tk 6 (HE.out) ?_
            try simp only [Act.put, pA, pB, pC]
            refine tk 7 (HE.out) ?_
            try simp only [Act.put, pA, pB, pC]
            refine tk 8 (HE.out) ?_
            try simp only [Act.put, pA, pB, pC]
            refine tk 9 (HE.out) ?_
            try simp only [Act.put, pA, pB, pC]
            refine tk 10 (HE.out) ?_
            try simp only [Act.put, pA, pB, pC]
            refine tk 11 (HE.out) ?_
            try simp only [Act.put, pA, pB, pC]
            refine tk 12 (HE.out) ?_
            try simp only [Act.put, pA, pB, pC]
            refine tk 13 (HE.out) ?_
            try simp only [Act.put, pA, pB, pC]
            refine wpAnyH_done (by kernel_rfl) ?_ _
            have HD := Lib.hid hwp
            go_wp2
            go_roundw
            case rel => exact ⟨j + 1, by go_num, by have := HX.out.1; omega, congrArg Value.bool (by rw [HX.out.2.2]; rfl), HD⟩
            case measure => have := HX.out.1; simp [intOf]; omega
          · go_wp2_with fail
            refine wp_region_held_drew (S := fun V => V.cell? ⟨b, off + j, none⟩ = some (.int .i64 y) ∧ V.cell? ⟨b, off + j1, none⟩ = some (.int .i64 yp)) (by kernel_rfl) HE.out (fun _ => ?_)
            refine tk 0 (HE.out) ?_
            try simp only [Act.put, pA, pB, pC]
            refine tk 1 (HE.out) ?_
            try simp only [Act.put, pA, pB, pC]
            refine tk 2 (HE.out) ?_
            try simp only [Act.put, pA, pB, pC]
            refine tk 3 (HE.out) ?_
            try simp only [Act.put, pA, pB, pC]
            refine tk 4 (HE.out) ?_
            try simp only [Act.put, pA, pB, pC]
            refine tk 5 (HE.out) ?_
            try simp only [Act.put, pA, pB, pC]
            refine tk 6 (HE.out) ?_
            try simp only [Act.put, pA, pB, pC]
            refine tk 7 (HE.out) ?_
            try simp only [Act.put, pA, pB, pC]
            refine tk 8 (HE.out) ?_
            try simp only [Act.put, pA, pB, pC]
            refine tk 9 (HE.out) ?_
            try simp only [Act.put, pA, pB, pC]
            refine tk 10 (HE.out) ?_
            try simp only [Act.put, pA, pB, pC]
            refine tk 11 (HE.out) ?_
            try simp only [Act.put, pA, pB, pC]
            refine tk 12 (HE.out) ?_
            try simp only [Act.put, pA, pB, pC]
            refine tk 13 (HE.out) ?_
            try simp only [Act.put, pA, pB, pC]
            refine wpAnyH_done (by kernel_rfl) ?_ _
            have HD := Lib.hid hwp
            go_wp2
            go_roundw
            case rel => exact ⟨j + 1, by go_num, by have := HX.out.1; omega, congrArg Value.bool (by rw [HX.out.2.2]; rfl), HD⟩
            case measure => have := HX.out.1; simp [intOf]; omega
      · have q1 : ¬ (j : Int) < (m : Int) := by omega
        obtain rfl : j = m := by omega
        have htk : L.take j = L := List.take_of_length_le (by have := H9.out.2.2.2.1; omega)
        rw [← htk] at HMEM
        have hb8 : Below W8.heap.size W8 wr := H9.out.1.trans (hwr.out.mono H9.out.1.size)
        have HS9 : Hid (∀ V, Below wr.heap.size wr V → (V.cell? ⟨w1.heap.size, 0, none⟩ = some (.slice A1 n1 c1) ∧ V.cell? ⟨w1.heap.size, 1, none⟩ = some (.int .i64 x1) ∧ V.cell? ⟨b5, 0, none⟩ = some (.slice A5 n5 c5) ∧ V.cell? ⟨b5, 1, none⟩ = some (.int .i64 x5) ∧ V.cell? ⟨b6, 0, none⟩ = some (.slice A6 n6 c6) ∧ V.cell? ⟨b6, 1, none⟩ = some (.int .i64 x6) ∧ V.cell? ⟨b8, 0, none⟩ = some (.slice A8 n8 c8) ∧ V.cell? ⟨b8, 1, none⟩ = some (.int .i64 x8))) := Lib.hid fun V hV => HS8.out V (hb8.trans (hV.mono hb8.size))
        have HF9 : Hid ((∀ V, Below wr.heap.size wr V → Dia (cutI (fP l) (k : Int) true) V V.heap.size (.agg #[.slice A5 n5 c5, .int .i64 x5])) ∧ (∀ V, Below wr.heap.size wr V → Dia (cutI (fP l) (k : Int) false) V V.heap.size (.agg #[.slice A6 n6 c6, .int .i64 x6])) ∧ (∀ V, Below wr.heap.size wr V → Dia (fP l) V V.heap.size (.agg #[.slice A8 n8 c8, .int .i64 x8])) ∧ (∀ V, Below wr.heap.size wr V → Dia (fP l) V V.heap.size (.agg #[.slice A1 n1 c1, .int .i64 x1]))) := Lib.hid
          ⟨fun V hV => HF.out.1 V (hb8.trans (hV.mono hb8.size)), fun V hV => HF.out.2.1 V (hb8.trans (hV.mono hb8.size)), fun V hV => HF.out.2.2.1 V (hb8.trans (hV.mono hb8.size)), fun V hV => HF.out.2.2.2 V (hb8.trans (hV.mono hb8.size))⟩
        have HBF : Hid (Below w.heap.size w wr) := Lib.hid (HB1.out.trans ((HB8.out.trans (hb8.mono HB8.out.size)).mono HB1.out.size))
        have HIFF : Hid (Ind (fP l) k ↔ cutI (fP l) (k : Int) true = cutI (fP l) (k : Int) false) := Lib.hid (by rw [cutI_nat, cutI_nat]; exact ind_iff)
        clear htk hb8 HS8 HF hj hjm
        generalize hg0 : decide ((k : Int) ∈ L.take j) = g0 at *
        clear hg0
        cases g0
        · have HEQ : Hid (cutI (fP l) (k : Int) true = cutI (fP l) (k : Int) false) := Lib.hid (HIFF.out.1 (Classical.byContradiction fun h => absurd (HMEM.out.2 h) (by simp)))
          have HC0 := Lib.hid ((Below.refl wr.heap.size wr).drew)
          go_wp2_with fail
          refine wp_region_held_drew (S := fun V => (V.cell? ⟨w1.heap.size, 0, none⟩ = some (.slice A1 n1 c1) ∧ V.cell? ⟨w1.heap.size, 1, none⟩ = some (.int .i64 x1) ∧ V.cell? ⟨b5, 0, none⟩ = some (.slice A5 n5 c5) ∧ V.cell? ⟨b5, 1, none⟩ = some (.int .i64 x5) ∧ V.cell? ⟨b6, 0, none⟩ = some (.slice A6 n6 c6) ∧ V.cell? ⟨b6, 1, none⟩ = some (.int .i64 x6) ∧ V.cell? ⟨b8, 0, none⟩ = some (.slice A8 n8 c8) ∧ V.cell? ⟨b8, 1, none⟩ = some (.int .i64 x8))) (by kernel_rfl) (HS9.out _ HC0.out) (fun _ => ?_)
          refine tk 0 (HS9.out _ HC0.out) ?_
          try simp only [Act.put, pA, pB, pC]
          refine tk 1 (HS9.out _ HC0.out) ?_
          try simp only [Act.put, pA, pB, pC]
          refine tk 2 (HS9.out _ HC0.out) ?_
          try simp only [Act.put, pA, pB, pC]
          refine tk 3 (HS9.out _ HC0.out) ?_
          try simp only [Act.put, pA, pB, pC]
          refine tk 4 (HS9.out _ HC0.out) ?_
          try simp only [Act.put, pA, pB, pC]
          refine one_op 5 (by kernel_rfl) rfl (by rfl) (fun K hK => ?_)
          go_simp
          refine (equalD_dia (HF9.out.2.2.1 _ HC0.out) (HF9.out.2.2.2 _ HC0.out) true ⟨fun _ => rfl, fun _ => rfl⟩).mono ?_
          rintro e V1 ⟨rfl, hb1⟩
          have HC1 := Lib.hid (HC0.out.trans (hb1.mono HC0.out.size))
          clear hb1
          refine hK _ _ (HS9.out _ HC1.out) ?_
          try simp only [Act.put, pA, pB, pC]
          clear hK K
          refine tk 6 (HS9.out _ HC1.out) ?_
          try simp only [Act.put, pA, pB, pC]
          refine tk 7 (HS9.out _ HC1.out) ?_
          try simp only [Act.put, pA, pB, pC]
          refine tk 8 (HS9.out _ HC1.out) ?_
          try simp only [Act.put, pA, pB, pC]
          refine tk 9 (HS9.out _ HC1.out) ?_
          try simp only [Act.put, pA, pB, pC]
          refine tk 10 (HS9.out _ HC1.out) ?_
          try simp only [Act.put, pA, pB, pC]
          refine one_op 11 (by kernel_rfl) rfl (by rfl) (fun K hK => ?_)
          go_simp
          refine (equalD_dia (HF9.out.1 _ HC1.out) (HF9.out.2.1 _ HC1.out) true ⟨fun _ => HEQ.out, fun _ => rfl⟩).mono ?_
          rintro e V2 ⟨rfl, hb2⟩
          have HC2 := Lib.hid (HC1.out.trans (hb2.mono HC1.out.size))
          clear hb2
          refine hK _ _ (HS9.out _ HC2.out) ?_
          try simp only [Act.put, pA, pB, pC]
          clear hK K
          refine tk 12 (HS9.out _ HC2.out) ?_
          try simp only [Act.put, pA, pB, pC]
          refine tk 13 (HS9.out _ HC2.out) ?_
          try simp only [Act.put, pA, pB, pC]
          refine tk 14 (HS9.out _ HC2.out) ?_
          try simp only [Act.put, pA, pB, pC]
          refine tk 15 (HS9.out _ HC2.out) ?_
          try simp only [Act.put, pA, pB, pC]
          refine one_op 16 (by kernel_rfl) rfl (by rfl) (fun K hK => ?_)
          go_simp
          refine (valid_dia (HF9.out.1 _ HC2.out)).mono ?_
          rintro e V3 ⟨rfl, hb3⟩
          have HC3 := Lib.hid (HC2.out.trans (hb3.mono HC2.out.size))
          clear hb3
          refine hK _ _ (HS9.out _ HC3.out) ?_
          try simp only [Act.put, pA, pB, pC]
          clear hK K
          refine tk 17 (HS9.out _ HC3.out) ?_
          try simp only [Act.put, pA, pB, pC]
          refine tk 18 (HS9.out _ HC3.out) ?_
          try simp only [Act.put, pA, pB, pC]
          refine tk 19 (HS9.out _ HC3.out) ?_
          try simp only [Act.put, pA, pB, pC]
          refine one_op 20 (by kernel_rfl) rfl (by rfl) (fun K hK => ?_)
          go_simp
          refine (valid_dia (HF9.out.2.1 _ HC3.out)).mono ?_
          rintro e V4 ⟨rfl, hb4⟩
          have HC4 := Lib.hid (HC3.out.trans (hb4.mono HC3.out.size))
          clear hb4
          refine hK _ _ (HS9.out _ HC4.out) ?_
          try simp only [Act.put, pA, pB, pC]
          clear hK K
          refine tk 21 (HS9.out _ HC4.out) ?_
          try simp only [Act.put, pA, pB, pC]
          refine tk 22 (HS9.out _ HC4.out) ?_
          try simp only [Act.put, pA, pB, pC]
          refine tk 23 (HS9.out _ HC4.out) ?_
          try simp only [Act.put, pA, pB, pC]
          refine tk 25 (HS9.out _ HC4.out) ?_
          try simp only [Act.put, pA, pB, pC]
          refine one_op 24 (by kernel_rfl) rfl (by rfl) (fun K hK => ?_)
          go_simp
          refine (restrict_dia (HF9.out.2.2.2 _ HC4.out) (-1) true).mono ?_
          rintro e V5 ⟨r24, rfl, hd5, hb5⟩
          have HC5 := Lib.hid (HC4.out.trans (hb5.mono HC4.out.size))
          have E24 := Lib.hid hd5
          clear hd5
          clear hb5
          refine hK _ _ (HS9.out _ HC5.out) ?_
          try simp only [Act.put, pA, pB, pC]
          clear hK K
          refine one_op 26 (by kernel_rfl) rfl (by rfl) (fun K hK => ?_)
          go_simp
          refine (equalD_dia E24.out (HF9.out.2.2.2 _ HC5.out) true ⟨fun _ => cutI_none HF12.out (.inl (by omega)) true, fun _ => rfl⟩).mono ?_
          rintro e V6 ⟨rfl, hb6⟩
          have HC6 := Lib.hid (HC5.out.trans (hb6.mono HC5.out.size))
          clear hb6
          refine hK _ _ (HS9.out _ HC6.out) ?_
          try simp only [Act.put, pA, pB, pC]
          clear hK K
          refine tk 27 (HS9.out _ HC6.out) ?_
          try simp only [Act.put, pA, pB, pC]
          refine tk 28 (HS9.out _ HC6.out) ?_
          try simp only [Act.put, pA, pB, pC]
          refine one_op 29 (by kernel_rfl) rfl (by rfl) (fun K hK => ?_)
          go_simp
          refine (awake_any _).mono ?_
          rintro e V7 ⟨rfl, hb7⟩
          have HC7 := Lib.hid (HC6.out.trans (hb7.mono HC6.out.size))
          clear hb7
          refine hK _ _ (HS9.out _ HC7.out) ?_
          try simp only [Act.put, pA, pB, pC]
          clear hK K
          refine tk 30 (HS9.out _ HC7.out) ?_
          try simp only [Act.put, pA, pB, pC]
          refine tk 31 (HS9.out _ HC7.out) ?_
          try simp only [Act.put, pA, pB, pC]
          refine wpAnyH_done (by kernel_rfl) ?_ _
          have HZ := Lib.hid (HBF.out.trans (HC7.out.mono HBF.out.size))
          go_wp2
          go_ret
          exact ⟨rfl, HZ.out⟩
        · have HEQ : Hid (¬ cutI (fP l) (k : Int) true = cutI (fP l) (k : Int) false) := Lib.hid (fun h => absurd (HIFF.out.2 h) (HMEM.out.1 rfl))
          have HC0 := Lib.hid ((Below.refl wr.heap.size wr).drew)
          go_wp2_with fail
          refine wp_region_held_drew (S := fun V => (V.cell? ⟨w1.heap.size, 0, none⟩ = some (.slice A1 n1 c1) ∧ V.cell? ⟨w1.heap.size, 1, none⟩ = some (.int .i64 x1) ∧ V.cell? ⟨b5, 0, none⟩ = some (.slice A5 n5 c5) ∧ V.cell? ⟨b5, 1, none⟩ = some (.int .i64 x5) ∧ V.cell? ⟨b6, 0, none⟩ = some (.slice A6 n6 c6) ∧ V.cell? ⟨b6, 1, none⟩ = some (.int .i64 x6) ∧ V.cell? ⟨b8, 0, none⟩ = some (.slice A8 n8 c8) ∧ V.cell? ⟨b8, 1, none⟩ = some (.int .i64 x8))) (by kernel_rfl) (HS9.out _ HC0.out) (fun _ => ?_)
          refine tk 0 (HS9.out _ HC0.out) ?_
          try simp only [Act.put, pA, pB, pC]
          refine tk 1 (HS9.out _ HC0.out) ?_
          try simp only [Act.put, pA, pB, pC]
          refine tk 2 (HS9.out _ HC0.out) ?_
          try simp only [Act.put, pA, pB, pC]
          refine tk 3 (HS9.out _ HC0.out) ?_
          try simp only [Act.put, pA, pB, pC]
          refine tk 4 (HS9.out _ HC0.out) ?_
          try simp only [Act.put, pA, pB, pC]
          refine one_op 5 (by kernel_rfl) rfl (by rfl) (fun K hK => ?_)
          go_simp
          refine (equalD_dia (HF9.out.2.2.1 _ HC0.out) (HF9.out.2.2.2 _ HC0.out) true ⟨fun _ => rfl, fun _ => rfl⟩).mono ?_
          rintro e V1 ⟨rfl, hb1⟩
          have HC1 := Lib.hid (HC0.out.trans (hb1.mono HC0.out.size))
          clear hb1
          refine hK _ _ (HS9.out _ HC1.out) ?_
          try simp only [Act.put, pA, pB, pC]
          clear hK K
          refine tk 6 (HS9.out _ HC1.out) ?_
          try simp only [Act.put, pA, pB, pC]
          refine tk 7 (HS9.out _ HC1.out) ?_
          try simp only [Act.put, pA, pB, pC]
          refine tk 8 (HS9.out _ HC1.out) ?_
          try simp only [Act.put, pA, pB, pC]
          refine tk 9 (HS9.out _ HC1.out) ?_
          try simp only [Act.put, pA, pB, pC]
          refine tk 10 (HS9.out _ HC1.out) ?_
          try simp only [Act.put, pA, pB, pC]
          refine one_op 11 (by kernel_rfl) rfl (by rfl) (fun K hK => ?_)
          go_simp
          refine (equalD_dia (HF9.out.1 _ HC1.out) (HF9.out.2.1 _ HC1.out) false ⟨nofun, fun h => absurd h HEQ.out⟩).mono ?_
          rintro e V2 ⟨rfl, hb2⟩
          have HC2 := Lib.hid (HC1.out.trans (hb2.mono HC1.out.size))
          clear hb2
          refine hK _ _ (HS9.out _ HC2.out) ?_
          try simp only [Act.put, pA, pB, pC]
          clear hK K
          refine tk 12 (HS9.out _ HC2.out) ?_
          try simp only [Act.put, pA, pB, pC]
          refine tk 13 (HS9.out _ HC2.out) ?_
          try simp only [Act.put, pA, pB, pC]
          refine tk 14 (HS9.out _ HC2.out) ?_
          try simp only [Act.put, pA, pB, pC]
          refine tk 15 (HS9.out _ HC2.out) ?_
          try simp only [Act.put, pA, pB, pC]
          refine one_op 16 (by kernel_rfl) rfl (by rfl) (fun K hK => ?_)
          go_simp
          refine (valid_dia (HF9.out.1 _ HC2.out)).mono ?_
          rintro e V3 ⟨rfl, hb3⟩
          have HC3 := Lib.hid (HC2.out.trans (hb3.mono HC2.out.size))
          clear hb3
          refine hK _ _ (HS9.out _ HC3.out) ?_
          try simp only [Act.put, pA, pB, pC]
          clear hK K
          refine tk 17 (HS9.out _ HC3.out) ?_
          try simp only [Act.put, pA, pB, pC]
          refine tk 18 (HS9.out _ HC3.out) ?_
          try simp only [Act.put, pA, pB, pC]
          refine tk 19 (HS9.out _ HC3.out) ?_
          try simp only [Act.put, pA, pB, pC]
          refine one_op 20 (by kernel_rfl) rfl (by rfl) (fun K hK => ?_)
          go_simp
          refine (valid_dia (HF9.out.2.1 _ HC3.out)).mono ?_
          rintro e V4 ⟨rfl, hb4⟩
          have HC4 := Lib.hid (HC3.out.trans (hb4.mono HC3.out.size))
          clear hb4
          refine hK _ _ (HS9.out _ HC4.out) ?_
          try simp only [Act.put, pA, pB, pC]
          clear hK K
          refine tk 21 (HS9.out _ HC4.out) ?_
          try simp only [Act.put, pA, pB, pC]
          refine tk 22 (HS9.out _ HC4.out) ?_
          try simp only [Act.put, pA, pB, pC]
          refine tk 23 (HS9.out _ HC4.out) ?_
          try simp only [Act.put, pA, pB, pC]
          refine tk 25 (HS9.out _ HC4.out) ?_
          try simp only [Act.put, pA, pB, pC]
          refine one_op 24 (by kernel_rfl) rfl (by rfl) (fun K hK => ?_)
          go_simp
          refine (restrict_dia (HF9.out.2.2.2 _ HC4.out) (-1) true).mono ?_
          rintro e V5 ⟨r24, rfl, hd5, hb5⟩
          have HC5 := Lib.hid (HC4.out.trans (hb5.mono HC4.out.size))
          have E24 := Lib.hid hd5
          clear hd5
          clear hb5
          refine hK _ _ (HS9.out _ HC5.out) ?_
          try simp only [Act.put, pA, pB, pC]
          clear hK K
          refine one_op 26 (by kernel_rfl) rfl (by rfl) (fun K hK => ?_)
          go_simp
          refine (equalD_dia E24.out (HF9.out.2.2.2 _ HC5.out) true ⟨fun _ => cutI_none HF12.out (.inl (by omega)) true, fun _ => rfl⟩).mono ?_
          rintro e V6 ⟨rfl, hb6⟩
          have HC6 := Lib.hid (HC5.out.trans (hb6.mono HC5.out.size))
          clear hb6
          refine hK _ _ (HS9.out _ HC6.out) ?_
          try simp only [Act.put, pA, pB, pC]
          clear hK K
          refine tk 27 (HS9.out _ HC6.out) ?_
          try simp only [Act.put, pA, pB, pC]
          refine tk 28 (HS9.out _ HC6.out) ?_
          try simp only [Act.put, pA, pB, pC]
          refine one_op 29 (by kernel_rfl) rfl (by rfl) (fun K hK => ?_)
          go_simp
          refine (awake_any _).mono ?_
          rintro e V7 ⟨rfl, hb7⟩
          have HC7 := Lib.hid (HC6.out.trans (hb7.mono HC6.out.size))
          clear hb7
          refine hK _ _ (HS9.out _ HC7.out) ?_
          try simp only [Act.put, pA, pB, pC]
          clear hK K
          refine tk 30 (HS9.out _ HC7.out) ?_
          try simp only [Act.put, pA, pB, pC]
          refine tk 31 (HS9.out _ HC7.out) ?_
          try simp only [Act.put, pA, pB, pC]
          refine wpAnyH_done (by kernel_rfl) ?_ _
          have HZ := Lib.hid (HBF.out.trans (HC7.out.mono HBF.out.size))
          go_wp2
          go_ret
          exact ⟨rfl, HZ.out⟩
end Go.Proofs.Ytplmbmecjhmiiaa
