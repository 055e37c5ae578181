/- The law DiagramOperations. -/
import Derived.Test.YtplmbmecjhmiiaaVD6
import Derived.Test.YtplmbmecjhmiiaaDrawn6
import Derived.Test.YtplmbmecjhmiiaaAwake6
namespace Go.Proofs.Ytplmbmecjhmiiaa
open Go Go.RowKit
theorem and_4095 (a : Nat) (ha : a < 18446744073709551616) : bits .and .u64 (a : Int) 4095 = ((a % 4096 : Nat) : Int) := by
  have h := bits_and_u64_nat a 4095 ha (by decide)
  rw [show a &&& 4095 = a % 4096 from Nat.and_two_pow_sub_one_eq_mod a 12] at h
  exact h
theorem sOf_mod {f : BF} (hf : F12 f) (a : Nat) : f (sOf (a % 4096)) = f (sOf a) := hf _ _ fun x hx => by
  unfold sOf
  rw [show (4096 : Nat) = 2 ^ 12 from rfl, Nat.testBit_mod_two_pow]
  simp [hx]
set_option maxRecDepth 100000 in
set_option maxHeartbeats 16000000 in
theorem operations_any (v1 v2 : Value) (l m : List (List Int × List Int)) (a : Nat) (ha : a < 18446744073709551616) (w : World) (h1 : PthR w w.heap.size v1 l) (h2 : PthR w w.heap.size v2 m) : Calls Try.prog 4 #[v1, v2, .int .u64 a] w fun e w' => e = .returned (.bool true) ∧ Below w.heap.size w w' := by
  have HP := Lib.hid (And.intro h1 (And.intro h2 ha))
  clear h1 h2 ha
  go_enter Try.func4, Try.ntmps4
  go_wp2_with fail
  refine (drawn_one v1 l w (HP.out.1)).mono ?_
  rintro e w1 ⟨A1, n1, c1, x1, p1, rfl, hd1, hp1, hb1⟩
  obtain ⟨W1, hW1⟩ : ∃ W1, W1 = w1.alloc (.cells #[.slice A1 n1 c1, .int .i64 x1] 24) := ⟨_, rfl⟩
  have hbW1 : Below w1.heap.size w1 W1 := by rw [hW1]; exact (Below.refl _ _).alloc (Nat.le_refl _) _
  have k1 : W1.heap[w1.heap.size]? = some (.cells #[.slice A1 n1 c1, .int .i64 x1] 24 (0, 0)) := by rw [hW1]; exact heap_alloc_new w1 _
  have H1 := Lib.hid (And.intro k1 (And.intro (fun h : p1 = true => (hd1 h).on hbW1 hbW1.size) (And.intro (hb1.trans (hbW1.mono hb1.size)) (And.intro hb1.size hp1))))
  clear hd1 hp1 hb1 hbW1 k1
  go_wp2_with fail
  rw [← hW1]
  clear hW1
  refine (drawn_one v2 m W1 ((HP.out.2.1.on H1.out.2.2.1).up H1.out.2.2.1.size)).mono ?_
  rintro e w2 ⟨A2, n2, c2, x2, p2, rfl, hd2, hp2, hb2⟩
  obtain ⟨W2, hW2⟩ : ∃ W2, W2 = w2.alloc (.cells #[.slice A2 n2 c2, .int .i64 x2] 24) := ⟨_, rfl⟩
  have hbW2 : Below w2.heap.size w2 W2 := by rw [hW2]; exact (Below.refl _ _).alloc (Nat.le_refl _) _
  have k2 : W2.heap[w2.heap.size]? = some (.cells #[.slice A2 n2 c2, .int .i64 x2] 24 (0, 0)) := by rw [hW2]; exact heap_alloc_new w2 _
  have H2 := Lib.hid (And.intro k2 (And.intro (fun h : p2 = true => (hd2 h).on hbW2 hbW2.size) (And.intro (hb2.trans (hbW2.mono hb2.size)) (And.intro hb2.size hp2))))
  clear hd2 hp2 hb2 hbW2 k2
  have hbw : Below w.heap.size w W2 := H1.out.2.2.1.trans (H2.out.2.2.1.mono H1.out.2.2.1.size)
  have HBW := Lib.hid hbw
  have hawk := Lib.hid (awake_any W2)
  clear hbw
  by_cases hall : p1 = true ∧ p2 = true
  · obtain ⟨rfl, rfl⟩ := hall
    have hF1 : F12 (fP l) := fP_12 (H1.out.2.2.2.2.1 rfl).2.2
    have s1 := H1.out.2.2.1.size
    have s2 := H2.out.2.2.1.size
    have z1 := lt_of_heap H1.out.1
    have z2 := lt_of_heap H2.out.1
    have ka := (H2.out.2.2.1.block _ (by omega)).trans H1.out.1
    have kb := H2.out.1
    have HS : Hid (∀ V, Below W2.heap.size W2 V → (V.cell? ⟨w1.heap.size, 0, none⟩ = some (.slice A1 n1 c1) ∧ V.cell? ⟨w1.heap.size, 1, none⟩ = some (.int .i64 x1) ∧ V.cell? ⟨w2.heap.size, 0, none⟩ = some (.slice A2 n2 c2) ∧ V.cell? ⟨w2.heap.size, 1, none⟩ = some (.int .i64 x2))) := Lib.hid fun V hV => by
      obtain ⟨a0, a1⟩ := cells2 ((hV.block _ (by omega)).trans ka)
      obtain ⟨b0, b1⟩ := cells2 ((hV.block _ (by omega)).trans kb)
      exact ⟨a0, a1, b0, b1⟩
    have HDa : Hid (∀ V, Below W2.heap.size W2 V → Dia (fP l) V V.heap.size (.agg #[.slice A1 n1 c1, .int .i64 x1])) := Lib.hid fun V hV => (((H1.out.2.1 rfl).on H2.out.2.2.1 s2).on hV hV.size)
    have HDb : Hid (∀ V, Below W2.heap.size W2 V → Dia (fP m) V V.heap.size (.agg #[.slice A2 n2 c2, .int .i64 x2])) := Lib.hid fun V hV => ((H2.out.2.1 rfl).on hV hV.size)
    have HFF := Lib.hid hF1
    clear s1 s2 z1 z2 ka kb H1 H2 hawk hF1
    go_wp2_with fail
    rw [← hW2]
    clear hW2
    have HC0 := Lib.hid ((Below.refl W2.heap.size W2).drew)
    refine wp_region_held_drew (S := fun V => (V.cell? ⟨w1.heap.size, 0, none⟩ = some (.slice A1 n1 c1) ∧ V.cell? ⟨w1.heap.size, 1, none⟩ = some (.int .i64 x1) ∧ V.cell? ⟨w2.heap.size, 0, none⟩ = some (.slice A2 n2 c2) ∧ V.cell? ⟨w2.heap.size, 1, none⟩ = some (.int .i64 x2))) (by kernel_rfl) (HS.out _ HC0.out) (fun _ => ?_)
    refine tk 0 (HS.out _ HC0.out) ?_
    try simp only [Act.put, pA, pB, pC]
    refine tk 1 (HS.out _ HC0.out) ?_
    try simp only [Act.put, pA, pB, pC]
    refine tk 3 (HS.out _ HC0.out) ?_
    try simp only [Act.put, pA, pB, pC]
    refine tk 4 (HS.out _ HC0.out) ?_
    try simp only [Act.put, pA, pB, pC]
    refine one_op 2 (by kernel_rfl) rfl (by rfl) (fun K hK => ?_)
    go_simp
    refine (evaluate_any (HDa.out _ HC0.out) a HP.out.2.2).mono ?_
    rintro e V1 ⟨rfl, hb1⟩
    have HC1 := Lib.hid (HC0.out.trans (hb1.mono HC0.out.size))
    clear hb1
    refine hK _ _ (HS.out _ HC1.out) ?_
    try simp only [Act.put, pA, pB, pC]
    clear hK K
    refine one_op 5 (by kernel_rfl) rfl (by rfl) (fun K hK => ?_)
    go_simp
    refine (evaluate_any (HDb.out _ HC1.out) a HP.out.2.2).mono ?_
    rintro e V2 ⟨rfl, hb2⟩
    have HC2 := Lib.hid (HC1.out.trans (hb2.mono HC1.out.size))
    clear hb2
    refine hK _ _ (HS.out _ HC2.out) ?_
    try simp only [Act.put, pA, pB, pC]
    clear hK K
    refine tk 6 (HS.out _ HC2.out) ?_
    try simp only [Act.put, pA, pB, pC]
    refine tk 7 (HS.out _ HC2.out) ?_
    try simp only [Act.put, pA, pB, pC]
    refine wpAnyH_done (by kernel_rfl) ?_ _
    obtain ⟨W3, hW3⟩ : ∃ W3, W3 = V2 := ⟨_, rfl⟩
    rw [← hW3]
    have HS3 : Hid (∀ V, Below W3.heap.size W3 V → (V.cell? ⟨w1.heap.size, 0, none⟩ = some (.slice A1 n1 c1) ∧ V.cell? ⟨w1.heap.size, 1, none⟩ = some (.int .i64 x1) ∧ V.cell? ⟨w2.heap.size, 0, none⟩ = some (.slice A2 n2 c2) ∧ V.cell? ⟨w2.heap.size, 1, none⟩ = some (.int .i64 x2))) := Lib.hid fun V hV => HS.out V (HC2.out.trans (by rw [← hW3]; exact hV.mono (by rw [hW3]; exact HC2.out.size)))
    have HB3 : Hid (Below W2.heap.size W2 W3) := Lib.hid (by rw [hW3]; exact HC2.out)
    clear hW3 HC0 HC1 HC2
    obtain ⟨X, hX⟩ : ∃ X, X = fP l (sOf a) := ⟨_, rfl⟩
    obtain ⟨Y, hY⟩ : ∃ Y, Y = fP m (sOf a) := ⟨_, rfl⟩
    have HXY := Lib.hid (And.intro hX hY)
    rw [← hX, ← hY]
    clear hX hY
    go_wp2_with fail
    refine wp_region_held_drew (S := fun V => (V.cell? ⟨w1.heap.size, 0, none⟩ = some (.slice A1 n1 c1) ∧ V.cell? ⟨w1.heap.size, 1, none⟩ = some (.int .i64 x1) ∧ V.cell? ⟨w2.heap.size, 0, none⟩ = some (.slice A2 n2 c2) ∧ V.cell? ⟨w2.heap.size, 1, none⟩ = some (.int .i64 x2))) (by kernel_rfl) (HS3.out _ (Below.refl _ W3).drew) (fun _ => ?_)
    refine tk 0 (HS3.out _ (Below.refl _ W3).drew) ?_
    try simp only [Act.put, pA, pB, pC]
    refine tk 1 (HS3.out _ (Below.refl _ W3).drew) ?_
    try simp only [Act.put, pA, pB, pC]
    refine tk 3 (HS3.out _ (Below.refl _ W3).drew) ?_
    try simp only [Act.put, pA, pB, pC]
    refine tk 4 (HS3.out _ (Below.refl _ W3).drew) ?_
    try simp only [Act.put, pA, pB, pC]
    refine tk 6 (HS3.out _ (Below.refl _ W3).drew) ?_
    try simp only [Act.put, pA, pB, pC]
    generalize hA : ({ tmps := _, defers := [] } : Act) = a0
    refine wpAnyH_par (Bs := Bool × Bool × Bool × Bool × Bool × Bool × Bool × Bool × Bool) (L := fun ⟨c1, c2, c3, a1, a2, a3, s1, s2, s3⟩ => #[true, true, c1, true, true, c2, true, c3, a1, a2, a3, s1, s2, s3]) (chk := fun ⟨c1, c2, c3, a1, a2, a3, s1, s2, s3⟩ i => (i == 2 && (!c1)) || ((i == 5 && (!c2 && (c1))) || ((i == 7 && (!c3 && (c2))) || ((i == 8 && (!a1)) || ((i == 9 && (!a2)) || ((i == 10 && (!a3)) || ((i == 11 && (!s1 && (a1 && (c3)))) || ((i == 12 && (!s2 && (a2 && (s1)))) || (i == 13 && (!s3 && (a3 && (s2)))))))))))) (full := fun ⟨c1, c2, c3, a1, a2, a3, s1, s2, s3⟩ => c1 && (c2 && (c3 && (a1 && (a2 && (a3 && (s1 && (s2 && (s3))))))))) (by rintro ⟨c1, c2, c3, a1, a2, a3, s1, s2, s3⟩; revert c1 c2 c3 a1 a2 a3 s1 s2 s3; decide +kernel) (by rintro ⟨c1, c2, c3, a1, a2, a3, s1, s2, s3⟩; revert c1 c2 c3 a1 a2 a3 s1 s2 s3; decide +kernel)
      (Inv := fun ⟨c1, c2, c3, a1, a2, a3, s1, s2, s3⟩ a wq => ∃ (u1 u2 u3 v1 v2 v3 : Value), a = ((((((a0.put (some 42) u1).put (some 45) u2).put (some 47) u3).put (some 13) v1).put (some 14) v2).put (some 15) v3) ∧ Below W3.heap.size W3 wq ∧ (c1 = true → Dia (fun s => fP l s && fP m s) wq wq.heap.size u1) ∧ (c2 = true → Dia (fun s => fP l s || fP m s) wq wq.heap.size u2) ∧ (c3 = true → Dia (fun s => !fP l s) wq wq.heap.size u3) ∧ (a1 = true → s1 = false → BoxD W3.heap.size v1 wq) ∧ (a2 = true → s2 = false → BoxD W3.heap.size v2 wq) ∧ (a3 = true → s3 = false → BoxD W3.heap.size v3 wq) ∧ (s1 = true → BoxF (fun s => fP l s && fP m s) W3.heap.size v1 wq) ∧ (s2 = true → BoxF (fun s => fP l s || fP m s) W3.heap.size v2 wq) ∧ (s3 = true → BoxF (fun s => !fP l s) W3.heap.size v3 wq) ∧ (a1 = true → a2 = true → v1 ≠ v2) ∧ (a1 = true → a3 = true → v1 ≠ v3) ∧ (a2 = true → a3 = true → v2 ≠ v3) ∧ (c2 = true → c1 = true) ∧ (c3 = true → c2 = true) ∧ (s1 = true → c3 = true ∧ a1 = true) ∧ (s2 = true → s1 = true ∧ a2 = true) ∧ (s3 = true → s2 = true ∧ a3 = true)) ?_ ?_ (b := ⟨false, false, false, false, false, false, false, false, false⟩) rfl (by decide) ?_
    rotate_left
    · rintro ⟨c1, c2, c3, a1, a2, a3, s1, s2, s3⟩ a wq i ⟨u1, u2, u3, v1, v2, v3, rfl, hB, d1, d2, d3, hba1, hba2, hba3, hbs1, hbs2, hbs3, n12, n13, n23, g2, g3, gs1, gs2, gs3⟩ hk
      simp only [Bool.or_eq_true, Bool.and_eq_true, beq_iff_eq, Bool.not_eq_true'] at hk
      subst hA
      have hzq : W3.heap.size ≤ wq.heap.size := hB.size
      rcases hk with ⟨rfl, rfl⟩ | ⟨rfl, rfl, rfl⟩ | ⟨rfl, rfl, rfl⟩ | ⟨rfl, rfl⟩ | ⟨rfl, rfl⟩ | ⟨rfl, rfl⟩ | ⟨rfl, rfl, rfl, rfl⟩ | ⟨rfl, rfl, rfl, rfl⟩ | ⟨rfl, rfl, rfl, rfl⟩
      · have e2 : c2 = false := by cases c2; rfl; exact absurd (g2 rfl) (by simp)
        have e3 : c3 = false := by cases c3; rfl; exact absurd (g3 rfl) (by simp [e2])
        have es1 : s1 = false := by cases s1; rfl; exact absurd (gs1 rfl).1 (by simp [e3])
        have es2 : s2 = false := by cases s2; rfl; exact absurd (gs2 rfl).1 (by simp [es1])
        have es3 : s3 = false := by cases s3; rfl; exact absurd (gs3 rfl).1 (by simp [es2])
        subst e2 e3 es1 es2 es3
        refine step_op rfl (by rfl) (fun K hK => ?_)
        simp only [Act.put, List.setIfInBounds_toArray, List.set_cons_zero, List.set_cons_succ]
        go_simp
        refine (and_any (HDa.out _ (HB3.out.trans (hB.mono HB3.out.size))) (HDb.out _ (HB3.out.trans (hB.mono HB3.out.size)))).mono ?_
        rintro e w' ⟨v', rfl, hd, hb'⟩
        have hB' := hB.trans (hb'.mono hzq)
        exact hK _ _ ⟨HS3.out _ hB', ⟨true, false, false, a1, a2, a3, false, false, false⟩, rfl, _, u2, u3, v1, v2, v3, rfl, hB', fun _ => hd, nofun, nofun, fun h h2 => (hba1 h h2).old hb', fun h h2 => (hba2 h h2).old hb', fun h h2 => (hba3 h h2).old hb', nofun, nofun, nofun, n12, n13, n23, nofun, nofun, nofun, nofun, nofun⟩
      · have e3 : c3 = false := by cases c3; rfl; exact absurd (g3 rfl) (by simp)
        have es1 : s1 = false := by cases s1; rfl; exact absurd (gs1 rfl).1 (by simp [e3])
        have es2 : s2 = false := by cases s2; rfl; exact absurd (gs2 rfl).1 (by simp [es1])
        have es3 : s3 = false := by cases s3; rfl; exact absurd (gs3 rfl).1 (by simp [es2])
        subst e3 es1 es2 es3
        refine step_op rfl (by rfl) (fun K hK => ?_)
        simp only [Act.put, List.setIfInBounds_toArray, List.set_cons_zero, List.set_cons_succ]
        go_simp
        refine (or_any (HDa.out _ (HB3.out.trans (hB.mono HB3.out.size))) (HDb.out _ (HB3.out.trans (hB.mono HB3.out.size)))).mono ?_
        rintro e w' ⟨v', rfl, hd, hb'⟩
        have hB' := hB.trans (hb'.mono hzq)
        exact hK _ _ ⟨HS3.out _ hB', ⟨true, true, false, a1, a2, a3, false, false, false⟩, rfl, u1, _, u3, v1, v2, v3, rfl, hB', fun h => (d1 h).on hb' hb'.size, fun _ => hd, nofun, fun h h2 => (hba1 h h2).old hb', fun h h2 => (hba2 h h2).old hb', fun h h2 => (hba3 h h2).old hb', nofun, nofun, nofun, n12, n13, n23, fun _ => rfl, nofun, nofun, nofun, nofun⟩
      · have es1 : s1 = false := by cases s1; rfl; exact absurd (gs1 rfl).1 (by simp)
        have es2 : s2 = false := by cases s2; rfl; exact absurd (gs2 rfl).1 (by simp [es1])
        have es3 : s3 = false := by cases s3; rfl; exact absurd (gs3 rfl).1 (by simp [es2])
        subst es1 es2 es3
        refine step_op rfl (by rfl) (fun K hK => ?_)
        simp only [Act.put, List.setIfInBounds_toArray, List.set_cons_zero, List.set_cons_succ]
        go_simp
        refine (not_any (HDa.out _ (HB3.out.trans (hB.mono HB3.out.size)))).mono ?_
        rintro e w' ⟨v', rfl, hd, hb'⟩
        have hB' := hB.trans (hb'.mono hzq)
        exact hK _ _ ⟨HS3.out _ hB', ⟨c1, true, true, a1, a2, a3, false, false, false⟩, rfl, u1, u2, _, v1, v2, v3, rfl, hB', fun h => (d1 h).on hb' hb'.size, fun h => (d2 h).on hb' hb'.size, fun _ => hd, fun h h2 => (hba1 h h2).old hb', fun h h2 => (hba2 h h2).old hb', fun h h2 => (hba3 h h2).old hb', nofun, nofun, nofun, n12, n13, n23, g2, fun _ => rfl, nofun, nofun, nofun⟩
      · have es1 : s1 = false := by cases s1; rfl; exact absurd (gs1 rfl).2 (by simp)
        have es2 : s2 = false := by cases s2; rfl; exact absurd (gs2 rfl).1 (by simp [es1])
        have es3 : s3 = false := by cases s3; rfl; exact absurd (gs3 rfl).1 (by simp [es2])
        subst es1 es2 es3
        have hb' : Below wq.heap.size wq (wq.alloc (.cells #[.slice none 0 0, .int .i64 0] 24)) := (Below.refl _ _).alloc (Nat.le_refl _) _
        have hB' := hB.trans (hb'.mono hzq)
        refine step_op rfl (by rfl) (fun K hK => ?_)
        simp only [Act.put, List.setIfInBounds_toArray, List.set_cons_zero, List.set_cons_succ]
        go_simp
        exact hK _ _ ⟨HS3.out _ hB', ⟨c1, c2, c3, true, a2, a3, false, false, false⟩, rfl, u1, u2, u3, _, v2, v3, rfl, hB', fun h => (d1 h).on hb' hb'.size, fun h => (d2 h).on hb' hb'.size, fun h => (d3 h).on hb' hb'.size, fun _ _ => ⟨_, rfl, hzq, heap_alloc_new wq _⟩, fun h h2 => (hba2 h h2).old hb', fun h h2 => (hba3 h h2).old hb', nofun, nofun, nofun, fun _ h e => by obtain ⟨b, hu, hl⟩ := box_lt (hba2 h) (f := (fun s => fP l s || fP m s)) nofun; rw [hu] at e; simp at e <;> omega, fun _ h e => by obtain ⟨b, hu, hl⟩ := box_lt (hba3 h) (f := (fun s => !fP l s)) nofun; rw [hu] at e; simp at e <;> omega, n23, g2, g3, nofun, nofun, nofun⟩
      · have es2 : s2 = false := by cases s2; rfl; exact absurd (gs2 rfl).2 (by simp)
        have es3 : s3 = false := by cases s3; rfl; exact absurd (gs3 rfl).1 (by simp [es2])
        subst es2 es3
        have hb' : Below wq.heap.size wq (wq.alloc (.cells #[.slice none 0 0, .int .i64 0] 24)) := (Below.refl _ _).alloc (Nat.le_refl _) _
        have hB' := hB.trans (hb'.mono hzq)
        refine step_op rfl (by rfl) (fun K hK => ?_)
        simp only [Act.put, List.setIfInBounds_toArray, List.set_cons_zero, List.set_cons_succ]
        go_simp
        exact hK _ _ ⟨HS3.out _ hB', ⟨c1, c2, c3, a1, true, a3, s1, false, false⟩, rfl, u1, u2, u3, v1, _, v3, rfl, hB', fun h => (d1 h).on hb' hb'.size, fun h => (d2 h).on hb' hb'.size, fun h => (d3 h).on hb' hb'.size, fun h h2 => (hba1 h h2).old hb', fun _ _ => ⟨_, rfl, hzq, heap_alloc_new wq _⟩, fun h h2 => (hba3 h h2).old hb', fun h => (hbs1 h).old hb', nofun, nofun, fun h _ e => by obtain ⟨b, hu, hl⟩ := box_lt (hba1 h) (hbs1); rw [hu] at e; simp at e <;> omega, n13, fun _ h e => by obtain ⟨b, hu, hl⟩ := box_lt (hba3 h) (f := (fun s => !fP l s)) nofun; rw [hu] at e; simp at e <;> omega, g2, g3, gs1, nofun, nofun⟩
      · have es3 : s3 = false := by cases s3; rfl; exact absurd (gs3 rfl).2 (by simp)
        subst es3
        have hb' : Below wq.heap.size wq (wq.alloc (.cells #[.slice none 0 0, .int .i64 0] 24)) := (Below.refl _ _).alloc (Nat.le_refl _) _
        have hB' := hB.trans (hb'.mono hzq)
        refine step_op rfl (by rfl) (fun K hK => ?_)
        simp only [Act.put, List.setIfInBounds_toArray, List.set_cons_zero, List.set_cons_succ]
        go_simp
        exact hK _ _ ⟨HS3.out _ hB', ⟨c1, c2, c3, a1, a2, true, s1, s2, false⟩, rfl, u1, u2, u3, v1, v2, _, rfl, hB', fun h => (d1 h).on hb' hb'.size, fun h => (d2 h).on hb' hb'.size, fun h => (d3 h).on hb' hb'.size, fun h h2 => (hba1 h h2).old hb', fun h h2 => (hba2 h h2).old hb', fun _ _ => ⟨_, rfl, hzq, heap_alloc_new wq _⟩, fun h => (hbs1 h).old hb', fun h => (hbs2 h).old hb', nofun, n12, fun h _ e => by obtain ⟨b, hu, hl⟩ := box_lt (hba1 h) (hbs1); rw [hu] at e; simp at e <;> omega, fun h _ e => by obtain ⟨b, hu, hl⟩ := box_lt (hba2 h) (hbs2); rw [hu] at e; simp at e <;> omega, g2, g3, gs1, gs2, nofun⟩
      · have es2 : s2 = false := by cases s2; rfl; exact absurd (gs2 rfl).1 (by simp)
        have es3 : s3 = false := by cases s3; rfl; exact absurd (gs3 rfl).1 (by simp [es2])
        subst es2 es3
        obtain ⟨b, rfl, hzb, kb⟩ := hba1 rfl rfl
        have hd := d1 (g2 (g3 rfl))
        obtain ⟨A, n, c, x, hform⟩ := hd.form
        subst hform
        obtain ⟨V7, hV7, hF, hB', hk7, ⟨t0, t1, z0, z1⟩, hkD, hkF⟩ := box_fill2 kb hzb hd hB
        refine step_op rfl (by rfl) (fun K hK => ?_)
        simp only [Act.put, List.setIfInBounds_toArray, List.set_cons_zero, List.set_cons_succ]
        go_simp
        rw [← hV7]
        exact hK _ _ ⟨HS3.out _ hB', ⟨c1, c2, true, true, a2, a3, true, false, false⟩, rfl, _, u2, u3, _, v2, v3, rfl, hB', fun h => hk7 _ _ (d1 h), fun h => hk7 _ _ (d2 h), fun h => hk7 _ _ (d3 h), fun _ h => absurd h (by simp), fun h h2 => hkD _ (hba2 h h2) (fun e => n12 rfl h e.symm), fun h h2 => hkD _ (hba3 h h2) (fun e => n13 rfl h e.symm), fun _ => hF, nofun, nofun, n12, n13, n23, g2, g3, fun _ => ⟨rfl, rfl⟩, nofun, nofun⟩
      · have es3 : s3 = false := by cases s3; rfl; exact absurd (gs3 rfl).1 (by simp)
        subst es3
        obtain ⟨b, rfl, hzb, kb⟩ := hba2 rfl rfl
        have hd := d2 (g3 (gs1 rfl).1)
        obtain ⟨A, n, c, x, hform⟩ := hd.form
        subst hform
        obtain ⟨V7, hV7, hF, hB', hk7, ⟨t0, t1, z0, z1⟩, hkD, hkF⟩ := box_fill2 kb hzb hd hB
        refine step_op rfl (by rfl) (fun K hK => ?_)
        simp only [Act.put, List.setIfInBounds_toArray, List.set_cons_zero, List.set_cons_succ]
        go_simp
        rw [← hV7]
        exact hK _ _ ⟨HS3.out _ hB', ⟨c1, c2, c3, a1, true, a3, true, true, false⟩, rfl, u1, _, u3, v1, _, v3, rfl, hB', fun h => hk7 _ _ (d1 h), fun h => hk7 _ _ (d2 h), fun h => hk7 _ _ (d3 h), fun h h2 => hkD _ (hba1 h h2) (n12 h rfl), fun _ h => absurd h (by simp), fun h h2 => hkD _ (hba3 h h2) (fun e => n23 rfl h e.symm), fun h => hkF _ _ (hbs1 h) (n12 (gs1 h).2 rfl), fun _ => hF, nofun, n12, n13, n23, g2, g3, gs1, fun _ => ⟨rfl, rfl⟩, nofun⟩
      · obtain ⟨b, rfl, hzb, kb⟩ := hba3 rfl rfl
        have hd := d3 (gs1 (gs2 rfl).1).1
        obtain ⟨A, n, c, x, hform⟩ := hd.form
        subst hform
        obtain ⟨V7, hV7, hF, hB', hk7, ⟨t0, t1, z0, z1⟩, hkD, hkF⟩ := box_fill2 kb hzb hd hB
        refine step_op rfl (by rfl) (fun K hK => ?_)
        simp only [Act.put, List.setIfInBounds_toArray, List.set_cons_zero, List.set_cons_succ]
        go_simp
        rw [← hV7]
        exact hK _ _ ⟨HS3.out _ hB', ⟨c1, c2, c3, a1, a2, true, s1, true, true⟩, rfl, u1, u2, _, v1, v2, _, rfl, hB', fun h => hk7 _ _ (d1 h), fun h => hk7 _ _ (d2 h), fun h => hk7 _ _ (d3 h), fun h h2 => hkD _ (hba1 h h2) (n13 h rfl), fun h h2 => hkD _ (hba2 h h2) (n23 h rfl), fun _ h => absurd h (by simp), fun h => hkF _ _ (hbs1 h) (n13 (gs1 h).2 rfl), fun h => hkF _ _ (hbs2 h) (n23 (gs2 h).2 rfl), fun _ => hF, n12, n13, n23, g2, g3, gs1, gs2, fun _ => ⟨rfl, rfl⟩⟩
    · exact ⟨undef, undef, undef, undef, undef, undef, by subst hA; rfl, (Below.refl _ _).drew, nofun, nofun, nofun, nofun, nofun, nofun, nofun, nofun, nofun, nofun, nofun, nofun, nofun, nofun, nofun, nofun, nofun⟩
    rintro ⟨c1, c2, c3, a1, a2, a3, s1, s2, s3⟩ a wq hf ⟨u1, u2, u3, v1, v2, v3, rfl, hB, _, _, _, _, _, _, hbs1, hbs2, hbs3, n12, n13, n23, _, _, _, _, _⟩
    simp only [Bool.and_eq_true] at hf
    obtain ⟨rfl, rfl, rfl, rfl, rfl, rfl, rfl, rfl, rfl⟩ := hf
    subst hA
    replace hbs1 := hbs1 rfl
    replace hbs2 := hbs2 rfl
    replace hbs3 := hbs3 rfl
    obtain ⟨W4, rfl⟩ : ∃ W4, W4 = wq := ⟨_, rfl⟩
    obtain ⟨b5, A5, n5, c5, x5, rfl, hz5, k5, hd5⟩ := hbs1
    obtain ⟨b6, A6, n6, c6, x6, rfl, hz6, k6, hd6⟩ := hbs2
    obtain ⟨b7, A7, n7, c7, x7, rfl, hz7, k7, hd7⟩ := hbs3
    have hB4 := HB3.out.trans (hB.mono HB3.out.size)
    have HS5 : Hid (∀ V, Below W4.heap.size W4 V → (V.cell? ⟨w1.heap.size, 0, none⟩ = some (.slice A1 n1 c1) ∧ V.cell? ⟨w1.heap.size, 1, none⟩ = some (.int .i64 x1) ∧ V.cell? ⟨b5, 0, none⟩ = some (.slice A5 n5 c5) ∧ V.cell? ⟨b5, 1, none⟩ = some (.int .i64 x5) ∧ V.cell? ⟨b6, 0, none⟩ = some (.slice A6 n6 c6) ∧ V.cell? ⟨b6, 1, none⟩ = some (.int .i64 x6) ∧ V.cell? ⟨b7, 0, none⟩ = some (.slice A7 n7 c7) ∧ V.cell? ⟨b7, 1, none⟩ = some (.int .i64 x7))) := Lib.hid fun V hV => by
      obtain ⟨a0, a1, _, _⟩ := HS.out V (hB4.trans (hV.mono hB4.size))
      obtain ⟨d0, d1⟩ := cells2 ((hV.block _ (lt_of_heap k5)).trans k5)
      obtain ⟨e0, e1⟩ := cells2 ((hV.block _ (lt_of_heap k6)).trans k6)
      obtain ⟨f0, f1⟩ := cells2 ((hV.block _ (lt_of_heap k7)).trans k7)
      exact ⟨a0, a1, d0, d1, e0, e1, f0, f1⟩
    have HE5 : Hid (∀ V, Below W4.heap.size W4 V → Dia (fun s => fP l s && fP m s) V V.heap.size (.agg #[.slice A5 n5 c5, .int .i64 x5])) := Lib.hid fun V hV => hd5.on hV hV.size
    have HE6 : Hid (∀ V, Below W4.heap.size W4 V → Dia (fun s => fP l s || fP m s) V V.heap.size (.agg #[.slice A6 n6 c6, .int .i64 x6])) := Lib.hid fun V hV => hd6.on hV hV.size
    have HE7 : Hid (∀ V, Below W4.heap.size W4 V → Dia (fun s => !fP l s) V V.heap.size (.agg #[.slice A7 n7 c7, .int .i64 x7])) := Lib.hid fun V hV => hd7.on hV hV.size
    have HEa : Hid (∀ V, Below W4.heap.size W4 V → Dia (fP l) V V.heap.size (.agg #[.slice A1 n1 c1, .int .i64 x1])) := Lib.hid fun V hV => HDa.out V (hB4.trans (hV.mono hB4.size))
    have HBF : Hid (Below w.heap.size w W4) := Lib.hid (HBW.out.trans (hB4.mono HBW.out.size))
    clear hB hz5 hz6 hz7 k5 k6 k7 hd5 hd6 hd7 hB4 HS HS3 HB3 HDa HDb HBW n12 n13 n23
    simp only [Act.put, List.setIfInBounds_toArray, List.set_cons_zero, List.set_cons_succ]
    have hand := and_4095 a HP.out.2.2
    obtain ⟨bb, hbb⟩ : ∃ bb, bb = a % 4096 := ⟨_, rfl⟩
    rw [← hbb] at hand
    have hb4 : bb < 4096 := by omega
    have hwb : IntKind.i64.wrap (bb : Int) = (bb : Int) := by rw [IntWalk.i64_in _ (by omega)]
    have knb : (bb : Int) < 4096 := by omega
    have k0b : (0 : Int) ≤ (bb : Int) := by omega
    have HBB : Hid (fP l (sOf bb) = X ∧ bb < 4096) := Lib.hid ⟨by rw [hbb, HXY.out.1]; exact sOf_mod HFF.out a, hb4⟩
    clear hbb hb4 HFF
    have HR0 := Lib.hid (Below.refl W4.heap.size W4)
    obtain ⟨y1, y2, y3, y4, y5, y6, y7, y8⟩ := HS5.out _ HR0.out
    go_wp2_with fail
    clear y1 y2 y3 y4 y5 y6 y7 y8
    refine (table_dia (HEa.out _ HR0.out)).mono ?_
    rintro e V1 ⟨bt, rfl, hT, hb1⟩
    have HR1 := Lib.hid (HR0.out.trans (hb1.mono HR0.out.size))
    have tb := hT.at HBB.out.2
    rw [HBB.out.1] at tb
    clear hb1 hT hand
    have HEV5 : Hid (∀ V, Below W4.heap.size W4 V → Calls Try.prog 12 #[.agg #[.slice A5 n5 c5, .int .i64 x5], .int .u64 a] V fun e w' => e = .returned (.bool (X && Y)) ∧ Below V.heap.size V w') := Lib.hid fun V hV => by
      have := evaluate_any (HE5.out V hV) a HP.out.2.2
      rw [← HXY.out.1, ← HXY.out.2] at this
      exact this
    have HEV6 : Hid (∀ V, Below W4.heap.size W4 V → Calls Try.prog 12 #[.agg #[.slice A6 n6 c6, .int .i64 x6], .int .u64 a] V fun e w' => e = .returned (.bool (X || Y)) ∧ Below V.heap.size V w') := Lib.hid fun V hV => by
      have := evaluate_any (HE6.out V hV) a HP.out.2.2
      rw [← HXY.out.1, ← HXY.out.2] at this
      exact this
    have HEV7 : Hid (∀ V, Below W4.heap.size W4 V → Calls Try.prog 12 #[.agg #[.slice A7 n7 c7, .int .i64 x7], .int .u64 a] V fun e w' => e = .returned (.bool (!X)) ∧ Below V.heap.size V w') := Lib.hid fun V hV => by
      have := evaluate_any (HE7.out V hV) a HP.out.2.2
      rw [← HXY.out.1] at this
      exact this
    clear HXY HBB
    cases X
    · cases Y
      · obtain ⟨y1, y2, y3, y4, y5, y6, y7, y8⟩ := HS5.out _ HR1.out
        go_wp2_with fail
        clear y1 y2 y3 y4 y5 y6 y7 y8 tb
        refine (valid_dia (HE5.out _ HR1.out)).mono ?_
        rintro e V2 ⟨rfl, hb2⟩
        have HR2 := Lib.hid (HR1.out.trans (hb2.mono HR1.out.size))
        clear hb2
        obtain ⟨y1, y2, y3, y4, y5, y6, y7, y8⟩ := HS5.out _ HR2.out
        go_wp2_with fail
        clear y1 y2 y3 y4 y5 y6 y7 y8
        refine (valid_dia (HE6.out _ HR2.out)).mono ?_
        rintro e V3 ⟨rfl, hb3⟩
        have HR3 := Lib.hid (HR2.out.trans (hb3.mono HR2.out.size))
        clear hb3
        obtain ⟨y1, y2, y3, y4, y5, y6, y7, y8⟩ := HS5.out _ HR3.out
        go_wp2_with fail
        clear y1 y2 y3 y4 y5 y6 y7 y8
        refine (valid_dia (HE7.out _ HR3.out)).mono ?_
        rintro e V4 ⟨rfl, hb4⟩
        have HR4 := Lib.hid (HR3.out.trans (hb4.mono HR3.out.size))
        clear hb4
        obtain ⟨y1, y2, y3, y4, y5, y6, y7, y8⟩ := HS5.out _ HR4.out
        go_wp2_with fail
        clear y1 y2 y3 y4 y5 y6 y7 y8
        refine (HEV5.out _ HR4.out).mono ?_
        rintro e V5 ⟨rfl, hb5⟩
        have HR5 := Lib.hid (HR4.out.trans (hb5.mono HR4.out.size))
        clear hb5
        obtain ⟨y1, y2, y3, y4, y5, y6, y7, y8⟩ := HS5.out _ HR5.out
        go_wp2_with fail
        clear y1 y2 y3 y4 y5 y6 y7 y8
        refine (HEV6.out _ HR5.out).mono ?_
        rintro e V6 ⟨rfl, hb6⟩
        have HR6 := Lib.hid (HR5.out.trans (hb6.mono HR5.out.size))
        clear hb6
        obtain ⟨y1, y2, y3, y4, y5, y6, y7, y8⟩ := HS5.out _ HR6.out
        go_wp2_with fail
        clear y1 y2 y3 y4 y5 y6 y7 y8
        refine (HEV7.out _ HR6.out).mono ?_
        rintro e V7 ⟨rfl, hb7⟩
        have HR7 := Lib.hid (HR6.out.trans (hb7.mono HR6.out.size))
        clear hb7
        obtain ⟨y1, y2, y3, y4, y5, y6, y7, y8⟩ := HS5.out _ HR7.out
        go_wp2_with fail
        clear y1 y2 y3 y4 y5 y6 y7 y8
        refine (awake_any _).mono ?_
        rintro e V8 ⟨rfl, hb8⟩
        have HR8 := Lib.hid (HR7.out.trans (hb8.mono HR7.out.size))
        clear hb8
        have HZ := Lib.hid (HBF.out.trans (HR8.out.mono HBF.out.size))
        go_wp2
        go_ret
        exact ⟨rfl, HZ.out⟩
      · obtain ⟨y1, y2, y3, y4, y5, y6, y7, y8⟩ := HS5.out _ HR1.out
        go_wp2_with fail
        clear y1 y2 y3 y4 y5 y6 y7 y8 tb
        refine (valid_dia (HE5.out _ HR1.out)).mono ?_
        rintro e V2 ⟨rfl, hb2⟩
        have HR2 := Lib.hid (HR1.out.trans (hb2.mono HR1.out.size))
        clear hb2
        obtain ⟨y1, y2, y3, y4, y5, y6, y7, y8⟩ := HS5.out _ HR2.out
        go_wp2_with fail
        clear y1 y2 y3 y4 y5 y6 y7 y8
        refine (valid_dia (HE6.out _ HR2.out)).mono ?_
        rintro e V3 ⟨rfl, hb3⟩
        have HR3 := Lib.hid (HR2.out.trans (hb3.mono HR2.out.size))
        clear hb3
        obtain ⟨y1, y2, y3, y4, y5, y6, y7, y8⟩ := HS5.out _ HR3.out
        go_wp2_with fail
        clear y1 y2 y3 y4 y5 y6 y7 y8
        refine (valid_dia (HE7.out _ HR3.out)).mono ?_
        rintro e V4 ⟨rfl, hb4⟩
        have HR4 := Lib.hid (HR3.out.trans (hb4.mono HR3.out.size))
        clear hb4
        obtain ⟨y1, y2, y3, y4, y5, y6, y7, y8⟩ := HS5.out _ HR4.out
        go_wp2_with fail
        clear y1 y2 y3 y4 y5 y6 y7 y8
        refine (HEV5.out _ HR4.out).mono ?_
        rintro e V5 ⟨rfl, hb5⟩
        have HR5 := Lib.hid (HR4.out.trans (hb5.mono HR4.out.size))
        clear hb5
        obtain ⟨y1, y2, y3, y4, y5, y6, y7, y8⟩ := HS5.out _ HR5.out
        go_wp2_with fail
        clear y1 y2 y3 y4 y5 y6 y7 y8
        refine (HEV6.out _ HR5.out).mono ?_
        rintro e V6 ⟨rfl, hb6⟩
        have HR6 := Lib.hid (HR5.out.trans (hb6.mono HR5.out.size))
        clear hb6
        obtain ⟨y1, y2, y3, y4, y5, y6, y7, y8⟩ := HS5.out _ HR6.out
        go_wp2_with fail
        clear y1 y2 y3 y4 y5 y6 y7 y8
        refine (HEV7.out _ HR6.out).mono ?_
        rintro e V7 ⟨rfl, hb7⟩
        have HR7 := Lib.hid (HR6.out.trans (hb7.mono HR6.out.size))
        clear hb7
        obtain ⟨y1, y2, y3, y4, y5, y6, y7, y8⟩ := HS5.out _ HR7.out
        go_wp2_with fail
        clear y1 y2 y3 y4 y5 y6 y7 y8
        refine (awake_any _).mono ?_
        rintro e V8 ⟨rfl, hb8⟩
        have HR8 := Lib.hid (HR7.out.trans (hb8.mono HR7.out.size))
        clear hb8
        have HZ := Lib.hid (HBF.out.trans (HR8.out.mono HBF.out.size))
        go_wp2
        go_ret
        exact ⟨rfl, HZ.out⟩
    · cases Y
      · obtain ⟨y1, y2, y3, y4, y5, y6, y7, y8⟩ := HS5.out _ HR1.out
        go_wp2_with fail
        clear y1 y2 y3 y4 y5 y6 y7 y8 tb
        refine (valid_dia (HE5.out _ HR1.out)).mono ?_
        rintro e V2 ⟨rfl, hb2⟩
        have HR2 := Lib.hid (HR1.out.trans (hb2.mono HR1.out.size))
        clear hb2
        obtain ⟨y1, y2, y3, y4, y5, y6, y7, y8⟩ := HS5.out _ HR2.out
        go_wp2_with fail
        clear y1 y2 y3 y4 y5 y6 y7 y8
        refine (valid_dia (HE6.out _ HR2.out)).mono ?_
        rintro e V3 ⟨rfl, hb3⟩
        have HR3 := Lib.hid (HR2.out.trans (hb3.mono HR2.out.size))
        clear hb3
        obtain ⟨y1, y2, y3, y4, y5, y6, y7, y8⟩ := HS5.out _ HR3.out
        go_wp2_with fail
        clear y1 y2 y3 y4 y5 y6 y7 y8
        refine (valid_dia (HE7.out _ HR3.out)).mono ?_
        rintro e V4 ⟨rfl, hb4⟩
        have HR4 := Lib.hid (HR3.out.trans (hb4.mono HR3.out.size))
        clear hb4
        obtain ⟨y1, y2, y3, y4, y5, y6, y7, y8⟩ := HS5.out _ HR4.out
        go_wp2_with fail
        clear y1 y2 y3 y4 y5 y6 y7 y8
        refine (HEV5.out _ HR4.out).mono ?_
        rintro e V5 ⟨rfl, hb5⟩
        have HR5 := Lib.hid (HR4.out.trans (hb5.mono HR4.out.size))
        clear hb5
        obtain ⟨y1, y2, y3, y4, y5, y6, y7, y8⟩ := HS5.out _ HR5.out
        go_wp2_with fail
        clear y1 y2 y3 y4 y5 y6 y7 y8
        refine (HEV6.out _ HR5.out).mono ?_
        rintro e V6 ⟨rfl, hb6⟩
        have HR6 := Lib.hid (HR5.out.trans (hb6.mono HR5.out.size))
        clear hb6
        obtain ⟨y1, y2, y3, y4, y5, y6, y7, y8⟩ := HS5.out _ HR6.out
        go_wp2_with fail
        clear y1 y2 y3 y4 y5 y6 y7 y8
        refine (HEV7.out _ HR6.out).mono ?_
        rintro e V7 ⟨rfl, hb7⟩
        have HR7 := Lib.hid (HR6.out.trans (hb7.mono HR6.out.size))
        clear hb7
        obtain ⟨y1, y2, y3, y4, y5, y6, y7, y8⟩ := HS5.out _ HR7.out
        go_wp2_with fail
        clear y1 y2 y3 y4 y5 y6 y7 y8
        refine (awake_any _).mono ?_
        rintro e V8 ⟨rfl, hb8⟩
        have HR8 := Lib.hid (HR7.out.trans (hb8.mono HR7.out.size))
        clear hb8
        have HZ := Lib.hid (HBF.out.trans (HR8.out.mono HBF.out.size))
        go_wp2
        go_ret
        exact ⟨rfl, HZ.out⟩
      · obtain ⟨y1, y2, y3, y4, y5, y6, y7, y8⟩ := HS5.out _ HR1.out
        go_wp2_with fail
        clear y1 y2 y3 y4 y5 y6 y7 y8 tb
        refine (valid_dia (HE5.out _ HR1.out)).mono ?_
        rintro e V2 ⟨rfl, hb2⟩
        have HR2 := Lib.hid (HR1.out.trans (hb2.mono HR1.out.size))
        clear hb2
        obtain ⟨y1, y2, y3, y4, y5, y6, y7, y8⟩ := HS5.out _ HR2.out
        go_wp2_with fail
        clear y1 y2 y3 y4 y5 y6 y7 y8
        refine (valid_dia (HE6.out _ HR2.out)).mono ?_
        rintro e V3 ⟨rfl, hb3⟩
        have HR3 := Lib.hid (HR2.out.trans (hb3.mono HR2.out.size))
        clear hb3
        obtain ⟨y1, y2, y3, y4, y5, y6, y7, y8⟩ := HS5.out _ HR3.out
        go_wp2_with fail
        clear y1 y2 y3 y4 y5 y6 y7 y8
        refine (valid_dia (HE7.out _ HR3.out)).mono ?_
        rintro e V4 ⟨rfl, hb4⟩
        have HR4 := Lib.hid (HR3.out.trans (hb4.mono HR3.out.size))
        clear hb4
        obtain ⟨y1, y2, y3, y4, y5, y6, y7, y8⟩ := HS5.out _ HR4.out
        go_wp2_with fail
        clear y1 y2 y3 y4 y5 y6 y7 y8
        refine (HEV5.out _ HR4.out).mono ?_
        rintro e V5 ⟨rfl, hb5⟩
        have HR5 := Lib.hid (HR4.out.trans (hb5.mono HR4.out.size))
        clear hb5
        obtain ⟨y1, y2, y3, y4, y5, y6, y7, y8⟩ := HS5.out _ HR5.out
        go_wp2_with fail
        clear y1 y2 y3 y4 y5 y6 y7 y8
        refine (HEV6.out _ HR5.out).mono ?_
        rintro e V6 ⟨rfl, hb6⟩
        have HR6 := Lib.hid (HR5.out.trans (hb6.mono HR5.out.size))
        clear hb6
        obtain ⟨y1, y2, y3, y4, y5, y6, y7, y8⟩ := HS5.out _ HR6.out
        go_wp2_with fail
        clear y1 y2 y3 y4 y5 y6 y7 y8
        refine (HEV7.out _ HR6.out).mono ?_
        rintro e V7 ⟨rfl, hb7⟩
        have HR7 := Lib.hid (HR6.out.trans (hb7.mono HR6.out.size))
        clear hb7
        obtain ⟨y1, y2, y3, y4, y5, y6, y7, y8⟩ := HS5.out _ HR7.out
        go_wp2_with fail
        clear y1 y2 y3 y4 y5 y6 y7 y8
        refine (awake_any _).mono ?_
        rintro e V8 ⟨rfl, hb8⟩
        have HR8 := Lib.hid (HR7.out.trans (hb8.mono HR7.out.size))
        clear hb8
        have HZ := Lib.hid (HBF.out.trans (HR8.out.mono HBF.out.size))
        go_wp2
        go_ret
        exact ⟨rfl, HZ.out⟩
  · have fin : Hid (∀ (e : Ending) (w' : World), e = .returned (.bool true) ∧ Below W2.heap.size W2 w' → e = .returned (.bool true) ∧ Below w.heap.size w w') := Lib.hid fun e w' h => ⟨h.1, HBW.out.trans (h.2.mono HBW.out.size)⟩
    clear H1 H2 HP
    cases p1
    · go_wp2_with fail
      rw [← hW2]
      refine hawk.out.mono ?_
      rintro e w' ⟨rfl, hb⟩
      have HZ := Lib.hid (fin.out _ _ ⟨rfl, hb⟩)
      clear hb hW2
      go_wp2
      go_ret
      exact ⟨rfl, HZ.out.2⟩
    · cases p2
      · go_wp2_with fail
        rw [← hW2]
        refine hawk.out.mono ?_
        rintro e w' ⟨rfl, hb⟩
        have HZ := Lib.hid (fin.out _ _ ⟨rfl, hb⟩)
        clear hb hW2
        go_wp2
        go_ret
        exact ⟨rfl, HZ.out.2⟩
      · exact absurd ⟨rfl, rfl⟩ hall
end Go.Proofs.Ytplmbmecjhmiiaa
