/- The law DiagramCanonical. -/
import Derived.Test.YtplmbmecjhmiiaaDrawn6
import Derived.Test.YtplmbmecjhmiiaaAwake6
namespace Go.Proofs.Ytplmbmecjhmiiaa
open Go Go.RowKit
set_option maxRecDepth 100000 in
set_option maxHeartbeats 16000000 in
theorem canonical_any (v1 v2 v3 : Value) (l m n : List (List Int × List Int)) (w : World) (h1 : PthR w w.heap.size v1 l) (h2 : PthR w w.heap.size v2 m) (h3 : PthR w w.heap.size v3 n) : Calls Try.prog 5 #[v1, v2, v3] w fun e w' => e = .returned (.bool true) ∧ Below w.heap.size w w' := by
  have HP := Lib.hid (And.intro h1 (And.intro h2 h3))
  clear h1 h2 h3
  go_enter Try.func5, Try.ntmps5
  go_wp2_with fail
  refine (drawn_one v1 l w (HP.out.1)).mono ?_
  rintro e w1 ⟨A1, n1, c1, x1, p1, rfl, hd1, hp1, hb1⟩
  obtain ⟨W1, hW1⟩ : ∃ W1, W1 = w1.alloc (.cells #[.slice A1 n1 c1, .int .i64 x1] 24) := ⟨_, rfl⟩
  have hbW1 : Below w1.heap.size w1 W1 := by rw [hW1]; exact (Below.refl _ _).alloc (Nat.le_refl _) _
  have k1 : W1.heap[w1.heap.size]? = some (.cells #[.slice A1 n1 c1, .int .i64 x1] 24 (0, 0)) := by rw [hW1]; exact heap_alloc_new w1 _
  have H1 := Lib.hid (And.intro k1 (And.intro (fun h : p1 = true => (hd1 h).on hbW1 hbW1.size) (And.intro (hb1.trans (hbW1.mono hb1.size)) hb1.size)))
  clear hd1 hp1 hb1 hbW1 k1
  go_wp2_with fail
  rw [← hW1]
  clear hW1
  refine (drawn_one v2 m W1 ((HP.out.2.1.on H1.out.2.2.1).up H1.out.2.2.1.size)).mono ?_
  rintro e w2 ⟨A2, n2, c2, x2, p2, rfl, hd2, hp2, hb2⟩
  obtain ⟨W2, hW2⟩ : ∃ W2, W2 = w2.alloc (.cells #[.slice A2 n2 c2, .int .i64 x2] 24) := ⟨_, rfl⟩
  have hbW2 : Below w2.heap.size w2 W2 := by rw [hW2]; exact (Below.refl _ _).alloc (Nat.le_refl _) _
  have k2 : W2.heap[w2.heap.size]? = some (.cells #[.slice A2 n2 c2, .int .i64 x2] 24 (0, 0)) := by rw [hW2]; exact heap_alloc_new w2 _
  have H2 := Lib.hid (And.intro k2 (And.intro (fun h : p2 = true => (hd2 h).on hbW2 hbW2.size) (And.intro (hb2.trans (hbW2.mono hb2.size)) hb2.size)))
  clear hd2 hp2 hb2 hbW2 k2
  go_wp2_with fail
  rw [← hW2]
  clear hW2
  refine (drawn_one v3 n W2 (((HP.out.2.2.on H1.out.2.2.1).on (H2.out.2.2.1.mono H1.out.2.2.1.size)).up (Nat.le_trans H1.out.2.2.1.size H2.out.2.2.1.size))).mono ?_
  rintro e w3 ⟨A3, n3, c3, x3, p3, rfl, hd3, hp3, hb3⟩
  obtain ⟨W3, hW3⟩ : ∃ W3, W3 = w3.alloc (.cells #[.slice A3 n3 c3, .int .i64 x3] 24) := ⟨_, rfl⟩
  have hbW3 : Below w3.heap.size w3 W3 := by rw [hW3]; exact (Below.refl _ _).alloc (Nat.le_refl _) _
  have k3 : W3.heap[w3.heap.size]? = some (.cells #[.slice A3 n3 c3, .int .i64 x3] 24 (0, 0)) := by rw [hW3]; exact heap_alloc_new w3 _
  have H3 := Lib.hid (And.intro k3 (And.intro (fun h : p3 = true => (hd3 h).on hbW3 hbW3.size) (And.intro (hb3.trans (hbW3.mono hb3.size)) hb3.size)))
  clear hd3 hp3 hb3 hbW3 k3
  have hbw : Below w.heap.size w W3 := H1.out.2.2.1.trans ((H2.out.2.2.1.mono H1.out.2.2.1.size).trans (H3.out.2.2.1.mono (Nat.le_trans H1.out.2.2.1.size H2.out.2.2.1.size)))
  have HBW := Lib.hid hbw
  have hawk := Lib.hid (awake_any W3)
  clear hbw
  by_cases hall : p1 = true ∧ p2 = true ∧ p3 = true
  · obtain ⟨rfl, rfl, rfl⟩ := hall
    have s1 := H1.out.2.2.1.size
    have s2 := H2.out.2.2.1.size
    have s3 := H3.out.2.2.1.size
    have z1 := lt_of_heap H1.out.1
    have z2 := lt_of_heap H2.out.1
    have z3 := lt_of_heap H3.out.1
    have ka := (H3.out.2.2.1.block _ (by omega)).trans ((H2.out.2.2.1.block _ (by omega)).trans H1.out.1)
    have kb := (H3.out.2.2.1.block _ (by omega)).trans H2.out.1
    have kc := H3.out.1
    have HS : Hid (∀ V, Below W3.heap.size W3 V → (V.cell? ⟨w1.heap.size, 0, none⟩ = some (.slice A1 n1 c1) ∧ V.cell? ⟨w1.heap.size, 1, none⟩ = some (.int .i64 x1) ∧ V.cell? ⟨w2.heap.size, 0, none⟩ = some (.slice A2 n2 c2) ∧ V.cell? ⟨w2.heap.size, 1, none⟩ = some (.int .i64 x2) ∧ V.cell? ⟨w3.heap.size, 0, none⟩ = some (.slice A3 n3 c3) ∧ V.cell? ⟨w3.heap.size, 1, none⟩ = some (.int .i64 x3))) := Lib.hid fun V hV => by
      obtain ⟨a0, a1⟩ := cells2 ((hV.block _ (by omega)).trans ka)
      obtain ⟨b0, b1⟩ := cells2 ((hV.block _ (by omega)).trans kb)
      obtain ⟨c0, c1⟩ := cells2 ((hV.block _ (by omega)).trans kc)
      exact ⟨a0, a1, b0, b1, c0, c1⟩
    have HDa : Hid (∀ V, Below W3.heap.size W3 V → Dia (fP l) V V.heap.size (.agg #[.slice A1 n1 c1, .int .i64 x1])) := Lib.hid fun V hV => ((((H1.out.2.1 rfl).on H2.out.2.2.1 s2).on H3.out.2.2.1 s3).on hV hV.size)
    have HDb : Hid (∀ V, Below W3.heap.size W3 V → Dia (fP m) V V.heap.size (.agg #[.slice A2 n2 c2, .int .i64 x2])) := Lib.hid fun V hV => (((H2.out.2.1 rfl).on H3.out.2.2.1 s3).on hV hV.size)
    have HDc : Hid (∀ V, Below W3.heap.size W3 V → Dia (fP n) V V.heap.size (.agg #[.slice A3 n3 c3, .int .i64 x3])) := Lib.hid fun V hV => ((H3.out.2.1 rfl).on hV hV.size)
    have HLT := Lib.hid (And.intro z1 (And.intro z2 z3))
    clear s1 s2 s3 z1 z2 z3 ka kb kc H1 H2 H3 HP hawk
    go_wp2_with fail
    rw [← hW3]
    clear hW3
    refine wp_region_held_drew (S := fun V => (V.cell? ⟨w1.heap.size, 0, none⟩ = some (.slice A1 n1 c1) ∧ V.cell? ⟨w1.heap.size, 1, none⟩ = some (.int .i64 x1) ∧ V.cell? ⟨w2.heap.size, 0, none⟩ = some (.slice A2 n2 c2) ∧ V.cell? ⟨w2.heap.size, 1, none⟩ = some (.int .i64 x2) ∧ V.cell? ⟨w3.heap.size, 0, none⟩ = some (.slice A3 n3 c3) ∧ V.cell? ⟨w3.heap.size, 1, none⟩ = some (.int .i64 x3))) (by kernel_rfl) (HS.out _ (Below.refl _ W3).drew) (fun _ => ?_)
    refine tk 0 (HS.out _ (Below.refl _ W3).drew) ?_
    try simp only [Act.put, pA, pB, pC]
    refine tk 1 (HS.out _ (Below.refl _ W3).drew) ?_
    try simp only [Act.put, pA, pB, pC]
    refine tk 2 (HS.out _ (Below.refl _ W3).drew) ?_
    try simp only [Act.put, pA, pB, pC]
    generalize hA : ({ tmps := _, defers := [] } : Act) = a0
    refine wpAnyH_par (Bs := Bool × Bool × Bool × Bool) (L := fun ⟨c1, c2, ba, bs⟩ => #[true, true, true, c1, c2, ba, bs]) (chk := fun ⟨c1, c2, ba, bs⟩ i => (i == 3 && (!c1)) || ((i == 4 && (!c2 && (c1))) || ((i == 5 && (!ba)) || (i == 6 && (!bs && (c2 && (ba))))))) (full := fun ⟨c1, c2, ba, bs⟩ => c1 && (c2 && (ba && (bs)))) (by rintro ⟨c1, c2, ba, bs⟩; revert c1 c2 ba bs; decide +kernel) (by rintro ⟨c1, c2, ba, bs⟩; revert c1 c2 ba bs; decide +kernel)
      (Inv := fun ⟨c1, c2, ba, bs⟩ a wq => ∃ (u1 u2 uA : Value), a = (((a0.put (some 44) u1).put (some 45) u2).put (some 13) uA) ∧ Below W3.heap.size W3 wq ∧ (c1 = true → Dia (fun s => fP m s || fP n s) wq wq.heap.size u1) ∧ (c2 = true → Dia (fun s => fP l s && (fP m s || fP n s)) wq wq.heap.size u2) ∧ (ba = true → bs = false → BoxD W3.heap.size uA wq) ∧ (bs = true → BoxF (fun s => fP l s && (fP m s || fP n s)) W3.heap.size uA wq) ∧ (c2 = true → c1 = true) ∧ (bs = true → c2 = true ∧ ba = true)) ?_ ?_ (b := ⟨false, false, false, false⟩) rfl (by decide) ?_
    rotate_left
    · rintro ⟨c1, c2, ba, bs⟩ a wq i ⟨u1, u2, uA, rfl, hB, d1, d2, hba, hbs, g2, gs⟩ hk
      simp only [Bool.or_eq_true, Bool.and_eq_true, beq_iff_eq, Bool.not_eq_true'] at hk
      subst hA
      have hzq : W3.heap.size ≤ wq.heap.size := hB.size
      rcases hk with ⟨rfl, rfl⟩ | ⟨rfl, rfl, rfl⟩ | ⟨rfl, rfl⟩ | ⟨rfl, rfl, rfl, rfl⟩
      · have e2 : c2 = false := by cases c2; rfl; exact absurd (g2 rfl) (by simp)
        have es : bs = false := by cases bs; rfl; exact absurd (gs rfl).1 (by simp [e2])
        subst e2 es
        refine step_op rfl (by rfl) (fun K hK => ?_)
        simp only [Act.put, List.setIfInBounds_toArray, List.set_cons_zero, List.set_cons_succ]
        go_simp
        refine (or_any (HDb.out _ hB) (HDc.out _ hB)).mono ?_
        rintro e w' ⟨v', rfl, hd, hb'⟩
        have hB' := hB.trans (hb'.mono hzq)
        exact hK _ _ ⟨HS.out _ hB', ⟨true, false, ba, false⟩, rfl, _, u2, uA, rfl, hB', fun _ => hd, nofun, fun h h2 => (hba h h2).old hb', nofun, nofun, nofun⟩
      · have es : bs = false := by cases bs; rfl; exact absurd (gs rfl).1 (by simp)
        subst es
        refine step_op rfl (by rfl) (fun K hK => ?_)
        simp only [Act.put, List.setIfInBounds_toArray, List.set_cons_zero, List.set_cons_succ]
        go_simp
        refine (and_any (HDa.out _ hB) (d1 rfl)).mono ?_
        rintro e w' ⟨v', rfl, hd, hb'⟩
        have hB' := hB.trans (hb'.mono hzq)
        exact hK _ _ ⟨HS.out _ hB', ⟨true, true, ba, false⟩, rfl, u1, _, uA, rfl, hB', fun h => (d1 h).on hb' hb'.size, fun _ => hd, fun h h2 => (hba h h2).old hb', nofun, fun _ => rfl, nofun⟩
      · have es : bs = false := by cases bs; rfl; exact absurd (gs rfl).2 (by simp)
        subst es
        have hb' : Below wq.heap.size wq (wq.alloc (.cells #[.slice none 0 0, .int .i64 0] 24)) := (Below.refl _ _).alloc (Nat.le_refl _) _
        have hB' := hB.trans (hb'.mono hzq)
        refine step_op rfl (by rfl) (fun K hK => ?_)
        simp only [Act.put, List.setIfInBounds_toArray, List.set_cons_zero, List.set_cons_succ]
        go_simp
        exact hK _ _ ⟨HS.out _ hB', ⟨c1, c2, true, false⟩, rfl, u1, u2, _, rfl, hB', fun h => (d1 h).on hb' hb'.size, fun h => (d2 h).on hb' hb'.size, fun _ _ => ⟨_, rfl, hzq, heap_alloc_new wq _⟩, nofun, g2, nofun⟩
      · obtain ⟨b, rfl, hzb, kb⟩ := hba rfl rfl
        have hd := d2 rfl
        obtain ⟨A, n, c, x, rfl⟩ := hd.form
        obtain ⟨V7, hV7, hF, hB', hk7, t0, t1, z0, z1⟩ := box_fill kb hzb hd hB
        refine step_op rfl (by rfl) (fun K hK => ?_)
        simp only [Act.put, List.setIfInBounds_toArray, List.set_cons_zero, List.set_cons_succ]
        go_simp
        rw [← hV7]
        exact hK _ _ ⟨HS.out _ hB', ⟨c1, true, true, true⟩, rfl, u1, _, _, rfl, hB', fun h => hk7 _ _ (d1 h), fun h => hk7 _ _ (d2 h), fun _ h => absurd h (by simp), fun _ => hF, g2, fun _ => ⟨rfl, rfl⟩⟩
    · exact ⟨undef, undef, undef, by subst hA; rfl, (Below.refl _ _).drew, nofun, nofun, nofun, nofun, nofun, nofun⟩
    rintro ⟨c1, c2, ba, bs⟩ a wq hf ⟨u1, u2, uA, rfl, hB, _, _, _, hbox, _, _⟩
    simp only [Bool.and_eq_true] at hf
    obtain ⟨rfl, rfl, rfl, rfl⟩ := hf
    subst hA
    replace hbox := hbox rfl
    obtain ⟨W4, rfl⟩ : ∃ W4, W4 = wq := ⟨_, rfl⟩
    obtain ⟨b5, A5, n5, c5, x5, rfl, hz5, k5, hd5⟩ := hbox
    have HB4 := Lib.hid hB
    have H5 := Lib.hid (And.intro hz5 (And.intro k5 hd5))
    have HS4 : Hid (∀ V, Below W4.heap.size W4 V → (V.cell? ⟨w1.heap.size, 0, none⟩ = some (.slice A1 n1 c1) ∧ V.cell? ⟨w1.heap.size, 1, none⟩ = some (.int .i64 x1) ∧ V.cell? ⟨w2.heap.size, 0, none⟩ = some (.slice A2 n2 c2) ∧ V.cell? ⟨w2.heap.size, 1, none⟩ = some (.int .i64 x2) ∧ V.cell? ⟨w3.heap.size, 0, none⟩ = some (.slice A3 n3 c3) ∧ V.cell? ⟨w3.heap.size, 1, none⟩ = some (.int .i64 x3))) := Lib.hid fun V hV => HS.out V (hB.trans (hV.mono hB.size))
    clear hB hz5 k5 hd5
    simp only [Act.put, List.setIfInBounds_toArray, List.set_cons_zero, List.set_cons_succ]
    go_wp2_with fail
    refine wp_region_held_drew (S := fun V => (V.cell? ⟨w1.heap.size, 0, none⟩ = some (.slice A1 n1 c1) ∧ V.cell? ⟨w1.heap.size, 1, none⟩ = some (.int .i64 x1) ∧ V.cell? ⟨w2.heap.size, 0, none⟩ = some (.slice A2 n2 c2) ∧ V.cell? ⟨w2.heap.size, 1, none⟩ = some (.int .i64 x2) ∧ V.cell? ⟨w3.heap.size, 0, none⟩ = some (.slice A3 n3 c3) ∧ V.cell? ⟨w3.heap.size, 1, none⟩ = some (.int .i64 x3))) (by kernel_rfl) (HS4.out _ (Below.refl _ W4).drew) (fun _ => ?_)
    refine tk 0 (HS4.out _ (Below.refl _ W4).drew) ?_
    try simp only [Act.put, pA, pB, pC]
    refine tk 1 (HS4.out _ (Below.refl _ W4).drew) ?_
    try simp only [Act.put, pA, pB, pC]
    refine tk 3 (HS4.out _ (Below.refl _ W4).drew) ?_
    try simp only [Act.put, pA, pB, pC]
    refine tk 4 (HS4.out _ (Below.refl _ W4).drew) ?_
    try simp only [Act.put, pA, pB, pC]
    generalize hA : ({ tmps := _, defers := [] } : Act) = a0
    refine wpAnyH_par (Bs := Bool × Bool × Bool × Bool × Bool) (L := fun ⟨c1, c2, c3, ba, bs⟩ => #[true, true, c1, true, true, c2, c3, ba, bs]) (chk := fun ⟨c1, c2, c3, ba, bs⟩ i => (i == 2 && (!c1)) || ((i == 5 && (!c2 && (c1))) || ((i == 6 && (!c3 && (c2))) || ((i == 7 && (!ba)) || (i == 8 && (!bs && (c3 && (ba)))))))) (full := fun ⟨c1, c2, c3, ba, bs⟩ => c1 && (c2 && (c3 && (ba && (bs))))) (by rintro ⟨c1, c2, c3, ba, bs⟩; revert c1 c2 c3 ba bs; decide +kernel) (by rintro ⟨c1, c2, c3, ba, bs⟩; revert c1 c2 c3 ba bs; decide +kernel)
      (Inv := fun ⟨c1, c2, c3, ba, bs⟩ a wq => ∃ (u1 u2 u3 uA : Value), a = ((((a0.put (some 48) u1).put (some 51) u2).put (some 52) u3).put (some 14) uA) ∧ Below W4.heap.size W4 wq ∧ (c1 = true → Dia (fun s => fP l s && fP m s) wq wq.heap.size u1) ∧ (c2 = true → Dia (fun s => fP l s && fP n s) wq wq.heap.size u2) ∧ (c3 = true → Dia (fun s => (fP l s && fP m s) || (fP l s && fP n s)) wq wq.heap.size u3) ∧ (ba = true → bs = false → BoxD W4.heap.size uA wq) ∧ (bs = true → BoxF (fun s => (fP l s && fP m s) || (fP l s && fP n s)) W4.heap.size uA wq) ∧ (c2 = true → c1 = true) ∧ (c3 = true → c2 = true) ∧ (bs = true → c3 = true ∧ ba = true)) ?_ ?_ (b := ⟨false, false, false, false, false⟩) rfl (by decide) ?_
    rotate_left
    · rintro ⟨c1, c2, c3, ba, bs⟩ a wq i ⟨u1, u2, u3, uA, rfl, hB, d1, d2, d3, hba, hbs, g2, g3, gs⟩ hk
      simp only [Bool.or_eq_true, Bool.and_eq_true, beq_iff_eq, Bool.not_eq_true'] at hk
      subst hA
      have hzq : W4.heap.size ≤ wq.heap.size := hB.size
      rcases hk with ⟨rfl, rfl⟩ | ⟨rfl, rfl, rfl⟩ | ⟨rfl, rfl, rfl⟩ | ⟨rfl, rfl⟩ | ⟨rfl, rfl, rfl, rfl⟩
      · have e2 : c2 = false := by cases c2; rfl; exact absurd (g2 rfl) (by simp)
        have e3 : c3 = false := by cases c3; rfl; exact absurd (g3 rfl) (by simp [e2])
        have es : bs = false := by cases bs; rfl; exact absurd (gs rfl).1 (by simp [e3])
        subst e2 e3 es
        refine step_op rfl (by rfl) (fun K hK => ?_)
        simp only [Act.put, List.setIfInBounds_toArray, List.set_cons_zero, List.set_cons_succ]
        go_simp
        refine (and_any (HDa.out _ (HB4.out.trans (hB.mono HB4.out.size))) (HDb.out _ (HB4.out.trans (hB.mono HB4.out.size)))).mono ?_
        rintro e w' ⟨v', rfl, hd, hb'⟩
        have hB' := hB.trans (hb'.mono hzq)
        exact hK _ _ ⟨HS4.out _ hB', ⟨true, false, false, ba, false⟩, rfl, _, u2, u3, uA, rfl, hB', fun _ => hd, nofun, nofun, fun h h2 => (hba h h2).old hb', nofun, nofun, nofun, nofun⟩
      · have e3 : c3 = false := by cases c3; rfl; exact absurd (g3 rfl) (by simp)
        have es : bs = false := by cases bs; rfl; exact absurd (gs rfl).1 (by simp [e3])
        subst e3 es
        refine step_op rfl (by rfl) (fun K hK => ?_)
        simp only [Act.put, List.setIfInBounds_toArray, List.set_cons_zero, List.set_cons_succ]
        go_simp
        refine (and_any (HDa.out _ (HB4.out.trans (hB.mono HB4.out.size))) (HDc.out _ (HB4.out.trans (hB.mono HB4.out.size)))).mono ?_
        rintro e w' ⟨v', rfl, hd, hb'⟩
        have hB' := hB.trans (hb'.mono hzq)
        exact hK _ _ ⟨HS4.out _ hB', ⟨true, true, false, ba, false⟩, rfl, u1, _, u3, uA, rfl, hB', fun h => (d1 h).on hb' hb'.size, fun _ => hd, nofun, fun h h2 => (hba h h2).old hb', nofun, fun _ => rfl, nofun, nofun⟩
      · have es : bs = false := by cases bs; rfl; exact absurd (gs rfl).1 (by simp)
        subst es
        refine step_op rfl (by rfl) (fun K hK => ?_)
        simp only [Act.put, List.setIfInBounds_toArray, List.set_cons_zero, List.set_cons_succ]
        go_simp
        refine (or_any (d1 (g2 rfl)) (d2 rfl)).mono ?_
        rintro e w' ⟨v', rfl, hd, hb'⟩
        have hB' := hB.trans (hb'.mono hzq)
        exact hK _ _ ⟨HS4.out _ hB', ⟨c1, true, true, ba, false⟩, rfl, u1, u2, _, uA, rfl, hB', fun h => (d1 h).on hb' hb'.size, fun h => (d2 h).on hb' hb'.size, fun _ => hd, fun h h2 => (hba h h2).old hb', nofun, g2, fun _ => rfl, nofun⟩
      · have es : bs = false := by cases bs; rfl; exact absurd (gs rfl).2 (by simp)
        subst es
        have hb' : Below wq.heap.size wq (wq.alloc (.cells #[.slice none 0 0, .int .i64 0] 24)) := (Below.refl _ _).alloc (Nat.le_refl _) _
        have hB' := hB.trans (hb'.mono hzq)
        refine step_op rfl (by rfl) (fun K hK => ?_)
        simp only [Act.put, List.setIfInBounds_toArray, List.set_cons_zero, List.set_cons_succ]
        go_simp
        exact hK _ _ ⟨HS4.out _ hB', ⟨c1, c2, c3, true, false⟩, rfl, u1, u2, u3, _, rfl, hB', fun h => (d1 h).on hb' hb'.size, fun h => (d2 h).on hb' hb'.size, fun h => (d3 h).on hb' hb'.size, fun _ _ => ⟨_, rfl, hzq, heap_alloc_new wq _⟩, nofun, g2, g3, nofun⟩
      · obtain ⟨b, rfl, hzb, kb⟩ := hba rfl rfl
        have hd := d3 rfl
        obtain ⟨A, n, c, x, rfl⟩ := hd.form
        obtain ⟨V7, hV7, hF, hB', hk7, t0, t1, z0, z1⟩ := box_fill kb hzb hd hB
        refine step_op rfl (by rfl) (fun K hK => ?_)
        simp only [Act.put, List.setIfInBounds_toArray, List.set_cons_zero, List.set_cons_succ]
        go_simp
        rw [← hV7]
        exact hK _ _ ⟨HS4.out _ hB', ⟨c1, c2, true, true, true⟩, rfl, u1, u2, _, _, rfl, hB', fun h => hk7 _ _ (d1 h), fun h => hk7 _ _ (d2 h), fun h => hk7 _ _ (d3 h), fun _ h => absurd h (by simp), fun _ => hF, g2, g3, fun _ => ⟨rfl, rfl⟩⟩
    · exact ⟨undef, undef, undef, undef, by subst hA; rfl, (Below.refl _ _).drew, nofun, nofun, nofun, nofun, nofun, nofun, nofun, nofun⟩
    rintro ⟨c1, c2, c3, ba, bs⟩ a wq hf ⟨u1, u2, u3, uA, rfl, hB, _, _, _, _, hbox, _, _, _⟩
    simp only [Bool.and_eq_true] at hf
    obtain ⟨rfl, rfl, rfl, rfl, rfl⟩ := hf
    subst hA
    replace hbox := hbox rfl
    obtain ⟨W5, rfl⟩ : ∃ W5, W5 = wq := ⟨_, rfl⟩
    obtain ⟨b6, A6, n6, c6, x6, rfl, hz6, k6, hd6⟩ := hbox
    have k5 := (hB.block _ (lt_of_heap H5.out.2.1)).trans H5.out.2.1
    have hd5 := H5.out.2.2.on hB hB.size
    have hB5 := HB4.out.trans (hB.mono HB4.out.size)
    have HS5 : Hid (∀ V, Below W5.heap.size W5 V → (V.cell? ⟨w1.heap.size, 0, none⟩ = some (.slice A1 n1 c1) ∧ V.cell? ⟨w1.heap.size, 1, none⟩ = some (.int .i64 x1) ∧ V.cell? ⟨w2.heap.size, 0, none⟩ = some (.slice A2 n2 c2) ∧ V.cell? ⟨w2.heap.size, 1, none⟩ = some (.int .i64 x2) ∧ V.cell? ⟨b5, 0, none⟩ = some (.slice A5 n5 c5) ∧ V.cell? ⟨b5, 1, none⟩ = some (.int .i64 x5) ∧ V.cell? ⟨b6, 0, none⟩ = some (.slice A6 n6 c6) ∧ V.cell? ⟨b6, 1, none⟩ = some (.int .i64 x6))) := Lib.hid fun V hV => by
      obtain ⟨a0, a1, b0, b1, _, _⟩ := HS.out V (hB5.trans (hV.mono hB5.size))
      obtain ⟨d0, d1⟩ := cells2 ((hV.block _ (lt_of_heap k5)).trans k5)
      obtain ⟨e0, e1⟩ := cells2 ((hV.block _ (lt_of_heap k6)).trans k6)
      exact ⟨a0, a1, b0, b1, d0, d1, e0, e1⟩
    have HE5 : Hid (∀ V, Below W5.heap.size W5 V → Dia (fun s => fP l s && (fP m s || fP n s)) V V.heap.size (.agg #[.slice A5 n5 c5, .int .i64 x5])) := Lib.hid fun V hV => hd5.on hV hV.size
    have HE6 : Hid (∀ V, Below W5.heap.size W5 V → Dia (fun s => (fP l s && fP m s) || (fP l s && fP n s)) V V.heap.size (.agg #[.slice A6 n6 c6, .int .i64 x6])) := Lib.hid fun V hV => hd6.on hV hV.size
    have HB5 := Lib.hid hB5
    clear hB hz6 k6 hd6 k5 hd5 hB5 H5 HS HS4
    simp only [Act.put, List.setIfInBounds_toArray, List.set_cons_zero, List.set_cons_succ]
    go_wp2_with fail
    have HC0 := Lib.hid ((Below.refl W5.heap.size W5).drew)
    refine wp_region_held_drew (S := fun V => (V.cell? ⟨w1.heap.size, 0, none⟩ = some (.slice A1 n1 c1) ∧ V.cell? ⟨w1.heap.size, 1, none⟩ = some (.int .i64 x1) ∧ V.cell? ⟨w2.heap.size, 0, none⟩ = some (.slice A2 n2 c2) ∧ V.cell? ⟨w2.heap.size, 1, none⟩ = some (.int .i64 x2) ∧ V.cell? ⟨b5, 0, none⟩ = some (.slice A5 n5 c5) ∧ V.cell? ⟨b5, 1, none⟩ = some (.int .i64 x5) ∧ V.cell? ⟨b6, 0, none⟩ = some (.slice A6 n6 c6) ∧ V.cell? ⟨b6, 1, none⟩ = some (.int .i64 x6))) (by kernel_rfl) (HS5.out _ HC0.out) (fun _ => ?_)
    refine tk 0 (HS5.out _ HC0.out) ?_
    try simp only [Act.put, pA, pB, pC]
    refine tk 1 (HS5.out _ HC0.out) ?_
    try simp only [Act.put, pA, pB, pC]
    refine one_op 2 (by kernel_rfl) rfl (by rfl) (fun K hK => ?_)
    go_simp
    refine (equalD_dia (HE5.out _ HC0.out) (HE6.out _ HC0.out) true ⟨fun _ => by funext s; cases fP l s <;> simp, fun _ => rfl⟩).mono ?_
    rintro e V1 ⟨rfl, hb1⟩
    have HC1 := Lib.hid (HC0.out.trans (hb1.mono HC0.out.size))
    clear hb1
    refine hK _ _ (HS5.out _ HC1.out) ?_
    try simp only [Act.put, pA, pB, pC]
    clear hK K
    refine tk 3 (HS5.out _ HC1.out) ?_
    try simp only [Act.put, pA, pB, pC]
    refine tk 4 (HS5.out _ HC1.out) ?_
    try simp only [Act.put, pA, pB, pC]
    refine tk 7 (HS5.out _ HC1.out) ?_
    try simp only [Act.put, pA, pB, pC]
    refine one_op 5 (by kernel_rfl) rfl (by rfl) (fun K hK => ?_)
    go_simp
    refine (not_any (HDa.out _ (HB5.out.trans (HC1.out.mono HB5.out.size)))).mono ?_
    rintro e V2 ⟨r2, rfl, hd2, hb2⟩
    have HC2 := Lib.hid (HC1.out.trans (hb2.mono HC1.out.size))
    have E2 := Lib.hid hd2
    clear hd2
    clear hb2
    refine hK _ _ (HS5.out _ HC2.out) ?_
    try simp only [Act.put, pA, pB, pC]
    clear hK K
    refine one_op 6 (by kernel_rfl) rfl (by rfl) (fun K hK => ?_)
    go_simp
    refine (not_any E2.out).mono ?_
    rintro e V3 ⟨r3, rfl, hd3, hb3⟩
    have HC3 := Lib.hid (HC2.out.trans (hb3.mono HC2.out.size))
    have E3 := Lib.hid hd3
    clear hd3
    clear hb3
    refine hK _ _ (HS5.out _ HC3.out) ?_
    try simp only [Act.put, pA, pB, pC]
    clear hK K
    refine one_op 8 (by kernel_rfl) rfl (by rfl) (fun K hK => ?_)
    go_simp
    refine (equalD_dia E3.out (HDa.out _ (HB5.out.trans (HC3.out.mono HB5.out.size))) true ⟨fun _ => by funext s; simp, fun _ => rfl⟩).mono ?_
    rintro e V4 ⟨rfl, hb4⟩
    have HC4 := Lib.hid (HC3.out.trans (hb4.mono HC3.out.size))
    clear hb4
    refine hK _ _ (HS5.out _ HC4.out) ?_
    try simp only [Act.put, pA, pB, pC]
    clear hK K
    refine tk 9 (HS5.out _ HC4.out) ?_
    try simp only [Act.put, pA, pB, pC]
    refine tk 10 (HS5.out _ HC4.out) ?_
    try simp only [Act.put, pA, pB, pC]
    refine tk 11 (HS5.out _ HC4.out) ?_
    try simp only [Act.put, pA, pB, pC]
    refine tk 12 (HS5.out _ HC4.out) ?_
    try simp only [Act.put, pA, pB, pC]
    refine tk 15 (HS5.out _ HC4.out) ?_
    try simp only [Act.put, pA, pB, pC]
    refine tk 17 (HS5.out _ HC4.out) ?_
    try simp only [Act.put, pA, pB, pC]
    refine one_op 13 (by kernel_rfl) rfl (by rfl) (fun K hK => ?_)
    go_simp
    refine (and_any (HDa.out _ (HB5.out.trans (HC4.out.mono HB5.out.size))) (HDb.out _ (HB5.out.trans (HC4.out.mono HB5.out.size)))).mono ?_
    rintro e V5 ⟨r5, rfl, hd5, hb5⟩
    have HC5 := Lib.hid (HC4.out.trans (hb5.mono HC4.out.size))
    have E5 := Lib.hid hd5
    clear hd5
    clear hb5
    refine hK _ _ (HS5.out _ HC5.out) ?_
    try simp only [Act.put, pA, pB, pC]
    clear hK K
    refine one_op 14 (by kernel_rfl) rfl (by rfl) (fun K hK => ?_)
    go_simp
    refine (not_any E5.out).mono ?_
    rintro e V6 ⟨r6, rfl, hd6, hb6⟩
    have HC6 := Lib.hid (HC5.out.trans (hb6.mono HC5.out.size))
    have E6 := Lib.hid hd6
    clear hd6
    clear hb6
    refine hK _ _ (HS5.out _ HC6.out) ?_
    try simp only [Act.put, pA, pB, pC]
    clear hK K
    refine one_op 16 (by kernel_rfl) rfl (by rfl) (fun K hK => ?_)
    go_simp
    refine (not_any (HDa.out _ (HB5.out.trans (HC6.out.mono HB5.out.size)))).mono ?_
    rintro e V7 ⟨r7, rfl, hd7, hb7⟩
    have HC7 := Lib.hid (HC6.out.trans (hb7.mono HC6.out.size))
    have F6 := Lib.hid (E6.out.on hb7 hb7.size)
    have E7 := Lib.hid hd7
    clear hd7
    clear hb7
    refine hK _ _ (HS5.out _ HC7.out) ?_
    try simp only [Act.put, pA, pB, pC]
    clear hK K
    refine one_op 18 (by kernel_rfl) rfl (by rfl) (fun K hK => ?_)
    go_simp
    refine (not_any (HDb.out _ (HB5.out.trans (HC7.out.mono HB5.out.size)))).mono ?_
    rintro e V8 ⟨r8, rfl, hd8, hb8⟩
    have HC8 := Lib.hid (HC7.out.trans (hb8.mono HC7.out.size))
    have G6 := Lib.hid (F6.out.on hb8 hb8.size)
    have F7 := Lib.hid (E7.out.on hb8 hb8.size)
    have E8 := Lib.hid hd8
    clear hd8
    clear hb8
    refine hK _ _ (HS5.out _ HC8.out) ?_
    try simp only [Act.put, pA, pB, pC]
    clear hK K
    refine one_op 19 (by kernel_rfl) rfl (by rfl) (fun K hK => ?_)
    go_simp
    refine (or_any F7.out E8.out).mono ?_
    rintro e V9 ⟨r9, rfl, hd9, hb9⟩
    have HC9 := Lib.hid (HC8.out.trans (hb9.mono HC8.out.size))
    have J6 := Lib.hid (G6.out.on hb9 hb9.size)
    have E9 := Lib.hid hd9
    clear hd9
    clear hb9
    refine hK _ _ (HS5.out _ HC9.out) ?_
    try simp only [Act.put, pA, pB, pC]
    clear hK K
    refine one_op 20 (by kernel_rfl) rfl (by rfl) (fun K hK => ?_)
    go_simp
    refine (equalD_dia J6.out E9.out true ⟨fun _ => by funext s; cases fP l s <;> simp, fun _ => rfl⟩).mono ?_
    rintro e V10 ⟨rfl, hb10⟩
    have HC10 := Lib.hid (HC9.out.trans (hb10.mono HC9.out.size))
    clear hb10
    refine hK _ _ (HS5.out _ HC10.out) ?_
    try simp only [Act.put, pA, pB, pC]
    clear hK K
    refine tk 21 (HS5.out _ HC10.out) ?_
    try simp only [Act.put, pA, pB, pC]
    refine tk 22 (HS5.out _ HC10.out) ?_
    try simp only [Act.put, pA, pB, pC]
    refine one_op 23 (by kernel_rfl) rfl (by rfl) (fun K hK => ?_)
    go_simp
    refine (awake_any _).mono ?_
    rintro e V11 ⟨rfl, hb11⟩
    have HC11 := Lib.hid (HC10.out.trans (hb11.mono HC10.out.size))
    clear hb11
    refine hK _ _ (HS5.out _ HC11.out) ?_
    try simp only [Act.put, pA, pB, pC]
    clear hK K
    refine tk 24 (HS5.out _ HC11.out) ?_
    try simp only [Act.put, pA, pB, pC]
    refine tk 25 (HS5.out _ HC11.out) ?_
    try simp only [Act.put, pA, pB, pC]
    refine wpAnyH_done (by kernel_rfl) ?_ _
    have HZ := Lib.hid (HBW.out.trans ((HB5.out.trans (HC11.out.mono HB5.out.size)).mono HBW.out.size))
    go_wp2
    go_ret
    exact ⟨rfl, HZ.out⟩
  · have fin : Hid (∀ (e : Ending) (w' : World), e = .returned (.bool true) ∧ Below W3.heap.size W3 w' → e = .returned (.bool true) ∧ Below w.heap.size w w') := Lib.hid fun e w' h => ⟨h.1, HBW.out.trans (h.2.mono HBW.out.size)⟩
    clear H1 H2 H3 HP
    cases p1
    · go_wp2_with fail
      rw [← hW3]
      refine hawk.out.mono ?_
      rintro e w' ⟨rfl, hb⟩
      have HZ := Lib.hid (fin.out _ _ ⟨rfl, hb⟩)
      clear hb hW3
      go_wp2
      go_ret
      exact ⟨rfl, HZ.out.2⟩
    · cases p2
      · go_wp2_with fail
        rw [← hW3]
        refine hawk.out.mono ?_
        rintro e w' ⟨rfl, hb⟩
        have HZ := Lib.hid (fin.out _ _ ⟨rfl, hb⟩)
        clear hb hW3
        go_wp2
        go_ret
        exact ⟨rfl, HZ.out.2⟩
      · cases p3
        · go_wp2_with fail
          rw [← hW3]
          refine hawk.out.mono ?_
          rintro e w' ⟨rfl, hb⟩
          have HZ := Lib.hid (fin.out _ _ ⟨rfl, hb⟩)
          clear hb hW3
          go_wp2
          go_ret
          exact ⟨rfl, HZ.out.2⟩
        · exact absurd ⟨rfl, rfl, rfl⟩ hall
end Go.Proofs.Ytplmbmecjhmiiaa
