/- awake. -/
import Derived.Test.YtplmbmecjhmiiaaDoorPths6
import Derived.Test.YtplmbmecjhmiiaaDoorBox6
namespace Go.Proofs.YtplmbmecjhmiiaaDoor
open Go Go.RowKit
theorem can_ab : can (fun s => s 0 && !s 1) [] = ([⟨1, 0, 1⟩, ⟨0, 2, 0⟩], 3) := by
  have hf : F12 (fun s => s 0 && !s 1) := fun s t h => by show (s 0 && !s 1) = (t 0 && !t 1); rw [h 0 (by omega), h 1 (by omega)]
  have hg : F12 (fun s => !s 1) := fun s t h => by show (!s 1) = (!t 1); rw [h 1 (by omega)]
  have c1 : cut (fun s => s 0 && !s 1) 0 true = (fun s => !s 1) := by funext s; simp [cut, upd]
  have c0 : cut (fun s => s 0 && !s 1) 0 false = ffB := by funext s; simp [cut, upd, ffB]
  have e1 : cut (fun s => !s 1) 1 true = ffB := by funext s; simp [cut, upd, ffB]
  have e0 : cut (fun s => !s 1) 1 false = ttB := by funext s; simp [cut, upd, ttB]
  have hn : can (fun s => !s 1) [] = ([⟨1, 0, 1⟩], 2) := by
    have hi : ∀ x : Nat, x < 1 → Ind (fun s => !s 1) x := fun x hx s b => by
      have : x = 0 := by omega
      subst this
      simp [upd]
    rw [can_step hg (l := 1) (by omega) hi Good_nil, e1, e0, can_ff Good_nil]
    dsimp only
    rw [can_tt Good_nil]
    rfl
  have hG : Good [⟨1, 0, 1⟩] := by have := (can_ok hg Good_nil).2.1; rw [hn] at this; exact this
  rw [can_step hf (l := 0) (by omega) (fun x hx => absurd hx (by omega)) Good_nil, c1, c0, hn]
  dsimp only
  rw [can_ff hG]
  rfl
theorem IntR.at1 {w : World} {B : Nat → Prop} {v : Value} {z : Int} (h : IntR w B v [z]) : ∃ b off c, v = .slice (some ⟨b, off, none⟩) 1 c ∧ w.cell? ⟨b, off, none⟩ = some (.int .i64 z) ∧ b < w.heap.size := by
  obtain ⟨A, cap, rfl, _, h3⟩ := h
  obtain ⟨b, off, rfl, _, hb, h7⟩ := h3 (by simp)
  obtain ⟨cs, _, h9, z', hz, rfl⟩ := h7 0 (by simp)
  have := h9 0 (by omega)
  simp at hz
  subst hz
  exact ⟨b, off, cap, rfl, by simpa using this, hb⟩
set_option maxRecDepth 100000 in
set_option maxHeartbeats 6400000 in
theorem awake_any (w : World) : Calls Tryd.prog 4 #[] w fun e w' => e = .returned (.bool true) ∧ Below w.heap.size w w' := by
  have hl0 : Calls Tryd.prog 9 #[.int .i64 0] w fun e w' => ∃ v, e = .returned (.tuple #[v, .int .i64 0]) ∧ Dia (fun s => s 0) w' w'.heap.size v ∧ Below w.heap.size w w' := literal_any 0 (by omega) w
  have hl1 : ∀ V : World, Calls Tryd.prog 9 #[.int .i64 1] V fun e w' => ∃ v, e = .returned (.tuple #[v, .int .i64 0]) ∧ Dia (fun s => s 1) w' w'.heap.size v ∧ Below V.heap.size V w' := fun V => literal_any 1 (by omega) V
  have HL1 := Lib.hid hl1
  clear hl1
  go_enter Tryd.func4, Tryd.ntmps4
  go_wp2_with fail
  refine hl0.mono ?_
  rintro e w1 ⟨v1, rfl, hd1, hb1⟩
  obtain ⟨A1, n1, c1, x1, rfl⟩ := hd1.form
  obtain ⟨W1, hW1⟩ : ∃ W1, W1 = w1.alloc (.cells #[.slice A1 n1 c1, .int .i64 x1] 29) := ⟨_, rfl⟩
  have hbW1 : Below w1.heap.size w1 W1 := by rw [hW1]; exact (Below.refl _ _).alloc (Nat.le_refl _) _
  have k1 : W1.heap[w1.heap.size]? = some (.cells #[.slice A1 n1 c1, .int .i64 x1] 29 (0, 0)) := by rw [hW1]; exact heap_alloc_new w1 _
  have hz1 : W1.heap.size = w1.heap.size + 1 := by rw [hW1]; simp
  have H1 := Lib.hid (And.intro (hb1.trans (hbW1.mono hb1.size)) (And.intro k1 (And.intro (hd1.on hbW1 hbW1.size) (And.intro hz1 hb1.size))))
  clear hl0 hd1 hb1 hbW1 k1 hz1
  go_wp2_with fail
  rw [← hW1]
  clear hW1
  refine (HL1.out W1).mono ?_
  rintro e w2 ⟨v2, rfl, hd2, hb2⟩
  obtain ⟨A2, n2, c2, x2, rfl⟩ := hd2.form
  obtain ⟨W2, hW2⟩ : ∃ W2, W2 = w2.alloc (.cells #[.slice A2 n2 c2, .int .i64 x2] 29) := ⟨_, rfl⟩
  have hbW2 : Below w2.heap.size w2 W2 := by rw [hW2]; exact (Below.refl _ _).alloc (Nat.le_refl _) _
  have k2 : W2.heap[w2.heap.size]? = some (.cells #[.slice A2 n2 c2, .int .i64 x2] 29 (0, 0)) := by rw [hW2]; exact heap_alloc_new w2 _
  have hz2 : W2.heap.size = w2.heap.size + 1 := by rw [hW2]; simp
  have hb12 : Below W1.heap.size W1 W2 := hb2.trans (hbW2.mono hb2.size)
  obtain ⟨q1, q2, q3, q4, q5⟩ := H1.out
  have k1' := (hb12.block _ (by omega)).trans q2
  have HS : Hid (∀ V, Below W2.heap.size W2 V → (V.cell? ⟨w1.heap.size, 0, none⟩ = some (.slice A1 n1 c1) ∧ V.cell? ⟨w1.heap.size, 1, none⟩ = some (.int .i64 x1) ∧ V.cell? ⟨w2.heap.size, 0, none⟩ = some (.slice A2 n2 c2) ∧ V.cell? ⟨w2.heap.size, 1, none⟩ = some (.int .i64 x2))) := Lib.hid fun V hV => by
    obtain ⟨a0, a1⟩ := cells2 ((hV.block _ (lt_of_heap k1')).trans k1')
    obtain ⟨b0, b1⟩ := cells2 ((hV.block _ (lt_of_heap k2)).trans k2)
    exact ⟨a0, a1, b0, b1⟩
  have HDa : Hid (∀ V, Below W2.heap.size W2 V → Dia (fun s => s 0) V V.heap.size (.agg #[.slice A1 n1 c1, .int .i64 x1])) := Lib.hid fun V hV => (q3.on (hb12.trans (hV.mono hb12.size)) (Nat.le_trans hb12.size hV.size))
  have HDb : Hid (∀ V, Below W2.heap.size W2 V → Dia (fun s => s 1) V V.heap.size (.agg #[.slice A2 n2 c2, .int .i64 x2])) := Lib.hid fun V hV => ((hd2.on hbW2 hbW2.size).on hV hV.size)
  have HB2 := Lib.hid (And.intro (q1.trans (hb12.mono q1.size)) (Nat.le_trans q1.size hb12.size))
  clear hd2 hb2 hbW2 k2 hz2 hb12 q1 q2 q3 q4 q5 k1' H1 HL1
  go_wp2_with fail
  rw [← hW2]
  clear hW2
  refine wp_region_held_drew (S := fun V => (V.cell? ⟨w1.heap.size, 0, none⟩ = some (.slice A1 n1 c1) ∧ V.cell? ⟨w1.heap.size, 1, none⟩ = some (.int .i64 x1) ∧ V.cell? ⟨w2.heap.size, 0, none⟩ = some (.slice A2 n2 c2) ∧ V.cell? ⟨w2.heap.size, 1, none⟩ = some (.int .i64 x2))) (by kernel_rfl) (HS.out _ (Below.refl _ W2).drew) (fun _ => ?_)
  refine tk 0 (HS.out _ (Below.refl _ W2).drew) ?_
  try simp only [Act.put, pA, pB, pC]
  refine tk 1 (HS.out _ (Below.refl _ W2).drew) ?_
  try simp only [Act.put, pA, pB, pC]
  generalize hA : ({ tmps := _, defers := [] } : Act) = a0
  refine wpAnyH_par (Bs := Bool × Bool × Bool × Bool) (L := fun ⟨c1, c2, ba, bs⟩ => #[true, true, c1, c2, ba, bs]) (chk := fun ⟨c1, c2, ba, bs⟩ i => (i == 2 && (!c1)) || ((i == 3 && (!c2 && (c1))) || ((i == 4 && (!ba)) || (i == 5 && (!bs && (c2 && (ba))))))) (full := fun ⟨c1, c2, ba, bs⟩ => c1 && (c2 && (ba && (bs)))) (by rintro ⟨c1, c2, ba, bs⟩; revert c1 c2 ba bs; decide +kernel) (by rintro ⟨c1, c2, ba, bs⟩; revert c1 c2 ba bs; decide +kernel)
    (Inv := fun ⟨c1, c2, ba, bs⟩ a wq => ∃ (u1 u2 uA : Value), a = (((a0.put (some 17) u1).put (some 18) u2).put (some 5) uA) ∧ Below W2.heap.size W2 wq ∧ (c1 = true → Dia (fun s => !s 1) wq wq.heap.size u1) ∧ (c2 = true → Dia (fun s => s 0 && !s 1) wq wq.heap.size u2) ∧ (ba = true → bs = false → BoxD W2.heap.size uA wq) ∧ (bs = true → BoxF (fun s => s 0 && !s 1) W2.heap.size uA wq) ∧ (c2 = true → c1 = true) ∧ (bs = true → c2 = true ∧ ba = true)) ?_ ?_ (b := ⟨false, false, false, false⟩) rfl (by decide) ?_
  rotate_left
  · rintro ⟨c1, c2, ba, bs⟩ a wq i ⟨u1, u2, uA, rfl, hB, d1, d2, hba, hbs, g2, gs⟩ hk
    simp only [Bool.or_eq_true, Bool.and_eq_true, beq_iff_eq, Bool.not_eq_true'] at hk
    subst hA
    have hzq : W2.heap.size ≤ wq.heap.size := hB.size
    rcases hk with ⟨rfl, rfl⟩ | ⟨rfl, rfl, rfl⟩ | ⟨rfl, rfl⟩ | ⟨rfl, rfl, rfl, rfl⟩
    · have e2 : c2 = false := by cases c2; rfl; exact absurd (g2 rfl) (by simp)
      have es : bs = false := by cases bs; rfl; exact absurd (gs rfl).1 (by simp [e2])
      subst e2 es
      refine step_op rfl (by rfl) (fun K hK => ?_)
      simp only [Act.put, List.setIfInBounds_toArray, List.set_cons_zero, List.set_cons_succ]
      go_simp
      refine (not_any (HDb.out _ hB)).mono ?_
      rintro e w' ⟨v', rfl, hd, hb'⟩
      have hB' := hB.trans (hb'.mono hzq)
      exact hK _ _ ⟨HS.out _ hB', ⟨true, false, ba, false⟩, rfl, _, u2, uA, rfl, hB', fun _ => hd, nofun, fun h h2 => (hba h h2).old hb', nofun, nofun, nofun⟩
    · have es : bs = false := by cases bs; rfl; exact absurd (gs rfl).1 (by simp)
      subst es
      have D1 := d1 rfl
      refine step_op rfl (by rfl) (fun K hK => ?_)
      simp only [Act.put, List.setIfInBounds_toArray, List.set_cons_zero, List.set_cons_succ]
      go_simp
      refine (and_any (HDa.out _ hB) (d1 rfl)).mono ?_
      rintro e w' ⟨v', rfl, hd, hb'⟩
      have hB' := hB.trans (hb'.mono hzq)
      exact hK _ _ ⟨HS.out _ hB', ⟨true, true, ba, false⟩, rfl, u1, _, uA, rfl, hB', fun h => (d1 h).on hb' hb'.size, fun _ => hd, fun h h2 => (hba h h2).old hb', nofun, fun _ => rfl, nofun⟩
    · have es : bs = false := by cases bs; rfl; exact absurd (gs rfl).2 (by simp)
      subst es
      have hb' : Below wq.heap.size wq (wq.alloc (.cells #[.slice none 0 0, .int .i64 0] 29)) := (Below.refl _ _).alloc (Nat.le_refl _) _
      have hB' := hB.trans (hb'.mono hzq)
      refine step_op rfl (by rfl) (fun K hK => ?_)
      simp only [Act.put, List.setIfInBounds_toArray, List.set_cons_zero, List.set_cons_succ]
      go_simp
      exact hK _ _ ⟨HS.out _ hB', ⟨c1, c2, true, false⟩, rfl, u1, u2, _, rfl, hB', fun h => (d1 h).on hb' hb'.size, fun h => (d2 h).on hb' hb'.size, fun _ _ => ⟨_, rfl, hzq, heap_alloc_new wq _⟩, nofun, g2, nofun⟩
    · obtain ⟨b, rfl, hzb, kb⟩ := hba rfl rfl
      have hd := d2 rfl
      obtain ⟨A, n, c, x, rfl⟩ := hd.form
      obtain ⟨V7, hV7, hF, hB', hk7, t0, t1, z0, z1⟩ := box_fill kb hzb hd hB
      refine step_op rfl (by rfl) (fun K hK => ?_)
      simp only [Act.put, List.setIfInBounds_toArray, List.set_cons_zero, List.set_cons_succ]
      go_simp
      rw [← hV7]
      exact hK _ _ ⟨HS.out _ hB', ⟨c1, true, true, true⟩, rfl, u1, _, _, rfl, hB', fun h => hk7 _ _ (d1 h), fun h => hk7 _ _ (d2 h), fun _ h => absurd h (by simp), fun _ => hF, g2, fun _ => ⟨rfl, rfl⟩⟩
  · exact ⟨undef, undef, undef, by subst hA; rfl, (Below.refl _ _).drew, nofun, nofun, nofun, nofun, nofun, nofun⟩
  rintro ⟨c1, c2, ba, bs⟩ a wq hf ⟨u1, u2, uA, rfl, hB, _, _, _, hbox, _, _⟩
  simp only [Bool.and_eq_true] at hf
  obtain ⟨rfl, rfl, rfl, rfl⟩ := hf
  subst hA
  replace hbox := hbox rfl
  obtain ⟨bp, Ap, np, cp, xp, rfl, hzp, kp, hdp⟩ := hbox
  obtain ⟨p0, p1⟩ := cells2 kp
  have hpa := paths_any hdp
  have hpt : pth (can (fun s => s 0 && !s 1) []).1 13 (can (fun s => s 0 && !s 1) []).2 [] [] = [([0], [1])] := by rw [can_ab]; simp [pth]
  rw [hpt] at hpa
  have HBq := Lib.hid hB
  have HPA := Lib.hid hpa
  clear hpa hpt hdp kp hzp hB
  simp only [Act.put, List.setIfInBounds_toArray, List.set_cons_zero, List.set_cons_succ]
  go_wp2_with fail
  clear p0 p1
  refine HPA.out.mono ?_
  rintro e w5 ⟨X, v', base, rfl, hbase, hOP, _, hb5⟩
  have hB5 := HBq.out.trans (hb5.mono HBq.out.size)
  have hrow := OwnE.row hOP (by omega) (by unfold maxLen; decide)
  obtain ⟨A', cap, rfl, _, h3⟩ := hrow
  obtain ⟨b, off, rfl, _, hbs, h7⟩ := h3 (by simp)
  obtain ⟨cs', _, h9, z', hz', s, t, rfl, hs, ht⟩ := h7 0 (by simp)
  simp at hz'
  subst hz'
  obtain ⟨b1, off1, cs, rfl, _, _⟩ := hs.at1
  obtain ⟨b2, off2, ct, rfl, ht1, hb2s⟩ := ht.at1
  have e0 := h9 0 (by omega)
  have e1 := h9 1 (by omega)
  simp only [Nat.zero_mul, Nat.add_zero, List.getElem?_cons_zero, List.getElem?_cons_succ] at e0 e1
  generalize (some (⟨b1, off1, none⟩ : Addr)) = As at *
  have HS5 : Hid (∀ V, Below w5.heap.size w5 V → (V.cell? ⟨w1.heap.size, 0, none⟩ = some (.slice A1 n1 c1) ∧ V.cell? ⟨w1.heap.size, 1, none⟩ = some (.int .i64 x1) ∧ V.cell? ⟨b, off, none⟩ = some (.slice As 1 cs) ∧ V.cell? ⟨b, off + 1, none⟩ = some (.slice (some ⟨b2, off2, none⟩) 1 ct) ∧ V.cell? ⟨b2, off2, none⟩ = some (.int .i64 1))) := Lib.hid fun V hV => by
    obtain ⟨a0, a1, _, _⟩ := HS.out V (hB5.trans (hV.mono hB5.size))
    exact ⟨a0, a1, (hV.cell (p := ⟨b, _, none⟩) hbs).trans e0, (hV.cell (p := ⟨b, _, none⟩) hbs).trans e1, (hV.cell (p := ⟨b2, _, none⟩) hb2s).trans ht1⟩
  have HB5 := Lib.hid hB5
  have hx1 : ([([0], [1])] : List (List Int × List Int)).length = 1 := rfl
  clear hOP h3 h7 h9 hs ht e0 e1 ht1 hbase hb5 hB5 hbs hb2s HS HPA HDb
  simp only [hx1]
  clear hx1
  go_wp2_with fail
  have HB6 := Lib.hid ((Below.refl w5.heap.size w5).drew)
  refine wp_region_held_drew (S := fun V => (V.cell? ⟨w1.heap.size, 0, none⟩ = some (.slice A1 n1 c1) ∧ V.cell? ⟨w1.heap.size, 1, none⟩ = some (.int .i64 x1) ∧ V.cell? ⟨b, off, none⟩ = some (.slice As 1 cs) ∧ V.cell? ⟨b, off + 1, none⟩ = some (.slice (some ⟨b2, off2, none⟩) 1 ct) ∧ V.cell? ⟨b2, off2, none⟩ = some (.int .i64 1))) (by kernel_rfl) (HS5.out _ HB6.out) (fun _ => ?_)
  refine tk 0 (HS5.out _ HB6.out) ?_
  try simp only [Act.put, pA, pB, pC]
  refine tk 1 (HS5.out _ HB6.out) ?_
  try simp only [Act.put, pA, pB, pC]
  refine tk 2 (HS5.out _ HB6.out) ?_
  try simp only [Act.put, pA, pB, pC]
  refine tk 3 (HS5.out _ HB6.out) ?_
  try simp only [Act.put, pA, pB, pC]
  refine tk 4 (HS5.out _ HB6.out) ?_
  try simp only [Act.put, pA, pB, pC]
  refine tk 5 (HS5.out _ HB6.out) ?_
  try simp only [Act.put, pA, pB, pC]
  refine tk 6 (HS5.out _ HB6.out) ?_
  try simp only [Act.put, pA, pB, pC]
  refine tk 7 (HS5.out _ HB6.out) ?_
  try simp only [Act.put, pA, pB, pC]
  refine tk 8 (HS5.out _ HB6.out) ?_
  try simp only [Act.put, pA, pB, pC]
  refine tk 9 (HS5.out _ HB6.out) ?_
  try simp only [Act.put, pA, pB, pC]
  refine tk 10 (HS5.out _ HB6.out) ?_
  try simp only [Act.put, pA, pB, pC]
  refine tk 11 (HS5.out _ HB6.out) ?_
  try simp only [Act.put, pA, pB, pC]
  refine tk 12 (HS5.out _ HB6.out) ?_
  try simp only [Act.put, pA, pB, pC]
  refine tk 13 (HS5.out _ HB6.out) ?_
  try simp only [Act.put, pA, pB, pC]
  refine tk 14 (HS5.out _ HB6.out) ?_
  try simp only [Act.put, pA, pB, pC]
  refine tk 15 (HS5.out _ HB6.out) ?_
  try simp only [Act.put, pA, pB, pC]
  refine tk 16 (HS5.out _ HB6.out) ?_
  try simp only [Act.put, pA, pB, pC]
  refine tk 17 (HS5.out _ HB6.out) ?_
  try simp only [Act.put, pA, pB, pC]
  refine tk 18 (HS5.out _ HB6.out) ?_
  try simp only [Act.put, pA, pB, pC]
  refine tk 19 (HS5.out _ HB6.out) ?_
  try simp only [Act.put, pA, pB, pC]
  refine tk 20 (HS5.out _ HB6.out) ?_
  try simp only [Act.put, pA, pB, pC]
  refine tk 21 (HS5.out _ HB6.out) ?_
  try simp only [Act.put, pA, pB, pC]
  refine tk 22 (HS5.out _ HB6.out) ?_
  try simp only [Act.put, pA, pB, pC]
  refine tk 23 (HS5.out _ HB6.out) ?_
  try simp only [Act.put, pA, pB, pC]
  refine tk 24 (HS5.out _ HB6.out) ?_
  try simp only [Act.put, pA, pB, pC]
  refine tk 25 (HS5.out _ HB6.out) ?_
  try simp only [Act.put, pA, pB, pC]
  refine tk 26 (HS5.out _ HB6.out) ?_
  try simp only [Act.put, pA, pB, pC]
  refine tk 27 (HS5.out _ HB6.out) ?_
  try simp only [Act.put, pA, pB, pC]
  refine tk 28 (HS5.out _ HB6.out) ?_
  try simp only [Act.put, pA, pB, pC]
  refine tk 29 (HS5.out _ HB6.out) ?_
  try simp only [Act.put, pA, pB, pC]
  refine tk 30 (HS5.out _ HB6.out) ?_
  try simp only [Act.put, pA, pB, pC]
  refine tk 31 (HS5.out _ HB6.out) ?_
  try simp only [Act.put, pA, pB, pC]
  refine tk 32 (HS5.out _ HB6.out) ?_
  try simp only [Act.put, pA, pB, pC]
  refine tk 33 (HS5.out _ HB6.out) ?_
  try simp only [Act.put, pA, pB, pC]
  refine tk 34 (HS5.out _ HB6.out) ?_
  try simp only [Act.put, pA, pB, pC]
  refine tk 35 (HS5.out _ HB6.out) ?_
  try simp only [Act.put, pA, pB, pC]
  refine tk 36 (HS5.out _ HB6.out) ?_
  try simp only [Act.put, pA, pB, pC]
  refine tk 37 (HS5.out _ HB6.out) ?_
  try simp only [Act.put, pA, pB, pC]
  refine tk 38 (HS5.out _ HB6.out) ?_
  try simp only [Act.put, pA, pB, pC]
  refine one_op 39 (by kernel_rfl) rfl (by rfl) (fun K hK => ?_)
  go_simp
  refine (not_any (HDa.out _ (HB5.out.trans (HB6.out.mono HB5.out.size)))).mono ?_
  rintro e V1 ⟨r1, rfl, hd1, hb1⟩
  have HB7 := Lib.hid (HB6.out.trans (hb1.mono HB6.out.size))
  have HD1 := Lib.hid hd1
  clear hd1 hb1
  refine hK _ _ (HS5.out _ HB7.out) ?_
  try simp only [Act.put, pA, pB, pC]
  clear hK K
  refine one_op 40 (by kernel_rfl) rfl (by rfl) (fun K hK => ?_)
  go_simp
  refine (or_any (HDa.out _ (HB5.out.trans (HB7.out.mono HB5.out.size))) HD1.out).mono ?_
  rintro e V2 ⟨r2, rfl, hd2, hb2⟩
  have HB8 := Lib.hid (HB7.out.trans (hb2.mono HB7.out.size))
  have HD2 := Lib.hid hd2
  clear hd2 hb2
  refine hK _ _ (HS5.out _ HB8.out) ?_
  try simp only [Act.put, pA, pB, pC]
  clear hK K
  refine one_op 41 (by kernel_rfl) rfl (by rfl) (fun K hK => ?_)
  go_simp
  refine (true_any V2).mono ?_
  rintro e V3 ⟨rfl, hb3⟩
  have HB9 := Lib.hid (HB8.out.trans (hb3.mono HB8.out.size))
  have HD3 := Lib.hid (HD2.out.on hb3 hb3.size)
  clear hb3
  refine hK _ _ (HS5.out _ HB9.out) ?_
  try simp only [Act.put, pA, pB, pC]
  clear hK K
  refine one_op 42 (by kernel_rfl) rfl (by rfl) (fun K hK => ?_)
  go_simp
  refine (equalD_dia HD3.out (dia_tt V3 V3.heap.size) true ⟨fun _ => by funext s; simp [ttB], fun _ => rfl⟩).mono ?_
  rintro e V4 ⟨rfl, hb4⟩
  have HB10 := Lib.hid (HB9.out.trans (hb4.mono HB9.out.size))
  clear hb4
  refine hK _ _ (HS5.out _ HB10.out) ?_
  try simp only [Act.put, pA, pB, pC]
  clear hK K
  refine tk 43 (HS5.out _ HB10.out) ?_
  try simp only [Act.put, pA, pB, pC]
  refine tk 44 (HS5.out _ HB10.out) ?_
  try simp only [Act.put, pA, pB, pC]
  refine wpAnyH_done (by kernel_rfl) ?_ _
  have HZ := Lib.hid (HB2.out.1.trans ((HB5.out.trans (HB10.out.mono HB5.out.size)).mono HB2.out.2))
  go_wp2
  go_ret
  exact ⟨rfl, HZ.out⟩
end Go.Proofs.YtplmbmecjhmiiaaDoor
