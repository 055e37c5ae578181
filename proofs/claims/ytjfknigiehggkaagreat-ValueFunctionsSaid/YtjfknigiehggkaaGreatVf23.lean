/- Source.Value, given Source.value: the labels are put on the root. -/
import Derived.Test.YtjfknigiehggkaaGreatVf22
namespace Go.Proofs.YtjfknigiehggkaaGreat
open Go Go.RowKit
def labsOf : Vl → List (List UInt8) | .mk _ _ _ _ _ _ l => l
def withL (ls : List (List UInt8)) : Vl → Vl | .mk k i t v y e _ => .mk k i t v y e ls
/-- what a draw of a value hands back: a valid value in memory of the call's own -/
def DrawR (k h p : Nat) (w : World) (e : Ending) (w' : World) : Prop :=
  (∃ v cs, e = .returned (.agg cs.toArray) ∧ VB k w' (Btw w.heap.size w'.heap.size) v cs ∧ okV v = true ∧ sml v) ∧ SrcOk h p w' ∧ Eff p w w'
/-- .. without labels at its root -/
def DrawR0 (k h p : Nat) (w : World) (e : Ending) (w' : World) : Prop :=
  (∃ v cs, e = .returned (.agg cs.toArray) ∧ VB k w' (Btw w.heap.size w'.heap.size) v cs ∧ okV v = true ∧ sml v ∧ labsOf v = []) ∧ SrcOk h p w' ∧ Eff p w w'
theorem okV_withL {v : Vl} {ls : List (List UInt8)} (h : okV v = true) (hl : labelsB ls = true) : okV (withL ls v) = true := by
  obtain ⟨k, i, t, v, y, e, l⟩ := v
  unfold okV at h
  unfold withL okV
  simp only [Bool.and_eq_true] at h ⊢
  exact ⟨⟨⟨⟨hl, h.1.1.1.2⟩, h.1.1.2⟩, h.1.2⟩, h.2⟩
theorem sml_withL {v : Vl} {ls : List (List UInt8)} (h : sml v) (hl : ls.length ≤ 1048576) : sml (withL ls v) := by
  obtain ⟨k, i, t, v, y, e, l⟩ := v
  unfold sml at h
  unfold withL sml
  exact ⟨h.1, h.2.1, h.2.2.1, hl, h.2.2.2.2⟩
theorem Eff.same {p : Nat} {w w' : World} (h : Eff p w w') {B : Nat → Prop} (hB : ∀ b, B b → b ≠ p) : Same B w w' := ⟨h.size, fun b _ hb hl => World.cell?_of_block (h.other b (hB b hb) hl)⟩
theorem vb_relabel {k : Nat} {w : World} {B : Nat → Prop} {v : Vl} {a i : Value} {s u1 u2 u3 u4 ul : Value} {ls : List (List UInt8)} (h : VB k w B v [a, i, s, u1, u2, u3, u4]) (hl : RowB w B 1 ul ls.length (fun j cs => ∃ x, ls[j]? = some x ∧ cs = [.string ⟨x.toArray⟩] ∧ x.length ≤ maxLen)) :
    VB k w B (withL ls v) [a, i, s, u1, u2, u3, ul] := by
  cases k with
  | zero => exact h.elim
  | succ k =>
    obtain ⟨kd, it, tx, kids, keys, ents, l⟩ := v
    obtain ⟨uk, uy, ue, ul', h1, h2, h3, h4, h5, h6, h7, h8⟩ := h
    simp only [List.cons.injEq, and_true] at h1
    obtain ⟨rfl, rfl, rfl, rfl, rfl, rfl, rfl⟩ := h1
    exact ⟨_, _, _, _, rfl, h2, h3, h4, h5, h6, h7, hl⟩
set_option maxRecDepth 100000 in
set_option maxHeartbeats 3200000 in
theorem value_of_inner (k h p : Nat) (n : Int) (w : World) (hS : SrcOk h p w) (hv : ∀ W, SrcOk h p W → Calls Tryz.prog 62 #[.pointer (some ⟨p, 0, none⟩), .int .i64 n] W (DrawR0 k h p W)) :
    Calls Tryz.prog 29 #[.pointer (some ⟨p, 0, none⟩), .int .i64 n] w (DrawR k h p w) := by
  have hlp := hS.lt
  have hba : Below w.heap.size w (w.alloc (.cells #[.int .i64 0, .int .i64 0, .string ⟨#[]⟩, .slice none 0 0, .slice none 0 0, .slice none 0 0, .slice none 0 0] 27)) := (Below.refl _ _).alloc (Nat.le_refl _) _
  have hz0 : (w.alloc (.cells #[.int .i64 0, .int .i64 0, .string ⟨#[]⟩, .slice none 0 0, .slice none 0 0, .slice none 0 0, .slice none 0 0] 27)).heap.size = w.heap.size + 1 := by simp
  have hc := hv _ (hS.below hba)
  have k0 := heap_alloc_new w (.cells #[.int .i64 0, .int .i64 0, .string ⟨#[]⟩, .slice none 0 0, .slice none 0 0, .slice none 0 0, .slice none 0 0] 27)
  have hE0 := Eff.of_below hba (Nat.le_of_lt hlp)
  clear hv
  go_enter Tryz.func29, Tryz.ntmps29
  go_wp2_with fail
  refine hc.mono ?_
  rintro e w1 ⟨⟨v, cs, rfl, hvb, hok, hsm, hlv⟩, hS1, hE1⟩
  clear hc
  obtain ⟨a, i, s, B1, n1, d1, B2, n2, d2, B3, n3, d3, B4, n4, d4, rfl⟩ := hvb.form7
  have hz1 := hE1.size
  rw [hz0] at hz1 hvb
  have k1 : w1.heap[w.heap.size]? = some (.cells #[.int .i64 0, .int .i64 0, .string ⟨#[]⟩, .slice none 0 0, .slice none 0 0, .slice none 0 0, .slice none 0 0] 27 (0, 0)) := (hE1.other _ (by omega) (by omega)).trans k0
  obtain ⟨W, hW⟩ : ∃ W, W = w1.alloc (.cells #[.int .i64 a, .int .i64 i, .string s, .slice B1 n1 d1, .slice B2 n2 d2, .slice B3 n3 d3, .slice B4 n4 d4] 27) := ⟨_, rfl⟩
  have hbW : Below w1.heap.size w1 W := by rw [hW]; exact (Below.refl _ _).alloc (Nat.le_refl _) _
  have hzW : W.heap.size = w1.heap.size + 1 := by rw [hW]; simp
  have kW : W.heap[w1.heap.size]? = some (.cells #[.int .i64 a, .int .i64 i, .string s, .slice B1 n1 d1, .slice B2 n2 d2, .slice B3 n3 d3, .slice B4 n4 d4] 27 (0, 0)) := by rw [hW]; exact heap_alloc_new w1 _
  have kr : W.heap[w.heap.size]? = some (.cells #[.int .i64 0, .int .i64 0, .string ⟨#[]⟩, .slice none 0 0, .slice none 0 0, .slice none 0 0, .slice none 0 0] 27 (0, 0)) := (hbW.block _ (by omega)).trans k1
  have hEW : Eff p w W := (hE0.trans hE1).trans (Eff.of_below hbW (by omega))
  have hvW := VB.keep (Same.of_below hbW (B := Btw (w.heap.size + 1) w1.heap.size) fun _ h => h.2) hvb
  have hl := labels_src h p W (hS1.below hbW)
  have HA := Lib.hid (And.intro hok (And.intro hsm (And.intro hEW hvW)))
  clear hba k0 hE0 hvb hok hsm hlv hS1 hE1 k1 hbW hEW hvW hS
  go_wp2_with fail
  rw [← hW]
  clear hW
  refine hl.mono ?_
  rintro e w3 ⟨⟨LA, ln, lc, ls, rfl, hln, hl2, hlb, hlN, hlR⟩, hS3, hE3⟩
  clear hl
  have hz3 := hE3.size
  have m0 : w3.heap[w.heap.size]? = some (.cells #[.int .i64 0, .int .i64 0, .string ⟨#[]⟩, .slice none 0 0, .slice none 0 0, .slice none 0 0, .slice none 0 0] 27 (0, 0)) := (hE3.other _ (by omega) (by omega)).trans kr
  have m5 : w3.heap[w1.heap.size]? = some (.cells #[.int .i64 a, .int .i64 i, .string s, .slice B1 n1 d1, .slice B2 n2 d2, .slice B3 n3 d3, .slice B4 n4 d4] 27 (0, 0)) := (hE3.other _ (by omega) (by omega)).trans kW
  have HB := Lib.hid (And.intro hln (And.intro hl2 (And.intro hlb (And.intro hlR (And.intro hS3 hE3)))))
  clear kr kW hlR hS3 hE3 hlN hlb hl2 hln
  obtain ⟨e0, e1, e2, e3, e4, e5, e6⟩ := cells7 m0
  obtain ⟨z0, z1, z2, z3, z4, z5, z6⟩ := frozen7 m0
  have g0 : w3.cell? ⟨w1.heap.size, 0, none⟩ = some (.int .i64 a) := (Lib.cell_of_heap m5 0).trans rfl
  have g1 : w3.cell? ⟨w1.heap.size, 1, none⟩ = some (.int .i64 i) := (Lib.cell_of_heap m5 1).trans rfl
  have g2 : w3.cell? ⟨w1.heap.size, 2, none⟩ = some (.string s) := (Lib.cell_of_heap m5 2).trans rfl
  have g3 : w3.cell? ⟨w1.heap.size, 3, none⟩ = some (.slice B1 n1 d1) := (Lib.cell_of_heap m5 3).trans rfl
  have g4 : w3.cell? ⟨w1.heap.size, 4, none⟩ = some (.slice B2 n2 d2) := (Lib.cell_of_heap m5 4).trans rfl
  have g5 : w3.cell? ⟨w1.heap.size, 5, none⟩ = some (.slice B3 n3 d3) := (Lib.cell_of_heap m5 5).trans rfl
  have g6 : w3.cell? ⟨w1.heap.size, 6, none⟩ = some (.slice B4 n4 d4) := (Lib.cell_of_heap m5 6).trans rfl
  have y6 := Lib.frozen_of_heap m5 6
  have hne : ¬ w1.heap.size = w.heap.size := by omega
  have hne2 : ¬ w.heap.size = w1.heap.size := by omega
  go_wp2
  obtain ⟨V, hV⟩ : ∃ V, V = ((((((((w3.setCell ⟨w1.heap.size, 6, none⟩ (Value.slice LA ln lc)).setCell ⟨w.heap.size, 0, none⟩ (Value.int .i64 a)).setCell ⟨w.heap.size, 1, none⟩ (Value.int .i64 i)).setCell ⟨w.heap.size, 2, none⟩ (Value.string s)).setCell ⟨w.heap.size, 3, none⟩ (Value.slice B1 n1 d1)).setCell ⟨w.heap.size, 4, none⟩ (Value.slice B2 n2 d2)).setCell ⟨w.heap.size, 5, none⟩ (Value.slice B3 n3 d3)).setCell ⟨w.heap.size, 6, none⟩ (Value.slice LA ln lc)) := ⟨_, rfl⟩
  rw [← hV]
  have m0' : (w3.setCell ⟨w1.heap.size, 6, none⟩ (Value.slice LA ln lc)).heap[w.heap.size]? = some (.cells #[.int .i64 0, .int .i64 0, .string ⟨#[]⟩, .slice none 0 0, .slice none 0 0, .slice none 0 0, .slice none 0 0] 27 (0, 0)) := (heap_setCell_other _ _ _ _ hne2).trans m0
  have hob : V.heap[w.heap.size]? = some (.cells #[Value.int .i64 a, Value.int .i64 i, Value.string s, Value.slice B1 n1 d1, Value.slice B2 n2 d2, Value.slice B3 n3 d3, Value.slice LA ln lc] 27 (0, 0)) := by rw [hV]; exact obj7 m0' (Value.int .i64 a) (Value.int .i64 i) (Value.string s) (Value.slice B1 n1 d1) (Value.slice B2 n2 d2) (Value.slice B3 n3 d3) (Value.slice LA ln lc)
  have hfin : SrcOk h p V ∧ Eff p w V := by
    obtain ⟨q1, q2⟩ := src_set (g := w1.heap.size) (i := 6) (x := Value.slice LA ln lc) HB.out.2.2.2.2.1 (HA.out.2.2.1.trans HB.out.2.2.2.2.2) (by omega) (by omega)
    rw [hV]
    exact src_set7 q1 q2 (Nat.le_refl _) hlp _ _ _ _ _ _ _
  have hzV : V.heap.size = w3.heap.size := by rw [hV]; simp
  have hsmV : ∀ B : Nat → Prop, ¬ B w.heap.size → ¬ B w1.heap.size → Same B w3 V := fun B h h' => by
    have hsm0 : Same B w3 (w3.setCell ⟨w1.heap.size, 6, none⟩ (Value.slice LA ln lc)) := same_setCell (Same.refl _ _) h'
    rw [hV]; exact same_setCell (same_setCell (same_setCell (same_setCell (same_setCell (same_setCell (same_setCell (hsm0) h) h) h) h) h) h) h
  clear hV e0 z0 e1 z1 e2 z2 e3 z3 e4 z4 e5 z5 e6 z6 g0 g1 g2 g3 g4 g5 g6 y6
  obtain ⟨ps0, ps1, ps2, ps3, ps4, ps5, ps6⟩ := cells7 hob
  refine bodyPost_ret (v := .agg #[Value.int .i64 a, Value.int .i64 i, Value.string s, Value.slice B1 n1 d1, Value.slice B2 n2 d2, Value.slice B3 n3 d3, Value.slice LA ln lc]) (by simp [results, Tryz.results29, go_sem, ps0, ps1, ps2, ps3, ps4, ps5, ps6]) rfl ?_
  obtain ⟨hok, hsm, hEW, hvW⟩ := HA.out
  obtain ⟨hln, hl2, hlb, hlR, hS3, hE3⟩ := HB.out
  subst hln
  have hv3 := VB.keep (hE3.same (B := Btw (w.heap.size + 1) w1.heap.size) fun b hb => by have := hb.1; omega) hvW
  have hv4 : VB k w3 (fun b => Btw (w.heap.size + 1) w3.heap.size b ∧ b ≠ w1.heap.size) v _ := VB.sub (fun b hb => ⟨⟨hb.1, by have := hb.2; omega⟩, by have := hb.2; omega⟩) (Nat.le_refl _) hv3
  have hl4 : RowB w3 (fun b => Btw (w.heap.size + 1) w3.heap.size b ∧ b ≠ w1.heap.size) 1 (.slice LA ls.length lc) ls.length _ := RowB.sub hlR (fun b hb => ⟨⟨by have := hb.1; omega, hb.2⟩, by have := hb.1; omega⟩) (fun _ _ h => h)
  have hv5 := vb_relabel hv4 hl4
  have hv6 := VB.keep (hsmV _ (fun h => by have := h.1.1; omega) (fun h => h.2 rfl)) hv5
  exact ⟨⟨withL ls v, _, rfl, VB.sub (fun b hb => ⟨by have := hb.1.1; omega, by have := hb.1.2; omega⟩) (Nat.le_refl _) hv6, okV_withL hok hlb, sml_withL hsm (by omega)⟩, hfin⟩
end Go.Proofs.YtjfknigiehggkaaGreat
namespace Go.Proofs.YtjfknigiehggkaaGreat
open Go Go.RowKit
theorem ins_at {α : Type} {c : α → α → Int} {x : α} : ∀ {l : List α} {p : Nat}, p ≤ l.length → (∀ y ∈ l.take p, c y x < 0) → (∀ y, l[p]? = some y → ¬ c y x < 0 ∧ c y x ≠ 0) → ins c x l = l.take p ++ x :: l.drop p
  | [], p, hp, _, _ => by
    have : p = 0 := by simpa using hp
    subst this
    rfl
  | a :: l, 0, _, _, hh => by
    obtain ⟨h1, h2⟩ := hh a (by simp)
    unfold ins
    rw [if_neg h1, if_neg h2]
    rfl
  | a :: l, p + 1, hp, hl, hh => by
    unfold ins
    rw [if_pos (hl a (by simp)), ins_at (l := l) (p := p) (by simpa using hp) (fun y hy => hl y (by simp [hy])) (fun y hy => hh y (by simpa using hy))]
    rfl
theorem ins_skip {α : Type} {c : α → α → Int} {x : α} : ∀ {l : List α} {p : Nat} {y : α}, (∀ y ∈ l.take p, c y x < 0) → l[p]? = some y → c y x = 0 → ins c x l = l
  | [], p, y, _, h, _ => by simp at h
  | a :: l, 0, y, _, h, h0 => by
    simp only [List.getElem?_cons_zero, Option.some.injEq] at h
    subst h
    unfold ins
    rw [if_neg (by omega), if_pos h0]
  | a :: l, p + 1, y, hl, h, h0 => by
    unfold ins
    rw [if_pos (hl a (by simp)), ins_skip (l := l) (p := p) (fun y hy => hl y (by simp [hy])) (by simpa using h) h0]
theorem srtC_step {α : Type} {c : α → α → Int} {l : List α} {k : Nat} {s : α} (hs : l[k]? = some s) : srtC c (l.take (k + 1)) = ins c s (srtC c (l.take k)) := by
  rw [List.take_add_one, hs]
  simp [srtC, List.foldl_append]
theorem srtC_len {α : Type} {c : α → α → Int} (l : List α) : (srtC c l).length ≤ l.length := by
  have hi : ∀ (x : α) (m : List α), (ins c x m).length ≤ m.length + 1 := by
    intro x m
    induction m with
    | nil => simp [ins]
    | cons a m ih =>
      unfold ins
      split
      · simp; omega
      · split <;> simp
  have hf : ∀ (l m : List α), (l.foldl (fun acc x => ins c x acc) m).length ≤ m.length + l.length := by
    intro l
    induction l with
    | nil => intro m; simp
    | cons a l ih =>
      intro m
      rw [List.foldl_cons]
      have := ih (ins c a m)
      have := hi a m
      rw [List.length_cons]
      omega
  simpa [srtC] using hf l []
/-- elements that are as P says, whatever the world -/
def elC {α : Type} (Pr : α → List Value → Prop) : ElK α := ⟨fun x _ _ cs => Pr x cs, fun _ h => h, fun _ h => h⟩
set_option maxRecDepth 100000 in
set_option maxHeartbeats 3200000 in
theorem refEqual_any (k : Nat) (u v : Vl) (ca cb : List Value) (w : World) (ha : VS k w w.heap.size u ca) (hb : VS k w w.heap.size v cb) : Calls Tryz.prog 20 #[.agg ca.toArray, .agg cb.toArray] w fun e w' => e = .returned (.bool (decide (cmpV u v = 0))) ∧ Below w.heap.size w w' := by
  obtain ⟨a, i, s, B1, n1, d1, B2, n2, d2, B3, n3, d3, B4, n4, d4, rfl⟩ := ha.form7
  obtain ⟨a', i', s', B1', n1', d1', B2', n2', d2', B3', n3', d3', B4', n4', d4', rfl⟩ := hb.form7
  obtain ⟨W, hW⟩ : ∃ W, W = (w.alloc (.cells #[.int .i64 a, .int .i64 i, .string s, .slice B1 n1 d1, .slice B2 n2 d2, .slice B3 n3 d3, .slice B4 n4 d4] 27)).alloc (.cells #[.int .i64 a', .int .i64 i', .string s', .slice B1' n1' d1', .slice B2' n2' d2', .slice B3' n3' d3', .slice B4' n4' d4'] 27) := ⟨_, rfl⟩
  have hbb : Below w.heap.size w W := by rw [hW]; exact ((Below.refl _ _).alloc (Nat.le_refl _) _).alloc (by simp) _
  have q0 : W.cell? ⟨w.heap.size, 0, none⟩ = some (.int .i64 a) := by rw [hW]; simp
  have q1 : W.cell? ⟨w.heap.size, 1, none⟩ = some (.int .i64 i) := by rw [hW]; simp
  have q2 : W.cell? ⟨w.heap.size, 2, none⟩ = some (.string s) := by rw [hW]; simp
  have q3 : W.cell? ⟨w.heap.size, 3, none⟩ = some (.slice B1 n1 d1) := by rw [hW]; simp
  have q4 : W.cell? ⟨w.heap.size, 4, none⟩ = some (.slice B2 n2 d2) := by rw [hW]; simp
  have q5 : W.cell? ⟨w.heap.size, 5, none⟩ = some (.slice B3 n3 d3) := by rw [hW]; simp
  have q6 : W.cell? ⟨w.heap.size, 6, none⟩ = some (.slice B4 n4 d4) := by rw [hW]; simp
  have r0 : W.cell? ⟨w.heap.size + 1, 0, none⟩ = some (.int .i64 a') := by rw [hW]; simp
  have r1 : W.cell? ⟨w.heap.size + 1, 1, none⟩ = some (.int .i64 i') := by rw [hW]; simp
  have r2 : W.cell? ⟨w.heap.size + 1, 2, none⟩ = some (.string s') := by rw [hW]; simp
  have r3 : W.cell? ⟨w.heap.size + 1, 3, none⟩ = some (.slice B1' n1' d1') := by rw [hW]; simp
  have r4 : W.cell? ⟨w.heap.size + 1, 4, none⟩ = some (.slice B2' n2' d2') := by rw [hW]; simp
  have r5 : W.cell? ⟨w.heap.size + 1, 5, none⟩ = some (.slice B3' n3' d3') := by rw [hW]; simp
  have r6 : W.cell? ⟨w.heap.size + 1, 6, none⟩ = some (.slice B4' n4' d4') := by rw [hW]; simp
  have hc := compareR_any k u v _ _ W (VS.up hbb.size (Nat.le_refl _) (VS.on hbb ha)) (VS.up hbb.size (Nat.le_refl _) (VS.on hbb hb))
  have HB := Lib.hid hbb
  clear ha hb hbb
  generalize hz : decide (cmpV u v = 0) = r
  have HZ := Lib.hid hz
  clear hz
  generalize cmpV u v = z at hc HZ
  go_enter Tryz.func20, Tryz.ntmps20
  go_wp2_with fail
  rw [← hW]
  clear hW
  go_wp2_with (go_at_call 49; refine hc.mono ?_; rintro e w1 ⟨rfl, hb1⟩; refine Hid.out ?_)
  refine Lib.hid ?_
  clear hc
  go_wp2
  go_ret
  exact ⟨ret_bool (by rw [← HZ.out]; by_cases h : z = 0 <;> simp [h]), HB.out.trans (hb1.mono HB.out.size)⟩
theorem bool_eq0 (z : Int) : (z == 0) = decide (z = 0) := by
  by_cases h : z = 0
  · simp [h]
  · rw [decide_eq_false h, beq_eq_false_iff_ne]; exact h
theorem vals_zero {l m : List Vl} : thn (cmpI l.length m.length) (cmpVs l m) = 0 ↔ l = m := by
  rw [thn_zero, cmpI_zero]
  constructor
  · rintro ⟨h1, h2⟩
    exact cmpVs_eq l m (by omega) h2
  · rintro rfl
    refine ⟨rfl, ?_⟩
    have h := cmpV_zero.2 (rfl : tupV l = tupV l)
    simp only [tupV, cmpV, thn_zero] at h
    simp_all
set_option maxRecDepth 100000 in
set_option maxHeartbeats 3200000 in
theorem refEqualValues_any (k : Nat) (A A' : Option Addr) (c c' : Nat) (l m : List Vl) (w : World) (hl : RowP w w.heap.size 7 (.slice A l.length c) l.length (fun j cs => ∃ x, l[j]? = some x ∧ VS k w w.heap.size x cs))
    (hm : RowP w w.heap.size 7 (.slice A' m.length c') m.length (fun j cs => ∃ x, m[j]? = some x ∧ VS k w w.heap.size x cs)) :
    Calls Tryz.prog 19 #[.slice A l.length c, .slice A' m.length c'] w fun e w' => e = .returned (.bool (decide (thn (cmpI l.length m.length) (cmpVs l m) = 0))) ∧ Below w.heap.size w w' := by
  have hc := values_any k (Lib.hid (compareR_any k)) A A' c c' l m w hl hm
  clear hl hm
  generalize thn (cmpI (l.length : Int) m.length) (cmpVs l m) = z at hc ⊢
  go_enter Tryz.func19, Tryz.ntmps19
  go_wp2_with fail
  refine hc.mono ?_
  rintro e w1 ⟨rfl, hb⟩
  clear hc
  go_wp2
  go_ret
  exact ⟨by first | rfl | rw [← bool_eq0], hb⟩
set_option maxHeartbeats 400000 in
theorem stringP_any (s : List UInt8) (w : World) : Calls Tryz.prog 18 #[.string ⟨s.toArray⟩] w fun e w' => e = .returned (.agg #[.int .i64 2, .int .i64 0, .string ⟨s.toArray⟩, .slice none 0 0, .slice none 0 0, .slice none 0 0, .slice none 0 0]) ∧ Below w.heap.size w w' := by
  go_enter Tryz.func18, Tryz.ntmps18
  go_wp2
  refine bodyPost_ret (v := .agg #[.int .i64 2, .int .i64 0, .string ⟨s.toArray⟩, .slice none 0 0, .slice none 0 0, .slice none 0 0, .slice none 0 0]) (by simp [results, Tryz.results18, go_sem]) rfl ?_
  exact ⟨rfl, (Below.refl _ _).alloc (Nat.le_refl _) _⟩
set_option maxHeartbeats 400000 in
theorem atomP_any (s : List UInt8) (w : World) : Calls Tryz.prog 24 #[.string ⟨s.toArray⟩] w fun e w' => e = .returned (.agg #[.int .i64 3, .int .i64 0, .string ⟨s.toArray⟩, .slice none 0 0, .slice none 0 0, .slice none 0 0, .slice none 0 0]) ∧ Below w.heap.size w w' := by
  go_enter Tryz.func24, Tryz.ntmps24
  go_wp2
  refine bodyPost_ret (v := .agg #[.int .i64 3, .int .i64 0, .string ⟨s.toArray⟩, .slice none 0 0, .slice none 0 0, .slice none 0 0, .slice none 0 0]) (by simp [results, Tryz.results24, go_sem]) rfl ?_
  exact ⟨rfl, (Below.refl _ _).alloc (Nat.le_refl _) _⟩
set_option maxHeartbeats 400000 in
theorem pidP_any (n : Int) (w : World) : Calls Tryz.prog 26 #[.int .i64 n] w fun e w' => e = .returned (.agg #[.int .i64 4, .int .i64 n, .string ⟨#[]⟩, .slice none 0 0, .slice none 0 0, .slice none 0 0, .slice none 0 0]) ∧ Below w.heap.size w w' := by
  go_enter Tryz.func26, Tryz.ntmps26
  go_wp2
  refine bodyPost_ret (v := .agg #[.int .i64 4, .int .i64 n, .string ⟨#[]⟩, .slice none 0 0, .slice none 0 0, .slice none 0 0, .slice none 0 0]) (by simp [results, Tryz.results26, go_sem]) rfl ?_
  exact ⟨rfl, (Below.refl _ _).alloc (Nat.le_refl _) _⟩
end Go.Proofs.YtjfknigiehggkaaGreat
namespace Go.Proofs.YtjfknigiehggkaaGreat
open Go Go.RowKit
theorem row_of_ownN {w : World} {B : Nat} {v : Value} {ls : List (List UInt8)} (ho : OwnN w B v ls) (hs : Short ls) (hn : ls.length ≤ maxLen) : RowB w (Btw B w.heap.size) 1 v ls.length (fun j cs => ∃ x, ls[j]? = some x ∧ cs = [.string ⟨x.toArray⟩] ∧ x.length ≤ maxLen) := by
  refine row_of_owns ho hn (fun g _ h1 h2 => ⟨h1, h2⟩) (fun j hj => ⟨ls[j], List.getElem?_eq_getElem hj, ?_, hs _ (List.getElem_mem hj)⟩) (by omega)
  apply List.ext_getElem?
  intro i
  match i with
  | 0 => rw [List.getElem?_take_of_lt (by omega), List.getElem?_drop]; simp [encStr, List.getElem?_eq_getElem hj]
  | i + 1 => rw [List.getElem?_take_eq_none (by omega), List.getElem?_eq_none (by simp)]
theorem srt_short {ss : List Strg} (h : Short ss) : Short (srt ss) := fun x hx => h x ((srt_mem ss x).1 hx)
set_option maxRecDepth 100000 in
set_option maxHeartbeats 3200000 in
theorem refWithLabels_any (k lo : Nat) (v : Vl) (cs : List Value) (A : Option Addr) (n c : Nat) (ss : List Strg) (w : World) (hlo : lo ≤ w.heap.size) (hv : VB k w (Btw lo w.heap.size) v cs) (hR : NmS w w.heap.size A n ss) (hn : n ≤ 1000000) :
    Calls Tryz.prog 35 #[.agg cs.toArray, .slice A n c] w fun e w' => ∃ cs', e = .returned (.agg cs'.toArray) ∧ VB k w' (Btw lo w'.heap.size) (withL (srt ss) v) cs' ∧ Below w.heap.size w w' := by
  obtain ⟨a, i, s, B1, n1, d1, B2, n2, d2, B3, n3, d3, B4, n4, d4, rfl⟩ := hv.form7
  obtain ⟨W, hW⟩ : ∃ W, W = (w.alloc (.cells #[.int .i64 a, .int .i64 i, .string s, .slice B1 n1 d1, .slice B2 n2 d2, .slice B3 n3 d3, .slice B4 n4 d4] 27)).alloc (.cells #[.int .i64 0, .int .i64 0, .string ⟨#[]⟩, .slice none 0 0, .slice none 0 0, .slice none 0 0, .slice none 0 0] 27) := ⟨_, rfl⟩
  have hbW : Below w.heap.size w W := by rw [hW]; exact ((Below.refl _ _).alloc (Nat.le_refl _) _).alloc (by simp) _
  have hzW : W.heap.size = w.heap.size + 2 := by rw [hW]; simp
  have k1 : W.heap[w.heap.size]? = some (.cells #[.int .i64 a, .int .i64 i, .string s, .slice B1 n1 d1, .slice B2 n2 d2, .slice B3 n3 d3, .slice B4 n4 d4] 27 (0, 0)) := by rw [hW, Below.heap_alloc _ _ _ (by simp)]; exact heap_alloc_new w _
  have k2 : W.heap[w.heap.size + 1]? = some (.cells #[.int .i64 0, .int .i64 0, .string ⟨#[]⟩, .slice none 0 0, .slice none 0 0, .slice none 0 0, .slice none 0 0] 27 (0, 0)) := by rw [hW]; exact new_at' _ (by simp)
  have hc := sorted_any A n c ss W ((hR.below hbW).mono hbW.size) hn
  have hvW := VB.keep (Same.of_below hbW (B := Btw lo w.heap.size) fun _ h => h.2) hv
  have hsh := Lib.hid (srt_short hR.2.1)
  have hln := Lib.hid (Nat.le_trans (srt_len ss) (by have := hR.1; omega : ss.length ≤ 1000000))
  have HA := Lib.hid (And.intro hbW hvW)
  clear hv hR hbW hvW
  go_enter Tryz.func35, Tryz.ntmps35
  go_wp2_with fail
  rw [← hW]
  clear hW
  refine hc.mono ?_
  rintro e w3 ⟨LA, lc, rfl, ho, hb3⟩
  clear hc
  have hz3 := hb3.size
  have m5 : w3.heap[w.heap.size]? = some (.cells #[.int .i64 a, .int .i64 i, .string s, .slice B1 n1 d1, .slice B2 n2 d2, .slice B3 n3 d3, .slice B4 n4 d4] 27 (0, 0)) := (hb3.block _ (by omega)).trans k1
  have m0 : w3.heap[w.heap.size + 1]? = some (.cells #[.int .i64 0, .int .i64 0, .string ⟨#[]⟩, .slice none 0 0, .slice none 0 0, .slice none 0 0, .slice none 0 0] 27 (0, 0)) := (hb3.block _ (by omega)).trans k2
  have HB := Lib.hid (And.intro (row_of_ownN ho hsh.out (by have := hln.out; unfold maxLen; omega)) hb3)
  generalize hL : (srt ss).length = ln
  rw [hL] at HB
  have HL := Lib.hid hL
  clear ho hb3 k1 k2 hL hsh
  obtain ⟨e0, e1, e2, e3, e4, e5, e6⟩ := cells7 m0
  obtain ⟨z0, z1, z2, z3, z4, z5, z6⟩ := frozen7 m0
  have g0 : w3.cell? ⟨w.heap.size, 0, none⟩ = some (.int .i64 a) := (Lib.cell_of_heap m5 0).trans rfl
  have g1 : w3.cell? ⟨w.heap.size, 1, none⟩ = some (.int .i64 i) := (Lib.cell_of_heap m5 1).trans rfl
  have g2 : w3.cell? ⟨w.heap.size, 2, none⟩ = some (.string s) := (Lib.cell_of_heap m5 2).trans rfl
  have g3 : w3.cell? ⟨w.heap.size, 3, none⟩ = some (.slice B1 n1 d1) := (Lib.cell_of_heap m5 3).trans rfl
  have g4 : w3.cell? ⟨w.heap.size, 4, none⟩ = some (.slice B2 n2 d2) := (Lib.cell_of_heap m5 4).trans rfl
  have g5 : w3.cell? ⟨w.heap.size, 5, none⟩ = some (.slice B3 n3 d3) := (Lib.cell_of_heap m5 5).trans rfl
  have g6 : w3.cell? ⟨w.heap.size, 6, none⟩ = some (.slice B4 n4 d4) := (Lib.cell_of_heap m5 6).trans rfl
  have y6 := Lib.frozen_of_heap m5 6
  have hne : ¬ w.heap.size + 1 = w.heap.size := by omega
  have hne2 : ¬ w.heap.size = w.heap.size + 1 := by omega
  go_wp2
  obtain ⟨V, hV⟩ : ∃ V, V = ((((((((w3.setCell ⟨w.heap.size, 6, none⟩ (Value.slice LA ln lc)).setCell ⟨w.heap.size + 1, 0, none⟩ (Value.int .i64 a)).setCell ⟨w.heap.size + 1, 1, none⟩ (Value.int .i64 i)).setCell ⟨w.heap.size + 1, 2, none⟩ (Value.string s)).setCell ⟨w.heap.size + 1, 3, none⟩ (Value.slice B1 n1 d1)).setCell ⟨w.heap.size + 1, 4, none⟩ (Value.slice B2 n2 d2)).setCell ⟨w.heap.size + 1, 5, none⟩ (Value.slice B3 n3 d3)).setCell ⟨w.heap.size + 1, 6, none⟩ (Value.slice LA ln lc)) := ⟨_, rfl⟩
  rw [← hV]
  have m0' : (w3.setCell ⟨w.heap.size, 6, none⟩ (Value.slice LA ln lc)).heap[w.heap.size + 1]? = some (.cells #[.int .i64 0, .int .i64 0, .string ⟨#[]⟩, .slice none 0 0, .slice none 0 0, .slice none 0 0, .slice none 0 0] 27 (0, 0)) := (heap_setCell_other _ _ _ _ hne).trans m0
  have hob : V.heap[w.heap.size + 1]? = some (.cells #[Value.int .i64 a, Value.int .i64 i, Value.string s, Value.slice B1 n1 d1, Value.slice B2 n2 d2, Value.slice B3 n3 d3, Value.slice LA ln lc] 27 (0, 0)) := by rw [hV]; exact obj7 m0' (Value.int .i64 a) (Value.int .i64 i) (Value.string s) (Value.slice B1 n1 d1) (Value.slice B2 n2 d2) (Value.slice B3 n3 d3) (Value.slice LA ln lc)
  have hBV : Below w.heap.size w V := by rw [hV]; exact Below.setCell (Below.setCell (Below.setCell (Below.setCell (Below.setCell (Below.setCell (Below.setCell ((HA.out.1.trans (HB.out.2.mono HA.out.1.size)).setCell (p := ⟨w.heap.size, 6, none⟩) (Nat.le_refl _) _) (p := ⟨w.heap.size + 1, 0, none⟩) (Nat.le_succ _) _) (p := ⟨w.heap.size + 1, 1, none⟩) (Nat.le_succ _) _) (p := ⟨w.heap.size + 1, 2, none⟩) (Nat.le_succ _) _) (p := ⟨w.heap.size + 1, 3, none⟩) (Nat.le_succ _) _) (p := ⟨w.heap.size + 1, 4, none⟩) (Nat.le_succ _) _) (p := ⟨w.heap.size + 1, 5, none⟩) (Nat.le_succ _) _) (p := ⟨w.heap.size + 1, 6, none⟩) (Nat.le_succ _) _
  have hzV : V.heap.size = w3.heap.size := by rw [hV]; simp
  have hsmV : ∀ B : Nat → Prop, ¬ B (w.heap.size + 1) → ¬ B w.heap.size → Same B w3 V := fun B h h' => by
    have hsm0 : Same B w3 (w3.setCell ⟨w.heap.size, 6, none⟩ (Value.slice LA ln lc)) := same_setCell (Same.refl _ _) h'
    rw [hV]; exact same_setCell (same_setCell (same_setCell (same_setCell (same_setCell (same_setCell (same_setCell (hsm0) h) h) h) h) h) h) h
  clear hV e0 z0 e1 z1 e2 z2 e3 z3 e4 z4 e5 z5 e6 z6 g0 g1 g2 g3 g4 g5 g6 y6
  obtain ⟨ps0, ps1, ps2, ps3, ps4, ps5, ps6⟩ := cells7 hob
  refine bodyPost_ret (v := .agg #[Value.int .i64 a, Value.int .i64 i, Value.string s, Value.slice B1 n1 d1, Value.slice B2 n2 d2, Value.slice B3 n3 d3, Value.slice LA ln lc]) (by simp [results, Tryz.results35, go_sem, ps0, ps1, ps2, ps3, ps4, ps5, ps6]) rfl ?_
  obtain ⟨hbW, hvW⟩ := HA.out
  obtain ⟨hlR, hb3⟩ := HB.out
  have hL := HL.out
  subst hL
  have hv3 := VB.keep (Same.of_below hb3 (B := Btw lo w.heap.size) fun b hb => by have := hb.2; omega) hvW
  have hv4 : VB k w3 (fun b => Btw lo w3.heap.size b ∧ b ≠ w.heap.size ∧ b ≠ w.heap.size + 1) v _ := VB.sub (fun b hb => ⟨⟨hb.1, by have := hb.2; omega⟩, by have := hb.2; omega, by have := hb.2; omega⟩) (Nat.le_refl _) hv3
  have hl4 : RowB w3 (fun b => Btw lo w3.heap.size b ∧ b ≠ w.heap.size ∧ b ≠ w.heap.size + 1) 1 (.slice LA (srt ss).length lc) (srt ss).length _ := RowB.sub hlR (fun b hb => ⟨⟨by have := hb.1; omega, hb.2⟩, by have := hb.1; omega, by have := hb.1; omega⟩) (fun _ _ h => h)
  have hv5 := vb_relabel hv4 hl4
  have hv6 := VB.keep (hsmV _ (fun h => h.2.2 rfl) (fun h => h.2.1 rfl)) hv5
  exact ⟨_, rfl, VB.sub (fun b hb => ⟨hb.1.1, by have := hb.1.2; omega⟩) (Nat.le_refl _) hv6, hBV⟩
end Go.Proofs.YtjfknigiehggkaaGreat
