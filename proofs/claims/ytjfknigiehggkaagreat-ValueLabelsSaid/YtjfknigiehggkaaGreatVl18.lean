/- What Equal, EqualValues and WithLabels of the document, and String, Atom and Pid of the program return; insertion into an ascending list. -/
import Derived.Test.YtjfknigiehggkaaGreatVl17
namespace Go.Proofs.YtjfknigiehggkaaGreat
open Go Go.RowKit
theorem ins_at {α : Type} {c : α → α → Int} {x : α} : ∀ {l : List α} {p : Nat}, p ≤ l.length → (∀ y ∈ l.take p, c y x < 0) → (∀ y, l[p]? = some y → ¬ c y x < 0 ∧ c y x ≠ 0) → ins c x l = l.take p ++ x :: l.drop p
  | [], p, hp, _, _ => by
    have : p = 0 := by simpa using hp
    subst this
    rfl
  | a :: l, 0, _, _, hh => by
    obtain ⟨h1, h2⟩ := hh a (by simp)
    unfold ins
    rw [if_neg h1, if_neg h2]
    rfl
  | a :: l, p + 1, hp, hl, hh => by
    unfold ins
    rw [if_pos (hl a (by simp)), ins_at (l := l) (p := p) (by simpa using hp) (fun y hy => hl y (by simp [hy])) (fun y hy => hh y (by simpa using hy))]
    rfl
theorem ins_skip {α : Type} {c : α → α → Int} {x : α} : ∀ {l : List α} {p : Nat} {y : α}, (∀ y ∈ l.take p, c y x < 0) → l[p]? = some y → c y x = 0 → ins c x l = l
  | [], p, y, _, h, _ => by simp at h
  | a :: l, 0, y, _, h, h0 => by
    simp only [List.getElem?_cons_zero, Option.some.injEq] at h
    subst h
    unfold ins
    rw [if_neg (by omega), if_pos h0]
  | a :: l, p + 1, y, hl, h, h0 => by
    unfold ins
    rw [if_pos (hl a (by simp)), ins_skip (l := l) (p := p) (fun y hy => hl y (by simp [hy])) (by simpa using h) h0]
theorem srtC_step {α : Type} {c : α → α → Int} {l : List α} {k : Nat} {s : α} (hs : l[k]? = some s) : srtC c (l.take (k + 1)) = ins c s (srtC c (l.take k)) := by
  rw [List.take_add_one, hs]
  simp [srtC, List.foldl_append]
theorem srtC_len {α : Type} {c : α → α → Int} (l : List α) : (srtC c l).length ≤ l.length := by
  have hi : ∀ (x : α) (m : List α), (ins c x m).length ≤ m.length + 1 := by
    intro x m
    induction m with
    | nil => simp [ins]
    | cons a m ih =>
      unfold ins
      split
      · simp; omega
      · split <;> simp
  have hf : ∀ (l m : List α), (l.foldl (fun acc x => ins c x acc) m).length ≤ m.length + l.length := by
    intro l
    induction l with
    | nil => intro m; simp
    | cons a l ih =>
      intro m
      rw [List.foldl_cons]
      have := ih (ins c a m)
      have := hi a m
      rw [List.length_cons]
      omega
  simpa [srtC] using hf l []
/-- elements that are as P says, whatever the world -/
def elC {α : Type} (Pr : α → List Value → Prop) : ElK α := ⟨fun x _ _ cs => Pr x cs, fun _ h => h, fun _ h => h⟩
set_option maxRecDepth 100000 in
set_option maxHeartbeats 3200000 in
theorem refEqual_any (k : Nat) (u v : Vl) (ca cb : List Value) (w : World) (ha : VS k w w.heap.size u ca) (hb : VS k w w.heap.size v cb) : Calls Tryz.prog 20 #[.agg ca.toArray, .agg cb.toArray] w fun e w' => e = .returned (.bool (decide (cmpV u v = 0))) ∧ Below w.heap.size w w' := by
  obtain ⟨a, i, s, B1, n1, d1, B2, n2, d2, B3, n3, d3, B4, n4, d4, rfl⟩ := ha.form7
  obtain ⟨a', i', s', B1', n1', d1', B2', n2', d2', B3', n3', d3', B4', n4', d4', rfl⟩ := hb.form7
  obtain ⟨W, hW⟩ : ∃ W, W = (w.alloc (.cells #[.int .i64 a, .int .i64 i, .string s, .slice B1 n1 d1, .slice B2 n2 d2, .slice B3 n3 d3, .slice B4 n4 d4] 27)).alloc (.cells #[.int .i64 a', .int .i64 i', .string s', .slice B1' n1' d1', .slice B2' n2' d2', .slice B3' n3' d3', .slice B4' n4' d4'] 27) := ⟨_, rfl⟩
  have hbb : Below w.heap.size w W := by rw [hW]; exact ((Below.refl _ _).alloc (Nat.le_refl _) _).alloc (by simp) _
  have q0 : W.cell? ⟨w.heap.size, 0, none⟩ = some (.int .i64 a) := by rw [hW]; simp
  have q1 : W.cell? ⟨w.heap.size, 1, none⟩ = some (.int .i64 i) := by rw [hW]; simp
  have q2 : W.cell? ⟨w.heap.size, 2, none⟩ = some (.string s) := by rw [hW]; simp
  have q3 : W.cell? ⟨w.heap.size, 3, none⟩ = some (.slice B1 n1 d1) := by rw [hW]; simp
  have q4 : W.cell? ⟨w.heap.size, 4, none⟩ = some (.slice B2 n2 d2) := by rw [hW]; simp
  have q5 : W.cell? ⟨w.heap.size, 5, none⟩ = some (.slice B3 n3 d3) := by rw [hW]; simp
  have q6 : W.cell? ⟨w.heap.size, 6, none⟩ = some (.slice B4 n4 d4) := by rw [hW]; simp
  have r0 : W.cell? ⟨w.heap.size + 1, 0, none⟩ = some (.int .i64 a') := by rw [hW]; simp
  have r1 : W.cell? ⟨w.heap.size + 1, 1, none⟩ = some (.int .i64 i') := by rw [hW]; simp
  have r2 : W.cell? ⟨w.heap.size + 1, 2, none⟩ = some (.string s') := by rw [hW]; simp
  have r3 : W.cell? ⟨w.heap.size + 1, 3, none⟩ = some (.slice B1' n1' d1') := by rw [hW]; simp
  have r4 : W.cell? ⟨w.heap.size + 1, 4, none⟩ = some (.slice B2' n2' d2') := by rw [hW]; simp
  have r5 : W.cell? ⟨w.heap.size + 1, 5, none⟩ = some (.slice B3' n3' d3') := by rw [hW]; simp
  have r6 : W.cell? ⟨w.heap.size + 1, 6, none⟩ = some (.slice B4' n4' d4') := by rw [hW]; simp
  have hc := compareR_any k u v _ _ W (VS.up hbb.size (Nat.le_refl _) (VS.on hbb ha)) (VS.up hbb.size (Nat.le_refl _) (VS.on hbb hb))
  have HB := Lib.hid hbb
  clear ha hb hbb
  generalize hz : decide (cmpV u v = 0) = r
  have HZ := Lib.hid hz
  clear hz
  generalize cmpV u v = z at hc HZ
  go_enter Tryz.func20, Tryz.ntmps20
  go_wp2_with fail
  rw [← hW]
  clear hW
  go_wp2_with (go_at_call 49; refine hc.mono ?_; rintro e w1 ⟨rfl, hb1⟩; refine Hid.out ?_)
  refine Lib.hid ?_
  clear hc
  go_wp2
  go_ret
  exact ⟨ret_bool (by rw [← HZ.out]; by_cases h : z = 0 <;> simp [h]), HB.out.trans (hb1.mono HB.out.size)⟩
theorem bool_eq0 (z : Int) : (z == 0) = decide (z = 0) := by
  by_cases h : z = 0
  · simp [h]
  · rw [decide_eq_false h, beq_eq_false_iff_ne]; exact h
end Go.Proofs.YtjfknigiehggkaaGreat
namespace Go.Proofs.YtjfknigiehggkaaGreat
open Go Go.RowKit
theorem okV_srtL {v : Vl} {ss : List (List UInt8)} (h : okV v = true) : okV (withL (srt ss) v) = ss.all varB := by
  obtain ⟨k, i, t, vs, y, e, l⟩ := v
  unfold okV at h
  unfold withL okV
  simp only [Bool.and_eq_true] at h
  have hl : labelsB (srt ss) = ss.all varB := by
    have h1 : decide (AscC cmpT (srt ss)) = true := decide_eq_true (List.Pairwise.imp (fun h => cmpT_of_bl h) (srt_asc ss))
    unfold labelsB
    rw [h1, Bool.and_true, Bool.eq_iff_iff, List.all_eq_true, List.all_eq_true]
    exact ⟨fun H x hx => H x ((srt_mem ss x).2 hx), fun H x hx => H x ((srt_mem ss x).1 hx)⟩
  rw [hl, h.1.1.1.2, h.1.1.2, h.1.2, h.2]
  simp
theorem unl_withL (ls : List (List UInt8)) (v : Vl) : unl (withL ls v) = unl v := by
  obtain ⟨k, i, t, vs, y, e, l⟩ := v
  rfl
mutual
theorem sml_unl : ∀ v : Vl, sml v → sml (unl v)
  | .mk k i t v y e l, h => by
    unfold sml at h
    rw [unl, sml]
    refine ⟨by rw [unlVs_map, List.length_map]; exact h.1, h.2.1, ?_, by simp, smlVs_unl v h.2.2.2.2.1, ?_⟩
    · have h1 := srtC_len (c := cmpE) (unlEs e)
      rw [unlEs_map, List.length_map] at h1
      rw [unlEs_map]
      exact Nat.le_trans h1 h.2.2.1
    · rw [smlEs_iff]
      intro x hx
      rw [mem_srtC totE] at hx
      exact smlEs_unl e h.2.2.2.2.2 x hx
theorem smlVs_unl : ∀ l : List Vl, smlVs l → smlVs (unlVs l)
  | [], _ => by simp [unlVs, smlVs]
  | a :: s, h => by
    rw [smlVs] at h
    rw [unlVs, smlVs]
    exact ⟨sml_unl a h.1, smlVs_unl s h.2⟩
theorem smlE_unl : ∀ e : En, smlE e → smlE (unlE e)
  | .mk a f r, h => by
    rw [smlE] at h
    rw [unlE, smlE]
    exact ⟨by rw [unlVs_map, List.length_map]; exact h.1, smlVs_unl a h.2.1, sml_unl r h.2.2⟩
theorem smlEs_unl : ∀ (l : List En), smlEs l → ∀ x, x ∈ unlEs l → smlE x
  | [], _, _, hx => by simp [unlEs] at hx
  | a :: s, h, x, hx => by
    rw [smlEs] at h
    rw [unlEs] at hx
    rcases List.mem_cons.1 hx with hx | hx
    · rw [hx]; exact smlE_unl a h.1
    · exact smlEs_unl s h.2 x hx
end
theorem refEqual_self (k : Nat) (u : Vl) (ca cb : List Value) (w : World) (ha : VS k w w.heap.size u ca) (hb : VS k w w.heap.size u cb) :
    Calls Tryz.prog 20 #[.agg ca.toArray, .agg cb.toArray] w fun e w' => e = .returned (.bool true) ∧ Below w.heap.size w w' := by
  have h := refEqual_any k u u ca cb w ha hb
  rw [show decide (cmpV u u = 0) = true from decide_eq_true (cmpV_zero.2 rfl)] at h
  exact h
end Go.Proofs.YtjfknigiehggkaaGreat
namespace Go.Proofs.YtjfknigiehggkaaGreat
open Go Go.RowKit
theorem row_of_ownN {w : World} {B : Nat} {v : Value} {ls : List (List UInt8)} (ho : OwnN w B v ls) (hs : Short ls) (hn : ls.length ≤ maxLen) : RowB w (Btw B w.heap.size) 1 v ls.length (fun j cs => ∃ x, ls[j]? = some x ∧ cs = [.string ⟨x.toArray⟩] ∧ x.length ≤ maxLen) := by
  refine row_of_owns ho hn (fun g _ h1 h2 => ⟨h1, h2⟩) (fun j hj => ⟨ls[j], List.getElem?_eq_getElem hj, ?_, hs _ (List.getElem_mem hj)⟩) (by omega)
  apply List.ext_getElem?
  intro i
  match i with
  | 0 => rw [List.getElem?_take_of_lt (by omega), List.getElem?_drop]; simp [encStr, List.getElem?_eq_getElem hj]
  | i + 1 => rw [List.getElem?_take_eq_none (by omega), List.getElem?_eq_none (by simp)]
theorem srt_short {ss : List Strg} (h : Short ss) : Short (srt ss) := fun x hx => h x ((srt_mem ss x).1 hx)
set_option maxRecDepth 100000 in
set_option maxHeartbeats 3200000 in
theorem refWithLabels_any (k lo : Nat) (v : Vl) (cs : List Value) (A : Option Addr) (n c : Nat) (ss : List Strg) (w : World) (hlo : lo ≤ w.heap.size) (hv : VB k w (Btw lo w.heap.size) v cs) (hR : NmS w w.heap.size A n ss) (hn : n ≤ 1000000) :
    Calls Tryz.prog 35 #[.agg cs.toArray, .slice A n c] w fun e w' => ∃ cs', e = .returned (.agg cs'.toArray) ∧ VB k w' (Btw lo w'.heap.size) (withL (srt ss) v) cs' ∧ Below w.heap.size w w' := by
  obtain ⟨a, i, s, B1, n1, d1, B2, n2, d2, B3, n3, d3, B4, n4, d4, rfl⟩ := hv.form7
  obtain ⟨W, hW⟩ : ∃ W, W = (w.alloc (.cells #[.int .i64 a, .int .i64 i, .string s, .slice B1 n1 d1, .slice B2 n2 d2, .slice B3 n3 d3, .slice B4 n4 d4] 27)).alloc (.cells #[.int .i64 0, .int .i64 0, .string ⟨#[]⟩, .slice none 0 0, .slice none 0 0, .slice none 0 0, .slice none 0 0] 27) := ⟨_, rfl⟩
  have hbW : Below w.heap.size w W := by rw [hW]; exact ((Below.refl _ _).alloc (Nat.le_refl _) _).alloc (by simp) _
  have hzW : W.heap.size = w.heap.size + 2 := by rw [hW]; simp
  have k1 : W.heap[w.heap.size]? = some (.cells #[.int .i64 a, .int .i64 i, .string s, .slice B1 n1 d1, .slice B2 n2 d2, .slice B3 n3 d3, .slice B4 n4 d4] 27 (0, 0)) := by rw [hW, Below.heap_alloc _ _ _ (by simp)]; exact heap_alloc_new w _
  have k2 : W.heap[w.heap.size + 1]? = some (.cells #[.int .i64 0, .int .i64 0, .string ⟨#[]⟩, .slice none 0 0, .slice none 0 0, .slice none 0 0, .slice none 0 0] 27 (0, 0)) := by rw [hW]; exact new_at' _ (by simp)
  have hc := sorted_any A n c ss W ((hR.below hbW).mono hbW.size) hn
  have hvW := VB.keep (Same.of_below hbW (B := Btw lo w.heap.size) fun _ h => h.2) hv
  have hsh := Lib.hid (srt_short hR.2.1)
  have hln := Lib.hid (Nat.le_trans (srt_len ss) (by have := hR.1; omega : ss.length ≤ 1000000))
  have HA := Lib.hid (And.intro hbW hvW)
  clear hv hR hbW hvW
  go_enter Tryz.func35, Tryz.ntmps35
  go_wp2_with fail
  rw [← hW]
  clear hW
  refine hc.mono ?_
  rintro e w3 ⟨LA, lc, rfl, ho, hb3⟩
  clear hc
  have hz3 := hb3.size
  have m5 : w3.heap[w.heap.size]? = some (.cells #[.int .i64 a, .int .i64 i, .string s, .slice B1 n1 d1, .slice B2 n2 d2, .slice B3 n3 d3, .slice B4 n4 d4] 27 (0, 0)) := (hb3.block _ (by omega)).trans k1
  have m0 : w3.heap[w.heap.size + 1]? = some (.cells #[.int .i64 0, .int .i64 0, .string ⟨#[]⟩, .slice none 0 0, .slice none 0 0, .slice none 0 0, .slice none 0 0] 27 (0, 0)) := (hb3.block _ (by omega)).trans k2
  have HB := Lib.hid (And.intro (row_of_ownN ho hsh.out (by have := hln.out; unfold maxLen; omega)) hb3)
  generalize hL : (srt ss).length = ln
  rw [hL] at HB
  have HL := Lib.hid hL
  clear ho hb3 k1 k2 hL hsh
  obtain ⟨e0, e1, e2, e3, e4, e5, e6⟩ := cells7 m0
  obtain ⟨z0, z1, z2, z3, z4, z5, z6⟩ := frozen7 m0
  have g0 : w3.cell? ⟨w.heap.size, 0, none⟩ = some (.int .i64 a) := (Lib.cell_of_heap m5 0).trans rfl
  have g1 : w3.cell? ⟨w.heap.size, 1, none⟩ = some (.int .i64 i) := (Lib.cell_of_heap m5 1).trans rfl
  have g2 : w3.cell? ⟨w.heap.size, 2, none⟩ = some (.string s) := (Lib.cell_of_heap m5 2).trans rfl
  have g3 : w3.cell? ⟨w.heap.size, 3, none⟩ = some (.slice B1 n1 d1) := (Lib.cell_of_heap m5 3).trans rfl
  have g4 : w3.cell? ⟨w.heap.size, 4, none⟩ = some (.slice B2 n2 d2) := (Lib.cell_of_heap m5 4).trans rfl
  have g5 : w3.cell? ⟨w.heap.size, 5, none⟩ = some (.slice B3 n3 d3) := (Lib.cell_of_heap m5 5).trans rfl
  have g6 : w3.cell? ⟨w.heap.size, 6, none⟩ = some (.slice B4 n4 d4) := (Lib.cell_of_heap m5 6).trans rfl
  have y6 := Lib.frozen_of_heap m5 6
  have hne : ¬ w.heap.size + 1 = w.heap.size := by omega
  have hne2 : ¬ w.heap.size = w.heap.size + 1 := by omega
  go_wp2
  obtain ⟨V, hV⟩ : ∃ V, V = ((((((((w3.setCell ⟨w.heap.size, 6, none⟩ (Value.slice LA ln lc)).setCell ⟨w.heap.size + 1, 0, none⟩ (Value.int .i64 a)).setCell ⟨w.heap.size + 1, 1, none⟩ (Value.int .i64 i)).setCell ⟨w.heap.size + 1, 2, none⟩ (Value.string s)).setCell ⟨w.heap.size + 1, 3, none⟩ (Value.slice B1 n1 d1)).setCell ⟨w.heap.size + 1, 4, none⟩ (Value.slice B2 n2 d2)).setCell ⟨w.heap.size + 1, 5, none⟩ (Value.slice B3 n3 d3)).setCell ⟨w.heap.size + 1, 6, none⟩ (Value.slice LA ln lc)) := ⟨_, rfl⟩
  rw [← hV]
  have m0' : (w3.setCell ⟨w.heap.size, 6, none⟩ (Value.slice LA ln lc)).heap[w.heap.size + 1]? = some (.cells #[.int .i64 0, .int .i64 0, .string ⟨#[]⟩, .slice none 0 0, .slice none 0 0, .slice none 0 0, .slice none 0 0] 27 (0, 0)) := (heap_setCell_other _ _ _ _ hne).trans m0
  have hob : V.heap[w.heap.size + 1]? = some (.cells #[Value.int .i64 a, Value.int .i64 i, Value.string s, Value.slice B1 n1 d1, Value.slice B2 n2 d2, Value.slice B3 n3 d3, Value.slice LA ln lc] 27 (0, 0)) := by rw [hV]; exact obj7 m0' (Value.int .i64 a) (Value.int .i64 i) (Value.string s) (Value.slice B1 n1 d1) (Value.slice B2 n2 d2) (Value.slice B3 n3 d3) (Value.slice LA ln lc)
  have hBV : Below w.heap.size w V := by rw [hV]; exact Below.setCell (Below.setCell (Below.setCell (Below.setCell (Below.setCell (Below.setCell (Below.setCell ((HA.out.1.trans (HB.out.2.mono HA.out.1.size)).setCell (p := ⟨w.heap.size, 6, none⟩) (Nat.le_refl _) _) (p := ⟨w.heap.size + 1, 0, none⟩) (Nat.le_succ _) _) (p := ⟨w.heap.size + 1, 1, none⟩) (Nat.le_succ _) _) (p := ⟨w.heap.size + 1, 2, none⟩) (Nat.le_succ _) _) (p := ⟨w.heap.size + 1, 3, none⟩) (Nat.le_succ _) _) (p := ⟨w.heap.size + 1, 4, none⟩) (Nat.le_succ _) _) (p := ⟨w.heap.size + 1, 5, none⟩) (Nat.le_succ _) _) (p := ⟨w.heap.size + 1, 6, none⟩) (Nat.le_succ _) _
  have hzV : V.heap.size = w3.heap.size := by rw [hV]; simp
  have hsmV : ∀ B : Nat → Prop, ¬ B (w.heap.size + 1) → ¬ B w.heap.size → Same B w3 V := fun B h h' => by
    have hsm0 : Same B w3 (w3.setCell ⟨w.heap.size, 6, none⟩ (Value.slice LA ln lc)) := same_setCell (Same.refl _ _) h'
    rw [hV]; exact same_setCell (same_setCell (same_setCell (same_setCell (same_setCell (same_setCell (same_setCell (hsm0) h) h) h) h) h) h) h
  clear hV e0 z0 e1 z1 e2 z2 e3 z3 e4 z4 e5 z5 e6 z6 g0 g1 g2 g3 g4 g5 g6 y6
  obtain ⟨ps0, ps1, ps2, ps3, ps4, ps5, ps6⟩ := cells7 hob
  refine bodyPost_ret (v := .agg #[Value.int .i64 a, Value.int .i64 i, Value.string s, Value.slice B1 n1 d1, Value.slice B2 n2 d2, Value.slice B3 n3 d3, Value.slice LA ln lc]) (by simp [results, Tryz.results35, go_sem, ps0, ps1, ps2, ps3, ps4, ps5, ps6]) rfl ?_
  obtain ⟨hbW, hvW⟩ := HA.out
  obtain ⟨hlR, hb3⟩ := HB.out
  have hL := HL.out
  subst hL
  have hv3 := VB.keep (Same.of_below hb3 (B := Btw lo w.heap.size) fun b hb => by have := hb.2; omega) hvW
  have hv4 : VB k w3 (fun b => Btw lo w3.heap.size b ∧ b ≠ w.heap.size ∧ b ≠ w.heap.size + 1) v _ := VB.sub (fun b hb => ⟨⟨hb.1, by have := hb.2; omega⟩, by have := hb.2; omega, by have := hb.2; omega⟩) (Nat.le_refl _) hv3
  have hl4 : RowB w3 (fun b => Btw lo w3.heap.size b ∧ b ≠ w.heap.size ∧ b ≠ w.heap.size + 1) 1 (.slice LA (srt ss).length lc) (srt ss).length _ := RowB.sub hlR (fun b hb => ⟨⟨by have := hb.1; omega, hb.2⟩, by have := hb.1; omega, by have := hb.1; omega⟩) (fun _ _ h => h)
  have hv5 := vb_relabel hv4 hl4
  have hv6 := VB.keep (hsmV _ (fun h => h.2.2 rfl) (fun h => h.2.1 rfl)) hv5
  exact ⟨_, rfl, VB.sub (fun b hb => ⟨hb.1.1, by have := hb.1.2; omega⟩) (Nat.le_refl _) hv6, hBV⟩
end Go.Proofs.YtjfknigiehggkaaGreat
