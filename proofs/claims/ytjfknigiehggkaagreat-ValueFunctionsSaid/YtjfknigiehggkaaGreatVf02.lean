/- Slices of strings, as the walks take them: what comes in, what a call owns, and what an append makes of it; a set of names as a value. -/
import Derived.Test.YtjfknigiehggkaaGreatVf00
import Derived.Test.YtjfknigiehggkaaGreatVf01
import Derived.Test.YtjfknigiehggkaaGreatShelf
import Derived.Lib.Walk
import Derived.Lib.SliceRun
import Derived.Lib.AppendZeros
import Derived.Deep.Onto
import Derived.Deep.AppendLies
import Derived.Test.YtjfknigiehggkaaGreatProg
import Derived.WalkKit
import Derived.WalkSpells
import Derived.WalkLawsBesides
import Derived.BigQuiet
import Derived.Deep.QuietTactic
import Derived.Lib.Hide
import Derived.Outline
import Derived.Deep.RegionHeld3
import Derived.BigFrame
import Derived.Deep.LoopGhost
namespace Go.Proofs.YtjfknigiehggkaaGreat
open Go.RowKit Go.Sort
abbrev Strg := List UInt8
def mkB (s : Strg) : ByteArray := ⟨s.toArray⟩
theorem mkB_list (s : Strg) : (mkB s).data.toList = s := by simp [mkB]
theorem mkB_size (s : Strg) : (mkB s).size = s.length := by simp [mkB, ByteArray.size]
theorem mkB_inj {s t : Strg} (h : mkB s = mkB t) : s = t := by rw [← mkB_list s, h, mkB_list]
theorem mkB_of (b : ByteArray) : mkB b.data.toList = b := by obtain ⟨⟨l⟩⟩ := b; rfl
theorem lists_map (ss : List Strg) : lists (ss.map mkB) = ss := by
  unfold lists
  rw [List.map_map]
  conv => rhs; rw [← List.map_id ss]
  exact List.map_congr_left fun s _ => mkB_list s
theorem map_lists (ss : List ByteArray) : (lists ss).map mkB = ss := by
  unfold lists
  rw [List.map_map]
  conv => rhs; rw [← List.map_id ss]
  exact List.map_congr_left fun s _ => mkB_of s
/-- no string is longer than a machine holds -/
def Short (ss : List Strg) : Prop := ∀ s ∈ ss, s.length ≤ maxLen
/-- the slice .slice A n cap reads as the strings ss, in blocks below B -/
def NmS (w : World) (B : Nat) (A : Option Addr) (n : Nat) (ss : List Strg) : Prop :=
  n = ss.length ∧ Short ss ∧ (0 < n → ∃ b off, A = some ⟨b, off, none⟩ ∧ b < B ∧ ∀ j s, ss[j]? = some s → w.cell? ⟨b, off + j, none⟩ = some (encStr s))
theorem NmS.strS {w : World} {B : Nat} {A : Option Addr} {n : Nat} {ss : List Strg} (h : NmS w B A n ss) : StrS w B A n (ss.map mkB) := by
  refine ⟨by rw [List.length_map]; exact h.1, fun s hs => ?_, fun hn => ?_⟩
  · obtain ⟨t, ht, rfl⟩ := List.mem_map.1 hs
    rw [mkB_size]; exact h.2.1 t ht
  · obtain ⟨b, off, hA, hb, hc⟩ := h.2.2 hn
    refine ⟨b, off, hA, hb, fun j s hs => ?_⟩
    rw [List.getElem?_map] at hs
    obtain ⟨t, ht, rfl⟩ := Option.map_eq_some_iff.1 hs
    exact hc j t ht
theorem StrS.nmS {w : World} {B : Nat} {A : Option Addr} {n : Nat} {ss : List ByteArray} (h : StrS w B A n ss) : NmS w B A n (lists ss) := by
  refine ⟨by unfold lists; rw [List.length_map]; exact h.1, fun s hs => ?_, fun hn => ?_⟩
  · obtain ⟨t, ht, rfl⟩ := List.mem_map.1 hs
    have := h.2.1 t ht
    show t.data.toList.length ≤ maxLen
    rw [Array.length_toList]; exact this
  · obtain ⟨b, off, hA, hb, hc⟩ := h.2.2 hn
    refine ⟨b, off, hA, hb, fun j s hs => ?_⟩
    unfold lists at hs
    rw [List.getElem?_map] at hs
    obtain ⟨t, ht, rfl⟩ := Option.map_eq_some_iff.1 hs
    rw [hc j t ht]
theorem NmS.below {w w' : World} {B : Nat} {A : Option Addr} {n : Nat} {ss : List Strg} (h : NmS w B A n ss) (hb : Below B w w') : NmS w' B A n ss :=
  ⟨h.1, h.2.1, fun hn => by
    obtain ⟨b, off, hA, hlt, hc⟩ := h.2.2 hn
    exact ⟨b, off, hA, hlt, fun j s hs => (hb.cell (p := ⟨b, off + j, none⟩) hlt).trans (hc j s hs)⟩⟩
theorem NmS.mono {w : World} {B B' : Nat} {A : Option Addr} {n : Nat} {ss : List Strg} (h : NmS w B A n ss) (hB : B ≤ B') : NmS w B' A n ss :=
  ⟨h.1, h.2.1, fun hn => by
    obtain ⟨b, off, hA, hlt, hc⟩ := h.2.2 hn
    exact ⟨b, off, hA, by omega, hc⟩⟩
theorem NmS.nil (w : World) (B : Nat) (A : Option Addr) : NmS w B A 0 [] := ⟨rfl, by simp [Short], fun h => by omega⟩
/-- kept by a later world -/
theorem NmS.kept {w w' : World} {B : Nat} {A : Option Addr} {n : Nat} {ss : List Strg} (h : NmS w B A n ss) (hb : Below B w w') (hB : B ≤ w'.heap.size) : NmS w' w'.heap.size A n ss := (h.below hb).mono hB
theorem NmS.on {w w' : World} {A : Option Addr} {n : Nat} {ss : List Strg} (h : NmS w w.heap.size A n ss) (hb : Below w.heap.size w w') : NmS w' w'.heap.size A n ss := h.kept hb hb.size
theorem NmS.drewN {w : World} {B : Nat} {A : Option Addr} {n : Nat} {ss : List Strg} (h : NmS w B A n ss) (q : Nat) : NmS (w.drewN q) B A n ss := h
/-- the string at an index, and its cell -/
theorem NmS.at {w : World} {B : Nat} {A : Option Addr} {n : Nat} {ss : List Strg} (h : NmS w B A n ss) {k : Nat} (hk : k < n) :
    ∃ b off s, A = some ⟨b, off, none⟩ ∧ b < B ∧ ss[k]? = some s ∧ s.length ≤ maxLen ∧ w.cell? ⟨b, off + k, none⟩ = some (.string ⟨s.toArray⟩) := by
  obtain ⟨b, off, hA, hb, hc⟩ := h.2.2 (by omega)
  have hx : ss[k]? = some (ss[k]'(by have := h.1; omega)) := List.getElem?_eq_getElem _
  exact ⟨b, off, _, hA, hb, hx, h.2.1 _ (List.mem_of_getElem? hx), hc k _ hx⟩
theorem NmS.take {w : World} {B n g o : Nat} {ss : List Strg} (h : NmS w B (some ⟨g, o, none⟩) n ss) {p : Nat} (hp : p ≤ n) : NmS w B (some ⟨g, o, none⟩) p (ss.take p) := by
  refine ⟨by rw [List.length_take, ← h.1]; omega, fun s hs => h.2.1 s (List.mem_of_mem_take hs), fun hn => ?_⟩
  obtain ⟨b, off, hA, hb, hc⟩ := h.2.2 (by omega)
  refine ⟨b, off, hA, hb, fun j s hs => hc j s ?_⟩
  rw [List.getElem?_take] at hs
  split at hs
  · exact hs
  · cases hs
theorem NmS.drop {w : World} {B n g o : Nat} {ss : List Strg} (h : NmS w B (some ⟨g, o, none⟩) n ss) {p : Nat} (hp : p < n) : NmS w B (some ⟨g, o + p, none⟩) (n - p) (ss.drop p) := by
  refine ⟨by rw [List.length_drop, ← h.1], fun s hs => h.2.1 s (List.mem_of_mem_drop hs), fun hn => ?_⟩
  obtain ⟨b, off, hA, hb, hc⟩ := h.2.2 (by omega)
  injection hA with hA
  injection hA with e1 e2 _
  subst e1 e2
  refine ⟨g, o + p, rfl, hb, fun j s hs => ?_⟩
  rw [List.getElem?_drop] at hs
  rw [Nat.add_assoc]
  exact hc (p + j) s hs
/-- v is a slice of the call's own that holds the strings ss -/
def OwnN (w : World) (B : Nat) (v : Value) (ss : List Strg) : Prop := w.ownsRow B 9 1 v ss.length (ss.map encStr)
theorem map_one (ss : List Strg) : ∀ u ∈ ss.map encStr, u.oneCell' = true := by
  intro u hu
  obtain ⟨s, _, rfl⟩ := List.mem_map.1 hu
  rfl
theorem OwnN.nil (w : World) (B : Nat) : OwnN w B (.slice none 0 0) [] := World.ownsRow_nil _ _ _ _
theorem OwnN.form {w : World} {B : Nat} {v : Value} {ss : List Strg} (h : OwnN w B v ss) : ∃ A c, v = .slice A ss.length c := by
  rcases h.2 with ⟨rfl, h0⟩ | ⟨g, cap, cur, rfl, _⟩
  · rw [h0]; exact ⟨_, _, rfl⟩
  · exact ⟨_, _, rfl⟩
theorem OwnN.formG {w : World} {B : Nat} {v : Value} {ss : List Strg} (h : OwnN w B v ss) (hl : 0 < ss.length) :
    ∃ g cap, v = .slice (some ⟨g, 0, none⟩) ss.length cap ∧ B ≤ g ∧ g < w.heap.size ∧ ss.length ≤ cap := by
  have hlt := h.lt
  rcases h.2 with ⟨_, h0⟩ | ⟨g, cap, cur, rfl, hB, hg, hnc, _⟩
  · omega
  · exact ⟨g, cap, rfl, hB, (hlt g rfl).2, hnc⟩
theorem OwnN.rng {w : World} {B : Nat} {A : Option Addr} {n c : Nat} {ss : List Strg} (h : OwnN w B (.slice A n c) ss) (hf : Short ss) : NmS w w.heap.size A n ss := by
  have hl := h.lt
  rcases h.2 with ⟨hv, h0⟩ | ⟨g, cap, cur, hv, hB, hg, hnc, hcm, hcz, htk⟩
  · injection hv with e1 e2 e3
    subst e1 e2
    exact ⟨h0.symm, hf, fun h => by omega⟩
  · injection hv with e1 e2 e3
    subst e1 e2
    refine ⟨rfl, hf, fun _ => ⟨g, 0, rfl, (hl g rfl).2, fun j s hj => ?_⟩⟩
    have hlt : j < ss.length := (List.getElem?_eq_some_iff.1 hj).1
    have := World.ownsRow.cellAt h j (by omega)
    rw [Nat.zero_add, this, List.getElem?_map, hj]; rfl
theorem OwnN.holds {w : World} {B g n cap : Nat} {ss : List Strg} (h : OwnN w B (.slice (some ⟨g, 0, none⟩) n cap) ss) (hn : ss.length = n) : Holds encStr w g 0 ss.toArray := by
  subst hn
  intro j hj
  have hj' : j < ss.length := by simpa using hj
  refine ⟨?_, by rw [Nat.zero_add]; exact World.ownsRow.frozenAt h j⟩
  rw [Nat.zero_add, World.ownsRow.cellAt h j (by omega), List.getElem?_map, getElem!_pos ss.toArray j hj, List.getElem?_eq_getElem hj']
  simp
theorem OwnN.old {w w' : World} {B : Nat} {v : Value} {ss : List Strg} (h : OwnN w B v ss) (hb : Below w.heap.size w w') : OwnN w' B v ss := by
  have hl := h.lt
  refine ⟨h.1, ?_⟩
  rcases h.2 with hn | ⟨g, cap, cur, rfl, hB, hg, rest⟩
  · exact .inl hn
  · exact .inr ⟨g, cap, cur, rfl, hB, by rw [hb.block g (hl g rfl).2]; exact hg, rest⟩
theorem OwnN.drewN {w : World} {B : Nat} {v : Value} {ss : List Strg} (h : OwnN w B v ss) (n : Nat) : OwnN (w.drewN n) B v ss := h
theorem below_drewN {B : Nat} {a w : World} (h : Below B a w) (n : Nat) : Below B a (w.drewN n) := ⟨h.os, h.tape, h.output, h.size, h.block⟩
theorem OwnN.mono {w : World} {B B' : Nat} {v : Value} {ss : List Strg} (h : OwnN w B v ss) (hB : B' ≤ B) : OwnN w B' v ss := by
  refine ⟨h.1, ?_⟩
  rcases h.2 with hn | ⟨g, cap, cur, hv, hg, rest⟩
  · exact .inl hn
  · exact .inr ⟨g, cap, cur, hv, by omega, rest⟩
theorem OwnN.below {w0 w1 : World} {B : Nat} {v : Value} {ss : List Strg} {o : Obj} (h : OwnN w0 B v ss) (hb : B ≤ w0.heap.size) (hg : (w0.alloc o).grownBy w1 v.ownBlock) : Below B w0 w1 :=
  ((Below.refl B w0).alloc hb o).grown hg (by simp; omega) (fun j hj => (h.lt j hj).1)
theorem OwnN.lit (w : World) (B : Nat) (hB : B ≤ w.heap.size) (ss : List Strg) (cells : Array Value) (n : Nat) (hn : ss.length = n) (hc : cells.toList = ss.map encStr) (hl : ss.length ≤ maxLen) :
    OwnN (w.alloc (.cells cells 9)) B (.slice (some ⟨w.heap.size, 0, none⟩) n n) ss := by
  subst hn
  have hsz : cells.size = ss.length := by rw [← Array.length_toList, hc, List.length_map]
  exact ⟨by simp, .inr ⟨w.heap.size, ss.length, cells, rfl, hB, heap_alloc_new w _, Nat.le_refl _, hl, by omega, by rw [hc]; rw [List.take_of_length_le]; simp⟩⟩
theorem wp_app_n {ops : Array Oper} {rest : List Oper} {o : Oper} {a : Act} {Q : Exit → Act → World → Prop} {w0 : World} (hgd : o.guard = none) (s x : Operand)
    (ho : o.op = .call { callee := .builtin .append, args := #[s, x], argTypes := #[25, 25] }) (B : Nat) (v : Value) (l : List Strg) (hs : a.eval s = v) (hown : OwnN w0 B v l)
    (l' : List Strg) (m c : Nat) (hm : l'.length = m) (cells : Array Value) (hc : cells.toList = l'.map encStr) (H : Nat) (hH : w0.heap.size = H) (hx : a.eval x = .slice (some ⟨H, 0, none⟩) m c)
    (hbytes : l.length + m ≤ 1000000000) (hbase : B ≤ w0.heap.size)
    (h : ∀ v' w', OwnN w' B v' (l ++ l') → Below B w0 w' → wpList Tryz.prog ops Q rest (a.put o.dst v') w') :
    wpList Tryz.prog ops Q (o :: rest) a (w0.alloc (.cells cells 9)) := by
  obtain ⟨i0, hi, hz0, hz1, hz2⟩ := info_parts Tryz.infoStr
  subst hm
  subst hH
  refine wpList_append_own _ hgd s x 25 ho B 9 i0 (.string ⟨#[]⟩) 1 16 Tryz.underlying25 hi hz0 hz1 hz2 rfl (by decide) v l.length (l.map encStr) hs (World.ownsRow.alloc hown _)
    ⟨w0.heap.size, 0, none⟩ l'.length c (l'.map encStr) hx (by simp) ?_ (map_one l') (by unfold maxLen; omega) (by omega) (by simp; omega) ?_
  · rw [← hc]; exact World.news_of_block (heap_alloc_new w0 _)
  · intro v' w' h1 h2 _
    exact h v' w' (by unfold OwnN; rw [List.length_append, List.map_append]; exact h1) (hown.below hbase h2)
theorem run_app_none {w : World} {B : Nat} {v : Value} {l : List Strg} (h : OwnN w B v l) (c : Nat) (ty : TypeId) : (Builtin.append_ #[25, 25] ty #[v, .slice none 0 c]).run Tryz.prog w = .ok v w := by
  obtain ⟨i, hi, hz0, hz1, hz2⟩ := info_parts Tryz.infoStr
  rcases h.2 with ⟨rfl, _⟩ | ⟨g, cap, cur, rfl, _, _, hnc, _⟩
  · simp [Builtin.append_, run_underlying Tryz.underlying25, sizeOf, typeInfo, hi, Builtin.lenOf, Builtin.firstCells]
  · simp [Builtin.append_, run_underlying Tryz.underlying25, sizeOf, typeInfo, hi, Builtin.lenOf, Builtin.firstCells, hnc, storeCells]
theorem addr_add (b off q : Nat) : (⟨b, off, none⟩ : Addr).add q = ⟨b, off + q, none⟩ := by
  unfold Addr.add; rcases Nat.eq_zero_or_pos q with h | h
  · subst h; simp
  · simp [Nat.ne_of_gt h]
theorem run_app_src {w : World} {B B' : Nat} {v : Value} {l : List Strg} (h : OwnN w B v l) (hB : B ≤ w.heap.size) (A : Option Addr) (m c : Nat) (ss : List Strg) (hR : NmS w B' A m ss) (hbytes : l.length + m ≤ 1000000000) (ty : TypeId) :
    ∃ v' w', (Builtin.append_ #[25, 25] ty #[v, .slice A m c]).run Tryz.prog w = .ok v' w' ∧ OwnN w' B v' (l ++ ss) ∧ w.grownBy w' v.ownBlock := by
  obtain ⟨i0, hi, hz0, hz1, hz2⟩ := info_parts Tryz.infoStr
  rcases Nat.eq_zero_or_pos m with h0 | h0
  · have hr : ss = [] := List.eq_nil_of_length_eq_zero (hR.1.symm.trans h0)
    subst hr
    subst h0
    rcases A with _ | a
    · exact ⟨v, w, run_app_none h c ty, by rw [List.append_nil]; exact h, ⟨rfl, rfl, rfl, Nat.le_refl _, fun _ _ _ => rfl⟩⟩
    · obtain ⟨v', w', h1, h2, h3, _⟩ := run_append_own w B 25 ty 9 i0 (.string ⟨#[]⟩) 1 16 Tryz.underlying25 hi hz0 hz1 hz2 rfl (by decide) v l.length (l.map encStr) h a 0 c [] rfl (by intro j u hj; simp at hj) (by intro u hu; cases hu) (by unfold maxLen; omega) (by omega) hB
      exact ⟨v', w', h1, by unfold OwnN; rw [List.append_nil]; simpa using h2, h3⟩
  · obtain ⟨b, off, rfl, hb, hc⟩ := hR.2.2 h0
    have hm := hR.1
    obtain ⟨v', w', h1, h2, h3, _⟩ := run_append_own w B 25 ty 9 i0 (.string ⟨#[]⟩) 1 16 Tryz.underlying25 hi hz0 hz1 hz2 rfl (by decide) v l.length (l.map encStr) h ⟨b, off, none⟩ m c (ss.map encStr) (by rw [List.length_map, hm]; omega) (by
      intro j u hj
      rw [addr_add]
      rw [List.getElem?_map] at hj
      obtain ⟨s, hs, rfl⟩ := Option.map_eq_some_iff.1 hj
      exact hc j s hs) (map_one ss) (by unfold maxLen; omega) (by omega) hB
    exact ⟨v', w', h1, by unfold OwnN; rw [List.length_append, List.map_append, ← hm]; exact h2, h3⟩
theorem wp_app_src {ops : Array Oper} {rest : List Oper} {o : Oper} {a : Act} {Q : Exit → Act → World → Prop} {w : World} (hgd : o.guard = none) (s x : Operand)
    (ho : o.op = .call { callee := .builtin .append, args := #[s, x], argTypes := #[25, 25] }) (B B' : Nat) (v : Value) (l : List Strg) (hs : a.eval s = v) (hown : OwnN w B v l)
    (A : Option Addr) (m c : Nat) (ss : List Strg) (hx : a.eval x = .slice A m c) (hR : NmS w B' A m ss) (hbytes : l.length + m ≤ 1000000000) (hbase : B ≤ w.heap.size)
    (h : ∀ v' w', OwnN w' B v' (l ++ ss) → Below B w w' → wpList Tryz.prog ops Q rest (a.put o.dst v') w') :
    wpList Tryz.prog ops Q (o :: rest) a w := by
  obtain ⟨v', w', h1, h2, h3⟩ := run_app_src hown hbase A m c ss hR hbytes o.type
  exact Lib.wpList_append_run w hgd s x 25 25 ho v (.slice A m c) hs hx v' w' h1 (h v' w' h2 ((Below.refl B w).grown h3 hbase (fun j hj => (hown.lt j hj).1)))
/-- a store into a block below leaves a slice of the call's own as it was -/
theorem OwnN.setLow {w : World} {B : Nat} {v : Value} {ss : List Strg} (h : OwnN w B v ss) {r off : Nat} (hr : r < B) (x : Value) : OwnN (w.setCell ⟨r, off, none⟩ x) B v ss := by
  refine ⟨h.1, ?_⟩
  rcases h.2 with hn | ⟨g, cap, cur, rfl, hB, hg, rest⟩
  · exact .inl hn
  · exact .inr ⟨g, cap, cur, rfl, hB, by rw [Below.heap_setCell _ _ _ _ (by show g ≠ r; omega)]; exact hg, rest⟩
/-- a call hands back the valid set of names with the members p, finite or cofinite as said, with at most k strings, in memory of its own -/
def RetN (co : Bool) (p : Strg → Bool) (k : Nat) (w : World) (e : Ending) (w' : World) : Prop :=
  ∃ m A c, e = .returned (.agg #[.bool co, .slice A m.length c]) ∧ OwnN w' w.heap.size (.slice A m.length c) m ∧ Short m ∧ IsSet co m p ∧ m.length ≤ k ∧ Below w.heap.size w w'
theorem RetN.congr {co co' : Bool} {p p' : Strg → Bool} {k k' : Nat} {w w' : World} {e : Ending} (h : RetN co p k w e w') (hc : co = co') (hp : ∀ x, p x = p' x) (hk : k ≤ k') : RetN co' p' k' w e w' := by
  subst hc
  obtain ⟨m, A, c, h1, h2, h6, h3, h4, h5⟩ := h
  exact ⟨m, A, c, h1, h2, h6, h3.congr rfl hp, by omega, h5⟩
/-- the last step of a function that keeps its result in a block of its own -/
theorem RetN.stored {co : Bool} {p : Strg → Bool} {k r : Nat} {w w2 : World} {m : List Strg} {A : Option Addr} {c n : Nat} (hn : n = m.length) (ho : OwnN w2 (r + 1) (.slice A n c) m) (hr : w.heap.size ≤ r) (hs : Short m) (hp : IsSet co m p) (hk : m.length ≤ k) (hb : Below w.heap.size w w2) (x y : Value) :
    RetN co p k w (.returned (.agg #[.bool co, .slice A n c])) ((w2.setCell ⟨r, 0, none⟩ x).setCell ⟨r, 1, none⟩ y) := by
  subst hn
  exact ⟨m, A, c, rfl, ((ho.setLow (by omega) x).setLow (by omega) y).mono (by omega), hs, hp, hk, (hb.setCell (p := ⟨r, 0, none⟩) hr x).setCell (p := ⟨r, 1, none⟩) hr y⟩
/-- the two cells of a set of names that lies in a block -/
theorem names_cells {w : World} {r : Nat} {a b : Value} {t : TypeId} {fz : Nat × Nat} (h : w.heap[r]? = some (.cells #[a, b] t fz)) : w.cell? ⟨r, 0, none⟩ = some a ∧ w.cell? ⟨r, 1, none⟩ = some b := by
  have e0 : w.cell? ⟨r, 0, none⟩ = (#[a, b] : Array Value)[0]? := by simp [World.cell?, h]
  have e1 : w.cell? ⟨r, 1, none⟩ = (#[a, b] : Array Value)[1]? := by simp [World.cell?, h]
  exact ⟨e0, e1⟩
end Go.Proofs.YtjfknigiehggkaaGreat
namespace Go.Proofs.YtjfknigiehggkaaGreat
open Go.RowKit
set_option maxHeartbeats 400000 in
theorem isLower_any (c : Int) (w : World) :
    Calls Tryz.prog 117 #[.int .u8 c] w fun e w' => e = .returned (.bool (lowB c)) ∧ w = w' := by
  go_enter Tryz.func117, Tryz.ntmps117
  go_wp2
  all_goals go_ret
  all_goals exact ⟨ret_bool (by unfold lowB; simp; omega), rfl⟩
set_option maxHeartbeats 400000 in
theorem isUpper_any (c : Int) (w : World) :
    Calls Tryz.prog 137 #[.int .u8 c] w fun e w' => e = .returned (.bool (upB c)) ∧ w = w' := by
  go_enter Tryz.func137, Tryz.ntmps137
  go_wp2
  all_goals go_ret
  all_goals exact ⟨ret_bool (by unfold upB; simp; omega), rfl⟩
set_option maxHeartbeats 400000 in
theorem isDigit_any (c : Int) (w : World) :
    Calls Tryz.prog 118 #[.int .u8 c] w fun e w' => e = .returned (.bool (digB c)) ∧ w = w' := by
  go_enter Tryz.func118, Tryz.ntmps118
  go_wp2
  all_goals go_ret
  all_goals exact ⟨ret_bool (by unfold digB; simp; omega), rfl⟩
set_option maxHeartbeats 800000 in
theorem isAtom_any (s : ByteArray) (w : World) (hs : s.size ≤ maxLen) :
    Calls Tryz.prog 92 #[.string s] w fun e w' => e = .returned (.bool (atomB s.data.toList)) ∧ w = w' := by
  unfold maxLen at hs
  unfold atomB
  by_cases h1 : s.size < 1
  · go_enter Tryz.func92, Tryz.ntmps92
    go_wp2
    go_ret
    exact ⟨ret_bool (nameB_false _ _ _ (by omega)).symm, rfl⟩
  · by_cases h2 : 16 < s.size
    · go_enter Tryz.func92, Tryz.ntmps92
      go_wp2
      go_ret
      exact ⟨ret_bool (nameB_false _ _ _ (by omega)).symm, rfl⟩
    · have h3 : 0 < s.size := by omega
      cases h4 : lowB (s[0]'h3).toNat
      · go_enter Tryz.func92, Tryz.ntmps92
        go_wp2_with (go_at_call 117; refine (isLower_any _ _).mono ?_; rintro e w' ⟨rfl, rfl⟩)
        go_ret
        exact ⟨ret_bool (nameB_false _ _ _ (.inr (.inr (.inl ⟨h3, h4⟩)))).symm, rfl⟩
      · go_enter Tryz.func92, Tryz.ntmps92
        go_wp2_with (go_at_call 117; refine (isLower_any _ _).mono ?_; rintro e w' ⟨rfl, rfl⟩)
        go_loop [3] (fun i => ∃ k : Nat, 1 ≤ k ∧ k ≤ s.size ∧ i = .int .i64 k ∧ ∀ j (h : j < s.size), 1 ≤ j → j < k → atomT (s[j]'h).toNat = true) (fun i => s.size - (intOf i).toNat)
        case atStart => exact ⟨1, by omega, by omega, rfl, fun j h a b => by omega⟩
        case round =>
          obtain ⟨k, hk1, hk, rfl, hall⟩ := hrel
          have HA := Lib.hid hall
          clear hall
          go_wp2_with (first | (go_at_call 117; refine (isLower_any _ _).mono ?_; rintro e w' ⟨rfl, rfl⟩) | (go_at_call 118; refine (isDigit_any _ _).mono ?_; rintro e w' ⟨rfl, rfl⟩))
          · go_round
            case rel => exact ⟨k + 1, by omega, by omega, by go_num, nameStep HA ‹_› (by simp_all [atomT])⟩
            case measure => simp [intOf]; omega
          · go_round
            case rel => exact ⟨k + 1, by omega, by omega, by go_num, nameStep HA ‹_› (by simp_all [atomT])⟩
            case measure => simp [intOf]; omega
          · go_ret
            exact ⟨ret_bool (nameB_false _ _ _ (.inr (.inr (.inr ⟨k, ‹_›, hk1, by simp_all [atomT]⟩)))).symm, rfl⟩
          · go_round
            case rel => exact ⟨k + 1, by omega, by omega, by go_num, nameStep HA ‹_› (by simp_all [atomT])⟩
            case measure => simp [intOf]; omega
          · go_ret
            exact ⟨ret_bool (nameB_true _ _ _ h3 (by omega) h4 (fun j h a => HA.out j h a (by omega))).symm, rfl⟩
set_option maxHeartbeats 800000 in
theorem isVariable_any (s : ByteArray) (w : World) (hs : s.size ≤ maxLen) :
    Calls Tryz.prog 114 #[.string s] w fun e w' => e = .returned (.bool (varB s.data.toList)) ∧ w = w' := by
  unfold maxLen at hs
  unfold varB
  by_cases h1 : s.size < 1
  · go_enter Tryz.func114, Tryz.ntmps114
    go_wp2
    go_ret
    exact ⟨ret_bool (nameB_false _ _ _ (by omega)).symm, rfl⟩
  · by_cases h2 : 16 < s.size
    · go_enter Tryz.func114, Tryz.ntmps114
      go_wp2
      go_ret
      exact ⟨ret_bool (nameB_false _ _ _ (by omega)).symm, rfl⟩
    · have h3 : 0 < s.size := by omega
      cases h4 : upB (s[0]'h3).toNat
      · go_enter Tryz.func114, Tryz.ntmps114
        go_wp2_with (go_at_call 137; refine (isUpper_any _ _).mono ?_; rintro e w' ⟨rfl, rfl⟩)
        go_ret
        exact ⟨ret_bool (nameB_false _ _ _ (.inr (.inr (.inl ⟨h3, h4⟩)))).symm, rfl⟩
      · go_enter Tryz.func114, Tryz.ntmps114
        go_wp2_with (go_at_call 137; refine (isUpper_any _ _).mono ?_; rintro e w' ⟨rfl, rfl⟩)
        go_loop [3] (fun i => ∃ k : Nat, 1 ≤ k ∧ k ≤ s.size ∧ i = .int .i64 k ∧ ∀ j (h : j < s.size), 1 ≤ j → j < k → varT (s[j]'h).toNat = true) (fun i => s.size - (intOf i).toNat)
        case atStart => exact ⟨1, by omega, by omega, rfl, fun j h a b => by omega⟩
        case round =>
          obtain ⟨k, hk1, hk, rfl, hall⟩ := hrel
          have HA := Lib.hid hall
          clear hall
          go_wp2_with (first | (go_at_call 117; refine (isLower_any _ _).mono ?_; rintro e w' ⟨rfl, rfl⟩) | (go_at_call 137; refine (isUpper_any _ _).mono ?_; rintro e w' ⟨rfl, rfl⟩) | (go_at_call 118; refine (isDigit_any _ _).mono ?_; rintro e w' ⟨rfl, rfl⟩))
          · go_round
            case rel => exact ⟨k + 1, by omega, by omega, by go_num, nameStep HA ‹_› (by simp_all [varT])⟩
            case measure => simp [intOf]; omega
          · go_round
            case rel => exact ⟨k + 1, by omega, by omega, by go_num, nameStep HA ‹_› (by simp_all [varT])⟩
            case measure => simp [intOf]; omega
          · go_round
            case rel => exact ⟨k + 1, by omega, by omega, by go_num, nameStep HA ‹_› (by simp_all [varT])⟩
            case measure => simp [intOf]; omega
          · go_ret
            exact ⟨ret_bool (nameB_false _ _ _ (.inr (.inr (.inr ⟨k, ‹_›, hk1, by simp_all [varT]⟩)))).symm, rfl⟩
          · go_round
            case rel => exact ⟨k + 1, by omega, by omega, by go_num, nameStep HA ‹_› (by simp_all [varT])⟩
            case measure => simp [intOf]; omega
          · go_ret
            exact ⟨ret_bool (nameB_true _ _ _ h3 (by omega) h4 (fun j h a => HA.out j h a (by omega))).symm, rfl⟩
set_option maxHeartbeats 400000 in
theorem validKey_any (k : Int) (s : ByteArray) (w : World) (hs : s.size ≤ maxLen) :
    Calls Tryz.prog 55 #[.agg #[.int .i64 k, .string s]] w fun e w' => e = .returned (.bool (keyB k s.data.toList)) ∧ Below w.heap.size w w' := by
  have hs' := hs
  unfold maxLen at hs'
  have hlen : s.data.toList.length = s.size := by simp
  by_cases h0 : k = 0
  · subst h0
    go_enter Tryz.func55, Tryz.ntmps55
    go_wp2_with (go_at_call 92; refine (isAtom_any _ _ hs).mono ?_; rintro e w' ⟨rfl, rfl⟩)
    go_ret
    exact ⟨ret_bool (by simp [keyB] <;> omega), (Below.refl _ _).alloc (Nat.le_refl _) _⟩
  · by_cases h1 : k = 1
    · subst h1
      go_enter Tryz.func55, Tryz.ntmps55
      go_wp2
      go_ret
      exact ⟨ret_bool (by simp [keyB] <;> omega), (Below.refl _ _).alloc (Nat.le_refl _) _⟩
    · go_enter Tryz.func55, Tryz.ntmps55
      go_wp2
      go_ret
      exact ⟨ret_bool (by simp [keyB, h0, h1]), (Below.refl _ _).alloc (Nat.le_refl _) _⟩
end Go.Proofs.YtjfknigiehggkaaGreat
namespace Go.Proofs.YtjfknigiehggkaaGreat
open Go Go.RowKit
theorem nodesVs_app : ∀ l m : List Vl, nodesVs (l ++ m) = nodesVs l + nodesVs m
  | [], m => by simp [nodesVs]
  | a :: s, m => by simp only [List.cons_append, nodesVs, nodesVs_app s m]; omega
theorem nodesEs_app : ∀ l m : List En, nodesEs (l ++ m) = nodesEs l + nodesEs m
  | [], m => by simp [nodesEs]
  | a :: s, m => by simp only [List.cons_append, nodesEs, nodesEs_app s m]; omega
theorem nodesVs_step {l : List Vl} {j : Nat} {x : Vl} (h : l[j]? = some x) : nodesVs (l.take (j + 1)) = nodesVs (l.take j) + nodes x ∧ nodesVs (l.take j) + nodes x ≤ nodesVs l := by
  have h1 : l.take (j + 1) = l.take j ++ [x] := by rw [List.take_add_one, h]; rfl
  have h2 := nodesVs_app (l.take (j + 1)) (l.drop (j + 1))
  rw [List.take_append_drop, h1, nodesVs_snoc] at h2
  exact ⟨by rw [h1, nodesVs_snoc], by omega⟩
theorem nodesEs_step {l : List En} {j : Nat} {x : En} (h : l[j]? = some x) : nodesEs (l.take (j + 1)) = nodesEs (l.take j) + nodesE x ∧ nodesEs (l.take j) + nodesE x ≤ nodesEs l := by
  have h1 : l.take (j + 1) = l.take j ++ [x] := by rw [List.take_add_one, h]; rfl
  have h2 := nodesEs_app (l.take (j + 1)) (l.drop (j + 1))
  rw [List.take_append_drop, h1, nodesEs_snoc] at h2
  exact ⟨by rw [h1, nodesEs_snoc], by omega⟩
theorem wrap_add {a b c : Int} (h : a + b = c) : wrap64 (wrap64 a + wrap64 b) = wrap64 c := by subst h; unfold wrap64; omega
theorem intI {n : Nat} {m : Int} (h : (n : Int) = m) : Value.int .i64 n = .int .i64 m := by rw [h]
set_option maxRecDepth 100000 in
set_option maxHeartbeats 3200000 in
theorem nodes_any : ∀ (k : Nat) (v : Vl) (cs : List Value) (w : World), VS k w w.heap.size v cs →
    Calls Tryz.prog 37 #[.agg cs.toArray] w fun e w' => e = .returned (.int .i64 (wrap64 (nodes v))) ∧ Below w.heap.size w w' := by
  intro k
  induction k with
  | zero => intro v cs w h; exact h.elim
  | succ k ih =>
    intro v cs w h
    obtain ⟨kind, int, text, kids, keys, ents, labels⟩ := v
    obtain ⟨uk, uy, ue, ul, rfl, _, _, _, hk, hyy, he, hll⟩ := h
    obtain ⟨A, cap, rfl, hkl⟩ := hk.form
    obtain ⟨A', cap', rfl, hel⟩ := he.form
    unfold maxLen at hkl hel
    have HKI := Lib.hid hk
    have HEN := Lib.hid he
    clear hk he hyy hll
    have IH := Lib.hid ih
    clear ih
    unfold nodes
    go_enter Tryz.func37, Tryz.ntmps37
    go_wp2_with fail
    obtain ⟨W, hW⟩ : ∃ W, W = w.alloc (.cells #[.int .i64 kind, .int .i64 int, .string ⟨text.toArray⟩, .slice A kids.length cap, uy, .slice A' ents.length cap', ul] 27) := ⟨_, rfl⟩
    have hbl : Below w.heap.size w W := by rw [hW]; exact (Below.refl _ _).alloc (Nat.le_refl _) _
    have d3 : W.cell? ⟨w.heap.size, 3, none⟩ = some (.slice A kids.length cap) := by rw [hW]; simp
    have d5 : W.cell? ⟨w.heap.size, 5, none⟩ = some (.slice A' ents.length cap') := by rw [hW]; simp
    have hlt : w.heap.size < W.heap.size := by rw [hW]; simp
    rw [← hW]
    clear hW
    have HB := Lib.hid hbl
    clear hbl
    go_loopw [3, 4] (fun n i wr => ∃ j : Nat, i = .int .i64 j ∧ j ≤ kids.length ∧ n = .int .i64 (wrap64 ((1 + nodesVs (kids.take j) : Nat) : Int)) ∧ Below W.heap.size W wr) (fun _ i _ => kids.length - (intOf i).toNat)
    case atStart => exact ⟨0, rfl, by omega, by simp [nodesVs, wrap64], Below.refl _ _⟩
    case round =>
      obtain ⟨j, rfl, hj, rfl, hb⟩ := hrel
      have e3 : wr.cell? ⟨w.heap.size, 3, none⟩ = some (.slice A kids.length cap) := (hb.cell (p := ⟨w.heap.size, 3, none⟩) hlt).trans d3
      have e5 : wr.cell? ⟨w.heap.size, 5, none⟩ = some (.slice A' ents.length cap') := (hb.cell (p := ⟨w.heap.size, 5, none⟩) hlt).trans d5
      by_cases hjn : j < kids.length
      · have hbw : Below w.heap.size w wr := HB.out.trans (hb.mono HB.out.size)
        obtain ⟨b, off, cap0, x0, x1, x2, x3, x4, x5, x6, hu, hbH, ⟨x, hx, hv⟩, c0, c1, c2, c3, c4, c5, c6⟩ := (HKI.out.on hbw (fun _ _ h => h)).at7 hjn
        injection hu with hA _ hcap
        subst hA hcap
        have hst := (nodesVs_step hx).1
        have hc := IH.out x _ wr (VS.up hbw.size (Nat.le_refl _) (VS.on hbw hv))
        have kn : (j : Int) < (kids.length : Int) := by omega
        have k0 : (0 : Int) ≤ (j : Int) := by omega
        have HX : Hid (wrap64 (wrap64 ((1 + nodesVs (kids.take j) : Nat) : Int) + wrap64 (nodes x : Int)) = wrap64 ((1 + nodesVs (kids.take (j + 1)) : Nat) : Int)) := Lib.hid (wrap_add (by rw [hst]; omega))
        have HV := Lib.hid hb
        clear hx hv hst hb hbw
        generalize wrap64 (nodes x : Int) = nx at hc HX
        generalize wrap64 ((1 + nodesVs (kids.take j) : Nat) : Int) = q at HX ⊢
        go_wp2_with (go_at_call 37; refine hc.mono ?_; rintro e w1 ⟨rfl, hb1⟩; refine Hid.out ?_)
        refine Lib.hid ?_
        clear hc
        go_wp2
        go_roundw
        case rel => exact ⟨j + 1, by go_num, by omega, by rw [← HX.out], HV.out.trans (hb1.mono HV.out.size)⟩
        case measure => simp [intOf]; omega
      · have hke : kids.take j = kids := List.take_of_length_le (by omega)
        rw [hke]
        go_wp2_with fail
        rename World => V
        have HBW := Lib.hid (HB.out.trans (hb.mono HB.out.size))
        have hlt1 : w.heap.size < V.heap.size := Nat.lt_of_lt_of_le hlt hb.size
        clear d3 d5 e3 hke hb hj hjn hlt
        go_loopw [3, 5] (fun n i w2 => ∃ j : Nat, i = .int .i64 j ∧ j ≤ ents.length ∧ n = .int .i64 (wrap64 ((1 + nodesVs kids + nodesEs (ents.take j) : Nat) : Int)) ∧ Below V.heap.size V w2) (fun _ i _ => ents.length - (intOf i).toNat)
        case atStart => exact ⟨0, rfl, by omega, by simp [nodesEs], Below.refl _ _⟩
        case round =>
          obtain ⟨j, rfl, hj, rfl, hb⟩ := hrel
          have f5 : wr.cell? ⟨w.heap.size, 5, none⟩ = some (.slice A' ents.length cap') := (hb.cell (p := ⟨w.heap.size, 5, none⟩) hlt1).trans e5
          by_cases hjn : j < ents.length
          · have hbw : Below w.heap.size w wr := HBW.out.trans (hb.mono HBW.out.size)
            obtain ⟨b, off, cap0, ya, yb, x0, x1, x2, x3, x4, x5, x6, hu, hbH, ⟨args, fails, result, hx, ua, rs, hcs, ha, hr⟩, c0, c1, c2, c3, c4, c5, c6, c7, c8⟩ := (HEN.out.on hbw (fun _ _ h => h)).at9 hjn
            injection hu with hA _ hcap
            subst hA hcap
            simp only [List.cons.injEq] at hcs
            obtain ⟨rfl, rfl, rfl⟩ := hcs
            obtain ⟨A2, cap2, rfl, hal⟩ := ha.form
            unfold maxLen at hal
            obtain ⟨a, i, st, A3, n3, c3', A4, n4, c4', A5, n5, c5', A6, n6, c6', he7⟩ := hr.form7
            simp only [List.cons.injEq, and_true] at he7
            obtain ⟨rfl, rfl, rfl, rfl, rfl, rfl, rfl⟩ := he7
            have hst := nodesEs_step hx
            have kn : (j : Int) < (ents.length : Int) := by omega
            have k0 : (0 : Int) ≤ (j : Int) := by omega
            have HX := Lib.hid hst
            have HV := Lib.hid hb
            have HAR := Lib.hid ha
            have HRS := Lib.hid hr
            have HBW2 := Lib.hid hbw
            have HJN := Lib.hid hjn
            clear hx hst ha hr hbw hb hj hjn
            go_wp2_with fail
            rename World => U
            obtain ⟨W2, hW2⟩ : ∃ W2, W2 = U.alloc (.cells #[.slice A2 args.length cap2, .bool fails, .int .i64 a, .int .i64 i, .string st, .slice A3 n3 c3', .slice A4 n4 c4', .slice A5 n5 c5', .slice A6 n6 c6'] 55) := ⟨_, rfl⟩
            have hb2 : Below U.heap.size U W2 := by rw [hW2]; exact (Below.refl _ _).alloc (Nat.le_refl _) _
            have q0 : W2.cell? ⟨U.heap.size, 0, none⟩ = some (.slice A2 args.length cap2) := by rw [hW2]; simp
            have q1 : W2.cell? ⟨U.heap.size, 1, none⟩ = some (.bool fails) := by rw [hW2]; simp
            have HQ : Hid (W2.cell? ⟨U.heap.size, 2, none⟩ = some (.int .i64 a) ∧ W2.cell? ⟨U.heap.size, 3, none⟩ = some (.int .i64 i) ∧ W2.cell? ⟨U.heap.size, 4, none⟩ = some (.string st) ∧ W2.cell? ⟨U.heap.size, 5, none⟩ = some (.slice A3 n3 c3') ∧ W2.cell? ⟨U.heap.size, 6, none⟩ = some (.slice A4 n4 c4') ∧ W2.cell? ⟨U.heap.size, 7, none⟩ = some (.slice A5 n5 c5') ∧ W2.cell? ⟨U.heap.size, 8, none⟩ = some (.slice A6 n6 c6')) := Lib.hid (by rw [hW2]; simp)
            have hlt2 : U.heap.size < W2.heap.size := by rw [hW2]; simp
            rw [← hW2]
            clear hW2
            have HB2 := Lib.hid hb2
            have HBU := Lib.hid (HBW2.out.trans (hb2.mono HBW2.out.size))
            have HVU := Lib.hid (HV.out.trans (hb2.mono HV.out.size))
            clear hb2 c0 c1 c2 c3 c4 c5 c6 c7 c8 f5
            rename ((j : Int) < (ents.length : Int)) => kj
            rename ((0 : Int) ≤ (j : Int)) => kj0
            generalize nodesEs (ents.take j) = NE at HX ⊢
            go_loopw [3, 7] (fun n i w3 => ∃ q : Nat, i = .int .i64 q ∧ q ≤ args.length ∧ n = .int .i64 (wrap64 ((1 + nodesVs kids + NE + nodesVs (args.take q) : Nat) : Int)) ∧ Below W2.heap.size W2 w3) (fun _ i _ => args.length - (intOf i).toNat)
            case atStart => exact ⟨0, rfl, by omega, by simp [nodesVs], Below.refl _ _⟩
            case round =>
              obtain ⟨q, rfl, hq, rfl, hb⟩ := hrel
              have r0 : wr.cell? ⟨U.heap.size, 0, none⟩ = some (.slice A2 args.length cap2) := (hb.cell (p := ⟨U.heap.size, 0, none⟩) hlt2).trans q0
              by_cases hqn : q < args.length
              · have hbw : Below w.heap.size w wr := HBU.out.trans (hb.mono HBU.out.size)
                have hbu : Below U.heap.size U wr := HB2.out.trans (hb.mono HB2.out.size)
                obtain ⟨b2, off2, cap3, x0, x1, x2, x3, x4, x5, x6, hu, hbH, ⟨x, hx, hv⟩, c0, c1, c2, c3, c4, c5, c6⟩ := (HAR.out.on hbw (fun _ _ h => h)).at7 hqn
                injection hu with hA _ hcap
                subst hA hcap
                have hst := (nodesVs_step hx).1
                have hc := IH.out x _ wr (VS.up hbw.size (Nat.le_refl _) (VS.on hbw hv))
                have kn : (q : Int) < (args.length : Int) := by omega
                have k0 : (0 : Int) ≤ (q : Int) := by omega
                have HY : Hid (wrap64 (wrap64 ((1 + nodesVs kids + NE + nodesVs (args.take q) : Nat) : Int) + wrap64 (nodes x : Int)) = wrap64 ((1 + nodesVs kids + NE + nodesVs (args.take (q + 1)) : Nat) : Int)) := Lib.hid (wrap_add (by rw [hst]; omega))
                have HV := Lib.hid hb
                clear hx hv hst hb hbw hbu
                generalize wrap64 (nodes x : Int) = nx at hc HY
                generalize wrap64 ((1 + nodesVs kids + NE + nodesVs (args.take q) : Nat) : Int) = p at HY ⊢
                go_wp2_with (go_at_call 37; refine hc.mono ?_; rintro e w1 ⟨rfl, hb1⟩; refine Hid.out ?_)
                refine Lib.hid ?_
                clear hc
                go_wp2
                go_roundw
                case rel => exact ⟨q + 1, by go_num, by omega, by rw [← HY.out], HV.out.trans (hb1.mono HV.out.size)⟩
                case measure => simp [intOf]; omega
              · have hke : args.take q = args := List.take_of_length_le (by omega)
                have hbu : Below U.heap.size U wr := HB2.out.trans (hb.mono HB2.out.size)
                have r1 : wr.cell? ⟨U.heap.size, 1, none⟩ = some (.bool fails) := (hb.cell (p := ⟨U.heap.size, 1, none⟩) hlt2).trans q1
                have HVW := Lib.hid (HVU.out.trans (hb.mono HVU.out.size))
                rw [hke]
                cases fails
                · obtain ⟨s2, s3, s4, s5, s6, s7, s8⟩ := HQ.out
                  have r2 := (hb.cell (p := ⟨U.heap.size, 2, none⟩) hlt2).trans s2
                  have r3 := (hb.cell (p := ⟨U.heap.size, 3, none⟩) hlt2).trans s3
                  have r4 := (hb.cell (p := ⟨U.heap.size, 4, none⟩) hlt2).trans s4
                  have r5 := (hb.cell (p := ⟨U.heap.size, 5, none⟩) hlt2).trans s5
                  have r6 := (hb.cell (p := ⟨U.heap.size, 6, none⟩) hlt2).trans s6
                  have r7 := (hb.cell (p := ⟨U.heap.size, 7, none⟩) hlt2).trans s7
                  have r8 := (hb.cell (p := ⟨U.heap.size, 8, none⟩) hlt2).trans s8
                  have hbw : Below w.heap.size w wr := HBU.out.trans (hb.mono HBU.out.size)
                  have hc := IH.out result _ wr (VS.up hbw.size (Nat.le_refl _) (VS.on hbw HRS.out))
                  have HX2 : Hid (wrap64 (wrap64 ((1 + nodesVs kids + NE + nodesVs args : Nat) : Int) + wrap64 (nodes result : Int)) = wrap64 ((1 + nodesVs kids + nodesEs (ents.take (j + 1)) : Nat) : Int)) := Lib.hid (wrap_add (by rw [HX.out.1, nodesE]; simp; omega))
                  clear s2 s3 s4 s5 s6 s7 s8 q0 q1 hb hbu hbw hke HX
                  generalize wrap64 (nodes result : Int) = nr at hc HX2
                  generalize wrap64 ((1 + nodesVs kids + NE + nodesVs args : Nat) : Int) = na at HX2 ⊢
                  go_wp2_with (go_at_call 37; refine hc.mono ?_; rintro e w1 ⟨rfl, hb1⟩; refine Hid.out ?_)
                  refine Lib.hid ?_
                  clear hc
                  go_wp2
                  go_roundw
                  case rel => exact ⟨j + 1, by go_num, HJN.out, by rw [← HX2.out], HVW.out.trans (hb1.mono HVW.out.size)⟩
                  case measure => have := HJN.out; simp [intOf]; omega
                · have HX2 : Hid (1 + nodesVs kids + nodesEs (ents.take (j + 1)) = 1 + nodesVs kids + NE + nodesVs args) := Lib.hid (by rw [HX.out.1, nodesE]; simp; omega)
                  clear q0 q1 hb hbu hke HX
                  go_wp2
                  go_roundw
                  case rel => exact ⟨j + 1, by go_num, HJN.out, by rw [HX2.out], HVW.out⟩
                  case measure => have := HJN.out; simp [intOf]; omega
          · have hke : ents.take j = ents := List.take_of_length_le (by omega)
            rw [hke]
            go_wp2
            go_ret
            exact ⟨by simp, HBW.out.trans (hb.mono HBW.out.size)⟩
end Go.Proofs.YtjfknigiehggkaaGreat
namespace Go.Proofs.YtjfknigiehggkaaGreat
open Go Go.RowKit
theorem mx (a b : Int) : (if a < b then b else a) = max a b := by split <;> omega
theorem highVs_app : ∀ l m : List Vl, highVs (l ++ m) = max (highVs l) (highVs m)
  | [], m => by simp [highVs]
  | a :: s, m => by simp only [List.cons_append, highVs, highVs_app s m]; omega
theorem highEs_app : ∀ l m : List En, highEs (l ++ m) = max (highEs l) (highEs m)
  | [], m => by simp [highEs]
  | a :: s, m => by simp only [List.cons_append, highEs, highEs_app s m]; omega
theorem highVs_step {l : List Vl} {j : Nat} {x : Vl} (h : l[j]? = some x) : highVs (l.take (j + 1)) = max (highVs (l.take j)) (high x) ∧ highVs (l.take j) ≤ highVs l ∧ high x ≤ highVs l := by
  have h1 : l.take (j + 1) = l.take j ++ [x] := by rw [List.take_add_one, h]; rfl
  have h2 := highVs_app (l.take (j + 1)) (l.drop (j + 1))
  rw [List.take_append_drop, h1, highVs_snoc] at h2
  exact ⟨by rw [h1, highVs_snoc], by omega, by omega⟩
theorem highEs_step {l : List En} {j : Nat} {x : En} (h : l[j]? = some x) : highEs (l.take (j + 1)) = max (highEs (l.take j)) (highE x) ∧ highEs (l.take j) ≤ highEs l ∧ highE x ≤ highEs l := by
  have h1 : l.take (j + 1) = l.take j ++ [x] := by rw [List.take_add_one, h]; rfl
  have h2 := highEs_app (l.take (j + 1)) (l.drop (j + 1))
  rw [List.take_append_drop, h1, highEs_snoc] at h2
  exact ⟨by rw [h1, highEs_snoc], by omega, by omega⟩
set_option maxRecDepth 100000 in
set_option maxHeartbeats 3200000 in
theorem maxh_any (k : Nat) (hP : Hid (∀ (v : Vl) (cs : List Value) (w : World), VS k w w.heap.size v cs → high v ≤ 1048577 → Calls Tryz.prog 39 #[.agg cs.toArray] w fun e w' => e = .returned (.int .i64 ((high v : Int))) ∧ Below w.heap.size w w')) (A : Option Addr) (cap : Nat) (l : List Vl) (w : World) (hl : RowP w w.heap.size 7 (.slice A l.length cap) l.length (fun j cs => ∃ x, l[j]? = some x ∧ VS k w w.heap.size x cs)) (hm : highVs l ≤ 1048577) :
    Calls Tryz.prog 80 #[.slice A l.length cap] w fun e w' => e = .returned (.int .i64 (highVs l : Int)) ∧ Below w.heap.size w w' := by
  obtain ⟨A0, cap0, hA0, hll⟩ := hl.form
  clear hA0 A0 cap0
  unfold maxLen at hll
  have HL := Lib.hid hl
  clear hl
  go_enter Tryz.func80, Tryz.ntmps80
  go_wp2_with fail
  go_loopw [3, 8] (fun n i wr => ∃ j : Nat, i = .int .i64 j ∧ j ≤ l.length ∧ n = .int .i64 ((highVs (l.take j) : Nat) : Int) ∧ Below w.heap.size w wr) (fun _ i _ => l.length - (intOf i).toNat)
  case atStart => exact ⟨0, rfl, by omega, by simp [highVs], Below.refl _ _⟩
  case round =>
    obtain ⟨j, rfl, hj, rfl, hb⟩ := hrel
    by_cases hjn : j < l.length
    · obtain ⟨b, off, cap0, x0, x1, x2, x3, x4, x5, x6, hu, hbH, ⟨x, hx, hv⟩, c0, c1, c2, c3, c4, c5, c6⟩ := (HL.out.on hb (fun _ _ h => h)).at7 hjn
      injection hu with hA _ hcap
      subst hA hcap
      obtain ⟨a, i, st, A3, n3, c3', A4, n4, c4', A5, n5, c5', A6, n6, c6', he7⟩ := hv.form7
      simp only [List.cons.injEq, and_true] at he7
      obtain ⟨rfl, rfl, rfl, rfl, rfl, rfl, rfl⟩ := he7
      have hst := highVs_step hx
      have kn : (j : Int) < (l.length : Int) := by omega
      have k0 : (0 : Int) ≤ (j : Int) := by omega
      have HX : Hid (max (highVs (l.take j) : Int) (high x : Int) = ((highVs (l.take (j + 1)) : Nat) : Int)) := Lib.hid (by rw [hst.1]; omega)
      have HBX : Hid (high x ≤ 1048577) := Lib.hid (by omega)
      have HV := Lib.hid hb
      have HVX := Lib.hid (VS.up hb.size (Nat.le_refl _) (VS.on hb hv))
      clear hx hv hst hb
      go_wp2_with fail
      rename World => U
      obtain ⟨W2, hW2⟩ : ∃ W2, W2 = U.alloc (.cells #[.int .i64 a, .int .i64 i, .string st, .slice A3 n3 c3', .slice A4 n4 c4', .slice A5 n5 c5', .slice A6 n6 c6'] 27) := ⟨_, rfl⟩
      have hb2 : Below U.heap.size U W2 := by rw [hW2]; exact (Below.refl _ _).alloc (Nat.le_refl _) _
      have q0 : W2.cell? ⟨U.heap.size, 0, none⟩ = some (.int .i64 a) := by rw [hW2]; simp
      have q1 : W2.cell? ⟨U.heap.size, 1, none⟩ = some (.int .i64 i) := by rw [hW2]; simp
      have q2 : W2.cell? ⟨U.heap.size, 2, none⟩ = some (.string st) := by rw [hW2]; simp
      have q3 : W2.cell? ⟨U.heap.size, 3, none⟩ = some (.slice A3 n3 c3') := by rw [hW2]; simp
      have q4 : W2.cell? ⟨U.heap.size, 4, none⟩ = some (.slice A4 n4 c4') := by rw [hW2]; simp
      have q5 : W2.cell? ⟨U.heap.size, 5, none⟩ = some (.slice A5 n5 c5') := by rw [hW2]; simp
      have q6 : W2.cell? ⟨U.heap.size, 6, none⟩ = some (.slice A6 n6 c6') := by rw [hW2]; simp
      have hc := hP.out x _ W2 (VS.up hb2.size (Nat.le_refl _) (VS.on hb2 HVX.out)) HBX.out
      have HB2 := Lib.hid (HV.out.trans (hb2.mono HV.out.size))
      rw [← hW2]
      clear hW2 c0 c1 c2 c3 c4 c5 c6 hb2
      generalize (high x : Int) = nx at hc HX
      generalize ((highVs (l.take j) : Nat) : Int) = q at HX ⊢
      go_wp2_with (go_at_call 39; refine hc.mono ?_; rintro e w1 ⟨rfl, hb1⟩; refine Hid.out ?_)
      refine Lib.hid ?_
      clear hc
      go_wp2
      go_roundw
      case rel => exact ⟨j + 1, by go_num, by omega, by rw [← HX.out, ← mx], HB2.out.trans (hb1.mono HB2.out.size)⟩
      case measure => simp [intOf]; omega
    · have hke : l.take j = l := List.take_of_length_le (by omega)
      rw [hke]
      go_wp2
      go_ret
      exact ⟨by simp, hb⟩
set_option maxRecDepth 100000 in
set_option maxHeartbeats 3200000 in
theorem heightP_any : ∀ (k : Nat) (v : Vl) (cs : List Value) (w : World), VS k w w.heap.size v cs → high v ≤ 1048577 →
    Calls Tryz.prog 39 #[.agg cs.toArray] w fun e w' => e = .returned (.int .i64 ((high v : Int))) ∧ Below w.heap.size w w' := by
  intro k
  induction k with
  | zero => intro v cs w h; exact h.elim
  | succ k ih =>
    intro v cs w h hm
    obtain ⟨kind, int, text, kids, keys, ents, labels⟩ := v
    obtain ⟨uk, uy, ue, ul, rfl, _, _, _, hk, hyy, he, hll⟩ := h
    obtain ⟨A, cap, rfl, hkl⟩ := hk.form
    obtain ⟨A', cap', rfl, hel⟩ := he.form
    unfold maxLen at hkl hel
    have HKI := Lib.hid hk
    have HEN := Lib.hid he
    clear hk he hyy hll
    have IH := Lib.hid ih
    clear ih
    unfold high at hm ⊢
    have HM : highVs kids ≤ 1048576 ∧ highEs ents ≤ 1048576 := ⟨by omega, by omega⟩
    have HMM := Lib.hid HM
    clear hm HM
    obtain ⟨W, hW⟩ : ∃ W, W = w.alloc (.cells #[.int .i64 kind, .int .i64 int, .string ⟨text.toArray⟩, .slice A kids.length cap, uy, .slice A' ents.length cap', ul] 27) := ⟨_, rfl⟩
    have hbl : Below w.heap.size w W := by rw [hW]; exact (Below.refl _ _).alloc (Nat.le_refl _) _
    have d3 : W.cell? ⟨w.heap.size, 3, none⟩ = some (.slice A kids.length cap) := by rw [hW]; simp
    have d5 : W.cell? ⟨w.heap.size, 5, none⟩ = some (.slice A' ents.length cap') := by rw [hW]; simp
    have hlt : w.heap.size < W.heap.size := by rw [hW]; simp
    have hs := maxh_any k IH A cap kids W ((HKI.out.on hbl fun _ _ ⟨x, h1, h2⟩ => ⟨x, h1, VS.up hbl.size (Nat.le_refl _) (VS.on hbl h2)⟩).mono hbl.size fun _ _ h => h) (by have := HMM.out.1; omega)
    have HB := Lib.hid hbl
    clear hbl
    have HS : Hid (highVs kids ≤ 1048576) := Lib.hid HMM.out.1
    have HKE : Hid (((max (highVs kids) (highEs ents) + 1 : Nat) : Int) = 1 + ((max (highVs kids) (highEs ents) : Nat) : Int)) := Lib.hid (by omega)
    have HKB : Hid (max (highVs kids) (highEs ents) ≤ 1048576) := Lib.hid (by have := HMM.out; omega)
    generalize ((max (highVs kids) (highEs ents) + 1 : Nat) : Int) = RES at HKE ⊢
    go_enter Tryz.func39, Tryz.ntmps39
    go_wp2_with fail
    rw [← hW]
    clear hW
    go_wp2_with (go_at_call 80; refine hs.mono ?_; rintro e w1 ⟨rfl, hb1⟩; refine Hid.out ?_)
    refine Lib.hid ?_
    clear hs
    have e5 : w1.cell? ⟨w.heap.size, 5, none⟩ = some (.slice A' ents.length cap') := (hb1.cell (p := ⟨w.heap.size, 5, none⟩) hlt).trans d5
    have HBW := Lib.hid (HB.out.trans (hb1.mono HB.out.size))
    have hlt1 : w.heap.size < w1.heap.size := Nat.lt_of_lt_of_le hlt hb1.size
    clear d3 d5 hb1 hlt
    go_wp2_with fail
    go_loopw [3, 12] (fun n i w2 => ∃ j : Nat, i = .int .i64 j ∧ j ≤ ents.length ∧ n = .int .i64 ((max (highVs kids) (highEs (ents.take j)) : Nat) : Int) ∧ Below w1.heap.size w1 w2) (fun _ i _ => ents.length - (intOf i).toNat)
    case atStart => exact ⟨0, rfl, by omega, by simp [highEs], Below.refl _ _⟩
    case round =>
      obtain ⟨j, rfl, hj, rfl, hb⟩ := hrel
      by_cases hjn : j < ents.length
      · have hbw : Below w.heap.size w wr := HBW.out.trans (hb.mono HBW.out.size)
        obtain ⟨b, off, cap0, ya, yb, x0, x1, x2, x3, x4, x5, x6, hu, hbH, ⟨args, fails, result, hx, ua, rs, hcs, ha, hr⟩, c0, c1, c2, c3, c4, c5, c6, c7, c8⟩ := (HEN.out.on hbw (fun _ _ h => h)).at9 hjn
        injection hu with hA _ hcap
        subst hA hcap
        simp only [List.cons.injEq] at hcs
        obtain ⟨rfl, rfl, rfl⟩ := hcs
        obtain ⟨A2, cap2, rfl, hal⟩ := ha.form
        unfold maxLen at hal
        obtain ⟨a, i, st, A3, n3, c3', A4, n4, c4', A5, n5, c5', A6, n6, c6', he7⟩ := hr.form7
        simp only [List.cons.injEq, and_true] at he7
        obtain ⟨rfl, rfl, rfl, rfl, rfl, rfl, rfl⟩ := he7
        have hst := highEs_step hx
        have kn : (j : Int) < (ents.length : Int) := by omega
        have k0 : (0 : Int) ≤ (j : Int) := by omega
        have HX := Lib.hid hst.1
        have HST := Lib.hid hst
        have HV := Lib.hid hb
        have HAR := Lib.hid ha
        have HRS := Lib.hid hr
        have HBW2 := Lib.hid hbw
        have HJN := Lib.hid hjn
        clear hx ha hr hbw hb hj hjn
        have HA0 := Lib.hid (show highE (.mk args fails result) ≤ 1048576 by have := HMM.out.2; omega)
        have HP0 : Hid (((max (highVs kids) (highEs (ents.take j)) : Nat) : Int) ≤ 1048576 ∧ 0 ≤ ((max (highVs kids) (highEs (ents.take j)) : Nat) : Int)) := Lib.hid (by have := HMM.out; omega)
        have HXX : Hid (((max (highVs kids) (highEs (ents.take (j + 1))) : Nat) : Int) = max ((max (highVs kids) (highEs (ents.take j)) : Nat) : Int) (highE (.mk args fails result) : Int)) := Lib.hid (by rw [hst.1]; omega)
        generalize ((max (highVs kids) (highEs (ents.take j)) : Nat) : Int) = p at HXX HP0 ⊢
        clear hst
        go_wp2_with fail
        rename World => U
        obtain ⟨W2, hW2⟩ : ∃ W2, W2 = U.alloc (.cells #[.slice A2 args.length cap2, .bool fails, .int .i64 a, .int .i64 i, .string st, .slice A3 n3 c3', .slice A4 n4 c4', .slice A5 n5 c5', .slice A6 n6 c6'] 55) := ⟨_, rfl⟩
        have hb2 : Below U.heap.size U W2 := by rw [hW2]; exact (Below.refl _ _).alloc (Nat.le_refl _) _
        have q0 : W2.cell? ⟨U.heap.size, 0, none⟩ = some (.slice A2 args.length cap2) := by rw [hW2]; simp
        have HQ : Hid (W2.cell? ⟨U.heap.size, 1, none⟩ = some (.bool fails) ∧ W2.cell? ⟨U.heap.size, 2, none⟩ = some (.int .i64 a) ∧ W2.cell? ⟨U.heap.size, 3, none⟩ = some (.int .i64 i) ∧ W2.cell? ⟨U.heap.size, 4, none⟩ = some (.string st) ∧ W2.cell? ⟨U.heap.size, 5, none⟩ = some (.slice A3 n3 c3') ∧ W2.cell? ⟨U.heap.size, 6, none⟩ = some (.slice A4 n4 c4') ∧ W2.cell? ⟨U.heap.size, 7, none⟩ = some (.slice A5 n5 c5') ∧ W2.cell? ⟨U.heap.size, 8, none⟩ = some (.slice A6 n6 c6')) := Lib.hid (by rw [hW2]; simp)
        have hlt2 : U.heap.size < W2.heap.size := by rw [hW2]; simp
        rw [← hW2]
        clear hW2
        have hbu := HBW2.out.trans (hb2.mono HBW2.out.size)
        have hsa := maxh_any k IH A2 cap2 args W2 ((HAR.out.on hbu fun _ _ ⟨x, h1, h2⟩ => ⟨x, h1, VS.up hbu.size (Nat.le_refl _) (VS.on hbu h2)⟩).mono hbu.size fun _ _ h => h) (by have := HA0.out; unfold highE at this; omega)
        have HBU := Lib.hid hbu
        have HVU := Lib.hid (HV.out.trans (hb2.mono HV.out.size))
        clear hb2 hbu c0 c1 c2 c3 c4 c5 c6 c7 c8
        have HNA : Hid ((highE (.mk args fails result) : Int) = max (highVs args : Int) (if fails then 0 else (high result : Int))) := Lib.hid (by rw [highE]; cases fails <;> simp <;> omega)
        have HRB : Hid (fails = false → high result ≤ 1048577) := Lib.hid (fun e => by have := HA0.out; rw [highE, e] at this; simp at this; omega)
        have HNB : Hid ((highVs args : Int) ≤ 1048577 ∧ 0 ≤ (highVs args : Int)) := Lib.hid (by have := HA0.out; unfold highE at this; omega)
        generalize (highVs args : Int) = na at hsa HNA HNB
        clear HA0
        have HPN : Hid (p < na ∨ na ≤ p) := Lib.hid (by omega)
        by_cases hpn : p < na
        all_goals
          replace HPN := Lib.hid hpn
          go_wp2_with (go_at_call 80; refine hsa.mono ?_; rintro e w2 ⟨rfl, hb3⟩; refine Hid.out ?_)
          refine Lib.hid ?_
          clear hsa q0
          have HVW := Lib.hid (HVU.out.trans (hb3.mono HVU.out.size))
          obtain ⟨s1, s2, s3, s4, s5, s6, s7, s8⟩ := HQ.out
          have r1 := (hb3.cell (p := ⟨U.heap.size, 1, none⟩) hlt2).trans s1
          cases fails
          · have r2 := (hb3.cell (p := ⟨U.heap.size, 2, none⟩) hlt2).trans s2
            have r3 := (hb3.cell (p := ⟨U.heap.size, 3, none⟩) hlt2).trans s3
            have r4 := (hb3.cell (p := ⟨U.heap.size, 4, none⟩) hlt2).trans s4
            have r5 := (hb3.cell (p := ⟨U.heap.size, 5, none⟩) hlt2).trans s5
            have r6 := (hb3.cell (p := ⟨U.heap.size, 6, none⟩) hlt2).trans s6
            have r7 := (hb3.cell (p := ⟨U.heap.size, 7, none⟩) hlt2).trans s7
            have r8 := (hb3.cell (p := ⟨U.heap.size, 8, none⟩) hlt2).trans s8
            have hbv := HBU.out.trans (hb3.mono HBU.out.size)
            have hc := IH.out result _ w2 (VS.up hbv.size (Nat.le_refl _) (VS.on hbv HRS.out)) (HRB.out rfl)
            have HX2 : Hid (((max (highVs kids) (highEs (ents.take (j + 1))) : Nat) : Int) = max (max p na) (high result : Int)) := Lib.hid (by rw [HXX.out, HNA.out]; simp only [Bool.false_eq_true, if_false]; omega)
            clear s1 s2 s3 s4 s5 s6 s7 s8 hbv HX hb3
            generalize (high result : Int) = nr at hc HX2
            go_wp2_with (go_at_call 39; refine hc.mono ?_; rintro e w3 ⟨rfl, hb4⟩; refine Hid.out ?_)
            refine Lib.hid ?_
            clear hc
            go_wp2
            go_roundw
            case rel => exact ⟨j + 1, by go_num, HJN.out, by first | (rw [HX2.out]; done) | (rw [HX2.out]; have := HPN.out; congr 1; (try split) <;> omega), HVW.out.trans (hb4.mono HVW.out.size)⟩
            case measure => have := HJN.out; simp [intOf]; omega
          · have HX2 : Hid (((max (highVs kids) (highEs (ents.take (j + 1))) : Nat) : Int) = max p na) := Lib.hid (by rw [HXX.out, HNA.out]; have := HNB.out; simp only [if_true]; omega)
            clear s1 s2 s3 s4 s5 s6 s7 s8 HX hb3
            go_wp2
            go_roundw
            case rel => exact ⟨j + 1, by go_num, HJN.out, by first | (rw [HX2.out]; done) | (rw [HX2.out]; have := HPN.out; congr 1; (try split) <;> omega), HVW.out⟩
            case measure => have := HJN.out; simp [intOf]; omega
      · have hke : ents.take j = ents := List.take_of_length_le (by omega)
        rw [hke]
        have HH := Lib.hid (show ((max (highVs kids) (highEs ents) : Nat) : Int) ≤ 1048576 ∧ 0 ≤ ((max (highVs kids) (highEs ents) : Nat) : Int) by have := HKB.out; omega)
        generalize ((max (highVs kids) (highEs ents) : Nat) : Int) = p at HH HKE ⊢
        have hw : IntKind.i64.wrap (1 + p) = 1 + p := IntWalk.i64_in _ (by have := HH.out; omega)
        go_wp2
        go_ret
        exact ⟨ret_i (by rw [HKE.out]; try (have := HH.out; go_num)), HBW.out.trans (hb.mono HBW.out.size)⟩
end Go.Proofs.YtjfknigiehggkaaGreat
