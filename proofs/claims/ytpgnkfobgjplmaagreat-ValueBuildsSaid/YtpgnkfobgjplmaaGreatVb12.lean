/- Slices of strings, as the walks take them: what comes in, what a call owns, and what an append makes of it; a set of names as a value. -/
import Derived.Test.YtpgnkfobgjplmaaGreatVb01
import Derived.Test.YtpgnkfobgjplmaaGreatVb11
import Derived.Test.YtpgnkfobgjplmaaGreatShelf
import Derived.Lib.Walk
import Derived.Lib.SliceRun
import Derived.Lib.AppendZeros
import Derived.Deep.Onto
import Derived.Deep.AppendLies
namespace Go.Proofs.YtpgnkfobgjplmaaGreat
open Go.RowKit Go.Sort
abbrev Strg := List UInt8
def mkB (s : Strg) : ByteArray := ⟨s.toArray⟩
theorem mkB_list (s : Strg) : (mkB s).data.toList = s := by simp [mkB]
theorem mkB_size (s : Strg) : (mkB s).size = s.length := by simp [mkB, ByteArray.size]
theorem mkB_inj {s t : Strg} (h : mkB s = mkB t) : s = t := by rw [← mkB_list s, h, mkB_list]
theorem mkB_of (b : ByteArray) : mkB b.data.toList = b := by obtain ⟨⟨l⟩⟩ := b; rfl
theorem lists_map (ss : List Strg) : lists (ss.map mkB) = ss := by
  unfold lists
  rw [List.map_map]
  conv => rhs; rw [← List.map_id ss]
  exact List.map_congr_left fun s _ => mkB_list s
theorem map_lists (ss : List ByteArray) : (lists ss).map mkB = ss := by
  unfold lists
  rw [List.map_map]
  conv => rhs; rw [← List.map_id ss]
  exact List.map_congr_left fun s _ => mkB_of s
/-- no string is longer than a machine holds -/
def Short (ss : List Strg) : Prop := ∀ s ∈ ss, s.length ≤ maxLen
/-- the slice .slice A n cap reads as the strings ss, in blocks below B -/
def NmS (w : World) (B : Nat) (A : Option Addr) (n : Nat) (ss : List Strg) : Prop :=
  n = ss.length ∧ Short ss ∧ (0 < n → ∃ b off, A = some ⟨b, off, none⟩ ∧ b < B ∧ ∀ j s, ss[j]? = some s → w.cell? ⟨b, off + j, none⟩ = some (encStr s))
theorem NmS.strS {w : World} {B : Nat} {A : Option Addr} {n : Nat} {ss : List Strg} (h : NmS w B A n ss) : StrS w B A n (ss.map mkB) := by
  refine ⟨by rw [List.length_map]; exact h.1, fun s hs => ?_, fun hn => ?_⟩
  · obtain ⟨t, ht, rfl⟩ := List.mem_map.1 hs
    rw [mkB_size]; exact h.2.1 t ht
  · obtain ⟨b, off, hA, hb, hc⟩ := h.2.2 hn
    refine ⟨b, off, hA, hb, fun j s hs => ?_⟩
    rw [List.getElem?_map] at hs
    obtain ⟨t, ht, rfl⟩ := Option.map_eq_some_iff.1 hs
    exact hc j t ht
theorem StrS.nmS {w : World} {B : Nat} {A : Option Addr} {n : Nat} {ss : List ByteArray} (h : StrS w B A n ss) : NmS w B A n (lists ss) := by
  refine ⟨by unfold lists; rw [List.length_map]; exact h.1, fun s hs => ?_, fun hn => ?_⟩
  · obtain ⟨t, ht, rfl⟩ := List.mem_map.1 hs
    have := h.2.1 t ht
    show t.data.toList.length ≤ maxLen
    rw [Array.length_toList]; exact this
  · obtain ⟨b, off, hA, hb, hc⟩ := h.2.2 hn
    refine ⟨b, off, hA, hb, fun j s hs => ?_⟩
    unfold lists at hs
    rw [List.getElem?_map] at hs
    obtain ⟨t, ht, rfl⟩ := Option.map_eq_some_iff.1 hs
    rw [hc j t ht]
theorem NmS.below {w w' : World} {B : Nat} {A : Option Addr} {n : Nat} {ss : List Strg} (h : NmS w B A n ss) (hb : Below B w w') : NmS w' B A n ss :=
  ⟨h.1, h.2.1, fun hn => by
    obtain ⟨b, off, hA, hlt, hc⟩ := h.2.2 hn
    exact ⟨b, off, hA, hlt, fun j s hs => (hb.cell (p := ⟨b, off + j, none⟩) hlt).trans (hc j s hs)⟩⟩
theorem NmS.mono {w : World} {B B' : Nat} {A : Option Addr} {n : Nat} {ss : List Strg} (h : NmS w B A n ss) (hB : B ≤ B') : NmS w B' A n ss :=
  ⟨h.1, h.2.1, fun hn => by
    obtain ⟨b, off, hA, hlt, hc⟩ := h.2.2 hn
    exact ⟨b, off, hA, by omega, hc⟩⟩
theorem NmS.nil (w : World) (B : Nat) (A : Option Addr) : NmS w B A 0 [] := ⟨rfl, by simp [Short], fun h => by omega⟩
/-- kept by a later world -/
theorem NmS.kept {w w' : World} {B : Nat} {A : Option Addr} {n : Nat} {ss : List Strg} (h : NmS w B A n ss) (hb : Below B w w') (hB : B ≤ w'.heap.size) : NmS w' w'.heap.size A n ss := (h.below hb).mono hB
theorem NmS.on {w w' : World} {A : Option Addr} {n : Nat} {ss : List Strg} (h : NmS w w.heap.size A n ss) (hb : Below w.heap.size w w') : NmS w' w'.heap.size A n ss := h.kept hb hb.size
theorem NmS.drewN {w : World} {B : Nat} {A : Option Addr} {n : Nat} {ss : List Strg} (h : NmS w B A n ss) (q : Nat) : NmS (w.drewN q) B A n ss := h
/-- the string at an index, and its cell -/
theorem NmS.at {w : World} {B : Nat} {A : Option Addr} {n : Nat} {ss : List Strg} (h : NmS w B A n ss) {k : Nat} (hk : k < n) :
    ∃ b off s, A = some ⟨b, off, none⟩ ∧ b < B ∧ ss[k]? = some s ∧ s.length ≤ maxLen ∧ w.cell? ⟨b, off + k, none⟩ = some (.string ⟨s.toArray⟩) := by
  obtain ⟨b, off, hA, hb, hc⟩ := h.2.2 (by omega)
  have hx : ss[k]? = some (ss[k]'(by have := h.1; omega)) := List.getElem?_eq_getElem _
  exact ⟨b, off, _, hA, hb, hx, h.2.1 _ (List.mem_of_getElem? hx), hc k _ hx⟩
theorem NmS.take {w : World} {B n g o : Nat} {ss : List Strg} (h : NmS w B (some ⟨g, o, none⟩) n ss) {p : Nat} (hp : p ≤ n) : NmS w B (some ⟨g, o, none⟩) p (ss.take p) := by
  refine ⟨by rw [List.length_take, ← h.1]; omega, fun s hs => h.2.1 s (List.mem_of_mem_take hs), fun hn => ?_⟩
  obtain ⟨b, off, hA, hb, hc⟩ := h.2.2 (by omega)
  refine ⟨b, off, hA, hb, fun j s hs => hc j s ?_⟩
  rw [List.getElem?_take] at hs
  split at hs
  · exact hs
  · cases hs
theorem NmS.drop {w : World} {B n g o : Nat} {ss : List Strg} (h : NmS w B (some ⟨g, o, none⟩) n ss) {p : Nat} (hp : p < n) : NmS w B (some ⟨g, o + p, none⟩) (n - p) (ss.drop p) := by
  refine ⟨by rw [List.length_drop, ← h.1], fun s hs => h.2.1 s (List.mem_of_mem_drop hs), fun hn => ?_⟩
  obtain ⟨b, off, hA, hb, hc⟩ := h.2.2 (by omega)
  injection hA with hA
  injection hA with e1 e2 _
  subst e1 e2
  refine ⟨g, o + p, rfl, hb, fun j s hs => ?_⟩
  rw [List.getElem?_drop] at hs
  rw [Nat.add_assoc]
  exact hc (p + j) s hs
/-- v is a slice of the call's own that holds the strings ss -/
def OwnN (w : World) (B : Nat) (v : Value) (ss : List Strg) : Prop := w.ownsRow B 9 1 v ss.length (ss.map encStr)
theorem map_one (ss : List Strg) : ∀ u ∈ ss.map encStr, u.oneCell' = true := by
  intro u hu
  obtain ⟨s, _, rfl⟩ := List.mem_map.1 hu
  rfl
theorem OwnN.nil (w : World) (B : Nat) : OwnN w B (.slice none 0 0) [] := World.ownsRow_nil _ _ _ _
theorem OwnN.form {w : World} {B : Nat} {v : Value} {ss : List Strg} (h : OwnN w B v ss) : ∃ A c, v = .slice A ss.length c := by
  rcases h.2 with ⟨rfl, h0⟩ | ⟨g, cap, cur, rfl, _⟩
  · rw [h0]; exact ⟨_, _, rfl⟩
  · exact ⟨_, _, rfl⟩
theorem OwnN.formG {w : World} {B : Nat} {v : Value} {ss : List Strg} (h : OwnN w B v ss) (hl : 0 < ss.length) :
    ∃ g cap, v = .slice (some ⟨g, 0, none⟩) ss.length cap ∧ B ≤ g ∧ g < w.heap.size ∧ ss.length ≤ cap := by
  have hlt := h.lt
  rcases h.2 with ⟨_, h0⟩ | ⟨g, cap, cur, rfl, hB, hg, hnc, _⟩
  · omega
  · exact ⟨g, cap, rfl, hB, (hlt g rfl).2, hnc⟩
theorem OwnN.rng {w : World} {B : Nat} {A : Option Addr} {n c : Nat} {ss : List Strg} (h : OwnN w B (.slice A n c) ss) (hf : Short ss) : NmS w w.heap.size A n ss := by
  have hl := h.lt
  rcases h.2 with ⟨hv, h0⟩ | ⟨g, cap, cur, hv, hB, hg, hnc, hcm, hcz, htk⟩
  · injection hv with e1 e2 e3
    subst e1 e2
    exact ⟨h0.symm, hf, fun h => by omega⟩
  · injection hv with e1 e2 e3
    subst e1 e2
    refine ⟨rfl, hf, fun _ => ⟨g, 0, rfl, (hl g rfl).2, fun j s hj => ?_⟩⟩
    have hlt : j < ss.length := (List.getElem?_eq_some_iff.1 hj).1
    have := World.ownsRow.cellAt h j (by omega)
    rw [Nat.zero_add, this, List.getElem?_map, hj]; rfl
theorem OwnN.holds {w : World} {B g n cap : Nat} {ss : List Strg} (h : OwnN w B (.slice (some ⟨g, 0, none⟩) n cap) ss) (hn : ss.length = n) : Holds encStr w g 0 ss.toArray := by
  subst hn
  intro j hj
  have hj' : j < ss.length := by simpa using hj
  refine ⟨?_, by rw [Nat.zero_add]; exact World.ownsRow.frozenAt h j⟩
  rw [Nat.zero_add, World.ownsRow.cellAt h j (by omega), List.getElem?_map, getElem!_pos ss.toArray j hj, List.getElem?_eq_getElem hj']
  simp
theorem OwnN.old {w w' : World} {B : Nat} {v : Value} {ss : List Strg} (h : OwnN w B v ss) (hb : Below w.heap.size w w') : OwnN w' B v ss := by
  have hl := h.lt
  refine ⟨h.1, ?_⟩
  rcases h.2 with hn | ⟨g, cap, cur, rfl, hB, hg, rest⟩
  · exact .inl hn
  · exact .inr ⟨g, cap, cur, rfl, hB, by rw [hb.block g (hl g rfl).2]; exact hg, rest⟩
theorem OwnN.drewN {w : World} {B : Nat} {v : Value} {ss : List Strg} (h : OwnN w B v ss) (n : Nat) : OwnN (w.drewN n) B v ss := h
theorem below_drewN {B : Nat} {a w : World} (h : Below B a w) (n : Nat) : Below B a (w.drewN n) := ⟨h.os, h.tape, h.output, h.size, h.block⟩
theorem OwnN.mono {w : World} {B B' : Nat} {v : Value} {ss : List Strg} (h : OwnN w B v ss) (hB : B' ≤ B) : OwnN w B' v ss := by
  refine ⟨h.1, ?_⟩
  rcases h.2 with hn | ⟨g, cap, cur, hv, hg, rest⟩
  · exact .inl hn
  · exact .inr ⟨g, cap, cur, hv, by omega, rest⟩
theorem OwnN.below {w0 w1 : World} {B : Nat} {v : Value} {ss : List Strg} {o : Obj} (h : OwnN w0 B v ss) (hb : B ≤ w0.heap.size) (hg : (w0.alloc o).grownBy w1 v.ownBlock) : Below B w0 w1 :=
  ((Below.refl B w0).alloc hb o).grown hg (by simp; omega) (fun j hj => (h.lt j hj).1)
theorem OwnN.lit (w : World) (B : Nat) (hB : B ≤ w.heap.size) (ss : List Strg) (cells : Array Value) (n : Nat) (hn : ss.length = n) (hc : cells.toList = ss.map encStr) (hl : ss.length ≤ maxLen) :
    OwnN (w.alloc (.cells cells 9)) B (.slice (some ⟨w.heap.size, 0, none⟩) n n) ss := by
  subst hn
  have hsz : cells.size = ss.length := by rw [← Array.length_toList, hc, List.length_map]
  exact ⟨by simp, .inr ⟨w.heap.size, ss.length, cells, rfl, hB, heap_alloc_new w _, Nat.le_refl _, hl, by omega, by rw [hc]; rw [List.take_of_length_le]; simp⟩⟩
theorem wp_app_n {ops : Array Oper} {rest : List Oper} {o : Oper} {a : Act} {Q : Exit → Act → World → Prop} {w0 : World} (hgd : o.guard = none) (s x : Operand)
    (ho : o.op = .call { callee := .builtin .append, args := #[s, x], argTypes := #[25, 25] }) (B : Nat) (v : Value) (l : List Strg) (hs : a.eval s = v) (hown : OwnN w0 B v l)
    (l' : List Strg) (m c : Nat) (hm : l'.length = m) (cells : Array Value) (hc : cells.toList = l'.map encStr) (H : Nat) (hH : w0.heap.size = H) (hx : a.eval x = .slice (some ⟨H, 0, none⟩) m c)
    (hbytes : l.length + m ≤ 1000000000) (hbase : B ≤ w0.heap.size)
    (h : ∀ v' w', OwnN w' B v' (l ++ l') → Below B w0 w' → wpList Tryz.prog ops Q rest (a.put o.dst v') w') :
    wpList Tryz.prog ops Q (o :: rest) a (w0.alloc (.cells cells 9)) := by
  obtain ⟨i0, hi, hz0, hz1, hz2⟩ := info_parts Tryz.infoStr
  subst hm
  subst hH
  refine wpList_append_own _ hgd s x 25 ho B 9 i0 (.string ⟨#[]⟩) 1 16 Tryz.underlying25 hi hz0 hz1 hz2 rfl (by decide) v l.length (l.map encStr) hs (World.ownsRow.alloc hown _)
    ⟨w0.heap.size, 0, none⟩ l'.length c (l'.map encStr) hx (by simp) ?_ (map_one l') (by unfold maxLen; omega) (by omega) (by simp; omega) ?_
  · rw [← hc]; exact World.news_of_block (heap_alloc_new w0 _)
  · intro v' w' h1 h2 _
    exact h v' w' (by unfold OwnN; rw [List.length_append, List.map_append]; exact h1) (hown.below hbase h2)
theorem run_app_none {w : World} {B : Nat} {v : Value} {l : List Strg} (h : OwnN w B v l) (c : Nat) (ty : TypeId) : (Builtin.append_ #[25, 25] ty #[v, .slice none 0 c]).run Tryz.prog w = .ok v w := by
  obtain ⟨i, hi, hz0, hz1, hz2⟩ := info_parts Tryz.infoStr
  rcases h.2 with ⟨rfl, _⟩ | ⟨g, cap, cur, rfl, _, _, hnc, _⟩
  · simp [Builtin.append_, run_underlying Tryz.underlying25, sizeOf, typeInfo, hi, Builtin.lenOf, Builtin.firstCells]
  · simp [Builtin.append_, run_underlying Tryz.underlying25, sizeOf, typeInfo, hi, Builtin.lenOf, Builtin.firstCells, hnc, storeCells]
theorem addr_add (b off q : Nat) : (⟨b, off, none⟩ : Addr).add q = ⟨b, off + q, none⟩ := by
  unfold Addr.add; rcases Nat.eq_zero_or_pos q with h | h
  · subst h; simp
  · simp [Nat.ne_of_gt h]
theorem run_app_src {w : World} {B B' : Nat} {v : Value} {l : List Strg} (h : OwnN w B v l) (hB : B ≤ w.heap.size) (A : Option Addr) (m c : Nat) (ss : List Strg) (hR : NmS w B' A m ss) (hbytes : l.length + m ≤ 1000000000) (ty : TypeId) :
    ∃ v' w', (Builtin.append_ #[25, 25] ty #[v, .slice A m c]).run Tryz.prog w = .ok v' w' ∧ OwnN w' B v' (l ++ ss) ∧ w.grownBy w' v.ownBlock := by
  obtain ⟨i0, hi, hz0, hz1, hz2⟩ := info_parts Tryz.infoStr
  rcases Nat.eq_zero_or_pos m with h0 | h0
  · have hr : ss = [] := List.eq_nil_of_length_eq_zero (hR.1.symm.trans h0)
    subst hr
    subst h0
    rcases A with _ | a
    · exact ⟨v, w, run_app_none h c ty, by rw [List.append_nil]; exact h, ⟨rfl, rfl, rfl, Nat.le_refl _, fun _ _ _ => rfl⟩⟩
    · obtain ⟨v', w', h1, h2, h3, _⟩ := run_append_own w B 25 ty 9 i0 (.string ⟨#[]⟩) 1 16 Tryz.underlying25 hi hz0 hz1 hz2 rfl (by decide) v l.length (l.map encStr) h a 0 c [] rfl (by intro j u hj; simp at hj) (by intro u hu; cases hu) (by unfold maxLen; omega) (by omega) hB
      exact ⟨v', w', h1, by unfold OwnN; rw [List.append_nil]; simpa using h2, h3⟩
  · obtain ⟨b, off, rfl, hb, hc⟩ := hR.2.2 h0
    have hm := hR.1
    obtain ⟨v', w', h1, h2, h3, _⟩ := run_append_own w B 25 ty 9 i0 (.string ⟨#[]⟩) 1 16 Tryz.underlying25 hi hz0 hz1 hz2 rfl (by decide) v l.length (l.map encStr) h ⟨b, off, none⟩ m c (ss.map encStr) (by rw [List.length_map, hm]; omega) (by
      intro j u hj
      rw [addr_add]
      rw [List.getElem?_map] at hj
      obtain ⟨s, hs, rfl⟩ := Option.map_eq_some_iff.1 hj
      exact hc j s hs) (map_one ss) (by unfold maxLen; omega) (by omega) hB
    exact ⟨v', w', h1, by unfold OwnN; rw [List.length_append, List.map_append, ← hm]; exact h2, h3⟩
theorem wp_app_src {ops : Array Oper} {rest : List Oper} {o : Oper} {a : Act} {Q : Exit → Act → World → Prop} {w : World} (hgd : o.guard = none) (s x : Operand)
    (ho : o.op = .call { callee := .builtin .append, args := #[s, x], argTypes := #[25, 25] }) (B B' : Nat) (v : Value) (l : List Strg) (hs : a.eval s = v) (hown : OwnN w B v l)
    (A : Option Addr) (m c : Nat) (ss : List Strg) (hx : a.eval x = .slice A m c) (hR : NmS w B' A m ss) (hbytes : l.length + m ≤ 1000000000) (hbase : B ≤ w.heap.size)
    (h : ∀ v' w', OwnN w' B v' (l ++ ss) → Below B w w' → wpList Tryz.prog ops Q rest (a.put o.dst v') w') :
    wpList Tryz.prog ops Q (o :: rest) a w := by
  obtain ⟨v', w', h1, h2, h3⟩ := run_app_src hown hbase A m c ss hR hbytes o.type
  exact Lib.wpList_append_run w hgd s x 25 25 ho v (.slice A m c) hs hx v' w' h1 (h v' w' h2 ((Below.refl B w).grown h3 hbase (fun j hj => (hown.lt j hj).1)))
/-- a store into a block below leaves a slice of the call's own as it was -/
theorem OwnN.setLow {w : World} {B : Nat} {v : Value} {ss : List Strg} (h : OwnN w B v ss) {r off : Nat} (hr : r < B) (x : Value) : OwnN (w.setCell ⟨r, off, none⟩ x) B v ss := by
  refine ⟨h.1, ?_⟩
  rcases h.2 with hn | ⟨g, cap, cur, rfl, hB, hg, rest⟩
  · exact .inl hn
  · exact .inr ⟨g, cap, cur, rfl, hB, by rw [Below.heap_setCell _ _ _ _ (by show g ≠ r; omega)]; exact hg, rest⟩
/-- a call hands back the valid set of names with the members p, finite or cofinite as said, with at most k strings, in memory of its own -/
def RetN (co : Bool) (p : Strg → Bool) (k : Nat) (w : World) (e : Ending) (w' : World) : Prop :=
  ∃ m A c, e = .returned (.agg #[.bool co, .slice A m.length c]) ∧ OwnN w' w.heap.size (.slice A m.length c) m ∧ Short m ∧ IsSet co m p ∧ m.length ≤ k ∧ Below w.heap.size w w'
theorem RetN.congr {co co' : Bool} {p p' : Strg → Bool} {k k' : Nat} {w w' : World} {e : Ending} (h : RetN co p k w e w') (hc : co = co') (hp : ∀ x, p x = p' x) (hk : k ≤ k') : RetN co' p' k' w e w' := by
  subst hc
  obtain ⟨m, A, c, h1, h2, h6, h3, h4, h5⟩ := h
  exact ⟨m, A, c, h1, h2, h6, h3.congr rfl hp, by omega, h5⟩
/-- the last step of a function that keeps its result in a block of its own -/
theorem RetN.stored {co : Bool} {p : Strg → Bool} {k r : Nat} {w w2 : World} {m : List Strg} {A : Option Addr} {c n : Nat} (hn : n = m.length) (ho : OwnN w2 (r + 1) (.slice A n c) m) (hr : w.heap.size ≤ r) (hs : Short m) (hp : IsSet co m p) (hk : m.length ≤ k) (hb : Below w.heap.size w w2) (x y : Value) :
    RetN co p k w (.returned (.agg #[.bool co, .slice A n c])) ((w2.setCell ⟨r, 0, none⟩ x).setCell ⟨r, 1, none⟩ y) := by
  subst hn
  exact ⟨m, A, c, rfl, ((ho.setLow (by omega) x).setLow (by omega) y).mono (by omega), hs, hp, hk, (hb.setCell (p := ⟨r, 0, none⟩) hr x).setCell (p := ⟨r, 1, none⟩) hr y⟩
/-- the two cells of a set of names that lies in a block -/
theorem names_cells {w : World} {r : Nat} {a b : Value} {t : TypeId} {fz : Nat × Nat} (h : w.heap[r]? = some (.cells #[a, b] t fz)) : w.cell? ⟨r, 0, none⟩ = some a ∧ w.cell? ⟨r, 1, none⟩ = some b := by
  have e0 : w.cell? ⟨r, 0, none⟩ = (#[a, b] : Array Value)[0]? := by simp [World.cell?, h]
  have e1 : w.cell? ⟨r, 1, none⟩ = (#[a, b] : Array Value)[1]? := by simp [World.cell?, h]
  exact ⟨e0, e1⟩
end Go.Proofs.YtpgnkfobgjplmaaGreat
