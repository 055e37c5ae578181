/- Growing slices: a row of the call's own whose elements lie outside of it. -/
import Derived.Test.YtplmbmecjhmiiaaDoorKit6
import Derived.Deep.AppendLies
import Derived.Lib.SmallJoins
namespace Go.Proofs.YtplmbmecjhmiiaaDoor
open Go Go.RowKit
abbrev Btw (a b : Nat) : Nat → Prop := fun q => a ≤ q ∧ q < b
/-- how an element x lies in w in blocks of B, its root in the cells cs -/
structure ElK (α : Type) where
  E : α → World → (Nat → Prop) → List Value → Prop
  keep : ∀ {x w w' B cs}, Same B w w' → E x w B cs → E x w' B cs
  sub : ∀ {x w B B' cs}, (∀ b, B b → B' b) → E x w B cs → E x w B' cs
def OwnE {α : Type} (K : ElK α) (e : TypeId) (c : Nat) (w : World) (base : Nat) (v : Value) (l : List α) : Prop :=
  ∃ xs, w.ownsRow base e c v l.length xs ∧ ∀ j x, l[j]? = some x → K.E x w (fun b => base ≤ b ∧ b < w.heap.size ∧ some b ≠ v.ownBlock) ((xs.drop (j * c)).take c)
theorem OwnE.nil {α : Type} (K : ElK α) (e : TypeId) (c : Nat) (w : World) (base : Nat) : OwnE K e c w base (.slice none 0 0) [] := ⟨[], World.ownsRow_nil _ _ _ _, fun j x h => by simp at h⟩
theorem OwnE.form {α : Type} {K : ElK α} {e : TypeId} {c : Nat} {w : World} {base : Nat} {v : Value} {l : List α} (h : OwnE K e c w base v l) : ∃ A cap, v = .slice A l.length cap := by
  obtain ⟨xs, ⟨_, hc⟩, _⟩ := h
  rcases hc with ⟨rfl, hn⟩ | ⟨g, cap, cur, rfl, _⟩
  · exact ⟨none, 0, by rw [hn]⟩
  · exact ⟨_, cap, rfl⟩
/-- the row, seen as a row of trees -/
theorem OwnE.row {α : Type} {K : ElK α} {e : TypeId} {c : Nat} {w : World} {base : Nat} {v : Value} {l : List α} (h : OwnE K e c w base v l) (hc : 0 < c) (hn : l.length ≤ maxLen) :
    RowB w (Btw base w.heap.size) c v l.length (fun j cs => ∃ x, l[j]? = some x ∧ K.E x w (Btw base w.heap.size) cs) := by
  obtain ⟨xs, ho, hx⟩ := h
  exact row_of_owns ho hn (fun g _ h1 h2 => ⟨h1, h2⟩) (fun j hj => ⟨l[j], List.getElem?_eq_getElem hj, K.sub (fun b hb => ⟨hb.1, hb.2.1⟩) (hx j _ (List.getElem?_eq_getElem hj))⟩) hc
/-- what leaves the blocks from base on as they were, keeps the row -/
theorem OwnE.kept {α : Type} {K : ElK α} {e : TypeId} {c : Nat} {w w' : World} {base : Nat} {v : Value} {l : List α} (h : OwnE K e c w base v l) (hs : w.heap.size ≤ w'.heap.size) (hb : ∀ b, base ≤ b → b < w.heap.size → w'.heap[b]? = w.heap[b]?) : OwnE K e c w' base v l := by
  obtain ⟨xs, ho, hx⟩ := h
  refine ⟨xs, ⟨ho.1, ?_⟩, fun j x hj => K.sub (fun b hb => ⟨hb.1, by have := hb.2.1; omega, hb.2.2⟩) (K.keep ⟨hs, fun b i hB hl => World.cell?_of_block (hb b hB.1 hl)⟩ (hx j x hj))⟩
  rcases ho.2 with hn | ⟨g, cap, cur, rfl, hB, hg, rest⟩
  · exact .inl hn
  · exact .inr ⟨g, cap, cur, rfl, hB, (hb g hB (Array.getElem?_eq_some_iff.1 hg).1).trans hg, rest⟩
theorem OwnE.old {α : Type} {K : ElK α} {e : TypeId} {c : Nat} {w w' : World} {base : Nat} {v : Value} {l : List α} (h : OwnE K e c w base v l) (hb : Below w.heap.size w w') : OwnE K e c w' base v l :=
  h.kept hb.size fun b _ h2 => hb.block b h2
/-- a store into a block that is neither the row's nor above base -/
theorem OwnE.low {α : Type} {K : ElK α} {e : TypeId} {c : Nat} {w : World} {base g i : Nat} {v u : Value} {l : List α} (h : OwnE K e c w base v l) (hg : g < base) : OwnE K e c (w.setCell ⟨g, i, none⟩ u) base v l :=
  h.kept (by simp) fun b h1 _ => heap_setCell_other _ _ _ _ (show b ≠ g by omega)
theorem app_one {α : Type} (K : ElK α) (t ty : TypeId) (e : TypeId) (i : TypeInfo) (z : Value) (c bytes : Nat) (ht : Tryd.prog.underlying t = some (.slice e)) (hi : Tryd.prog.info? e = some i) (hz : i.zero = some z)
    (hsize : i.size = c) (hby : i.bytes = bytes) (hzs : z.cells.size = c) (hc : 0 < c) (hb8 : bytes ≤ 1000)
    (w0 : World) (base : Nat) (v : Value) (l : List α) (h : OwnE K e c w0 base v l) (x : α) (cs : List Value) (hx : K.E x w0 (fun b => base ≤ b ∧ b < w0.heap.size ∧ some b ≠ v.ownBlock) cs) (hcs : cs.length = c) (h1c : ∀ u ∈ cs, u.oneCell' = true)
    (hn : l.length ≤ 300000000) (hbase : base ≤ w0.heap.size) (H : Nat) (hH : w0.heap.size = H) (cap1 : Nat) :
    ∃ g cap w', (Builtin.append_ #[t, t] ty #[v, .slice (some ⟨H, 0, none⟩) 1 cap1]).run Tryd.prog (w0.alloc (.cells cs.toArray e)) = .ok (.slice (some ⟨g, 0, none⟩) (l.length + 1) cap) w' ∧
      OwnE K e c w' base (.slice (some ⟨g, 0, none⟩) (l.length + 1) cap) (l ++ [x]) ∧ Below base w0 w' ∧ (∀ b, b < w0.heap.size → some b ≠ v.ownBlock → w'.heap[b]? = w0.heap[b]?) ∧ (v.ownBlock = some g ∨ H ≤ g) := by
  subst hH
  obtain ⟨xs, ho, hxs⟩ := h
  have hz0 : (w0.alloc (.cells cs.toArray e)).heap.size = w0.heap.size + 1 := by simp
  obtain ⟨g, cap, w', hr, h2, h3, h4, h5⟩ := run_append_lies (P := Tryd.prog) (w := w0.alloc (.cells cs.toArray e)) t ty base e i z c bytes ht hi hz hsize hby hzs hc v l.length xs (World.ownsRow.alloc ho _) ⟨w0.heap.size, 0, none⟩ 1 cap1 cs (by simpa using hcs)
    (World.news_of_block (cs := cs.toArray) (heap_alloc_new w0 _)) h1c (by omega) (by unfold maxLen; omega) (Nat.le_trans (Nat.mul_le_mul (show l.length + 1 ≤ 300000001 by omega) hb8) (by omega)) (by omega) _ hz0
  have hkeep : ∀ b, b < w0.heap.size → some b ≠ v.ownBlock → w'.heap[b]? = w0.heap[b]? := fun b hb hne => (h3.block b (by omega) hne).trans (Below.heap_alloc _ _ _ hb)
  have hvlt : ∀ b, v.ownBlock = some b → base ≤ b ∧ b < w0.heap.size := by
    intro b hb
    rcases ho.2 with ⟨rfl, _⟩ | ⟨g', cap', cur, rfl, hB, hg, _⟩
    · simp [Value.ownBlock] at hb
    · simp [Value.ownBlock] at hb
      subst hb
      exact ⟨hB, (Array.getElem?_eq_some_iff.1 hg).1⟩
  have hs3 := h3.size
  have hsm : Same (fun b => base ≤ b ∧ b < w0.heap.size ∧ some b ≠ v.ownBlock) w0 w' := ⟨by omega, fun b i hB hl => World.cell?_of_block (hkeep b hl hB.2.2)⟩
  have hsub : ∀ b, (base ≤ b ∧ b < w0.heap.size ∧ some b ≠ v.ownBlock) → (base ≤ b ∧ b < w'.heap.size ∧ some b ≠ (Value.slice (some ⟨g, 0, none⟩) (l.length + 1) cap).ownBlock) := by
    intro b ⟨a1, a2, a3⟩
    refine ⟨a1, by omega, ?_⟩
    simp only [Value.ownBlock, ne_eq, Option.some.injEq]
    intro e
    rcases h4 with h4 | h4
    · exact a3 (by rw [h4, e])
    · omega
  have hll : (l ++ [x]).length = l.length + 1 := by simp
  refine ⟨g, cap, w', hr, ⟨xs ++ cs, by rw [hll]; exact h2, fun j y hj => ?_⟩, ((Below.refl base w0).alloc hbase _).grown h3 (by omega) (fun k hk => (hvlt k hk).1), hkeep, h4.imp_right fun h => by omega⟩
  have hjl : j < l.length + 1 := by have := (List.getElem?_eq_some_iff.1 hj).1; omega
  by_cases hjn : j < l.length
  · rw [List.getElem?_append_left hjn] at hj
    have hle : (j + 1) * c ≤ l.length * c := Nat.mul_le_mul_right c hjn
    rw [Nat.add_mul, Nat.one_mul] at hle
    have hxl := ho.1
    rw [show ((xs ++ cs).drop (j * c)).take c = (xs.drop (j * c)).take c by rw [List.drop_append_of_le_length (by omega), List.take_append_of_le_length (by rw [List.length_drop]; omega)]]
    exact K.sub hsub (K.keep hsm (hxs j y hj))
  · have hjq : j = l.length := by omega
    subst hjq
    rw [List.getElem?_append_right (Nat.le_refl _), Nat.sub_self] at hj
    simp only [List.getElem?_cons_zero, Option.some.injEq] at hj
    subst hj
    rw [← ho.1, List.drop_left, ← hcs, List.take_length]
    exact K.sub hsub (K.keep hsm hx)
def elN : ElK Nd := ⟨fun x _ _ cs => cs = C3 (ni x), fun _ h => h, fun _ h => h⟩
abbrev OwnNd (w : World) (base : Nat) (v : Value) (ns : List Nd) : Prop := OwnE elN 51 3 w base v ns
theorem Tryd.infoN : (Tryd.prog.info? 51).map (fun i => (i.zero, i.size, i.bytes)) = some (some (.agg #[.int .i64 0, .int .i64 0, .int .i64 0]), 3, 24) := by kernel_rfl
/-- append of one node -/
theorem app_nd (w0 : World) (base : Nat) (v : Value) (ns : List Nd) (h : OwnNd w0 base v ns) (x : Nd) (hn : ns.length ≤ 300000000) (hbase : base ≤ w0.heap.size) (ty : TypeId) :
    ∃ g cap w', (Builtin.append_ #[27, 27] ty #[v, .slice (some ⟨w0.heap.size, 0, none⟩) 1 1]).run Tryd.prog (w0.alloc (.cells #[.int .i64 x.l, .int .i64 x.h, .int .i64 x.o] 51)) = .ok (.slice (some ⟨g, 0, none⟩) (ns.length + 1) cap) w' ∧
      OwnNd w' base (.slice (some ⟨g, 0, none⟩) (ns.length + 1) cap) (ns ++ [x]) ∧ Below base w0 w' ∧ (∀ b, b < w0.heap.size → some b ≠ v.ownBlock → w'.heap[b]? = w0.heap[b]?) ∧ (v.ownBlock = some g ∨ w0.heap.size ≤ g) := by
  obtain ⟨i0, hi, hz0, hz1, hz2⟩ := info_parts Tryd.infoN
  exact app_one elN 27 ty 51 i0 (.agg #[.int .i64 0, .int .i64 0, .int .i64 0]) 3 24 Tryd.underlying27 hi hz0 hz1 hz2 rfl (by decide) (by decide) w0 base v ns h x [.int .i64 x.l, .int .i64 x.h, .int .i64 x.o] rfl rfl (by intro u hu; simp at hu; rcases hu with rfl | rfl | rfl <;> rfl) hn hbase _ rfl 1
end Go.Proofs.YtplmbmecjhmiiaaDoor
