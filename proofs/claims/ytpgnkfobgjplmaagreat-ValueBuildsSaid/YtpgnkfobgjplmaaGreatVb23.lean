/- Growing slices of values, keys and entries: a row of the call's own whose elements lie in blocks that are not the row's. -/
import Derived.Test.YtpgnkfobgjplmaaGreatVb22
import Derived.Deep.AppendLies
namespace Go.Proofs.YtpgnkfobgjplmaaGreat
open Go Go.RowKit
/-- how an element x lies in w in blocks of B, its root in the cells cs -/
structure ElK (α : Type) where
  E : α → World → (Nat → Prop) → List Value → Prop
  keep : ∀ {x w w' B cs}, Same B w w' → E x w B cs → E x w' B cs
  sub : ∀ {x w B B' cs}, (∀ b, B b → B' b) → E x w B cs → E x w B' cs
def OwnE {α : Type} (K : ElK α) (e : TypeId) (c : Nat) (w : World) (base : Nat) (v : Value) (l : List α) : Prop :=
  ∃ xs, w.ownsRow base e c v l.length xs ∧ ∀ j x, l[j]? = some x → K.E x w (fun b => base ≤ b ∧ b < w.heap.size ∧ some b ≠ v.ownBlock) ((xs.drop (j * c)).take c)
theorem OwnE.nil {α : Type} (K : ElK α) (e : TypeId) (c : Nat) (w : World) (base : Nat) : OwnE K e c w base (.slice none 0 0) [] := ⟨[], World.ownsRow_nil _ _ _ _, fun j x h => by simp at h⟩
theorem OwnE.form {α : Type} {K : ElK α} {e : TypeId} {c : Nat} {w : World} {base : Nat} {v : Value} {l : List α} (h : OwnE K e c w base v l) : ∃ A cap, v = .slice A l.length cap := by
  obtain ⟨xs, ⟨_, hc⟩, _⟩ := h
  rcases hc with ⟨rfl, hn⟩ | ⟨g, cap, cur, rfl, _⟩
  · exact ⟨none, 0, by rw [hn]⟩
  · exact ⟨_, cap, rfl⟩
/-- the row, seen as a row of trees -/
theorem OwnE.row {α : Type} {K : ElK α} {e : TypeId} {c : Nat} {w : World} {base : Nat} {v : Value} {l : List α} (h : OwnE K e c w base v l) (hc : 0 < c) (hn : l.length ≤ maxLen) :
    RowB w (Btw base w.heap.size) c v l.length (fun j cs => ∃ x, l[j]? = some x ∧ K.E x w (Btw base w.heap.size) cs) := by
  obtain ⟨xs, ho, hx⟩ := h
  exact row_of_owns ho hn (fun g _ h1 h2 => ⟨h1, h2⟩) (fun j hj => ⟨l[j], List.getElem?_eq_getElem hj, K.sub (fun b hb => ⟨hb.1, hb.2.1⟩) (hx j _ (List.getElem?_eq_getElem hj))⟩) hc
/-- what leaves the blocks from base on as they were, keeps the row -/
theorem OwnE.kept {α : Type} {K : ElK α} {e : TypeId} {c : Nat} {w w' : World} {base : Nat} {v : Value} {l : List α} (h : OwnE K e c w base v l) (hs : w.heap.size ≤ w'.heap.size) (hb : ∀ b, base ≤ b → b < w.heap.size → w'.heap[b]? = w.heap[b]?) : OwnE K e c w' base v l := by
  obtain ⟨xs, ho, hx⟩ := h
  refine ⟨xs, ⟨ho.1, ?_⟩, fun j x hj => K.sub (fun b hb => ⟨hb.1, by have := hb.2.1; omega, hb.2.2⟩) (K.keep ⟨hs, fun b i hB hl => World.cell?_of_block (hb b hB.1 hl)⟩ (hx j x hj))⟩
  rcases ho.2 with hn | ⟨g, cap, cur, rfl, hB, hg, rest⟩
  · exact .inl hn
  · exact .inr ⟨g, cap, cur, rfl, hB, (hb g hB (Array.getElem?_eq_some_iff.1 hg).1).trans hg, rest⟩
theorem OwnE.eff {α : Type} {K : ElK α} {e : TypeId} {c p : Nat} {w w' : World} {base : Nat} {v : Value} {l : List α} (h : OwnE K e c w base v l) (hE : Eff p w w') (hp : p < base) : OwnE K e c w' base v l :=
  h.kept hE.size fun b h1 h2 => hE.other b (by omega) h2
theorem OwnE.old {α : Type} {K : ElK α} {e : TypeId} {c : Nat} {w w' : World} {base : Nat} {v : Value} {l : List α} (h : OwnE K e c w base v l) (hb : Below w.heap.size w w') : OwnE K e c w' base v l :=
  h.kept hb.size fun b _ h2 => hb.block b h2
/-- a store into a block that is neither the row's nor above base -/
theorem OwnE.low {α : Type} {K : ElK α} {e : TypeId} {c : Nat} {w : World} {base g i : Nat} {v u : Value} {l : List α} (h : OwnE K e c w base v l) (hg : g < base) : OwnE K e c (w.setCell ⟨g, i, none⟩ u) base v l :=
  h.kept (by simp) fun b h1 _ => heap_setCell_other _ _ _ _ (show b ≠ g by omega)
theorem app_one {α : Type} (K : ElK α) (t ty : TypeId) (e : TypeId) (i : TypeInfo) (z : Value) (c bytes : Nat) (ht : Tryz.prog.underlying t = some (.slice e)) (hi : Tryz.prog.info? e = some i) (hz : i.zero = some z)
    (hsize : i.size = c) (hby : i.bytes = bytes) (hzs : z.cells.size = c) (hc : 0 < c) (hb8 : bytes ≤ 1000)
    (w0 : World) (base : Nat) (v : Value) (l : List α) (h : OwnE K e c w0 base v l) (x : α) (cs : List Value) (hx : K.E x w0 (fun b => base ≤ b ∧ b < w0.heap.size ∧ some b ≠ v.ownBlock) cs) (hcs : cs.length = c) (h1c : ∀ u ∈ cs, u.oneCell' = true)
    (hn : l.length ≤ 1000000) (hbase : base ≤ w0.heap.size) (H : Nat) (hH : w0.heap.size = H) (cap1 : Nat) :
    ∃ g cap w', (Builtin.append_ #[t, t] ty #[v, .slice (some ⟨H, 0, none⟩) 1 cap1]).run Tryz.prog (w0.alloc (.cells cs.toArray e)) = .ok (.slice (some ⟨g, 0, none⟩) (l.length + 1) cap) w' ∧
      OwnE K e c w' base (.slice (some ⟨g, 0, none⟩) (l.length + 1) cap) (l ++ [x]) ∧ Below base w0 w' ∧ (∀ b, b < w0.heap.size → some b ≠ v.ownBlock → w'.heap[b]? = w0.heap[b]?) ∧ (v.ownBlock = some g ∨ H ≤ g) := by
  subst hH
  obtain ⟨xs, ho, hxs⟩ := h
  have hz0 : (w0.alloc (.cells cs.toArray e)).heap.size = w0.heap.size + 1 := by simp
  obtain ⟨g, cap, w', hr, h2, h3, h4, h5⟩ := run_append_lies (P := Tryz.prog) (w := w0.alloc (.cells cs.toArray e)) t ty base e i z c bytes ht hi hz hsize hby hzs hc v l.length xs (World.ownsRow.alloc ho _) ⟨w0.heap.size, 0, none⟩ 1 cap1 cs (by simpa using hcs)
    (World.news_of_block (cs := cs.toArray) (heap_alloc_new w0 _)) h1c (by omega) (by unfold maxLen; omega) (Nat.le_trans (Nat.mul_le_mul (show l.length + 1 ≤ 1000001 by omega) hb8) (by omega)) (by omega) _ hz0
  have hkeep : ∀ b, b < w0.heap.size → some b ≠ v.ownBlock → w'.heap[b]? = w0.heap[b]? := fun b hb hne => (h3.block b (by omega) hne).trans (Below.heap_alloc _ _ _ hb)
  have hvlt : ∀ b, v.ownBlock = some b → base ≤ b ∧ b < w0.heap.size := by
    intro b hb
    rcases ho.2 with ⟨rfl, _⟩ | ⟨g', cap', cur, rfl, hB, hg, _⟩
    · simp [Value.ownBlock] at hb
    · simp [Value.ownBlock] at hb
      subst hb
      exact ⟨hB, (Array.getElem?_eq_some_iff.1 hg).1⟩
  have hs3 := h3.size
  have hsm : Same (fun b => base ≤ b ∧ b < w0.heap.size ∧ some b ≠ v.ownBlock) w0 w' := ⟨by omega, fun b i hB hl => World.cell?_of_block (hkeep b hl hB.2.2)⟩
  have hsub : ∀ b, (base ≤ b ∧ b < w0.heap.size ∧ some b ≠ v.ownBlock) → (base ≤ b ∧ b < w'.heap.size ∧ some b ≠ (Value.slice (some ⟨g, 0, none⟩) (l.length + 1) cap).ownBlock) := by
    intro b ⟨a1, a2, a3⟩
    refine ⟨a1, by omega, ?_⟩
    simp only [Value.ownBlock, ne_eq, Option.some.injEq]
    intro e
    rcases h4 with h4 | h4
    · exact a3 (by rw [h4, e])
    · omega
  have hll : (l ++ [x]).length = l.length + 1 := by simp
  refine ⟨g, cap, w', hr, ⟨xs ++ cs, by rw [hll]; exact h2, fun j y hj => ?_⟩, ((Below.refl base w0).alloc hbase _).grown h3 (by omega) (fun k hk => (hvlt k hk).1), hkeep, h4.imp_right fun h => by omega⟩
  have hjl : j < l.length + 1 := by have := (List.getElem?_eq_some_iff.1 hj).1; omega
  by_cases hjn : j < l.length
  · rw [List.getElem?_append_left hjn] at hj
    have hle : (j + 1) * c ≤ l.length * c := Nat.mul_le_mul_right c hjn
    rw [Nat.add_mul, Nat.one_mul] at hle
    have hxl := ho.1
    rw [show ((xs ++ cs).drop (j * c)).take c = (xs.drop (j * c)).take c by rw [List.drop_append_of_le_length (by omega), List.take_append_of_le_length (by rw [List.length_drop]; omega)]]
    exact K.sub hsub (K.keep hsm (hxs j y hj))
  · have hjq : j = l.length := by omega
    subst hjq
    rw [List.getElem?_append_right (Nat.le_refl _), Nat.sub_self] at hj
    simp only [List.getElem?_cons_zero, Option.some.injEq] at hj
    subst hj
    rw [← ho.1, List.drop_left, ← hcs, List.take_length]
    exact K.sub hsub (K.keep hsm hx)
def elV (k : Nat) : ElK Vl := ⟨fun x w B cs => VB k w B x cs, fun h h' => VB.keep h h', fun h h' => VB.sub h (Nat.le_refl _) h'⟩
def elK : ElK (Int × List UInt8) := ⟨fun x _ _ cs => cs = [.int .i64 x.1, .string ⟨x.2.toArray⟩] ∧ (Lit.int .i64 x.1).wf = true ∧ x.2.length ≤ maxLen, fun _ h => h, fun _ h => h⟩
/-- an entry in nine cells -/
def EnB (k : Nat) (x : En) (w : World) (B : Nat → Prop) (cs : List Value) : Prop :=
  ∃ args fails result, x = .mk args fails result ∧ ∃ ua rs, cs = ua :: .bool fails :: rs ∧ RowB w B 7 ua args.length (fun j cs => ∃ x, args[j]? = some x ∧ VB k w B x cs) ∧ VB k w B result rs
def elE (k : Nat) : ElK En := ⟨EnB k, fun hs ⟨a, f, r, h1, ua, rs, h2, h3, h4⟩ => ⟨a, f, r, h1, ua, rs, h2, h3.keep hs fun _ _ ⟨x, hx, hv⟩ => ⟨x, hx, VB.keep hs hv⟩, VB.keep hs h4⟩, fun hs ⟨a, f, r, h1, ua, rs, h2, h3, h4⟩ => ⟨a, f, r, h1, ua, rs, h2, h3.sub hs fun _ _ ⟨x, hx, hv⟩ => ⟨x, hx, VB.sub hs (Nat.le_refl _) hv⟩, VB.sub hs (Nat.le_refl _) h4⟩⟩
abbrev OwnV (k : Nat) (w : World) (base : Nat) (v : Value) (l : List Vl) : Prop := OwnE (elV k) 27 7 w base v l
abbrev OwnK (w : World) (base : Nat) (v : Value) (l : List (Int × List UInt8)) : Prop := OwnE elK 74 2 w base v l
abbrev OwnEn (k : Nat) (w : World) (base : Nat) (v : Value) (l : List En) : Prop := OwnE (elE k) 55 9 w base v l
theorem Tryz.infoK : (Tryz.prog.info? 74).map (fun i => (i.zero, i.size, i.bytes)) = some (some (.agg #[.int .i64 0, .string ⟨#[]⟩]), 2, 24) := by kernel_rfl
theorem Tryz.infoE : (Tryz.prog.info? 55).map (fun i => (i.zero, i.size, i.bytes)) = some (some (.agg #[.slice none 0 0, .bool false, .int .i64 0, .int .i64 0, .string ⟨#[]⟩, .slice none 0 0, .slice none 0 0, .slice none 0 0, .slice none 0 0]), 9, 160) := by kernel_rfl
theorem wp_app_v {ops : Array Oper} {rest : List Oper} {o : Oper} {a : Act} {Q : Exit → Act → World → Prop} {w0 : World} (hgd : o.guard = none) (s x : Operand)
    (ho : o.op = .call { callee := .builtin .append, args := #[s, x], argTypes := #[22, 22] }) (k : Nat) (base : Nat) (v : Value) (l : List Vl) (hs : a.eval s = v) (hown : OwnV k w0 base v l)
    (y : Vl) (cs : List Value) (cap1 : Nat) (H : Nat) (hH : w0.heap.size = H) (hx : a.eval x = .slice (some ⟨H, 0, none⟩) 1 cap1) (cells : Array Value) (hcells : cells = cs.toArray)
    (hy : (elV k).E y w0 (fun b => base ≤ b ∧ b < w0.heap.size ∧ some b ≠ v.ownBlock) cs) (hcs : cs.length = 7) (h1c : ∀ u ∈ cs, u.oneCell' = true) (hn : l.length ≤ 1000000) (hbase : base ≤ w0.heap.size)
    (h : ∀ g cap w', OwnV k w' base (.slice (some ⟨g, 0, none⟩) (l.length + 1) cap) (l ++ [y]) → Below base w0 w' → (∀ b, b < w0.heap.size → some b ≠ v.ownBlock → w'.heap[b]? = w0.heap[b]?) → (v.ownBlock = some g ∨ H ≤ g) → wpList Tryz.prog ops Q rest (a.put o.dst (.slice (some ⟨g, 0, none⟩) (l.length + 1) cap)) w') :
    wpList Tryz.prog ops Q (o :: rest) a (w0.alloc (.cells cells 27)) := by
  subst hcells
  obtain ⟨i0, hi, hz0, hz1, hz2⟩ := info_parts Tryz.infoV
  obtain ⟨g, cap, w', h1, h2, h3, h4, h5⟩ := app_one (elV k) 22 o.type 27 i0 (.agg #[.int .i64 0, .int .i64 0, .string ⟨#[]⟩, .slice none 0 0, .slice none 0 0, .slice none 0 0, .slice none 0 0]) 7 128 Tryz.underlying22 hi hz0 hz1 hz2 rfl (by decide) (by decide) w0 base v l hown y cs hy hcs h1c hn hbase H hH cap1
  exact Lib.wpList_append_run _ hgd s x 22 22 ho v _ hs hx _ w' h1 (h g cap w' h2 h3 h4 h5)
theorem wp_app_k {ops : Array Oper} {rest : List Oper} {o : Oper} {a : Act} {Q : Exit → Act → World → Prop} {w0 : World} (hgd : o.guard = none) (s x : Operand)
    (ho : o.op = .call { callee := .builtin .append, args := #[s, x], argTypes := #[23, 23] }) (base : Nat) (v : Value) (l : List (Int × List UInt8)) (hs : a.eval s = v) (hown : OwnK w0 base v l)
    (y : (Int × List UInt8)) (cs : List Value) (cap1 : Nat) (H : Nat) (hH : w0.heap.size = H) (hx : a.eval x = .slice (some ⟨H, 0, none⟩) 1 cap1) (cells : Array Value) (hcells : cells = cs.toArray)
    (hy : (elK).E y w0 (fun b => base ≤ b ∧ b < w0.heap.size ∧ some b ≠ v.ownBlock) cs) (hcs : cs.length = 2) (h1c : ∀ u ∈ cs, u.oneCell' = true) (hn : l.length ≤ 1000000) (hbase : base ≤ w0.heap.size)
    (h : ∀ g cap w', OwnK w' base (.slice (some ⟨g, 0, none⟩) (l.length + 1) cap) (l ++ [y]) → Below base w0 w' → (∀ b, b < w0.heap.size → some b ≠ v.ownBlock → w'.heap[b]? = w0.heap[b]?) → (v.ownBlock = some g ∨ H ≤ g) → wpList Tryz.prog ops Q rest (a.put o.dst (.slice (some ⟨g, 0, none⟩) (l.length + 1) cap)) w') :
    wpList Tryz.prog ops Q (o :: rest) a (w0.alloc (.cells cells 74)) := by
  subst hcells
  obtain ⟨i0, hi, hz0, hz1, hz2⟩ := info_parts Tryz.infoK
  obtain ⟨g, cap, w', h1, h2, h3, h4, h5⟩ := app_one (elK) 23 o.type 74 i0 (.agg #[.int .i64 0, .string ⟨#[]⟩]) 2 24 Tryz.underlying23 hi hz0 hz1 hz2 rfl (by decide) (by decide) w0 base v l hown y cs hy hcs h1c hn hbase H hH cap1
  exact Lib.wpList_append_run _ hgd s x 23 23 ho v _ hs hx _ w' h1 (h g cap w' h2 h3 h4 h5)
theorem wp_app_e {ops : Array Oper} {rest : List Oper} {o : Oper} {a : Act} {Q : Exit → Act → World → Prop} {w0 : World} (hgd : o.guard = none) (s x : Operand)
    (ho : o.op = .call { callee := .builtin .append, args := #[s, x], argTypes := #[24, 24] }) (k : Nat) (base : Nat) (v : Value) (l : List En) (hs : a.eval s = v) (hown : OwnEn k w0 base v l)
    (y : En) (cs : List Value) (cap1 : Nat) (H : Nat) (hH : w0.heap.size = H) (hx : a.eval x = .slice (some ⟨H, 0, none⟩) 1 cap1) (cells : Array Value) (hcells : cells = cs.toArray)
    (hy : (elE k).E y w0 (fun b => base ≤ b ∧ b < w0.heap.size ∧ some b ≠ v.ownBlock) cs) (hcs : cs.length = 9) (h1c : ∀ u ∈ cs, u.oneCell' = true) (hn : l.length ≤ 1000000) (hbase : base ≤ w0.heap.size)
    (h : ∀ g cap w', OwnEn k w' base (.slice (some ⟨g, 0, none⟩) (l.length + 1) cap) (l ++ [y]) → Below base w0 w' → (∀ b, b < w0.heap.size → some b ≠ v.ownBlock → w'.heap[b]? = w0.heap[b]?) → (v.ownBlock = some g ∨ H ≤ g) → wpList Tryz.prog ops Q rest (a.put o.dst (.slice (some ⟨g, 0, none⟩) (l.length + 1) cap)) w') :
    wpList Tryz.prog ops Q (o :: rest) a (w0.alloc (.cells cells 55)) := by
  subst hcells
  obtain ⟨i0, hi, hz0, hz1, hz2⟩ := info_parts Tryz.infoE
  obtain ⟨g, cap, w', h1, h2, h3, h4, h5⟩ := app_one (elE k) 24 o.type 55 i0 (.agg #[.slice none 0 0, .bool false, .int .i64 0, .int .i64 0, .string ⟨#[]⟩, .slice none 0 0, .slice none 0 0, .slice none 0 0, .slice none 0 0]) 9 160 Tryz.underlying24 hi hz0 hz1 hz2 rfl (by decide) (by decide) w0 base v l hown y cs hy hcs h1c hn hbase H hH cap1
  exact Lib.wpList_append_run _ hgd s x 24 24 ho v _ hs hx _ w' h1 (h g cap w' h2 h3 h4 h5)
end Go.Proofs.YtpgnkfobgjplmaaGreat
