/- Rows cut at an index; a row of the call's own from its first cell; an operation of a drawn region that is skipped. -/
import Derived.Test.YtcjgaohblaidjaaGreatDoorVb29
namespace Go.Proofs.YtcjgaohblaidjaaGreatDoor
open Go Go.RowKit
theorem RowB.drop {w : World} {B : Nat → Prop} {c n cap p g o : Nat} {R : Nat → List Value → Prop} (h : RowB w B c (.slice (some ⟨g, o, none⟩) n cap) n R) (hp : p < n) (o2 cap2 : Nat) (ho : o2 = o + p * c) (hc2 : cap2 = cap - p := by rfl) : RowB w B c (.slice (some ⟨g, o2, none⟩) (n - p) cap2) (n - p) (fun j cs => R (p + j) cs) := by
 subst ho hc2
 obtain ⟨A', cap', h1, h2, h3⟩ := h
 injection h1 with e1 _ e3
 subst e1 e3
 refine ⟨_, cap - p, rfl, by omega, fun _ => ?_⟩
 obtain ⟨b, off, h4, h5, h6, h7⟩ := h3 (by omega)
 injection h4 with h4
 injection h4 with e1 e2
 subst e1 e2
 refine ⟨g, o + p * c, rfl, h5, h6, fun j hj => ?_⟩
 obtain ⟨cs, h8, h9, h10⟩ := h7 (p + j) (by omega)
 exact ⟨cs, h8, fun i hi => by rw [← h9 i hi, Nat.add_mul, Nat.add_assoc o], h10⟩
theorem OwnE.mono {α : Type} {K : ElK α} {e : TypeId} {c : Nat} {w : World} {base base' : Nat} {v : Value} {l : List α} (h : OwnE K e c w base v l) (hb : base' ≤ base) : OwnE K e c w base' v l := by
 obtain ⟨xs, ho, hx⟩ := h
 refine ⟨xs, ⟨ho.1, ?_⟩, fun j x hj => K.sub (fun b h => ⟨by have := h.1; omega, h.2⟩) (hx j x hj)⟩
 rcases ho.2 with hn | ⟨g, cap, cur, hv, hg, rest⟩
 · exact .inl hn
 · exact .inr ⟨g, cap, cur, hv, by omega, rest⟩
theorem OwnE.formG {α : Type} {K : ElK α} {e : TypeId} {c : Nat} {w : World} {base : Nat} {v : Value} {l : List α} (h : OwnE K e c w base v l) (hl : 0 < l.length) : ∃ g cap, v = .slice (some ⟨g, 0, none⟩) l.length cap ∧ base ≤ g ∧ g < w.heap.size ∧ l.length ≤ cap := by
 have hlt := h.blk
 obtain ⟨xs, ho, _⟩ := h
 rcases ho.2 with ⟨_, h0⟩ | ⟨g, cap, cur, rfl, hB, hg, hnc, _⟩
 · omega
 · exact ⟨g, cap, rfl, hB, (hlt g rfl).2, hnc⟩
theorem skip_op {P : Program} {md : Region.Mode} {l : List Oper} {Q : Exit → Act → World → Prop} {S : World → Prop} (i : Nat) {o : Oper} {fuel : Nat} {listed : Array Bool} {a : Act} {w : World} (hr : Region.ready md l.toArray listed = [i]) (ho : nthOp l i = some o)
  (hw : Region.wanted o (yielded l.toArray a.tmps) = false) (hS : S w) (h : wpAnyH P md l.toArray Q S fuel (listed.setIfInBounds i true) (a.put o.dst undef) w) : wpAnyH P md l.toArray Q S (fuel + 1) listed a w := by
 refine wpAnyH_all (rs := [i]) hr (by simp) fun j hj => ?_
 obtain rfl : j = i := by simpa using hj
 exact wpOp_step (op_at ho) fun K' hK => by rw [if_neg (by rw [hw]; decide)]; exact hK _ _ ⟨hS, h⟩
theorem wp_rowg_v {ops : Array Oper} {rest : List Oper} {o : Oper} {a : Act} {Q : Exit → Act → World → Prop} {w0 : World} (K : ElK Vl) (h1K : ∀ x w B cs, K.E x w B cs → ∀ u ∈ cs, u.oneCell' = true) (hgd : o.guard = none) (s x : Operand)
  (ho : o.op = .call { callee := .builtin .append, args := #[s, x], argTypes := #[22, 22] }) (base : Nat) (v : Value) (l : List Vl) (hs : a.eval s = v) (hown : OwnE K 27 7 w0 base v l)
  (A : Option Addr) (m cap1 : Nat) (l' : List Vl) (hm : l'.length = m) (Bs : Nat → Prop) (hx : a.eval x = .slice A m cap1)
  (hR : RowB w0 Bs 7 (.slice A m cap1) m (fun j cs => ∃ y, l'[j]? = some y ∧ K.E y w0 (fun b => base ≤ b ∧ b < w0.heap.size ∧ some b ≠ v.ownBlock) cs)) (hn : l.length + m ≤ 300000000) (hbase : base ≤ w0.heap.size)
  (h : ∀ v' w', OwnE K 27 7 w' base v' (l ++ l') → Below base w0 w' → (∀ b, b < w0.heap.size → some b ≠ v.ownBlock → w'.heap[b]? = w0.heap[b]?) → (∀ g, v'.ownBlock = some g → v.ownBlock = some g ∨ w0.heap.size ≤ g) → wpList Tryz.prog ops Q rest (a.put o.dst v') w') :
  wpList Tryz.prog ops Q (o :: rest) a w0 := by
 obtain ⟨i0, hi, hz0, hz1, hz2⟩ := info_parts Tryz.infoV
 obtain ⟨v', w', h1, h2, h3, h4, h5⟩ := app_row K 22 o.type 27 i0 (.agg #[.int .i64 0, .int .i64 0, .string ⟨#[]⟩, .slice none 0 0, .slice none 0 0, .slice none 0 0, .slice none 0 0]) 7 128 Tryz.underlying22 hi hz0 hz1 hz2 rfl (by decide) (by decide) h1K w0 base v l hown A m cap1 l' hm Bs hR hn hbase
 exact Lib.wpList_append_run _ hgd s x 22 22 ho v _ hs hx _ w' h1 (h v' w' h2 h3 h4 h5)
theorem wp_rowg_e {ops : Array Oper} {rest : List Oper} {o : Oper} {a : Act} {Q : Exit → Act → World → Prop} {w0 : World} (K : ElK En) (h1K : ∀ x w B cs, K.E x w B cs → ∀ u ∈ cs, u.oneCell' = true) (hgd : o.guard = none) (s x : Operand)
  (ho : o.op = .call { callee := .builtin .append, args := #[s, x], argTypes := #[24, 24] }) (base : Nat) (v : Value) (l : List En) (hs : a.eval s = v) (hown : OwnE K 45 9 w0 base v l)
  (A : Option Addr) (m cap1 : Nat) (l' : List En) (hm : l'.length = m) (Bs : Nat → Prop) (hx : a.eval x = .slice A m cap1)
  (hR : RowB w0 Bs 9 (.slice A m cap1) m (fun j cs => ∃ y, l'[j]? = some y ∧ K.E y w0 (fun b => base ≤ b ∧ b < w0.heap.size ∧ some b ≠ v.ownBlock) cs)) (hn : l.length + m ≤ 300000000) (hbase : base ≤ w0.heap.size)
  (h : ∀ v' w', OwnE K 45 9 w' base v' (l ++ l') → Below base w0 w' → (∀ b, b < w0.heap.size → some b ≠ v.ownBlock → w'.heap[b]? = w0.heap[b]?) → (∀ g, v'.ownBlock = some g → v.ownBlock = some g ∨ w0.heap.size ≤ g) → wpList Tryz.prog ops Q rest (a.put o.dst v') w') :
  wpList Tryz.prog ops Q (o :: rest) a w0 := by
 obtain ⟨i0, hi, hz0, hz1, hz2⟩ := info_parts Tryz.infoE
 obtain ⟨v', w', h1, h2, h3, h4, h5⟩ := app_row K 24 o.type 45 i0 (.agg #[.slice none 0 0, .bool false, .int .i64 0, .int .i64 0, .string ⟨#[]⟩, .slice none 0 0, .slice none 0 0, .slice none 0 0, .slice none 0 0]) 9 160 Tryz.underlying24 hi hz0 hz1 hz2 rfl (by decide) (by decide) h1K w0 base v l hown A m cap1 l' hm Bs hR hn hbase
 exact Lib.wpList_append_run _ hgd s x 24 24 ho v _ hs hx _ w' h1 (h v' w' h2 h3 h4 h5)
theorem List.len_ne {α : Type} {l : List α} (h : ¬ l.length = 0) : 0 < l.length := by omega
end Go.Proofs.YtcjgaohblaidjaaGreatDoor
