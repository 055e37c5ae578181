/- An append of ranges to a slice of the call's own, with what it leaves as it was. -/
import Derived.Test.YtahapkbapbgbiaaKit
import Derived.Lib.AppendZeros
namespace Go.Proofs.Ytahapkbapbgbiaa
open Go.RowKit
/-- blocks below H but v's own are as they were -/
def KeptBut (H : Nat) (v : Value) (w w' : World) : Prop := ∀ k, k < H → some k ≠ v.ownBlock → w'.heap[k]? = w.heap[k]?
theorem KeptBut.cell {H : Nat} {v : Value} {w w' : World} (h : KeptBut H v w w') {b : Nat} (hb : b < H) (hne : some b ≠ v.ownBlock) (o : Nat) : w'.cell? ⟨b, o, none⟩ = w.cell? ⟨b, o, none⟩ := World.cell?_of_block (h b hb hne)
theorem KeptBut.frozen {H : Nat} {v : Value} {w w' : World} (h : KeptBut H v w w') {b : Nat} (hb : b < H) (hne : some b ≠ v.ownBlock) (o : Nat) : w'.frozen? ⟨b, o, none⟩ = w.frozen? ⟨b, o, none⟩ := World.frozen?_of_block (h b hb hne)
theorem KeptBut.own {H : Nat} {v : Value} {w w' : World} (h : KeptBut H v w w') {B : Nat} {u : Value} {rs : List Rg} (hu : OwnR w B u rs) (hH : w.heap.size ≤ H) (hne : u.ownBlock = none ∨ u.ownBlock ≠ v.ownBlock) : OwnR w' B u rs := by
  have hl := hu.lt
  refine ⟨hu.1, ?_⟩
  rcases hu.2 with hn | ⟨g, cap, cur, rfl, hB, hg, rest⟩
  · exact .inl hn
  · refine .inr ⟨g, cap, cur, rfl, hB, ?_, rest⟩
    have hn : some g ≠ v.ownBlock := by
      rcases hne with h0 | h0
      · simp [Value.ownBlock] at h0
      · exact h0
    rw [h g (by have := (hl g rfl).2; omega) hn]
    exact hg
theorem run_app_one {w0 : World} {B : Nat} {v : Value} {l : List Rg} (hown : OwnR w0 B v l) (l' : List Rg) (m c : Nat) (hm : l'.length = m) (hm0 : 0 < m) (cells : Array Value) (hc : cells.toList = flatR l') (H : Nat) (hH : w0.heap.size = H)
    (hbytes : l.length + m ≤ 1000000000) (hbase : B ≤ w0.heap.size) (ty : TypeId) :
    ∃ g cap w', (Builtin.append_ #[22, 22] ty #[v, .slice (some ⟨H, 0, none⟩) m c]).run Try.prog (w0.alloc (.cells cells 35)) = .ok (.slice (some ⟨g, 0, none⟩) (l.length + m) cap) w' ∧
      OwnR w' B (.slice (some ⟨g, 0, none⟩) (l.length + m) cap) (l ++ l') ∧ KeptBut H v w0 w' ∧ (v.ownBlock = some g ∨ H ≤ g) ∧ Below B w0 w' ∧ w0.heap.size ≤ w'.heap.size := by
  obtain ⟨i0, hi, hz0, hz1, hz2⟩ := info_parts Try.infoR
  subst hm
  subst hH
  have ho1 : (w0.alloc (.cells cells 35)).ownsRow B 35 2 v l.length (flatR l) := World.ownsRow.alloc hown _
  obtain ⟨g, cap, w', hr, h2, h3, h4, _⟩ := run_append_lies (w0.alloc (.cells cells 35)) 22 ty B 35 i0 (.agg #[.int .i64 0, .int .i64 0]) 2 16 Try.underlying22 hi hz0 hz1 hz2 rfl (by decide) v l.length (flatR l) ho1
    ⟨w0.heap.size, 0, none⟩ l'.length c (flatR l') (flatR_length l') (by rw [← hc]; exact World.news_of_block (heap_alloc_new w0 _)) (flatR_one l') hm0 (by unfold maxLen; omega) (by omega) (by simp; omega) _ rfl
  refine ⟨g, cap, w', hr, by unfold OwnR; rw [List.length_append, flatR_append]; exact h2, fun k hk hne => ?_, ?_, hown.below hbase h3, ?_⟩
  · rw [h3.block k (by simp; omega) hne]
    exact Below.heap_alloc _ _ _ hk
  · rcases h4 with h4 | h4
    · exact .inl h4
    · right; simp at h4; omega
  · have := h3.size; simp at this; omega
theorem wp_app_rL {ops : Array Oper} {rest : List Oper} {o : Oper} {a : Act} {Q : Exit → Act → World → Prop} {w0 : World} (hgd : o.guard = none) (s x : Operand)
    (ho : o.op = .call { callee := .builtin .append, args := #[s, x], argTypes := #[22, 22] }) (B : Nat) (v : Value) (l : List Rg) (hs : a.eval s = v) (hown : OwnR w0 B v l)
    (l' : List Rg) (m c : Nat) (hm : l'.length = m) (hm0 : 0 < m) (cells : Array Value) (hc : cells.toList = flatR l') (H : Nat) (hH : w0.heap.size = H) (hx : a.eval x = .slice (some ⟨H, 0, none⟩) m c)
    (hbytes : l.length + m ≤ 1000000000) (hbase : B ≤ w0.heap.size)
    (h : ∀ g cap w', OwnR w' B (.slice (some ⟨g, 0, none⟩) (l.length + m) cap) (l ++ l') → KeptBut H v w0 w' → (v.ownBlock = some g ∨ H ≤ g) → Below B w0 w' → w0.heap.size ≤ w'.heap.size → wpList Try.prog ops Q rest (a.put o.dst (.slice (some ⟨g, 0, none⟩) (l.length + m) cap)) w') :
    wpList Try.prog ops Q (o :: rest) a (w0.alloc (.cells cells 35)) := by
  obtain ⟨g, cap, w', h1, h2, h3, h4, h5, h6⟩ := run_app_one hown l' m c hm hm0 cells hc H hH hbytes hbase o.type
  exact Lib.wpList_append_run _ hgd s x 22 22 ho v _ hs hx _ w' h1 (h g cap w' h2 h3 h4 h5 h6)
end Go.Proofs.Ytahapkbapbgbiaa
