/- A slice of strings that comes in, and one of the call's own. -/
import Derived.Test.YtkmfpkdcedfgfaaBytes
namespace Go.Proofs.Ytkmfpkdcedfgfaa
open Go.RowKit
/-- the slice of strings .slice A n cap reads as the strings ss, in blocks below B -/
def StrS (w : World) (B : Nat) (A : Option Addr) (n : Nat) (ss : List ByteArray) : Prop :=
  n = ss.length ∧ (∀ s ∈ ss, s.size ≤ maxLen) ∧ (0 < n → ∃ b off, A = some ⟨b, off, none⟩ ∧ b < B ∧ ∀ j s, ss[j]? = some s → w.cell? ⟨b, off + j, none⟩ = some (.string s))
theorem StrS.below {w w' : World} {B : Nat} {A : Option Addr} {n : Nat} {ss : List ByteArray} (h : StrS w B A n ss) (hb : Below B w w') : StrS w' B A n ss :=
  ⟨h.1, h.2.1, fun hn => by
    obtain ⟨b, off, hA, hlt, hc⟩ := h.2.2 hn
    exact ⟨b, off, hA, hlt, fun j s hs => (hb.cell (p := ⟨b, off + j, none⟩) hlt).trans (hc j s hs)⟩⟩
def lists (ss : List ByteArray) : List (List UInt8) := ss.map (fun s => s.data.toList)
theorem lists_snoc (ss : List ByteArray) (k : Nat) (s : ByteArray) (h : ss[k]? = some s) : lists (ss.take (k + 1)) = lists (ss.take k) ++ [s.data.toList] := by
  unfold lists
  rw [List.take_add_one, h]
  simp
theorem Try.infoStr : (Try.prog.info? 9).map (fun i => (i.zero, i.size, i.bytes)) = some (some (.string ⟨#[]⟩), 1, 16) := by kernel_rfl
/-- The slice v owns the strings ss, in a block from B on. -/
def OwnS (w : World) (B : Nat) (v : Value) (ss : List ByteArray) : Prop := w.ownsRow B 9 1 v ss.length (ss.map Value.string)
theorem wp_app_str {ops : Array Oper} {rest : List Oper} {o : Oper} {a : Act} {Q : Exit → Act → World → Prop} {w0 : World} (hgd : o.guard = none) (s x : Operand)
    (ho : o.op = .call { callee := .builtin .append, args := #[s, x], argTypes := #[22, 22] }) (B : Nat) (v : Value) (ss : List ByteArray) (hs : a.eval s = v) (hown : OwnS w0 B v ss)
    (y : ByteArray) (hx : a.eval x = .slice (some ⟨w0.heap.size, 0, none⟩) 1 1) (hbytes : ss.length ≤ 1000000) (hbase : B ≤ w0.heap.size)
    (h : ∀ v' w', OwnS w' B v' (ss ++ [y]) → Below B w0 w' → wpList Try.prog ops Q rest (a.put o.dst v') w') :
    wpList Try.prog ops Q (o :: rest) a (w0.alloc (.cells #[.string y] 9)) := by
  obtain ⟨i0, hi, hz0, hz1, hz2⟩ := info_parts Try.infoStr
  refine wpList_append_own _ hgd s x 22 ho B 9 i0 (.string ⟨#[]⟩) 1 16 Try.underlying22 hi hz0 hz1 hz2 rfl (by decide) v ss.length (ss.map Value.string) hs (World.ownsRow.alloc hown _)
    ⟨w0.heap.size, 0, none⟩ 1 1 [.string y] hx (by simp) ?_ ?_ (by unfold maxLen; omega) (by omega) (by simp; omega) ?_
  · exact World.news_of_block (cs := #[.string y]) (heap_alloc_new w0 _)
  · intro u hu
    simp only [List.mem_singleton] at hu
    subst hu; rfl
  · intro v' w' h1 h2 _
    refine h v' w' (by unfold OwnS; rw [List.length_append, List.map_append]; exact h1) ?_
    exact ((Below.refl B w0).alloc hbase _).grown h2 (by simp; omega) (fun j hj => (hown.lt j hj).1)
theorem OwnS.strS {w : World} {B : Nat} {v : Value} {ss : List ByteArray} (h : OwnS w B v ss) (hm : ∀ s ∈ ss, s.size ≤ maxLen) : ∃ A n cap, v = .slice A n cap ∧ n = ss.length ∧ StrS w w.heap.size A n ss := by
  obtain ⟨hlen, ⟨rfl, h0⟩ | ⟨g, cap, cur, rfl, hB, hg, hnc, hcm, hcs, htk⟩⟩ := id h
  · obtain rfl : ss = [] := List.eq_nil_of_length_eq_zero h0
    exact ⟨_, _, _, rfl, rfl, rfl, by simp, fun h => by omega⟩
  · refine ⟨_, _, _, rfl, rfl, rfl, hm, fun _ => ⟨g, 0, rfl, ?_, ?_⟩⟩
    · rcases Nat.lt_or_ge g w.heap.size with hlt | hge
      · exact hlt
      · rw [Array.getElem?_eq_none hge] at hg; cases hg
    · intro j s hs
      have hj : j < ss.length := (List.getElem?_eq_some_iff.1 hs).1
      have := World.ownsRow.cellAt h j (by omega)
      rw [Nat.zero_add, this, List.getElem?_map, hs]; rfl
end Go.Proofs.Ytkmfpkdcedfgfaa
