/- A map from strings to true that the call makes. -/
import Derived.Test.YtkmfpkdcedfgfaaRows
import Derived.WalkKit
import Derived.Maps.OwnOps
import Derived.Maps.OwnSet
namespace Go.Proofs.Ytkmfpkdcedfgfaa
open Go.RowKit Go.Maps Go.WideMaps
theorem plainElem_bool_inv {P : Program} {e : TypeId} (he : P.underlying e = some .bool) {v : Value} {z : DataW Unit × List MemPlace} (h : plainElem P e v = some z) : ∃ x, v = .bool x ∧ z = (.lit (.bool x), []) := by
  unfold plainElem at h
  rw [he] at h
  cases v <;> simp at h
  exact ⟨_, rfl, h.symm⟩
/-- block b is a map of at most n entries that holds true at the strings acc, and nothing else -/
def MapB (w : World) (b n : Nat) (acc : List (List UInt8)) : Prop :=
  w.ownsMap Try.prog 9 (plainElem Try.prog 4) b n (setOf (H := Unit) (.lit (.bool true)) (acc.map Lit.string))
theorem atKey_fold (u z : DataW Unit) (k : List UInt8) : ∀ (acc : List (List UInt8)) (m : DataW Unit), IsMap m →
    ((acc.map Lit.string).foldl (fun m x => m.put x u) m).atKey (.string k) z = if k ∈ acc then u else m.atKey (.string k) z
  | [], m, _ => by simp
  | x :: acc, m, hm => by
    rw [List.map_cons, List.foldl_cons, atKey_fold u z k acc _ (hm.put _ _)]
    by_cases e : k = x
    · subst e
      rw [atKey_put_same hm (by trivial)]
      simp
    · rw [atKey_put_other (fun h => e (by injection h))]
      simp [e]
theorem atKey_setOf (u z : DataW Unit) (k : List UInt8) (acc : List (List UInt8)) : (setOf u (acc.map Lit.string)).atKey (.string k) z = if k ∈ acc then u else (DataW.map []).atKey (.string k) z := atKey_fold u z k acc _ isMap_empty
theorem zeroBool (w : World) : (zeroValue 4).run Try.prog w = .ok (.bool false) w := by kernel_rfl
theorem MapB.look {w : World} {b n : Nat} {acc : List (List UInt8)} (h : MapB w b n acc) (s : ByteArray) (hs : s.size ≤ maxLen) :
    (Instr.lookup 70 (.map (some b)) (.string s) false).run Try.prog w = .ok (.bool (decide (s.data.toList ∈ acc))) w := by
  obtain ⟨v, ps, hrun, hv⟩ := World.ownsMap.lookup h (string_keyed Try.underlying9) Try.underlying70 (zeroBool w) (plainElem_bool Try.underlying4 false) (keyOf_string_mk Try.underlying9 hs)
  obtain ⟨x, rfl, hx⟩ := plainElem_bool_inv Try.underlying4 hv
  rw [hrun]
  simp only [Prod.mk.injEq] at hx
  have h1 := hx.1
  rw [atKey_setOf] at h1
  by_cases hm : s.data.toList ∈ acc
  · rw [if_pos hm] at h1
    injection h1 with h1; injection h1 with h1
    simp [hm, ← h1]
  · rw [if_neg hm] at h1
    have h2 : (DataW.lit (.bool false) : DataW Unit) = .lit (.bool x) := h1
    injection h2 with h2; injection h2 with h2
    simp [hm, ← h2]
theorem MapB.below {w w' : World} {b n B : Nat} {acc : List (List UInt8)} (h : MapB w b n acc) (hb : Below B w w') (hB : b < B) : MapB w' b n acc := by
  obtain ⟨es, clock, hh, F, hs, hD⟩ := h
  exact ⟨es, clock, (hb.block b hB).trans hh, F, hs, hD⟩
theorem MapB.made (w : World) : MapB (w.alloc (.map #[] 0)) w.heap.size 0 [] := World.ownsMap_made _ _ _ _
theorem MapB.lt {w : World} {b n : Nat} {acc : List (List UInt8)} (h : MapB w b n acc) : b < w.heap.size := World.ownsMap.lt h
theorem wp_map_store {ops : Array Oper} {rest : List Oper} {o : Oper} {a : Act} {Q : Exit → Act → World → Prop} {w : World} (hg : o.guard = none) (m x y : Operand) (ho : o.op = .mapUpdate 70 m x y)
    (b n : Nat) (acc : List (List UInt8)) (hm : a.eval m = .map (some b)) (h : MapB w b n acc) (hn : n < maxLen) (s : ByteArray) (hx : a.eval x = .string s) (hs : s.size ≤ maxLen) (hy : a.eval y = .bool true)
    (k : ∀ w1, MapB w1 b (n + 1) (acc ++ [s.data.toList]) → w.grownBy w1 (some b) → wpList Try.prog ops Q rest (a.put o.dst undef) w1) :
    wpList Try.prog ops Q (o :: rest) a w := by
  refine wpList_mapUpdate_own _ hg _ _ _ 70 ho 9 4 (string_keyed Try.underlying9) Try.underlying70 _ b n _ hm h hn _ _ _ hx hy (keyOf_string_mk Try.underlying9 hs) _ [] (plainElem_bool Try.underlying4 true) ?_
  intro w1 h1 h2
  refine k w1 ?_ h2
  unfold MapB
  rw [List.map_append, List.map_cons, List.map_nil, setOf_snoc]
  exact h1
end Go.Proofs.Ytkmfpkdcedfgfaa
