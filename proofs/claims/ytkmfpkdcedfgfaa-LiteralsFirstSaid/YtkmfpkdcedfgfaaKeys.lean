/- What ValidKey returns, the program's and the document's. Condition: the key's text has at most maxLen bytes. -/
import Derived.Test.YtkmfpkdcedfgfaaNames
import Derived.Deep.RegionHeld3
namespace Go.Proofs.Ytkmfpkdcedfgfaa
open Go.RowKit
set_option maxHeartbeats 400000 in
theorem validKey_any (k : Int) (s : ByteArray) (w : World) (hs : s.size ≤ maxLen) :
    Calls Try.prog 48 #[.agg #[.int .i64 k, .string s]] w fun e w' => e = .returned (.bool (keyB k s.data.toList)) ∧ Below w.heap.size w w' := by
  have hs' := hs
  unfold maxLen at hs'
  have hlen : s.data.toList.length = s.size := by simp
  by_cases h0 : k = 0
  · subst h0
    go_enter Try.func48, Try.ntmps48
    go_wp2_with (go_at_call 61; refine (isAtom_any _ _ hs).mono ?_; rintro e w' ⟨rfl, rfl⟩)
    go_ret
    exact ⟨ret_bool (by simp [keyB] <;> omega), (Below.refl _ _).alloc (Nat.le_refl _) _⟩
  · by_cases h1 : k = 1
    · subst h1
      go_enter Try.func48, Try.ntmps48
      go_wp2
      go_ret
      exact ⟨ret_bool (by simp [keyB] <;> omega), (Below.refl _ _).alloc (Nat.le_refl _) _⟩
    · go_enter Try.func48, Try.ntmps48
      go_wp2
      go_ret
      exact ⟨ret_bool (by simp [keyB, h0, h1]), (Below.refl _ _).alloc (Nat.le_refl _) _⟩
set_option maxHeartbeats 400000 in
theorem refValidKey_any (k : Int) (s : ByteArray) (w : World) (hs : s.size ≤ maxLen) :
    Calls Try.prog 27 #[.agg #[.int .i64 k, .string s]] w fun e w' => e = .returned (.bool (keyB k s.data.toList)) ∧ Below w.heap.size w w' := by
  have hs' := hs
  unfold maxLen at hs'
  have hlen : s.data.toList.length = s.size := by simp
  by_cases h0 : k = 0
  · subst h0
    go_enter Try.func27, Try.ntmps27
    go_wp2_with (go_at_call 41; refine (refIsAtom_any _ _ hs).mono ?_; rintro e w' ⟨rfl, rfl⟩)
    all_goals go_ret
    all_goals exact ⟨ret_bool (by simp_all [keyB]), (Below.refl _ _).alloc (Nat.le_refl _) _⟩
  · by_cases h1 : k = 1
    · subst h1
      go_enter Try.func27, Try.ntmps27
      go_wp2
      go_ret
      exact ⟨ret_bool (by simp [keyB] <;> omega), (Below.refl _ _).alloc (Nat.le_refl _) _⟩
    · go_enter Try.func27, Try.ntmps27
      go_wp2
      go_ret
      exact ⟨ret_bool (by simp [keyB, h0, h1]), (Below.refl _ _).alloc (Nat.le_refl _) _⟩
end Go.Proofs.Ytkmfpkdcedfgfaa
