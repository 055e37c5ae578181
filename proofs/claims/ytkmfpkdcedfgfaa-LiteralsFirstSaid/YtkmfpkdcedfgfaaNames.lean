/- What the functions on names of atoms return, the program's and the document's. Condition: a string has at most maxLen bytes. -/
import Derived.Test.YtkmfpkdcedfgfaaRows
import Derived.Test.YtkmfpkdcedfgfaaPlain
import Derived.WalkKit
import Derived.WalkSpells
import Derived.WalkLawsBesides
import Derived.BigQuiet
import Derived.Deep.QuietTactic
import Derived.Lib.Hide
import Derived.Outline
namespace Go.Proofs.Ytkmfpkdcedfgfaa
open Go.RowKit
set_option maxHeartbeats 400000 in
theorem isLower_any (c : Int) (w : World) :
    Calls Try.prog 70 #[.int .u8 c] w fun e w' => e = .returned (.bool (lowB c)) ∧ w = w' := by
  go_enter Try.func70, Try.ntmps70
  go_wp2
  all_goals go_ret
  all_goals exact ⟨ret_bool (by unfold lowB; simp; omega), rfl⟩
set_option maxHeartbeats 400000 in
theorem isDigit_any (c : Int) (w : World) :
    Calls Try.prog 71 #[.int .u8 c] w fun e w' => e = .returned (.bool (digB c)) ∧ w = w' := by
  go_enter Try.func71, Try.ntmps71
  go_wp2
  all_goals go_ret
  all_goals exact ⟨ret_bool (by unfold digB; simp; omega), rfl⟩
set_option maxHeartbeats 400000 in
theorem lower_any (c : Int) (w : World) :
    Calls Try.prog 52 #[.int .u8 c] w fun e w' => e = .returned (.bool (lowB c)) ∧ w = w' := by
  go_enter Try.func52, Try.ntmps52
  go_wp2
  all_goals go_ret
  all_goals exact ⟨ret_bool (by unfold lowB; simp; omega), rfl⟩
set_option maxHeartbeats 400000 in
theorem digit_any (c : Int) (w : World) :
    Calls Try.prog 53 #[.int .u8 c] w fun e w' => e = .returned (.bool (digB c)) ∧ w = w' := by
  go_enter Try.func53, Try.ntmps53
  go_wp2
  all_goals go_ret
  all_goals exact ⟨ret_bool (by unfold digB; simp; omega), rfl⟩
set_option maxHeartbeats 800000 in
theorem isAtom_any (s : ByteArray) (w : World) (hs : s.size ≤ maxLen) :
    Calls Try.prog 61 #[.string s] w fun e w' => e = .returned (.bool (atomB s.data.toList)) ∧ w = w' := by
  unfold maxLen at hs
  unfold atomB
  by_cases h1 : s.size < 1
  · go_enter Try.func61, Try.ntmps61
    go_wp2
    go_ret
    exact ⟨ret_bool (nameB_false _ _ _ (by omega)).symm, rfl⟩
  · by_cases h2 : 16 < s.size
    · go_enter Try.func61, Try.ntmps61
      go_wp2
      go_ret
      exact ⟨ret_bool (nameB_false _ _ _ (by omega)).symm, rfl⟩
    · have h3 : 0 < s.size := by omega
      cases h4 : lowB (s[0]'h3).toNat
      · go_enter Try.func61, Try.ntmps61
        go_wp2_with (go_at_call 70; refine (isLower_any _ _).mono ?_; rintro e w' ⟨rfl, rfl⟩)
        go_ret
        exact ⟨ret_bool (nameB_false _ _ _ (.inr (.inr (.inl ⟨h3, h4⟩)))).symm, rfl⟩
      · go_enter Try.func61, Try.ntmps61
        go_wp2_with (go_at_call 70; refine (isLower_any _ _).mono ?_; rintro e w' ⟨rfl, rfl⟩)
        go_loop [3] (fun i => ∃ k : Nat, 1 ≤ k ∧ k ≤ s.size ∧ i = .int .i64 k ∧ ∀ j (h : j < s.size), 1 ≤ j → j < k → atomT (s[j]'h).toNat = true) (fun i => s.size - (intOf i).toNat)
        case atStart => exact ⟨1, by omega, by omega, rfl, fun j h a b => by omega⟩
        case round =>
          obtain ⟨k, hk1, hk, rfl, hall⟩ := hrel
          have HA := Lib.hid hall
          clear hall
          go_wp2_with (first | (go_at_call 70; refine (isLower_any _ _).mono ?_; rintro e w' ⟨rfl, rfl⟩) | (go_at_call 71; refine (isDigit_any _ _).mono ?_; rintro e w' ⟨rfl, rfl⟩))
          · go_round
            case rel => exact ⟨k + 1, by omega, by omega, by go_num, nameStep HA ‹_› (by simp_all [atomT])⟩
            case measure => simp [intOf]; omega
          · go_round
            case rel => exact ⟨k + 1, by omega, by omega, by go_num, nameStep HA ‹_› (by simp_all [atomT])⟩
            case measure => simp [intOf]; omega
          · go_ret
            exact ⟨ret_bool (nameB_false _ _ _ (.inr (.inr (.inr ⟨k, ‹_›, hk1, by simp_all [atomT]⟩)))).symm, rfl⟩
          · go_round
            case rel => exact ⟨k + 1, by omega, by omega, by go_num, nameStep HA ‹_› (by simp_all [atomT])⟩
            case measure => simp [intOf]; omega
          · go_ret
            exact ⟨ret_bool (nameB_true _ _ _ h3 (by omega) h4 (fun j h a => HA.out j h a (by omega))).symm, rfl⟩
set_option maxHeartbeats 800000 in
theorem refIsAtom_any (s : ByteArray) (w : World) (hs : s.size ≤ maxLen) :
    Calls Try.prog 41 #[.string s] w fun e w' => e = .returned (.bool (atomB s.data.toList)) ∧ w = w' := by
  unfold maxLen at hs
  unfold atomB
  by_cases h1 : s.size < 1
  · go_enter Try.func41, Try.ntmps41
    go_wp2
    go_ret
    exact ⟨ret_bool (nameB_false _ _ _ (by omega)).symm, rfl⟩
  · by_cases h2 : 16 < s.size
    · go_enter Try.func41, Try.ntmps41
      go_wp2
      go_ret
      exact ⟨ret_bool (nameB_false _ _ _ (by omega)).symm, rfl⟩
    · have h3 : 0 < s.size := by omega
      cases h4 : lowB (s[0]'h3).toNat
      · go_enter Try.func41, Try.ntmps41
        go_wp2_with (go_at_call 52; refine (lower_any _ _).mono ?_; rintro e w' ⟨rfl, rfl⟩)
        go_ret
        exact ⟨ret_bool (nameB_false _ _ _ (.inr (.inr (.inl ⟨h3, h4⟩)))).symm, rfl⟩
      · go_enter Try.func41, Try.ntmps41
        go_wp2_with (go_at_call 52; refine (lower_any _ _).mono ?_; rintro e w' ⟨rfl, rfl⟩)
        go_loop [3] (fun i => ∃ k : Nat, 1 ≤ k ∧ k ≤ s.size ∧ i = .int .i64 k ∧ ∀ j (h : j < s.size), 1 ≤ j → j < k → atomT (s[j]'h).toNat = true) (fun i => s.size - (intOf i).toNat)
        case atStart => exact ⟨1, by omega, by omega, rfl, fun j h a b => by omega⟩
        case round =>
          obtain ⟨k, hk1, hk, rfl, hall⟩ := hrel
          have HA := Lib.hid hall
          clear hall
          go_wp2_with (first | (go_at_call 52; refine (lower_any _ _).mono ?_; rintro e w' ⟨rfl, rfl⟩) | (go_at_call 53; refine (digit_any _ _).mono ?_; rintro e w' ⟨rfl, rfl⟩))
          · go_round
            case rel => exact ⟨k + 1, by omega, by omega, by go_num, nameStep HA ‹_› (by simp_all [atomT])⟩
            case measure => simp [intOf]; omega
          · go_round
            case rel => exact ⟨k + 1, by omega, by omega, by go_num, nameStep HA ‹_› (by simp_all [atomT])⟩
            case measure => simp [intOf]; omega
          · go_ret
            exact ⟨ret_bool (nameB_false _ _ _ (.inr (.inr (.inr ⟨k, ‹_›, hk1, by simp_all [atomT]⟩)))).symm, rfl⟩
          · go_round
            case rel => exact ⟨k + 1, by omega, by omega, by go_num, nameStep HA ‹_› (by simp_all [atomT])⟩
            case measure => simp [intOf]; omega
          · go_ret
            exact ⟨ret_bool (nameB_true _ _ _ h3 (by omega) h4 (fun j h a => HA.out j h a (by omega))).symm, rfl⟩
end Go.Proofs.Ytkmfpkdcedfgfaa
