/- What CompareKeys returns, the program's and the document's. Conditions: none. -/
import Derived.Test.YtjinngobiefifaaDoorNames
import Derived.Test.YtjinngobiefifaaDoorShelf
namespace Go.Proofs.YtjinngobiefifaaDoor
open Go.RowKit
def cmpKey (k1 : Int) (s1 : List UInt8) (k2 : Int) (s2 : List UInt8) : Int :=
  if k1 < k2 then -1 else if k2 < k1 then 1 else Lib.compareBytes s1 s2
theorem toList_data (s : ByteArray) : s.toList = s.data.toList := Lib.toList_data s
theorem compare_lt : ∀ {a b : List UInt8}, Op.bytesLess a b = true → Lib.compareBytes a b = -1
  | [], [], h => by simp [Op.bytesLess] at h
  | [], _ :: _, _ => rfl
  | _ :: _, [], h => by simp [Op.bytesLess] at h
  | a :: x, b :: y, h => by
    simp only [Op.bytesLess, Bool.or_eq_true, decide_eq_true_eq, Bool.and_eq_true, beq_iff_eq] at h
    unfold Lib.compareBytes
    by_cases h1 : a < b
    · rw [if_pos h1]
    · rcases h with h | ⟨rfl, h⟩
      · exact absurd h h1
      · rw [if_neg h1, if_neg h1]; exact compare_lt h
theorem compare_eq {a b : List UInt8} (h : a = b) : Lib.compareBytes a b = 0 := by
  subst h
  induction a with
  | nil => rfl
  | cons x r ih => unfold Lib.compareBytes; simp [ih]
theorem compare_gt : ∀ {a b : List UInt8}, Op.bytesLess a b = false → a ≠ b → Lib.compareBytes a b = 1
  | [], [], _, h => absurd rfl h
  | [], _ :: _, h, _ => by simp [Op.bytesLess] at h
  | _ :: _, [], _, _ => rfl
  | a :: x, b :: y, h, hne => by
    simp only [Op.bytesLess, Bool.or_eq_false_iff, decide_eq_false_iff_not, Bool.and_eq_false_imp, beq_iff_eq] at h
    unfold Lib.compareBytes
    rw [if_neg h.1]
    by_cases h1 : b < a
    · rw [if_pos h1]
    · rw [if_neg h1]
      have e : a = b := UInt8.le_antisymm (UInt8.not_lt.1 h1) (UInt8.not_lt.1 h.1)
      subst e
      exact compare_gt (h.2 rfl) (fun e => hne (by rw [e]))
set_option maxHeartbeats 400000 in
theorem refOrder_any (a b : Int) (w : World) :
    Calls Tryd.prog 38 #[.int .i64 a, .int .i64 b] w fun e w' => e = .returned (.int .i64 (if a < b then -1 else if b < a then 1 else 0)) ∧ w = w' := by
  go_enter Tryd.func38, Tryd.ntmps38
  go_wp2
  all_goals go_ret
  all_goals exact ⟨ret_int (by simp_all <;> omega), rfl⟩
set_option maxHeartbeats 400000 in
theorem refText_any (a b : ByteArray) (w : World) :
    Calls Tryd.prog 39 #[.string a, .string b] w fun e w' => e = .returned (.int .i64 (Lib.compareBytes a.data.toList b.data.toList)) ∧ w = w' := by
  go_enter Tryd.func39, Tryd.ntmps39
  go_wp2
  all_goals go_ret
  all_goals simp only [toList_data] at *
  · exact ⟨ret_int (compare_lt ‹_›).symm, trivial⟩
  · exact ⟨ret_int (compare_gt ‹_› (by simp_all)).symm, trivial⟩
  · exact ⟨ret_int (compare_eq (by simp_all)).symm, trivial⟩
set_option maxHeartbeats 400000 in
theorem compareKeys_any (k1 k2 : Int) (s1 s2 : ByteArray) (w : World) :
    Calls Tryd.prog 17 #[.agg #[.int .i64 k1, .string s1], .agg #[.int .i64 k2, .string s2]] w fun e w' => e = .returned (.int .i64 (cmpKey k1 s1.data.toList k2 s2.data.toList)) ∧ Below w.heap.size w w' := by
  by_cases h : k1 = k2
  · subst h
    have hc : Lib.compareInt k1 k1 = 0 := by simp [Lib.compareInt]
    go_enter Tryd.func17, Tryd.ntmps17
    go_wp2_with (first | (go_at_call 36; refine (Tryd.cmp_Compare_int _ _ _).mono ?_; rintro e w' ⟨rfl, rfl⟩) | (go_at_call 37; refine (Tryd.strings_Compare _ _ _).mono ?_; rintro e w' ⟨rfl, rfl⟩))
    go_ret
    exact ⟨ret_int (by simp [cmpKey]), ((Below.refl _ _).alloc (Nat.le_refl _) _).alloc (by simp) _⟩
  · have hc : (Lib.compareInt k1 k2 != 0) = true := by simp [Lib.compareInt]; omega
    go_enter Tryd.func17, Tryd.ntmps17
    go_wp2_with (first | (go_at_call 36; refine (Tryd.cmp_Compare_int _ _ _).mono ?_; rintro e w' ⟨rfl, rfl⟩) | (go_at_call 37; refine (Tryd.strings_Compare _ _ _).mono ?_; rintro e w' ⟨rfl, rfl⟩))
    go_ret
    exact ⟨ret_int (by simp [cmpKey, Lib.compareInt]; omega), ((Below.refl _ _).alloc (Nat.le_refl _) _).alloc (by simp) _⟩
set_option maxHeartbeats 400000 in
theorem refCompareKeys_any (k1 k2 : Int) (s1 s2 : ByteArray) (w : World) :
    Calls Tryd.prog 18 #[.agg #[.int .i64 k1, .string s1], .agg #[.int .i64 k2, .string s2]] w fun e w' => e = .returned (.int .i64 (cmpKey k1 s1.data.toList k2 s2.data.toList)) ∧ Below w.heap.size w w' := by
  by_cases h : k1 = k2
  · subst h
    go_enter Tryd.func18, Tryd.ntmps18
    go_wp2_with (first | (go_at_call 38; refine (refOrder_any _ _ _).mono ?_; rintro e w' ⟨rfl, rfl⟩) | (go_at_call 39; refine (refText_any _ _ _).mono ?_; rintro e w' ⟨rfl, rfl⟩))
    go_ret
    exact ⟨ret_int (by simp [cmpKey]), ((Below.refl _ _).alloc (Nat.le_refl _) _).alloc (by simp) _⟩
  · have hc : (k1 != k2) = true := by simp [h]
    go_enter Tryd.func18, Tryd.ntmps18
    go_wp2_with (first | (go_at_call 38; refine (refOrder_any _ _ _).mono ?_; rintro e w' ⟨rfl, rfl⟩) | (go_at_call 39; refine (refText_any _ _ _).mono ?_; rintro e w' ⟨rfl, rfl⟩))
    all_goals go_ret
    all_goals exact ⟨ret_int (by simp [cmpKey]; omega), ((Below.refl _ _).alloc (Nat.le_refl _) _).alloc (by simp) _⟩
end Go.Proofs.YtjinngobiefifaaDoor
