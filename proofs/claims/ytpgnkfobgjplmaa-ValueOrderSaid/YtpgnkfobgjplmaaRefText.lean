/- What the document's Text and CompareKeys return. Conditions: none. -/
import Derived.Test.YtpgnkfobgjplmaaCmpBase
import Derived.WalkSpells
import Derived.WalkLawsBesides
import Derived.Outline
namespace Go.Proofs.Ytpgnkfobgjplmaa
open Go Go.RowKit
theorem toList_data (s : ByteArray) : s.toList = s.data.toList := Lib.toList_data s
theorem compare_lt : ∀ {a b : List UInt8}, Op.bytesLess a b = true → Lib.compareBytes a b = -1
  | [], [], h => by simp [Op.bytesLess] at h
  | [], _ :: _, _ => rfl
  | _ :: _, [], h => by simp [Op.bytesLess] at h
  | a :: x, b :: y, h => by
    simp only [Op.bytesLess, Bool.or_eq_true, decide_eq_true_eq, Bool.and_eq_true, beq_iff_eq] at h
    unfold Lib.compareBytes
    by_cases h1 : a < b
    · rw [if_pos h1]
    · rcases h with h | ⟨rfl, h⟩
      · exact absurd h h1
      · rw [if_neg h1, if_neg h1]; exact compare_lt h
theorem compare_eq {a b : List UInt8} (h : a = b) : Lib.compareBytes a b = 0 := by
  subst h
  induction a with
  | nil => rfl
  | cons x r ih => unfold Lib.compareBytes; simp [ih]
theorem compare_gt : ∀ {a b : List UInt8}, Op.bytesLess a b = false → a ≠ b → Lib.compareBytes a b = 1
  | [], [], _, h => absurd rfl h
  | [], _ :: _, h, _ => by simp [Op.bytesLess] at h
  | _ :: _, [], _, _ => rfl
  | a :: x, b :: y, h, hne => by
    simp only [Op.bytesLess, Bool.or_eq_false_iff, decide_eq_false_iff_not, Bool.and_eq_false_imp, beq_iff_eq] at h
    unfold Lib.compareBytes
    rw [if_neg h.1]
    by_cases h1 : b < a
    · rw [if_pos h1]
    · rw [if_neg h1]
      have e : a = b := UInt8.le_antisymm (UInt8.not_lt.1 h1) (UInt8.not_lt.1 h.1)
      subst e
      exact compare_gt (h.2 rfl) (fun e => hne (by rw [e]))
set_option maxHeartbeats 400000 in
theorem refTextA_any (a b : ByteArray) (w : World) :
    Calls Try.prog 28 #[.string a, .string b] w fun e w' => e = .returned (.int .i64 (Lib.compareBytes a.data.toList b.data.toList)) ∧ w = w' := by
  go_enter Try.func28, Try.ntmps28
  go_wp2
  all_goals go_ret
  all_goals simp only [toList_data] at *
  · exact ⟨ret_i (compare_lt ‹_›).symm, trivial⟩
  · exact ⟨ret_i (compare_gt ‹_› (by simp_all)).symm, trivial⟩
  · exact ⟨ret_i (compare_eq (by simp_all)).symm, trivial⟩
theorem refText_any (a b : List UInt8) (w : World) :
    Calls Try.prog 28 #[.string ⟨a.toArray⟩, .string ⟨b.toArray⟩] w fun e w' => e = .returned (.int .i64 (cmpT a b)) ∧ w = w' := by
  refine (refTextA_any ⟨a.toArray⟩ ⟨b.toArray⟩ w).mono ?_
  rintro e w' ⟨rfl, rfl⟩
  exact ⟨ret_i (bytes_cmpT _ _), rfl⟩
set_option maxHeartbeats 400000 in
theorem refKeys_any (x y : Int × List UInt8) (w : World) :
    Calls Try.prog 29 #[.agg #[.int .i64 x.1, .string ⟨x.2.toArray⟩], .agg #[.int .i64 y.1, .string ⟨y.2.toArray⟩]] w fun e w' => e = .returned (.int .i64 (cmpK x y)) ∧ Below w.heap.size w w' := by
  obtain ⟨k1, s1⟩ := x
  obtain ⟨k2, s2⟩ := y
  by_cases h : k1 = k2
  · subst h
    have hc : cmpI k1 k1 = 0 := cmpI_zero.2 rfl
    have HT : Hid (cmpK (k1, s1) (k1, s2) = cmpT s1 s2) := Lib.hid (by simp only [cmpK, hc]; rfl)
    go_enter Try.func29, Try.ntmps29
    go_wp2_with (first | (go_at_call 27; refine (order_any _ _ _).mono ?_; rintro e w' ⟨rfl, rfl⟩) | (go_at_call 28; refine (refText_any _ _ _).mono ?_; rintro e w' ⟨rfl, rfl⟩))
    go_ret
    exact ⟨ret_i HT.out.symm, ((Below.refl _ _).alloc (Nat.le_refl _) _).alloc (by simp) _⟩
  · have hz : cmpI k1 k2 ≠ 0 := fun h0 => h (cmpI_zero.1 h0)
    have HT : Hid (cmpK (k1, s1) (k2, s2) = cmpI k1 k2) := Lib.hid (by simp only [cmpK, thn_of hz])
    clear hz
    have hc : (k1 != k2) = true := by simp [h]
    go_enter Try.func29, Try.ntmps29
    go_wp2_with (first | (go_at_call 27; refine (order_any _ _ _).mono ?_; rintro e w' ⟨rfl, rfl⟩) | (go_at_call 28; refine (refText_any _ _ _).mono ?_; rintro e w' ⟨rfl, rfl⟩))
    all_goals go_ret
    all_goals exact ⟨ret_i HT.out.symm, ((Below.refl _ _).alloc (Nat.le_refl _) _).alloc (by simp) _⟩
end Go.Proofs.Ytpgnkfobgjplmaa
