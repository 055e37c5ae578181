/- What the program's comparisons of integers, texts and keys return. Conditions: none. -/
import Derived.Test.YtpgnkfobgjplmaaGreatVb02
import Derived.Test.YtpgnkfobgjplmaaGreatShelf
import Derived.WalkSpells
import Derived.WalkLawsBesides
import Derived.Outline
namespace Go.Proofs.YtpgnkfobgjplmaaGreat
open Go Go.RowKit
theorem bytes_cmpT : ∀ a b : List UInt8, Lib.compareBytes a b = cmpT a b
  | [], [] => rfl
  | [], _ :: _ => rfl
  | _ :: _, [] => rfl
  | a :: s, b :: t => by
    unfold Lib.compareBytes cmpT
    rw [bytes_cmpT s t]
    unfold thn cmpI
    by_cases h1 : a < b
    · have h2 : (a.toNat : Int) < b.toNat := by have := UInt8.lt_iff_toNat_lt.1 h1; omega
      rw [if_pos h1, if_pos h2]; rfl
    · have h2 : ¬ (a.toNat : Int) < b.toNat := fun h => h1 (UInt8.lt_iff_toNat_lt.2 (by omega))
      rw [if_neg h1, if_neg h2]
      by_cases h3 : b < a
      · have h4 : (b.toNat : Int) < a.toNat := by have := UInt8.lt_iff_toNat_lt.1 h3; omega
        rw [if_pos h3, if_pos h4]; rfl
      · have h4 : ¬ (b.toNat : Int) < a.toNat := fun h => h3 (UInt8.lt_iff_toNat_lt.2 (by omega))
        rw [if_neg h3, if_neg h4]; rfl
theorem cmpInt_any (a b : Int) (w : World) : Calls Tryz.prog 95 #[.int .i64 a, .int .i64 b] w fun e w' => e = .returned (.int .i64 (cmpI a b)) ∧ w' = w := by
  refine (Tryz.cmp_Compare_int a b w).mono ?_
  rintro e w' ⟨rfl, rfl⟩
  exact ⟨ret_i (by unfold Lib.compareInt cmpI; (repeat' split) <;> first | rfl | omega), rfl⟩
set_option maxHeartbeats 400000 in
theorem cmpInt64_any (a b : Int) (w : World) : Calls Tryz.prog 168 #[.int .i64 a, .int .i64 b] w fun e w' => e = .returned (.int .i64 (cmpI a b)) ∧ w' = w := by
  go_enter Tryz.func168, Tryz.ntmps168
  go_wp2
  all_goals go_ret
  all_goals exact ⟨ret_i (by unfold cmpI; (repeat' split) <;> first | rfl | omega), rfl⟩
theorem strCmp_any (a b : ByteArray) (w : World) : Calls Tryz.prog 96 #[.string a, .string b] w fun e w' => e = .returned (.int .i64 (cmpT a.data.toList b.data.toList)) ∧ w' = w := by
  refine (Tryz.strings_Compare a b w).mono ?_
  rintro e w' ⟨rfl, rfl⟩
  exact ⟨ret_i (bytes_cmpT _ _), rfl⟩
set_option maxHeartbeats 400000 in
theorem cmpKeys_any (x y : Int × List UInt8) (w : World) :
    Calls Tryz.prog 58 #[.agg #[.int .i64 x.1, .string ⟨x.2.toArray⟩], .agg #[.int .i64 y.1, .string ⟨y.2.toArray⟩]] w fun e w' => e = .returned (.int .i64 (cmpK x y)) ∧ Below w.heap.size w w' := by
  obtain ⟨k1, s1⟩ := x
  obtain ⟨k2, s2⟩ := y
  by_cases h : k1 = k2
  · subst h
    have hc : cmpI k1 k1 = 0 := cmpI_zero.2 rfl
    have HT : Hid (cmpK (k1, s1) (k1, s2) = cmpT s1 s2) := Lib.hid (by simp only [cmpK, hc]; rfl)
    go_enter Tryz.func58, Tryz.ntmps58
    go_wp2_with (first | (go_at_call 95; refine (cmpInt_any _ _ _).mono ?_; rintro e w' ⟨rfl, rfl⟩) | (go_at_call 96; refine (strCmp_any _ _ _).mono ?_; rintro e w' ⟨rfl, rfl⟩))
    go_ret
    exact ⟨ret_i HT.out.symm, ((Below.refl _ _).alloc (Nat.le_refl _) _).alloc (by simp) _⟩
  · have hz : cmpI k1 k2 ≠ 0 := fun h0 => h (cmpI_zero.1 h0)
    have hc : (cmpI k1 k2 != 0) = true := by rw [bne_iff_ne]; exact hz
    have HT : Hid (cmpK (k1, s1) (k2, s2) = cmpI k1 k2) := Lib.hid (by simp only [cmpK, thn_of hz])
    clear hz
    go_enter Tryz.func58, Tryz.ntmps58
    go_wp2_with (first | (go_at_call 95; refine (cmpInt_any _ _ _).mono ?_; rintro e w' ⟨rfl, rfl⟩) | (go_at_call 96; refine (strCmp_any _ _ _).mono ?_; rintro e w' ⟨rfl, rfl⟩))
    go_ret
    exact ⟨ret_i HT.out.symm, ((Below.refl _ _).alloc (Nat.le_refl _) _).alloc (by simp) _⟩
theorem cmpVs_L : ∀ l m : List Vl, cmpVs l m = cmpL cmpV l m
  | a :: s, b :: t => by simp only [cmpVs, cmpL, cmpVs_L s t]
  | [], _ => by simp [cmpVs, cmpL]
  | _ :: _, [] => by simp [cmpVs, cmpL]
theorem cmpEs_L : ∀ l m : List En, cmpEs l m = cmpL cmpE l m
  | a :: s, b :: t => by simp only [cmpEs, cmpL, cmpEs_L s t]
  | [], _ => by simp [cmpEs, cmpL]
  | _ :: _, [] => by simp [cmpEs, cmpL]
theorem cmpL_app {α : Type} {c : α → α → Int} : ∀ {p q : List α} (l m : List α), p.length = q.length → cmpL c (p ++ l) (q ++ m) = thn (cmpL c p q) (cmpL c l m)
  | [], [], l, m, _ => by simp [cmpL, thn]
  | a :: p, b :: q, l, m, h => by
    simp only [List.cons_append, cmpL, cmpL_app l m (show p.length = q.length by simpa using h), thn_assoc]
theorem cmpL_step {α : Type} {c : α → α → Int} {l m : List α} {j : Nat} {x y : α} (hx : l[j]? = some x) (hy : m[j]? = some y) (h0 : cmpL c (l.take j) (m.take j) = 0) :
    (c x y ≠ 0 → cmpL c l m = c x y) ∧ (c x y = 0 → cmpL c (l.take (j + 1)) (m.take (j + 1)) = 0) := by
  have hjl := (List.getElem?_eq_some_iff.1 hx).1
  have hjm := (List.getElem?_eq_some_iff.1 hy).1
  have e1 : l.take (j + 1) = l.take j ++ [x] := by rw [List.take_add_one, hx]; rfl
  have e2 : m.take (j + 1) = m.take j ++ [y] := by rw [List.take_add_one, hy]; rfl
  have hlen : (l.take j).length = (m.take j).length := by rw [List.length_take, List.length_take]; omega
  have h1 : cmpL c (l.take (j + 1)) (m.take (j + 1)) = c x y := by
    rw [e1, e2, cmpL_app _ _ hlen, h0]
    show cmpL c [x] [y] = c x y
    simp only [cmpL, thn_zero_right]
  refine ⟨fun hne => ?_, fun h => by rw [h1, h]⟩
  have := cmpL_app (c := c) (p := l.take (j + 1)) (q := m.take (j + 1)) (l.drop (j + 1)) (m.drop (j + 1)) (by rw [List.length_take, List.length_take]; omega)
  rw [List.take_append_drop, List.take_append_drop, h1, thn_of hne] at this
  exact this
end Go.Proofs.YtpgnkfobgjplmaaGreat
namespace Go.Proofs.YtpgnkfobgjplmaaGreat
open Go Go.RowKit
theorem toList_data (s : ByteArray) : s.toList = s.data.toList := Lib.toList_data s
theorem compare_lt : ∀ {a b : List UInt8}, Op.bytesLess a b = true → Lib.compareBytes a b = -1
  | [], [], h => by simp [Op.bytesLess] at h
  | [], _ :: _, _ => rfl
  | _ :: _, [], h => by simp [Op.bytesLess] at h
  | a :: x, b :: y, h => by
    simp only [Op.bytesLess, Bool.or_eq_true, decide_eq_true_eq, Bool.and_eq_true, beq_iff_eq] at h
    unfold Lib.compareBytes
    by_cases h1 : a < b
    · rw [if_pos h1]
    · rcases h with h | ⟨rfl, h⟩
      · exact absurd h h1
      · rw [if_neg h1, if_neg h1]; exact compare_lt h
theorem compare_eq {a b : List UInt8} (h : a = b) : Lib.compareBytes a b = 0 := by
  subst h
  induction a with
  | nil => rfl
  | cons x r ih => unfold Lib.compareBytes; simp [ih]
theorem compare_gt : ∀ {a b : List UInt8}, Op.bytesLess a b = false → a ≠ b → Lib.compareBytes a b = 1
  | [], [], _, h => absurd rfl h
  | [], _ :: _, h, _ => by simp [Op.bytesLess] at h
  | _ :: _, [], _, _ => rfl
  | a :: x, b :: y, h, hne => by
    simp only [Op.bytesLess, Bool.or_eq_false_iff, decide_eq_false_iff_not, Bool.and_eq_false_imp, beq_iff_eq] at h
    unfold Lib.compareBytes
    rw [if_neg h.1]
    by_cases h1 : b < a
    · rw [if_pos h1]
    · rw [if_neg h1]
      have e : a = b := UInt8.le_antisymm (UInt8.not_lt.1 h1) (UInt8.not_lt.1 h.1)
      subst e
      exact compare_gt (h.2 rfl) (fun e => hne (by rw [e]))
set_option maxHeartbeats 400000 in
theorem refTextA_any (a b : ByteArray) (w : World) :
    Calls Tryz.prog 90 #[.string a, .string b] w fun e w' => e = .returned (.int .i64 (Lib.compareBytes a.data.toList b.data.toList)) ∧ w = w' := by
  go_enter Tryz.func90, Tryz.ntmps90
  go_wp2
  all_goals go_ret
  all_goals simp only [toList_data] at *
  · exact ⟨ret_i (compare_lt ‹_›).symm, trivial⟩
  · exact ⟨ret_i (compare_gt ‹_› (by simp_all)).symm, trivial⟩
  · exact ⟨ret_i (compare_eq (by simp_all)).symm, trivial⟩
theorem refText_any (a b : List UInt8) (w : World) :
    Calls Tryz.prog 90 #[.string ⟨a.toArray⟩, .string ⟨b.toArray⟩] w fun e w' => e = .returned (.int .i64 (cmpT a b)) ∧ w = w' := by
  refine (refTextA_any ⟨a.toArray⟩ ⟨b.toArray⟩ w).mono ?_
  rintro e w' ⟨rfl, rfl⟩
  exact ⟨ret_i (bytes_cmpT _ _), rfl⟩
set_option maxHeartbeats 400000 in
theorem refKeys_any (x y : Int × List UInt8) (w : World) :
    Calls Tryz.prog 60 #[.agg #[.int .i64 x.1, .string ⟨x.2.toArray⟩], .agg #[.int .i64 y.1, .string ⟨y.2.toArray⟩]] w fun e w' => e = .returned (.int .i64 (cmpK x y)) ∧ Below w.heap.size w w' := by
  obtain ⟨k1, s1⟩ := x
  obtain ⟨k2, s2⟩ := y
  by_cases h : k1 = k2
  · subst h
    have hc : cmpI k1 k1 = 0 := cmpI_zero.2 rfl
    have HT : Hid (cmpK (k1, s1) (k1, s2) = cmpT s1 s2) := Lib.hid (by simp only [cmpK, hc]; rfl)
    go_enter Tryz.func60, Tryz.ntmps60
    go_wp2_with (first | (go_at_call 89; refine (order_any _ _ _).mono ?_; rintro e w' ⟨rfl, rfl⟩) | (go_at_call 90; refine (refText_any _ _ _).mono ?_; rintro e w' ⟨rfl, rfl⟩))
    go_ret
    exact ⟨ret_i HT.out.symm, ((Below.refl _ _).alloc (Nat.le_refl _) _).alloc (by simp) _⟩
  · have hz : cmpI k1 k2 ≠ 0 := fun h0 => h (cmpI_zero.1 h0)
    have HT : Hid (cmpK (k1, s1) (k2, s2) = cmpI k1 k2) := Lib.hid (by simp only [cmpK, thn_of hz])
    clear hz
    have hc : (k1 != k2) = true := by simp [h]
    go_enter Tryz.func60, Tryz.ntmps60
    go_wp2_with (first | (go_at_call 89; refine (order_any _ _ _).mono ?_; rintro e w' ⟨rfl, rfl⟩) | (go_at_call 90; refine (refText_any _ _ _).mono ?_; rintro e w' ⟨rfl, rfl⟩))
    all_goals go_ret
    all_goals exact ⟨ret_i HT.out.symm, ((Below.refl _ _).alloc (Nat.le_refl _) _).alloc (by simp) _⟩
end Go.Proofs.YtpgnkfobgjplmaaGreat
