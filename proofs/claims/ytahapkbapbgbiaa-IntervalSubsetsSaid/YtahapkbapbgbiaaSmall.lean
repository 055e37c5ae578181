/- What the small functions of layer 2 (interval) on one range or two integers return. Condition: the numbers are 64-bit integers. -/
import Derived.Test.YtahapkbapbgbiaaKit
namespace Go.Proofs.Ytahapkbapbgbiaa
open Go.RowKit
def emptyB (r : Rg) : Bool := decide (r.2 < r.1)
def gapB (x r : Rg) : Bool := decide (x.2 + 1 < r.1)
set_option maxHeartbeats 400000 in
theorem isEmpty_any (a b : Int) (w : World) :
    Calls Try.prog 27 #[.agg #[.int .i64 a, .int .i64 b]] w fun e w' => e = .returned (.bool (emptyB (a, b))) ∧ Below w.heap.size w w' := by
  go_enter Try.func27, Try.ntmps27
  go_wp2
  all_goals go_ret
  all_goals exact ⟨ret_bool (by unfold emptyB; simp), (Below.refl _ _).alloc (Nat.le_refl _) _⟩
set_option maxHeartbeats 400000 in
theorem isGap_any (a b c d : Int) (w : World) (h : Fit1 (a, b)) (h' : Fit1 (c, d)) :
    Calls Try.prog 31 #[.agg #[.int .i64 a, .int .i64 b], .agg #[.int .i64 c, .int .i64 d]] w fun e w' => e = .returned (.bool (gapB (a, b) (c, d))) ∧ Below w.heap.size w w' := by
  unfold Fit1 LO HI at h h'
  obtain ⟨h1, h2, h3, h4⟩ := h
  obtain ⟨k1, k2, k3, k4⟩ := h'
  simp only at h1 h2 h3 h4 k1 k2 k3 k4
  by_cases hlt : b < c
  · have q : decide (b < c) = true := by simpa using hlt
    go_enter Try.func31, Try.ntmps31
    go_wp2
    all_goals go_ret
    all_goals exact ⟨ret_bool (by unfold gapB; simp; omega), ((Below.refl _ _).alloc (Nat.le_refl _) _).alloc (by simp) _⟩
  · have q : decide (b < c) = false := by simpa using hlt
    go_enter Try.func31, Try.ntmps31
    go_wp2
    all_goals go_ret
    all_goals exact ⟨ret_bool (by unfold gapB; simp; omega), ((Below.refl _ _).alloc (Nat.le_refl _) _).alloc (by simp) _⟩
def cmpI (a b : Int) : Int := if a < b then -1 else if b < a then 1 else 0
set_option maxHeartbeats 400000 in
theorem isNaN64_any (a : Int) (w : World) :
    Calls Try.prog 42 #[.int .i64 a] w fun e w' => e = .returned (.bool false) ∧ w = w' := by
  go_enter Try.func42, Try.ntmps42
  go_wp2
  all_goals go_ret
  all_goals exact ⟨ret_bool (by simp), rfl⟩
set_option maxHeartbeats 400000 in
theorem isNaNu_any (a : Int) (w : World) :
    Calls Try.prog 56 #[.int .u64 a] w fun e w' => e = .returned (.bool false) ∧ w = w' := by
  go_enter Try.func56, Try.ntmps56
  go_wp2
  all_goals go_ret
  all_goals exact ⟨ret_bool (by simp), rfl⟩
set_option maxHeartbeats 400000 in
theorem cmp64_any (a b : Int) (w : World) :
    Calls Try.prog 30 #[.int .i64 a, .int .i64 b] w fun e w' => e = .returned (.int .i64 (cmpI a b)) ∧ w = w' := by
  go_enter Try.func30, Try.ntmps30
  go_wp2_with (first | (go_at_call 42; refine (isNaN64_any _ _).mono ?_; rintro e w' ⟨rfl, rfl⟩))
  all_goals go_ret
  all_goals exact ⟨ret_int (by unfold cmpI; split <;> simp_all <;> omega), rfl⟩
set_option maxHeartbeats 400000 in
theorem cmpu_any (a b : Int) (w : World) :
    Calls Try.prog 44 #[.int .u64 a, .int .u64 b] w fun e w' => e = .returned (.int .i64 (cmpI a b)) ∧ w = w' := by
  go_enter Try.func44, Try.ntmps44
  go_wp2_with (first | (go_at_call 56; refine (isNaNu_any _ _).mono ?_; rintro e w' ⟨rfl, rfl⟩))
  all_goals go_ret
  all_goals exact ⟨ret_int (by unfold cmpI; split <;> simp_all <;> omega), rfl⟩
/-- the member of a range that is closest to 0 -/
def nearZ (r : Rg) : Int := min (max 0 r.1) r.2
set_option maxHeartbeats 400000 in
theorem nearestZero_any (a b : Int) (w : World) :
    Calls Try.prog 37 #[.agg #[.int .i64 a, .int .i64 b]] w fun e w' => e = .returned (.int .i64 (nearZ (a, b))) ∧ Below w.heap.size w w' := by
  go_enter Try.func37, Try.ntmps37
  go_wp2
  all_goals go_ret
  all_goals exact ⟨ret_int (by unfold nearZ; simp only), (Below.refl _ _).alloc (Nat.le_refl _) _⟩
/-- the absolute value, as an unsigned integer -/
def absI (n : Int) : Int := if n < 0 then -n else n
set_option maxHeartbeats 400000 in
theorem magnitude_any (n : Int) (w : World) (h : LO ≤ n ∧ n ≤ HI) :
    Calls Try.prog 45 #[.int .i64 n] w fun e w' => e = .returned (.int .u64 (absI n)) ∧ w = w' := by
  unfold LO HI at h
  obtain ⟨h1, h2⟩ := h
  by_cases hn : n < 0
  · go_enter Try.func45, Try.ntmps45
    go_wp2
    go_ret
    exact ⟨ret_int (by unfold absI; rw [if_pos hn]; simp [IntKind.wrap, IntKind.bits, IntKind.signed] <;> omega), rfl⟩
  · go_enter Try.func45, Try.ntmps45
    go_wp2
    go_ret
    exact ⟨ret_int (by unfold absI; rw [if_neg (by omega)]), rfl⟩
theorem absI_cases (n : Int) : (0 ≤ n ∧ absI n = n) ∨ (n < 0 ∧ absI n = -n) := by unfold absI; omega
/-- a is closer to 0 than b, or as close and positive -/
def closerB (a b : Int) : Bool := decide (absI a < absI b) || (decide (absI a = absI b) && decide (b < a))
set_option maxHeartbeats 400000 in
theorem isCloser_any (a b : Int) (w : World) (h : LO ≤ a ∧ a ≤ HI) (h' : LO ≤ b ∧ b ≤ HI) :
    Calls Try.prog 38 #[.int .i64 a, .int .i64 b] w fun e w' => e = .returned (.bool (closerB a b)) ∧ w = w' := by
  have hc : cmpI (absI a) (absI b) < 0 ↔ absI a < absI b := by unfold cmpI; split <;> (try split) <;> omega
  have hz : cmpI (absI a) (absI b) = 0 ↔ absI a = absI b := by unfold cmpI; split <;> (try split) <;> omega
  have HC := Lib.hid hc
  have HZ := Lib.hid hz
  have HB : Hid (closerB a b = if cmpI (absI a) (absI b) = 0 then decide (b < a) else decide (cmpI (absI a) (absI b) < 0)) := Lib.hid (by
    unfold closerB
    by_cases e : absI a = absI b
    · rw [if_pos (hz.2 e)]; simp [e]
    · rw [if_neg (fun q => e (hz.1 q))]; simp [e, hc])
  clear hc hz
  have hm := fun w => cmpu_any (absI a) (absI b) w
  generalize cmpI (absI a) (absI b) = c at HB HC HZ hm
  by_cases e : c = 0
  · subst e
    go_enter Try.func38, Try.ntmps38
    go_wp2_with (first | (go_at_call 45; refine (magnitude_any _ _ (by assumption)).mono ?_; rintro e w' ⟨rfl, rfl⟩) | (go_at_call 44; refine (hm _).mono ?_; rintro e w' ⟨rfl, rfl⟩))
    all_goals go_ret
    all_goals exact ⟨ret_bool (by rw [HB.out]; simp), rfl⟩
  · have q : (c != 0) = true := by simpa using e
    have HE := Lib.hid e
    clear e
    go_enter Try.func38, Try.ntmps38
    go_wp2_with (first | (go_at_call 45; refine (magnitude_any _ _ (by assumption)).mono ?_; rintro e w' ⟨rfl, rfl⟩) | (go_at_call 44; refine (hm _).mono ?_; rintro e w' ⟨rfl, rfl⟩))
    all_goals go_ret
    all_goals exact ⟨ret_bool (by rw [HB.out, if_neg HE.out]), rfl⟩
/-- the law's own order of absolute values -/
def farB (n x : Int) : Bool := decide (absI x < absI n) || (decide (absI n = absI x) && (decide (0 ≤ x) || decide (n < 0)))
theorem farB_iff (n x : Int) : farB n x = true ↔ (absI x < absI n ∨ absI n = absI x ∧ (0 ≤ x ∨ n < 0)) := by
  unfold farB
  simp
set_option maxHeartbeats 800000 in
theorem far_any (n x : Int) (w : World) (h : LO ≤ n ∧ n ≤ HI) (h' : LO ≤ x ∧ x ≤ HI) :
    Calls Try.prog 24 #[.int .i64 n, .int .i64 x] w fun e w' => e = .returned (.bool (farB n x)) ∧ w = w' := by
  unfold LO HI at h h'
  obtain ⟨h1, h2⟩ := h
  obtain ⟨h3, h4⟩ := h'
  by_cases hn : 0 < n
  · by_cases hx : 0 < x
    · go_enter Try.func24, Try.ntmps24
      go_wp2
      all_goals go_ret
      all_goals exact ⟨ret_bool (by rw [Bool.eq_iff_iff, farB_iff]; have hN := absI_cases n; have hX := absI_cases x; have hX2 := absI_cases (-x); first | omega | (simp only [true_iff]; omega) | (simp; omega)), rfl⟩
    · go_enter Try.func24, Try.ntmps24
      go_wp2
      all_goals go_ret
      all_goals exact ⟨ret_bool (by rw [Bool.eq_iff_iff, farB_iff]; have hN := absI_cases n; have hX := absI_cases x; have hX2 := absI_cases (-x); first | omega | (simp only [true_iff]; omega) | (simp; omega)), rfl⟩
  · by_cases hx : 0 < x
    · go_enter Try.func24, Try.ntmps24
      go_wp2
      all_goals go_ret
      all_goals exact ⟨ret_bool (by rw [Bool.eq_iff_iff, farB_iff]; have hN := absI_cases n; have hX := absI_cases x; have hX2 := absI_cases (-x); first | omega | (simp only [true_iff]; omega) | (simp; omega)), rfl⟩
    · go_enter Try.func24, Try.ntmps24
      go_wp2
      all_goals go_ret
      all_goals exact ⟨ret_bool (by rw [Bool.eq_iff_iff, farB_iff]; have hN := absI_cases n; have hX := absI_cases x; have hX2 := absI_cases (-x); first | omega | (simp only [true_iff]; omega) | (simp; omega)), rfl⟩
set_option maxHeartbeats 400000 in
theorem full_any (w : World) : Calls Try.prog 19 #[] w (RetR [(LO, HI)] w) := by
  go_enter Try.func19, Try.ntmps19
  go_wp2
  go_ret
  exact ⟨_, _, _, rfl, (OwnR.lit w w.heap.size (Nat.le_refl _) [(LO, HI)] _ 1 rfl rfl (by decide)).rng (by unfold Fit Fit1; simp [LO, HI]), (Below.refl _ _).alloc (Nat.le_refl _) _⟩
end Go.Proofs.Ytahapkbapbgbiaa
