/- What the laws' sanity check returns: true. -/
import Derived.Test.YtahapkbapbgbiaaConcat
import Derived.Test.YtahapkbapbgbiaaLeast
namespace Go.Proofs.Ytahapkbapbgbiaa
open Go.RowKit
theorem awake_norm : [((1 : Int), (9 : Int))] = nfOf (hasI [(5, 9), (1, 4)]) := by
  refine nfOf_eq ⟨by simp, by simp⟩ fun n => ?_
  simp only [hasI, List.mem_cons, List.not_mem_nil, or_false, inR]
  constructor
  · rintro ⟨r, rfl, h1, h2⟩
    simp only at h1 h2
    by_cases h : n ≤ 4
    · exact ⟨_, .inr rfl, h1, h⟩
    · exact ⟨_, .inl rfl, by simp only; omega, h2⟩
  · rintro ⟨r, rfl | rfl, h1, h2⟩
    · simp only at h1 h2
      exact ⟨_, rfl, by simp only; omega, by simp only; omega⟩
    · simp only at h1 h2
      exact ⟨_, rfl, by simp only; omega, by simp only; omega⟩
theorem awake_least : LeastRes [(-3, -2), (2, 7)] 2 true := by
  refine .inr ⟨rfl, ⟨⟨(2, 7), by simp, by unfold inR; simp⟩, ?_⟩, by unfold LO HI; omega⟩
  rintro y ⟨r, hr, h1, h2⟩
  have a := absI_cases y
  have b := absI_cases 2
  simp at hr
  unfold before
  rcases hr with rfl | rfl
  · simp only at h1 h2; omega
  · simp only at h1 h2; omega
theorem fit_lit1 : Fit [(5, 9), (1, 4)] := by
  intro r hr
  simp at hr
  unfold Fit1 LO HI
  rcases hr with rfl | rfl <;> simp
theorem fit_lit2 : Fit [(-3, -2), (2, 7)] := by
  intro r hr
  simp at hr
  unfold Fit1 LO HI
  rcases hr with rfl | rfl <;> simp
set_option maxRecDepth 100000 in
set_option maxHeartbeats 3200000 in
theorem awake_any (w : World) : Calls Try.prog 8 #[] w fun e w' => e = .returned (.bool true) ∧ Below w.heap.size w w' := by
  have hb0 : Below w.heap.size w (w.alloc (.cells #[.int .i64 5, .int .i64 9, .int .i64 1, .int .i64 4] 35)) := (Below.refl _ _).alloc (Nat.le_refl _) _
  have hr0 := (OwnR.lit w w.heap.size (Nat.le_refl _) [(5, 9), (1, 4)] #[.int .i64 5, .int .i64 9, .int .i64 1, .int .i64 4] 2 rfl rfl (by decide)).rng fit_lit1
  have hnn := normalize_any _ _ 2 _ _ hr0 (by omega)
  clear hr0
  go_enter Try.func8, Try.ntmps8
  go_wp2_with (go_at_call 9; refine hnn.mono ?_; rintro e w1 ⟨m, hm1, hm2, hm3, hm4, A1, n1, c1, rfl, hr1, hb1⟩; refine Hid.out ?_)
  refine Lib.hid ?_
  rw [← awake_norm] at hm1
  subst hm1
  obtain rfl : n1 = 1 := hr1.1
  have hs1 := hb1.size
  obtain ⟨b, off, r1, r2, rfl, hbl, hx, hf, a1, a2⟩ := hr1.at (show 0 < 1 by omega)
  simp at hx
  obtain ⟨rfl, rfl⟩ := hx
  have hb2 : Below w1.heap.size w1 (w1.alloc (.cells #[.int .i64 (-3), .int .i64 (-2), .int .i64 2, .int .i64 7] 35)) := (Below.refl _ _).alloc (Nat.le_refl _) _
  have hr2 := (OwnR.lit w1 w1.heap.size (Nat.le_refl _) [(-3, -2), (2, 7)] #[.int .i64 (-3), .int .i64 (-2), .int .i64 2, .int .i64 7] 2 rfl rfl (by decide)).rng fit_lit2
  have hl := least_any _ _ 2 _ _ hr2 (by omega)
  have HB := Lib.hid (hb0.trans (hb1.mono (by simp)))
  clear hm2 hm3 hm4 hr1 hr2 hnn hf hb1
  go_wp2_with (go_at_call 22; refine hl.mono ?_; rintro e w2 ⟨x, f, rfl, hres, hb3⟩; refine Hid.out ?_)
  refine Lib.hid ?_
  obtain ⟨rfl, rfl⟩ := leastRes_unique hres awake_least
  have hbq : Below w1.heap.size w1 w2 := hb2.trans (hb3.mono (by simp))
  have d1 : w2.cell? ⟨b, off + 0 * 2, none⟩ = some (.int .i64 1) := (hbq.cell (p := ⟨b, off + 0 * 2, none⟩) hbl).trans a1
  have d2 : w2.cell? ⟨b, off + 0 * 2 + 1, none⟩ = some (.int .i64 9) := (hbq.cell (p := ⟨b, off + 0 * 2 + 1, none⟩) hbl).trans a2
  simp only [Nat.zero_mul, Nat.add_zero] at d1 d2
  have qg := Try.guardR
  have qe : ∀ w, (binOp .eql 35 (.agg #[.int .i64 1, .int .i64 9]) (.agg #[.int .i64 1, .int .i64 9])).run Try.prog w = .ok (.bool true) w := fun w => by rw [Try.eqlR (1, 9) (1, 9)]; rfl
  have hsw : w.heap.size ≤ w1.heap.size := by simp at hs1; omega
  have HQ := Lib.hid (HB.out.trans (hbq.mono hsw))
  have hz := hbq.size
  clear hres hl hb2 hb3 hbq
  go_wp2_with (go_at_call 19; refine (full_any _).mono ?_; rintro e w3 ⟨A3, n3, c3, rfl, hr3, hb4⟩; refine Hid.out ?_)
  refine Lib.hid ?_
  obtain rfl : n3 = 1 := hr3.1
  clear hr3
  go_wp2
  all_goals go_ret
  all_goals exact ⟨rfl, HQ.out.trans (hb4.mono (by omega))⟩
end Go.Proofs.Ytahapkbapbgbiaa
