/- The walk of the law IntervalLeast: it returns true. -/
import Derived.Test.YtahapkbapbgbiaaLawKit
import Derived.Test.YtahapkbapbgbiaaRefLeast
namespace Go.Proofs.Ytahapkbapbgbiaa
open Go.RowKit
theorem far_of {rs : List Rg} {x n : Int} (h : LeastRes rs x true) (hn : hasI rs n) : farB n x = true := by
  rcases h with ⟨a, _⟩ | ⟨_, b, _⟩
  · cases a
  · rw [List.take_of_length_le (Nat.le_refl _)] at b
    have h1 := b.2 n hn
    rw [farB_iff]
    have c := absI_cases n
    have d := absI_cases x
    unfold before at h1
    omega
theorem least_has {rs : List Rg} {x : Int} (h : LeastRes rs x true) : hasB rs x = true ∧ LO ≤ x ∧ x ≤ HI := by
  rcases h with ⟨a, _⟩ | ⟨_, b, c⟩
  · cases a
  · rw [List.take_of_length_le (Nat.le_refl _)] at b
    exact ⟨(hasB_iff _ _).2 b.1, c⟩
theorem least_none {rs : List Rg} {x y : Int} (h : LeastRes rs x false) : hasB rs y = false := by
  rcases h with ⟨_, _, c⟩ | ⟨a, _⟩
  · rw [List.take_of_length_le (Nat.le_refl _)] at c
    rw [Bool.eq_false_iff]
    intro k
    exact c y ((hasB_iff _ _).1 k)
  · cases a
set_option maxRecDepth 100000 in
set_option maxHeartbeats 6400000 in
theorem intervalLeast_any (A : Option Addr) (n c : Nat) (rs : List Rg) (y : Int) (w : World) (hR : RngS w w.heap.size A n rs) (hy1 : LO ≤ y) (hy2 : y ≤ HI) :
    Calls Try.prog 7 #[.slice A n c, .int .i64 y] w fun e w' => e = .returned (.bool true) ∧ Below w.heap.size w w' := by
  have KA := Lib.hid (kept_from hR)
  clear hR
  by_cases hn : n ≤ 40
  · have hw0 : Below w.heap.size w w := Below.refl _ _
    go_enter Try.func7, Try.ntmps7
    go_wp2_with (go_at_call 22; refine (least_any A n c rs _ (KA.out _ hw0) (by omega)).mono ?_; rintro e w1 ⟨x, f, rfl, hres, hb1⟩; refine Hid.out ?_)
    refine Lib.hid ?_
    have h1 := step_on hw0 hb1
    have H1 := Lib.hid hres
    clear hres hb1
    go_wp2_with (go_at_call 23; refine (leastInt_any A n c rs _ (KA.out _ h1) (by omega)).mono ?_; rintro e w2 ⟨x', f', rfl, hres, hb2⟩; refine Hid.out ?_)
    refine Lib.hid ?_
    have h2 := step_on h1 hb2
    obtain ⟨rfl, rfl⟩ := leastRes_unique hres H1.out
    clear hres hb2 h1
    cases f'
    · have HY := Lib.hid (least_none (y := y) H1.out)
      go_wp2_with (first | (go_at_call 12; refine (hasInt_as A n c rs y false _ (KA.out _ h2) (by omega) HY.out).mono ?_; rintro e w3 ⟨rfl, rfl⟩) | (go_at_call 8; refine (awake_any _).mono ?_; rintro e w4 ⟨rfl, hb4⟩))
      all_goals go_ret
      all_goals exact ⟨rfl, step_on h2 (by assumption)⟩
    · obtain ⟨g1, g2, g3⟩ := least_has H1.out
      have G1 := Lib.hid g1
      have G2 := Lib.hid (show LO ≤ x' ∧ x' ≤ HI from ⟨g2, g3⟩)
      clear g1 g2 g3
      go_wp2_with (go_at_call 12; refine (hasInt_as A n c rs x' true _ (KA.out _ h2) (by omega) G1.out).mono ?_; rintro e w3 ⟨rfl, rfl⟩; refine Hid.out ?_)
      refine Lib.hid ?_
      cases hY : hasB rs y
      · have HY := Lib.hid hY
        clear hY
        go_wp2_with (go_at_call 12; refine (hasInt_as A n c rs y false _ (KA.out _ h2) (by omega) HY.out).mono ?_; rintro e w3 ⟨rfl, rfl⟩; refine Hid.out ?_)
        refine Lib.hid ?_
        go_wp2_with (first | (go_at_call 12; refine (hasInt_as A n c rs y false _ (KA.out _ h2) (by omega) HY.out).mono ?_; rintro e w3 ⟨rfl, rfl⟩) | (go_at_call 8; refine (awake_any _).mono ?_; rintro e w4 ⟨rfl, hb4⟩))
        all_goals go_ret
        all_goals first | exact ⟨rfl, h2⟩ | exact ⟨rfl, step_on h2 (by assumption)⟩
      · have HY := Lib.hid hY
        clear hY
        have hfar := far_any y x'
        have HFA := Lib.hid (far_of H1.out ((hasB_iff _ _).1 HY.out))
        rw [HFA.out] at hfar
        go_wp2_with (go_at_call 12; refine (hasInt_as A n c rs y true _ (KA.out _ h2) (by omega) HY.out).mono ?_; rintro e w3 ⟨rfl, rfl⟩; refine Hid.out ?_)
        refine Lib.hid ?_
        go_wp2_with (first | (go_at_call 24; refine (hfar _ ⟨hy1, hy2⟩ G2.out).mono ?_; rintro e w3 ⟨rfl, rfl⟩) | (go_at_call 8; refine (awake_any _).mono ?_; rintro e w4 ⟨rfl, hb4⟩))
        all_goals go_ret
        all_goals exact ⟨rfl, step_on h2 (by assumption)⟩
  · go_enter Try.func7, Try.ntmps7
    go_wp2_with (go_at_call 8; refine (awake_any _).mono ?_; rintro e w1 ⟨rfl, hb1⟩)
    all_goals go_ret
    all_goals exact ⟨rfl, hb1⟩
end Go.Proofs.Ytahapkbapbgbiaa
