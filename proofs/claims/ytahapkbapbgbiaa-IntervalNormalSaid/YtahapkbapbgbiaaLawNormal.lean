/- The walk of the law IntervalNormal: it returns true. -/
import Derived.Test.YtahapkbapbgbiaaLawKit
import Derived.Test.YtahapkbapbgbiaaRefNorm
namespace Go.Proofs.Ytahapkbapbgbiaa
open Go.RowKit
set_option maxRecDepth 100000 in
set_option maxHeartbeats 3200000 in
theorem intervalNormal_any (A : Option Addr) (n c : Nat) (rs : List Rg) (x : Int) (w : World) (hR : RngS w w.heap.size A n rs) :
    Calls Try.prog 3 #[.slice A n c, .int .i64 x] w fun e w' => e = .returned (.bool true) ∧ Below w.heap.size w w' := by
  have HR := Lib.hid hR
  clear hR
  by_cases hn : n ≤ 60
  · have hnn := normalize_any A n c rs w HR.out (by omega)
    go_enter Try.func3, Try.ntmps3
    go_wp2_with (go_at_call 9; refine hnn.mono ?_; rintro e w1 ⟨M, hm1, hm2, hm3, hm4, A1, n1, c1, rfl, hr1, hb1⟩; refine Hid.out ?_)
    refine Lib.hid ?_
    have hs1 := hb1.size
    have H1 := Lib.hid hm1
    have H2 := Lib.hid hm2
    have H3 := Lib.hid hm3
    have hn1 : n1 ≤ 60 := by have := hr1.1; omega
    have HR1 := Lib.hid hr1
    have HR0 := Lib.hid (HR.out.kept hb1 hs1)
    clear hm1 hm2 hm3 hm4 hr1 hnn
    have KR : Hid (∀ w', Below w1.heap.size w1 w' → RngS w' w'.heap.size A n rs) := Lib.hid (fun w' hb => HR0.out.kept hb hb.size)
    have KM : Hid (∀ w', Below w1.heap.size w1 w' → RngS w' w'.heap.size A1 n1 M) := Lib.hid (fun w' hb => HR1.out.kept hb hb.size)
    have STEP : Hid (∀ a b, Below w1.heap.size w1 a → Below a.heap.size a b → Below w1.heap.size w1 b) := Lib.hid (fun a b h k => h.trans (k.mono h.size))
    have hMx : hasB M x = hasB rs x := hasB_congr (H3.out x)
    have d1 : ∀ w', Below w1.heap.size w1 w' → Calls Try.prog 10 #[.slice A1 n1 c1] w' fun e w'' => e = .returned (.bool true) ∧ Below w'.heap.size w' w'' := fun w' hb => by
      have := valid_any A1 n1 c1 M w' (KM.out w' hb) (by omega)
      rwa [nfB_of H2.out] at this
    have d2 : ∀ w', Below w1.heap.size w1 w' → Calls Try.prog 11 #[.slice A1 n1 c1, .int .i64 x] w' fun e w'' => e = .returned (.bool (hasB rs x)) ∧ Below w'.heap.size w' w'' := fun w' hb => by
      have := contains_any A1 n1 c1 M x w' (KM.out w' hb) (by omega)
      rwa [hMx] at this
    have d3 : ∀ w', Below w1.heap.size w1 w' → Calls Try.prog 12 #[.slice A n c, .int .i64 x] w' fun e w'' => e = .returned (.bool (hasB rs x)) ∧ w' = w'' := fun w' hb => hasInt_any A n c rs x w' _ (KR.out w' hb) (by omega)
    have d4 : ∀ w', Below w1.heap.size w1 w' → Calls Try.prog 10 #[.slice A n c] w' fun e w'' => e = .returned (.bool (nfB rs)) ∧ Below w'.heap.size w' w'' := fun w' hb => valid_any A n c rs w' (KR.out w' hb) (by omega)
    have d5 : ∀ w', Below w1.heap.size w1 w' → Calls Try.prog 13 #[.slice A n c] w' fun e w'' => e = .returned (.bool (nfB rs)) ∧ ∃ q, w'' = w'.drewN q := fun w' hb => validRanges_any A n c rs w' _ (KR.out w' hb) (by omega)
    have d6 : ∀ w', Below w1.heap.size w1 w' → Calls Try.prog 14 #[.slice A1 n1 c1, .slice A n c] w' fun e w'' => e = .returned (.bool (decide (M = rs))) ∧ ∃ q, w'' = w'.drewN q := fun w' hb => same_any A1 A n1 n c1 c M rs w' _ _ (KM.out w' hb) (KR.out w' hb) (by omega) (by omega)
    have d7 : ∀ w', Below w1.heap.size w1 w' → Calls Try.prog 15 #[.slice A n c] w' (RetN (hasI rs) n w') := fun w' hb => refNormal_any A n c rs w' (KR.out w' hb) (by omega)
    have hMe : nfB rs = true → M = rs := fun h => by rw [H1.out]; exact (nfOf_eq (by unfold nfB at h; simpa using h) (fun _ => Iff.rfl)).symm
    generalize hasB rs x = y at d2 d3
    have D1 := Lib.hid d1
    have D2 := Lib.hid d2
    have D3 := Lib.hid d3
    have D4 := Lib.hid d4
    have D5 := Lib.hid d5
    have D6 := Lib.hid d6
    have D7 := Lib.hid d7
    have HME := Lib.hid hMe
    clear d1 d2 d3 d4 d5 d6 d7 hMe hMx
    have hw0 : Below w1.heap.size w1 w1 := Below.refl _ _
    go_wp2_with (go_at_call 10; refine (D1.out _ hw0).mono ?_; rintro e w2 ⟨rfl, hb2⟩; refine Hid.out ?_)
    refine Lib.hid ?_
    have hw2 := STEP.out _ _ hw0 hb2
    clear hb2
    go_wp2_with (go_at_call 11; refine (D2.out _ hw2).mono ?_; rintro e w3 ⟨rfl, hb3⟩; refine Hid.out ?_)
    refine Lib.hid ?_
    have hw3 := STEP.out _ _ hw2 hb3
    clear hb3 hw2
    go_wp2_with (go_at_call 12; refine (D3.out _ hw3).mono ?_; rintro e w4 ⟨rfl, rfl⟩; refine Hid.out ?_)
    refine Lib.hid ?_
    cases hnf : nfB rs
    · rw [hnf] at D4 D5
      clear D6 HME
      cases y
      all_goals
        go_wp2_with (go_at_call 10; refine (D4.out _ hw3).mono ?_; rintro e w21 ⟨rfl, hb21⟩; refine Hid.out ?_)
        refine Lib.hid ?_
        have hw21 := STEP.out _ _ hw3 hb21
        clear hb21
        go_wp2_with (go_at_call 13; refine (D5.out _ hw21).mono ?_; rintro e w22 ⟨rfl, q22, rfl⟩; refine Hid.out ?_)
        refine Lib.hid ?_
        have hw22 := below_drewN hw21 q22
        go_wp2_with (go_at_call 10; refine (D4.out _ hw22).mono ?_; rintro e w23 ⟨rfl, hb23⟩; refine Hid.out ?_)
        refine Lib.hid ?_
        have hw23 := STEP.out _ _ hw22 hb23
        clear hb23
        go_wp2_with (go_at_call 15; refine (D7.out _ hw23).mono ?_; rintro e w24 ⟨M', hm1, hm2, hm3, hm4, A7, n7, c7, rfl, hr7, hb7⟩; refine Hid.out ?_)
        refine Lib.hid ?_
        have hw24 := STEP.out _ _ hw23 hb7
        have s7 := same_any A1 A7 n1 n7 c1 c7 M M' w24 _ _ (KM.out w24 hw24) hr7 (by omega) (by have := hr7.1; omega)
        rw [show decide (M = M') = true from by rw [decide_eq_true_eq, H1.out, hm1]] at s7
        clear hm1 hm2 hm3 hm4 hr7 hb7
        go_wp2_with (go_at_call 14; refine (s7).mono ?_; rintro e w25 ⟨rfl, q25, rfl⟩; refine Hid.out ?_)
        refine Lib.hid ?_
        have hw25 := below_drewN hw24 q25
        go_wp2_with (go_at_call 8; refine (awake_any _).mono ?_; rintro e w26 ⟨rfl, hb26⟩; refine Hid.out ?_)
        refine Lib.hid ?_
        have hw26 := STEP.out _ _ hw25 hb26
        clear hb26
        go_wp2
        go_ret
        exact ⟨rfl, hb1.trans (hw26.mono hs1)⟩
    · have hMr := HME.out hnf
      rw [show decide (M = rs) = true from by rw [decide_eq_true_eq]; exact hMr] at D6
      have HMR := Lib.hid hMr
      rw [hnf] at D4 D5
      clear HME hMr
      cases y
      all_goals
        go_wp2_with (go_at_call 10; refine (D4.out _ hw3).mono ?_; rintro e w21 ⟨rfl, hb21⟩; refine Hid.out ?_)
        refine Lib.hid ?_
        have hw21 := STEP.out _ _ hw3 hb21
        clear hb21
        go_wp2_with (go_at_call 13; refine (D5.out _ hw21).mono ?_; rintro e w22 ⟨rfl, q22, rfl⟩; refine Hid.out ?_)
        refine Lib.hid ?_
        have hw22 := below_drewN hw21 q22
        go_wp2_with (go_at_call 10; refine (D4.out _ hw22).mono ?_; rintro e w23 ⟨rfl, hb23⟩; refine Hid.out ?_)
        refine Lib.hid ?_
        have hw23 := STEP.out _ _ hw22 hb23
        clear hb23
        go_wp2_with (go_at_call 14; refine (D6.out _ hw23).mono ?_; rintro e w24 ⟨rfl, q24, rfl⟩; refine Hid.out ?_)
        refine Lib.hid ?_
        have hw24 := below_drewN hw23 q24
        go_wp2_with (go_at_call 15; refine (D7.out _ hw24).mono ?_; rintro e w25 ⟨M', hm1, hm2, hm3, hm4, A7, n7, c7, rfl, hr7, hb7⟩; refine Hid.out ?_)
        refine Lib.hid ?_
        have hw25 := STEP.out _ _ hw24 hb7
        have s7 := same_any A1 A7 n1 n7 c1 c7 M M' w25 _ _ (KM.out w25 hw25) hr7 (by omega) (by have := hr7.1; omega)
        rw [show decide (M = M') = true from by rw [decide_eq_true_eq, H1.out, hm1]] at s7
        clear hm1 hm2 hm3 hm4 hr7 hb7
        go_wp2_with (go_at_call 14; refine (s7).mono ?_; rintro e w26 ⟨rfl, q26, rfl⟩; refine Hid.out ?_)
        refine Lib.hid ?_
        have hw26 := below_drewN hw25 q26
        go_wp2_with (go_at_call 8; refine (awake_any _).mono ?_; rintro e w27 ⟨rfl, hb27⟩; refine Hid.out ?_)
        refine Lib.hid ?_
        have hw27 := STEP.out _ _ hw26 hb27
        clear hb27
        go_wp2
        go_ret
        exact ⟨rfl, hb1.trans (hw27.mono hs1)⟩
  · go_enter Try.func3, Try.ntmps3
    go_wp2_with (go_at_call 8; refine (awake_any _).mono ?_; rintro e w1 ⟨rfl, hb1⟩)
    all_goals go_ret
    all_goals exact ⟨rfl, hb1⟩
end Go.Proofs.Ytahapkbapbgbiaa
