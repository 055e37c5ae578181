/- The walk of the law IntervalSubsets: it returns true. -/
import Derived.Test.YtahapkbapbgbiaaSubset
namespace Go.Proofs.Ytahapkbapbgbiaa
open Go.RowKit
theorem isSub_as (A A' : Option Addr) (n c n' c' : Nat) (rs rs' : List Rg) (b : Bool) (w : World) (hR : RngS w w.heap.size A n rs) (hR' : RngS w w.heap.size A' n' rs') (hn : n ≤ 800) (hn' : n' ≤ 800) (h : subB rs rs' = b) :
    Calls Try.prog 20 #[.slice A n c, .slice A' n' c'] w fun e w' => e = .returned (.bool b) ∧ Below w.heap.size w w' := by
  have := isSubset_any A A' n c n' c' rs rs' w hR hR' hn hn'
  rwa [h] at this
theorem refSub_as (A A' : Option Addr) (n c n' c' : Nat) (rs rs' : List Rg) (b : Bool) (w : World) (hR : RngS w w.heap.size A n rs) (hR' : RngS w w.heap.size A' n' rs') (hn : n ≤ 800) (hn' : n' ≤ 800) (h : subB rs rs' = b) :
    Calls Try.prog 21 #[.slice A n c, .slice A' n' c'] w fun e w' => e = .returned (.bool b) ∧ Below w.heap.size w w' := by
  have := subsetRanges_any A A' n c n' c' rs rs' w hR hR' hn hn'
  rwa [h] at this
set_option maxRecDepth 100000 in
set_option maxHeartbeats 6400000 in
theorem intervalSubsets_any (A A' : Option Addr) (n c n' c' : Nat) (rs rs' : List Rg) (x : Int) (w : World) (hR : RngS w w.heap.size A n rs) (hR' : RngS w w.heap.size A' n' rs') :
    Calls Try.prog 6 #[.slice A n c, .slice A' n' c', .int .i64 x] w fun e w' => e = .returned (.bool true) ∧ Below w.heap.size w w' := by
  have KA := Lib.hid (kept_from hR)
  have KB := Lib.hid (kept_from hR')
  clear hR hR'
  by_cases hn : n ≤ 40
  · by_cases hn' : n' ≤ 40
    · have hw0 : Below w.heap.size w w := Below.refl _ _
      obtain ⟨T, hT⟩ : ∃ T, subB rs rs' = T := ⟨_, rfl⟩
      obtain ⟨X, hX⟩ : ∃ X, hasB rs x = X := ⟨_, rfl⟩
      have HT := Lib.hid hT
      have HX := Lib.hid hX
      clear hT hX
      cases T
      · go_enter Try.func6, Try.ntmps6
        go_wp2_with (go_at_call 20; refine (isSub_as A A' n c n' c' rs rs' false _ (KA.out _ hw0) (KB.out _ hw0) (by omega) (by omega) HT.out).mono ?_; rintro e w11 ⟨rfl, hb11⟩; refine Hid.out ?_)
        refine Lib.hid ?_
        have h0_11 := step_on hw0 hb11
        clear hb11 hw0
        go_wp2_with (go_at_call 21; refine (refSub_as A A' n c n' c' rs rs' false _ (KA.out _ h0_11) (KB.out _ h0_11) (by omega) (by omega) HT.out).mono ?_; rintro e w12 ⟨rfl, hb12⟩; refine Hid.out ?_)
        refine Lib.hid ?_
        have h0_12 := step_on h0_11 hb12
        clear hb12 h0_11
        go_wp2_with (go_at_call 16; refine (union_any A A' n c n' c' rs rs' _ (KA.out _ h0_12) (KB.out _ h0_12) (by omega) (by omega)).mono ?_; rintro e w13 ⟨Mu, ha, hb, hc, hd, Au, nu, cu, rfl, hr, hx⟩; refine Hid.out ?_)
        refine Lib.hid ?_
        have h0_13 := step_on h0_12 hx
        have HNu := Lib.hid hb
        have HMu := Lib.hid hc
        have HLu := Lib.hid (Nat.le_trans (Nat.le_of_eq hr.1) hd)
        have HEu := Lib.hid hr.1
        have Ku := Lib.hid (kept_from hr)
        have hu_13 : Below w13.heap.size w13 w13 := Below.refl _ _
        clear ha hb hc hd hr hx h0_12
        go_wp2_with (go_at_call 9; refine (normalize_any A' n' c' rs' _ (KB.out _ h0_13) (by omega)).mono ?_; rintro e w14 ⟨Mb, ha, hb, hc, hd, Ab, nb, cb, rfl, hr, hx⟩; refine Hid.out ?_)
        refine Lib.hid ?_
        have h0_14 := step_on h0_13 hx
        have hu_14 := step_on hu_13 hx
        have HNb := Lib.hid hb
        have HMb := Lib.hid hc
        have HLb := Lib.hid (Nat.le_trans (Nat.le_of_eq hr.1) hd)
        have HEb := Lib.hid hr.1
        have Kb := Lib.hid (kept_from hr)
        have hb_14 : Below w14.heap.size w14 w14 := Below.refl _ _
        clear ha hb hc hd hr hx h0_13 hu_13
        go_wp2_with (go_at_call 14; refine (same_as Au Ab nu nb cu cb Mu Mb false _ (Ku.out _ hu_14) (Kb.out _ hb_14) (by have := HLu.out; omega) (by have := HLb.out; omega) (by rw [union_same HNu.out HNb.out HMu.out HMb.out]; exact HT.out)).mono ?_; rintro e w15 ⟨rfl, hb15⟩; refine Hid.out ?_)
        refine Lib.hid ?_
        have h0_15 := step_on h0_14 hb15
        have hu_15 := step_on hu_14 hb15
        have hb_15 := step_on hb_14 hb15
        clear hb15 h0_14 hu_14 hb_14
        clear hu_15 hb_15
        go_wp2_with (go_at_call 17; refine (intersect_any A A' n c n' c' rs rs' _ (KA.out _ h0_15) (KB.out _ h0_15) (by omega) (by omega)).mono ?_; rintro e w16 ⟨Mi, ha, hb, hc, hd, Ai, ni, ci, rfl, hr, hx⟩; refine Hid.out ?_)
        refine Lib.hid ?_
        have h0_16 := step_on h0_15 hx
        have HNi := Lib.hid hb
        have HMi := Lib.hid hc
        have HLi := Lib.hid (Nat.le_trans (Nat.le_of_eq hr.1) hd)
        have HEi := Lib.hid hr.1
        have Ki := Lib.hid (kept_from hr)
        have hi_16 : Below w16.heap.size w16 w16 := Below.refl _ _
        clear ha hb hc hd hr hx h0_15
        go_wp2_with (go_at_call 9; refine (normalize_any A n c rs _ (KA.out _ h0_16) (by omega)).mono ?_; rintro e w17 ⟨Ma, ha, hb, hc, hd, Aa, na, ca, rfl, hr, hx⟩; refine Hid.out ?_)
        refine Lib.hid ?_
        have h0_17 := step_on h0_16 hx
        have hi_17 := step_on hi_16 hx
        have HNa := Lib.hid hb
        have HMa := Lib.hid hc
        have HLa := Lib.hid (Nat.le_trans (Nat.le_of_eq hr.1) hd)
        have HEa := Lib.hid hr.1
        have Ka := Lib.hid (kept_from hr)
        have ha_17 : Below w17.heap.size w17 w17 := Below.refl _ _
        clear ha hb hc hd hr hx h0_16 hi_16
        go_wp2_with (go_at_call 14; refine (same_as Ai Aa ni na ci ca Mi Ma false _ (Ki.out _ hi_17) (Ka.out _ ha_17) (by have := HLi.out; omega) (by have := HLa.out; omega) (by rw [inter_same HNi.out HNa.out HMi.out HMa.out]; exact HT.out)).mono ?_; rintro e w18 ⟨rfl, hb18⟩; refine Hid.out ?_)
        refine Lib.hid ?_
        have h0_18 := step_on h0_17 hb18
        have hi_18 := step_on hi_17 hb18
        have ha_18 := step_on ha_17 hb18
        clear hb18 h0_17 hi_17 ha_17
        clear hi_18 ha_18
        go_wp2_with (go_at_call 8; refine (awake_any _).mono ?_; rintro e w19 ⟨rfl, hb19⟩; refine Hid.out ?_)
        refine Lib.hid ?_
        have h0_19 := step_on h0_18 hb19
        clear hb19 h0_18
        go_wp2
        all_goals go_ret
        all_goals exact ⟨rfl, h0_19⟩
      · cases X
        · go_enter Try.func6, Try.ntmps6
          go_wp2_with (go_at_call 20; refine (isSub_as A A' n c n' c' rs rs' true _ (KA.out _ hw0) (KB.out _ hw0) (by omega) (by omega) HT.out).mono ?_; rintro e w11 ⟨rfl, hb11⟩; refine Hid.out ?_)
          refine Lib.hid ?_
          have h0_11 := step_on hw0 hb11
          clear hb11 hw0
          go_wp2_with (go_at_call 11; refine (contains_as A n c rs x false _ (KA.out _ h0_11) (by omega) HX.out).mono ?_; rintro e w12 ⟨rfl, hb12⟩; refine Hid.out ?_)
          refine Lib.hid ?_
          have h0_12 := step_on h0_11 hb12
          clear hb12 h0_11
          go_wp2_with (go_at_call 21; refine (refSub_as A A' n c n' c' rs rs' true _ (KA.out _ h0_12) (KB.out _ h0_12) (by omega) (by omega) HT.out).mono ?_; rintro e w13 ⟨rfl, hb13⟩; refine Hid.out ?_)
          refine Lib.hid ?_
          have h0_13 := step_on h0_12 hb13
          clear hb13 h0_12
          go_wp2_with (go_at_call 16; refine (union_any A A' n c n' c' rs rs' _ (KA.out _ h0_13) (KB.out _ h0_13) (by omega) (by omega)).mono ?_; rintro e w14 ⟨Mu, ha, hb, hc, hd, Au, nu, cu, rfl, hr, hx⟩; refine Hid.out ?_)
          refine Lib.hid ?_
          have h0_14 := step_on h0_13 hx
          have HNu := Lib.hid hb
          have HMu := Lib.hid hc
          have HLu := Lib.hid (Nat.le_trans (Nat.le_of_eq hr.1) hd)
          have HEu := Lib.hid hr.1
          have Ku := Lib.hid (kept_from hr)
          have hu_14 : Below w14.heap.size w14 w14 := Below.refl _ _
          clear ha hb hc hd hr hx h0_13
          go_wp2_with (go_at_call 9; refine (normalize_any A' n' c' rs' _ (KB.out _ h0_14) (by omega)).mono ?_; rintro e w15 ⟨Mb, ha, hb, hc, hd, Ab, nb, cb, rfl, hr, hx⟩; refine Hid.out ?_)
          refine Lib.hid ?_
          have h0_15 := step_on h0_14 hx
          have hu_15 := step_on hu_14 hx
          have HNb := Lib.hid hb
          have HMb := Lib.hid hc
          have HLb := Lib.hid (Nat.le_trans (Nat.le_of_eq hr.1) hd)
          have HEb := Lib.hid hr.1
          have Kb := Lib.hid (kept_from hr)
          have hb_15 : Below w15.heap.size w15 w15 := Below.refl _ _
          clear ha hb hc hd hr hx h0_14 hu_14
          go_wp2_with (go_at_call 14; refine (same_as Au Ab nu nb cu cb Mu Mb true _ (Ku.out _ hu_15) (Kb.out _ hb_15) (by have := HLu.out; omega) (by have := HLb.out; omega) (by rw [union_same HNu.out HNb.out HMu.out HMb.out]; exact HT.out)).mono ?_; rintro e w16 ⟨rfl, hb16⟩; refine Hid.out ?_)
          refine Lib.hid ?_
          have h0_16 := step_on h0_15 hb16
          have hu_16 := step_on hu_15 hb16
          have hb_16 := step_on hb_15 hb16
          clear hb16 h0_15 hu_15 hb_15
          clear hu_16 hb_16
          go_wp2_with (go_at_call 17; refine (intersect_any A A' n c n' c' rs rs' _ (KA.out _ h0_16) (KB.out _ h0_16) (by omega) (by omega)).mono ?_; rintro e w17 ⟨Mi, ha, hb, hc, hd, Ai, ni, ci, rfl, hr, hx⟩; refine Hid.out ?_)
          refine Lib.hid ?_
          have h0_17 := step_on h0_16 hx
          have HNi := Lib.hid hb
          have HMi := Lib.hid hc
          have HLi := Lib.hid (Nat.le_trans (Nat.le_of_eq hr.1) hd)
          have HEi := Lib.hid hr.1
          have Ki := Lib.hid (kept_from hr)
          have hi_17 : Below w17.heap.size w17 w17 := Below.refl _ _
          clear ha hb hc hd hr hx h0_16
          go_wp2_with (go_at_call 9; refine (normalize_any A n c rs _ (KA.out _ h0_17) (by omega)).mono ?_; rintro e w18 ⟨Ma, ha, hb, hc, hd, Aa, na, ca, rfl, hr, hx⟩; refine Hid.out ?_)
          refine Lib.hid ?_
          have h0_18 := step_on h0_17 hx
          have hi_18 := step_on hi_17 hx
          have HNa := Lib.hid hb
          have HMa := Lib.hid hc
          have HLa := Lib.hid (Nat.le_trans (Nat.le_of_eq hr.1) hd)
          have HEa := Lib.hid hr.1
          have Ka := Lib.hid (kept_from hr)
          have ha_18 : Below w18.heap.size w18 w18 := Below.refl _ _
          clear ha hb hc hd hr hx h0_17 hi_17
          go_wp2_with (go_at_call 14; refine (same_as Ai Aa ni na ci ca Mi Ma true _ (Ki.out _ hi_18) (Ka.out _ ha_18) (by have := HLi.out; omega) (by have := HLa.out; omega) (by rw [inter_same HNi.out HNa.out HMi.out HMa.out]; exact HT.out)).mono ?_; rintro e w19 ⟨rfl, hb19⟩; refine Hid.out ?_)
          refine Lib.hid ?_
          have h0_19 := step_on h0_18 hb19
          have hi_19 := step_on hi_18 hb19
          have ha_19 := step_on ha_18 hb19
          clear hb19 h0_18 hi_18 ha_18
          clear hi_19 ha_19
          go_wp2_with (go_at_call 8; refine (awake_any _).mono ?_; rintro e w20 ⟨rfl, hb20⟩; refine Hid.out ?_)
          refine Lib.hid ?_
          have h0_20 := step_on h0_19 hb20
          clear hb20 h0_19
          go_wp2
          all_goals go_ret
          all_goals exact ⟨rfl, h0_20⟩
        · go_enter Try.func6, Try.ntmps6
          go_wp2_with (go_at_call 20; refine (isSub_as A A' n c n' c' rs rs' true _ (KA.out _ hw0) (KB.out _ hw0) (by omega) (by omega) HT.out).mono ?_; rintro e w11 ⟨rfl, hb11⟩; refine Hid.out ?_)
          refine Lib.hid ?_
          have h0_11 := step_on hw0 hb11
          clear hb11 hw0
          go_wp2_with (go_at_call 11; refine (contains_as A n c rs x true _ (KA.out _ h0_11) (by omega) HX.out).mono ?_; rintro e w12 ⟨rfl, hb12⟩; refine Hid.out ?_)
          refine Lib.hid ?_
          have h0_12 := step_on h0_11 hb12
          clear hb12 h0_11
          go_wp2_with (go_at_call 11; refine (contains_as A' n' c' rs' x true _ (KB.out _ h0_12) (by omega) ((hasB_iff _ _).2 ((subB_iff _ _).1 HT.out x ((hasB_iff _ _).1 HX.out)))).mono ?_; rintro e w13 ⟨rfl, hb13⟩; refine Hid.out ?_)
          refine Lib.hid ?_
          have h0_13 := step_on h0_12 hb13
          clear hb13 h0_12
          go_wp2_with (go_at_call 21; refine (refSub_as A A' n c n' c' rs rs' true _ (KA.out _ h0_13) (KB.out _ h0_13) (by omega) (by omega) HT.out).mono ?_; rintro e w14 ⟨rfl, hb14⟩; refine Hid.out ?_)
          refine Lib.hid ?_
          have h0_14 := step_on h0_13 hb14
          clear hb14 h0_13
          go_wp2_with (go_at_call 16; refine (union_any A A' n c n' c' rs rs' _ (KA.out _ h0_14) (KB.out _ h0_14) (by omega) (by omega)).mono ?_; rintro e w15 ⟨Mu, ha, hb, hc, hd, Au, nu, cu, rfl, hr, hx⟩; refine Hid.out ?_)
          refine Lib.hid ?_
          have h0_15 := step_on h0_14 hx
          have HNu := Lib.hid hb
          have HMu := Lib.hid hc
          have HLu := Lib.hid (Nat.le_trans (Nat.le_of_eq hr.1) hd)
          have HEu := Lib.hid hr.1
          have Ku := Lib.hid (kept_from hr)
          have hu_15 : Below w15.heap.size w15 w15 := Below.refl _ _
          clear ha hb hc hd hr hx h0_14
          go_wp2_with (go_at_call 9; refine (normalize_any A' n' c' rs' _ (KB.out _ h0_15) (by omega)).mono ?_; rintro e w16 ⟨Mb, ha, hb, hc, hd, Ab, nb, cb, rfl, hr, hx⟩; refine Hid.out ?_)
          refine Lib.hid ?_
          have h0_16 := step_on h0_15 hx
          have hu_16 := step_on hu_15 hx
          have HNb := Lib.hid hb
          have HMb := Lib.hid hc
          have HLb := Lib.hid (Nat.le_trans (Nat.le_of_eq hr.1) hd)
          have HEb := Lib.hid hr.1
          have Kb := Lib.hid (kept_from hr)
          have hb_16 : Below w16.heap.size w16 w16 := Below.refl _ _
          clear ha hb hc hd hr hx h0_15 hu_15
          go_wp2_with (go_at_call 14; refine (same_as Au Ab nu nb cu cb Mu Mb true _ (Ku.out _ hu_16) (Kb.out _ hb_16) (by have := HLu.out; omega) (by have := HLb.out; omega) (by rw [union_same HNu.out HNb.out HMu.out HMb.out]; exact HT.out)).mono ?_; rintro e w17 ⟨rfl, hb17⟩; refine Hid.out ?_)
          refine Lib.hid ?_
          have h0_17 := step_on h0_16 hb17
          have hu_17 := step_on hu_16 hb17
          have hb_17 := step_on hb_16 hb17
          clear hb17 h0_16 hu_16 hb_16
          clear hu_17 hb_17
          go_wp2_with (go_at_call 17; refine (intersect_any A A' n c n' c' rs rs' _ (KA.out _ h0_17) (KB.out _ h0_17) (by omega) (by omega)).mono ?_; rintro e w18 ⟨Mi, ha, hb, hc, hd, Ai, ni, ci, rfl, hr, hx⟩; refine Hid.out ?_)
          refine Lib.hid ?_
          have h0_18 := step_on h0_17 hx
          have HNi := Lib.hid hb
          have HMi := Lib.hid hc
          have HLi := Lib.hid (Nat.le_trans (Nat.le_of_eq hr.1) hd)
          have HEi := Lib.hid hr.1
          have Ki := Lib.hid (kept_from hr)
          have hi_18 : Below w18.heap.size w18 w18 := Below.refl _ _
          clear ha hb hc hd hr hx h0_17
          go_wp2_with (go_at_call 9; refine (normalize_any A n c rs _ (KA.out _ h0_18) (by omega)).mono ?_; rintro e w19 ⟨Ma, ha, hb, hc, hd, Aa, na, ca, rfl, hr, hx⟩; refine Hid.out ?_)
          refine Lib.hid ?_
          have h0_19 := step_on h0_18 hx
          have hi_19 := step_on hi_18 hx
          have HNa := Lib.hid hb
          have HMa := Lib.hid hc
          have HLa := Lib.hid (Nat.le_trans (Nat.le_of_eq hr.1) hd)
          have HEa := Lib.hid hr.1
          have Ka := Lib.hid (kept_from hr)
          have ha_19 : Below w19.heap.size w19 w19 := Below.refl _ _
          clear ha hb hc hd hr hx h0_18 hi_18
          go_wp2_with (go_at_call 14; refine (same_as Ai Aa ni na ci ca Mi Ma true _ (Ki.out _ hi_19) (Ka.out _ ha_19) (by have := HLi.out; omega) (by have := HLa.out; omega) (by rw [inter_same HNi.out HNa.out HMi.out HMa.out]; exact HT.out)).mono ?_; rintro e w20 ⟨rfl, hb20⟩; refine Hid.out ?_)
          refine Lib.hid ?_
          have h0_20 := step_on h0_19 hb20
          have hi_20 := step_on hi_19 hb20
          have ha_20 := step_on ha_19 hb20
          clear hb20 h0_19 hi_19 ha_19
          clear hi_20 ha_20
          go_wp2_with (go_at_call 8; refine (awake_any _).mono ?_; rintro e w21 ⟨rfl, hb21⟩; refine Hid.out ?_)
          refine Lib.hid ?_
          have h0_21 := step_on h0_20 hb21
          clear hb21 h0_20
          go_wp2
          all_goals go_ret
          all_goals exact ⟨rfl, h0_21⟩
    · go_enter Try.func6, Try.ntmps6
      go_wp2_with (go_at_call 8; refine (awake_any _).mono ?_; rintro e w1 ⟨rfl, hb1⟩)
      all_goals go_ret
      all_goals exact ⟨rfl, hb1⟩
  · go_enter Try.func6, Try.ntmps6
    go_wp2_with (go_at_call 8; refine (awake_any _).mono ?_; rintro e w1 ⟨rfl, hb1⟩)
    all_goals go_ret
    all_goals exact ⟨rfl, hb1⟩
end Go.Proofs.Ytahapkbapbgbiaa
