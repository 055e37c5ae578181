/- The walk of the law IntervalSets: it returns true. -/
import Derived.Test.YtahapkbapbgbiaaLawKit
import Derived.Test.YtahapkbapbgbiaaInter
namespace Go.Proofs.Ytahapkbapbgbiaa
open Go.RowKit
theorem sets_u {a b m : List Rg} {x : Int} {X Y : Bool} (h : ∀ x, hasI m x ↔ hasI a x ∨ hasI b x) (hX : hasB a x = X) (hY : hasB b x = Y) : hasB m x = (X || Y) := by
  rw [Bool.eq_iff_iff, hasB_iff, h, ← hasB_iff, ← hasB_iff, hX, hY]; simp
theorem sets_i {a b m : List Rg} {x : Int} {X Y : Bool} (h : ∀ x, hasI m x ↔ hasI a x ∧ hasI b x) (hX : hasB a x = X) (hY : hasB b x = Y) : hasB m x = (X && Y) := by
  rw [Bool.eq_iff_iff, hasB_iff, h, ← hasB_iff, ← hasB_iff, hX, hY]; simp
theorem sets_c {a m : List Rg} {x : Int} {X : Bool} (h : ∀ x, hasI m x ↔ Non (hasI a) x) (hX : hasB a x = X) (h1 : LO ≤ x) (h2 : x ≤ HI) : hasB m x = !X := by
  rw [Bool.eq_iff_iff, hasB_iff, h]
  unfold Non
  rw [← hasB_iff, hX]
  simp [h1, h2]
set_option maxRecDepth 100000 in
set_option maxHeartbeats 6400000 in
theorem intervalSets_any (A A' : Option Addr) (n c n' c' : Nat) (rs rs' : List Rg) (x : Int) (w : World) (hR : RngS w w.heap.size A n rs) (hR' : RngS w w.heap.size A' n' rs') (hx1 : LO ≤ x) (hx2 : x ≤ HI) :
    Calls Try.prog 4 #[.slice A n c, .slice A' n' c', .int .i64 x] w fun e w' => e = .returned (.bool true) ∧ Below w.heap.size w w' := by
  have KA := Lib.hid (kept_from hR)
  have KB := Lib.hid (kept_from hR')
  clear hR hR'
  by_cases hn : n ≤ 40
  · by_cases hn' : n' ≤ 40
    · obtain ⟨X, hX⟩ : ∃ X, hasB rs x = X := ⟨_, rfl⟩
      obtain ⟨Y, hY⟩ : ∃ Y, hasB rs' x = Y := ⟨_, rfl⟩
      have HX := Lib.hid hX
      have HY := Lib.hid hY
      clear hX hY
      have hw0 : Below w.heap.size w w := Below.refl _ _
      cases X
      · cases Y
        · go_enter Try.func4, Try.ntmps4
          go_wp2_with (go_at_call 16; refine (union_any A A' n c n' c' rs rs' _ (KA.out _ hw0) (KB.out _ hw0) (by omega) (by omega)).mono ?_; rintro e w11 ⟨Mu, ha, hb, hc, hd, Au, nu, cu, rfl, hr, hx⟩; refine Hid.out ?_)
          refine Lib.hid ?_
          have h0_11 := step_on hw0 hx
          have HNu := Lib.hid hb
          have HMu := Lib.hid hc
          have HLu := Lib.hid (Nat.le_trans (Nat.le_of_eq hr.1) hd)
          have HEu := Lib.hid hr.1
          have Ku := Lib.hid (kept_from hr)
          have hu_11 : Below w11.heap.size w11 w11 := Below.refl _ _
          clear ha hb hc hd hr hx hw0
          go_wp2_with (go_at_call 17; refine (intersect_any A A' n c n' c' rs rs' _ (KA.out _ h0_11) (KB.out _ h0_11) (by omega) (by omega)).mono ?_; rintro e w12 ⟨Mi, ha, hb, hc, hd, Ai, ni, ci, rfl, hr, hx⟩; refine Hid.out ?_)
          refine Lib.hid ?_
          have h0_12 := step_on h0_11 hx
          have hu_12 := step_on hu_11 hx
          have HNi := Lib.hid hb
          have HMi := Lib.hid hc
          have HLi := Lib.hid (Nat.le_trans (Nat.le_of_eq hr.1) hd)
          have HEi := Lib.hid hr.1
          have Ki := Lib.hid (kept_from hr)
          have hi_12 : Below w12.heap.size w12 w12 := Below.refl _ _
          clear ha hb hc hd hr hx h0_11 hu_11
          go_wp2_with (go_at_call 18; refine (complement_any A n c rs _ (KA.out _ h0_12) (by omega)).mono ?_; rintro e w13 ⟨Mc, ha, hb, hc, hd, Ac, nc, cc, rfl, hr, hx⟩; refine Hid.out ?_)
          refine Lib.hid ?_
          have h0_13 := step_on h0_12 hx
          have hu_13 := step_on hu_12 hx
          have hi_13 := step_on hi_12 hx
          have HNc := Lib.hid hb
          have HMc := Lib.hid hc
          have HLc := Lib.hid (Nat.le_trans (Nat.le_of_eq hr.1) hd)
          have HEc := Lib.hid hr.1
          have Kc := Lib.hid (kept_from hr)
          have hc_13 : Below w13.heap.size w13 w13 := Below.refl _ _
          clear ha hb hc hd hr hx h0_12 hu_12 hi_12
          go_wp2_with (go_at_call 12; refine (hasInt_as A n c rs x false _ (KA.out _ h0_13) (by omega) HX.out).mono ?_; rintro e w14 ⟨rfl, rfl⟩; refine Hid.out ?_)
          refine Lib.hid ?_
          go_wp2_with (go_at_call 12; refine (hasInt_as A' n' c' rs' x false _ (KB.out _ h0_13) (by omega) HY.out).mono ?_; rintro e w15 ⟨rfl, rfl⟩; refine Hid.out ?_)
          refine Lib.hid ?_
          go_wp2_with (go_at_call 10; refine (valid_yes Au nu cu Mu _ (Ku.out _ hu_13) (by have := HLu.out; omega) HNu.out).mono ?_; rintro e w16 ⟨rfl, hb16⟩; refine Hid.out ?_)
          refine Lib.hid ?_
          have h0_16 := step_on h0_13 hb16
          have hu_16 := step_on hu_13 hb16
          have hi_16 := step_on hi_13 hb16
          have hc_16 := step_on hc_13 hb16
          clear hb16 h0_13 hu_13 hi_13 hc_13
          go_wp2_with (go_at_call 10; refine (valid_yes Ai ni ci Mi _ (Ki.out _ hi_16) (by have := HLi.out; omega) HNi.out).mono ?_; rintro e w17 ⟨rfl, hb17⟩; refine Hid.out ?_)
          refine Lib.hid ?_
          have h0_17 := step_on h0_16 hb17
          have hu_17 := step_on hu_16 hb17
          have hi_17 := step_on hi_16 hb17
          have hc_17 := step_on hc_16 hb17
          clear hb17 h0_16 hu_16 hi_16 hc_16
          go_wp2_with (go_at_call 10; refine (valid_yes Ac nc cc Mc _ (Kc.out _ hc_17) (by have := HLc.out; omega) HNc.out).mono ?_; rintro e w18 ⟨rfl, hb18⟩; refine Hid.out ?_)
          refine Lib.hid ?_
          have h0_18 := step_on h0_17 hb18
          have hu_18 := step_on hu_17 hb18
          have hi_18 := step_on hi_17 hb18
          have hc_18 := step_on hc_17 hb18
          clear hb18 h0_17 hu_17 hi_17 hc_17
          go_wp2_with (go_at_call 11; refine (contains_as Au nu cu Mu x false _ (Ku.out _ hu_18) (by have := HLu.out; omega) (sets_u HMu.out HX.out HY.out)).mono ?_; rintro e w19 ⟨rfl, hb19⟩; refine Hid.out ?_)
          refine Lib.hid ?_
          have h0_19 := step_on h0_18 hb19
          have hu_19 := step_on hu_18 hb19
          have hi_19 := step_on hi_18 hb19
          have hc_19 := step_on hc_18 hb19
          clear hb19 h0_18 hu_18 hi_18 hc_18
          go_wp2_with (go_at_call 11; refine (contains_as Ai ni ci Mi x false _ (Ki.out _ hi_19) (by have := HLi.out; omega) (sets_i HMi.out HX.out HY.out)).mono ?_; rintro e w20 ⟨rfl, hb20⟩; refine Hid.out ?_)
          refine Lib.hid ?_
          have h0_20 := step_on h0_19 hb20
          have hu_20 := step_on hu_19 hb20
          have hi_20 := step_on hi_19 hb20
          have hc_20 := step_on hc_19 hb20
          clear hb20 h0_19 hu_19 hi_19 hc_19
          go_wp2_with (go_at_call 11; refine (contains_as Ac nc cc Mc x true _ (Kc.out _ hc_20) (by have := HLc.out; omega) (sets_c HMc.out HX.out hx1 hx2)).mono ?_; rintro e w21 ⟨rfl, hb21⟩; refine Hid.out ?_)
          refine Lib.hid ?_
          have h0_21 := step_on h0_20 hb21
          have hu_21 := step_on hu_20 hb21
          have hi_21 := step_on hi_20 hb21
          have hc_21 := step_on hc_20 hb21
          clear hb21 h0_20 hu_20 hi_20 hc_20
          go_wp2_with (go_at_call 11; refine (contains_as A n c rs x false _ (KA.out _ h0_21) (by omega) HX.out).mono ?_; rintro e w22 ⟨rfl, hb22⟩; refine Hid.out ?_)
          refine Lib.hid ?_
          have h0_22 := step_on h0_21 hb22
          have hu_22 := step_on hu_21 hb22
          have hi_22 := step_on hi_21 hb22
          have hc_22 := step_on hc_21 hb22
          clear hb22 h0_21 hu_21 hi_21 hc_21
          go_wp2_with (go_at_call 8; refine (awake_any _).mono ?_; rintro e w23 ⟨rfl, hb23⟩; refine Hid.out ?_)
          refine Lib.hid ?_
          have h0_23 := step_on h0_22 hb23
          have hu_23 := step_on hu_22 hb23
          have hi_23 := step_on hi_22 hb23
          have hc_23 := step_on hc_22 hb23
          clear hb23 h0_22 hu_22 hi_22 hc_22
          go_wp2
          go_ret
          exact ⟨rfl, h0_23⟩
        · go_enter Try.func4, Try.ntmps4
          go_wp2_with (go_at_call 16; refine (union_any A A' n c n' c' rs rs' _ (KA.out _ hw0) (KB.out _ hw0) (by omega) (by omega)).mono ?_; rintro e w11 ⟨Mu, ha, hb, hc, hd, Au, nu, cu, rfl, hr, hx⟩; refine Hid.out ?_)
          refine Lib.hid ?_
          have h0_11 := step_on hw0 hx
          have HNu := Lib.hid hb
          have HMu := Lib.hid hc
          have HLu := Lib.hid (Nat.le_trans (Nat.le_of_eq hr.1) hd)
          have HEu := Lib.hid hr.1
          have Ku := Lib.hid (kept_from hr)
          have hu_11 : Below w11.heap.size w11 w11 := Below.refl _ _
          clear ha hb hc hd hr hx hw0
          go_wp2_with (go_at_call 17; refine (intersect_any A A' n c n' c' rs rs' _ (KA.out _ h0_11) (KB.out _ h0_11) (by omega) (by omega)).mono ?_; rintro e w12 ⟨Mi, ha, hb, hc, hd, Ai, ni, ci, rfl, hr, hx⟩; refine Hid.out ?_)
          refine Lib.hid ?_
          have h0_12 := step_on h0_11 hx
          have hu_12 := step_on hu_11 hx
          have HNi := Lib.hid hb
          have HMi := Lib.hid hc
          have HLi := Lib.hid (Nat.le_trans (Nat.le_of_eq hr.1) hd)
          have HEi := Lib.hid hr.1
          have Ki := Lib.hid (kept_from hr)
          have hi_12 : Below w12.heap.size w12 w12 := Below.refl _ _
          clear ha hb hc hd hr hx h0_11 hu_11
          go_wp2_with (go_at_call 18; refine (complement_any A n c rs _ (KA.out _ h0_12) (by omega)).mono ?_; rintro e w13 ⟨Mc, ha, hb, hc, hd, Ac, nc, cc, rfl, hr, hx⟩; refine Hid.out ?_)
          refine Lib.hid ?_
          have h0_13 := step_on h0_12 hx
          have hu_13 := step_on hu_12 hx
          have hi_13 := step_on hi_12 hx
          have HNc := Lib.hid hb
          have HMc := Lib.hid hc
          have HLc := Lib.hid (Nat.le_trans (Nat.le_of_eq hr.1) hd)
          have HEc := Lib.hid hr.1
          have Kc := Lib.hid (kept_from hr)
          have hc_13 : Below w13.heap.size w13 w13 := Below.refl _ _
          clear ha hb hc hd hr hx h0_12 hu_12 hi_12
          go_wp2_with (go_at_call 12; refine (hasInt_as A n c rs x false _ (KA.out _ h0_13) (by omega) HX.out).mono ?_; rintro e w14 ⟨rfl, rfl⟩; refine Hid.out ?_)
          refine Lib.hid ?_
          go_wp2_with (go_at_call 12; refine (hasInt_as A' n' c' rs' x true _ (KB.out _ h0_13) (by omega) HY.out).mono ?_; rintro e w15 ⟨rfl, rfl⟩; refine Hid.out ?_)
          refine Lib.hid ?_
          go_wp2_with (go_at_call 10; refine (valid_yes Au nu cu Mu _ (Ku.out _ hu_13) (by have := HLu.out; omega) HNu.out).mono ?_; rintro e w16 ⟨rfl, hb16⟩; refine Hid.out ?_)
          refine Lib.hid ?_
          have h0_16 := step_on h0_13 hb16
          have hu_16 := step_on hu_13 hb16
          have hi_16 := step_on hi_13 hb16
          have hc_16 := step_on hc_13 hb16
          clear hb16 h0_13 hu_13 hi_13 hc_13
          go_wp2_with (go_at_call 10; refine (valid_yes Ai ni ci Mi _ (Ki.out _ hi_16) (by have := HLi.out; omega) HNi.out).mono ?_; rintro e w17 ⟨rfl, hb17⟩; refine Hid.out ?_)
          refine Lib.hid ?_
          have h0_17 := step_on h0_16 hb17
          have hu_17 := step_on hu_16 hb17
          have hi_17 := step_on hi_16 hb17
          have hc_17 := step_on hc_16 hb17
          clear hb17 h0_16 hu_16 hi_16 hc_16
          go_wp2_with (go_at_call 10; refine (valid_yes Ac nc cc Mc _ (Kc.out _ hc_17) (by have := HLc.out; omega) HNc.out).mono ?_; rintro e w18 ⟨rfl, hb18⟩; refine Hid.out ?_)
          refine Lib.hid ?_
          have h0_18 := step_on h0_17 hb18
          have hu_18 := step_on hu_17 hb18
          have hi_18 := step_on hi_17 hb18
          have hc_18 := step_on hc_17 hb18
          clear hb18 h0_17 hu_17 hi_17 hc_17
          go_wp2_with (go_at_call 11; refine (contains_as Au nu cu Mu x true _ (Ku.out _ hu_18) (by have := HLu.out; omega) (sets_u HMu.out HX.out HY.out)).mono ?_; rintro e w19 ⟨rfl, hb19⟩; refine Hid.out ?_)
          refine Lib.hid ?_
          have h0_19 := step_on h0_18 hb19
          have hu_19 := step_on hu_18 hb19
          have hi_19 := step_on hi_18 hb19
          have hc_19 := step_on hc_18 hb19
          clear hb19 h0_18 hu_18 hi_18 hc_18
          go_wp2_with (go_at_call 11; refine (contains_as Ai ni ci Mi x false _ (Ki.out _ hi_19) (by have := HLi.out; omega) (sets_i HMi.out HX.out HY.out)).mono ?_; rintro e w20 ⟨rfl, hb20⟩; refine Hid.out ?_)
          refine Lib.hid ?_
          have h0_20 := step_on h0_19 hb20
          have hu_20 := step_on hu_19 hb20
          have hi_20 := step_on hi_19 hb20
          have hc_20 := step_on hc_19 hb20
          clear hb20 h0_19 hu_19 hi_19 hc_19
          go_wp2_with (go_at_call 11; refine (contains_as Ac nc cc Mc x true _ (Kc.out _ hc_20) (by have := HLc.out; omega) (sets_c HMc.out HX.out hx1 hx2)).mono ?_; rintro e w21 ⟨rfl, hb21⟩; refine Hid.out ?_)
          refine Lib.hid ?_
          have h0_21 := step_on h0_20 hb21
          have hu_21 := step_on hu_20 hb21
          have hi_21 := step_on hi_20 hb21
          have hc_21 := step_on hc_20 hb21
          clear hb21 h0_20 hu_20 hi_20 hc_20
          go_wp2_with (go_at_call 11; refine (contains_as A n c rs x false _ (KA.out _ h0_21) (by omega) HX.out).mono ?_; rintro e w22 ⟨rfl, hb22⟩; refine Hid.out ?_)
          refine Lib.hid ?_
          have h0_22 := step_on h0_21 hb22
          have hu_22 := step_on hu_21 hb22
          have hi_22 := step_on hi_21 hb22
          have hc_22 := step_on hc_21 hb22
          clear hb22 h0_21 hu_21 hi_21 hc_21
          go_wp2_with (go_at_call 8; refine (awake_any _).mono ?_; rintro e w23 ⟨rfl, hb23⟩; refine Hid.out ?_)
          refine Lib.hid ?_
          have h0_23 := step_on h0_22 hb23
          have hu_23 := step_on hu_22 hb23
          have hi_23 := step_on hi_22 hb23
          have hc_23 := step_on hc_22 hb23
          clear hb23 h0_22 hu_22 hi_22 hc_22
          go_wp2
          go_ret
          exact ⟨rfl, h0_23⟩
      · cases Y
        · go_enter Try.func4, Try.ntmps4
          go_wp2_with (go_at_call 16; refine (union_any A A' n c n' c' rs rs' _ (KA.out _ hw0) (KB.out _ hw0) (by omega) (by omega)).mono ?_; rintro e w11 ⟨Mu, ha, hb, hc, hd, Au, nu, cu, rfl, hr, hx⟩; refine Hid.out ?_)
          refine Lib.hid ?_
          have h0_11 := step_on hw0 hx
          have HNu := Lib.hid hb
          have HMu := Lib.hid hc
          have HLu := Lib.hid (Nat.le_trans (Nat.le_of_eq hr.1) hd)
          have HEu := Lib.hid hr.1
          have Ku := Lib.hid (kept_from hr)
          have hu_11 : Below w11.heap.size w11 w11 := Below.refl _ _
          clear ha hb hc hd hr hx hw0
          go_wp2_with (go_at_call 17; refine (intersect_any A A' n c n' c' rs rs' _ (KA.out _ h0_11) (KB.out _ h0_11) (by omega) (by omega)).mono ?_; rintro e w12 ⟨Mi, ha, hb, hc, hd, Ai, ni, ci, rfl, hr, hx⟩; refine Hid.out ?_)
          refine Lib.hid ?_
          have h0_12 := step_on h0_11 hx
          have hu_12 := step_on hu_11 hx
          have HNi := Lib.hid hb
          have HMi := Lib.hid hc
          have HLi := Lib.hid (Nat.le_trans (Nat.le_of_eq hr.1) hd)
          have HEi := Lib.hid hr.1
          have Ki := Lib.hid (kept_from hr)
          have hi_12 : Below w12.heap.size w12 w12 := Below.refl _ _
          clear ha hb hc hd hr hx h0_11 hu_11
          go_wp2_with (go_at_call 18; refine (complement_any A n c rs _ (KA.out _ h0_12) (by omega)).mono ?_; rintro e w13 ⟨Mc, ha, hb, hc, hd, Ac, nc, cc, rfl, hr, hx⟩; refine Hid.out ?_)
          refine Lib.hid ?_
          have h0_13 := step_on h0_12 hx
          have hu_13 := step_on hu_12 hx
          have hi_13 := step_on hi_12 hx
          have HNc := Lib.hid hb
          have HMc := Lib.hid hc
          have HLc := Lib.hid (Nat.le_trans (Nat.le_of_eq hr.1) hd)
          have HEc := Lib.hid hr.1
          have Kc := Lib.hid (kept_from hr)
          have hc_13 : Below w13.heap.size w13 w13 := Below.refl _ _
          clear ha hb hc hd hr hx h0_12 hu_12 hi_12
          go_wp2_with (go_at_call 12; refine (hasInt_as A n c rs x true _ (KA.out _ h0_13) (by omega) HX.out).mono ?_; rintro e w14 ⟨rfl, rfl⟩; refine Hid.out ?_)
          refine Lib.hid ?_
          go_wp2_with (go_at_call 12; refine (hasInt_as A' n' c' rs' x false _ (KB.out _ h0_13) (by omega) HY.out).mono ?_; rintro e w15 ⟨rfl, rfl⟩; refine Hid.out ?_)
          refine Lib.hid ?_
          go_wp2_with (go_at_call 10; refine (valid_yes Au nu cu Mu _ (Ku.out _ hu_13) (by have := HLu.out; omega) HNu.out).mono ?_; rintro e w16 ⟨rfl, hb16⟩; refine Hid.out ?_)
          refine Lib.hid ?_
          have h0_16 := step_on h0_13 hb16
          have hu_16 := step_on hu_13 hb16
          have hi_16 := step_on hi_13 hb16
          have hc_16 := step_on hc_13 hb16
          clear hb16 h0_13 hu_13 hi_13 hc_13
          go_wp2_with (go_at_call 10; refine (valid_yes Ai ni ci Mi _ (Ki.out _ hi_16) (by have := HLi.out; omega) HNi.out).mono ?_; rintro e w17 ⟨rfl, hb17⟩; refine Hid.out ?_)
          refine Lib.hid ?_
          have h0_17 := step_on h0_16 hb17
          have hu_17 := step_on hu_16 hb17
          have hi_17 := step_on hi_16 hb17
          have hc_17 := step_on hc_16 hb17
          clear hb17 h0_16 hu_16 hi_16 hc_16
          go_wp2_with (go_at_call 10; refine (valid_yes Ac nc cc Mc _ (Kc.out _ hc_17) (by have := HLc.out; omega) HNc.out).mono ?_; rintro e w18 ⟨rfl, hb18⟩; refine Hid.out ?_)
          refine Lib.hid ?_
          have h0_18 := step_on h0_17 hb18
          have hu_18 := step_on hu_17 hb18
          have hi_18 := step_on hi_17 hb18
          have hc_18 := step_on hc_17 hb18
          clear hb18 h0_17 hu_17 hi_17 hc_17
          go_wp2_with (go_at_call 11; refine (contains_as Au nu cu Mu x true _ (Ku.out _ hu_18) (by have := HLu.out; omega) (sets_u HMu.out HX.out HY.out)).mono ?_; rintro e w19 ⟨rfl, hb19⟩; refine Hid.out ?_)
          refine Lib.hid ?_
          have h0_19 := step_on h0_18 hb19
          have hu_19 := step_on hu_18 hb19
          have hi_19 := step_on hi_18 hb19
          have hc_19 := step_on hc_18 hb19
          clear hb19 h0_18 hu_18 hi_18 hc_18
          go_wp2_with (go_at_call 11; refine (contains_as Ai ni ci Mi x false _ (Ki.out _ hi_19) (by have := HLi.out; omega) (sets_i HMi.out HX.out HY.out)).mono ?_; rintro e w20 ⟨rfl, hb20⟩; refine Hid.out ?_)
          refine Lib.hid ?_
          have h0_20 := step_on h0_19 hb20
          have hu_20 := step_on hu_19 hb20
          have hi_20 := step_on hi_19 hb20
          have hc_20 := step_on hc_19 hb20
          clear hb20 h0_19 hu_19 hi_19 hc_19
          go_wp2_with (go_at_call 11; refine (contains_as Ac nc cc Mc x false _ (Kc.out _ hc_20) (by have := HLc.out; omega) (sets_c HMc.out HX.out hx1 hx2)).mono ?_; rintro e w21 ⟨rfl, hb21⟩; refine Hid.out ?_)
          refine Lib.hid ?_
          have h0_21 := step_on h0_20 hb21
          have hu_21 := step_on hu_20 hb21
          have hi_21 := step_on hi_20 hb21
          have hc_21 := step_on hc_20 hb21
          clear hb21 h0_20 hu_20 hi_20 hc_20
          go_wp2_with (go_at_call 11; refine (contains_as A n c rs x true _ (KA.out _ h0_21) (by omega) HX.out).mono ?_; rintro e w22 ⟨rfl, hb22⟩; refine Hid.out ?_)
          refine Lib.hid ?_
          have h0_22 := step_on h0_21 hb22
          have hu_22 := step_on hu_21 hb22
          have hi_22 := step_on hi_21 hb22
          have hc_22 := step_on hc_21 hb22
          clear hb22 h0_21 hu_21 hi_21 hc_21
          go_wp2_with (go_at_call 8; refine (awake_any _).mono ?_; rintro e w23 ⟨rfl, hb23⟩; refine Hid.out ?_)
          refine Lib.hid ?_
          have h0_23 := step_on h0_22 hb23
          have hu_23 := step_on hu_22 hb23
          have hi_23 := step_on hi_22 hb23
          have hc_23 := step_on hc_22 hb23
          clear hb23 h0_22 hu_22 hi_22 hc_22
          go_wp2
          go_ret
          exact ⟨rfl, h0_23⟩
        · go_enter Try.func4, Try.ntmps4
          go_wp2_with (go_at_call 16; refine (union_any A A' n c n' c' rs rs' _ (KA.out _ hw0) (KB.out _ hw0) (by omega) (by omega)).mono ?_; rintro e w11 ⟨Mu, ha, hb, hc, hd, Au, nu, cu, rfl, hr, hx⟩; refine Hid.out ?_)
          refine Lib.hid ?_
          have h0_11 := step_on hw0 hx
          have HNu := Lib.hid hb
          have HMu := Lib.hid hc
          have HLu := Lib.hid (Nat.le_trans (Nat.le_of_eq hr.1) hd)
          have HEu := Lib.hid hr.1
          have Ku := Lib.hid (kept_from hr)
          have hu_11 : Below w11.heap.size w11 w11 := Below.refl _ _
          clear ha hb hc hd hr hx hw0
          go_wp2_with (go_at_call 17; refine (intersect_any A A' n c n' c' rs rs' _ (KA.out _ h0_11) (KB.out _ h0_11) (by omega) (by omega)).mono ?_; rintro e w12 ⟨Mi, ha, hb, hc, hd, Ai, ni, ci, rfl, hr, hx⟩; refine Hid.out ?_)
          refine Lib.hid ?_
          have h0_12 := step_on h0_11 hx
          have hu_12 := step_on hu_11 hx
          have HNi := Lib.hid hb
          have HMi := Lib.hid hc
          have HLi := Lib.hid (Nat.le_trans (Nat.le_of_eq hr.1) hd)
          have HEi := Lib.hid hr.1
          have Ki := Lib.hid (kept_from hr)
          have hi_12 : Below w12.heap.size w12 w12 := Below.refl _ _
          clear ha hb hc hd hr hx h0_11 hu_11
          go_wp2_with (go_at_call 18; refine (complement_any A n c rs _ (KA.out _ h0_12) (by omega)).mono ?_; rintro e w13 ⟨Mc, ha, hb, hc, hd, Ac, nc, cc, rfl, hr, hx⟩; refine Hid.out ?_)
          refine Lib.hid ?_
          have h0_13 := step_on h0_12 hx
          have hu_13 := step_on hu_12 hx
          have hi_13 := step_on hi_12 hx
          have HNc := Lib.hid hb
          have HMc := Lib.hid hc
          have HLc := Lib.hid (Nat.le_trans (Nat.le_of_eq hr.1) hd)
          have HEc := Lib.hid hr.1
          have Kc := Lib.hid (kept_from hr)
          have hc_13 : Below w13.heap.size w13 w13 := Below.refl _ _
          clear ha hb hc hd hr hx h0_12 hu_12 hi_12
          go_wp2_with (go_at_call 12; refine (hasInt_as A n c rs x true _ (KA.out _ h0_13) (by omega) HX.out).mono ?_; rintro e w14 ⟨rfl, rfl⟩; refine Hid.out ?_)
          refine Lib.hid ?_
          go_wp2_with (go_at_call 12; refine (hasInt_as A' n' c' rs' x true _ (KB.out _ h0_13) (by omega) HY.out).mono ?_; rintro e w15 ⟨rfl, rfl⟩; refine Hid.out ?_)
          refine Lib.hid ?_
          go_wp2_with (go_at_call 10; refine (valid_yes Au nu cu Mu _ (Ku.out _ hu_13) (by have := HLu.out; omega) HNu.out).mono ?_; rintro e w16 ⟨rfl, hb16⟩; refine Hid.out ?_)
          refine Lib.hid ?_
          have h0_16 := step_on h0_13 hb16
          have hu_16 := step_on hu_13 hb16
          have hi_16 := step_on hi_13 hb16
          have hc_16 := step_on hc_13 hb16
          clear hb16 h0_13 hu_13 hi_13 hc_13
          go_wp2_with (go_at_call 10; refine (valid_yes Ai ni ci Mi _ (Ki.out _ hi_16) (by have := HLi.out; omega) HNi.out).mono ?_; rintro e w17 ⟨rfl, hb17⟩; refine Hid.out ?_)
          refine Lib.hid ?_
          have h0_17 := step_on h0_16 hb17
          have hu_17 := step_on hu_16 hb17
          have hi_17 := step_on hi_16 hb17
          have hc_17 := step_on hc_16 hb17
          clear hb17 h0_16 hu_16 hi_16 hc_16
          go_wp2_with (go_at_call 10; refine (valid_yes Ac nc cc Mc _ (Kc.out _ hc_17) (by have := HLc.out; omega) HNc.out).mono ?_; rintro e w18 ⟨rfl, hb18⟩; refine Hid.out ?_)
          refine Lib.hid ?_
          have h0_18 := step_on h0_17 hb18
          have hu_18 := step_on hu_17 hb18
          have hi_18 := step_on hi_17 hb18
          have hc_18 := step_on hc_17 hb18
          clear hb18 h0_17 hu_17 hi_17 hc_17
          go_wp2_with (go_at_call 11; refine (contains_as Au nu cu Mu x true _ (Ku.out _ hu_18) (by have := HLu.out; omega) (sets_u HMu.out HX.out HY.out)).mono ?_; rintro e w19 ⟨rfl, hb19⟩; refine Hid.out ?_)
          refine Lib.hid ?_
          have h0_19 := step_on h0_18 hb19
          have hu_19 := step_on hu_18 hb19
          have hi_19 := step_on hi_18 hb19
          have hc_19 := step_on hc_18 hb19
          clear hb19 h0_18 hu_18 hi_18 hc_18
          go_wp2_with (go_at_call 11; refine (contains_as Ai ni ci Mi x true _ (Ki.out _ hi_19) (by have := HLi.out; omega) (sets_i HMi.out HX.out HY.out)).mono ?_; rintro e w20 ⟨rfl, hb20⟩; refine Hid.out ?_)
          refine Lib.hid ?_
          have h0_20 := step_on h0_19 hb20
          have hu_20 := step_on hu_19 hb20
          have hi_20 := step_on hi_19 hb20
          have hc_20 := step_on hc_19 hb20
          clear hb20 h0_19 hu_19 hi_19 hc_19
          go_wp2_with (go_at_call 11; refine (contains_as Ac nc cc Mc x false _ (Kc.out _ hc_20) (by have := HLc.out; omega) (sets_c HMc.out HX.out hx1 hx2)).mono ?_; rintro e w21 ⟨rfl, hb21⟩; refine Hid.out ?_)
          refine Lib.hid ?_
          have h0_21 := step_on h0_20 hb21
          have hu_21 := step_on hu_20 hb21
          have hi_21 := step_on hi_20 hb21
          have hc_21 := step_on hc_20 hb21
          clear hb21 h0_20 hu_20 hi_20 hc_20
          go_wp2_with (go_at_call 11; refine (contains_as A n c rs x true _ (KA.out _ h0_21) (by omega) HX.out).mono ?_; rintro e w22 ⟨rfl, hb22⟩; refine Hid.out ?_)
          refine Lib.hid ?_
          have h0_22 := step_on h0_21 hb22
          have hu_22 := step_on hu_21 hb22
          have hi_22 := step_on hi_21 hb22
          have hc_22 := step_on hc_21 hb22
          clear hb22 h0_21 hu_21 hi_21 hc_21
          go_wp2_with (go_at_call 8; refine (awake_any _).mono ?_; rintro e w23 ⟨rfl, hb23⟩; refine Hid.out ?_)
          refine Lib.hid ?_
          have h0_23 := step_on h0_22 hb23
          have hu_23 := step_on hu_22 hb23
          have hi_23 := step_on hi_22 hb23
          have hc_23 := step_on hc_22 hb23
          clear hb23 h0_22 hu_22 hi_22 hc_22
          go_wp2
          go_ret
          exact ⟨rfl, h0_23⟩
    · go_enter Try.func4, Try.ntmps4
      go_wp2_with (go_at_call 8; refine (awake_any _).mono ?_; rintro e w1 ⟨rfl, hb1⟩)
      all_goals go_ret
      all_goals exact ⟨rfl, hb1⟩
  · go_enter Try.func4, Try.ntmps4
    go_wp2_with (go_at_call 8; refine (awake_any _).mono ?_; rintro e w1 ⟨rfl, hb1⟩)
    all_goals go_ret
    all_goals exact ⟨rfl, hb1⟩
end Go.Proofs.Ytahapkbapbgbiaa
