/- The walk of the law IntervalAlgebra: it returns true. -/
import Derived.Test.YtahapkbapbgbiaaLawKit
import Derived.Test.YtahapkbapbgbiaaInter
namespace Go.Proofs.Ytahapkbapbgbiaa
open Go.RowKit
theorem alg_twice {a s d f : List Rg} (hf : Fit a) (h1 : Nf f) (h2 : Nf s) (hs : ∀ x, hasI s x ↔ hasI a x) (hd : ∀ x, hasI d x ↔ Non (hasI s) x) (hff : ∀ x, hasI f x ↔ Non (hasI d) x) : f = s :=
  eq_of_mem h1 h2 fun x => by
    rw [hff]
    unfold Non
    rw [hd]
    unfold Non
    constructor
    · rintro ⟨p, q, r⟩
      by_cases h : hasI s x
      · exact h
      · exact absurd ⟨p, q, h⟩ r
    · intro h
      have := hasI_fit hf ((hs x).1 h)
      exact ⟨this.1, this.2, fun k => k.2.2 h⟩
theorem alg_morgan {a b u m p q w : List Rg} (h1 : Nf m) (h2 : Nf w) (hu : ∀ x, hasI u x ↔ hasI a x ∨ hasI b x) (hm : ∀ x, hasI m x ↔ Non (hasI u) x) (hp : ∀ x, hasI p x ↔ Non (hasI a) x) (hq : ∀ x, hasI q x ↔ Non (hasI b) x) (hw : ∀ x, hasI w x ↔ hasI p x ∧ hasI q x) : m = w :=
  eq_of_mem h1 h2 fun x => by
    rw [hm, hw, hp, hq]
    unfold Non
    rw [hu]
    constructor
    · rintro ⟨i, j, k⟩
      exact ⟨⟨i, j, fun h => k (.inl h)⟩, i, j, fun h => k (.inr h)⟩
    · rintro ⟨⟨i, j, k⟩, _, _, l⟩
      exact ⟨i, j, fun h => by rcases h with h | h; exact k h; exact l h⟩
theorem full_nf : Nf [(LO, HI)] := ⟨by simp [LO, HI], by simp⟩
theorem alg_full {a s g v : List Rg} (hf : Fit a) (h1 : Nf v) (hs : ∀ x, hasI s x ↔ hasI a x) (hg : ∀ x, hasI g x ↔ Non (hasI s) x) (hv : ∀ x, hasI v x ↔ hasI s x ∨ hasI g x) : v = [(LO, HI)] :=
  eq_of_mem h1 full_nf fun x => by
    rw [hv, hg]
    unfold Non
    have e : hasI [(LO, HI)] x ↔ LO ≤ x ∧ x ≤ HI := by simp [hasI, inR]
    rw [e]
    constructor
    · rintro (h | h)
      · exact hasI_fit hf ((hs x).1 h)
      · exact ⟨h.1, h.2.1⟩
    · intro h
      by_cases k : hasI s x
      · exact .inl k
      · exact .inr ⟨h.1, h.2, k⟩
theorem alg_empty {s g v : List Rg} (hg : ∀ x, hasI g x ↔ Non (hasI s) x) (hv : ∀ x, hasI v x ↔ hasI s x ∧ hasI g x) : ∀ x, ¬ hasI v x := by
  intro x h
  obtain ⟨i, j⟩ := (hv x).1 h
  exact ((hg x).1 j).2.2 i
set_option maxRecDepth 100000 in
set_option maxHeartbeats 6400000 in
theorem intervalAlgebra_any (A A' : Option Addr) (n c n' c' : Nat) (rs rs' : List Rg) (w : World) (hR : RngS w w.heap.size A n rs) (hR' : RngS w w.heap.size A' n' rs') :
    Calls Try.prog 5 #[.slice A n c, .slice A' n' c'] w fun e w' => e = .returned (.bool true) ∧ Below w.heap.size w w' := by
  have KA := Lib.hid (kept_from hR)
  have KB := Lib.hid (kept_from hR')
  have HF := Lib.hid hR.2.1
  clear hR hR'
  by_cases hn : n ≤ 40
  · by_cases hn' : n' ≤ 40
    · have hw0 : Below w.heap.size w w := Below.refl _ _
      go_enter Try.func5, Try.ntmps5
      go_wp2_with (go_at_call 9; refine (normalize_any A n c rs _ (KA.out _ hw0) (by omega)).mono ?_; rintro e w11 ⟨Ms, ha, hb, hc, hd, As, ns, cs, rfl, hr, hx⟩; refine Hid.out ?_)
      refine Lib.hid ?_
      have h0_11 := step_on hw0 hx
      have HNs := Lib.hid hb
      have HMs := Lib.hid hc
      have HLs := Lib.hid (Nat.le_trans (Nat.le_of_eq hr.1) hd)
      have HEs := Lib.hid hr.1
      have Ks := Lib.hid (kept_from hr)
      have hs_11 : Below w11.heap.size w11 w11 := Below.refl _ _
      clear ha hb hc hd hr hx hw0
      go_wp2_with (go_at_call 16; refine (union_any A A' n c n' c' rs rs' _ (KA.out _ h0_11) (KB.out _ h0_11) (by omega) (by omega)).mono ?_; rintro e w12 ⟨Mu, ha, hb, hc, hd, Au, nu, cu, rfl, hr, hx⟩; refine Hid.out ?_)
      refine Lib.hid ?_
      have h0_12 := step_on h0_11 hx
      have hs_12 := step_on hs_11 hx
      have HNu := Lib.hid hb
      have HMu := Lib.hid hc
      have HLu := Lib.hid (Nat.le_trans (Nat.le_of_eq hr.1) hd)
      have HEu := Lib.hid hr.1
      have Ku := Lib.hid (kept_from hr)
      have hu_12 : Below w12.heap.size w12 w12 := Below.refl _ _
      clear ha hb hc hd hr hx h0_11 hs_11
      go_wp2_with (go_at_call 18; refine (complement_any Au nu cu Mu _ (Ku.out _ hu_12) (by have := HLu.out; omega)).mono ?_; rintro e w13 ⟨Mm, ha, hb, hc, hd, Am, nm, cm, rfl, hr, hx⟩; refine Hid.out ?_)
      refine Lib.hid ?_
      have h0_13 := step_on h0_12 hx
      have hs_13 := step_on hs_12 hx
      have hu_13 := step_on hu_12 hx
      have HNm := Lib.hid hb
      have HMm := Lib.hid hc
      have HLm := Lib.hid (Nat.le_trans (Nat.le_of_eq hr.1) hd)
      have HEm := Lib.hid hr.1
      have Km := Lib.hid (kept_from hr)
      have hm_13 : Below w13.heap.size w13 w13 := Below.refl _ _
      clear ha hb hc hd hr hx h0_12 hs_12 hu_12
      clear hu_13
      go_wp2_with (go_at_call 18; refine (complement_any A n c rs _ (KA.out _ h0_13) (by omega)).mono ?_; rintro e w14 ⟨Mp, ha, hb, hc, hd, Ap, np, cp, rfl, hr, hx⟩; refine Hid.out ?_)
      refine Lib.hid ?_
      have h0_14 := step_on h0_13 hx
      have hs_14 := step_on hs_13 hx
      have hm_14 := step_on hm_13 hx
      have HNp := Lib.hid hb
      have HMp := Lib.hid hc
      have HLp := Lib.hid (Nat.le_trans (Nat.le_of_eq hr.1) hd)
      have HEp := Lib.hid hr.1
      have Kp := Lib.hid (kept_from hr)
      have hp_14 : Below w14.heap.size w14 w14 := Below.refl _ _
      clear ha hb hc hd hr hx h0_13 hs_13 hm_13
      go_wp2_with (go_at_call 18; refine (complement_any A' n' c' rs' _ (KB.out _ h0_14) (by omega)).mono ?_; rintro e w15 ⟨Mq, ha, hb, hc, hd, Aq, nq, cq, rfl, hr, hx⟩; refine Hid.out ?_)
      refine Lib.hid ?_
      have h0_15 := step_on h0_14 hx
      have hs_15 := step_on hs_14 hx
      have hm_15 := step_on hm_14 hx
      have hp_15 := step_on hp_14 hx
      have HNq := Lib.hid hb
      have HMq := Lib.hid hc
      have HLq := Lib.hid (Nat.le_trans (Nat.le_of_eq hr.1) hd)
      have HEq := Lib.hid hr.1
      have Kq := Lib.hid (kept_from hr)
      have hq_15 : Below w15.heap.size w15 w15 := Below.refl _ _
      clear ha hb hc hd hr hx h0_14 hs_14 hm_14 hp_14
      go_wp2_with (go_at_call 17; refine (intersect_any Ap Aq np cp nq cq Mp Mq _ (Kp.out _ hp_15) (Kq.out _ hq_15) (by have := HLp.out; omega) (by have := HLq.out; omega)).mono ?_; rintro e w16 ⟨Mw, ha, hb, hc, hd, Aw, nw, cw, rfl, hr, hx⟩; refine Hid.out ?_)
      refine Lib.hid ?_
      have h0_16 := step_on h0_15 hx
      have hs_16 := step_on hs_15 hx
      have hm_16 := step_on hm_15 hx
      have hp_16 := step_on hp_15 hx
      have hq_16 := step_on hq_15 hx
      have HNw := Lib.hid hb
      have HMw := Lib.hid hc
      have HLw := Lib.hid (Nat.le_trans (Nat.le_of_eq hr.1) hd)
      have HEw := Lib.hid hr.1
      have Kw := Lib.hid (kept_from hr)
      have hw_16 : Below w16.heap.size w16 w16 := Below.refl _ _
      clear ha hb hc hd hr hx h0_15 hs_15 hm_15 hp_15 hq_15
      clear hp_16 hq_16
      go_wp2_with (go_at_call 18; refine (complement_any As ns cs Ms _ (Ks.out _ hs_16) (by have := HLs.out; omega)).mono ?_; rintro e w17 ⟨Md, ha, hb, hc, hd, Ad, nd, cd, rfl, hr, hx⟩; refine Hid.out ?_)
      refine Lib.hid ?_
      have h0_17 := step_on h0_16 hx
      have hs_17 := step_on hs_16 hx
      have hm_17 := step_on hm_16 hx
      have hw_17 := step_on hw_16 hx
      have HNd := Lib.hid hb
      have HMd := Lib.hid hc
      have HLd := Lib.hid (Nat.le_trans (Nat.le_of_eq hr.1) hd)
      have HEd := Lib.hid hr.1
      have Kd := Lib.hid (kept_from hr)
      have hd_17 : Below w17.heap.size w17 w17 := Below.refl _ _
      clear ha hb hc hd hr hx h0_16 hs_16 hm_16 hw_16
      go_wp2_with (go_at_call 18; refine (complement_any Ad nd cd Md _ (Kd.out _ hd_17) (by have := HLd.out; have := HLs.out; omega)).mono ?_; rintro e w18 ⟨Mf, ha, hb, hc, hd, Af, nf, cf, rfl, hr, hx⟩; refine Hid.out ?_)
      refine Lib.hid ?_
      have h0_18 := step_on h0_17 hx
      have hs_18 := step_on hs_17 hx
      have hm_18 := step_on hm_17 hx
      have hw_18 := step_on hw_17 hx
      have hd_18 := step_on hd_17 hx
      have HNf := Lib.hid hb
      have HMf := Lib.hid hc
      have HLf := Lib.hid (Nat.le_trans (Nat.le_of_eq hr.1) hd)
      have HEf := Lib.hid hr.1
      have Kf := Lib.hid (kept_from hr)
      have hf_18 : Below w18.heap.size w18 w18 := Below.refl _ _
      clear ha hb hc hd hr hx h0_17 hs_17 hm_17 hw_17 hd_17
      clear hd_18
      go_wp2_with (go_at_call 14; refine (same_yes Af As nf ns cf cs Mf Ms _ (Kf.out _ hf_18) (Ks.out _ hs_18) (by have := HLf.out; have := HLd.out; have := HLs.out; omega) (by have := HLs.out; omega) (alg_twice HF.out HNf.out HNs.out HMs.out HMd.out HMf.out)).mono ?_; rintro e w19 ⟨rfl, hb19⟩; refine Hid.out ?_)
      refine Lib.hid ?_
      have h0_19 := step_on h0_18 hb19
      have hs_19 := step_on hs_18 hb19
      have hm_19 := step_on hm_18 hb19
      have hw_19 := step_on hw_18 hb19
      have hf_19 := step_on hf_18 hb19
      clear hb19 h0_18 hs_18 hm_18 hw_18 hf_18
      clear hf_19
      go_wp2_with (go_at_call 14; refine (same_yes Am Aw nm nw cm cw Mm Mw _ (Km.out _ hm_19) (Kw.out _ hw_19) (by have := HLm.out; have := HLu.out; omega) (by have := HLw.out; have := HLp.out; have := HLq.out; omega) (alg_morgan HNm.out HNw.out HMu.out HMm.out HMp.out HMq.out HMw.out)).mono ?_; rintro e w20 ⟨rfl, hb20⟩; refine Hid.out ?_)
      refine Lib.hid ?_
      have h0_20 := step_on h0_19 hb20
      have hs_20 := step_on hs_19 hb20
      have hm_20 := step_on hm_19 hb20
      have hw_20 := step_on hw_19 hb20
      clear hb20 h0_19 hs_19 hm_19 hw_19
      clear hm_20 hw_20
      go_wp2_with (go_at_call 18; refine (complement_any As ns cs Ms _ (Ks.out _ hs_20) (by have := HLs.out; omega)).mono ?_; rintro e w21 ⟨Mg, ha, hb, hc, hd, Ag, ng, cg, rfl, hr, hx⟩; refine Hid.out ?_)
      refine Lib.hid ?_
      have h0_21 := step_on h0_20 hx
      have hs_21 := step_on hs_20 hx
      have HNg := Lib.hid hb
      have HMg := Lib.hid hc
      have HLg := Lib.hid (Nat.le_trans (Nat.le_of_eq hr.1) hd)
      have HEg := Lib.hid hr.1
      have Kg := Lib.hid (kept_from hr)
      have hg_21 : Below w21.heap.size w21 w21 := Below.refl _ _
      clear ha hb hc hd hr hx h0_20 hs_20
      go_wp2_with (go_at_call 16; refine (union_any As Ag ns cs ng cg Ms Mg _ (Ks.out _ hs_21) (Kg.out _ hg_21) (by have := HLs.out; omega) (by have := HLg.out; have := HLs.out; omega)).mono ?_; rintro e w22 ⟨Mv, ha, hb, hc, hd, Av, nv, cv, rfl, hr, hx⟩; refine Hid.out ?_)
      refine Lib.hid ?_
      have h0_22 := step_on h0_21 hx
      have hs_22 := step_on hs_21 hx
      have hg_22 := step_on hg_21 hx
      have HNv := Lib.hid hb
      have HMv := Lib.hid hc
      have HLv := Lib.hid (Nat.le_trans (Nat.le_of_eq hr.1) hd)
      have HEv := Lib.hid hr.1
      have Kv := Lib.hid (kept_from hr)
      have hv_22 : Below w22.heap.size w22 w22 := Below.refl _ _
      clear ha hb hc hd hr hx h0_21 hs_21 hg_21
      clear hg_22
      go_wp2_with (go_at_call 19; refine (full_any _).mono ?_; rintro e w23 ⟨Ay, ny, cy, rfl, hr, hx⟩; refine Hid.out ?_)
      refine Lib.hid ?_
      have h0_23 := step_on h0_22 hx
      have hs_23 := step_on hs_22 hx
      have hv_23 := step_on hv_22 hx
      have Ky := Lib.hid (kept_from hr)
      have HEy := Lib.hid hr.1
      have hy_23 : Below w23.heap.size w23 w23 := Below.refl _ _
      clear hr hx h0_22 hs_22 hv_22
      go_wp2_with (go_at_call 14; refine (same_yes Av Ay nv ny cv cy Mv [(LO, HI)] _ (Kv.out _ hv_23) (Ky.out _ hy_23) (by have := HLv.out; have := HLg.out; have := HLs.out; omega) (by have := HEy.out; simp at this; omega) (alg_full HF.out HNv.out HMs.out HMg.out HMv.out)).mono ?_; rintro e w24 ⟨rfl, hb24⟩; refine Hid.out ?_)
      refine Lib.hid ?_
      have h0_24 := step_on h0_23 hb24
      have hs_24 := step_on hs_23 hb24
      have hv_24 := step_on hv_23 hb24
      have hy_24 := step_on hy_23 hb24
      clear hb24 h0_23 hs_23 hv_23 hy_23
      clear hv_24 hy_24
      go_wp2_with (go_at_call 18; refine (complement_any As ns cs Ms _ (Ks.out _ hs_24) (by have := HLs.out; omega)).mono ?_; rintro e w25 ⟨Ma, ha, hb, hc, hd, Aa, na, ca, rfl, hr, hx⟩; refine Hid.out ?_)
      refine Lib.hid ?_
      have h0_25 := step_on h0_24 hx
      have hs_25 := step_on hs_24 hx
      have HNa := Lib.hid hb
      have HMa := Lib.hid hc
      have HLa := Lib.hid (Nat.le_trans (Nat.le_of_eq hr.1) hd)
      have HEa := Lib.hid hr.1
      have Ka := Lib.hid (kept_from hr)
      have ha_25 : Below w25.heap.size w25 w25 := Below.refl _ _
      clear ha hb hc hd hr hx h0_24 hs_24
      go_wp2_with (go_at_call 17; refine (intersect_any As Aa ns cs na ca Ms Ma _ (Ks.out _ hs_25) (Ka.out _ ha_25) (by have := HLs.out; omega) (by have := HLa.out; have := HLs.out; omega)).mono ?_; rintro e w26 ⟨Mz, ha, hb, hc, hd, Az, nz, cz, rfl, hr, hx⟩; refine Hid.out ?_)
      refine Lib.hid ?_
      have h0_26 := step_on h0_25 hx
      have hs_26 := step_on hs_25 hx
      have ha_26 := step_on ha_25 hx
      have HNz := Lib.hid hb
      have HMz := Lib.hid hc
      have HLz := Lib.hid (Nat.le_trans (Nat.le_of_eq hr.1) hd)
      have HEz := Lib.hid hr.1
      have Kz := Lib.hid (kept_from hr)
      have hz_26 : Below w26.heap.size w26 w26 := Below.refl _ _
      clear ha hb hc hd hr hx h0_25 hs_25 ha_25
      have hz0 : nz = 0 := by rw [HEz.out, no_member HNz.out (alg_empty HMa.out HMz.out)]; rfl
      subst hz0
      clear ha_26 hz_26 hs_26
      go_wp2_with (go_at_call 8; refine (awake_any _).mono ?_; rintro e w27 ⟨rfl, hb27⟩; refine Hid.out ?_)
      refine Lib.hid ?_
      have h0_27 := step_on h0_26 hb27
      clear hb27 h0_26
      go_wp2
      all_goals go_ret
      all_goals exact ⟨rfl, h0_27⟩
    · go_enter Try.func5, Try.ntmps5
      go_wp2_with (go_at_call 8; refine (awake_any _).mono ?_; rintro e w1 ⟨rfl, hb1⟩)
      all_goals go_ret
      all_goals exact ⟨rfl, hb1⟩
  · go_enter Try.func5, Try.ntmps5
    go_wp2_with (go_at_call 8; refine (awake_any _).mono ?_; rintro e w1 ⟨rfl, hb1⟩)
    all_goals go_ret
    all_goals exact ⟨rfl, hb1⟩
end Go.Proofs.Ytahapkbapbgbiaa
