/- What the document's NormalRanges returns: the normal form of the set. Condition: at most 10^6 ranges. -/
import Derived.Test.YtahapkbapbgbiaaConcat
import Derived.Test.YtahapkbapbgbiaaRefMath
import Derived.Test.YtahapkbapbgbiaaApp
namespace Go.Proofs.Ytahapkbapbgbiaa
open Go.RowKit
/-- two slices of the call's own that share no block -/
def Apart (u v : Value) : Prop := u.ownBlock = none ∨ u.ownBlock ≠ v.ownBlock
theorem OwnR.setBelow {w : World} {B : Nat} {v : Value} {rs : List Rg} (h : OwnR w B v rs) {b o : Nat} (hb : b < B) (u : Value) : OwnR (w.setCell ⟨b, o, none⟩ u) B v rs := ownsRow_setCell_below h (a := ⟨b, o, none⟩) hb u
theorem Apart.symm {u v : Value} (h : Apart u v) : Apart v u := by
  unfold Apart at *
  by_cases e : v.ownBlock = u.ownBlock
  · rcases h with h | h
    · exact .inl (by rw [e]; exact h)
    · exact absurd e.symm h
  · exact .inr e
theorem apart_app {wr : World} {B g H n cap : Nat} {u v : Value} {T : List Rg} (hap : Apart u v) (hT : OwnR wr B v T) (hH : wr.heap.size ≤ H) (hfr : u.ownBlock = some g ∨ H ≤ g) : Apart (.slice (some ⟨g, 0, none⟩) n cap) v := by
  refine .inr fun e => ?_
  have e' : v.ownBlock = some g := e.symm
  have hl := (hT.lt g e').2
  rcases hfr with h | h
  · rcases hap with hp | hp
    · rw [hp] at h; cases h
    · exact hp (by rw [h, e'])
  · omega
theorem box_kept {wr w0 w4 : World} {b H : Nat} {u : Value} {R : List Rg} (hR : OwnR wr (b + 1) u R) (hk : KeptBut H u w0 w4) (hw : Below wr.heap.size wr w0) (hb : b < wr.heap.size) (hH : wr.heap.size ≤ H) (o : Nat) :
    w4.cell? ⟨b, o, none⟩ = wr.cell? ⟨b, o, none⟩ ∧ w4.frozen? ⟨b, o, none⟩ = wr.frozen? ⟨b, o, none⟩ := by
  have hne : some b ≠ u.ownBlock := fun e => by have := (hR.lt b e.symm).1; omega
  exact ⟨(hk.cell (by omega) hne o).trans (hw.cell (p := ⟨b, o, none⟩) hb), (hk.frozen (by omega) hne o).trans (hw.frozen (p := ⟨b, o, none⟩) hb)⟩
theorem box_set {wr : World} {H : Nat} {a b a' b' : Value} (o : Obj) (e1 : wr.cell? ⟨H, 0, none⟩ = some a) (e2 : wr.cell? ⟨H, 1, none⟩ = some b) (f1 : wr.frozen? ⟨H, 0, none⟩ = false) (f2 : wr.frozen? ⟨H, 1, none⟩ = false) (hH : H < wr.heap.size) :
    (((wr.setCell ⟨H, 0, none⟩ a').setCell ⟨H, 1, none⟩ b').alloc o).cell? ⟨H, 0, none⟩ = some a' ∧ (((wr.setCell ⟨H, 0, none⟩ a').setCell ⟨H, 1, none⟩ b').alloc o).cell? ⟨H, 1, none⟩ = some b' ∧
    (((wr.setCell ⟨H, 0, none⟩ a').setCell ⟨H, 1, none⟩ b').alloc o).frozen? ⟨H, 0, none⟩ = false ∧ (((wr.setCell ⟨H, 0, none⟩ a').setCell ⟨H, 1, none⟩ b').alloc o).frozen? ⟨H, 1, none⟩ = false := by
  refine ⟨?_, ?_, ?_, ?_⟩ <;> go_simp
set_option maxRecDepth 100000 in
set_option maxHeartbeats 6400000 in
theorem refNormal_any (A : Option Addr) (n cap : Nat) (rs : List Rg) (w : World) (hR : RngS w w.heap.size A n rs) (hn : n ≤ 1000000) :
    Calls Try.prog 15 #[.slice A n cap] w (RetN (hasI rs) n w) := by
  have HR := Lib.hid hR
  clear hR
  go_enter Try.func15, Try.ntmps15
  go_wp2
  go_loopw [3, 4, 5, 6, 7, 8, 9] (fun v i _ _ _ _ _ wr => ∃ (k : Nat) (O : List Rg), i = .int .i64 k ∧ k ≤ n ∧ OutInv rs O k ∧ OwnR wr w.heap.size v O ∧ Below w.heap.size w wr) (fun _ i _ _ _ _ _ _ => n - (intOf i).toNat)
  case atStart => exact ⟨0, [], rfl, by omega, OutInv.start rs, OwnR.nil _ _, Below.refl _ _⟩
  case round =>
    obtain ⟨i, O, rfl, hi, hI, hO, hbw⟩ := hrel
    have HI0 := Lib.hid hI
    have HO := Lib.hid hO
    have hsw := hbw.size
    have hOl := hI.len
    clear hI hO
    by_cases hin : i < n
    · obtain ⟨b, off, r1, r2, rfl, hbl, hx, hf, c1, c2⟩ := (HR.out.below hbw).at hin
      have HX := Lib.hid hx
      have HFX := Lib.hid hf
      clear hx hf
      have hbA : Below wr.heap.size wr (wr.alloc (.cells #[.int .i64 r1, .int .i64 r2] 35)) := (Below.refl _ _).alloc (Nat.le_refl _) _
      by_cases hne : r1 ≤ r2
      · obtain ⟨A3, c3, hv⟩ := HO.out.form
        subst hv
        have HRO := Lib.hid (HO.out.rng HI0.out.fit)
        obtain ⟨m, hm⟩ : ∃ m, m = O.length := ⟨_, rfl⟩
        rw [← hm] at HO HRO ⊢
        have HM := Lib.hid hm
        have hmi : m ≤ i := by omega
        clear hm hOl
        obtain ⟨wo, hwo⟩ : ∃ wo : World, wo = wr := ⟨_, rfl⟩
        subst hwo
        have HNE := Lib.hid hne
        go_wp2
        clear hne
        go_loopw [6, 7, 8, 9] (fun u v k _ wr => ∃ (q : Nat) (R T : List Rg) (y1 y2 : Int), k = .int .i64 q ∧ q ≤ m ∧ RefInv O (r1, r2) q R (y1, y2) T ∧ OwnR wr (wo.heap.size + 1) u R ∧ OwnR wr (wo.heap.size + 1) v T ∧ Apart u v ∧ wr.cell? ⟨wo.heap.size, 0, none⟩ = some (.int .i64 y1) ∧ wr.cell? ⟨wo.heap.size, 1, none⟩ = some (.int .i64 y2) ∧ wr.frozen? ⟨wo.heap.size, 0, none⟩ = false ∧ wr.frozen? ⟨wo.heap.size, 1, none⟩ = false ∧ wo.heap.size + 1 ≤ wr.heap.size ∧ Below wo.heap.size wo wr) (fun _ _ k _ _ => m - (intOf k).toNat)
        case atStart => exact ⟨0, [], [], r1, r2, rfl, by omega, RefInv.start HNE.out HFX.out, OwnR.nil _ _, OwnR.nil _ _, .inl rfl, by simp, by simp, by simp, by simp, by simp, hbA⟩
        case round =>
          obtain ⟨q, R, T, y1, y2, rfl, hq, hJ, hOR, hOT, hap, e1, e2, f1, f2, hs5, hb5⟩ := hrel
          have HJ := Lib.hid hJ
          have HOR := Lib.hid hOR
          have HOT := Lib.hid hOT
          have HAP := Lib.hid hap
          have HF1 := Lib.hid f1
          have HF2 := Lib.hid f2
          have hJl := hJ.len
          have hyf := hJ.fit
          unfold Fit1 LO HI at hyf
          obtain ⟨g1, g2, g3, g4⟩ := hyf
          simp only at g1 g2 g3 g4
          clear hJ hOR hOT hap
          by_cases hqm : q < m
          · obtain ⟨b', off', z1, z2, rfl, hbl', hz, hzf, d1, d2⟩ := (HRO.out.below hb5).at hqm
            have HZ := Lib.hid hz
            unfold Fit1 LO HI at hzf
            obtain ⟨g5, g6, g7, g8⟩ := hzf
            simp only at g5 g6 g7 g8
            clear hz
            have hbx : Below wr.heap.size wr (wr.alloc (.cells #[.int .i64 z1, .int .i64 z2] 35)) := (Below.refl _ _).alloc (Nat.le_refl _) _
            have HQR := Lib.hid (HOR.out.old hbx)
            have HQT := Lib.hid (HOT.out.old hbx)
            have HB6 := Lib.hid (hb5.trans (hbx.mono (by omega)))
            have hwo : wo.heap.size < wr.heap.size := by omega
            by_cases hA : z2 + 1 < y1
            · have HJ2 := Lib.hid (HJ.out.toRest HI0.out.nf HI0.out.fit HZ.out hA)
              have hA1 : z2 < y1 := by omega
              go_wp2_with (at_builtin; (refine wp_app_rL rfl _ _ rfl (wo.heap.size + 1) _ _ rfl HQR.out [(z1, z2)] 1 1 rfl (by decide) _ rfl _ (by simp) rfl (by omega) (by simp; omega) ?_); intro g cap w4 hown' hkb hfr hb4 hs4; refine Hid.out ?_)
              refine Lib.hid ?_
              go_wp2
              go_roundw
              case rel =>
                have hs4' : wr.heap.size ≤ w4.heap.size := by simp at hs4; omega
                have k1 := box_kept HOR.out hkb hbx (by omega) (by simp) 0
                have k2 := box_kept HOR.out hkb hbx (by omega) (by simp) 1
                exact ⟨q + 1, R ++ [(z1, z2)], T, y1, y2, by go_num, by omega, HJ2.out, hown', hkb.own HQT.out (by simp) HAP.out.symm, apart_app HAP.out HOT.out (by simp) hfr, k1.1.trans e1, k2.1.trans e2, k1.2.trans HF1.out, k2.2.trans HF2.out, by omega, HB6.out.trans (hb4.mono (by omega))⟩
              case measure => simp [intOf]; omega
            · by_cases hC : y2 + 1 < z1
              · have HJ2 := Lib.hid (HJ.out.toAfter HI0.out.nf HI0.out.fit HZ.out hC)
                have hC1 : y2 < z1 := by omega
                have hzn : z1 ≤ z2 := HI0.out.nf.1 _ (List.mem_of_getElem? HZ.out)
                have hyn := HJ.out.ne
                simp only at hyn
                have hA1 : ¬ z2 < y1 := by omega
                clear hA
                go_wp2_with (at_builtin; (refine wp_app_rL rfl _ _ rfl (wo.heap.size + 1) _ _ rfl HQT.out [(z1, z2)] 1 1 rfl (by decide) _ rfl _ (by simp) rfl (by omega) (by simp; omega) ?_); intro g cap w4 hown' hkb hfr hb4 hs4; refine Hid.out ?_)
                refine Lib.hid ?_
                go_wp2
                go_roundw
                case rel =>
                  have hs4' : wr.heap.size ≤ w4.heap.size := by simp at hs4; omega
                  have k1 := box_kept HOT.out hkb hbx (by omega) (by simp) 0
                  have k2 := box_kept HOT.out hkb hbx (by omega) (by simp) 1
                  exact ⟨q + 1, R, T ++ [(z1, z2)], y1, y2, by go_num, by omega, HJ2.out, hkb.own HQR.out (by simp) HAP.out, hown', (apart_app HAP.out.symm HOR.out (by simp) hfr).symm, k1.1.trans e1, k2.1.trans e2, k1.2.trans HF1.out, k2.2.trans HF2.out, by omega, HB6.out.trans (hb4.mono (by omega))⟩
                case measure => simp [intOf]; omega
              · have HJ2 := Lib.hid (HJ.out.merge HI0.out.nf HI0.out.fit HZ.out hA hC)
                have hA' : hull (y1, y2) (z1, z2) = (min y1 z1, max y2 z2) := rfl
                rw [hA'] at HJ2
                clear hA'
                go_wp2
                all_goals
                  go_roundw
                  case rel =>
                    have kk := box_set (a' := .int .i64 (min y1 z1)) (b' := .int .i64 (max y2 z2)) (.cells #[.int .i64 z1, .int .i64 z2] 35) e1 e2 HF1.out HF2.out hwo
                    have hbs : Below wo.heap.size wo ((wr.setCell ⟨wo.heap.size, 0, none⟩ (.int .i64 (min y1 z1))).setCell ⟨wo.heap.size, 1, none⟩ (.int .i64 (max y2 z2))) := (hb5.setCell (p := ⟨wo.heap.size, 0, none⟩) (Nat.le_refl _) _).setCell (p := ⟨wo.heap.size, 1, none⟩) (Nat.le_refl _) _
                    have hbz := hbs.alloc (by simp; omega) (.cells #[.int .i64 z1, .int .i64 z2] 35)
                    have hO1 := ((HOR.out.setBelow (o := 0) (Nat.lt_succ_self _) (.int .i64 (min y1 z1))).setBelow (o := 1) (Nat.lt_succ_self _) (.int .i64 (max y2 z2))).old ((Below.refl _ _).alloc (Nat.le_refl _) (.cells #[.int .i64 z1, .int .i64 z2] 35))
                    have hO2 := ((HOT.out.setBelow (o := 0) (Nat.lt_succ_self _) (.int .i64 (min y1 z1))).setBelow (o := 1) (Nat.lt_succ_self _) (.int .i64 (max y2 z2))).old ((Below.refl _ _).alloc (Nat.le_refl _) (.cells #[.int .i64 z1, .int .i64 z2] 35))
                    exact ⟨q + 1, R, T, min y1 z1, max y2 z2, by go_num, by omega, HJ2.out, hO1, hO2, HAP.out, kk.1, kk.2.1, kk.2.2.1, kk.2.2.2, by simp; omega, hbz⟩
                  case measure => simp [intOf]; omega
          · obtain rfl : q = m := by omega
            obtain ⟨A7, c7, hv7⟩ := HOT.out.form
            subst hv7
            have hfT := Lib.hid HJ.out.fitT
            obtain ⟨mT, hmT⟩ : ∃ mT, mT = T.length := ⟨_, rfl⟩
            rw [← hmT] at HOT HAP ⊢
            have hmTl : R.length + mT ≤ q := by omega
            have HIN := Lib.hid (HI0.out.join HX.out HJ.out HM.out)
            clear hmT
            go_wp2_with (at_builtin; (refine wp_app_rL rfl _ _ rfl (wo.heap.size + 1) _ _ rfl HOR.out [(y1, y2)] 1 1 rfl (by decide) _ rfl _ rfl rfl (by omega) (by omega) ?_); intro g cap w4 hown' hkb hfr hb4 hs4; refine Hid.out ?_)
            refine Lib.hid ?_
            have HOT4 := Lib.hid (hkb.own HOT.out (Nat.le_refl _) HAP.out.symm)
            have HOR4 := Lib.hid hown'
            clear hown' hkb hfr
            go_wp2_with (at_builtin; (refine wp_app_src rfl _ _ rfl (wo.heap.size + 1) w4.heap.size _ _ rfl HOR4.out A7 mT c7 T rfl (HOT4.out.rng hfT.out) (by simp; omega) (by omega) ?_); intro v5 w5 hown' hb6; refine Hid.out ?_)
            refine Lib.hid ?_
            have HO5 := Lib.hid (hown'.mono (show w.heap.size ≤ wo.heap.size + 1 by omega))
            have hbz := hbw.trans ((hb5.trans ((hb4.trans hb6).mono (by omega))).mono hsw)
            clear hown'
            go_wp2
            go_roundw
            case rel => exact ⟨i + 1, R ++ [(y1, y2)] ++ T, by go_num, by omega, HIN.out, HO5.out, hbz⟩
            case measure => simp [intOf]; omega
      · have HIN : Hid (OutInv rs O (i + 1)) := Lib.hid (HI0.out.skip HX.out (by simp only; omega))
        have HQ := Lib.hid (HO.out.old hbA)
        have hbq := hbw.trans (hbA.mono hsw)
        go_wp2
        all_goals go_roundw
        case rel => exact ⟨i + 1, O, by go_num, by omega, HIN.out, HQ.out, hbq⟩
        case measure => simp [intOf]; omega
    · obtain ⟨A3, c3, hv⟩ := HO.out.form
      subst hv
      have HT : Hid (∀ x, hasI O x ↔ hasI rs x) := Lib.hid (fun x => by rw [HI0.out.mem, List.take_of_length_le (by have := HR.out.1; omega)])
      go_wp2
      all_goals go_ret
      all_goals exact ⟨_, nfOf_eq HI0.out.nf HT.out, HI0.out.nf, HT.out, by omega, _, _, _, rfl, HO.out.rng HI0.out.fit, hbw⟩
end Go.Proofs.Ytahapkbapbgbiaa
