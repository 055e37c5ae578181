/- What Complement returns: the normal form of the complement. Condition: at most 10^5 ranges. -/
import Derived.Test.YtahapkbapbgbiaaConcat
import Derived.Test.YtahapkbapbgbiaaGaps
import Derived.Test.YtahapkbapbgbiaaApp
namespace Go.Proofs.Ytahapkbapbgbiaa
open Go.RowKit
theorem non_congr {P Q : Int → Prop} (h : ∀ x, P x ↔ Q x) (x : Int) : Non P x ↔ Non Q x := by unfold Non; rw [h x]
set_option maxRecDepth 100000 in
set_option maxHeartbeats 3200000 in
theorem complement_any (A : Option Addr) (n c : Nat) (rs : List Rg) (w : World) (hR : RngS w w.heap.size A n rs) (hn : n ≤ 1000000) :
    Calls Try.prog 18 #[.slice A n c] w (RetN (Non (hasI rs)) (n + 1) w) := by
  have hnn := normalize_any A n c rs w hR hn
  clear hR
  go_enter Try.func18, Try.ntmps18
  go_wp2_with (go_at_call 9; refine hnn.mono ?_; rintro e w1 ⟨N, hm1, hm2, hm3, hm4, A1, n1, c1, rfl, hr1, hb1⟩; refine Hid.out ?_)
  refine Lib.hid ?_
  have hs1 := hb1.size
  have HNF := Lib.hid hm2
  have HNM := Lib.hid hm3
  have HR := Lib.hid hr1
  have HF := Lib.hid hr1.2.1
  have hn1 : n1 ≤ n := by rw [hr1.1]; exact hm4
  clear hm1 hm2 hm3 hm4 hr1 hnn
  go_wp2
  go_loopw [3, 4, 6, 10] (fun v lo _ i wr => ∃ (k : Nat) (G : List Rg) (l : Int), i = .int .i64 k ∧ lo = .int .i64 l ∧ k ≤ n1 ∧ GapInv N G k l ∧ l ≤ HI ∧ OwnR wr w1.heap.size v G ∧ Below w1.heap.size w1 wr) (fun _ _ _ i _ => n1 - (intOf i).toNat)
  case atStart => exact ⟨0, [], LO, rfl, rfl, by omega, GapInv.start HF.out, by unfold LO HI; omega, OwnR.nil _ _, Below.refl _ _⟩
  case round =>
    obtain ⟨k, G, l, rfl, rfl, hk, hI, hl, hO, hbw⟩ := hrel
    have HI0 := Lib.hid hI
    have HO := Lib.hid hO
    have hlow := hI.low
    have hsw := hbw.size
    have hGl := hI.len
    clear hI hO
    unfold LO at hlow
    unfold HI at hl
    by_cases hkn : k < n1
    · obtain ⟨b, off, r1, r2, rfl, hbl, hx, hf, c1, c2⟩ := (HR.out.below hbw).at hkn
      have HX := Lib.hid hx
      have HFX := Lib.hid hf
      unfold Fit1 LO HI at hf
      obtain ⟨f1, f2, f3, f4⟩ := hf
      simp only at f1 f2 f3 f4
      clear hx
      have hbA : Below wr.heap.size wr (wr.alloc (.cells #[.int .i64 r1, .int .i64 r2] 35)) := (Below.refl _ _).alloc (Nat.le_refl _) _
      by_cases hlt : l < r1
      · have HQ := Lib.hid (HO.out.old hbA)
        have HG := Lib.hid (HI0.out.gap HNF.out HF.out HX.out hlt)
        go_wp2_with (at_builtin; (refine wp_app_rL rfl _ _ rfl w1.heap.size _ _ rfl HQ.out [(l, r1 - 1)] 1 1 rfl (by decide) _ rfl _ (by simp) rfl (by omega) (by simp; omega) ?_); intro g cap w4 hown' hkb hfr hb4 hs4; refine Hid.out ?_)
        refine Lib.hid ?_
        have hne : some wr.heap.size ≠ u3.ownBlock := fun e => by have := (HO.out.lt _ e.symm).2; omega
        have d1 : w4.cell? ⟨wr.heap.size, 0, none⟩ = some (.int .i64 r1) := by rw [hkb.cell (by simp) hne]; simp
        have d2 : w4.cell? ⟨wr.heap.size, 1, none⟩ = some (.int .i64 r2) := by rw [hkb.cell (by simp) hne]; simp
        have hbq : Below w1.heap.size w1 w4 := (hbw.trans (hbA.mono hsw)).trans hb4
        have HO4 : Hid (OwnR w4 w1.heap.size (.slice (some ⟨g, 0, none⟩) (G.length + 1) cap) (G ++ [(l, r1 - 1)])) := Lib.hid hown'
        have HL4 : Hid ((G ++ [(l, r1 - 1)]).length = G.length + 1) := Lib.hid (by simp)
        clear hkb hfr hown' hne
        by_cases hh : r2 = 9223372036854775807
        · have q1 : (r2 == 9223372036854775807) = true := by simpa using hh
          have HT : Hid (∀ x, hasI (G ++ [(l, r1 - 1)]) x ↔ Non (hasI rs) x) := Lib.hid (fun x => by
            have h1 := HG.out
            rw [show r2 = HI from hh] at h1
            exact (h1.full HF.out x).trans (non_congr HNM.out x))
          clear hh
          go_wp2
          all_goals go_ret
          all_goals exact ⟨_, nfOf_eq HG.out.nf HT.out, HG.out.nf, HT.out, by rw [HL4.out]; omega, _, _, _, rfl, by rw [← HL4.out] at HO4 ⊢; exact HO4.out.rng HG.out.fit, hb1.trans (hbq.mono hs1)⟩
        · have q1 : (r2 == 9223372036854775807) = false := by simpa using hh
          have hle : r2 + 1 ≤ HI := by unfold HI; omega
          have HLE := Lib.hid hle
          clear hle
          go_wp2
          all_goals go_roundw
          case rel => exact ⟨k + 1, G ++ [(l, r1 - 1)], r2 + 1, by go_num, rfl, by omega, HG.out, HLE.out, HO4.out, hbq⟩
          case measure => simp [intOf]; omega
      · have HQ := Lib.hid (HO.out.old hbA)
        have HG := Lib.hid (HI0.out.touch HNF.out HX.out hlt)
        have hbq := hbw.trans (hbA.mono hsw)
        obtain ⟨A3, c3, rfl⟩ := HO.out.form
        by_cases hh : r2 = 9223372036854775807
        · have q1 : (r2 == 9223372036854775807) = true := by simpa using hh
          have HT : Hid (∀ x, hasI G x ↔ Non (hasI rs) x) := Lib.hid (fun x => by
            have h1 := HG.out
            rw [show r2 = HI from hh] at h1
            exact (h1.full HF.out x).trans (non_congr HNM.out x))
          clear hh
          go_wp2
          all_goals go_ret
          all_goals exact ⟨_, nfOf_eq HG.out.nf HT.out, HG.out.nf, HT.out, by omega, _, _, _, rfl, HQ.out.rng HG.out.fit, hb1.trans (hbq.mono hs1)⟩
        · have q1 : (r2 == 9223372036854775807) = false := by simpa using hh
          have hle : r2 + 1 ≤ HI := by unfold HI; omega
          have HLE := Lib.hid hle
          clear hle
          go_wp2
          all_goals go_roundw
          case rel => exact ⟨k + 1, G, r2 + 1, by go_num, rfl, by omega, HG.out, HLE.out, HQ.out, hbq⟩
          case measure => simp [intOf]; omega
    · have HT := Lib.hid (HI0.out.last (by rw [← HR.out.1]; omega) (by unfold HI; omega))
      have HF2 : Hid (Fit (G ++ [(l, HI)])) := Lib.hid (fit_append HI0.out.fit (fun r hr => by rw [List.mem_singleton.1 hr]; unfold Fit1 LO HI; simp only; omega))
      go_wp2_with (at_builtin; (refine wp_app_r rfl _ _ rfl w1.heap.size _ _ rfl HO.out [(l, HI)] 1 1 rfl _ rfl rfl (by omega) hsw ?_); intro v' w4 hown' hb4; refine Hid.out ?_)
      refine Lib.hid ?_
      obtain ⟨A3, c3, rfl⟩ := hown'.form
      have HL4 : Hid ((G ++ [(l, HI)]).length = G.length + 1) := Lib.hid (by simp)
      have HO4 := Lib.hid hown'
      clear hown'
      go_wp2
      all_goals go_ret
      all_goals exact ⟨_, nfOf_eq HT.out.1 (fun x => (HT.out.2 x).trans (non_congr HNM.out x)), HT.out.1, fun x => (HT.out.2 x).trans (non_congr HNM.out x), by rw [HL4.out]; omega, _, _, _, rfl, HO4.out.rng HF2.out, hb1.trans ((hbw.trans hb4).mono hs1)⟩
end Go.Proofs.Ytahapkbapbgbiaa
