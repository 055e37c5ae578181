/- What Intersect returns: the normal form of the intersection. Condition: at most 10^5 ranges in each. -/
import Derived.Test.YtahapkbapbgbiaaCompl
import Derived.Test.YtahapkbapbgbiaaMeet
import Derived.BigRegion
namespace Go.Proofs.Ytahapkbapbgbiaa
open Go.RowKit
theorem min_eq (a b : Int) : (if a ≤ b then a else b) = min a b := by omega
set_option maxRecDepth 100000 in
set_option maxHeartbeats 6400000 in
theorem intersect_any (A A' : Option Addr) (n c n' c' : Nat) (rs rs' : List Rg) (w : World) (hR : RngS w w.heap.size A n rs) (hR' : RngS w w.heap.size A' n' rs') (hn : n ≤ 1000000) (hn' : n' ≤ 1000000) :
    Calls Try.prog 17 #[.slice A n c, .slice A' n' c'] w (RetN (fun x => hasI rs x ∧ hasI rs' x) (n + n') w) := by
  have hnn := normalize_any A n c rs w hR hn
  have HR' := Lib.hid hR'
  clear hR hR'
  go_enter Try.func17, Try.ntmps17
  go_wp2_with (go_at_call 9; refine hnn.mono ?_; rintro e w1 ⟨N, hm1, hm2, hm3, hm4, A1, n1, c1, rfl, hr1, hb1⟩; refine Hid.out ?_)
  refine Lib.hid ?_
  have hs1 := hb1.size
  have hnn2 := normalize_any A' n' c' rs' w1 (HR'.out.kept hb1 hs1) hn'
  have HN := Lib.hid hm2
  have HNM := Lib.hid hm3
  have HR1 := Lib.hid hr1
  have hn1 : n1 ≤ n := by rw [hr1.1]; exact hm4
  clear hm1 hm2 hm3 hm4 hr1 hnn
  go_wp2_with (go_at_call 9; refine hnn2.mono ?_; rintro e w2 ⟨M, hm1, hm2, hm3, hm4, A2, n2, c2, rfl, hr2, hb2⟩; refine Hid.out ?_)
  refine Lib.hid ?_
  have hs2 := hb2.size
  have HM := Lib.hid hm2
  have HMM := Lib.hid hm3
  have HR2 := Lib.hid hr2
  have HR3 := Lib.hid (HR1.out.kept hb2 hs2)
  have hn2 : n2 ≤ n' := by rw [hr2.1]; exact hm4
  clear hm1 hm2 hm3 hm4 hr2 hnn2
  go_wp2
  go_loopw [5, 6, 7, 8] (fun v i k _ wr => ∃ (p q : Nat) (G : List Rg), i = .int .i64 p ∧ k = .int .i64 q ∧ p ≤ n1 ∧ q ≤ n2 ∧ InterInv N M G p q ∧ OwnR wr w2.heap.size v G ∧ Below w2.heap.size w2 wr) (fun _ i k _ _ => (n1 - (intOf i).toNat) + (n2 - (intOf k).toNat))
  case atStart => exact ⟨0, 0, [], rfl, rfl, by omega, by omega, InterInv.start N M, OwnR.nil _ _, Below.refl _ _⟩
  case round =>
    obtain ⟨p, q, G, rfl, rfl, hp, hq, hI, hO, hbw⟩ := hrel
    have HI0 := Lib.hid hI
    have HO := Lib.hid hO
    have hsw := hbw.size
    have hGl := hI.len
    clear hI hO
    by_cases hpn : p < n1
    · by_cases hqn : q < n2
      · obtain ⟨b, off, r1, r2, rfl, hbl, hx, hf, a1, a2⟩ := (HR3.out.below hbw).at hpn
        obtain ⟨b', off', s1, s2, rfl, hbl', hy, hg, d1, d2⟩ := (HR2.out.below hbw).at hqn
        have HX := Lib.hid hx
        have HY := Lib.hid hy
        have HFX := Lib.hid hf
        have HFY := Lib.hid hg
        clear hx hy hf hg
        have XA2 : Hid (∀ w', Below w2.heap.size w2 w' → w'.cell? ⟨b, off + p * 2 + 1, none⟩ = some (.int .i64 r2)) := Lib.hid (fun w' hb => by
          rw [hb.cell (p := ⟨b, off + p * 2 + 1, none⟩) hbl, ← hbw.cell (p := ⟨b, off + p * 2 + 1, none⟩) hbl]; exact a2)
        have XD2 : Hid (∀ w', Below w2.heap.size w2 w' → w'.cell? ⟨b', off' + q * 2 + 1, none⟩ = some (.int .i64 s2)) := Lib.hid (fun w' hb => by
          rw [hb.cell (p := ⟨b', off' + q * 2 + 1, none⟩) hbl', ← hbw.cell (p := ⟨b', off' + q * 2 + 1, none⟩) hbl']; exact d2)
        have i1 : (0 : Int) ≤ (p : Int) := by omega
        have i2 : (p : Int) < (n1 : Int) := by omega
        have i3 : (0 : Int) ≤ (q : Int) := by omega
        have i4 : (q : Int) < (n2 : Int) := by omega
        have j1 : b < wr.heap.size := by omega
        have j2 : b' < wr.heap.size := by omega
        go_wp2_with fail
        go_big_region
        have hbA : Below wr.heap.size wr (wr.alloc (.cells #[.int .i64 (max r1 s1), .int .i64 (min r2 s2)] 35)).drew := ((Below.refl _ _).alloc (Nat.le_refl _) _).drew
        have hm := fun w => isEmpty_any (max r1 s1) (min r2 s2) w
        by_cases hne : max r1 s1 ≤ min r2 s2
        · have he : emptyB (max r1 s1, min r2 s2) = false := by unfold emptyB; rw [decide_eq_false_iff_not]; simp only; omega
          rw [he] at hm
          clear he
          have HNE : Hid ((part (r1, r2) (s1, s2)).1 ≤ (part (r1, r2) (s1, s2)).2) := Lib.hid hne
          clear hne
          go_wp2_with (go_at_call 27; refine (hm _).mono ?_; rintro e w3 ⟨rfl, hb3⟩; refine Hid.out ?_)
          refine Lib.hid ?_
          have hs3 := hb3.size
          have hbA3 : Below wr.heap.size wr w3 := hbA.trans (hb3.mono (by simp))
          have t1 : w3.cell? ⟨wr.heap.size, 0, none⟩ = some (.int .i64 (max r1 s1)) := (hb3.cell (p := ⟨wr.heap.size, 0, none⟩) (by simp)).trans (by simp)
          have t2 : w3.cell? ⟨wr.heap.size, 1, none⟩ = some (.int .i64 (min r2 s2)) := (hb3.cell (p := ⟨wr.heap.size, 1, none⟩) (by simp)).trans (by simp)
          have hz3 : w2.heap.size ≤ w3.heap.size := by have := hbA3.size; omega
          have HO3 := Lib.hid (HO.out.old hbA3)
          have hbw3 := hbw.trans (hbA3.mono hsw)
          clear hb3 hs3
          go_wp2_with (at_builtin; (refine wp_app_r rfl _ _ rfl w2.heap.size _ _ rfl HO3.out [part (r1, r2) (s1, s2)] 1 1 rfl _ rfl rfl (by omega) hz3 ?_); intro v' w4 hown' hb4; refine Hid.out ?_)
          refine Lib.hid ?_
          have hbw4 := hbw3.trans hb4
          have HO4 := Lib.hid hown'
          obtain ⟨A4, c4, rfl⟩ := hown'.form
          clear hown' t1 t2 a1 a2 d1 d2
          have a1 : w4.cell? ⟨b, off + p * 2 + 1, none⟩ = some (.int .i64 r2) := XA2.out w4 hbw4
          have d1 : w4.cell? ⟨b', off' + q * 2 + 1, none⟩ = some (.int .i64 s2) := XD2.out w4 hbw4
          by_cases hlt : r2 < s2
          · have q1 : decide (r2 < s2) = true := by simpa using hlt
            have HIN := Lib.hid ((HI0.out.left HN.out HM.out HX.out HY.out HFX.out HFY.out hlt).1 HNE.out)
            clear hlt
            go_wp2_with fail
            go_quiet (fail)
            go_wp2
            all_goals go_roundw
            case rel => exact ⟨p + 1, q, G ++ [part (r1, r2) (s1, s2)], by go_num, rfl, by omega, by omega, HIN.out, HO4.out.drewN _, below_drewN hbw4 _⟩
            case measure => simp [intOf]; omega
          · have q1 : decide (r2 < s2) = false := by simpa using hlt
            have HIN := Lib.hid ((HI0.out.right HN.out HM.out HX.out HY.out HFX.out HFY.out hlt).1 HNE.out)
            clear hlt
            go_wp2_with fail
            go_quiet (fail)
            go_wp2
            all_goals go_roundw
            case rel => exact ⟨p, q + 1, G ++ [part (r1, r2) (s1, s2)], rfl, by go_num, by omega, by omega, HIN.out, HO4.out.drewN _, below_drewN hbw4 _⟩
            case measure => simp [intOf]; omega
        · have he : emptyB (max r1 s1, min r2 s2) = true := by unfold emptyB; rw [decide_eq_true_eq]; simp only; omega
          rw [he] at hm
          clear he
          have HNE : Hid (¬ (part (r1, r2) (s1, s2)).1 ≤ (part (r1, r2) (s1, s2)).2) := Lib.hid hne
          clear hne
          obtain ⟨A4, c4, rfl⟩ := HO.out.form
          go_wp2_with (go_at_call 27; refine (hm _).mono ?_; rintro e w3 ⟨rfl, hb3⟩; refine Hid.out ?_)
          refine Lib.hid ?_
          have hbA3 : Below wr.heap.size wr w3 := hbA.trans (hb3.mono (by simp))
          have HO3 := Lib.hid (HO.out.old hbA3)
          have hbw3 := hbw.trans (hbA3.mono hsw)
          clear hb3 a1 a2 d1 d2
          have a1 : w3.cell? ⟨b, off + p * 2 + 1, none⟩ = some (.int .i64 r2) := XA2.out w3 hbw3
          have d1 : w3.cell? ⟨b', off' + q * 2 + 1, none⟩ = some (.int .i64 s2) := XD2.out w3 hbw3
          by_cases hlt : r2 < s2
          · have q1 : decide (r2 < s2) = true := by simpa using hlt
            have HIN := Lib.hid ((HI0.out.left HN.out HM.out HX.out HY.out HFX.out HFY.out hlt).2 (by have := HNE.out; omega))
            clear hlt
            go_wp2_with fail
            go_quiet (fail)
            go_wp2
            all_goals go_roundw
            case rel => exact ⟨p + 1, q, G, by go_num, rfl, by omega, by omega, HIN.out, HO3.out.drewN _, below_drewN hbw3 _⟩
            case measure => simp [intOf]; omega
          · have q1 : decide (r2 < s2) = false := by simpa using hlt
            have HIN := Lib.hid ((HI0.out.right HN.out HM.out HX.out HY.out HFX.out HFY.out hlt).2 (by have := HNE.out; omega))
            clear hlt
            go_wp2_with fail
            go_quiet (fail)
            go_wp2
            all_goals go_roundw
            case rel => exact ⟨p, q + 1, G, rfl, by go_num, by omega, by omega, HIN.out, HO3.out.drewN _, below_drewN hbw3 _⟩
            case measure => simp [intOf]; omega
      · obtain ⟨A4, c4, rfl⟩ := HO.out.form
        have HT : Hid (∀ x, hasI G x ↔ hasI rs x ∧ hasI rs' x) := Lib.hid (fun x => by rw [HI0.out.done (.inr (by have := HR2.out.1; omega)), HNM.out, HMM.out])
        go_wp2
        all_goals go_ret
        all_goals exact ⟨_, nfOf_eq HI0.out.nf HT.out, HI0.out.nf, HT.out, by omega, _, _, _, rfl, HO.out.rng HI0.out.fit, (hb1.trans (hb2.mono hs1)).trans (hbw.mono (by omega))⟩
    · obtain ⟨A4, c4, rfl⟩ := HO.out.form
      have HT : Hid (∀ x, hasI G x ↔ hasI rs x ∧ hasI rs' x) := Lib.hid (fun x => by rw [HI0.out.done (.inl (by have := HR3.out.1; omega)), HNM.out, HMM.out])
      go_wp2
      all_goals go_ret
      all_goals exact ⟨_, nfOf_eq HI0.out.nf HT.out, HI0.out.nf, HT.out, by omega, _, _, _, rfl, HO.out.rng HI0.out.fit, (hb1.trans (hb2.mono hs1)).trans (hbw.mono (by omega))⟩
end Go.Proofs.Ytahapkbapbgbiaa
