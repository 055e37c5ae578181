/- What the document's IntersectNames and SubsetNames return. Condition: at most 200000 strings each. -/
import Derived.Test.YtkmfpkdcedfgfaaRefSets
import Derived.Test.YtkmfpkdcedfgfaaOps
namespace Go.Proofs.Ytkmfpkdcedfgfaa
open Go.RowKit Go.Sort
set_option maxRecDepth 100000 in
set_option maxHeartbeats 3200000 in
theorem intersectNames_any (co co' : Bool) (A A' : Option Addr) (n c n' c' : Nat) (rs rs' : List Strg) (w : World) (hR : NmS w w.heap.size A n rs) (hR' : NmS w w.heap.size A' n' rs') (hn : n ≤ 200000) (hn' : n' ≤ 200000) :
    Calls Try.prog 21 #[.agg #[.bool co, .slice A n c], .agg #[.bool co', .slice A' n' c']] w (RetN (co && co') (fun x => inN co rs x && inN co' rs' x) (n + n') w) := by
  have HR := Lib.hid hR
  have HR' := Lib.hid hR'
  clear hR hR'
  obtain ⟨W0, hW0⟩ : ∃ W0, W0 = (((w.alloc (.cells #[.bool co, .slice A n c] 24)).alloc (.cells #[.bool co', .slice A' n' c'] 24)).alloc (.cells #[.bool false, .slice none 0 0] 24)) := ⟨_, rfl⟩
  obtain ⟨hx1, hx2, hx3, hz0, hb0⟩ := boxes3 w (.cells #[.bool co, .slice A n c] 24 (0, 0)) (.cells #[.bool co', .slice A' n' c'] 24 (0, 0)) (.cells #[.bool false, .slice none 0 0] 24 (0, 0))
  rw [← hW0] at hx1 hx2 hx3 hz0 hb0
  have HB0 := Lib.hid hb0
  have HK := Lib.hid (held2_of (h := w.heap.size) (H := w.heap.size + 2) (W0 := W0) (by omega) (by omega) (cell0 hx1) (cell1 hx1) (cell0 hx2) (cell1 hx2))
  have HC := Lib.hid hx3
  clear hx1 hx2 hx3 hb0
  have hlt : w.heap.size ≤ w.heap.size + 3 := by omega
  have hle : w.heap.size + 2 ≤ w.heap.size + 3 := by omega
  go_enter Try.func21, Try.ntmps21
  go_wp2_with fail
  rw [← hW0]
  clear hW0
  refine wp_region_held_drew (S := fun wq => Held2 w.heap.size (.bool co) (.slice A n c) (.bool co') (.slice A' n' c') (w.heap.size + 2) W0 wq) (by kernel_rfl) (HK.out _ (Below.refl _ _).drew) (fun hHeld => ?_)
  refine take_op (i := 0) (v := _) rfl (by kernel_rfl) (by kernel_rfl) (by kernel_rfl) (fun _ _ _ h => h) (Or.inl ⟨by rfl, (by intro w hSw; (try dsimp only at hSw); go_simp; try with_reducible rfl)⟩) hHeld ?_
  simp only [Act.put, List.setIfInBounds_toArray, List.set_cons_zero, List.set_cons_succ]
  refine take_op (i := 2) (v := _) rfl (by kernel_rfl) (by kernel_rfl) (by kernel_rfl) (fun _ _ _ h => h) (Or.inl ⟨by rfl, (by intro w hSw; (try dsimp only at hSw); go_simp; try with_reducible rfl)⟩) hHeld ?_
  simp only [Act.put, List.setIfInBounds_toArray, List.set_cons_zero, List.set_cons_succ]
  refine one_op 1 (by kernel_rfl) rfl (by rfl) (fun K hK => ?_)
  go_simp
  refine (complementNames_any co A n c rs _ (HR.out.on HB0.out.drew) (by omega)).mono ?_
  rintro e w1 ⟨m1, A1, c1, rfl, ho1, hsh1, hset1, hk1, hb1⟩
  have hB1 : Below (w.heap.size + 3) W0 w1 := step_below (Below.refl _ _).drew (by omega) hb1
  refine hK _ _ (HK.out _ (hB1.mono hle)) ?_
  try simp only [Act.put, List.setIfInBounds_toArray, List.set_cons_zero, List.set_cons_succ]
  refine one_op 3 (by kernel_rfl) rfl (by rfl) (fun K hK => ?_)
  go_simp
  refine (complementNames_any co' A' n' c' rs' _ (HR'.out.on (HB0.out.trans (hB1.mono hlt))) (by omega)).mono ?_
  rintro e w2 ⟨m2, A2, c2, rfl, ho2, hsh2, hset2, hk2, hb2⟩
  have hB2 : Below (w.heap.size + 3) W0 w2 := step_below hB1 (by omega) hb2
  refine hK _ _ (HK.out _ (hB2.mono hle)) ?_
  try simp only [Act.put, List.setIfInBounds_toArray, List.set_cons_zero, List.set_cons_succ]
  refine one_op 4 (by kernel_rfl) rfl (by rfl) (fun K hK => ?_)
  go_simp
  refine (unionNames_any (!co) (!co') A1 A2 m1.length c1 m2.length c2 m1 m2 _ ((ho1.rng hsh1).on hb2) (ho2.rng hsh2) (by omega) (by omega)).mono ?_
  rintro e w3 ⟨m3, A3, c3, rfl, ho3, hsh3, hset3, hk3, hb3⟩
  have hB3 : Below (w.heap.size + 3) W0 w3 := step_below hB2 (by omega) hb3
  refine hK _ _ (HK.out _ (hB3.mono hle)) ?_
  try simp only [Act.put, List.setIfInBounds_toArray, List.set_cons_zero, List.set_cons_succ]
  refine one_op 5 (by kernel_rfl) rfl (by rfl) (fun K hK => ?_)
  go_simp
  refine (complementNames_any (!co || !co') A3 m3.length c3 m3 _ (ho3.rng hsh3) (by omega)).mono ?_
  rintro e w4 ⟨m4, A4, c4, rfl, ho4, hsh4, hset4, hk4, hb4⟩
  have hB4 : Below (w.heap.size + 3) W0 w4 := step_below hB3 (by omega) hb4
  refine hK _ _ (HK.out _ (hB4.mono hle)) ?_
  try simp only [Act.put, List.setIfInBounds_toArray, List.set_cons_zero, List.set_cons_succ]
  obtain ⟨g0, hg0⟩ : ∃ g0, (!(!co || !co')) = g0 := ⟨_, rfl⟩
  have hset : IsSet g0 m4 (fun x => inN co rs x && inN co' rs' x) := hset4.congr hg0 fun x => by
    rw [inN_not, hset3.2 x]
    show (!(inN (!co) m1 x || inN (!co') m2 x)) = (inN co rs x && inN co' rs' x)
    rw [hset1.2 x, hset2.2 x, inN_not, inN_not]
    cases inN co rs x <;> cases inN co' rs' x <;> rfl
  have hG : (co && co') = g0 := by rw [← hg0]; cases co <;> cases co' <;> rfl
  rw [hg0]
  have HSET := Lib.hid hset
  have HG := Lib.hid hG
  have hcell := (hB4.block (w.heap.size + 1 + 1) (by omega)).trans HC.out
  have q0 := cell0 hcell
  have q1 := cell1 hcell
  have f0 := Lib.frozen_of_heap hcell 0
  have f1 := Lib.frozen_of_heap hcell 1
  have HO3 := Lib.hid (ho4.mono (show w.heap.size + 1 + 1 + 1 ≤ w3.heap.size by have := hB3.size; omega))
  have HBF := Lib.hid (HB0.out.trans (hB4.mono hlt))
  have HB4 := Lib.hid hB4
  have hk : m4.length ≤ n + n' := by omega
  clear hset hG hg0 hcell ho1 ho2 ho3 ho4 hset1 hset2 hset3 hset4 hB1 hB2 hB3 hB4 hb1 hb2 hb3 hb4
  refine one_op 6 (by kernel_rfl) rfl (by rfl) (fun K hK => ?_)
  go_simp
  refine hK _ _ (HK.out _ (Below.setCell2 (HB4.out.mono hle) (by omega) 0 1 (.bool g0) (.slice A4 m4.length c4))) ?_
  try simp only [Act.put, List.setIfInBounds_toArray, List.set_cons_zero, List.set_cons_succ]
  refine wpAnyH_done (by kernel_rfl) ?_ _
  go_wp2
  refine bodyPost_ret (v := .agg #[.bool g0, .slice A4 m4.length c4]) (by simp [results, Try.results21, go_sem, q0, q1]) rfl ?_
  rw [HG.out]
  exact RetN.stored rfl HO3.out (by omega) hsh4 HSET.out hk HBF.out _ _
set_option maxRecDepth 100000 in
set_option maxHeartbeats 3200000 in
theorem subsetNames_any (co co' : Bool) (A A' : Option Addr) (n c n' c' : Nat) (rs rs' : List Strg) (w : World) (hR : NmS w w.heap.size A n rs) (hR' : NmS w w.heap.size A' n' rs') (hn : n ≤ 200000) (hn' : n' ≤ 200000) :
    Calls Try.prog 23 #[.agg #[.bool co, .slice A n c], .agg #[.bool co', .slice A' n' c']] w fun e w' => e = .returned (.bool (subB co rs co' rs')) ∧ Below w.heap.size w w' := by
  have HR := Lib.hid hR
  have HR' := Lib.hid hR'
  clear hR hR'
  obtain ⟨W0, hW0⟩ : ∃ W0, W0 = ((w.alloc (.cells #[.bool co, .slice A n c] 24)).alloc (.cells #[.bool co', .slice A' n' c'] 24)) := ⟨_, rfl⟩
  obtain ⟨hx1, hx2, hz0, hb0⟩ := boxes2 w (.cells #[.bool co, .slice A n c] 24 (0, 0)) (.cells #[.bool co', .slice A' n' c'] 24 (0, 0))
  rw [← hW0] at hx1 hx2 hz0 hb0
  have HB0 := Lib.hid hb0
  have HK := Lib.hid (held2_of (h := w.heap.size) (H := w.heap.size + 2) (W0 := W0) (by omega) (by omega) (cell0 hx1) (cell1 hx1) (cell0 hx2) (cell1 hx2))
  clear hx1 hx2 hb0
  have hlt : w.heap.size ≤ w.heap.size + 2 := by omega
  go_enter Try.func23, Try.ntmps23
  go_wp2_with fail
  rw [← hW0]
  clear hW0
  go_cut [5] from 6 (fun s5 wc => ∃ u, SetF (w.heap.size + 2) (co && !co') (fun x => inN co rs x && !inN co' rs' x) (n + n') u wc ∧ ConF (w.heap.size + 2) 24 s5 u wc ∧ Below (w.heap.size + 2) W0 wc)
  case first =>
    refine wp_region_held_drew (S := fun wq => Held2 w.heap.size (.bool co) (.slice A n c) (.bool co') (.slice A' n' c') (w.heap.size + 2) W0 wq) (by kernel_rfl) (HK.out _ (Below.refl _ _).drew) (fun hHeld => ?_)
    refine take_op (i := 0) (v := _) rfl (by kernel_rfl) (by kernel_rfl) (by kernel_rfl) (fun _ _ _ h => h) (Or.inl ⟨by rfl, (by intro w hSw; (try dsimp only at hSw); go_simp; try with_reducible rfl)⟩) hHeld ?_
    simp only [Act.put, List.setIfInBounds_toArray, List.set_cons_zero, List.set_cons_succ]
    refine take_op (i := 1) (v := _) rfl (by kernel_rfl) (by kernel_rfl) (by kernel_rfl) (fun _ _ _ h => h) (Or.inl ⟨by rfl, (by intro w hSw; (try dsimp only at hSw); go_simp; try with_reducible rfl)⟩) hHeld ?_
    simp only [Act.put, List.setIfInBounds_toArray, List.set_cons_zero, List.set_cons_succ]
    generalize hA : ({ tmps := _, defers := [] } : Act) = a0
    refine wpAnyH_par (Bs := Bool × Bool × Bool × Bool) (L := fun ⟨b2, b3, b4, b5⟩ => #[true, true, b2, b3, b4, b5])
      (chk := fun ⟨b2, b3, b4, b5⟩ i => (i == 2 && !b2) || (i == 3 && (!b3 && b2)) || (i == 4 && !b4) || (i == 5 && (!b5 && (b2 && (b3 && b4)))))
      (full := fun ⟨b2, b3, b4, b5⟩ => b2 && (b3 && (b4 && b5))) (by rintro ⟨b2, b3, b4, b5⟩; revert b2 b3 b4 b5; decide +kernel) (by rintro ⟨b2, b3, b4, b5⟩; revert b2 b3 b4 b5; decide +kernel)
      (Inv := fun ⟨b2, b3, b4, b5⟩ a wq => ∃ (u8 u9 u5 : Value), a = ((a0.put (some 8) u8).put (some 9) u9).put (some 5) u5 ∧
      Below (w.heap.size + 2) W0 wq ∧ (b2 = true → SetF (w.heap.size + 2) (!co') (inN (!co') rs') n' u8 wq) ∧ (b3 = true → b2 = true ∧ SetF (w.heap.size + 2) (co && !co') (fun x => inN co rs x && !inN co' rs' x) (n + n') u9 wq) ∧
      (b4 = true → BoxF (w.heap.size + 2) 24 u5 wq) ∧ (b5 = true → (b3 = true ∧ b4 = true) ∧ ConF (w.heap.size + 2) 24 u5 u9 wq)) ?_ ?_ ⟨false, false, false, false⟩ rfl (by decide) ?_
    · rintro ⟨b2, b3, b4, b5⟩ a wq hf ⟨u8, u9, u5, rfl, hB, h2, h3, h4, h5⟩
      simp only [Bool.and_eq_true] at hf
      obtain ⟨rfl, rfl, rfl, rfl⟩ := hf
      subst hA
      simp only [Act.put, List.setIfInBounds_toArray, List.set_cons_zero, List.set_cons_succ]
      go_wp2_with fail
      go_meet
      case rel => exact ⟨u9, (h3 trivial).2, (h5 trivial).2, hB⟩
    · rintro ⟨b2, b3, b4, b5⟩ a wq i ⟨u8, u9, u5, rfl, hB, h2, h3, h4, h5⟩ hk
      simp only [Bool.or_eq_true, Bool.and_eq_true, beq_iff_eq, Bool.not_eq_true'] at hk
      subst hA
      have hzq : w.heap.size + 2 ≤ wq.heap.size := by have := hB.size; omega
      rcases hk with ((⟨rfl, rfl⟩ | ⟨rfl, rfl, rfl⟩) | ⟨rfl, rfl⟩) | ⟨rfl, rfl, rfl, rfl, rfl⟩
      · refine step_op rfl (by rfl) (fun K hK => ?_)
        simp only [Act.put, List.setIfInBounds_toArray, List.set_cons_zero, List.set_cons_succ]
        go_simp
        refine (complementNames_any co' A' n' c' rs' _ (HR'.out.on (HB0.out.trans (hB.mono hlt))) (by omega)).mono ?_
        intro e w1 hret
        obtain ⟨v, rfl, hv, hb⟩ := hret.setF hzq
        have hB' := step_below hB (by omega) hb
        exact hK _ _ ⟨HK.out _ hB', ⟨true, b3, b4, b5⟩, rfl, v, u9, u5, rfl, hB', fun _ => hv, fun h => absurd (h3 h).1 nofun, fun h => (h4 h).old hb, fun h => absurd (h3 (h5 h).1.1).1 nofun⟩
      · obtain ⟨m1, A1, c1, rfl, ho1, hsh1, hset1, hk1⟩ := h2 rfl
        refine step_op rfl (by rfl) (fun K hK => ?_)
        simp only [Act.put, List.setIfInBounds_toArray, List.set_cons_zero, List.set_cons_succ]
        go_simp
        refine (intersectNames_any co (!co') A A1 n c m1.length c1 rs m1 _ (HR.out.on (HB0.out.trans (hB.mono hlt))) (ho1.rng hsh1) hn (by omega)).mono ?_
        intro e w1 hret
        obtain ⟨v, rfl, hv, hb⟩ := (RetN.congr hret rfl (p' := fun x => inN co rs x && !inN co' rs' x) (k' := n + n') (fun x => by rw [hset1.2 x, inN_not]) (by omega)).setF hzq
        have hB' := step_below hB (by omega) hb
        exact hK _ _ ⟨HK.out _ hB', ⟨true, true, b4, b5⟩, rfl, _, v, u5, rfl, hB', fun h => (h2 h).old hb, fun _ => ⟨rfl, hv⟩, fun h => (h4 h).old hb, fun h => absurd (h5 h).1.1 nofun⟩
      · refine step_op rfl (by rfl) (fun K hK => ?_)
        simp only [Act.put, List.setIfInBounds_toArray, List.set_cons_zero, List.set_cons_succ]
        go_simp
        have hb : Below wq.heap.size wq (wq.alloc (.cells #[.bool false, .slice none 0 0] 24)) := (Below.refl _ _).alloc (Nat.le_refl _) _
        have hB' := step_below hB (by omega) hb
        exact hK _ _ ⟨HK.out _ hB', ⟨b2, b3, true, b5⟩, rfl, u8, u9, _, rfl, hB', fun h => (h2 h).old hb, fun h => ⟨(h3 h).1, (h3 h).2.old hb⟩, fun _ => BoxF.new _ hzq _ _, fun h => absurd (h5 h).1.2 nofun⟩
      · obtain ⟨r, x, y, rfl, hr, hc⟩ := h4 rfl
        obtain ⟨-, m, Am, cm, rfl, hmm⟩ := h3 rfl
        have g0 := cell0 hc
        have g1 := cell1 hc
        have f0 := Lib.frozen_of_heap hc 0
        have f1 := Lib.frozen_of_heap hc 1
        refine step_op rfl (by rfl) (fun K hK => ?_)
        simp only [Act.put, List.setIfInBounds_toArray, List.set_cons_zero, List.set_cons_succ]
        go_simp
        have hB' := Below.setCell2 hB hr 0 1 (.bool (co && !co')) (.slice Am m.length cm)
        exact hK _ _ ⟨HK.out _ hB', ⟨true, true, true, true⟩, rfl, u8, _, _, rfl, hB', fun h => (h2 h).store hc (by decide) _ _, fun h => ⟨rfl, (h3 h).2.store hc (by decide) _ _⟩, fun h => (h4 h).store hc _ _, fun _ => ⟨⟨rfl, rfl⟩, ConF.new hr hc _ _⟩⟩
    · exact ⟨undef, undef, undef, by subst hA; rfl, (Below.refl _ _).drew, nofun, nofun, nofun, nofun⟩
  case rest =>
    obtain ⟨u, ⟨m, A2, cap2, rfl, ho, hsh, hset, hk⟩, ⟨r, x, y, rfl, hr, hc, he⟩, hB⟩ := hcut
    simp only [Value.agg.injEq, Array.mk.injEq, List.cons.injEq, and_true] at he
    obtain ⟨rfl, rfl⟩ := he
    obtain ⟨c0, hc0⟩ : ∃ c0, c0 = (co && !co') := ⟨_, rfl⟩
    rw [← hc0] at hc hset
    have l1 := cell0 hc
    have l2 := cell1 hc
    have HB := Lib.hid (HB0.out.trans (hB.mono hlt))
    have HQ := Lib.hid (subN_of hc0 hset)
    generalize m.length = ml at HQ l2
    clear ho hset hk hB hc hc0
    cases c0
    · by_cases h0 : ml = 0
      · have hT : Hid (subB co rs co' rs' = true) := Lib.hid (subB_yes (HQ.out.1 ⟨rfl, h0⟩))
        subst h0
        go_wp2
        go_ret
        exact ⟨ret_bool hT.out.symm, HB.out⟩
      · have hT : Hid (subB co rs co' rs' = false) := Lib.hid (subB_no (fun h => h0 (HQ.out.2 h).2))
        have q : ((ml : Int) == 0) = false := by rw [beq_eq_false_iff_ne]; omega
        go_wp2
        go_ret
        exact ⟨ret_bool hT.out.symm, HB.out⟩
    · have hT : Hid (subB co rs co' rs' = false) := Lib.hid (subB_no (fun h => absurd (HQ.out.2 h).1 nofun))
      go_wp2
      go_ret
      exact ⟨ret_bool hT.out.symm, HB.out⟩
end Go.Proofs.Ytkmfpkdcedfgfaa
