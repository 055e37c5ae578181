/- The walk of the law LiteralsSubsets: it returns true. -/
import Derived.Test.YtkmfpkdcedfgfaaLawKit
namespace Go.Proofs.Ytkmfpkdcedfgfaa
open Go.RowKit Go.Sort
theorem same_sub {co co' g T : Bool} {rs rs' m m' : List Strg} (hT : subB co rs co' rs' = T) (hg : (co || co') = g) (h1 : IsSet g m fun x => inN co rs x || inN co' rs' x) (h2 : IsSet co' m' fun x => inN co' rs' x || inN co' rs' x) : decide (g = co' ∧ m = m') = T := by
  subst hg
  have key : ((co || co') = co' ∧ m = m') ↔ subN co rs co' rs' := by
    constructor
    · rintro ⟨hc, rfl⟩
      refine ⟨by cases co <;> cases co' <;> simp_all, fun x hx => ?_⟩
      have e1 := h1.2 x
      have e2 := h2.2 x
      rw [hc] at e1
      rw [e1] at e2
      dsimp only at e2
      rw [hx] at e2
      revert e2
      cases inN co' rs' x <;> simp
    · rintro ⟨hc, hx⟩
      have hc' : (co || co') = co' := by revert hc; cases co <;> cases co' <;> simp
      refine ⟨hc', isSet_unique (h1.congr hc' fun _ => rfl) h2 fun x => ?_⟩
      have := hx x
      revert this
      cases inN co rs x <;> cases inN co' rs' x <;> simp
  cases T
  · refine decide_eq_false fun h => ?_
    have := subB_yes (key.1 h)
    rw [hT] at this
    cases this
  · exact decide_eq_true (key.2 (subB_iff.1 hT))
set_option maxRecDepth 100000 in
set_option maxHeartbeats 6400000 in
theorem literalsSubsets_any (co co' : Bool) (A A' : Option Addr) (n c n' c' : Nat) (rs rs' : List Strg) (s : Strg) (w : World) (hR : NmS w w.heap.size A n rs) (hR' : NmS w w.heap.size A' n' rs') (hn : n ≤ 9223372036854775807) (hn' : n' ≤ 9223372036854775807) :
    Calls Try.prog 5 #[.agg #[.bool co, .slice A n c], .agg #[.bool co', .slice A' n' c'], .string ⟨s.toArray⟩] w fun e w' => e = .returned (.bool true) ∧ Below w.heap.size w w' := by
  have HR := Lib.hid hR
  have HR' := Lib.hid hR'
  obtain ⟨hx1, hx2, hx3, hxz, hbW⟩ := boxes3 w (.cells #[.bool co, .slice A n c] 24 (0, 0)) (.cells #[.bool co', .slice A' n' c'] 24 (0, 0)) (.cells #[.bool co, .slice A n c, .bool co', .slice A' n' c'] 24 (0, 0))
  have hs := short2_any (w.heap.size + 1 + 1) A A' n c n' c' _ ((Lib.cell_of_heap hx3 1).trans rfl) ((Lib.cell_of_heap hx3 3).trans rfl) hn hn'
  have hb1 := hbW
  clear hR hR'
  by_cases hn1 : n ≤ 40
  · by_cases hn2 : n' ≤ 40
    · rw [decide_eq_true hn1, decide_eq_true hn2, Bool.and_self] at hs
      obtain ⟨T, hT⟩ : ∃ T, subB co rs co' rs' = T := ⟨_, rfl⟩
      obtain ⟨g, hg⟩ : ∃ g, (co || co') = g := ⟨_, rfl⟩
      have HT := Lib.hid hT
      have HG := Lib.hid hg
      have hsb := subset_as co co' T A A' n c n' c' rs rs' _ (HR.out.on hbW) (HR'.out.on hbW) (by omega) (by omega) hT
      clear hT hg hx3 hxz hb1
      go_enter Try.func5, Try.ntmps5
      go_wp2_with (go_at_call 8; refine hs.mono ?_; rintro e w1 ⟨rfl, rfl⟩; refine Hid.out ?_)
      refine Lib.hid ?_
      clear hs
      generalize (((w.alloc (.cells #[.bool co, .slice A n c] 24)).alloc (.cells #[.bool co', .slice A' n' c'] 24)).alloc (.cells #[.bool co, .slice A n c, .bool co', .slice A' n' c'] 24)) = W1 at hx1 hx2 hbW hsb ⊢
      have g1 := cell0 hx1
      have g2 := cell1 hx1
      have g3 := cell0 hx2
      have g4 := cell1 hx2
      go_wp2_with (go_at_call 22; refine hsb.mono ?_; rintro e w2 ⟨rfl, hbc⟩; refine Hid.out ?_)
      refine Lib.hid ?_
      replace hx1 := (hbc.block _ (heap_lt hx1)).trans hx1
      replace hx2 := (hbc.block _ (heap_lt hx2)).trans hx2
      replace hbW := hbW.trans (hbc.mono hbW.size)
      have g1 := cell0 hx1
      have g2 := cell1 hx1
      have g3 := cell0 hx2
      have g4 := cell1 hx2
      clear hbc hsb
      cases T
      · go_wp2_with fail
        generalize w2 = W at *
        have HX1 := Lib.hid hx1
        have HX2 := Lib.hid hx2
        have HBW := Lib.hid hbW
        have Ka := Lib.hid (kept_arg HR.out hbW)
        have Kb := Lib.hid (kept_arg HR'.out hbW)
        clear hx1 hx2 hbW g1 g2 g3 g4
        have HK : Hid (∀ wq, Below W.heap.size W wq → wq.cell? ⟨w.heap.size, 0, none⟩ = some (.bool co) ∧ wq.cell? ⟨w.heap.size, 1, none⟩ = some (.slice A n c) ∧ wq.cell? ⟨w.heap.size + 1, 0, none⟩ = some (.bool co') ∧ wq.cell? ⟨w.heap.size + 1, 1, none⟩ = some (.slice A' n' c')) := Lib.hid (fun wq h => by
          obtain ⟨a1, a2⟩ := cells_held h (heap_lt HX1.out) HX1.out
          obtain ⟨b1, b2⟩ := cells_held h (heap_lt HX2.out) HX2.out
          exact ⟨a1, a2, b1, b2⟩)
        refine wp_region_held_drew (S := fun wq => wq.cell? ⟨w.heap.size, 0, none⟩ = some (.bool co) ∧ wq.cell? ⟨w.heap.size, 1, none⟩ = some (.slice A n c) ∧ wq.cell? ⟨w.heap.size + 1, 0, none⟩ = some (.bool co') ∧ wq.cell? ⟨w.heap.size + 1, 1, none⟩ = some (.slice A' n' c')) (by kernel_rfl) (HK.out _ (Below.refl _ _).drew) (fun _ => ?_)
        have hB9 : Below W.heap.size W W.drew := (Below.refl _ _).drew
        refine take_op (i := 0) (v := _) rfl (by kernel_rfl) (by kernel_rfl) (by kernel_rfl) (fun _ _ _ h => h) (Or.inl ⟨by rfl, (by intro w hSw; (try dsimp only at hSw); go_simp; try with_reducible rfl)⟩) (HK.out _ hB9) ?_
        try simp only [Act.put, List.setIfInBounds_toArray, List.set_cons_zero, List.set_cons_succ]
        refine take_op (i := 1) (v := _) rfl (by kernel_rfl) (by kernel_rfl) (by kernel_rfl) (fun _ _ _ h => h) (Or.inl ⟨by rfl, (by intro w hSw; (try dsimp only at hSw); go_simp; try with_reducible rfl)⟩) (HK.out _ hB9) ?_
        try simp only [Act.put, List.setIfInBounds_toArray, List.set_cons_zero, List.set_cons_succ]
        refine take_op (i := 2) (v := _) rfl (by kernel_rfl) (by kernel_rfl) (by kernel_rfl) (fun _ _ _ h => h) (Or.inl ⟨by rfl, (by intro w hSw; (try dsimp only at hSw); go_simp; try with_reducible rfl)⟩) (HK.out _ hB9) ?_
        try simp only [Act.put, List.setIfInBounds_toArray, List.set_cons_zero, List.set_cons_succ]
        refine one_op 3 (by kernel_rfl) rfl (by rfl) (fun K hK => ?_)
        go_simp
        refine (subsetNames_as _ _ _ A A' n c n' c' rs rs' _ (Ka.out _ hB9) (Kb.out _ hB9) (by omega) (by omega) HT.out).mono ?_
        rintro e w10 ⟨rfl, hb10⟩
        have hB10 : Below W.heap.size W w10 := step_below hB9 (Nat.le_refl _) hb10
        clear hb10 hB9
        refine hK _ _ (HK.out _ hB10) ?_
        try simp only [Act.put, List.setIfInBounds_toArray, List.set_cons_zero, List.set_cons_succ]
        clear hK K
        refine take_op (i := 4) (v := _) rfl (by kernel_rfl) (by kernel_rfl) (by kernel_rfl) (fun _ _ _ h => h) (Or.inl ⟨by rfl, (by intro w hSw; (try dsimp only at hSw); go_simp; try with_reducible rfl)⟩) (HK.out _ hB10) ?_
        try simp only [Act.put, List.setIfInBounds_toArray, List.set_cons_zero, List.set_cons_succ]
        refine take_op (i := 5) (v := _) rfl (by kernel_rfl) (by kernel_rfl) (by kernel_rfl) (fun _ _ _ h => h) (Or.inl ⟨by rfl, (by intro w hSw; (try dsimp only at hSw); go_simp; try with_reducible rfl)⟩) (HK.out _ hB10) ?_
        try simp only [Act.put, List.setIfInBounds_toArray, List.set_cons_zero, List.set_cons_succ]
        refine take_op (i := 6) (v := _) rfl (by kernel_rfl) (by kernel_rfl) (by kernel_rfl) (fun _ _ _ h => h) (Or.inl ⟨by rfl, (by intro w hSw; (try dsimp only at hSw); go_simp; try with_reducible rfl)⟩) (HK.out _ hB10) ?_
        try simp only [Act.put, List.setIfInBounds_toArray, List.set_cons_zero, List.set_cons_succ]
        refine take_op (i := 7) (v := _) rfl (by kernel_rfl) (by kernel_rfl) (by kernel_rfl) (fun _ _ _ h => h) (Or.inl ⟨by rfl, (by intro w hSw; (try dsimp only at hSw); go_simp; try with_reducible rfl)⟩) (HK.out _ hB10) ?_
        try simp only [Act.put, List.setIfInBounds_toArray, List.set_cons_zero, List.set_cons_succ]
        refine take_op (i := 8) (v := _) rfl (by kernel_rfl) (by kernel_rfl) (by kernel_rfl) (fun _ _ _ h => h) (Or.inl ⟨by rfl, (by intro w hSw; (try dsimp only at hSw); go_simp; try with_reducible rfl)⟩) (HK.out _ hB10) ?_
        try simp only [Act.put, List.setIfInBounds_toArray, List.set_cons_zero, List.set_cons_succ]
        refine take_op (i := 10) (v := _) rfl (by kernel_rfl) (by kernel_rfl) (by kernel_rfl) (fun _ _ _ h => h) (Or.inl ⟨by rfl, (by intro w hSw; (try dsimp only at hSw); go_simp; try with_reducible rfl)⟩) (HK.out _ hB10) ?_
        try simp only [Act.put, List.setIfInBounds_toArray, List.set_cons_zero, List.set_cons_succ]
        refine take_op (i := 11) (v := _) rfl (by kernel_rfl) (by kernel_rfl) (by kernel_rfl) (fun _ _ _ h => h) (Or.inl ⟨by rfl, (by intro w hSw; (try dsimp only at hSw); go_simp; try with_reducible rfl)⟩) (HK.out _ hB10) ?_
        try simp only [Act.put, List.setIfInBounds_toArray, List.set_cons_zero, List.set_cons_succ]
        refine one_op 9 (by kernel_rfl) rfl (by rfl) (fun K hK => ?_)
        go_simp
        refine (union_as _ _ g A A' n c n' c' rs rs' _ (Ka.out _ hB10) (Kb.out _ hB10) (by omega) (by omega) HG.out).mono ?_
        rintro e w11 ⟨m11, A11, c11, rfl, ho11, hs11, hq11, hk11, hb11⟩
        have hB11 : Below W.heap.size W w11 := step_below hB10 (Nat.le_refl _) hb11
        have K11 := kept_set ho11 hs11
        have Q11 := Lib.hid hq11
        have t11_11 : Below w11.heap.size w11 w11 := Below.refl _ _
        clear ho11 hq11
        clear hb11 hB10
        refine hK _ _ (HK.out _ hB11) ?_
        try simp only [Act.put, List.setIfInBounds_toArray, List.set_cons_zero, List.set_cons_succ]
        clear hK K
        refine one_op 12 (by kernel_rfl) rfl (by rfl) (fun K hK => ?_)
        go_simp
        refine (union_as _ _ _ A' A' n' c' n' c' rs' rs' _ (Kb.out _ hB11) (Kb.out _ hB11) (by omega) (by omega) (Bool.or_self _)).mono ?_
        rintro e w12 ⟨m12, A12, c12, rfl, ho12, hs12, hq12, hk12, hb12⟩
        have hB12 : Below W.heap.size W w12 := step_below hB11 (Nat.le_refl _) hb12
        have t11_12 := step_on t11_11 hb12
        have K12 := kept_set ho12 hs12
        have Q12 := Lib.hid hq12
        have t12_12 : Below w12.heap.size w12 w12 := Below.refl _ _
        clear ho12 hq12
        clear hb12 hB11 t11_11
        refine hK _ _ (HK.out _ hB12) ?_
        try simp only [Act.put, List.setIfInBounds_toArray, List.set_cons_zero, List.set_cons_succ]
        clear hK K
        refine one_op 13 (by kernel_rfl) rfl (by rfl) (fun K hK => ?_)
        go_simp
        refine (same_as g _ A11 A12 m11.length m12.length c11 c12 m11 m12 _ _ (K11 _ t11_12) (K12 _ t12_12) (by omega) (by omega) (same_sub HT.out HG.out Q11.out Q12.out)).mono ?_
        rintro e w13 ⟨rfl, hb13⟩
        have hB13 : Below W.heap.size W w13 := step_below hB12 (Nat.le_refl _) hb13
        have t11_13 := step_on t11_12 hb13
        have t12_13 := step_on t12_12 hb13
        clear hb13 hB12 t11_12 t12_12
        refine hK _ _ (HK.out _ hB13) ?_
        try simp only [Act.put, List.setIfInBounds_toArray, List.set_cons_zero, List.set_cons_succ]
        clear hK K
        refine take_op (i := 14) (v := _) rfl (by kernel_rfl) (by kernel_rfl) (by kernel_rfl) (fun _ _ _ h => h) (Or.inl ⟨by rfl, (by intro w hSw; (try dsimp only at hSw); go_simp; try with_reducible rfl)⟩) (HK.out _ hB13) ?_
        try simp only [Act.put, List.setIfInBounds_toArray, List.set_cons_zero, List.set_cons_succ]
        refine take_op (i := 15) (v := _) rfl (by kernel_rfl) (by kernel_rfl) (by kernel_rfl) (fun _ _ _ h => h) (Or.inl ⟨by rfl, (by intro w hSw; (try dsimp only at hSw); go_simp; try with_reducible rfl)⟩) (HK.out _ hB13) ?_
        try simp only [Act.put, List.setIfInBounds_toArray, List.set_cons_zero, List.set_cons_succ]
        refine take_op (i := 16) (v := _) rfl (by kernel_rfl) (by kernel_rfl) (by kernel_rfl) (fun _ _ _ h => h) (Or.inl ⟨by rfl, (by intro w hSw; (try dsimp only at hSw); go_simp; try with_reducible rfl)⟩) (HK.out _ hB13) ?_
        try simp only [Act.put, List.setIfInBounds_toArray, List.set_cons_zero, List.set_cons_succ]
        refine one_op 17 (by kernel_rfl) rfl (by rfl) (fun K hK => ?_)
        go_simp
        refine (awake_any _).mono ?_
        rintro e w14 ⟨rfl, hb14⟩
        have hB14 : Below W.heap.size W w14 := step_below hB13 (Nat.le_refl _) hb14
        have t11_14 := step_on t11_13 hb14
        have t12_14 := step_on t12_13 hb14
        clear hb14 hB13 t11_13 t12_13
        refine hK _ _ (HK.out _ hB14) ?_
        try simp only [Act.put, List.setIfInBounds_toArray, List.set_cons_zero, List.set_cons_succ]
        clear hK K
        refine take_op (i := 18) (v := _) rfl (by kernel_rfl) (by kernel_rfl) (by kernel_rfl) (fun _ _ _ h => h) (Or.inl ⟨by rfl, (by intro w hSw; (try dsimp only at hSw); go_simp; try with_reducible rfl)⟩) (HK.out _ hB14) ?_
        try simp only [Act.put, List.setIfInBounds_toArray, List.set_cons_zero, List.set_cons_succ]
        refine take_op (i := 19) (v := _) rfl (by kernel_rfl) (by kernel_rfl) (by kernel_rfl) (fun _ _ _ h => h) (Or.inl ⟨by rfl, (by intro w hSw; (try dsimp only at hSw); go_simp; try with_reducible rfl)⟩) (HK.out _ hB14) ?_
        try simp only [Act.put, List.setIfInBounds_toArray, List.set_cons_zero, List.set_cons_succ]
        refine wpAnyH_done (by kernel_rfl) ?_ _
        go_wp2
        go_ret
        exact ⟨rfl, HBW.out.trans (hB14.mono HBW.out.size)⟩
      · obtain ⟨hc0, hxx⟩ := subB_iff.1 HT.out
        have HC0 := Lib.hid hc0
        obtain ⟨d, hd⟩ : ∃ d, inN co rs s = d := ⟨_, rfl⟩
        have hxs := hxx s
        clear hc0 hxx
        cases d
        · clear hxs
          have HD := Lib.hid hd
          clear hd
          have hcc := contains_as _ A n c rs s false _ (HR.out.on hbW) (by omega) HD.out
          go_wp2_with (go_at_call 13; refine hcc.mono ?_; rintro e w3 ⟨rfl, hbc⟩; refine Hid.out ?_)
          refine Lib.hid ?_
          replace hx1 := (hbc.block _ (heap_lt hx1)).trans hx1
          replace hx2 := (hbc.block _ (heap_lt hx2)).trans hx2
          replace hbW := hbW.trans (hbc.mono hbW.size)
          have g1 := cell0 hx1
          have g2 := cell1 hx1
          have g3 := cell0 hx2
          have g4 := cell1 hx2
          clear hbc hcc
          cases co
          · go_wp2_with fail
            generalize w3 = W at *
            have HX1 := Lib.hid hx1
            have HX2 := Lib.hid hx2
            have HBW := Lib.hid hbW
            have Ka := Lib.hid (kept_arg HR.out hbW)
            have Kb := Lib.hid (kept_arg HR'.out hbW)
            clear hx1 hx2 hbW g1 g2 g3 g4
            have HK : Hid (∀ wq, Below W.heap.size W wq → wq.cell? ⟨w.heap.size, 0, none⟩ = some (.bool false) ∧ wq.cell? ⟨w.heap.size, 1, none⟩ = some (.slice A n c) ∧ wq.cell? ⟨w.heap.size + 1, 0, none⟩ = some (.bool co') ∧ wq.cell? ⟨w.heap.size + 1, 1, none⟩ = some (.slice A' n' c')) := Lib.hid (fun wq h => by
              obtain ⟨a1, a2⟩ := cells_held h (heap_lt HX1.out) HX1.out
              obtain ⟨b1, b2⟩ := cells_held h (heap_lt HX2.out) HX2.out
              exact ⟨a1, a2, b1, b2⟩)
            refine wp_region_held_drew (S := fun wq => wq.cell? ⟨w.heap.size, 0, none⟩ = some (.bool false) ∧ wq.cell? ⟨w.heap.size, 1, none⟩ = some (.slice A n c) ∧ wq.cell? ⟨w.heap.size + 1, 0, none⟩ = some (.bool co') ∧ wq.cell? ⟨w.heap.size + 1, 1, none⟩ = some (.slice A' n' c')) (by kernel_rfl) (HK.out _ (Below.refl _ _).drew) (fun _ => ?_)
            have hB9 : Below W.heap.size W W.drew := (Below.refl _ _).drew
            refine take_op (i := 0) (v := _) rfl (by kernel_rfl) (by kernel_rfl) (by kernel_rfl) (fun _ _ _ h => h) (Or.inl ⟨by rfl, (by intro w hSw; (try dsimp only at hSw); go_simp; try with_reducible rfl)⟩) (HK.out _ hB9) ?_
            try simp only [Act.put, List.setIfInBounds_toArray, List.set_cons_zero, List.set_cons_succ]
            refine take_op (i := 1) (v := _) rfl (by kernel_rfl) (by kernel_rfl) (by kernel_rfl) (fun _ _ _ h => h) (Or.inl ⟨by rfl, (by intro w hSw; (try dsimp only at hSw); go_simp; try with_reducible rfl)⟩) (HK.out _ hB9) ?_
            try simp only [Act.put, List.setIfInBounds_toArray, List.set_cons_zero, List.set_cons_succ]
            refine take_op (i := 2) (v := _) rfl (by kernel_rfl) (by kernel_rfl) (by kernel_rfl) (fun _ _ _ h => h) (Or.inl ⟨by rfl, (by intro w hSw; (try dsimp only at hSw); go_simp; try with_reducible rfl)⟩) (HK.out _ hB9) ?_
            try simp only [Act.put, List.setIfInBounds_toArray, List.set_cons_zero, List.set_cons_succ]
            refine one_op 3 (by kernel_rfl) rfl (by rfl) (fun K hK => ?_)
            go_simp
            refine (subsetNames_as _ _ _ A A' n c n' c' rs rs' _ (Ka.out _ hB9) (Kb.out _ hB9) (by omega) (by omega) HT.out).mono ?_
            rintro e w10 ⟨rfl, hb10⟩
            have hB10 : Below W.heap.size W w10 := step_below hB9 (Nat.le_refl _) hb10
            clear hb10 hB9
            refine hK _ _ (HK.out _ hB10) ?_
            try simp only [Act.put, List.setIfInBounds_toArray, List.set_cons_zero, List.set_cons_succ]
            clear hK K
            refine take_op (i := 4) (v := _) rfl (by kernel_rfl) (by kernel_rfl) (by kernel_rfl) (fun _ _ _ h => h) (Or.inl ⟨by rfl, (by intro w hSw; (try dsimp only at hSw); go_simp; try with_reducible rfl)⟩) (HK.out _ hB10) ?_
            try simp only [Act.put, List.setIfInBounds_toArray, List.set_cons_zero, List.set_cons_succ]
            refine take_op (i := 5) (v := _) rfl (by kernel_rfl) (by kernel_rfl) (by kernel_rfl) (fun _ _ _ h => h) (Or.inl ⟨by rfl, (by intro w hSw; (try dsimp only at hSw); go_simp; try with_reducible rfl)⟩) (HK.out _ hB10) ?_
            try simp only [Act.put, List.setIfInBounds_toArray, List.set_cons_zero, List.set_cons_succ]
            refine take_op (i := 6) (v := _) rfl (by kernel_rfl) (by kernel_rfl) (by kernel_rfl) (fun _ _ _ h => h) (Or.inl ⟨by rfl, (by intro w hSw; (try dsimp only at hSw); go_simp; try with_reducible rfl)⟩) (HK.out _ hB10) ?_
            try simp only [Act.put, List.setIfInBounds_toArray, List.set_cons_zero, List.set_cons_succ]
            refine take_op (i := 7) (v := _) rfl (by kernel_rfl) (by kernel_rfl) (by kernel_rfl) (fun _ _ _ h => h) (Or.inl ⟨by rfl, (by intro w hSw; (try dsimp only at hSw); go_simp; try with_reducible rfl)⟩) (HK.out _ hB10) ?_
            try simp only [Act.put, List.setIfInBounds_toArray, List.set_cons_zero, List.set_cons_succ]
            refine take_op (i := 8) (v := _) rfl (by kernel_rfl) (by kernel_rfl) (by kernel_rfl) (fun _ _ _ h => h) (Or.inl ⟨by rfl, (by intro w hSw; (try dsimp only at hSw); go_simp; try with_reducible rfl)⟩) (HK.out _ hB10) ?_
            try simp only [Act.put, List.setIfInBounds_toArray, List.set_cons_zero, List.set_cons_succ]
            refine take_op (i := 10) (v := _) rfl (by kernel_rfl) (by kernel_rfl) (by kernel_rfl) (fun _ _ _ h => h) (Or.inl ⟨by rfl, (by intro w hSw; (try dsimp only at hSw); go_simp; try with_reducible rfl)⟩) (HK.out _ hB10) ?_
            try simp only [Act.put, List.setIfInBounds_toArray, List.set_cons_zero, List.set_cons_succ]
            refine take_op (i := 11) (v := _) rfl (by kernel_rfl) (by kernel_rfl) (by kernel_rfl) (fun _ _ _ h => h) (Or.inl ⟨by rfl, (by intro w hSw; (try dsimp only at hSw); go_simp; try with_reducible rfl)⟩) (HK.out _ hB10) ?_
            try simp only [Act.put, List.setIfInBounds_toArray, List.set_cons_zero, List.set_cons_succ]
            refine one_op 9 (by kernel_rfl) rfl (by rfl) (fun K hK => ?_)
            go_simp
            refine (union_as _ _ g A A' n c n' c' rs rs' _ (Ka.out _ hB10) (Kb.out _ hB10) (by omega) (by omega) HG.out).mono ?_
            rintro e w11 ⟨m11, A11, c11, rfl, ho11, hs11, hq11, hk11, hb11⟩
            have hB11 : Below W.heap.size W w11 := step_below hB10 (Nat.le_refl _) hb11
            have K11 := kept_set ho11 hs11
            have Q11 := Lib.hid hq11
            have t11_11 : Below w11.heap.size w11 w11 := Below.refl _ _
            clear ho11 hq11
            clear hb11 hB10
            refine hK _ _ (HK.out _ hB11) ?_
            try simp only [Act.put, List.setIfInBounds_toArray, List.set_cons_zero, List.set_cons_succ]
            clear hK K
            refine one_op 12 (by kernel_rfl) rfl (by rfl) (fun K hK => ?_)
            go_simp
            refine (union_as _ _ _ A' A' n' c' n' c' rs' rs' _ (Kb.out _ hB11) (Kb.out _ hB11) (by omega) (by omega) (Bool.or_self _)).mono ?_
            rintro e w12 ⟨m12, A12, c12, rfl, ho12, hs12, hq12, hk12, hb12⟩
            have hB12 : Below W.heap.size W w12 := step_below hB11 (Nat.le_refl _) hb12
            have t11_12 := step_on t11_11 hb12
            have K12 := kept_set ho12 hs12
            have Q12 := Lib.hid hq12
            have t12_12 : Below w12.heap.size w12 w12 := Below.refl _ _
            clear ho12 hq12
            clear hb12 hB11 t11_11
            refine hK _ _ (HK.out _ hB12) ?_
            try simp only [Act.put, List.setIfInBounds_toArray, List.set_cons_zero, List.set_cons_succ]
            clear hK K
            refine one_op 13 (by kernel_rfl) rfl (by rfl) (fun K hK => ?_)
            go_simp
            refine (same_as g _ A11 A12 m11.length m12.length c11 c12 m11 m12 _ _ (K11 _ t11_12) (K12 _ t12_12) (by omega) (by omega) (same_sub HT.out HG.out Q11.out Q12.out)).mono ?_
            rintro e w13 ⟨rfl, hb13⟩
            have hB13 : Below W.heap.size W w13 := step_below hB12 (Nat.le_refl _) hb13
            have t11_13 := step_on t11_12 hb13
            have t12_13 := step_on t12_12 hb13
            clear hb13 hB12 t11_12 t12_12
            refine hK _ _ (HK.out _ hB13) ?_
            try simp only [Act.put, List.setIfInBounds_toArray, List.set_cons_zero, List.set_cons_succ]
            clear hK K
            refine take_op (i := 14) (v := _) rfl (by kernel_rfl) (by kernel_rfl) (by kernel_rfl) (fun _ _ _ h => h) (Or.inl ⟨by rfl, (by intro w hSw; (try dsimp only at hSw); go_simp; try with_reducible rfl)⟩) (HK.out _ hB13) ?_
            try simp only [Act.put, List.setIfInBounds_toArray, List.set_cons_zero, List.set_cons_succ]
            refine take_op (i := 15) (v := _) rfl (by kernel_rfl) (by kernel_rfl) (by kernel_rfl) (fun _ _ _ h => h) (Or.inl ⟨by rfl, (by intro w hSw; (try dsimp only at hSw); go_simp; try with_reducible rfl)⟩) (HK.out _ hB13) ?_
            try simp only [Act.put, List.setIfInBounds_toArray, List.set_cons_zero, List.set_cons_succ]
            refine take_op (i := 16) (v := _) rfl (by kernel_rfl) (by kernel_rfl) (by kernel_rfl) (fun _ _ _ h => h) (Or.inl ⟨by rfl, (by intro w hSw; (try dsimp only at hSw); go_simp; try with_reducible rfl)⟩) (HK.out _ hB13) ?_
            try simp only [Act.put, List.setIfInBounds_toArray, List.set_cons_zero, List.set_cons_succ]
            refine one_op 17 (by kernel_rfl) rfl (by rfl) (fun K hK => ?_)
            go_simp
            refine (awake_any _).mono ?_
            rintro e w14 ⟨rfl, hb14⟩
            have hB14 : Below W.heap.size W w14 := step_below hB13 (Nat.le_refl _) hb14
            have t11_14 := step_on t11_13 hb14
            have t12_14 := step_on t12_13 hb14
            clear hb14 hB13 t11_13 t12_13
            refine hK _ _ (HK.out _ hB14) ?_
            try simp only [Act.put, List.setIfInBounds_toArray, List.set_cons_zero, List.set_cons_succ]
            clear hK K
            refine take_op (i := 18) (v := _) rfl (by kernel_rfl) (by kernel_rfl) (by kernel_rfl) (fun _ _ _ h => h) (Or.inl ⟨by rfl, (by intro w hSw; (try dsimp only at hSw); go_simp; try with_reducible rfl)⟩) (HK.out _ hB14) ?_
            try simp only [Act.put, List.setIfInBounds_toArray, List.set_cons_zero, List.set_cons_succ]
            refine take_op (i := 19) (v := _) rfl (by kernel_rfl) (by kernel_rfl) (by kernel_rfl) (fun _ _ _ h => h) (Or.inl ⟨by rfl, (by intro w hSw; (try dsimp only at hSw); go_simp; try with_reducible rfl)⟩) (HK.out _ hB14) ?_
            try simp only [Act.put, List.setIfInBounds_toArray, List.set_cons_zero, List.set_cons_succ]
            refine wpAnyH_done (by kernel_rfl) ?_ _
            go_wp2
            go_ret
            exact ⟨rfl, HBW.out.trans (hB14.mono HBW.out.size)⟩
          · obtain rfl : true = co' := by have := HC0.out; cases co' <;> simp_all
            go_wp2_with fail
            generalize w3 = W at *
            have HX1 := Lib.hid hx1
            have HX2 := Lib.hid hx2
            have HBW := Lib.hid hbW
            have Ka := Lib.hid (kept_arg HR.out hbW)
            have Kb := Lib.hid (kept_arg HR'.out hbW)
            clear hx1 hx2 hbW g1 g2 g3 g4
            have HK : Hid (∀ wq, Below W.heap.size W wq → wq.cell? ⟨w.heap.size, 0, none⟩ = some (.bool true) ∧ wq.cell? ⟨w.heap.size, 1, none⟩ = some (.slice A n c) ∧ wq.cell? ⟨w.heap.size + 1, 0, none⟩ = some (.bool true) ∧ wq.cell? ⟨w.heap.size + 1, 1, none⟩ = some (.slice A' n' c')) := Lib.hid (fun wq h => by
              obtain ⟨a1, a2⟩ := cells_held h (heap_lt HX1.out) HX1.out
              obtain ⟨b1, b2⟩ := cells_held h (heap_lt HX2.out) HX2.out
              exact ⟨a1, a2, b1, b2⟩)
            refine wp_region_held_drew (S := fun wq => wq.cell? ⟨w.heap.size, 0, none⟩ = some (.bool true) ∧ wq.cell? ⟨w.heap.size, 1, none⟩ = some (.slice A n c) ∧ wq.cell? ⟨w.heap.size + 1, 0, none⟩ = some (.bool true) ∧ wq.cell? ⟨w.heap.size + 1, 1, none⟩ = some (.slice A' n' c')) (by kernel_rfl) (HK.out _ (Below.refl _ _).drew) (fun _ => ?_)
            have hB9 : Below W.heap.size W W.drew := (Below.refl _ _).drew
            refine take_op (i := 0) (v := _) rfl (by kernel_rfl) (by kernel_rfl) (by kernel_rfl) (fun _ _ _ h => h) (Or.inl ⟨by rfl, (by intro w hSw; (try dsimp only at hSw); go_simp; try with_reducible rfl)⟩) (HK.out _ hB9) ?_
            try simp only [Act.put, List.setIfInBounds_toArray, List.set_cons_zero, List.set_cons_succ]
            refine take_op (i := 1) (v := _) rfl (by kernel_rfl) (by kernel_rfl) (by kernel_rfl) (fun _ _ _ h => h) (Or.inl ⟨by rfl, (by intro w hSw; (try dsimp only at hSw); go_simp; try with_reducible rfl)⟩) (HK.out _ hB9) ?_
            try simp only [Act.put, List.setIfInBounds_toArray, List.set_cons_zero, List.set_cons_succ]
            refine take_op (i := 2) (v := _) rfl (by kernel_rfl) (by kernel_rfl) (by kernel_rfl) (fun _ _ _ h => h) (Or.inl ⟨by rfl, (by intro w hSw; (try dsimp only at hSw); go_simp; try with_reducible rfl)⟩) (HK.out _ hB9) ?_
            try simp only [Act.put, List.setIfInBounds_toArray, List.set_cons_zero, List.set_cons_succ]
            refine one_op 3 (by kernel_rfl) rfl (by rfl) (fun K hK => ?_)
            go_simp
            refine (subsetNames_as _ _ _ A A' n c n' c' rs rs' _ (Ka.out _ hB9) (Kb.out _ hB9) (by omega) (by omega) HT.out).mono ?_
            rintro e w10 ⟨rfl, hb10⟩
            have hB10 : Below W.heap.size W w10 := step_below hB9 (Nat.le_refl _) hb10
            clear hb10 hB9
            refine hK _ _ (HK.out _ hB10) ?_
            try simp only [Act.put, List.setIfInBounds_toArray, List.set_cons_zero, List.set_cons_succ]
            clear hK K
            refine take_op (i := 4) (v := _) rfl (by kernel_rfl) (by kernel_rfl) (by kernel_rfl) (fun _ _ _ h => h) (Or.inl ⟨by rfl, (by intro w hSw; (try dsimp only at hSw); go_simp; try with_reducible rfl)⟩) (HK.out _ hB10) ?_
            try simp only [Act.put, List.setIfInBounds_toArray, List.set_cons_zero, List.set_cons_succ]
            refine take_op (i := 5) (v := _) rfl (by kernel_rfl) (by kernel_rfl) (by kernel_rfl) (fun _ _ _ h => h) (Or.inl ⟨by rfl, (by intro w hSw; (try dsimp only at hSw); go_simp; try with_reducible rfl)⟩) (HK.out _ hB10) ?_
            try simp only [Act.put, List.setIfInBounds_toArray, List.set_cons_zero, List.set_cons_succ]
            refine take_op (i := 6) (v := _) rfl (by kernel_rfl) (by kernel_rfl) (by kernel_rfl) (fun _ _ _ h => h) (Or.inl ⟨by rfl, (by intro w hSw; (try dsimp only at hSw); go_simp; try with_reducible rfl)⟩) (HK.out _ hB10) ?_
            try simp only [Act.put, List.setIfInBounds_toArray, List.set_cons_zero, List.set_cons_succ]
            refine take_op (i := 7) (v := _) rfl (by kernel_rfl) (by kernel_rfl) (by kernel_rfl) (fun _ _ _ h => h) (Or.inl ⟨by rfl, (by intro w hSw; (try dsimp only at hSw); go_simp; try with_reducible rfl)⟩) (HK.out _ hB10) ?_
            try simp only [Act.put, List.setIfInBounds_toArray, List.set_cons_zero, List.set_cons_succ]
            refine take_op (i := 8) (v := _) rfl (by kernel_rfl) (by kernel_rfl) (by kernel_rfl) (fun _ _ _ h => h) (Or.inl ⟨by rfl, (by intro w hSw; (try dsimp only at hSw); go_simp; try with_reducible rfl)⟩) (HK.out _ hB10) ?_
            try simp only [Act.put, List.setIfInBounds_toArray, List.set_cons_zero, List.set_cons_succ]
            refine take_op (i := 10) (v := _) rfl (by kernel_rfl) (by kernel_rfl) (by kernel_rfl) (fun _ _ _ h => h) (Or.inl ⟨by rfl, (by intro w hSw; (try dsimp only at hSw); go_simp; try with_reducible rfl)⟩) (HK.out _ hB10) ?_
            try simp only [Act.put, List.setIfInBounds_toArray, List.set_cons_zero, List.set_cons_succ]
            refine take_op (i := 11) (v := _) rfl (by kernel_rfl) (by kernel_rfl) (by kernel_rfl) (fun _ _ _ h => h) (Or.inl ⟨by rfl, (by intro w hSw; (try dsimp only at hSw); go_simp; try with_reducible rfl)⟩) (HK.out _ hB10) ?_
            try simp only [Act.put, List.setIfInBounds_toArray, List.set_cons_zero, List.set_cons_succ]
            refine one_op 9 (by kernel_rfl) rfl (by rfl) (fun K hK => ?_)
            go_simp
            refine (union_as _ _ g A A' n c n' c' rs rs' _ (Ka.out _ hB10) (Kb.out _ hB10) (by omega) (by omega) HG.out).mono ?_
            rintro e w11 ⟨m11, A11, c11, rfl, ho11, hs11, hq11, hk11, hb11⟩
            have hB11 : Below W.heap.size W w11 := step_below hB10 (Nat.le_refl _) hb11
            have K11 := kept_set ho11 hs11
            have Q11 := Lib.hid hq11
            have t11_11 : Below w11.heap.size w11 w11 := Below.refl _ _
            clear ho11 hq11
            clear hb11 hB10
            refine hK _ _ (HK.out _ hB11) ?_
            try simp only [Act.put, List.setIfInBounds_toArray, List.set_cons_zero, List.set_cons_succ]
            clear hK K
            refine one_op 12 (by kernel_rfl) rfl (by rfl) (fun K hK => ?_)
            go_simp
            refine (union_as _ _ _ A' A' n' c' n' c' rs' rs' _ (Kb.out _ hB11) (Kb.out _ hB11) (by omega) (by omega) (Bool.or_self _)).mono ?_
            rintro e w12 ⟨m12, A12, c12, rfl, ho12, hs12, hq12, hk12, hb12⟩
            have hB12 : Below W.heap.size W w12 := step_below hB11 (Nat.le_refl _) hb12
            have t11_12 := step_on t11_11 hb12
            have K12 := kept_set ho12 hs12
            have Q12 := Lib.hid hq12
            have t12_12 : Below w12.heap.size w12 w12 := Below.refl _ _
            clear ho12 hq12
            clear hb12 hB11 t11_11
            refine hK _ _ (HK.out _ hB12) ?_
            try simp only [Act.put, List.setIfInBounds_toArray, List.set_cons_zero, List.set_cons_succ]
            clear hK K
            refine one_op 13 (by kernel_rfl) rfl (by rfl) (fun K hK => ?_)
            go_simp
            refine (same_as g _ A11 A12 m11.length m12.length c11 c12 m11 m12 _ _ (K11 _ t11_12) (K12 _ t12_12) (by omega) (by omega) (same_sub HT.out HG.out Q11.out Q12.out)).mono ?_
            rintro e w13 ⟨rfl, hb13⟩
            have hB13 : Below W.heap.size W w13 := step_below hB12 (Nat.le_refl _) hb13
            have t11_13 := step_on t11_12 hb13
            have t12_13 := step_on t12_12 hb13
            clear hb13 hB12 t11_12 t12_12
            refine hK _ _ (HK.out _ hB13) ?_
            try simp only [Act.put, List.setIfInBounds_toArray, List.set_cons_zero, List.set_cons_succ]
            clear hK K
            refine take_op (i := 14) (v := _) rfl (by kernel_rfl) (by kernel_rfl) (by kernel_rfl) (fun _ _ _ h => h) (Or.inl ⟨by rfl, (by intro w hSw; (try dsimp only at hSw); go_simp; try with_reducible rfl)⟩) (HK.out _ hB13) ?_
            try simp only [Act.put, List.setIfInBounds_toArray, List.set_cons_zero, List.set_cons_succ]
            refine take_op (i := 15) (v := _) rfl (by kernel_rfl) (by kernel_rfl) (by kernel_rfl) (fun _ _ _ h => h) (Or.inl ⟨by rfl, (by intro w hSw; (try dsimp only at hSw); go_simp; try with_reducible rfl)⟩) (HK.out _ hB13) ?_
            try simp only [Act.put, List.setIfInBounds_toArray, List.set_cons_zero, List.set_cons_succ]
            refine take_op (i := 16) (v := _) rfl (by kernel_rfl) (by kernel_rfl) (by kernel_rfl) (fun _ _ _ h => h) (Or.inl ⟨by rfl, (by intro w hSw; (try dsimp only at hSw); go_simp; try with_reducible rfl)⟩) (HK.out _ hB13) ?_
            try simp only [Act.put, List.setIfInBounds_toArray, List.set_cons_zero, List.set_cons_succ]
            refine one_op 17 (by kernel_rfl) rfl (by rfl) (fun K hK => ?_)
            go_simp
            refine (awake_any _).mono ?_
            rintro e w14 ⟨rfl, hb14⟩
            have hB14 : Below W.heap.size W w14 := step_below hB13 (Nat.le_refl _) hb14
            have t11_14 := step_on t11_13 hb14
            have t12_14 := step_on t12_13 hb14
            clear hb14 hB13 t11_13 t12_13
            refine hK _ _ (HK.out _ hB14) ?_
            try simp only [Act.put, List.setIfInBounds_toArray, List.set_cons_zero, List.set_cons_succ]
            clear hK K
            refine take_op (i := 18) (v := _) rfl (by kernel_rfl) (by kernel_rfl) (by kernel_rfl) (fun _ _ _ h => h) (Or.inl ⟨by rfl, (by intro w hSw; (try dsimp only at hSw); go_simp; try with_reducible rfl)⟩) (HK.out _ hB14) ?_
            try simp only [Act.put, List.setIfInBounds_toArray, List.set_cons_zero, List.set_cons_succ]
            refine take_op (i := 19) (v := _) rfl (by kernel_rfl) (by kernel_rfl) (by kernel_rfl) (fun _ _ _ h => h) (Or.inl ⟨by rfl, (by intro w hSw; (try dsimp only at hSw); go_simp; try with_reducible rfl)⟩) (HK.out _ hB14) ?_
            try simp only [Act.put, List.setIfInBounds_toArray, List.set_cons_zero, List.set_cons_succ]
            refine wpAnyH_done (by kernel_rfl) ?_ _
            go_wp2
            go_ret
            exact ⟨rfl, HBW.out.trans (hB14.mono HBW.out.size)⟩
        · have HD := Lib.hid hd
          have HD' := Lib.hid (hxs hd)
          clear hd hxs
          have hcc := contains_as _ A n c rs s true _ (HR.out.on hbW) (by omega) HD.out
          go_wp2_with (go_at_call 13; refine hcc.mono ?_; rintro e w3 ⟨rfl, hbc⟩; refine Hid.out ?_)
          refine Lib.hid ?_
          replace hx1 := (hbc.block _ (heap_lt hx1)).trans hx1
          replace hx2 := (hbc.block _ (heap_lt hx2)).trans hx2
          replace hbW := hbW.trans (hbc.mono hbW.size)
          have g1 := cell0 hx1
          have g2 := cell1 hx1
          have g3 := cell0 hx2
          have g4 := cell1 hx2
          clear hbc hcc
          have hcc := contains_as _ A' n' c' rs' s true _ (HR'.out.on hbW) (by omega) HD'.out
          go_wp2_with (go_at_call 13; refine hcc.mono ?_; rintro e w4 ⟨rfl, hbc⟩; refine Hid.out ?_)
          refine Lib.hid ?_
          replace hx1 := (hbc.block _ (heap_lt hx1)).trans hx1
          replace hx2 := (hbc.block _ (heap_lt hx2)).trans hx2
          replace hbW := hbW.trans (hbc.mono hbW.size)
          have g1 := cell0 hx1
          have g2 := cell1 hx1
          have g3 := cell0 hx2
          have g4 := cell1 hx2
          clear hbc hcc
          cases co
          · go_wp2_with fail
            generalize w4 = W at *
            have HX1 := Lib.hid hx1
            have HX2 := Lib.hid hx2
            have HBW := Lib.hid hbW
            have Ka := Lib.hid (kept_arg HR.out hbW)
            have Kb := Lib.hid (kept_arg HR'.out hbW)
            clear hx1 hx2 hbW g1 g2 g3 g4
            have HK : Hid (∀ wq, Below W.heap.size W wq → wq.cell? ⟨w.heap.size, 0, none⟩ = some (.bool false) ∧ wq.cell? ⟨w.heap.size, 1, none⟩ = some (.slice A n c) ∧ wq.cell? ⟨w.heap.size + 1, 0, none⟩ = some (.bool co') ∧ wq.cell? ⟨w.heap.size + 1, 1, none⟩ = some (.slice A' n' c')) := Lib.hid (fun wq h => by
              obtain ⟨a1, a2⟩ := cells_held h (heap_lt HX1.out) HX1.out
              obtain ⟨b1, b2⟩ := cells_held h (heap_lt HX2.out) HX2.out
              exact ⟨a1, a2, b1, b2⟩)
            refine wp_region_held_drew (S := fun wq => wq.cell? ⟨w.heap.size, 0, none⟩ = some (.bool false) ∧ wq.cell? ⟨w.heap.size, 1, none⟩ = some (.slice A n c) ∧ wq.cell? ⟨w.heap.size + 1, 0, none⟩ = some (.bool co') ∧ wq.cell? ⟨w.heap.size + 1, 1, none⟩ = some (.slice A' n' c')) (by kernel_rfl) (HK.out _ (Below.refl _ _).drew) (fun _ => ?_)
            have hB9 : Below W.heap.size W W.drew := (Below.refl _ _).drew
            refine take_op (i := 0) (v := _) rfl (by kernel_rfl) (by kernel_rfl) (by kernel_rfl) (fun _ _ _ h => h) (Or.inl ⟨by rfl, (by intro w hSw; (try dsimp only at hSw); go_simp; try with_reducible rfl)⟩) (HK.out _ hB9) ?_
            try simp only [Act.put, List.setIfInBounds_toArray, List.set_cons_zero, List.set_cons_succ]
            refine take_op (i := 1) (v := _) rfl (by kernel_rfl) (by kernel_rfl) (by kernel_rfl) (fun _ _ _ h => h) (Or.inl ⟨by rfl, (by intro w hSw; (try dsimp only at hSw); go_simp; try with_reducible rfl)⟩) (HK.out _ hB9) ?_
            try simp only [Act.put, List.setIfInBounds_toArray, List.set_cons_zero, List.set_cons_succ]
            refine take_op (i := 2) (v := _) rfl (by kernel_rfl) (by kernel_rfl) (by kernel_rfl) (fun _ _ _ h => h) (Or.inl ⟨by rfl, (by intro w hSw; (try dsimp only at hSw); go_simp; try with_reducible rfl)⟩) (HK.out _ hB9) ?_
            try simp only [Act.put, List.setIfInBounds_toArray, List.set_cons_zero, List.set_cons_succ]
            refine one_op 3 (by kernel_rfl) rfl (by rfl) (fun K hK => ?_)
            go_simp
            refine (subsetNames_as _ _ _ A A' n c n' c' rs rs' _ (Ka.out _ hB9) (Kb.out _ hB9) (by omega) (by omega) HT.out).mono ?_
            rintro e w10 ⟨rfl, hb10⟩
            have hB10 : Below W.heap.size W w10 := step_below hB9 (Nat.le_refl _) hb10
            clear hb10 hB9
            refine hK _ _ (HK.out _ hB10) ?_
            try simp only [Act.put, List.setIfInBounds_toArray, List.set_cons_zero, List.set_cons_succ]
            clear hK K
            refine take_op (i := 4) (v := _) rfl (by kernel_rfl) (by kernel_rfl) (by kernel_rfl) (fun _ _ _ h => h) (Or.inl ⟨by rfl, (by intro w hSw; (try dsimp only at hSw); go_simp; try with_reducible rfl)⟩) (HK.out _ hB10) ?_
            try simp only [Act.put, List.setIfInBounds_toArray, List.set_cons_zero, List.set_cons_succ]
            refine take_op (i := 5) (v := _) rfl (by kernel_rfl) (by kernel_rfl) (by kernel_rfl) (fun _ _ _ h => h) (Or.inl ⟨by rfl, (by intro w hSw; (try dsimp only at hSw); go_simp; try with_reducible rfl)⟩) (HK.out _ hB10) ?_
            try simp only [Act.put, List.setIfInBounds_toArray, List.set_cons_zero, List.set_cons_succ]
            refine take_op (i := 6) (v := _) rfl (by kernel_rfl) (by kernel_rfl) (by kernel_rfl) (fun _ _ _ h => h) (Or.inl ⟨by rfl, (by intro w hSw; (try dsimp only at hSw); go_simp; try with_reducible rfl)⟩) (HK.out _ hB10) ?_
            try simp only [Act.put, List.setIfInBounds_toArray, List.set_cons_zero, List.set_cons_succ]
            refine take_op (i := 7) (v := _) rfl (by kernel_rfl) (by kernel_rfl) (by kernel_rfl) (fun _ _ _ h => h) (Or.inl ⟨by rfl, (by intro w hSw; (try dsimp only at hSw); go_simp; try with_reducible rfl)⟩) (HK.out _ hB10) ?_
            try simp only [Act.put, List.setIfInBounds_toArray, List.set_cons_zero, List.set_cons_succ]
            refine take_op (i := 8) (v := _) rfl (by kernel_rfl) (by kernel_rfl) (by kernel_rfl) (fun _ _ _ h => h) (Or.inl ⟨by rfl, (by intro w hSw; (try dsimp only at hSw); go_simp; try with_reducible rfl)⟩) (HK.out _ hB10) ?_
            try simp only [Act.put, List.setIfInBounds_toArray, List.set_cons_zero, List.set_cons_succ]
            refine take_op (i := 10) (v := _) rfl (by kernel_rfl) (by kernel_rfl) (by kernel_rfl) (fun _ _ _ h => h) (Or.inl ⟨by rfl, (by intro w hSw; (try dsimp only at hSw); go_simp; try with_reducible rfl)⟩) (HK.out _ hB10) ?_
            try simp only [Act.put, List.setIfInBounds_toArray, List.set_cons_zero, List.set_cons_succ]
            refine take_op (i := 11) (v := _) rfl (by kernel_rfl) (by kernel_rfl) (by kernel_rfl) (fun _ _ _ h => h) (Or.inl ⟨by rfl, (by intro w hSw; (try dsimp only at hSw); go_simp; try with_reducible rfl)⟩) (HK.out _ hB10) ?_
            try simp only [Act.put, List.setIfInBounds_toArray, List.set_cons_zero, List.set_cons_succ]
            refine one_op 9 (by kernel_rfl) rfl (by rfl) (fun K hK => ?_)
            go_simp
            refine (union_as _ _ g A A' n c n' c' rs rs' _ (Ka.out _ hB10) (Kb.out _ hB10) (by omega) (by omega) HG.out).mono ?_
            rintro e w11 ⟨m11, A11, c11, rfl, ho11, hs11, hq11, hk11, hb11⟩
            have hB11 : Below W.heap.size W w11 := step_below hB10 (Nat.le_refl _) hb11
            have K11 := kept_set ho11 hs11
            have Q11 := Lib.hid hq11
            have t11_11 : Below w11.heap.size w11 w11 := Below.refl _ _
            clear ho11 hq11
            clear hb11 hB10
            refine hK _ _ (HK.out _ hB11) ?_
            try simp only [Act.put, List.setIfInBounds_toArray, List.set_cons_zero, List.set_cons_succ]
            clear hK K
            refine one_op 12 (by kernel_rfl) rfl (by rfl) (fun K hK => ?_)
            go_simp
            refine (union_as _ _ _ A' A' n' c' n' c' rs' rs' _ (Kb.out _ hB11) (Kb.out _ hB11) (by omega) (by omega) (Bool.or_self _)).mono ?_
            rintro e w12 ⟨m12, A12, c12, rfl, ho12, hs12, hq12, hk12, hb12⟩
            have hB12 : Below W.heap.size W w12 := step_below hB11 (Nat.le_refl _) hb12
            have t11_12 := step_on t11_11 hb12
            have K12 := kept_set ho12 hs12
            have Q12 := Lib.hid hq12
            have t12_12 : Below w12.heap.size w12 w12 := Below.refl _ _
            clear ho12 hq12
            clear hb12 hB11 t11_11
            refine hK _ _ (HK.out _ hB12) ?_
            try simp only [Act.put, List.setIfInBounds_toArray, List.set_cons_zero, List.set_cons_succ]
            clear hK K
            refine one_op 13 (by kernel_rfl) rfl (by rfl) (fun K hK => ?_)
            go_simp
            refine (same_as g _ A11 A12 m11.length m12.length c11 c12 m11 m12 _ _ (K11 _ t11_12) (K12 _ t12_12) (by omega) (by omega) (same_sub HT.out HG.out Q11.out Q12.out)).mono ?_
            rintro e w13 ⟨rfl, hb13⟩
            have hB13 : Below W.heap.size W w13 := step_below hB12 (Nat.le_refl _) hb13
            have t11_13 := step_on t11_12 hb13
            have t12_13 := step_on t12_12 hb13
            clear hb13 hB12 t11_12 t12_12
            refine hK _ _ (HK.out _ hB13) ?_
            try simp only [Act.put, List.setIfInBounds_toArray, List.set_cons_zero, List.set_cons_succ]
            clear hK K
            refine take_op (i := 14) (v := _) rfl (by kernel_rfl) (by kernel_rfl) (by kernel_rfl) (fun _ _ _ h => h) (Or.inl ⟨by rfl, (by intro w hSw; (try dsimp only at hSw); go_simp; try with_reducible rfl)⟩) (HK.out _ hB13) ?_
            try simp only [Act.put, List.setIfInBounds_toArray, List.set_cons_zero, List.set_cons_succ]
            refine take_op (i := 15) (v := _) rfl (by kernel_rfl) (by kernel_rfl) (by kernel_rfl) (fun _ _ _ h => h) (Or.inl ⟨by rfl, (by intro w hSw; (try dsimp only at hSw); go_simp; try with_reducible rfl)⟩) (HK.out _ hB13) ?_
            try simp only [Act.put, List.setIfInBounds_toArray, List.set_cons_zero, List.set_cons_succ]
            refine take_op (i := 16) (v := _) rfl (by kernel_rfl) (by kernel_rfl) (by kernel_rfl) (fun _ _ _ h => h) (Or.inl ⟨by rfl, (by intro w hSw; (try dsimp only at hSw); go_simp; try with_reducible rfl)⟩) (HK.out _ hB13) ?_
            try simp only [Act.put, List.setIfInBounds_toArray, List.set_cons_zero, List.set_cons_succ]
            refine one_op 17 (by kernel_rfl) rfl (by rfl) (fun K hK => ?_)
            go_simp
            refine (awake_any _).mono ?_
            rintro e w14 ⟨rfl, hb14⟩
            have hB14 : Below W.heap.size W w14 := step_below hB13 (Nat.le_refl _) hb14
            have t11_14 := step_on t11_13 hb14
            have t12_14 := step_on t12_13 hb14
            clear hb14 hB13 t11_13 t12_13
            refine hK _ _ (HK.out _ hB14) ?_
            try simp only [Act.put, List.setIfInBounds_toArray, List.set_cons_zero, List.set_cons_succ]
            clear hK K
            refine take_op (i := 18) (v := _) rfl (by kernel_rfl) (by kernel_rfl) (by kernel_rfl) (fun _ _ _ h => h) (Or.inl ⟨by rfl, (by intro w hSw; (try dsimp only at hSw); go_simp; try with_reducible rfl)⟩) (HK.out _ hB14) ?_
            try simp only [Act.put, List.setIfInBounds_toArray, List.set_cons_zero, List.set_cons_succ]
            refine take_op (i := 19) (v := _) rfl (by kernel_rfl) (by kernel_rfl) (by kernel_rfl) (fun _ _ _ h => h) (Or.inl ⟨by rfl, (by intro w hSw; (try dsimp only at hSw); go_simp; try with_reducible rfl)⟩) (HK.out _ hB14) ?_
            try simp only [Act.put, List.setIfInBounds_toArray, List.set_cons_zero, List.set_cons_succ]
            refine wpAnyH_done (by kernel_rfl) ?_ _
            go_wp2
            go_ret
            exact ⟨rfl, HBW.out.trans (hB14.mono HBW.out.size)⟩
          · obtain rfl : true = co' := by have := HC0.out; cases co' <;> simp_all
            go_wp2_with fail
            generalize w4 = W at *
            have HX1 := Lib.hid hx1
            have HX2 := Lib.hid hx2
            have HBW := Lib.hid hbW
            have Ka := Lib.hid (kept_arg HR.out hbW)
            have Kb := Lib.hid (kept_arg HR'.out hbW)
            clear hx1 hx2 hbW g1 g2 g3 g4
            have HK : Hid (∀ wq, Below W.heap.size W wq → wq.cell? ⟨w.heap.size, 0, none⟩ = some (.bool true) ∧ wq.cell? ⟨w.heap.size, 1, none⟩ = some (.slice A n c) ∧ wq.cell? ⟨w.heap.size + 1, 0, none⟩ = some (.bool true) ∧ wq.cell? ⟨w.heap.size + 1, 1, none⟩ = some (.slice A' n' c')) := Lib.hid (fun wq h => by
              obtain ⟨a1, a2⟩ := cells_held h (heap_lt HX1.out) HX1.out
              obtain ⟨b1, b2⟩ := cells_held h (heap_lt HX2.out) HX2.out
              exact ⟨a1, a2, b1, b2⟩)
            refine wp_region_held_drew (S := fun wq => wq.cell? ⟨w.heap.size, 0, none⟩ = some (.bool true) ∧ wq.cell? ⟨w.heap.size, 1, none⟩ = some (.slice A n c) ∧ wq.cell? ⟨w.heap.size + 1, 0, none⟩ = some (.bool true) ∧ wq.cell? ⟨w.heap.size + 1, 1, none⟩ = some (.slice A' n' c')) (by kernel_rfl) (HK.out _ (Below.refl _ _).drew) (fun _ => ?_)
            have hB9 : Below W.heap.size W W.drew := (Below.refl _ _).drew
            refine take_op (i := 0) (v := _) rfl (by kernel_rfl) (by kernel_rfl) (by kernel_rfl) (fun _ _ _ h => h) (Or.inl ⟨by rfl, (by intro w hSw; (try dsimp only at hSw); go_simp; try with_reducible rfl)⟩) (HK.out _ hB9) ?_
            try simp only [Act.put, List.setIfInBounds_toArray, List.set_cons_zero, List.set_cons_succ]
            refine take_op (i := 1) (v := _) rfl (by kernel_rfl) (by kernel_rfl) (by kernel_rfl) (fun _ _ _ h => h) (Or.inl ⟨by rfl, (by intro w hSw; (try dsimp only at hSw); go_simp; try with_reducible rfl)⟩) (HK.out _ hB9) ?_
            try simp only [Act.put, List.setIfInBounds_toArray, List.set_cons_zero, List.set_cons_succ]
            refine take_op (i := 2) (v := _) rfl (by kernel_rfl) (by kernel_rfl) (by kernel_rfl) (fun _ _ _ h => h) (Or.inl ⟨by rfl, (by intro w hSw; (try dsimp only at hSw); go_simp; try with_reducible rfl)⟩) (HK.out _ hB9) ?_
            try simp only [Act.put, List.setIfInBounds_toArray, List.set_cons_zero, List.set_cons_succ]
            refine one_op 3 (by kernel_rfl) rfl (by rfl) (fun K hK => ?_)
            go_simp
            refine (subsetNames_as _ _ _ A A' n c n' c' rs rs' _ (Ka.out _ hB9) (Kb.out _ hB9) (by omega) (by omega) HT.out).mono ?_
            rintro e w10 ⟨rfl, hb10⟩
            have hB10 : Below W.heap.size W w10 := step_below hB9 (Nat.le_refl _) hb10
            clear hb10 hB9
            refine hK _ _ (HK.out _ hB10) ?_
            try simp only [Act.put, List.setIfInBounds_toArray, List.set_cons_zero, List.set_cons_succ]
            clear hK K
            refine take_op (i := 4) (v := _) rfl (by kernel_rfl) (by kernel_rfl) (by kernel_rfl) (fun _ _ _ h => h) (Or.inl ⟨by rfl, (by intro w hSw; (try dsimp only at hSw); go_simp; try with_reducible rfl)⟩) (HK.out _ hB10) ?_
            try simp only [Act.put, List.setIfInBounds_toArray, List.set_cons_zero, List.set_cons_succ]
            refine take_op (i := 5) (v := _) rfl (by kernel_rfl) (by kernel_rfl) (by kernel_rfl) (fun _ _ _ h => h) (Or.inl ⟨by rfl, (by intro w hSw; (try dsimp only at hSw); go_simp; try with_reducible rfl)⟩) (HK.out _ hB10) ?_
            try simp only [Act.put, List.setIfInBounds_toArray, List.set_cons_zero, List.set_cons_succ]
            refine take_op (i := 6) (v := _) rfl (by kernel_rfl) (by kernel_rfl) (by kernel_rfl) (fun _ _ _ h => h) (Or.inl ⟨by rfl, (by intro w hSw; (try dsimp only at hSw); go_simp; try with_reducible rfl)⟩) (HK.out _ hB10) ?_
            try simp only [Act.put, List.setIfInBounds_toArray, List.set_cons_zero, List.set_cons_succ]
            refine take_op (i := 7) (v := _) rfl (by kernel_rfl) (by kernel_rfl) (by kernel_rfl) (fun _ _ _ h => h) (Or.inl ⟨by rfl, (by intro w hSw; (try dsimp only at hSw); go_simp; try with_reducible rfl)⟩) (HK.out _ hB10) ?_
            try simp only [Act.put, List.setIfInBounds_toArray, List.set_cons_zero, List.set_cons_succ]
            refine take_op (i := 8) (v := _) rfl (by kernel_rfl) (by kernel_rfl) (by kernel_rfl) (fun _ _ _ h => h) (Or.inl ⟨by rfl, (by intro w hSw; (try dsimp only at hSw); go_simp; try with_reducible rfl)⟩) (HK.out _ hB10) ?_
            try simp only [Act.put, List.setIfInBounds_toArray, List.set_cons_zero, List.set_cons_succ]
            refine take_op (i := 10) (v := _) rfl (by kernel_rfl) (by kernel_rfl) (by kernel_rfl) (fun _ _ _ h => h) (Or.inl ⟨by rfl, (by intro w hSw; (try dsimp only at hSw); go_simp; try with_reducible rfl)⟩) (HK.out _ hB10) ?_
            try simp only [Act.put, List.setIfInBounds_toArray, List.set_cons_zero, List.set_cons_succ]
            refine take_op (i := 11) (v := _) rfl (by kernel_rfl) (by kernel_rfl) (by kernel_rfl) (fun _ _ _ h => h) (Or.inl ⟨by rfl, (by intro w hSw; (try dsimp only at hSw); go_simp; try with_reducible rfl)⟩) (HK.out _ hB10) ?_
            try simp only [Act.put, List.setIfInBounds_toArray, List.set_cons_zero, List.set_cons_succ]
            refine one_op 9 (by kernel_rfl) rfl (by rfl) (fun K hK => ?_)
            go_simp
            refine (union_as _ _ g A A' n c n' c' rs rs' _ (Ka.out _ hB10) (Kb.out _ hB10) (by omega) (by omega) HG.out).mono ?_
            rintro e w11 ⟨m11, A11, c11, rfl, ho11, hs11, hq11, hk11, hb11⟩
            have hB11 : Below W.heap.size W w11 := step_below hB10 (Nat.le_refl _) hb11
            have K11 := kept_set ho11 hs11
            have Q11 := Lib.hid hq11
            have t11_11 : Below w11.heap.size w11 w11 := Below.refl _ _
            clear ho11 hq11
            clear hb11 hB10
            refine hK _ _ (HK.out _ hB11) ?_
            try simp only [Act.put, List.setIfInBounds_toArray, List.set_cons_zero, List.set_cons_succ]
            clear hK K
            refine one_op 12 (by kernel_rfl) rfl (by rfl) (fun K hK => ?_)
            go_simp
            refine (union_as _ _ _ A' A' n' c' n' c' rs' rs' _ (Kb.out _ hB11) (Kb.out _ hB11) (by omega) (by omega) (Bool.or_self _)).mono ?_
            rintro e w12 ⟨m12, A12, c12, rfl, ho12, hs12, hq12, hk12, hb12⟩
            have hB12 : Below W.heap.size W w12 := step_below hB11 (Nat.le_refl _) hb12
            have t11_12 := step_on t11_11 hb12
            have K12 := kept_set ho12 hs12
            have Q12 := Lib.hid hq12
            have t12_12 : Below w12.heap.size w12 w12 := Below.refl _ _
            clear ho12 hq12
            clear hb12 hB11 t11_11
            refine hK _ _ (HK.out _ hB12) ?_
            try simp only [Act.put, List.setIfInBounds_toArray, List.set_cons_zero, List.set_cons_succ]
            clear hK K
            refine one_op 13 (by kernel_rfl) rfl (by rfl) (fun K hK => ?_)
            go_simp
            refine (same_as g _ A11 A12 m11.length m12.length c11 c12 m11 m12 _ _ (K11 _ t11_12) (K12 _ t12_12) (by omega) (by omega) (same_sub HT.out HG.out Q11.out Q12.out)).mono ?_
            rintro e w13 ⟨rfl, hb13⟩
            have hB13 : Below W.heap.size W w13 := step_below hB12 (Nat.le_refl _) hb13
            have t11_13 := step_on t11_12 hb13
            have t12_13 := step_on t12_12 hb13
            clear hb13 hB12 t11_12 t12_12
            refine hK _ _ (HK.out _ hB13) ?_
            try simp only [Act.put, List.setIfInBounds_toArray, List.set_cons_zero, List.set_cons_succ]
            clear hK K
            refine take_op (i := 14) (v := _) rfl (by kernel_rfl) (by kernel_rfl) (by kernel_rfl) (fun _ _ _ h => h) (Or.inl ⟨by rfl, (by intro w hSw; (try dsimp only at hSw); go_simp; try with_reducible rfl)⟩) (HK.out _ hB13) ?_
            try simp only [Act.put, List.setIfInBounds_toArray, List.set_cons_zero, List.set_cons_succ]
            refine take_op (i := 15) (v := _) rfl (by kernel_rfl) (by kernel_rfl) (by kernel_rfl) (fun _ _ _ h => h) (Or.inl ⟨by rfl, (by intro w hSw; (try dsimp only at hSw); go_simp; try with_reducible rfl)⟩) (HK.out _ hB13) ?_
            try simp only [Act.put, List.setIfInBounds_toArray, List.set_cons_zero, List.set_cons_succ]
            refine take_op (i := 16) (v := _) rfl (by kernel_rfl) (by kernel_rfl) (by kernel_rfl) (fun _ _ _ h => h) (Or.inl ⟨by rfl, (by intro w hSw; (try dsimp only at hSw); go_simp; try with_reducible rfl)⟩) (HK.out _ hB13) ?_
            try simp only [Act.put, List.setIfInBounds_toArray, List.set_cons_zero, List.set_cons_succ]
            refine one_op 17 (by kernel_rfl) rfl (by rfl) (fun K hK => ?_)
            go_simp
            refine (awake_any _).mono ?_
            rintro e w14 ⟨rfl, hb14⟩
            have hB14 : Below W.heap.size W w14 := step_below hB13 (Nat.le_refl _) hb14
            have t11_14 := step_on t11_13 hb14
            have t12_14 := step_on t12_13 hb14
            clear hb14 hB13 t11_13 t12_13
            refine hK _ _ (HK.out _ hB14) ?_
            try simp only [Act.put, List.setIfInBounds_toArray, List.set_cons_zero, List.set_cons_succ]
            clear hK K
            refine take_op (i := 18) (v := _) rfl (by kernel_rfl) (by kernel_rfl) (by kernel_rfl) (fun _ _ _ h => h) (Or.inl ⟨by rfl, (by intro w hSw; (try dsimp only at hSw); go_simp; try with_reducible rfl)⟩) (HK.out _ hB14) ?_
            try simp only [Act.put, List.setIfInBounds_toArray, List.set_cons_zero, List.set_cons_succ]
            refine take_op (i := 19) (v := _) rfl (by kernel_rfl) (by kernel_rfl) (by kernel_rfl) (fun _ _ _ h => h) (Or.inl ⟨by rfl, (by intro w hSw; (try dsimp only at hSw); go_simp; try with_reducible rfl)⟩) (HK.out _ hB14) ?_
            try simp only [Act.put, List.setIfInBounds_toArray, List.set_cons_zero, List.set_cons_succ]
            refine wpAnyH_done (by kernel_rfl) ?_ _
            go_wp2
            go_ret
            exact ⟨rfl, HBW.out.trans (hB14.mono HBW.out.size)⟩
    · rw [decide_eq_true hn1, decide_eq_false hn2, Bool.and_false] at hs
      go_enter Try.func5, Try.ntmps5
      go_wp2_with (go_at_call 8; refine hs.mono ?_; rintro e w1 ⟨rfl, rfl⟩; refine Hid.out ?_)
      refine Lib.hid ?_
      go_wp2_with (go_at_call 9; refine (awake_any _).mono ?_; rintro e w2 ⟨rfl, hb2⟩; refine Hid.out ?_)
      refine Lib.hid ?_
      go_wp2
      go_ret
      exact ⟨rfl, hb1.trans (hb2.mono hb1.size)⟩
  · rw [decide_eq_false hn1, Bool.false_and] at hs
    go_enter Try.func5, Try.ntmps5
    go_wp2_with (go_at_call 8; refine hs.mono ?_; rintro e w1 ⟨rfl, rfl⟩; refine Hid.out ?_)
    refine Lib.hid ?_
    go_wp2_with (go_at_call 9; refine (awake_any _).mono ?_; rintro e w2 ⟨rfl, hb2⟩; refine Hid.out ?_)
    refine Lib.hid ?_
    go_wp2
    go_ret
    exact ⟨rfl, hb1.trans (hb2.mono hb1.size)⟩
end Go.Proofs.Ytkmfpkdcedfgfaa
