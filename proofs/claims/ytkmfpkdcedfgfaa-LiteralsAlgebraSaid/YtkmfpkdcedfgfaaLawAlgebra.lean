/- The walk of the law LiteralsAlgebra: it returns true. -/
import Derived.Test.YtkmfpkdcedfgfaaLawKit
namespace Go.Proofs.Ytkmfpkdcedfgfaa
open Go.RowKit Go.Sort
theorem makeNames_as (co : Bool) (A : Option Addr) (n c : Nat) (ss : List Strg) (w : World) (hR : NmS w w.heap.size A n ss) (hn : n ≤ 1000000) :
    Calls Try.prog 24 #[.bool co, .slice A n c] w (RetN co (inN co ss) n w) := makeNames_any co A n c ss w hR hn
set_option maxRecDepth 100000 in
set_option maxHeartbeats 6400000 in
theorem literalsAlgebra_any (A : Option Addr) (n c : Nat) (ls : List Strg) (A' : Option Addr) (n' c' : Nat) (ls' : List Strg) (x y : Bool) (w : World) (hR : NmS w w.heap.size A n ls) (hR' : NmS w w.heap.size A' n' ls') :
    Calls Try.prog 6 #[.slice A n c, .slice A' n' c', .bool x, .bool y] w fun e w' => e = .returned (.bool true) ∧ Below w.heap.size w w' := by
  have HR := Lib.hid hR
  have HR' := Lib.hid hR'
  by_cases hn : n ≤ 30
  · have qn : ¬ (30 : Int) < (n : Int) := by omega
    by_cases hn2 : n' ≤ 30
    · have qn2 : ¬ (30 : Int) < (n' : Int) := by omega
      obtain ⟨nx, hnx⟩ : ∃ nx, (!x) = nx := ⟨_, rfl⟩
      obtain ⟨ny, hny⟩ : ∃ ny, (!y) = ny := ⟨_, rfl⟩
      obtain ⟨g, hg⟩ : ∃ g, (x || y) = g := ⟨_, rfl⟩
      obtain ⟨ng, hng⟩ : ∃ ng, (!g) = ng := ⟨_, rfl⟩
      have HNX := Lib.hid hnx
      have HNY := Lib.hid hny
      have HG := Lib.hid hng
      have HXY := Lib.hid hg
      have HNG : Hid ((nx && ny) = ng) := Lib.hid (by rw [← hnx, ← hny, ← hng, ← hg, Bool.not_or])
      have hma := makeNames_as x A n c ls w hR (by omega)
      clear hnx hny hg hng hR hR'
      go_enter Try.func6, Try.ntmps6
      go_wp2_with (go_at_call 24; refine hma.mono ?_; rintro e w1 ⟨m1, A1, c1, rfl, ho1, hs1, hq1, hk1, hb1⟩; refine Hid.out ?_)
      refine Lib.hid ?_
      have HB1 := Lib.hid hb1
      have hmb := makeNames_as y A' n' c' ls' w1 (HR'.out.on hb1) (by omega)
      have HK1 := Lib.hid (kept_set ho1 hs1)
      have Qa := Lib.hid hq1
      clear hma hb1 ho1 hq1
      go_wp2_with (go_at_call 24; refine hmb.mono ?_; rintro e w2 ⟨m2, A2, c2, rfl, ho2, hs2, hq2, hk2, hb2⟩; refine Hid.out ?_)
      refine Lib.hid ?_
      have HB2 := Lib.hid (HB1.out.trans (hb2.mono HB1.out.size))
      have HB12 := Lib.hid hb2
      have HK2 := Lib.hid (kept_set ho2 hs2)
      have Qb := Lib.hid hq2
      obtain ⟨hy1, hy2, hyz, hyb⟩ := boxes2 w2 (.cells #[.bool x, .slice A1 m1.length c1] 24 (0, 0)) (.cells #[.bool y, .slice A2 m2.length c2] 24 (0, 0))
      clear hmb hb2 ho2 hq2
      have hun := union_as x y g A1 A2 m1.length c1 m2.length c2 m1 m2 _ (HK1.out _ (HB12.out.trans (hyb.mono HB12.out.size))) (HK2.out _ hyb) (by omega) (by omega) HXY.out
      go_wp2_with (go_at_call 15; refine hun.mono ?_; rintro e w3 ⟨m3, A3, c3, rfl, ho3, hs3, hq3, hk3, hb3⟩; refine Hid.out ?_)
      refine Lib.hid ?_
      have Qu := Lib.hid hq3
      have hco := complement_as g ng A3 m3.length c3 m3 w3 (ho3.rng hs3) (by omega) HG.out
      have HY1 := Lib.hid ((hb3.block _ (by omega)).trans hy1)
      have HY2 := Lib.hid ((hb3.block _ (by omega)).trans hy2)
      have HB23 := Lib.hid (hyb.trans (hb3.mono hyb.size))
      have hl1 := heap_lt HY1.out
      have hl2 := heap_lt HY2.out
      clear hun hb3 ho3 hq3 hy1 hy2 hyz hyb
      go_wp2_with (go_at_call 17; refine hco.mono ?_; rintro e w4 ⟨m4, A4, c4, rfl, ho4, hs4, hq4, hk4, hb4⟩; refine Hid.out ?_)
      refine Lib.hid ?_
      have Ql := Lib.hid hq4
      have HK4 := Lib.hid (kept_set ho4 hs4)
      have HZ1 := Lib.hid ((hb4.block _ hl1).trans HY1.out)
      have HZ2 := Lib.hid ((hb4.block _ hl2).trans HY2.out)
      have HB24 := Lib.hid (HB23.out.trans (hb4.mono HB23.out.size))
      have hl1' := heap_lt HZ1.out
      have hl2' := heap_lt HZ2.out
      clear hco hb4 ho4 hq4
      go_wp2_with fail
      obtain ⟨W, hW⟩ : ∃ W, W = w4.alloc (.cells #[.bool ng, .slice A4 m4.length c4] 24) := ⟨_, rfl⟩
      have hbl : Below w4.heap.size w4 W := by rw [hW]; exact (Below.refl _ _).alloc (Nat.le_refl _) _
      have hx3 : W.heap[w4.heap.size]? = some (.cells #[.bool ng, .slice A4 m4.length c4] 24 (0, 0)) := by rw [hW]; exact heap_alloc_new w4 _
      rw [← hW]
      have HX1 := Lib.hid ((hbl.block _ hl1').trans HZ1.out)
      have HX2 := Lib.hid ((hbl.block _ hl2').trans HZ2.out)
      have HX3 := Lib.hid hx3
      have hb2W : Below w2.heap.size w2 W := HB24.out.trans (hbl.mono HB24.out.size)
      have HBW := Lib.hid (HB2.out.trans (hb2W.mono HB2.out.size))
      have Ka := Lib.hid (fun wq (h : Below W.heap.size W wq) => HK1.out wq ((HB12.out.trans (hb2W.mono HB12.out.size)).trans (h.mono (Nat.le_trans HB12.out.size hb2W.size))))
      have Kb := Lib.hid (fun wq (h : Below W.heap.size W wq) => HK2.out wq (hb2W.trans (h.mono hb2W.size)))
      have Kl := Lib.hid (fun wq (h : Below W.heap.size W wq) => HK4.out wq (hbl.trans (h.mono hbl.size)))
      generalize hra : w2.heap.size = ra at *
      generalize hrl : w4.heap.size = rl at *
      have HK : Hid (∀ wq, Below W.heap.size W wq → wq.cell? ⟨ra, 0, none⟩ = some (.bool x) ∧ wq.cell? ⟨ra, 1, none⟩ = some (.slice A1 m1.length c1) ∧ wq.cell? ⟨ra + 1, 0, none⟩ = some (.bool y) ∧ wq.cell? ⟨ra + 1, 1, none⟩ = some (.slice A2 m2.length c2) ∧ wq.cell? ⟨rl, 0, none⟩ = some (.bool ng) ∧ wq.cell? ⟨rl, 1, none⟩ = some (.slice A4 m4.length c4)) := Lib.hid (fun wq h => by
        obtain ⟨a1, a2⟩ := cells_held h (heap_lt HX1.out) HX1.out
        obtain ⟨b1, b2⟩ := cells_held h (heap_lt HX2.out) HX2.out
        obtain ⟨d1, d2⟩ := cells_held h (heap_lt HX3.out) HX3.out
        exact ⟨a1, a2, b1, b2, d1, d2⟩)
      clear hW hbl hx3 hb2W hl1 hl2 hl1' hl2' hra hrl
      refine wp_region_held_drew (S := fun wq => wq.cell? ⟨ra, 0, none⟩ = some (.bool x) ∧ wq.cell? ⟨ra, 1, none⟩ = some (.slice A1 m1.length c1) ∧ wq.cell? ⟨ra + 1, 0, none⟩ = some (.bool y) ∧ wq.cell? ⟨ra + 1, 1, none⟩ = some (.slice A2 m2.length c2) ∧ wq.cell? ⟨rl, 0, none⟩ = some (.bool ng) ∧ wq.cell? ⟨rl, 1, none⟩ = some (.slice A4 m4.length c4)) (by kernel_rfl) (HK.out _ (Below.refl _ _).drew) (fun _ => ?_)
      have hB9 : Below W.heap.size W W.drew := (Below.refl _ _).drew
      refine take_op (i := 0) (v := _) rfl (by kernel_rfl) (by kernel_rfl) (by kernel_rfl) (fun _ _ _ h => h) (Or.inl ⟨by rfl, (by intro w hSw; (try dsimp only at hSw); go_simp; try with_reducible rfl)⟩) (HK.out _ hB9) ?_
      try simp only [Act.put, List.setIfInBounds_toArray, List.set_cons_zero, List.set_cons_succ]
      refine take_op (i := 3) (v := _) rfl (by kernel_rfl) (by kernel_rfl) (by kernel_rfl) (fun _ _ _ h => h) (Or.inl ⟨by rfl, (by intro w hSw; (try dsimp only at hSw); go_simp; try with_reducible rfl)⟩) (HK.out _ hB9) ?_
      try simp only [Act.put, List.setIfInBounds_toArray, List.set_cons_zero, List.set_cons_succ]
      refine one_op 1 (by kernel_rfl) rfl (by rfl) (fun K hK => ?_)
      go_simp
      refine (complement_as x nx A1 m1.length c1 m1 _ (Ka.out _ hB9) (by omega) HNX.out).mono ?_
      rintro e w10 ⟨m10, A10, c10, rfl, ho10, hs10, hq10, hk10, hb10⟩
      have hB10 : Below W.heap.size W w10 := step_below hB9 (Nat.le_refl _) hb10
      have K10 := kept_set ho10 hs10
      have Q10 := Lib.hid hq10
      have t10_10 : Below w10.heap.size w10 w10 := Below.refl _ _
      clear ho10 hq10
      clear hb10 hB9
      refine hK _ _ (HK.out _ hB10) ?_
      try simp only [Act.put, List.setIfInBounds_toArray, List.set_cons_zero, List.set_cons_succ]
      clear hK K
      refine one_op 2 (by kernel_rfl) rfl (by rfl) (fun K hK => ?_)
      go_simp
      refine (complement_as nx x A10 m10.length c10 m10 _ (K10 _ t10_10) (by omega) (by rw [← HNX.out, Bool.not_not])).mono ?_
      rintro e w11 ⟨m11, A11, c11, rfl, ho11, hs11, hq11, hk11, hb11⟩
      have hB11 : Below W.heap.size W w11 := step_below hB10 (Nat.le_refl _) hb11
      have t10_11 := step_on t10_10 hb11
      have K11 := kept_set ho11 hs11
      have Q11 := Lib.hid hq11
      have t11_11 : Below w11.heap.size w11 w11 := Below.refl _ _
      clear ho11 hq11
      clear hb11 hB10 t10_10
      refine hK _ _ (HK.out _ hB11) ?_
      try simp only [Act.put, List.setIfInBounds_toArray, List.set_cons_zero, List.set_cons_succ]
      clear hK K
      refine one_op 4 (by kernel_rfl) rfl (by rfl) (fun K hK => ?_)
      go_simp
      refine (same_yes x x A11 A1 m11.length m1.length c11 c1 m11 m1 _ (K11 _ t11_11) (Ka.out _ hB11) (by omega) (by omega) rfl (isSet_unique Q11.out (isSet_self Qa.out.1) fun z => by rw [inN_neg (co := nx) (co' := x) (by rw [← HNX.out, Bool.not_not]) m10 z, Q10.out.2 z, inN_neg HNX.out m1 z, Bool.not_not])).mono ?_
      rintro e w12 ⟨rfl, hb12⟩
      have hB12 : Below W.heap.size W w12 := step_below hB11 (Nat.le_refl _) hb12
      have t10_12 := step_on t10_11 hb12
      have t11_12 := step_on t11_11 hb12
      clear hb12 hB11 t10_11 t11_11
      refine hK _ _ (HK.out _ hB12) ?_
      try simp only [Act.put, List.setIfInBounds_toArray, List.set_cons_zero, List.set_cons_succ]
      clear hK K
      refine take_op (i := 5) (v := _) rfl (by kernel_rfl) (by kernel_rfl) (by kernel_rfl) (fun _ _ _ h => h) (Or.inl ⟨by rfl, (by intro w hSw; (try dsimp only at hSw); go_simp; try with_reducible rfl)⟩) (HK.out _ hB12) ?_
      try simp only [Act.put, List.setIfInBounds_toArray, List.set_cons_zero, List.set_cons_succ]
      refine take_op (i := 6) (v := _) rfl (by kernel_rfl) (by kernel_rfl) (by kernel_rfl) (fun _ _ _ h => h) (Or.inl ⟨by rfl, (by intro w hSw; (try dsimp only at hSw); go_simp; try with_reducible rfl)⟩) (HK.out _ hB12) ?_
      try simp only [Act.put, List.setIfInBounds_toArray, List.set_cons_zero, List.set_cons_succ]
      refine take_op (i := 7) (v := _) rfl (by kernel_rfl) (by kernel_rfl) (by kernel_rfl) (fun _ _ _ h => h) (Or.inl ⟨by rfl, (by intro w hSw; (try dsimp only at hSw); go_simp; try with_reducible rfl)⟩) (HK.out _ hB12) ?_
      try simp only [Act.put, List.setIfInBounds_toArray, List.set_cons_zero, List.set_cons_succ]
      refine take_op (i := 9) (v := _) rfl (by kernel_rfl) (by kernel_rfl) (by kernel_rfl) (fun _ _ _ h => h) (Or.inl ⟨by rfl, (by intro w hSw; (try dsimp only at hSw); go_simp; try with_reducible rfl)⟩) (HK.out _ hB12) ?_
      try simp only [Act.put, List.setIfInBounds_toArray, List.set_cons_zero, List.set_cons_succ]
      refine one_op 8 (by kernel_rfl) rfl (by rfl) (fun K hK => ?_)
      go_simp
      refine (complement_as x nx A1 m1.length c1 m1 _ (Ka.out _ hB12) (by omega) HNX.out).mono ?_
      rintro e w13 ⟨m13, A13, c13, rfl, ho13, hs13, hq13, hk13, hb13⟩
      have hB13 : Below W.heap.size W w13 := step_below hB12 (Nat.le_refl _) hb13
      have t10_13 := step_on t10_12 hb13
      have t11_13 := step_on t11_12 hb13
      have K13 := kept_set ho13 hs13
      have Q13 := Lib.hid hq13
      have t13_13 : Below w13.heap.size w13 w13 := Below.refl _ _
      clear ho13 hq13
      clear hb13 hB12 t10_12 t11_12
      refine hK _ _ (HK.out _ hB13) ?_
      try simp only [Act.put, List.setIfInBounds_toArray, List.set_cons_zero, List.set_cons_succ]
      clear hK K
      refine one_op 10 (by kernel_rfl) rfl (by rfl) (fun K hK => ?_)
      go_simp
      refine (complement_as y ny A2 m2.length c2 m2 _ (Kb.out _ hB13) (by omega) HNY.out).mono ?_
      rintro e w14 ⟨m14, A14, c14, rfl, ho14, hs14, hq14, hk14, hb14⟩
      have hB14 : Below W.heap.size W w14 := step_below hB13 (Nat.le_refl _) hb14
      have t10_14 := step_on t10_13 hb14
      have t11_14 := step_on t11_13 hb14
      have t13_14 := step_on t13_13 hb14
      have K14 := kept_set ho14 hs14
      have Q14 := Lib.hid hq14
      have t14_14 : Below w14.heap.size w14 w14 := Below.refl _ _
      clear ho14 hq14
      clear hb14 hB13 t10_13 t11_13 t13_13
      refine hK _ _ (HK.out _ hB14) ?_
      try simp only [Act.put, List.setIfInBounds_toArray, List.set_cons_zero, List.set_cons_succ]
      clear hK K
      refine one_op 11 (by kernel_rfl) rfl (by rfl) (fun K hK => ?_)
      go_simp
      refine (intersect_as nx ny ng A13 A14 m13.length c13 m14.length c14 m13 m14 _ (K13 _ t13_14) (K14 _ t14_14) (by omega) (by omega) HNG.out).mono ?_
      rintro e w15 ⟨m15, A15, c15, rfl, ho15, hs15, hq15, hk15, hb15⟩
      have hB15 : Below W.heap.size W w15 := step_below hB14 (Nat.le_refl _) hb15
      have t10_15 := step_on t10_14 hb15
      have t11_15 := step_on t11_14 hb15
      have t13_15 := step_on t13_14 hb15
      have t14_15 := step_on t14_14 hb15
      have K15 := kept_set ho15 hs15
      have Q15 := Lib.hid hq15
      have t15_15 : Below w15.heap.size w15 w15 := Below.refl _ _
      clear ho15 hq15
      clear hb15 hB14 t10_14 t11_14 t13_14 t14_14
      refine hK _ _ (HK.out _ hB15) ?_
      try simp only [Act.put, List.setIfInBounds_toArray, List.set_cons_zero, List.set_cons_succ]
      clear hK K
      refine one_op 12 (by kernel_rfl) rfl (by rfl) (fun K hK => ?_)
      go_simp
      refine (same_yes ng ng A4 A15 m4.length m15.length c4 c15 m4 m15 _ (Kl.out _ hB15) (K15 _ t15_15) (by omega) (by omega) rfl (isSet_unique Ql.out Q15.out fun z => by rw [inN_neg HG.out m3 z, Qu.out.2 z, Q13.out.2 z, Q14.out.2 z, inN_neg HNX.out m1 z, inN_neg HNY.out m2 z, Bool.not_or])).mono ?_
      rintro e w16 ⟨rfl, hb16⟩
      have hB16 : Below W.heap.size W w16 := step_below hB15 (Nat.le_refl _) hb16
      have t10_16 := step_on t10_15 hb16
      have t11_16 := step_on t11_15 hb16
      have t13_16 := step_on t13_15 hb16
      have t14_16 := step_on t14_15 hb16
      have t15_16 := step_on t15_15 hb16
      clear hb16 hB15 t10_15 t11_15 t13_15 t14_15 t15_15
      refine hK _ _ (HK.out _ hB16) ?_
      try simp only [Act.put, List.setIfInBounds_toArray, List.set_cons_zero, List.set_cons_succ]
      clear hK K
      refine take_op (i := 13) (v := _) rfl (by kernel_rfl) (by kernel_rfl) (by kernel_rfl) (fun _ _ _ h => h) (Or.inl ⟨by rfl, (by intro w hSw; (try dsimp only at hSw); go_simp; try with_reducible rfl)⟩) (HK.out _ hB16) ?_
      try simp only [Act.put, List.setIfInBounds_toArray, List.set_cons_zero, List.set_cons_succ]
      refine take_op (i := 14) (v := _) rfl (by kernel_rfl) (by kernel_rfl) (by kernel_rfl) (fun _ _ _ h => h) (Or.inl ⟨by rfl, (by intro w hSw; (try dsimp only at hSw); go_simp; try with_reducible rfl)⟩) (HK.out _ hB16) ?_
      try simp only [Act.put, List.setIfInBounds_toArray, List.set_cons_zero, List.set_cons_succ]
      refine take_op (i := 15) (v := _) rfl (by kernel_rfl) (by kernel_rfl) (by kernel_rfl) (fun _ _ _ h => h) (Or.inl ⟨by rfl, (by intro w hSw; (try dsimp only at hSw); go_simp; try with_reducible rfl)⟩) (HK.out _ hB16) ?_
      try simp only [Act.put, List.setIfInBounds_toArray, List.set_cons_zero, List.set_cons_succ]
      refine take_op (i := 16) (v := _) rfl (by kernel_rfl) (by kernel_rfl) (by kernel_rfl) (fun _ _ _ h => h) (Or.inl ⟨by rfl, (by intro w hSw; (try dsimp only at hSw); go_simp; try with_reducible rfl)⟩) (HK.out _ hB16) ?_
      try simp only [Act.put, List.setIfInBounds_toArray, List.set_cons_zero, List.set_cons_succ]
      refine take_op (i := 18) (v := _) rfl (by kernel_rfl) (by kernel_rfl) (by kernel_rfl) (fun _ _ _ h => h) (Or.inl ⟨by rfl, (by intro w hSw; (try dsimp only at hSw); go_simp; try with_reducible rfl)⟩) (HK.out _ hB16) ?_
      try simp only [Act.put, List.setIfInBounds_toArray, List.set_cons_zero, List.set_cons_succ]
      refine one_op 17 (by kernel_rfl) rfl (by rfl) (fun K hK => ?_)
      go_simp
      refine (union_as x x x A1 A1 m1.length c1 m1.length c1 m1 m1 _ (Ka.out _ hB16) (Ka.out _ hB16) (by omega) (by omega) (Bool.or_self x)).mono ?_
      rintro e w17 ⟨m17, A17, c17, rfl, ho17, hs17, hq17, hk17, hb17⟩
      have hB17 : Below W.heap.size W w17 := step_below hB16 (Nat.le_refl _) hb17
      have t10_17 := step_on t10_16 hb17
      have t11_17 := step_on t11_16 hb17
      have t13_17 := step_on t13_16 hb17
      have t14_17 := step_on t14_16 hb17
      have t15_17 := step_on t15_16 hb17
      have K17 := kept_set ho17 hs17
      have Q17 := Lib.hid hq17
      have t17_17 : Below w17.heap.size w17 w17 := Below.refl _ _
      clear ho17 hq17
      clear hb17 hB16 t10_16 t11_16 t13_16 t14_16 t15_16
      refine hK _ _ (HK.out _ hB17) ?_
      try simp only [Act.put, List.setIfInBounds_toArray, List.set_cons_zero, List.set_cons_succ]
      clear hK K
      refine one_op 19 (by kernel_rfl) rfl (by rfl) (fun K hK => ?_)
      go_simp
      refine (same_yes x x A17 A1 m17.length m1.length c17 c1 m17 m1 _ (K17 _ t17_17) (Ka.out _ hB17) (by omega) (by omega) rfl (isSet_unique Q17.out (isSet_self Qa.out.1) fun z => Bool.or_self _)).mono ?_
      rintro e w18 ⟨rfl, hb18⟩
      have hB18 : Below W.heap.size W w18 := step_below hB17 (Nat.le_refl _) hb18
      have t10_18 := step_on t10_17 hb18
      have t11_18 := step_on t11_17 hb18
      have t13_18 := step_on t13_17 hb18
      have t14_18 := step_on t14_17 hb18
      have t15_18 := step_on t15_17 hb18
      have t17_18 := step_on t17_17 hb18
      clear hb18 hB17 t10_17 t11_17 t13_17 t14_17 t15_17 t17_17
      refine hK _ _ (HK.out _ hB18) ?_
      try simp only [Act.put, List.setIfInBounds_toArray, List.set_cons_zero, List.set_cons_succ]
      clear hK K
      refine take_op (i := 20) (v := _) rfl (by kernel_rfl) (by kernel_rfl) (by kernel_rfl) (fun _ _ _ h => h) (Or.inl ⟨by rfl, (by intro w hSw; (try dsimp only at hSw); go_simp; try with_reducible rfl)⟩) (HK.out _ hB18) ?_
      try simp only [Act.put, List.setIfInBounds_toArray, List.set_cons_zero, List.set_cons_succ]
      refine take_op (i := 21) (v := _) rfl (by kernel_rfl) (by kernel_rfl) (by kernel_rfl) (fun _ _ _ h => h) (Or.inl ⟨by rfl, (by intro w hSw; (try dsimp only at hSw); go_simp; try with_reducible rfl)⟩) (HK.out _ hB18) ?_
      try simp only [Act.put, List.setIfInBounds_toArray, List.set_cons_zero, List.set_cons_succ]
      refine one_op 22 (by kernel_rfl) rfl (by rfl) (fun K hK => ?_)
      go_simp
      refine (awake_any _).mono ?_
      rintro e w19 ⟨rfl, hb19⟩
      have hB19 : Below W.heap.size W w19 := step_below hB18 (Nat.le_refl _) hb19
      have t10_19 := step_on t10_18 hb19
      have t11_19 := step_on t11_18 hb19
      have t13_19 := step_on t13_18 hb19
      have t14_19 := step_on t14_18 hb19
      have t15_19 := step_on t15_18 hb19
      have t17_19 := step_on t17_18 hb19
      clear hb19 hB18 t10_18 t11_18 t13_18 t14_18 t15_18 t17_18
      refine hK _ _ (HK.out _ hB19) ?_
      try simp only [Act.put, List.setIfInBounds_toArray, List.set_cons_zero, List.set_cons_succ]
      clear hK K
      refine take_op (i := 23) (v := _) rfl (by kernel_rfl) (by kernel_rfl) (by kernel_rfl) (fun _ _ _ h => h) (Or.inl ⟨by rfl, (by intro w hSw; (try dsimp only at hSw); go_simp; try with_reducible rfl)⟩) (HK.out _ hB19) ?_
      try simp only [Act.put, List.setIfInBounds_toArray, List.set_cons_zero, List.set_cons_succ]
      refine take_op (i := 24) (v := _) rfl (by kernel_rfl) (by kernel_rfl) (by kernel_rfl) (fun _ _ _ h => h) (Or.inl ⟨by rfl, (by intro w hSw; (try dsimp only at hSw); go_simp; try with_reducible rfl)⟩) (HK.out _ hB19) ?_
      try simp only [Act.put, List.setIfInBounds_toArray, List.set_cons_zero, List.set_cons_succ]
      refine wpAnyH_done (by kernel_rfl) ?_ _
      go_wp2
      go_ret
      exact ⟨rfl, HBW.out.trans (hB19.mono HBW.out.size)⟩
    · have qn2 : (30 : Int) < (n' : Int) := by omega
      go_enter Try.func6, Try.ntmps6
      go_wp2_with (go_at_call 9; refine (awake_any _).mono ?_; rintro e w2 ⟨rfl, hb2⟩; refine Hid.out ?_)
      refine Lib.hid ?_
      go_wp2
      go_ret
      exact ⟨rfl, hb2⟩
  · have qn : (30 : Int) < (n : Int) := by omega
    go_enter Try.func6, Try.ntmps6
    go_wp2_with (go_at_call 9; refine (awake_any _).mono ?_; rintro e w2 ⟨rfl, hb2⟩; refine Hid.out ?_)
    refine Lib.hid ?_
    go_wp2
    go_ret
    exact ⟨rfl, hb2⟩
end Go.Proofs.Ytkmfpkdcedfgfaa
