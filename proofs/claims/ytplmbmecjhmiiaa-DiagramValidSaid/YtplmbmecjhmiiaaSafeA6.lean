/- The document's safe, on any diagram. -/
import Derived.Test.YtplmbmecjhmiiaaEval6
namespace Go.Proofs.Ytplmbmecjhmiiaa
open Go Go.RowKit
theorem okI_eq {is : List (Int × Int × Int)} {j : Nat} {x : Int × Int × Int} (hx : is[j]? = some x) : okI is j = (decide (0 ≤ x.1 ∧ x.1 < 12) && (blwI is j x.1 x.2.1 && blwI is j x.1 x.2.2)) := by unfold okI; rw [hx]
theorem okI_no {is : List (Int × Int × Int)} {j : Nat} {x : Int × Int × Int} (hx : is[j]? = some x) (h : x.1 < 0 ∨ 12 ≤ x.1 ∨ x.2.1 < 0 ∨ (j : Int) + 2 ≤ x.2.1 ∨ x.2.2 < 0 ∨ (j : Int) + 2 ≤ x.2.2 ∨ litI is x.2.1 ≤ x.1 ∨ litI is x.2.2 ≤ x.1) : okI is j = false := by
  rw [okI_eq hx]
  unfold blwI
  cases hh : (decide (0 ≤ x.1 ∧ x.1 < 12) && (decide (0 ≤ x.2.1 ∧ x.2.1 < 2 + (j : Int)) && decide (x.1 < litI is x.2.1) && (decide (0 ≤ x.2.2 ∧ x.2.2 < 2 + (j : Int)) && decide (x.1 < litI is x.2.2))))
  · rfl
  · simp only [Bool.and_eq_true, decide_eq_true_eq] at hh
    omega
theorem okI_yes {is : List (Int × Int × Int)} {j : Nat} {x : Int × Int × Int} (hx : is[j]? = some x) (h : 0 ≤ x.1 ∧ x.1 < 12 ∧ 0 ≤ x.2.1 ∧ x.2.1 < (j : Int) + 2 ∧ 0 ≤ x.2.2 ∧ x.2.2 < (j : Int) + 2 ∧ x.1 < litI is x.2.1 ∧ x.1 < litI is x.2.2) : okI is j = true := by
  rw [okI_eq hx]
  unfold blwI
  simp only [Bool.and_eq_true, decide_eq_true_eq]
  omega
set_option maxRecDepth 100000 in
set_option maxHeartbeats 12800000 in
theorem safe_any (A : Option Addr) (n c : Nat) (is : List (Int × Int × Int)) (x : Int) (w : World) (h : NdR w (fun b => b < w.heap.size) A n c is) (hl : n ≤ 100000) :
    Calls Try.prog 30 #[.agg #[.slice A n c, .int .i64 x]] w fun e w' => e = .returned (.bool (ordI is x)) ∧ Below w.heap.size w w' := by
  obtain ⟨W, hW⟩ : ∃ W, W = w.alloc (.cells #[.slice A n c, .int .i64 x] 24) := ⟨_, rfl⟩
  have hb : Below w.heap.size w W := by rw [hW]; exact (Below.refl _ _).alloc (Nat.le_refl _) _
  have hz : W.heap.size = w.heap.size + 1 := by rw [hW]; simp
  have k0 : W.heap[w.heap.size]? = some (.cells #[.slice A n c, .int .i64 x] 24 (0, 0)) := by rw [hW]; exact heap_alloc_new w _
  have HK : Hid (∀ V, Below W.heap.size W V → (V.cell? ⟨w.heap.size, 0, none⟩ = some (.slice A n c) ∧ V.cell? ⟨w.heap.size, 1, none⟩ = some (.int .i64 x)) ∧ Below w.heap.size w V) := Lib.hid fun V hV => ⟨cells2 ((hV.block _ (by omega)).trans k0), hb.trans (hV.mono (by omega))⟩
  have HN := Lib.hid (And.intro h (And.intro h.1 hl))
  generalize hrr : ordI is x = res
  have HR := Lib.hid hrr
  clear h hl hb hz k0 hrr
  go_enter Try.func30, Try.ntmps30
  go_wp2_with fail
  rw [← hW]
  clear hW
  go_loopw [3] (fun s wr => ∃ j : Nat, s = .int .i64 j ∧ j ≤ n ∧ Hid (∀ k, k < j → okI is k = true) ∧ Hid (Below W.heap.size W wr)) (fun s _ => n - (intOf s).toNat)
  case atStart => exact ⟨0, rfl, by omega, Lib.hid (fun k hk => absurd hk (by omega)), Lib.hid (Below.refl _ _)⟩
  case round =>
    obtain ⟨j, rfl, hj, h0, hwr⟩ := hrel
    obtain ⟨⟨y0, y1⟩, hbw⟩ := HK.out _ hwr.out
    by_cases hjn : j < n
    · obtain ⟨gN, gn, gl⟩ := HN.out
      obtain ⟨b, off, ⟨nl, nh, no⟩, hA, hbb, hi, c0, c1, c2⟩ := (gN.on hbw).at hjn
      dsimp only at c0 c1 c2
      have HNODE : Hid (∀ (V : World) (q : Nat), q < n → Below w.heap.size w V → ∃ nq : Int × Int × Int, is[q]? = some nq ∧ V.cell? ⟨b, off + q * 3, none⟩ = some (.int .i64 nq.1)) := Lib.hid fun V q hq hV => by
        obtain ⟨b', off', nq, hA', _, hnq, e0, _, _⟩ := (gN.on hV).at hq
        rw [hA] at hA'
        injection hA' with hA'
        injection hA' with e1 e2 _
        subst e1 e2
        exact ⟨nq, hnq, e0⟩
      subst hA
      have hjl : j < is.length := by omega
      have HNO : Hid ((nl < 0 ∨ 12 ≤ nl ∨ nh < 0 ∨ (j : Int) + 2 ≤ nh ∨ no < 0 ∨ (j : Int) + 2 ≤ no ∨ litI is nh ≤ nl ∨ litI is no ≤ nl) → (Ending.returned (.bool false) : Ending) = .returned (.bool res)) := Lib.hid fun h => rb6 (by rw [← HR.out]; exact (ordI_false hjl (okI_no hi h)).symm)
      have HYES : Hid ((0 ≤ nl ∧ nl < 12 ∧ 0 ≤ nh ∧ nh < (j : Int) + 2 ∧ 0 ≤ no ∧ no < (j : Int) + 2 ∧ nl < litI is nh ∧ nl < litI is no) → okI is j = true) := Lib.hid fun h => okI_yes hi h
      have kn : (j : Int) < (n : Int) := by omega
      have k0 : (0 : Int) ≤ (j : Int) := by omega
      have hwj : IntKind.i64.wrap ((j : Int) + 1) = ((j + 1 : Nat) : Int) := by rw [IntWalk.i64_in _ (by omega)]; omega
      obtain ⟨j2, hj2⟩ : ∃ j2, j2 = j + 2 := ⟨_, rfl⟩
      have hwj2 : IntKind.i64.wrap ((j : Int) + 2) = (j2 : Int) := by rw [IntWalk.i64_in _ (by omega)]; omega
      have HX := Lib.hid (And.intro hjn (And.intro hj2 gl))
      obtain ⟨V4, hV4⟩ : ∃ V4, V4 = wr.alloc (.cells #[.int .i64 nl, .int .i64 nh, .int .i64 no] 32) := ⟨_, rfl⟩
      have hb4 : Below wr.heap.size wr V4 := by rw [hV4]; exact (Below.refl _ _).alloc (Nat.le_refl _) _
      have k4 : V4.heap[wr.heap.size]? = some (.cells #[.int .i64 nl, .int .i64 nh, .int .i64 no] 32 (0, 0)) := by rw [hV4]; exact heap_alloc_new wr _
      obtain ⟨z, hzz⟩ : ∃ z, z = wr.heap.size := ⟨_, rfl⟩
      have HC : Hid (∀ V, Below V4.heap.size V4 V → V.cell? ⟨w.heap.size, 0, none⟩ = some (.slice (some ⟨b, off, none⟩) n c) ∧ V.cell? ⟨z, 0, none⟩ = some (.int .i64 nl) ∧ V.cell? ⟨z, 1, none⟩ = some (.int .i64 nh) ∧ V.cell? ⟨z, 2, none⟩ = some (.int .i64 no)) := Lib.hid fun V hV => by
        obtain ⟨a0, a1, a2⟩ := cells3 ((hV.block _ (lt_of_heap k4)).trans k4)
        rw [← hzz] at a0 a1 a2
        exact ⟨(HK.out V (hwr.out.trans ((hb4.trans (hV.mono hb4.size)).mono hwr.out.size))).1.1, a0, a1, a2⟩
      have HV4 := Lib.hid (And.intro (hwr.out.trans (hb4.mono hwr.out.size)) (hbw.trans (hb4.mono hbw.size)))
      clear gN gn gl hbb hjn hj hb4 k4 hbw hjl
      by_cases p1 : nl < 0
      · have HD := Lib.hid HV4.out.2
        have HE2 := Lib.hid (HNO.out (by have := HX.out; omega))
        go_wp2
        go_ret
        rw [← hV4]
        exact ⟨HE2.out, HD.out⟩
      · by_cases p2 : 12 ≤ nl
        · have HD := Lib.hid HV4.out.2
          have HE2 := Lib.hid (HNO.out (by have := HX.out; omega))
          go_wp2
          go_ret
          rw [← hV4]
          exact ⟨HE2.out, HD.out⟩
        · by_cases p3 : nh < 0
          · have HD := Lib.hid HV4.out.2
            have HE2 := Lib.hid (HNO.out (by have := HX.out; omega))
            go_wp2
            go_ret
            rw [← hV4]
            exact ⟨HE2.out, HD.out⟩
          · by_cases p4 : (j2 : Int) ≤ nh
            · have HD := Lib.hid HV4.out.2
              have HE2 := Lib.hid (HNO.out (by have := HX.out; omega))
              go_wp2
              go_ret
              rw [← hV4]
              exact ⟨HE2.out, HD.out⟩
            · by_cases p5 : no < 0
              · have HD := Lib.hid HV4.out.2
                have HE2 := Lib.hid (HNO.out (by have := HX.out; omega))
                go_wp2
                go_ret
                rw [← hV4]
                exact ⟨HE2.out, HD.out⟩
              · by_cases p6 : (j2 : Int) ≤ no
                · have HD := Lib.hid HV4.out.2
                  have HE2 := Lib.hid (HNO.out (by have := HX.out; omega))
                  go_wp2
                  go_ret
                  rw [← hV4]
                  exact ⟨HE2.out, HD.out⟩
                · go_wp2_with fail
                  rw [← hV4, ← hzz]
                  clear hV4 hzz c0 c1 c2 y0 y1
                  have HB0 := Lib.hid ((Below.refl V4.heap.size V4).drew)
                  have HBW := Lib.hid (HV4.out.2.drew)
                  by_cases dh : 2 ≤ nh
                  · obtain ⟨hh, hhh⟩ : ∃ q : Nat, nh = (q : Int) + 2 := ⟨(nh - 2).toNat, by omega⟩
                    obtain ⟨⟨zhh, zzhh⟩, huhh, ehh⟩ := HNODE.out _ hh (by have := HX.out; omega) HBW.out
                    dsimp only at ehh
                    have ghh : (1 : Int) < nh := by omega
                    have whh : IntKind.i64.wrap (nh - 2) = (hh : Int) := by have := HX.out; rw [IntWalk.i64_in _ (by omega)]; omega
                    have ihh : (hh : Int) < (n : Int) := by have := HX.out; omega
                    have jhh : (0 : Int) ≤ (hh : Int) := by omega
                    have hlhh : litI is nh = zhh := litI_at hhh huhh
                    by_cases lhh : zhh ≤ nl
                    · have HL := Lib.hid (And.intro hlhh trivial)
                      clear hlhh
                      clear hhh huhh
                      have HE : Hid (V4.drew.cell? ⟨w.heap.size, 0, none⟩ = some (.slice (some ⟨b, off, none⟩) n c) ∧ V4.drew.cell? ⟨z, 0, none⟩ = some (.int .i64 nl) ∧ V4.drew.cell? ⟨z, 1, none⟩ = some (.int .i64 nh) ∧ V4.drew.cell? ⟨z, 2, none⟩ = some (.int .i64 no) ∧ V4.drew.cell? ⟨b, off + hh * 3, none⟩ = some (.int .i64 zhh)) := Lib.hid ⟨(HC.out _ HB0.out).1, (HC.out _ HB0.out).2.1, (HC.out _ HB0.out).2.2.1, (HC.out _ HB0.out).2.2.2, ehh⟩
                      clear ehh
                      refine wp_region_held_drew (S := fun V => V.cell? ⟨w.heap.size, 0, none⟩ = some (.slice (some ⟨b, off, none⟩) n c) ∧ V.cell? ⟨z, 0, none⟩ = some (.int .i64 nl) ∧ V.cell? ⟨z, 1, none⟩ = some (.int .i64 nh) ∧ V.cell? ⟨z, 2, none⟩ = some (.int .i64 no) ∧ V.cell? ⟨b, off + hh * 3, none⟩ = some (.int .i64 zhh)) (by kernel_rfl) HE.out (fun _ => ?_)
                      refine tk 0 (HE.out) ?_
                      try simp only [Act.put, pA, pB, pC]
                      refine tk 1 (HE.out) ?_
                      try simp only [Act.put, pA, pB, pC]
                      refine tk 2 (HE.out) ?_
                      try simp only [Act.put, pA, pB, pC]
                      refine tk 3 (HE.out) ?_
                      try simp only [Act.put, pA, pB, pC]
                      refine tk 4 (HE.out) ?_
                      try simp only [Act.put, pA, pB, pC]
                      refine tk 5 (HE.out) ?_
                      try simp only [Act.put, pA, pB, pC]
                      refine tk 6 (HE.out) ?_
                      try simp only [Act.put, pA, pB, pC]
                      refine tk 7 (HE.out) ?_
                      try simp only [Act.put, pA, pB, pC]
                      refine tk 8 (HE.out) ?_
                      try simp only [Act.put, pA, pB, pC]
                      refine tk 9 (HE.out) ?_
                      try simp only [Act.put, pA, pB, pC]
                      refine tk 10 (HE.out) ?_
                      try simp only [Act.put, pA, pB, pC]
                      refine tk 11 (HE.out) ?_
                      try simp only [Act.put, pA, pB, pC]
                      refine tk 12 (HE.out) ?_
                      try simp only [Act.put, pA, pB, pC]
                      refine tk 13 (HE.out) ?_
                      try simp only [Act.put, pA, pB, pC]
                      refine tk 14 (HE.out) ?_
                      try simp only [Act.put, pA, pB, pC]
                      refine tk 15 (HE.out) ?_
                      try simp only [Act.put, pA, pB, pC]
                      refine tk 16 (HE.out) ?_
                      try simp only [Act.put, pA, pB, pC]
                      refine tu 17 (HE.out) ?_
                      try simp only [Act.put, pA, pB, pC]
                      refine tu 18 (HE.out) ?_
                      try simp only [Act.put, pA, pB, pC]
                      refine tu 19 (HE.out) ?_
                      try simp only [Act.put, pA, pB, pC]
                      refine tu 20 (HE.out) ?_
                      try simp only [Act.put, pA, pB, pC]
                      refine tu 21 (HE.out) ?_
                      try simp only [Act.put, pA, pB, pC]
                      refine tu 22 (HE.out) ?_
                      try simp only [Act.put, pA, pB, pC]
                      refine tu 23 (HE.out) ?_
                      try simp only [Act.put, pA, pB, pC]
                      refine tu 24 (HE.out) ?_
                      try simp only [Act.put, pA, pB, pC]
                      refine tu 25 (HE.out) ?_
                      try simp only [Act.put, pA, pB, pC]
                      refine tu 26 (HE.out) ?_
                      try simp only [Act.put, pA, pB, pC]
                      refine tu 27 (HE.out) ?_
                      try simp only [Act.put, pA, pB, pC]
                      refine tu 28 (HE.out) ?_
                      try simp only [Act.put, pA, pB, pC]
                      refine tu 29 (HE.out) ?_
                      try simp only [Act.put, pA, pB, pC]
                      refine tu 30 (HE.out) ?_
                      try simp only [Act.put, pA, pB, pC]
                      refine tu 31 (HE.out) ?_
                      try simp only [Act.put, pA, pB, pC]
                      refine tu 32 (HE.out) ?_
                      try simp only [Act.put, pA, pB, pC]
                      refine tk 33 (HE.out) ?_
                      try simp only [Act.put, pA, pB, pC]
                      refine wpAnyH_done (by kernel_rfl) ?_ _
                      have HD := Lib.hid (HV4.out.2.drew)
                      have HE2 := Lib.hid (HNO.out (by have := HL.out; omega))
                      go_wp2
                      go_ret
                      exact ⟨HE2.out, HD.out⟩
                    · by_cases dq : 2 ≤ no
                      · obtain ⟨oo, hoo⟩ : ∃ q : Nat, no = (q : Int) + 2 := ⟨(no - 2).toNat, by omega⟩
                        obtain ⟨⟨zoo, zzoo⟩, huoo, eoo⟩ := HNODE.out _ oo (by have := HX.out; omega) HBW.out
                        dsimp only at eoo
                        have goo : (1 : Int) < no := by omega
                        have woo : IntKind.i64.wrap (no - 2) = (oo : Int) := by have := HX.out; rw [IntWalk.i64_in _ (by omega)]; omega
                        have ioo : (oo : Int) < (n : Int) := by have := HX.out; omega
                        have joo : (0 : Int) ≤ (oo : Int) := by omega
                        have hloo : litI is no = zoo := litI_at hoo huoo
                        by_cases loo : zoo ≤ nl
                        · have HL := Lib.hid (And.intro hlhh hloo)
                          clear hlhh hloo
                          clear hhh huhh hoo huoo
                          have HE : Hid (V4.drew.cell? ⟨w.heap.size, 0, none⟩ = some (.slice (some ⟨b, off, none⟩) n c) ∧ V4.drew.cell? ⟨z, 0, none⟩ = some (.int .i64 nl) ∧ V4.drew.cell? ⟨z, 1, none⟩ = some (.int .i64 nh) ∧ V4.drew.cell? ⟨z, 2, none⟩ = some (.int .i64 no) ∧ V4.drew.cell? ⟨b, off + hh * 3, none⟩ = some (.int .i64 zhh) ∧ V4.drew.cell? ⟨b, off + oo * 3, none⟩ = some (.int .i64 zoo)) := Lib.hid ⟨(HC.out _ HB0.out).1, (HC.out _ HB0.out).2.1, (HC.out _ HB0.out).2.2.1, (HC.out _ HB0.out).2.2.2, ehh, eoo⟩
                          clear ehh
                          clear eoo
                          refine wp_region_held_drew (S := fun V => V.cell? ⟨w.heap.size, 0, none⟩ = some (.slice (some ⟨b, off, none⟩) n c) ∧ V.cell? ⟨z, 0, none⟩ = some (.int .i64 nl) ∧ V.cell? ⟨z, 1, none⟩ = some (.int .i64 nh) ∧ V.cell? ⟨z, 2, none⟩ = some (.int .i64 no) ∧ V.cell? ⟨b, off + hh * 3, none⟩ = some (.int .i64 zhh) ∧ V.cell? ⟨b, off + oo * 3, none⟩ = some (.int .i64 zoo)) (by kernel_rfl) HE.out (fun _ => ?_)
                          refine tk 0 (HE.out) ?_
                          try simp only [Act.put, pA, pB, pC]
                          refine tk 1 (HE.out) ?_
                          try simp only [Act.put, pA, pB, pC]
                          refine tk 2 (HE.out) ?_
                          try simp only [Act.put, pA, pB, pC]
                          refine tk 3 (HE.out) ?_
                          try simp only [Act.put, pA, pB, pC]
                          refine tk 4 (HE.out) ?_
                          try simp only [Act.put, pA, pB, pC]
                          refine tk 5 (HE.out) ?_
                          try simp only [Act.put, pA, pB, pC]
                          refine tk 6 (HE.out) ?_
                          try simp only [Act.put, pA, pB, pC]
                          refine tk 7 (HE.out) ?_
                          try simp only [Act.put, pA, pB, pC]
                          refine tk 8 (HE.out) ?_
                          try simp only [Act.put, pA, pB, pC]
                          refine tk 9 (HE.out) ?_
                          try simp only [Act.put, pA, pB, pC]
                          refine tk 10 (HE.out) ?_
                          try simp only [Act.put, pA, pB, pC]
                          refine tk 11 (HE.out) ?_
                          try simp only [Act.put, pA, pB, pC]
                          refine tk 12 (HE.out) ?_
                          try simp only [Act.put, pA, pB, pC]
                          refine tk 13 (HE.out) ?_
                          try simp only [Act.put, pA, pB, pC]
                          refine tk 14 (HE.out) ?_
                          try simp only [Act.put, pA, pB, pC]
                          refine tk 15 (HE.out) ?_
                          try simp only [Act.put, pA, pB, pC]
                          refine tk 16 (HE.out) ?_
                          try simp only [Act.put, pA, pB, pC]
                          refine tk 17 (HE.out) ?_
                          try simp only [Act.put, pA, pB, pC]
                          refine tk 18 (HE.out) ?_
                          try simp only [Act.put, pA, pB, pC]
                          refine tk 19 (HE.out) ?_
                          try simp only [Act.put, pA, pB, pC]
                          refine tk 20 (HE.out) ?_
                          try simp only [Act.put, pA, pB, pC]
                          refine tk 21 (HE.out) ?_
                          try simp only [Act.put, pA, pB, pC]
                          refine tk 22 (HE.out) ?_
                          try simp only [Act.put, pA, pB, pC]
                          refine tk 23 (HE.out) ?_
                          try simp only [Act.put, pA, pB, pC]
                          refine tk 24 (HE.out) ?_
                          try simp only [Act.put, pA, pB, pC]
                          refine tk 25 (HE.out) ?_
                          try simp only [Act.put, pA, pB, pC]
                          refine tk 26 (HE.out) ?_
                          try simp only [Act.put, pA, pB, pC]
                          refine tk 27 (HE.out) ?_
                          try simp only [Act.put, pA, pB, pC]
                          refine tk 28 (HE.out) ?_
                          try simp only [Act.put, pA, pB, pC]
                          refine tk 29 (HE.out) ?_
                          try simp only [Act.put, pA, pB, pC]
                          refine tk 30 (HE.out) ?_
                          try simp only [Act.put, pA, pB, pC]
                          refine tk 31 (HE.out) ?_
                          try simp only [Act.put, pA, pB, pC]
                          refine tk 32 (HE.out) ?_
                          try simp only [Act.put, pA, pB, pC]
                          refine tk 33 (HE.out) ?_
                          try simp only [Act.put, pA, pB, pC]
                          refine wpAnyH_done (by kernel_rfl) ?_ _
                          have HD := Lib.hid (HV4.out.2.drew)
                          have HE2 := Lib.hid (HNO.out (by have := HL.out; omega))
                          go_wp2
                          go_ret
                          exact ⟨HE2.out, HD.out⟩
                        · have HL := Lib.hid (And.intro hlhh hloo)
                          clear hlhh hloo
                          clear hhh huhh hoo huoo
                          have HE : Hid (V4.drew.cell? ⟨w.heap.size, 0, none⟩ = some (.slice (some ⟨b, off, none⟩) n c) ∧ V4.drew.cell? ⟨z, 0, none⟩ = some (.int .i64 nl) ∧ V4.drew.cell? ⟨z, 1, none⟩ = some (.int .i64 nh) ∧ V4.drew.cell? ⟨z, 2, none⟩ = some (.int .i64 no) ∧ V4.drew.cell? ⟨b, off + hh * 3, none⟩ = some (.int .i64 zhh) ∧ V4.drew.cell? ⟨b, off + oo * 3, none⟩ = some (.int .i64 zoo)) := Lib.hid ⟨(HC.out _ HB0.out).1, (HC.out _ HB0.out).2.1, (HC.out _ HB0.out).2.2.1, (HC.out _ HB0.out).2.2.2, ehh, eoo⟩
                          clear ehh
                          clear eoo
                          refine wp_region_held_drew (S := fun V => V.cell? ⟨w.heap.size, 0, none⟩ = some (.slice (some ⟨b, off, none⟩) n c) ∧ V.cell? ⟨z, 0, none⟩ = some (.int .i64 nl) ∧ V.cell? ⟨z, 1, none⟩ = some (.int .i64 nh) ∧ V.cell? ⟨z, 2, none⟩ = some (.int .i64 no) ∧ V.cell? ⟨b, off + hh * 3, none⟩ = some (.int .i64 zhh) ∧ V.cell? ⟨b, off + oo * 3, none⟩ = some (.int .i64 zoo)) (by kernel_rfl) HE.out (fun _ => ?_)
                          refine tk 0 (HE.out) ?_
                          try simp only [Act.put, pA, pB, pC]
                          refine tk 1 (HE.out) ?_
                          try simp only [Act.put, pA, pB, pC]
                          refine tk 2 (HE.out) ?_
                          try simp only [Act.put, pA, pB, pC]
                          refine tk 3 (HE.out) ?_
                          try simp only [Act.put, pA, pB, pC]
                          refine tk 4 (HE.out) ?_
                          try simp only [Act.put, pA, pB, pC]
                          refine tk 5 (HE.out) ?_
                          try simp only [Act.put, pA, pB, pC]
                          refine tk 6 (HE.out) ?_
                          try simp only [Act.put, pA, pB, pC]
                          refine tk 7 (HE.out) ?_
                          try simp only [Act.put, pA, pB, pC]
                          refine tk 8 (HE.out) ?_
                          try simp only [Act.put, pA, pB, pC]
                          refine tk 9 (HE.out) ?_
                          try simp only [Act.put, pA, pB, pC]
                          refine tk 10 (HE.out) ?_
                          try simp only [Act.put, pA, pB, pC]
                          refine tk 11 (HE.out) ?_
                          try simp only [Act.put, pA, pB, pC]
                          refine tk 12 (HE.out) ?_
                          try simp only [Act.put, pA, pB, pC]
                          refine tk 13 (HE.out) ?_
                          try simp only [Act.put, pA, pB, pC]
                          refine tk 14 (HE.out) ?_
                          try simp only [Act.put, pA, pB, pC]
                          refine tk 15 (HE.out) ?_
                          try simp only [Act.put, pA, pB, pC]
                          refine tk 16 (HE.out) ?_
                          try simp only [Act.put, pA, pB, pC]
                          refine tk 17 (HE.out) ?_
                          try simp only [Act.put, pA, pB, pC]
                          refine tk 18 (HE.out) ?_
                          try simp only [Act.put, pA, pB, pC]
                          refine tk 19 (HE.out) ?_
                          try simp only [Act.put, pA, pB, pC]
                          refine tk 20 (HE.out) ?_
                          try simp only [Act.put, pA, pB, pC]
                          refine tk 21 (HE.out) ?_
                          try simp only [Act.put, pA, pB, pC]
                          refine tk 22 (HE.out) ?_
                          try simp only [Act.put, pA, pB, pC]
                          refine tk 23 (HE.out) ?_
                          try simp only [Act.put, pA, pB, pC]
                          refine tk 24 (HE.out) ?_
                          try simp only [Act.put, pA, pB, pC]
                          refine tk 25 (HE.out) ?_
                          try simp only [Act.put, pA, pB, pC]
                          refine tk 26 (HE.out) ?_
                          try simp only [Act.put, pA, pB, pC]
                          refine tk 27 (HE.out) ?_
                          try simp only [Act.put, pA, pB, pC]
                          refine tk 28 (HE.out) ?_
                          try simp only [Act.put, pA, pB, pC]
                          refine tk 29 (HE.out) ?_
                          try simp only [Act.put, pA, pB, pC]
                          refine tk 30 (HE.out) ?_
                          try simp only [Act.put, pA, pB, pC]
                          refine tk 31 (HE.out) ?_
                          try simp only [Act.put, pA, pB, pC]
                          refine tk 32 (HE.out) ?_
                          try simp only [Act.put, pA, pB, pC]
                          refine tk 33 (HE.out) ?_
                          try simp only [Act.put, pA, pB, pC]
                          refine wpAnyH_done (by kernel_rfl) ?_ _
                          have HD := Lib.hid (HV4.out.1.drew)
                          have HOK := Lib.hid (HYES.out (by have := HL.out; have := HX.out; omega))
                          go_wp2
                          go_roundw
                          case rel => exact ⟨j + 1, by go_num, by have := HX.out.1; omega, Lib.hid (fun k hk => by
                            rcases Nat.lt_or_eq_of_le (Nat.le_of_lt_succ hk) with h | h
                            · exact h0.out k h
                            · rw [h]; exact HOK.out), HD⟩
                          case measure => have := HX.out.1; simp [intOf]; omega
                      · have goo : ¬ (1 : Int) < no := by omega
                        have hloo : litI is no = 12 := by unfold litI; rw [if_pos (by omega)]
                        have HL := Lib.hid (And.intro hlhh hloo)
                        clear hlhh hloo
                        clear hhh huhh
                        have HE : Hid (V4.drew.cell? ⟨w.heap.size, 0, none⟩ = some (.slice (some ⟨b, off, none⟩) n c) ∧ V4.drew.cell? ⟨z, 0, none⟩ = some (.int .i64 nl) ∧ V4.drew.cell? ⟨z, 1, none⟩ = some (.int .i64 nh) ∧ V4.drew.cell? ⟨z, 2, none⟩ = some (.int .i64 no) ∧ V4.drew.cell? ⟨b, off + hh * 3, none⟩ = some (.int .i64 zhh)) := Lib.hid ⟨(HC.out _ HB0.out).1, (HC.out _ HB0.out).2.1, (HC.out _ HB0.out).2.2.1, (HC.out _ HB0.out).2.2.2, ehh⟩
                        clear ehh
                        refine wp_region_held_drew (S := fun V => V.cell? ⟨w.heap.size, 0, none⟩ = some (.slice (some ⟨b, off, none⟩) n c) ∧ V.cell? ⟨z, 0, none⟩ = some (.int .i64 nl) ∧ V.cell? ⟨z, 1, none⟩ = some (.int .i64 nh) ∧ V.cell? ⟨z, 2, none⟩ = some (.int .i64 no) ∧ V.cell? ⟨b, off + hh * 3, none⟩ = some (.int .i64 zhh)) (by kernel_rfl) HE.out (fun _ => ?_)
                        refine tk 0 (HE.out) ?_
                        try simp only [Act.put, pA, pB, pC]
                        refine tk 1 (HE.out) ?_
                        try simp only [Act.put, pA, pB, pC]
                        refine tk 2 (HE.out) ?_
                        try simp only [Act.put, pA, pB, pC]
                        refine tk 3 (HE.out) ?_
                        try simp only [Act.put, pA, pB, pC]
                        refine tk 4 (HE.out) ?_
                        try simp only [Act.put, pA, pB, pC]
                        refine tk 5 (HE.out) ?_
                        try simp only [Act.put, pA, pB, pC]
                        refine tk 6 (HE.out) ?_
                        try simp only [Act.put, pA, pB, pC]
                        refine tk 7 (HE.out) ?_
                        try simp only [Act.put, pA, pB, pC]
                        refine tk 8 (HE.out) ?_
                        try simp only [Act.put, pA, pB, pC]
                        refine tk 9 (HE.out) ?_
                        try simp only [Act.put, pA, pB, pC]
                        refine tk 10 (HE.out) ?_
                        try simp only [Act.put, pA, pB, pC]
                        refine tk 11 (HE.out) ?_
                        try simp only [Act.put, pA, pB, pC]
                        refine tk 12 (HE.out) ?_
                        try simp only [Act.put, pA, pB, pC]
                        refine tk 13 (HE.out) ?_
                        try simp only [Act.put, pA, pB, pC]
                        refine tk 14 (HE.out) ?_
                        try simp only [Act.put, pA, pB, pC]
                        refine tk 15 (HE.out) ?_
                        try simp only [Act.put, pA, pB, pC]
                        refine tk 16 (HE.out) ?_
                        try simp only [Act.put, pA, pB, pC]
                        refine tk 17 (HE.out) ?_
                        try simp only [Act.put, pA, pB, pC]
                        refine tk 18 (HE.out) ?_
                        try simp only [Act.put, pA, pB, pC]
                        refine tk 19 (HE.out) ?_
                        try simp only [Act.put, pA, pB, pC]
                        refine tk 20 (HE.out) ?_
                        try simp only [Act.put, pA, pB, pC]
                        refine tu 21 (HE.out) ?_
                        try simp only [Act.put, pA, pB, pC]
                        refine tu 22 (HE.out) ?_
                        try simp only [Act.put, pA, pB, pC]
                        refine tu 23 (HE.out) ?_
                        try simp only [Act.put, pA, pB, pC]
                        refine tu 24 (HE.out) ?_
                        try simp only [Act.put, pA, pB, pC]
                        refine tu 25 (HE.out) ?_
                        try simp only [Act.put, pA, pB, pC]
                        refine tu 26 (HE.out) ?_
                        try simp only [Act.put, pA, pB, pC]
                        refine tu 27 (HE.out) ?_
                        try simp only [Act.put, pA, pB, pC]
                        refine tu 28 (HE.out) ?_
                        try simp only [Act.put, pA, pB, pC]
                        refine tu 29 (HE.out) ?_
                        try simp only [Act.put, pA, pB, pC]
                        refine tu 30 (HE.out) ?_
                        try simp only [Act.put, pA, pB, pC]
                        refine tu 31 (HE.out) ?_
                        try simp only [Act.put, pA, pB, pC]
                        refine tk 32 (HE.out) ?_
                        try simp only [Act.put, pA, pB, pC]
                        refine tk 33 (HE.out) ?_
                        try simp only [Act.put, pA, pB, pC]
                        refine wpAnyH_done (by kernel_rfl) ?_ _
                        have HD := Lib.hid (HV4.out.1.drew)
                        have HOK := Lib.hid (HYES.out (by have := HL.out; have := HX.out; omega))
                        go_wp2
                        go_roundw
                        case rel => exact ⟨j + 1, by go_num, by have := HX.out.1; omega, Lib.hid (fun k hk => by
                          rcases Nat.lt_or_eq_of_le (Nat.le_of_lt_succ hk) with h | h
                          · exact h0.out k h
                          · rw [h]; exact HOK.out), HD⟩
                        case measure => have := HX.out.1; simp [intOf]; omega
                  · have ghh : ¬ (1 : Int) < nh := by omega
                    have hlhh : litI is nh = 12 := by unfold litI; rw [if_pos (by omega)]
                    by_cases dq : 2 ≤ no
                    · obtain ⟨oo, hoo⟩ : ∃ q : Nat, no = (q : Int) + 2 := ⟨(no - 2).toNat, by omega⟩
                      obtain ⟨⟨zoo, zzoo⟩, huoo, eoo⟩ := HNODE.out _ oo (by have := HX.out; omega) HBW.out
                      dsimp only at eoo
                      have goo : (1 : Int) < no := by omega
                      have woo : IntKind.i64.wrap (no - 2) = (oo : Int) := by have := HX.out; rw [IntWalk.i64_in _ (by omega)]; omega
                      have ioo : (oo : Int) < (n : Int) := by have := HX.out; omega
                      have joo : (0 : Int) ≤ (oo : Int) := by omega
                      have hloo : litI is no = zoo := litI_at hoo huoo
                      by_cases loo : zoo ≤ nl
                      · have HL := Lib.hid (And.intro hlhh hloo)
                        clear hlhh hloo
                        clear hoo huoo
                        have HE : Hid (V4.drew.cell? ⟨w.heap.size, 0, none⟩ = some (.slice (some ⟨b, off, none⟩) n c) ∧ V4.drew.cell? ⟨z, 0, none⟩ = some (.int .i64 nl) ∧ V4.drew.cell? ⟨z, 1, none⟩ = some (.int .i64 nh) ∧ V4.drew.cell? ⟨z, 2, none⟩ = some (.int .i64 no) ∧ V4.drew.cell? ⟨b, off + oo * 3, none⟩ = some (.int .i64 zoo)) := Lib.hid ⟨(HC.out _ HB0.out).1, (HC.out _ HB0.out).2.1, (HC.out _ HB0.out).2.2.1, (HC.out _ HB0.out).2.2.2, eoo⟩
                        clear eoo
                        refine wp_region_held_drew (S := fun V => V.cell? ⟨w.heap.size, 0, none⟩ = some (.slice (some ⟨b, off, none⟩) n c) ∧ V.cell? ⟨z, 0, none⟩ = some (.int .i64 nl) ∧ V.cell? ⟨z, 1, none⟩ = some (.int .i64 nh) ∧ V.cell? ⟨z, 2, none⟩ = some (.int .i64 no) ∧ V.cell? ⟨b, off + oo * 3, none⟩ = some (.int .i64 zoo)) (by kernel_rfl) HE.out (fun _ => ?_)
                        refine tk 0 (HE.out) ?_
                        try simp only [Act.put, pA, pB, pC]
                        refine tk 1 (HE.out) ?_
                        try simp only [Act.put, pA, pB, pC]
                        refine tk 2 (HE.out) ?_
                        try simp only [Act.put, pA, pB, pC]
                        refine tk 3 (HE.out) ?_
                        try simp only [Act.put, pA, pB, pC]
                        refine tu 4 (HE.out) ?_
                        try simp only [Act.put, pA, pB, pC]
                        refine tu 5 (HE.out) ?_
                        try simp only [Act.put, pA, pB, pC]
                        refine tu 6 (HE.out) ?_
                        try simp only [Act.put, pA, pB, pC]
                        refine tu 7 (HE.out) ?_
                        try simp only [Act.put, pA, pB, pC]
                        refine tu 8 (HE.out) ?_
                        try simp only [Act.put, pA, pB, pC]
                        refine tu 9 (HE.out) ?_
                        try simp only [Act.put, pA, pB, pC]
                        refine tu 10 (HE.out) ?_
                        try simp only [Act.put, pA, pB, pC]
                        refine tu 11 (HE.out) ?_
                        try simp only [Act.put, pA, pB, pC]
                        refine tu 12 (HE.out) ?_
                        try simp only [Act.put, pA, pB, pC]
                        refine tu 13 (HE.out) ?_
                        try simp only [Act.put, pA, pB, pC]
                        refine tu 14 (HE.out) ?_
                        try simp only [Act.put, pA, pB, pC]
                        refine tk 15 (HE.out) ?_
                        try simp only [Act.put, pA, pB, pC]
                        refine tk 16 (HE.out) ?_
                        try simp only [Act.put, pA, pB, pC]
                        refine tk 17 (HE.out) ?_
                        try simp only [Act.put, pA, pB, pC]
                        refine tk 18 (HE.out) ?_
                        try simp only [Act.put, pA, pB, pC]
                        refine tk 19 (HE.out) ?_
                        try simp only [Act.put, pA, pB, pC]
                        refine tk 20 (HE.out) ?_
                        try simp only [Act.put, pA, pB, pC]
                        refine tk 21 (HE.out) ?_
                        try simp only [Act.put, pA, pB, pC]
                        refine tk 22 (HE.out) ?_
                        try simp only [Act.put, pA, pB, pC]
                        refine tk 23 (HE.out) ?_
                        try simp only [Act.put, pA, pB, pC]
                        refine tk 24 (HE.out) ?_
                        try simp only [Act.put, pA, pB, pC]
                        refine tk 25 (HE.out) ?_
                        try simp only [Act.put, pA, pB, pC]
                        refine tk 26 (HE.out) ?_
                        try simp only [Act.put, pA, pB, pC]
                        refine tk 27 (HE.out) ?_
                        try simp only [Act.put, pA, pB, pC]
                        refine tk 28 (HE.out) ?_
                        try simp only [Act.put, pA, pB, pC]
                        refine tk 29 (HE.out) ?_
                        try simp only [Act.put, pA, pB, pC]
                        refine tk 30 (HE.out) ?_
                        try simp only [Act.put, pA, pB, pC]
                        refine tk 31 (HE.out) ?_
                        try simp only [Act.put, pA, pB, pC]
                        refine tk 32 (HE.out) ?_
                        try simp only [Act.put, pA, pB, pC]
                        refine tk 33 (HE.out) ?_
                        try simp only [Act.put, pA, pB, pC]
                        refine wpAnyH_done (by kernel_rfl) ?_ _
                        have HD := Lib.hid (HV4.out.2.drew)
                        have HE2 := Lib.hid (HNO.out (by have := HL.out; omega))
                        go_wp2
                        go_ret
                        exact ⟨HE2.out, HD.out⟩
                      · have HL := Lib.hid (And.intro hlhh hloo)
                        clear hlhh hloo
                        clear hoo huoo
                        have HE : Hid (V4.drew.cell? ⟨w.heap.size, 0, none⟩ = some (.slice (some ⟨b, off, none⟩) n c) ∧ V4.drew.cell? ⟨z, 0, none⟩ = some (.int .i64 nl) ∧ V4.drew.cell? ⟨z, 1, none⟩ = some (.int .i64 nh) ∧ V4.drew.cell? ⟨z, 2, none⟩ = some (.int .i64 no) ∧ V4.drew.cell? ⟨b, off + oo * 3, none⟩ = some (.int .i64 zoo)) := Lib.hid ⟨(HC.out _ HB0.out).1, (HC.out _ HB0.out).2.1, (HC.out _ HB0.out).2.2.1, (HC.out _ HB0.out).2.2.2, eoo⟩
                        clear eoo
                        refine wp_region_held_drew (S := fun V => V.cell? ⟨w.heap.size, 0, none⟩ = some (.slice (some ⟨b, off, none⟩) n c) ∧ V.cell? ⟨z, 0, none⟩ = some (.int .i64 nl) ∧ V.cell? ⟨z, 1, none⟩ = some (.int .i64 nh) ∧ V.cell? ⟨z, 2, none⟩ = some (.int .i64 no) ∧ V.cell? ⟨b, off + oo * 3, none⟩ = some (.int .i64 zoo)) (by kernel_rfl) HE.out (fun _ => ?_)
                        refine tk 0 (HE.out) ?_
                        try simp only [Act.put, pA, pB, pC]
                        refine tk 1 (HE.out) ?_
                        try simp only [Act.put, pA, pB, pC]
                        refine tk 2 (HE.out) ?_
                        try simp only [Act.put, pA, pB, pC]
                        refine tk 3 (HE.out) ?_
                        try simp only [Act.put, pA, pB, pC]
                        refine tu 4 (HE.out) ?_
                        try simp only [Act.put, pA, pB, pC]
                        refine tu 5 (HE.out) ?_
                        try simp only [Act.put, pA, pB, pC]
                        refine tu 6 (HE.out) ?_
                        try simp only [Act.put, pA, pB, pC]
                        refine tu 7 (HE.out) ?_
                        try simp only [Act.put, pA, pB, pC]
                        refine tu 8 (HE.out) ?_
                        try simp only [Act.put, pA, pB, pC]
                        refine tu 9 (HE.out) ?_
                        try simp only [Act.put, pA, pB, pC]
                        refine tu 10 (HE.out) ?_
                        try simp only [Act.put, pA, pB, pC]
                        refine tu 11 (HE.out) ?_
                        try simp only [Act.put, pA, pB, pC]
                        refine tu 12 (HE.out) ?_
                        try simp only [Act.put, pA, pB, pC]
                        refine tu 13 (HE.out) ?_
                        try simp only [Act.put, pA, pB, pC]
                        refine tu 14 (HE.out) ?_
                        try simp only [Act.put, pA, pB, pC]
                        refine tk 15 (HE.out) ?_
                        try simp only [Act.put, pA, pB, pC]
                        refine tk 16 (HE.out) ?_
                        try simp only [Act.put, pA, pB, pC]
                        refine tk 17 (HE.out) ?_
                        try simp only [Act.put, pA, pB, pC]
                        refine tk 18 (HE.out) ?_
                        try simp only [Act.put, pA, pB, pC]
                        refine tk 19 (HE.out) ?_
                        try simp only [Act.put, pA, pB, pC]
                        refine tk 20 (HE.out) ?_
                        try simp only [Act.put, pA, pB, pC]
                        refine tk 21 (HE.out) ?_
                        try simp only [Act.put, pA, pB, pC]
                        refine tk 22 (HE.out) ?_
                        try simp only [Act.put, pA, pB, pC]
                        refine tk 23 (HE.out) ?_
                        try simp only [Act.put, pA, pB, pC]
                        refine tk 24 (HE.out) ?_
                        try simp only [Act.put, pA, pB, pC]
                        refine tk 25 (HE.out) ?_
                        try simp only [Act.put, pA, pB, pC]
                        refine tk 26 (HE.out) ?_
                        try simp only [Act.put, pA, pB, pC]
                        refine tk 27 (HE.out) ?_
                        try simp only [Act.put, pA, pB, pC]
                        refine tk 28 (HE.out) ?_
                        try simp only [Act.put, pA, pB, pC]
                        refine tk 29 (HE.out) ?_
                        try simp only [Act.put, pA, pB, pC]
                        refine tk 30 (HE.out) ?_
                        try simp only [Act.put, pA, pB, pC]
                        refine tk 31 (HE.out) ?_
                        try simp only [Act.put, pA, pB, pC]
                        refine tk 32 (HE.out) ?_
                        try simp only [Act.put, pA, pB, pC]
                        refine tk 33 (HE.out) ?_
                        try simp only [Act.put, pA, pB, pC]
                        refine wpAnyH_done (by kernel_rfl) ?_ _
                        have HD := Lib.hid (HV4.out.1.drew)
                        have HOK := Lib.hid (HYES.out (by have := HL.out; have := HX.out; omega))
                        go_wp2
                        go_roundw
                        case rel => exact ⟨j + 1, by go_num, by have := HX.out.1; omega, Lib.hid (fun k hk => by
                          rcases Nat.lt_or_eq_of_le (Nat.le_of_lt_succ hk) with h | h
                          · exact h0.out k h
                          · rw [h]; exact HOK.out), HD⟩
                        case measure => have := HX.out.1; simp [intOf]; omega
                    · have goo : ¬ (1 : Int) < no := by omega
                      have hloo : litI is no = 12 := by unfold litI; rw [if_pos (by omega)]
                      have HL := Lib.hid (And.intro hlhh hloo)
                      clear hlhh hloo
                      have HE : Hid (V4.drew.cell? ⟨w.heap.size, 0, none⟩ = some (.slice (some ⟨b, off, none⟩) n c) ∧ V4.drew.cell? ⟨z, 0, none⟩ = some (.int .i64 nl) ∧ V4.drew.cell? ⟨z, 1, none⟩ = some (.int .i64 nh) ∧ V4.drew.cell? ⟨z, 2, none⟩ = some (.int .i64 no)) := Lib.hid ⟨(HC.out _ HB0.out).1, (HC.out _ HB0.out).2.1, (HC.out _ HB0.out).2.2.1, (HC.out _ HB0.out).2.2.2⟩
                      refine wp_region_held_drew (S := fun V => V.cell? ⟨w.heap.size, 0, none⟩ = some (.slice (some ⟨b, off, none⟩) n c) ∧ V.cell? ⟨z, 0, none⟩ = some (.int .i64 nl) ∧ V.cell? ⟨z, 1, none⟩ = some (.int .i64 nh) ∧ V.cell? ⟨z, 2, none⟩ = some (.int .i64 no)) (by kernel_rfl) HE.out (fun _ => ?_)
                      refine tk 0 (HE.out) ?_
                      try simp only [Act.put, pA, pB, pC]
                      refine tk 1 (HE.out) ?_
                      try simp only [Act.put, pA, pB, pC]
                      refine tk 2 (HE.out) ?_
                      try simp only [Act.put, pA, pB, pC]
                      refine tk 3 (HE.out) ?_
                      try simp only [Act.put, pA, pB, pC]
                      refine tu 4 (HE.out) ?_
                      try simp only [Act.put, pA, pB, pC]
                      refine tu 5 (HE.out) ?_
                      try simp only [Act.put, pA, pB, pC]
                      refine tu 6 (HE.out) ?_
                      try simp only [Act.put, pA, pB, pC]
                      refine tu 7 (HE.out) ?_
                      try simp only [Act.put, pA, pB, pC]
                      refine tu 8 (HE.out) ?_
                      try simp only [Act.put, pA, pB, pC]
                      refine tu 9 (HE.out) ?_
                      try simp only [Act.put, pA, pB, pC]
                      refine tu 10 (HE.out) ?_
                      try simp only [Act.put, pA, pB, pC]
                      refine tu 11 (HE.out) ?_
                      try simp only [Act.put, pA, pB, pC]
                      refine tu 12 (HE.out) ?_
                      try simp only [Act.put, pA, pB, pC]
                      refine tu 13 (HE.out) ?_
                      try simp only [Act.put, pA, pB, pC]
                      refine tu 14 (HE.out) ?_
                      try simp only [Act.put, pA, pB, pC]
                      refine tk 15 (HE.out) ?_
                      try simp only [Act.put, pA, pB, pC]
                      refine tk 16 (HE.out) ?_
                      try simp only [Act.put, pA, pB, pC]
                      refine tk 17 (HE.out) ?_
                      try simp only [Act.put, pA, pB, pC]
                      refine tk 18 (HE.out) ?_
                      try simp only [Act.put, pA, pB, pC]
                      refine tk 19 (HE.out) ?_
                      try simp only [Act.put, pA, pB, pC]
                      refine tk 20 (HE.out) ?_
                      try simp only [Act.put, pA, pB, pC]
                      refine tu 21 (HE.out) ?_
                      try simp only [Act.put, pA, pB, pC]
                      refine tu 22 (HE.out) ?_
                      try simp only [Act.put, pA, pB, pC]
                      refine tu 23 (HE.out) ?_
                      try simp only [Act.put, pA, pB, pC]
                      refine tu 24 (HE.out) ?_
                      try simp only [Act.put, pA, pB, pC]
                      refine tu 25 (HE.out) ?_
                      try simp only [Act.put, pA, pB, pC]
                      refine tu 26 (HE.out) ?_
                      try simp only [Act.put, pA, pB, pC]
                      refine tu 27 (HE.out) ?_
                      try simp only [Act.put, pA, pB, pC]
                      refine tu 28 (HE.out) ?_
                      try simp only [Act.put, pA, pB, pC]
                      refine tu 29 (HE.out) ?_
                      try simp only [Act.put, pA, pB, pC]
                      refine tu 30 (HE.out) ?_
                      try simp only [Act.put, pA, pB, pC]
                      refine tu 31 (HE.out) ?_
                      try simp only [Act.put, pA, pB, pC]
                      refine tk 32 (HE.out) ?_
                      try simp only [Act.put, pA, pB, pC]
                      refine tk 33 (HE.out) ?_
                      try simp only [Act.put, pA, pB, pC]
                      refine wpAnyH_done (by kernel_rfl) ?_ _
                      have HD := Lib.hid (HV4.out.1.drew)
                      have HOK := Lib.hid (HYES.out (by have := HL.out; have := HX.out; omega))
                      go_wp2
                      go_roundw
                      case rel => exact ⟨j + 1, by go_num, by have := HX.out.1; omega, Lib.hid (fun k hk => by
                        rcases Nat.lt_or_eq_of_le (Nat.le_of_lt_succ hk) with h | h
                        · exact h0.out k h
                        · rw [h]; exact HOK.out), HD⟩
                      case measure => have := HX.out.1; simp [intOf]; omega
    · have q1 : ¬ (j : Int) < (n : Int) := by omega
      have hwn : IntKind.i64.wrap ((n : Int) + 2) = ((n + 2 : Nat) : Int) := by have := HN.out.2.2; rw [IntWalk.i64_in _ (by omega)]; omega
      obtain ⟨n2, hn2⟩ : ∃ n2, n2 = n + 2 := ⟨_, rfl⟩
      rw [← hn2] at hwn
      have HFIN : Hid (res = decide (0 ≤ x ∧ x < (n2 : Int))) := Lib.hid (by
        have hl := HN.out.2.1
        rw [← HR.out, ordI_true (fun k hk => h0.out k (by omega)), decide_eq_decide]
        omega)
      have HBW := Lib.hid hbw
      clear hbw hj hjn hn2 h0
      by_cases r1 : (0 : Int) ≤ x
      · by_cases r2 : x < (n2 : Int)
        · go_wp2
          go_ret
          exact ⟨rb6 (by rw [HFIN.out, decide_eq_true ⟨r1, r2⟩]), HBW.out⟩
        · go_wp2
          go_ret
          exact ⟨rb6 (by rw [HFIN.out, decide_eq_false (by omega)]), HBW.out⟩
      · go_wp2
        go_ret
        exact ⟨rb6 (by rw [HFIN.out, decide_eq_false (by omega)]), HBW.out⟩
end Go.Proofs.Ytplmbmecjhmiiaa
