/- isBelow, isOrdered. -/
import Derived.Test.YtplmbmecjhmiiaaDoorSmall6
import Derived.Test.YtplmbmecjhmiiaaDoorBuild6
namespace Go.Proofs.YtplmbmecjhmiiaaDoor
open Go Go.RowKit
def blwI (is : List (Int × Int × Int)) (i : Nat) (l r : Int) : Bool := decide (0 ≤ r ∧ r < 2 + (i : Int)) && decide (l < litI is r)
set_option maxRecDepth 100000 in
set_option maxHeartbeats 1600000 in
theorem isBelow_any (A : Option Addr) (n c : Nat) (is : List (Int × Int × Int)) (q r : Int) (i : Nat) (x : Int × Int × Int) (w : World) (h : NdR w (fun b => b < w.heap.size) A n c is) (hi : i < n) (hn : n ≤ 4611686018427387904) (hx : is[i]? = some x) :
    Calls Tryd.prog 39 #[.agg #[.slice A n c, .int .i64 q], .int .i64 i, .int .i64 r] w fun e w' => e = .returned (.bool (blwI is i x.1 r)) ∧ Below w.heap.size w w' := by
  obtain ⟨W, hW⟩ : ∃ W, W = w.alloc (.cells #[.slice A n c, .int .i64 q] 29) := ⟨_, rfl⟩
  have hb : Below w.heap.size w W := by rw [hW]; exact (Below.refl _ _).alloc (Nat.le_refl _) _
  have hm := h.max.1
  unfold maxLen at hm
  have k5 : W.heap[w.heap.size]? = some (.cells #[.slice A n c, .int .i64 q] 29 (0, 0)) := by rw [hW]; exact heap_alloc_new w _
  have HN := Lib.hid h
  obtain ⟨b, off, x', rfl, hbw, hx', c0, c1, c2⟩ := h.at hi
  obtain rfl : x = x' := by rw [hx] at hx'; exact Option.some.inj hx'
  have kn : (i : Int) < (n : Int) := by omega
  have k0 : (0 : Int) ≤ (i : Int) := by omega
  have HS : Hid (∀ V, Below W.heap.size W V → (V.cell? ⟨w.heap.size, 0, none⟩ = some (.slice (some ⟨b, off, none⟩) n c) ∧ V.cell? ⟨w.heap.size, 1, none⟩ = some (.int .i64 q) ∧ V.cell? ⟨b, off + i * 3, none⟩ = some (.int .i64 x.1))) := Lib.hid fun V hV => by
    have hz : W.heap.size = w.heap.size + 1 := by rw [hW]; simp
    obtain ⟨a0, a1⟩ := cells2 ((hV.block _ (by omega)).trans k5)
    exact ⟨a0, a1, ((hb.trans (hV.mono (by omega))).cell (p := ⟨b, _, none⟩) hbw).trans c0⟩
  have hre := isReference_any r i (by omega)
  have HB := Lib.hid hb
  unfold blwI
  by_cases hr : 0 ≤ r ∧ r < 2 + (i : Int)
  · have hd : decide (0 ≤ r ∧ r < 2 + (i : Int)) = true := by simpa using hr
    rw [hd] at hre ⊢
    simp only [Bool.true_and]
    have HL : Hid (∀ V, Below W.heap.size W V → Calls Tryd.prog 46 #[.agg #[.slice (some ⟨b, off, none⟩) n c, .int .i64 q], .int .i64 r] V fun e w' => e = .returned (.int .i64 (litI is r)) ∧ Below V.heap.size V w') := Lib.hid fun V hV => by
      have hz : W.heap.size = w.heap.size + 1 := by rw [hW]; simp
      have hbV := HB.out.trans (hV.mono (by omega))
      exact literalAt_any (some ⟨b, off, none⟩) n c is q r V ((HN.out.on hbV).up fun g hg => by have := hV.size; omega) hr.1 (by omega)
    generalize litI is r = lr at *
    clear hd hr c0 c1 c2 hx hx' hbw k5 hb hm hi hn
    go_enter Tryd.func39, Tryd.ntmps39
    go_wp2_with fail
    rw [← hW]
    clear hW
    refine wp_region_held_drew (S := fun V => (V.cell? ⟨w.heap.size, 0, none⟩ = some (.slice (some ⟨b, off, none⟩) n c) ∧ V.cell? ⟨w.heap.size, 1, none⟩ = some (.int .i64 q) ∧ V.cell? ⟨b, off + i * 3, none⟩ = some (.int .i64 x.1))) (by kernel_rfl) (HS.out _ (Below.refl _ W).drew) (fun _ => ?_)
    refine tk 0 (HS.out _ (Below.refl _ W).drew) ?_
    try simp only [Act.put, pA, pB, pC]
    refine tk 1 (HS.out _ (Below.refl _ W).drew) ?_
    try simp only [Act.put, pA, pB, pC]
    refine one_op 2 (by kernel_rfl) rfl (by rfl) (fun K hK => ?_)
    go_simp
    refine (hre _).mono ?_
    rintro e w1 ⟨rfl, rfl⟩
    refine hK _ _ (HS.out _ (Below.refl _ W).drew) ?_
    try simp only [Act.put, pA, pB, pC]
    clear hK K
    refine tk 3 (HS.out _ (Below.refl _ W).drew) ?_
    try simp only [Act.put, pA, pB, pC]
    refine tk 4 (HS.out _ (Below.refl _ W).drew) ?_
    try simp only [Act.put, pA, pB, pC]
    refine tk 5 (HS.out _ (Below.refl _ W).drew) ?_
    try simp only [Act.put, pA, pB, pC]
    refine tk 6 (HS.out _ (Below.refl _ W).drew) ?_
    try simp only [Act.put, pA, pB, pC]
    refine tk 7 (HS.out _ (Below.refl _ W).drew) ?_
    try simp only [Act.put, pA, pB, pC]
    refine tk 8 (HS.out _ (Below.refl _ W).drew) ?_
    try simp only [Act.put, pA, pB, pC]
    refine tk 9 (HS.out _ (Below.refl _ W).drew) ?_
    try simp only [Act.put, pA, pB, pC]
    refine tk 10 (HS.out _ (Below.refl _ W).drew) ?_
    try simp only [Act.put, pA, pB, pC]
    refine tk 11 (HS.out _ (Below.refl _ W).drew) ?_
    try simp only [Act.put, pA, pB, pC]
    refine one_op 12 (by kernel_rfl) rfl (by rfl) (fun K hK => ?_)
    go_simp
    refine (HL.out _ (Below.refl _ W).drew).mono ?_
    rintro e V2 ⟨rfl, hb2⟩
    have HB2 := Lib.hid ((Below.refl W.heap.size W).drew.trans (hb2.mono (Nat.le_refl _)))
    clear hb2
    refine hK _ _ (HS.out _ HB2.out) ?_
    try simp only [Act.put, pA, pB, pC]
    clear hK K
    refine tk 13 (HS.out _ HB2.out) ?_
    try simp only [Act.put, pA, pB, pC]
    refine tk 14 (HS.out _ HB2.out) ?_
    try simp only [Act.put, pA, pB, pC]
    refine tk 15 (HS.out _ HB2.out) ?_
    try simp only [Act.put, pA, pB, pC]
    refine wpAnyH_done (by kernel_rfl) ?_ _
    go_wp2
    go_ret
    exact ⟨rfl, HB.out.trans (HB2.out.mono HB.out.size)⟩
  · have hd : decide (0 ≤ r ∧ r < 2 + (i : Int)) = false := by simpa using hr
    rw [hd] at hre ⊢
    simp only [Bool.false_and]
    clear hd hr c0 c1 c2 hx hx' hbw k5 hb hm hi hn
    go_enter Tryd.func39, Tryd.ntmps39
    go_wp2_with fail
    rw [← hW]
    clear hW
    refine wp_region_held_drew (S := fun V => (V.cell? ⟨w.heap.size, 0, none⟩ = some (.slice (some ⟨b, off, none⟩) n c) ∧ V.cell? ⟨w.heap.size, 1, none⟩ = some (.int .i64 q) ∧ V.cell? ⟨b, off + i * 3, none⟩ = some (.int .i64 x.1))) (by kernel_rfl) (HS.out _ (Below.refl _ W).drew) (fun _ => ?_)
    refine tk 0 (HS.out _ (Below.refl _ W).drew) ?_
    try simp only [Act.put, pA, pB, pC]
    refine tk 1 (HS.out _ (Below.refl _ W).drew) ?_
    try simp only [Act.put, pA, pB, pC]
    refine one_op 2 (by kernel_rfl) rfl (by rfl) (fun K hK => ?_)
    go_simp
    refine (hre _).mono ?_
    rintro e w1 ⟨rfl, rfl⟩
    refine hK _ _ (HS.out _ (Below.refl _ W).drew) ?_
    try simp only [Act.put, pA, pB, pC]
    clear hK K
    refine tk 3 (HS.out _ (Below.refl _ W).drew) ?_
    try simp only [Act.put, pA, pB, pC]
    refine tu 4 (HS.out _ (Below.refl _ W).drew) ?_
    try simp only [Act.put, pA, pB, pC]
    refine tu 5 (HS.out _ (Below.refl _ W).drew) ?_
    try simp only [Act.put, pA, pB, pC]
    refine tu 6 (HS.out _ (Below.refl _ W).drew) ?_
    try simp only [Act.put, pA, pB, pC]
    refine tu 7 (HS.out _ (Below.refl _ W).drew) ?_
    try simp only [Act.put, pA, pB, pC]
    refine tu 8 (HS.out _ (Below.refl _ W).drew) ?_
    try simp only [Act.put, pA, pB, pC]
    refine tu 9 (HS.out _ (Below.refl _ W).drew) ?_
    try simp only [Act.put, pA, pB, pC]
    refine tu 10 (HS.out _ (Below.refl _ W).drew) ?_
    try simp only [Act.put, pA, pB, pC]
    refine tu 11 (HS.out _ (Below.refl _ W).drew) ?_
    try simp only [Act.put, pA, pB, pC]
    refine tu 12 (HS.out _ (Below.refl _ W).drew) ?_
    try simp only [Act.put, pA, pB, pC]
    refine tu 13 (HS.out _ (Below.refl _ W).drew) ?_
    try simp only [Act.put, pA, pB, pC]
    refine tk 14 (HS.out _ (Below.refl _ W).drew) ?_
    try simp only [Act.put, pA, pB, pC]
    refine tk 15 (HS.out _ (Below.refl _ W).drew) ?_
    try simp only [Act.put, pA, pB, pC]
    refine wpAnyH_done (by kernel_rfl) ?_ _
    go_wp2
    go_ret
    exact ⟨rfl, HB.out.trans ((Below.refl W.heap.size W).drew.mono HB.out.size)⟩
def okI (is : List (Int × Int × Int)) (i : Nat) : Bool := match is[i]? with
  | some x => decide (0 ≤ x.1 ∧ x.1 < 12) && (blwI is i x.1 x.2.1 && blwI is i x.1 x.2.2)
  | none => false
def ordI (is : List (Int × Int × Int)) (q : Int) : Bool := (List.range is.length).all (okI is) && decide (0 ≤ q ∧ q < 2 + (is.length : Int))
theorem ordI_false {is : List (Int × Int × Int)} {q : Int} {j : Nat} (hj : j < is.length) (h : okI is j = false) : ordI is q = false := by
  unfold ordI
  rw [Bool.and_eq_false_iff]
  left
  rw [List.all_eq_false]
  exact ⟨j, List.mem_range.2 hj, by rw [h]; simp⟩
theorem ordI_true {is : List (Int × Int × Int)} {q : Int} (h : ∀ k, k < is.length → okI is k = true) : ordI is q = decide (0 ≤ q ∧ q < 2 + (is.length : Int)) := by
  unfold ordI
  rw [List.all_eq_true.2 fun k hk => h k (List.mem_range.1 hk), Bool.true_and]
theorem rb6 {a b : Bool} (h : a = b) : (Ending.returned (.bool a) : Ending) = .returned (.bool b) := by rw [h]
theorem lt_of_heap6 {w : World} {b : Nat} {o : Obj} (h : w.heap[b]? = some o) : b < w.heap.size := (Array.getElem?_eq_some_iff.1 h).1
set_option maxRecDepth 100000 in
set_option maxHeartbeats 1600000 in
theorem isOrdered_any (A : Option Addr) (n c : Nat) (is : List (Int × Int × Int)) (q : Int) (w : World) (h : NdR w (fun b => b < w.heap.size) A n c is) (hn : n ≤ 4611686018427387904) :
    Calls Tryd.prog 19 #[.agg #[.slice A n c, .int .i64 q]] w fun e w' => e = .returned (.bool (ordI is q)) ∧ Below w.heap.size w w' := by
  obtain ⟨W, hW⟩ : ∃ W, W = w.alloc (.cells #[.slice A n c, .int .i64 q] 29) := ⟨_, rfl⟩
  have hb : Below w.heap.size w W := by rw [hW]; exact (Below.refl _ _).alloc (Nat.le_refl _) _
  have hz : W.heap.size = w.heap.size + 1 := by rw [hW]; simp
  have k5 : W.heap[w.heap.size]? = some (.cells #[.slice A n c, .int .i64 q] 29 (0, 0)) := by rw [hW]; exact heap_alloc_new w _
  have HN := Lib.hid h
  have HLN := Lib.hid h.1
  have HK : Hid (∀ V, Below W.heap.size W V → V.heap[w.heap.size]? = some (.cells #[.slice A n c, .int .i64 q] 29 (0, 0)) ∧ Below w.heap.size w V) := Lib.hid fun V hV => ⟨(hV.block _ (by omega)).trans k5, hb.trans (hV.mono (by omega))⟩
  generalize hrr : ordI is q = r
  have HR := Lib.hid hrr
  clear hrr h k5 hb hz
  go_enter Tryd.func19, Tryd.ntmps19
  go_wp2_with fail
  rw [← hW]
  clear hW
  go_loopw [3, 4, 8] (fun _ _ i wr => ∃ j : Nat, i = .int .i64 j ∧ j ≤ n ∧ Hid (∀ k, k < j → okI is k = true) ∧ Below W.heap.size W wr) (fun _ _ i _ => n - (intOf i).toNat)
  case atStart => exact ⟨0, rfl, by omega, Lib.hid (fun k hk => absurd hk (by omega)), Below.refl _ _⟩
  case round =>
    obtain ⟨j, rfl, hj, h0, hwr⟩ := hrel
    obtain ⟨kd, hbw⟩ := HK.out _ hwr
    obtain ⟨y0, y1⟩ := cells2 kd
    by_cases hjn : j < n
    · obtain ⟨b, off, x, rfl, hbb, hx, c0, c1, c2⟩ := (HN.out.on hbw).at hjn
      have kn : (j : Int) < (n : Int) := by omega
      have k0 : (0 : Int) ≤ (j : Int) := by omega
      have hwj : IntKind.i64.wrap ((j : Int) + 1) = ((j + 1 : Nat) : Int) := by rw [IntWalk.i64_in _ (by omega)]; omega
      have hok : okI is j = (decide (0 ≤ x.1 ∧ x.1 < 12) && (blwI is j x.1 x.2.1 && blwI is j x.1 x.2.2)) := by unfold okI; rw [hx]
      have HB : Hid (∀ V r, Below W.heap.size W V → Calls Tryd.prog 39 #[.agg #[.slice (some ⟨b, off, none⟩) n c, .int .i64 q], .int .i64 j, .int .i64 r] V fun e w' => e = .returned (.bool (blwI is j x.1 r)) ∧ Below V.heap.size V w') := Lib.hid fun V r hV => by
        obtain ⟨_, hbV⟩ := HK.out _ hV
        exact isBelow_any _ n c is q r j x V ((HN.out.on hbV).up fun g hg => by have := hbV.size; omega) hjn hn hx
      obtain ⟨W4, hW4⟩ : ∃ W4, W4 = wr.alloc (.cells #[.int .i64 x.1, .int .i64 x.2.1, .int .i64 x.2.2] 51) := ⟨_, rfl⟩
      have hb4 : Below wr.heap.size wr W4 := by rw [hW4]; exact (Below.refl _ _).alloc (Nat.le_refl _) _
      have k4 : W4.heap[wr.heap.size]? = some (.cells #[.int .i64 x.1, .int .i64 x.2.1, .int .i64 x.2.2] 51 (0, 0)) := by rw [hW4]; exact heap_alloc_new wr _
      have hbW4 := hwr.trans (hb4.mono hwr.size)
      have HX := Lib.hid (And.intro hbW4 (And.intro k4 (And.intro hwr (And.intro hok hjn))))
      go_wp2_with fail
      rw [← hW4]
      clear hW4 c0 c1 c2 y0 y1 kd
      refine (isLiteral_any x.1 W4).mono ?_
      rintro e w5 ⟨rfl, rfl⟩
      generalize hp0 : decide (0 ≤ x.1 ∧ x.1 < 12) = p0 at *
      have HP0 := Lib.hid hp0
      clear hp0
      have HW4 := Lib.hid (HK.out _ HX.out.1).2
      cases p0
      · go_wp2
        go_ret
        exact ⟨rb6 (HR.out.symm.trans (ordI_false (by rw [HLN.out]; exact HX.out.2.2.2.2) (by rw [HX.out.2.2.2.1]; simp))).symm, HW4.out⟩
      · obtain ⟨f0, f1, f2⟩ := cells3 HX.out.2.1
        obtain ⟨y0, y1⟩ := cells2 (HK.out _ HX.out.1).1
        go_wp2_with fail
        clear f0 f1 f2 y0 y1
        refine (HB.out W4 x.2.1 HX.out.1).mono ?_
        rintro e w6 ⟨rfl, hb6⟩
        have hbW6 := HX.out.1.trans (hb6.mono HX.out.1.size)
        have k6 := (hb6.block _ (lt_of_heap6 HX.out.2.1)).trans HX.out.2.1
        have HX6 := Lib.hid (And.intro hbW6 k6)
        clear hb6 hbW6 k6
        have HW6 := Lib.hid (HK.out _ HX6.out.1).2
        generalize hp1 : blwI is j x.1 x.2.1 = p1 at *
        have HP1 := Lib.hid hp1
        clear hp1
        cases p1
        · go_wp2
          go_ret
          exact ⟨rb6 (HR.out.symm.trans (ordI_false (by rw [HLN.out]; exact HX.out.2.2.2.2) (by rw [HX.out.2.2.2.1]; simp))).symm, HW6.out⟩
        · obtain ⟨f0, f1, f2⟩ := cells3 HX6.out.2
          obtain ⟨y0, y1⟩ := cells2 (HK.out _ HX6.out.1).1
          go_wp2_with fail
          clear f0 f1 f2 y0 y1
          refine (HB.out w6 x.2.2 HX6.out.1).mono ?_
          rintro e w7 ⟨rfl, hb7⟩
          have HX7 := Lib.hid (HX6.out.1.trans (hb7.mono HX6.out.1.size))
          clear hb7
          have HW7 := Lib.hid (HK.out _ HX7.out).2
          generalize hp2 : blwI is j x.1 x.2.2 = p2 at *
          have HP2 := Lib.hid hp2
          clear hp2
          cases p2
          · go_wp2
            go_ret
            exact ⟨rb6 (HR.out.symm.trans (ordI_false (by rw [HLN.out]; exact HX.out.2.2.2.2) (by rw [HX.out.2.2.2.1]; simp))).symm, HW7.out⟩
          · go_wp2
            go_roundw
            case rel => exact ⟨j + 1, by go_num, by omega, Lib.hid (fun k hk => by
              rcases Nat.lt_or_eq_of_le (Nat.le_of_lt_succ hk) with h | h
              · exact h0.out k h
              · rw [h, HX.out.2.2.2.1]; simp), HX7.out⟩
            case measure => simp [intOf]; omega
    · have hw2 := isReference_any q n hn wr
      have HJ : Hid (ordI is q = decide (0 ≤ q ∧ q < 2 + (n : Int))) := Lib.hid (by
        obtain rfl : j = n := by omega
        rw [ordI_true (fun k hk => h0.out k (by rw [← HLN.out]; exact hk)), HLN.out])
      generalize decide (0 ≤ q ∧ q < 2 + (n : Int)) = z at *
      have HW := Lib.hid hbw
      have q1 : decide ((j : Int) < (n : Int)) = false := by rw [decide_eq_false_iff_not]; omega
      clear kd hbw hwr h0
      have HI := Lib.hid hw2
      clear hw2
      go_wp2_with fail
      refine HI.out.mono ?_
      rintro e w5 ⟨rfl, rfl⟩
      go_wp2
      go_ret
      exact ⟨rb6 (HJ.out.symm.trans HR.out), HW.out⟩
end Go.Proofs.YtplmbmecjhmiiaaDoor
