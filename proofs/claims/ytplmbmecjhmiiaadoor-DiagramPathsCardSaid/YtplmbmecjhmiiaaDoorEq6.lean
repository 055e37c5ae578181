/- slices.Equal on rows of nodes; the document's EqualDiagrams. -/
import Derived.Test.YtplmbmecjhmiiaaDoorKit6
import Derived.Test.YtplmbmecjhmiiaaDoorPar
namespace Go.Proofs.YtplmbmecjhmiiaaDoor
open Go Go.RowKit
def v3 (x : Int × Int × Int) : Value := .agg #[.int .i64 x.1, .int .i64 x.2.1, .int .i64 x.2.2]
theorem neq_nd (x y : Int × Int × Int) (h : x ≠ y) (V : World) : (binOp .neq 51 (.agg #[.int .i64 x.1, .int .i64 x.2.1, .int .i64 x.2.2]) (.agg #[.int .i64 y.1, .int .i64 y.2.1, .int .i64 y.2.2])).run Tryd.prog V = .ok (.bool true) V := by
  obtain ⟨a, b, c⟩ := x
  obtain ⟨d, e, f⟩ := y
  go_simp
  intro h1 h2 h3
  exact h (by rw [h1, h2, h3])
theorem neq_nd' (x : Int × Int × Int) (V : World) : (binOp .neq 51 (.agg #[.int .i64 x.1, .int .i64 x.2.1, .int .i64 x.2.2]) (.agg #[.int .i64 x.1, .int .i64 x.2.1, .int .i64 x.2.2])).run Tryd.prog V = .ok (.bool false) V := by
  go_simp
theorem list_ext {α : Type} {l m : List α} (h : l.length = m.length) (hk : ∀ k, k < l.length → l[k]? = m[k]?) : l = m := by
  apply List.ext_getElem?
  intro k
  by_cases hkl : k < l.length
  · exact hk k hkl
  · rw [List.getElem?_eq_none (by omega), List.getElem?_eq_none (by omega)]
set_option maxRecDepth 100000 in
set_option maxHeartbeats 1600000 in
theorem equalNd_any (A B : Option Addr) (n c m d : Nat) (is js : List (Int × Int × Int)) (w : World) (h1 : NdR w (fun b => b < w.heap.size) A n c is) (h2 : NdR w (fun b => b < w.heap.size) B m d js) (hn : n ≤ 4611686018427387904) :
    Calls Tryd.prog 21 #[.slice A n c, .slice B m d] w fun e w' => e = .returned (.bool (decide (is = js))) ∧ Below w.heap.size w w' := by
  have l1 := h1.1
  have l2 := h2.1
  by_cases hnm : n = m
  · subst hnm
    have HN := Lib.hid h1
    have HM := Lib.hid h2
    have HL := Lib.hid (And.intro l1 l2)
    generalize hrr : decide (is = js) = r
    have HR := Lib.hid hrr
    have HNN := Lib.hid hn
    clear hrr h1 h2 l1 l2 hn
    go_enter Tryd.func21, Tryd.ntmps21
    go_wp2_with fail
    go_loopw [13] (fun i wr => ∃ j : Nat, i = .int .i64 j ∧ j ≤ n ∧ Hid (∀ k, k < j → is[k]? = js[k]?) ∧ Hid (Below w.heap.size w wr)) (fun i _ => n - (intOf i).toNat)
    case atStart => exact ⟨0, rfl, by omega, Lib.hid (fun k hk => absurd hk (by omega)), Lib.hid (Below.refl _ _)⟩
    case round =>
      obtain ⟨j, rfl, hj, h0, hwr⟩ := hrel
      by_cases hjn : j < n
      · obtain ⟨b1, o1, x, rfl, hbb, hx, c0, c1, c2⟩ := (HN.out.on hwr.out).at hjn
        obtain ⟨b2, o2, y, rfl, hbb2, hy, d0, d1, d2⟩ := (HM.out.on hwr.out).at hjn
        have kn : (j : Int) < (n : Int) := by omega
        have k0 : (0 : Int) ≤ (j : Int) := by omega
        have hwj : IntKind.i64.wrap ((j : Int) + 1) = ((j + 1 : Nat) : Int) := by have := HNN.out; rw [IntWalk.i64_in _ (by omega)]; omega
        have HX := Lib.hid (And.intro hx hy)
        have HJ := Lib.hid hjn
        have HC : Hid (∀ V, Below wr.heap.size wr V → (V.cell? ⟨b1, o1 + j * 3, none⟩ = some (.int .i64 x.1) ∧ V.cell? ⟨b1, o1 + j * 3 + 1, none⟩ = some (.int .i64 x.2.1) ∧ V.cell? ⟨b1, o1 + j * 3 + 2, none⟩ = some (.int .i64 x.2.2) ∧ V.cell? ⟨b2, o2 + j * 3, none⟩ = some (.int .i64 y.1) ∧ V.cell? ⟨b2, o2 + j * 3 + 1, none⟩ = some (.int .i64 y.2.1) ∧ V.cell? ⟨b2, o2 + j * 3 + 2, none⟩ = some (.int .i64 y.2.2))) := Lib.hid fun V hV => by
          have hs := hwr.out.size
          exact ⟨(hV.cell (p := ⟨b1, _, none⟩) (by show b1 < _; omega)).trans c0, (hV.cell (p := ⟨b1, _, none⟩) (by show b1 < _; omega)).trans c1, (hV.cell (p := ⟨b1, _, none⟩) (by show b1 < _; omega)).trans c2, (hV.cell (p := ⟨b2, _, none⟩) (by show b2 < _; omega)).trans d0, (hV.cell (p := ⟨b2, _, none⟩) (by show b2 < _; omega)).trans d1, (hV.cell (p := ⟨b2, _, none⟩) (by show b2 < _; omega)).trans d2⟩
        clear c0 c1 c2 d0 d1 d2 hx hy hbb hbb2 hjn hj
        by_cases hxy : x = y
        · subst hxy
          have hq := neq_nd' x
          go_wp2_with fail
          refine wp_region_held_drew (S := fun V => (V.cell? ⟨b1, o1 + j * 3, none⟩ = some (.int .i64 x.1) ∧ V.cell? ⟨b1, o1 + j * 3 + 1, none⟩ = some (.int .i64 x.2.1) ∧ V.cell? ⟨b1, o1 + j * 3 + 2, none⟩ = some (.int .i64 x.2.2) ∧ V.cell? ⟨b2, o2 + j * 3, none⟩ = some (.int .i64 x.1) ∧ V.cell? ⟨b2, o2 + j * 3 + 1, none⟩ = some (.int .i64 x.2.1) ∧ V.cell? ⟨b2, o2 + j * 3 + 2, none⟩ = some (.int .i64 x.2.2))) (by kernel_rfl) (HC.out _ (Below.refl _ wr).drew) (fun _ => ?_)
          refine tk 0 (HC.out _ (Below.refl _ wr).drew) ?_
          try simp only [Act.put, pA, pB, pC]
          refine tk 1 (HC.out _ (Below.refl _ wr).drew) ?_
          try simp only [Act.put, pA, pB, pC]
          refine tk 2 (HC.out _ (Below.refl _ wr).drew) ?_
          try simp only [Act.put, pA, pB, pC]
          refine tk 3 (HC.out _ (Below.refl _ wr).drew) ?_
          try simp only [Act.put, pA, pB, pC]
          refine tk 4 (HC.out _ (Below.refl _ wr).drew) ?_
          try simp only [Act.put, pA, pB, pC]
          refine tk 5 (HC.out _ (Below.refl _ wr).drew) ?_
          try simp only [Act.put, pA, pB, pC]
          refine tk 6 (HC.out _ (Below.refl _ wr).drew) ?_
          try simp only [Act.put, pA, pB, pC]
          refine tk 7 (HC.out _ (Below.refl _ wr).drew) ?_
          try simp only [Act.put, pA, pB, pC]
          refine tk 8 (HC.out _ (Below.refl _ wr).drew) ?_
          try simp only [Act.put, pA, pB, pC]
          refine wpAnyH_done (by kernel_rfl) ?_ _
          have HD := Lib.hid hwr.out.drew
          go_wp2
          go_roundw
          case rel => exact ⟨j + 1, by go_num, by have := HJ.out; omega, Lib.hid (fun k hk => by
            rcases Nat.lt_or_eq_of_le (Nat.le_of_lt_succ hk) with h | h
            · exact h0.out k h
            · rw [h, HX.out.1, HX.out.2]), HD⟩
          case measure => have := HJ.out; simp [intOf]; omega
        · have hq := neq_nd x y hxy
          have HXY := Lib.hid hxy
          clear hxy
          go_wp2_with fail
          refine wp_region_held_drew (S := fun V => (V.cell? ⟨b1, o1 + j * 3, none⟩ = some (.int .i64 x.1) ∧ V.cell? ⟨b1, o1 + j * 3 + 1, none⟩ = some (.int .i64 x.2.1) ∧ V.cell? ⟨b1, o1 + j * 3 + 2, none⟩ = some (.int .i64 x.2.2) ∧ V.cell? ⟨b2, o2 + j * 3, none⟩ = some (.int .i64 y.1) ∧ V.cell? ⟨b2, o2 + j * 3 + 1, none⟩ = some (.int .i64 y.2.1) ∧ V.cell? ⟨b2, o2 + j * 3 + 2, none⟩ = some (.int .i64 y.2.2))) (by kernel_rfl) (HC.out _ (Below.refl _ wr).drew) (fun _ => ?_)
          refine tk 0 (HC.out _ (Below.refl _ wr).drew) ?_
          try simp only [Act.put, pA, pB, pC]
          refine tk 1 (HC.out _ (Below.refl _ wr).drew) ?_
          try simp only [Act.put, pA, pB, pC]
          refine tk 2 (HC.out _ (Below.refl _ wr).drew) ?_
          try simp only [Act.put, pA, pB, pC]
          refine tk 3 (HC.out _ (Below.refl _ wr).drew) ?_
          try simp only [Act.put, pA, pB, pC]
          refine tk 4 (HC.out _ (Below.refl _ wr).drew) ?_
          try simp only [Act.put, pA, pB, pC]
          refine tk 5 (HC.out _ (Below.refl _ wr).drew) ?_
          try simp only [Act.put, pA, pB, pC]
          refine tk 6 (HC.out _ (Below.refl _ wr).drew) ?_
          try simp only [Act.put, pA, pB, pC]
          refine tk 7 (HC.out _ (Below.refl _ wr).drew) ?_
          try simp only [Act.put, pA, pB, pC]
          refine tk 8 (HC.out _ (Below.refl _ wr).drew) ?_
          try simp only [Act.put, pA, pB, pC]
          refine wpAnyH_done (by kernel_rfl) ?_ _
          have HD := Lib.hid hwr.out.drew
          go_wp2
          go_ret
          refine ⟨?_, HD.out⟩
          rw [← HR.out, show decide (is = js) = false from by
            rw [decide_eq_false_iff_not]
            intro e
            have h1 := HX.out.1
            rw [e, HX.out.2] at h1
            exact HXY.out (Option.some.inj h1).symm]
          rfl
      · have q1 : ¬ (j : Int) < (n : Int) := by omega
        have HF : Hid (r = true) := Lib.hid (by
          rw [← HR.out, decide_eq_true_eq]
          exact list_ext (by rw [HL.out.1, HL.out.2]) (fun k hk => h0.out k (by rw [HL.out.1] at hk; omega)))
        clear hjn hj
        go_wp2
        go_ret
        exact ⟨by rw [HF.out]; rfl, hwr.out⟩
  · have hd : decide (is = js) = false := by
      rw [decide_eq_false_iff_not]
      intro e
      rw [e] at l1
      omega
    rw [hd]
    have q1 : ((n : Int) != (m : Int)) = true := by simp; omega
    clear hd l1 l2 h1 h2 hn
    go_enter Tryd.func21, Tryd.ntmps21
    go_wp2
    go_ret
    exact ⟨rfl, Below.refl _ _⟩
end Go.Proofs.YtplmbmecjhmiiaaDoor
