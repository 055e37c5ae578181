/- The document's EqualDiagrams. -/
import Derived.Test.YtplmbmecjhmiiaaDoorEq6
import Derived.Test.YtplmbmecjhmiiaaDoorDia6
import Derived.Test.YtplmbmecjhmiiaaDoorCombA6
namespace Go.Proofs.YtplmbmecjhmiiaaDoor
open Go Go.RowKit
set_option maxRecDepth 100000 in
set_option maxHeartbeats 1600000 in
theorem equalD_same (A B : Option Addr) (n c d : Nat) (is js : List (Int × Int × Int)) (q : Int) (w : World) (h1 : NdR w (fun b => b < w.heap.size) A n c is) (h2 : NdR w (fun b => b < w.heap.size) B n d js) (hn : n ≤ 4611686018427387904) :
    Calls Tryd.prog 7 #[.agg #[.slice A n c, .int .i64 q], .agg #[.slice B n d, .int .i64 q]] w fun e w' => e = .returned (.bool (decide (is = js))) ∧ Below w.heap.size w w' := by
  obtain ⟨W, hW⟩ : ∃ W, W = (w.alloc (.cells #[.slice A n c, .int .i64 q] 29)).alloc (.cells #[.slice B n d, .int .i64 q] 29) := ⟨_, rfl⟩
  have hb : Below w.heap.size w W := by rw [hW]; exact ((Below.refl _ _).alloc (Nat.le_refl _) _).alloc (by simp) _
  have hz : W.heap.size = w.heap.size + 2 := by rw [hW]; simp
  have k1 : W.heap[w.heap.size]? = some (.cells #[.slice A n c, .int .i64 q] 29 (0, 0)) := by rw [hW]; exact (Below.heap_alloc _ _ _ (by simp)).trans (heap_alloc_new w _)
  have k2 : W.heap[w.heap.size + 1]? = some (.cells #[.slice B n d, .int .i64 q] 29 (0, 0)) := by rw [hW]; exact new_at' _ (by simp)
  have HK : Hid (∀ V, Below W.heap.size W V → (V.cell? ⟨w.heap.size, 0, none⟩ = some (.slice A n c) ∧ V.cell? ⟨w.heap.size + 1, 0, none⟩ = some (.slice B n d)) ∧ Below w.heap.size w V) := Lib.hid fun V hV => ⟨⟨(cells2 ((hV.block _ (by omega)).trans k1)).1, (cells2 ((hV.block _ (by omega)).trans k2)).1⟩, hb.trans (hV.mono (by omega))⟩
  have HN := Lib.hid h1
  have HM := Lib.hid h2
  have HL := Lib.hid (And.intro h1.1 h2.1)
  have HZ := Lib.hid (And.intro hz hn)
  generalize hrr : decide (is = js) = r
  have HR := Lib.hid hrr
  clear hrr h1 h2 hb hz k1 k2 hn
  go_enter Tryd.func7, Tryd.ntmps7
  go_wp2_with fail
  rw [← hW]
  clear hW
  go_loopw [5] (fun i wr => ∃ j : Nat, i = .int .i64 j ∧ j ≤ n ∧ Hid (∀ k, k < j → is[k]? = js[k]?) ∧ Hid (Below W.heap.size W wr)) (fun i _ => n - (intOf i).toNat)
  case atStart => exact ⟨0, rfl, by omega, Lib.hid (fun k hk => absurd hk (by omega)), Lib.hid (Below.refl _ _)⟩
  case round =>
    obtain ⟨j, rfl, hj, h0, hwr⟩ := hrel
    obtain ⟨⟨y1, y2⟩, hbw⟩ := HK.out _ hwr.out
    by_cases hjn : j < n
    · obtain ⟨b1, o1, x, rfl, hbb, hx, c0, c1, c2⟩ := (HN.out.on hbw).at hjn
      obtain ⟨b2, o2, y, rfl, hbb2, hy, d0, d1, d2⟩ := (HM.out.on hbw).at hjn
      have kn : (j : Int) < (n : Int) := by omega
      have k0 : (0 : Int) ≤ (j : Int) := by omega
      have hwj : IntKind.i64.wrap ((j : Int) + 1) = ((j + 1 : Nat) : Int) := by have := HZ.out.2; rw [IntWalk.i64_in _ (by omega)]; omega
      have HX := Lib.hid (And.intro hx hy)
      have HJ := Lib.hid hjn
      have HC : Hid (∀ V, Below wr.heap.size wr V → (V.cell? ⟨w.heap.size, 0, none⟩ = some (.slice (some ⟨b1, o1, none⟩) n c) ∧ V.cell? ⟨w.heap.size + 1, 0, none⟩ = some (.slice (some ⟨b2, o2, none⟩) n d) ∧ V.cell? ⟨b1, o1 + j * 3, none⟩ = some (.int .i64 x.1) ∧ V.cell? ⟨b1, o1 + j * 3 + 1, none⟩ = some (.int .i64 x.2.1) ∧ V.cell? ⟨b1, o1 + j * 3 + 2, none⟩ = some (.int .i64 x.2.2) ∧ V.cell? ⟨b2, o2 + j * 3, none⟩ = some (.int .i64 y.1) ∧ V.cell? ⟨b2, o2 + j * 3 + 1, none⟩ = some (.int .i64 y.2.1) ∧ V.cell? ⟨b2, o2 + j * 3 + 2, none⟩ = some (.int .i64 y.2.2))) := Lib.hid fun V hV => by
        have hs := hbw.size
        obtain ⟨⟨q1, q2⟩, _⟩ := HK.out V (hwr.out.trans (hV.mono hwr.out.size))
        exact ⟨q1, q2, (hV.cell (p := ⟨b1, _, none⟩) (by show b1 < _; omega)).trans c0, (hV.cell (p := ⟨b1, _, none⟩) (by show b1 < _; omega)).trans c1, (hV.cell (p := ⟨b1, _, none⟩) (by show b1 < _; omega)).trans c2, (hV.cell (p := ⟨b2, _, none⟩) (by show b2 < _; omega)).trans d0, (hV.cell (p := ⟨b2, _, none⟩) (by show b2 < _; omega)).trans d1, (hV.cell (p := ⟨b2, _, none⟩) (by show b2 < _; omega)).trans d2⟩
      have HBW := Lib.hid hbw
      clear c0 c1 c2 d0 d1 d2 hx hy hbb hbb2 hjn hj hbw
      by_cases hxy : x = y
      · subst hxy
        have hq := neq_nd' x
        go_wp2_with fail
        clear y1 y2
        refine wp_region_held_drew (S := fun V => (V.cell? ⟨w.heap.size, 0, none⟩ = some (.slice (some ⟨b1, o1, none⟩) n c) ∧ V.cell? ⟨w.heap.size + 1, 0, none⟩ = some (.slice (some ⟨b2, o2, none⟩) n d) ∧ V.cell? ⟨b1, o1 + j * 3, none⟩ = some (.int .i64 x.1) ∧ V.cell? ⟨b1, o1 + j * 3 + 1, none⟩ = some (.int .i64 x.2.1) ∧ V.cell? ⟨b1, o1 + j * 3 + 2, none⟩ = some (.int .i64 x.2.2) ∧ V.cell? ⟨b2, o2 + j * 3, none⟩ = some (.int .i64 x.1) ∧ V.cell? ⟨b2, o2 + j * 3 + 1, none⟩ = some (.int .i64 x.2.1) ∧ V.cell? ⟨b2, o2 + j * 3 + 2, none⟩ = some (.int .i64 x.2.2))) (by kernel_rfl) (HC.out _ (Below.refl _ wr).drew) (fun _ => ?_)
        refine tk 0 (HC.out _ (Below.refl _ wr).drew) ?_
        try simp only [Act.put, pA, pB, pC]
        refine tk 1 (HC.out _ (Below.refl _ wr).drew) ?_
        try simp only [Act.put, pA, pB, pC]
        refine tk 2 (HC.out _ (Below.refl _ wr).drew) ?_
        try simp only [Act.put, pA, pB, pC]
        refine tk 3 (HC.out _ (Below.refl _ wr).drew) ?_
        try simp only [Act.put, pA, pB, pC]
        refine tk 4 (HC.out _ (Below.refl _ wr).drew) ?_
        try simp only [Act.put, pA, pB, pC]
        refine tk 5 (HC.out _ (Below.refl _ wr).drew) ?_
        try simp only [Act.put, pA, pB, pC]
        refine tk 6 (HC.out _ (Below.refl _ wr).drew) ?_
        try simp only [Act.put, pA, pB, pC]
        refine tk 7 (HC.out _ (Below.refl _ wr).drew) ?_
        try simp only [Act.put, pA, pB, pC]
        refine tk 8 (HC.out _ (Below.refl _ wr).drew) ?_
        try simp only [Act.put, pA, pB, pC]
        refine tk 9 (HC.out _ (Below.refl _ wr).drew) ?_
        try simp only [Act.put, pA, pB, pC]
        refine tk 10 (HC.out _ (Below.refl _ wr).drew) ?_
        try simp only [Act.put, pA, pB, pC]
        refine wpAnyH_done (by kernel_rfl) ?_ _
        have HD := Lib.hid hwr.out.drew
        go_wp2
        go_roundw
        case rel => exact ⟨j + 1, by go_num, by have := HJ.out; omega, Lib.hid (fun k hk => by
          rcases Nat.lt_or_eq_of_le (Nat.le_of_lt_succ hk) with h | h
          · exact h0.out k h
          · rw [h, HX.out.1, HX.out.2]), HD⟩
        case measure => have := HJ.out; simp [intOf]; omega
      · have hq := neq_nd x y hxy
        have HXY := Lib.hid hxy
        clear hxy
        go_wp2_with fail
        clear y1 y2
        refine wp_region_held_drew (S := fun V => (V.cell? ⟨w.heap.size, 0, none⟩ = some (.slice (some ⟨b1, o1, none⟩) n c) ∧ V.cell? ⟨w.heap.size + 1, 0, none⟩ = some (.slice (some ⟨b2, o2, none⟩) n d) ∧ V.cell? ⟨b1, o1 + j * 3, none⟩ = some (.int .i64 x.1) ∧ V.cell? ⟨b1, o1 + j * 3 + 1, none⟩ = some (.int .i64 x.2.1) ∧ V.cell? ⟨b1, o1 + j * 3 + 2, none⟩ = some (.int .i64 x.2.2) ∧ V.cell? ⟨b2, o2 + j * 3, none⟩ = some (.int .i64 y.1) ∧ V.cell? ⟨b2, o2 + j * 3 + 1, none⟩ = some (.int .i64 y.2.1) ∧ V.cell? ⟨b2, o2 + j * 3 + 2, none⟩ = some (.int .i64 y.2.2))) (by kernel_rfl) (HC.out _ (Below.refl _ wr).drew) (fun _ => ?_)
        refine tk 0 (HC.out _ (Below.refl _ wr).drew) ?_
        try simp only [Act.put, pA, pB, pC]
        refine tk 1 (HC.out _ (Below.refl _ wr).drew) ?_
        try simp only [Act.put, pA, pB, pC]
        refine tk 2 (HC.out _ (Below.refl _ wr).drew) ?_
        try simp only [Act.put, pA, pB, pC]
        refine tk 3 (HC.out _ (Below.refl _ wr).drew) ?_
        try simp only [Act.put, pA, pB, pC]
        refine tk 4 (HC.out _ (Below.refl _ wr).drew) ?_
        try simp only [Act.put, pA, pB, pC]
        refine tk 5 (HC.out _ (Below.refl _ wr).drew) ?_
        try simp only [Act.put, pA, pB, pC]
        refine tk 6 (HC.out _ (Below.refl _ wr).drew) ?_
        try simp only [Act.put, pA, pB, pC]
        refine tk 7 (HC.out _ (Below.refl _ wr).drew) ?_
        try simp only [Act.put, pA, pB, pC]
        refine tk 8 (HC.out _ (Below.refl _ wr).drew) ?_
        try simp only [Act.put, pA, pB, pC]
        refine tk 9 (HC.out _ (Below.refl _ wr).drew) ?_
        try simp only [Act.put, pA, pB, pC]
        refine tk 10 (HC.out _ (Below.refl _ wr).drew) ?_
        try simp only [Act.put, pA, pB, pC]
        refine wpAnyH_done (by kernel_rfl) ?_ _
        have HD := Lib.hid HBW.out.drew
        go_wp2
        go_ret
        refine ⟨?_, HD.out⟩
        rw [← HR.out, show decide (is = js) = false from by
          rw [decide_eq_false_iff_not]
          intro e
          have h1 := HX.out.1
          rw [e, HX.out.2] at h1
          exact HXY.out (Option.some.inj h1).symm]
        rfl
    · have q1 : ¬ (j : Int) < (n : Int) := by omega
      have HF : Hid (r = true) := Lib.hid (by
        rw [← HR.out, decide_eq_true_eq]
        exact list_ext (by rw [HL.out.1, HL.out.2]) (fun k hk => h0.out k (by rw [HL.out.1] at hk; omega)))
      have HBW := Lib.hid hbw
      clear hjn hj hbw
      go_wp2
      go_ret
      exact ⟨by rw [HF.out]; rfl, HBW.out⟩
theorem equalD_not (A B : Option Addr) (n c m d : Nat) (q q' : Int) (w : World) (hne : q ≠ q' ∨ n ≠ m) :
    Calls Tryd.prog 7 #[.agg #[.slice A n c, .int .i64 q], .agg #[.slice B m d, .int .i64 q']] w fun e w' => e = .returned (.bool false) ∧ Below w.heap.size w w' := by
  have hb : Below w.heap.size w ((w.alloc (.cells #[.slice A n c, .int .i64 q] 29)).alloc (.cells #[.slice B m d, .int .i64 q'] 29)) := ((Below.refl _ _).alloc (Nat.le_refl _) _).alloc (by simp) _
  have HB := Lib.hid hb
  clear hb
  by_cases hq : q = q'
  · subst hq
    have hnm : n ≠ m := by rcases hne with h | h; exact absurd rfl h; exact h
    have q1 : ((n : Int) != (m : Int)) = true := by simp; omega
    clear hne hnm
    go_enter Tryd.func7, Tryd.ntmps7
    go_wp2
    go_ret
    exact ⟨rfl, HB.out⟩
  · have q1 : (q != q') = true := by simpa using hq
    clear hne hq
    go_enter Tryd.func7, Tryd.ntmps7
    go_wp2
    go_ret
    exact ⟨rfl, HB.out⟩
theorem can_inj {f g : BF} (hf : F12 f) (hg : F12 g) (h : can f [] = can g []) : f = g := by
  have h1 := (can_ok hf Good_nil).2.2.2
  have h2 := (can_ok hg Good_nil).2.2.2
  rw [← h1, ← h2, h]
theorem ni_map_inj' {l m : List Nd} (h : l.map ni = m.map ni) : l = m := by
  apply List.ext_getElem?
  intro i
  have := congrArg (fun z => z[i]?) h
  simp only [List.getElem?_map] at this
  cases h1 : l[i]? with
  | none =>
    cases h2 : m[i]? with
    | none => rfl
    | some b => rw [h1, h2] at this; cases this
  | some a =>
    cases h2 : m[i]? with
    | none => rw [h1, h2] at this; cases this
    | some b => rw [h1, h2] at this; exact congrArg some (ni_inj (Option.some.inj this))
/-- diagrams of functions are equal where the functions are -/
theorem equalD_dia {f g : BF} {v1 v2 : Value} {w : World} (h1 : Dia f w w.heap.size v1) (h2 : Dia g w w.heap.size v2) (b : Bool) (hb : b = true ↔ f = g) : Calls Tryd.prog 7 #[v1, v2] w fun e w' => e = .returned (.bool b) ∧ Below w.heap.size w w' := by
  obtain ⟨hf, A1, c1, rfl, N1⟩ := h1
  obtain ⟨hg, A2, c2, rfl, N2⟩ := h2
  have s1 := can_small hf
  have hinj := fun h => can_inj hf hg h
  by_cases hq : (can f []).2 = (can g []).2 ∧ (can f []).1.length = (can g []).1.length
  · rw [← hq.1, ← hq.2]
    rw [← hq.2] at N2
    refine (equalD_same A1 A2 _ c1 c2 _ _ ((can f []).2 : Int) w N1 N2 (by omega)).mono ?_
    rintro e w' ⟨rfl, h⟩
    refine ⟨rb6 ?_, h⟩
    rw [Bool.eq_iff_iff, decide_eq_true_eq, hb]
    exact ⟨fun h => hinj (Prod.ext (ni_map_inj' h) hq.1), fun h => by rw [h]⟩
  · have hb' : b = false := by
      cases b
      · rfl
      · exact absurd (by rw [hb.1 rfl]; exact ⟨rfl, rfl⟩) hq
    subst hb'
    refine equalD_not A1 A2 _ c1 _ c2 _ _ w ?_
    by_cases h : (can f []).2 = (can g []).2
    · exact .inr fun e => hq ⟨h, e⟩
    · exact .inl (by omega)
end Go.Proofs.YtplmbmecjhmiiaaDoor
