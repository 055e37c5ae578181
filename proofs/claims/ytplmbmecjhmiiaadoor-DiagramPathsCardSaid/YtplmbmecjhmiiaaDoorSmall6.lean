/- The small functions of package diagram. -/
import Derived.Test.YtplmbmecjhmiiaaDoorKit6
namespace Go.Proofs.YtplmbmecjhmiiaaDoor
open Go Go.RowKit
theorem isLiteral_any (x : Int) (w : World) : Calls Tryd.prog 22 #[.int .i64 x] w fun e w' => e = .returned (.bool (decide (0 ≤ x ∧ x < 12))) ∧ w = w' := by
  by_cases h0 : 0 ≤ x
  · have hd : decide (0 ≤ x ∧ x < 12) = decide (x < 12) := by simp [h0]
    rw [hd]
    clear hd
    go_enter Tryd.func22, Tryd.ntmps22
    go_wp2
    go_ret
    exact ⟨rfl, rfl⟩
  · have hd : decide (0 ≤ x ∧ x < 12) = false := by simp [h0]
    rw [hd]
    clear hd
    go_enter Tryd.func22, Tryd.ntmps22
    go_wp2
    go_ret
    exact ⟨rfl, rfl⟩
theorem isReference_any (x : Int) (n : Nat) (hn : n ≤ 4611686018427387904) (w : World) : Calls Tryd.prog 40 #[.int .i64 x, .int .i64 n] w fun e w' => e = .returned (.bool (decide (0 ≤ x ∧ x < 2 + (n : Int)))) ∧ w = w' := by
  have hw : IntKind.i64.wrap (2 + (n : Int)) = 2 + (n : Int) := IntWalk.i64_in _ (by omega)
  by_cases h0 : 0 ≤ x
  · have hd : decide (0 ≤ x ∧ x < 2 + (n : Int)) = decide (x < 2 + (n : Int)) := by simp [h0]
    rw [hd]
    clear hd
    go_enter Tryd.func40, Tryd.ntmps40
    go_wp2
    go_ret
    exact ⟨rfl, rfl⟩
  · have hd : decide (0 ≤ x ∧ x < 2 + (n : Int)) = false := by simp [h0]
    rw [hd]
    clear hd
    go_enter Tryd.func40, Tryd.ntmps40
    go_wp2
    go_ret
    exact ⟨rfl, rfl⟩
theorem constant_any (b : Bool) (w : World) : Calls Tryd.prog 45 #[.bool b] w fun e w' => e = .returned (.int .i64 (if b then 1 else 0)) ∧ w = w' := by
  cases b
  · go_enter Tryd.func45, Tryd.ntmps45
    go_wp2
    go_ret
    exact ⟨rfl, rfl⟩
  · go_enter Tryd.func45, Tryd.ntmps45
    go_wp2
    go_ret
    exact ⟨rfl, rfl⟩
theorem literalAt_any (A : Option Addr) (n c : Nat) (is : List (Int × Int × Int)) (q r : Int) (w : World) (h : NdR w (fun b => b < w.heap.size) A n c is) (h0 : 0 ≤ r) (hr : r < 2 + (n : Int)) :
    Calls Tryd.prog 46 #[.agg #[.slice A n c, .int .i64 q], .int .i64 r] w fun e w' => e = .returned (.int .i64 (litI is r)) ∧ Below w.heap.size w w' := by
  obtain ⟨W, hW⟩ : ∃ W, W = w.alloc (.cells #[.slice A n c, .int .i64 q] 29) := ⟨_, rfl⟩
  have hb : Below w.heap.size w W := by rw [hW]; exact (Below.refl _ _).alloc (Nat.le_refl _) _
  by_cases h2 : r < 2
  · have hl : litI is r = 12 := by unfold litI; rw [if_pos h2]
    rw [hl]
    have q1 : decide (r < 2) = true := by simpa using h2
    clear h2 hl h h0 hr
    go_enter Tryd.func46, Tryd.ntmps46
    go_wp2
    go_ret
    exact ⟨rfl, by rw [← hW]; exact hb⟩
  · obtain ⟨j, rfl⟩ : ∃ j : Nat, r = (j : Int) + 2 := ⟨(r - 2).toNat, by omega⟩
    have hm := h.max.1
    unfold maxLen at hm
    obtain ⟨b, off, x, rfl, hbw, hx, c0, c1, c2⟩ := h.at (j := j) (by omega)
    rw [litI_at rfl hx]
    have x0 : W.cell? ⟨b, off + j * 3, none⟩ = some (.int .i64 x.1) := (hb.cell (p := ⟨b, _, none⟩) hbw).trans c0
    rw [hW] at x0
    have hr2 : (j : Int) + 2 - 2 = (j : Int) := by omega
    generalize (j : Int) + 2 = r at *
    have q1 : decide (r < 2) = false := by simpa using h2
    have hw : IntKind.i64.wrap (r - 2) = (j : Int) := by rw [hr2]; exact IntWalk.i64_in _ (by omega)
    have kn : (j : Int) < (n : Int) := by omega
    have k0 : (0 : Int) ≤ (j : Int) := by omega
    have HB := Lib.hid hb
    clear h c0 c1 c2 hx h2 h0 hr hm hb hbw hr2
    go_enter Tryd.func46, Tryd.ntmps46
    go_wp2
    go_ret
    exact ⟨rfl, by rw [← hW]; exact HB.out⟩
theorem follow_any (A : Option Addr) (n c : Nat) (is : List (Int × Int × Int)) (q r l : Int) (v : Bool) (w : World) (h : NdR w (fun b => b < w.heap.size) A n c is) (h0 : 0 ≤ r) (hr : r < 2 + (n : Int)) (hl : l ≠ 12) :
    Calls Tryd.prog 43 #[.agg #[.slice A n c, .int .i64 q], .int .i64 r, .int .i64 l, .bool v] w fun e w' => e = .returned (.int .i64 (folI is r l v)) ∧ Below w.heap.size w w' := by
  obtain ⟨W, hW⟩ : ∃ W, W = w.alloc (.cells #[.slice A n c, .int .i64 q] 29) := ⟨_, rfl⟩
  have hb : Below w.heap.size w W := by rw [hW]; exact (Below.refl _ _).alloc (Nat.le_refl _) _
  have k5 : W.heap[w.heap.size]? = some (.cells #[.slice A n c, .int .i64 q] 29 (0, 0)) := by rw [hW]; exact heap_alloc_new w _
  have hz : w.heap.size < W.heap.size := by rw [hW]; simp
  have hla := literalAt_any A n c is q r W ((h.on hb).up fun b hh => by omega) h0 hr
  by_cases he : litI is r = l
  · have h2 : ¬ r < 2 := fun h2 => by unfold litI at he; rw [if_pos h2] at he; exact hl he.symm
    obtain ⟨j, rfl⟩ : ∃ j : Nat, r = (j : Int) + 2 := ⟨(r - 2).toNat, by omega⟩
    have hm := h.max.1
    unfold maxLen at hm
    obtain ⟨b, off, x, rfl, hbw, hx, c0, c1, c2⟩ := h.at (j := j) (by omega)
    have hxl : x.1 = l := by rw [← litI_at rfl hx]; exact he
    rw [folI_at rfl hx hxl]
    rw [he] at hla
    have HC : Hid (∀ V, Below w.heap.size w V → V.cell? ⟨b, off + j * 3 + 1, none⟩ = some (.int .i64 x.2.1) ∧ V.cell? ⟨b, off + j * 3 + 2, none⟩ = some (.int .i64 x.2.2)) := Lib.hid fun V hV => ⟨(hV.cell (p := ⟨b, _, none⟩) hbw).trans c1, (hV.cell (p := ⟨b, _, none⟩) hbw).trans c2⟩
    have hr2 : (j : Int) + 2 - 2 = (j : Int) := by omega
    clear he
    generalize (j : Int) + 2 = r at *
    have hw : IntKind.i64.wrap (r - 2) = (j : Int) := by rw [hr2]; exact IntWalk.i64_in _ (by omega)
    have kn : (j : Int) < (n : Int) := by omega
    have k0 : (0 : Int) ≤ (j : Int) := by omega
    have HB := Lib.hid (And.intro hb (And.intro k5 hz))
    clear h c0 c1 c2 hx h2 h0 hr hm hb hbw hxl k5 hz hr2
    cases v
    · go_enter Tryd.func43, Tryd.ntmps43
      go_wp2_with fail
      rw [← hW]
      clear hW
      refine hla.mono ?_
      rintro e w1 ⟨rfl, hb1⟩
      have hb1' := HB.out.1.trans (hb1.mono HB.out.1.size)
      obtain ⟨x1, x2⟩ := HC.out _ hb1'
      obtain ⟨e0, e1⟩ := cells2 ((hb1.block _ HB.out.2.2).trans HB.out.2.1)
      have HB1 := Lib.hid hb1'
      clear hla hb1 hb1'
      go_wp2
      go_ret
      exact ⟨rfl, HB1.out⟩
    · go_enter Tryd.func43, Tryd.ntmps43
      go_wp2_with fail
      rw [← hW]
      clear hW
      refine hla.mono ?_
      rintro e w1 ⟨rfl, hb1⟩
      have hb1' := HB.out.1.trans (hb1.mono HB.out.1.size)
      obtain ⟨x1, x2⟩ := HC.out _ hb1'
      obtain ⟨e0, e1⟩ := cells2 ((hb1.block _ HB.out.2.2).trans HB.out.2.1)
      have HB1 := Lib.hid hb1'
      clear hla hb1 hb1'
      go_wp2
      go_ret
      exact ⟨rfl, HB1.out⟩
  · have hf : folI is r l v = r := by unfold folI; rw [if_neg he]
    rw [hf]
    generalize litI is r = m at *
    have hne : (m != l) = true := by simpa using he
    have HB := Lib.hid hb
    clear h h0 hr hb hf k5 hz
    go_enter Tryd.func43, Tryd.ntmps43
    go_wp2_with fail
    rw [← hW]
    clear hW
    refine hla.mono ?_
    rintro e w1 ⟨rfl, hb1⟩
    clear hla
    have HB1 := Lib.hid (HB.out.trans (hb1.mono HB.out.size))
    clear hb1
    go_wp2
    go_ret
    exact ⟨rfl, HB1.out⟩
end Go.Proofs.YtplmbmecjhmiiaaDoor
