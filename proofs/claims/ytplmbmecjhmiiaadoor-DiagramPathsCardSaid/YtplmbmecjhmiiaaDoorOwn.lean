/- Rows of the call's own memory, seen as rows of trees; values whose lists are short. No program is named. -/
import Derived.Test.YtplmbmecjhmiiaaDoorValOk
import Derived.WalkKit
import Derived.OwnWalk
import Derived.Lib.Builder
import Derived.Laws.OwnMore
namespace Go.Proofs.YtplmbmecjhmiiaaDoor
open Go Go.RowKit
theorem obj7 {w : World} {g : Nat} {e : TypeId} {z0 z1 z2 z3 z4 z5 z6 : Value} (h : w.heap[g]? = some (.cells #[z0, z1, z2, z3, z4, z5, z6] e (0, 0))) (v0 v1 v2 v3 v4 v5 v6 : Value) : (((((((w.setCell ⟨g, 0, none⟩ (v0)).setCell ⟨g, 1, none⟩ (v1)).setCell ⟨g, 2, none⟩ (v2)).setCell ⟨g, 3, none⟩ (v3)).setCell ⟨g, 4, none⟩ (v4)).setCell ⟨g, 5, none⟩ (v5)).setCell ⟨g, 6, none⟩ (v6)).heap[g]? = some (.cells #[v0, v1, v2, v3, v4, v5, v6] e (0, 0)) := by
  have h0 := heap_setCell_same _ g 0 _ e v0 h
  have h1 := heap_setCell_same _ g 1 _ e v1 h0
  have h2 := heap_setCell_same _ g 2 _ e v2 h1
  have h3 := heap_setCell_same _ g 3 _ e v3 h2
  have h4 := heap_setCell_same _ g 4 _ e v4 h3
  have h5 := heap_setCell_same _ g 5 _ e v5 h4
  have h6 := heap_setCell_same _ g 6 _ e v6 h5
  simpa using h6
theorem obj9 {w : World} {g : Nat} {e : TypeId} {z0 z1 z2 z3 z4 z5 z6 z7 z8 : Value} (h : w.heap[g]? = some (.cells #[z0, z1, z2, z3, z4, z5, z6, z7, z8] e (0, 0))) (v0 v1 v2 v3 v4 v5 v6 v7 v8 : Value) : (((((((((w.setCell ⟨g, 0, none⟩ (v0)).setCell ⟨g, 1, none⟩ (v1)).setCell ⟨g, 2, none⟩ (v2)).setCell ⟨g, 3, none⟩ (v3)).setCell ⟨g, 4, none⟩ (v4)).setCell ⟨g, 5, none⟩ (v5)).setCell ⟨g, 6, none⟩ (v6)).setCell ⟨g, 7, none⟩ (v7)).setCell ⟨g, 8, none⟩ (v8)).heap[g]? = some (.cells #[v0, v1, v2, v3, v4, v5, v6, v7, v8] e (0, 0)) := by
  have h0 := heap_setCell_same _ g 0 _ e v0 h
  have h1 := heap_setCell_same _ g 1 _ e v1 h0
  have h2 := heap_setCell_same _ g 2 _ e v2 h1
  have h3 := heap_setCell_same _ g 3 _ e v3 h2
  have h4 := heap_setCell_same _ g 4 _ e v4 h3
  have h5 := heap_setCell_same _ g 5 _ e v5 h4
  have h6 := heap_setCell_same _ g 6 _ e v6 h5
  have h7 := heap_setCell_same _ g 7 _ e v7 h6
  have h8 := heap_setCell_same _ g 8 _ e v8 h7
  simpa using h8
theorem row_of_owns {w : World} {base : Nat} {e : TypeId} {c : Nat} {v : Value} {n : Nat} {xs : List Value} {B : Nat → Prop} {R : Nat → List Value → Prop} (h : w.ownsRow base e c v n xs) (hn : n ≤ maxLen)
    (hB : ∀ g, v.ownBlock = some g → base ≤ g → g < w.heap.size → B g) (hR : ∀ j, j < n → R j ((xs.drop (j * c)).take c)) (hc : 0 < c) : RowB w B c v n R := by
  obtain ⟨hl, hcase⟩ := h
  rcases hcase with ⟨rfl, rfl⟩ | ⟨g, cap, cur, rfl, hb, hg, h1, h2, h3, h4⟩
  · exact ⟨none, 0, rfl, ⟨Nat.zero_le _, Nat.le_refl _⟩, fun h => absurd h (by omega)⟩
  · have hlt : g < w.heap.size := (Array.getElem?_eq_some_iff.1 hg).1
    refine ⟨_, cap, rfl, ⟨hn, h1⟩, fun _ => ⟨g, 0, rfl, hB g rfl hb hlt, hlt, fun j hj => ?_⟩⟩
    have hle : (j + 1) * c ≤ n * c := Nat.mul_le_mul_right c hj
    have hle2 : n * c ≤ cap * c := Nat.mul_le_mul_right c h1
    rw [Nat.add_mul, Nat.one_mul] at hle
    refine ⟨(xs.drop (j * c)).take c, by simp; omega, fun i hi => ?_, hR j hj⟩
    rw [List.getElem?_take_of_lt hi, List.getElem?_drop, ← h4, List.getElem?_take_of_lt (by omega), Nat.zero_add]
    rw [Lib.cell_of_heap hg]
    simp
theorem sub_set {α : Type} {xs : List α} {p c a : Nat} {v : α} (h : a < p ∨ p + c ≤ a) : ((xs.set a v).drop p).take c = (xs.drop p).take c := by
  apply List.ext_getElem?
  intro i
  by_cases hi : i < c
  · rw [List.getElem?_take_of_lt hi, List.getElem?_take_of_lt hi, List.getElem?_drop, List.getElem?_drop, List.getElem?_set_ne (by omega)]
  · rw [List.getElem?_take_eq_none (by omega), List.getElem?_take_eq_none (by omega)]
theorem sub_set7 {α : Type} {xs : List α} {p : Nat} (v0 v1 v2 v3 v4 v5 v6 : α) (h : p + 7 ≤ xs.length) :
    ((((((((((xs.set p v0).set (p + 1) v1).set (p + 2) v2).set (p + 3) v3).set (p + 4) v4).set (p + 5) v5).set (p + 6) v6).drop p)).take 7) = [v0, v1, v2, v3, v4, v5, v6] := by
  apply List.ext_getElem?
  intro i
  by_cases hi : i < 7
  · rw [List.getElem?_take_of_lt hi, List.getElem?_drop]
    match i, hi with
    | 0, _ => simp [List.getElem?_set]; omega
    | 1, _ => simp [List.getElem?_set]; omega
    | 2, _ => simp [List.getElem?_set]; omega
    | 3, _ => simp [List.getElem?_set]; omega
    | 4, _ => simp [List.getElem?_set]; omega
    | 5, _ => simp [List.getElem?_set]; omega
    | 6, _ => simp [List.getElem?_set]; omega
  · rw [List.getElem?_take_eq_none (by omega), List.getElem?_eq_none (by simp; omega)]
theorem sub_set9 {α : Type} {xs : List α} {p : Nat} (v0 v1 v2 v3 v4 v5 v6 v7 v8 : α) (h : p + 9 ≤ xs.length) :
    ((((((((((((xs.set p v0).set (p + 1) v1).set (p + 2) v2).set (p + 3) v3).set (p + 4) v4).set (p + 5) v5).set (p + 6) v6).set (p + 7) v7).set (p + 8) v8).drop p)).take 9) = [v0, v1, v2, v3, v4, v5, v6, v7, v8] := by
  apply List.ext_getElem?
  intro i
  by_cases hi : i < 9
  · rw [List.getElem?_take_of_lt hi, List.getElem?_drop]
    match i, hi with
    | 0, _ => simp [List.getElem?_set]; omega
    | 1, _ => simp [List.getElem?_set]; omega
    | 2, _ => simp [List.getElem?_set]; omega
    | 3, _ => simp [List.getElem?_set]; omega
    | 4, _ => simp [List.getElem?_set]; omega
    | 5, _ => simp [List.getElem?_set]; omega
    | 6, _ => simp [List.getElem?_set]; omega
    | 7, _ => simp [List.getElem?_set]; omega
    | 8, _ => simp [List.getElem?_set]; omega
  · rw [List.getElem?_take_eq_none (by omega), List.getElem?_eq_none (by simp; omega)]
/-- the world differs from the elder one in cells of block g alone (and has no less blocks) -/
theorem same_setCell {B : Nat → Prop} {w w' : World} {g i : Nat} {v : Value} (h : Same B w w') (hg : ¬ B g) : Same B w (w'.setCell ⟨g, i, none⟩ v) := by
  refine ⟨by simpa using h.size, fun b j hB hb => ?_⟩
  rw [World.cell?_setCell_other _ _ _ _ (by intro e; simp only [Addr.mk.injEq] at e; exact hg (e.1 ▸ hB))]
  exact h.cell b j hB hb
mutual
/-- all lists in v are short -/
def sml : Vl → Prop
  | .mk _ _ _ v y e l => v.length ≤ 1048576 ∧ y.length ≤ 1048576 ∧ e.length ≤ 1048576 ∧ l.length ≤ 1048576 ∧ smlVs v ∧ smlEs e
def smlVs : List Vl → Prop
  | [] => True
  | a :: s => sml a ∧ smlVs s
def smlE : En → Prop
  | .mk a _ r => a.length ≤ 1048576 ∧ smlVs a ∧ sml r
def smlEs : List En → Prop
  | [] => True
  | a :: s => smlE a ∧ smlEs s
end
theorem smlVs_iff : ∀ {l : List Vl}, smlVs l ↔ ∀ x, x ∈ l → sml x
  | [] => by simp [smlVs]
  | a :: s => by simp [smlVs, smlVs_iff (l := s)]
theorem smlEs_iff : ∀ {l : List En}, smlEs l ↔ ∀ x, x ∈ l → smlE x
  | [] => by simp [smlEs]
  | a :: s => by simp [smlEs, smlEs_iff (l := s)]
end Go.Proofs.YtplmbmecjhmiiaaDoor
