/- Two diagrams walked side by side: their literals, what follows, the function of a pair. -/
import Derived.Test.YtplmbmecjhmiiaaDoorKit6
namespace Go.Proofs.YtplmbmecjhmiiaaDoor
open Go Go.RowKit
theorem litI_nat (ns : List Nd) {r : Nat} (hr : r < ns.length + 2) : litI (ns.map ni) (r : Int) = (litR ns r : Int) := by
  by_cases h : r < 2
  · unfold litI litR
    rw [if_pos (by omega), if_pos h]
    rfl
  · obtain ⟨i, rfl⟩ : ∃ i, r = i + 2 := ⟨r - 2, by omega⟩
    have hn : ns[i]? = some (ns[i]'(by omega)) := List.getElem?_eq_getElem _
    rw [litR_node hn, litI_at (j := i) (x := ni (ns[i]'(by omega))) (by omega) (by rw [List.getElem?_map, hn]; rfl)]
    rfl
/-- the reference behind r with literal l fixed -/
def folN (ns : List Nd) (r l : Nat) (b : Bool) : Nat := if litR ns r = l then ((ns[r - 2]?).map fun n => if b then n.h else n.o).getD 0 else r
theorem folN_other {ns : List Nd} {r l : Nat} {b : Bool} (h : litR ns r ≠ l) : folN ns r l b = r := by unfold folN; rw [if_neg h]
theorem folN_node {ns : List Nd} {i : Nat} {n : Nd} (h : ns[i]? = some n) (b : Bool) : folN ns (i + 2) n.l b = if b then n.h else n.o := by
  unfold folN
  rw [if_pos (litR_node h), show i + 2 - 2 = i by omega, h]
  rfl
theorem folI_nat (ns : List Nd) {r l : Nat} (hr : r < ns.length + 2) (hl : l < 12) (b : Bool) : folI (ns.map ni) (r : Int) (l : Int) b = (folN ns r l b : Int) := by
  by_cases he : litR ns r = l
  · have h : ¬ r < 2 := fun h => by have : litR ns r = 12 := by unfold litR; rw [if_pos h]
                                    omega
    obtain ⟨i, rfl⟩ : ∃ i, r = i + 2 := ⟨r - 2, by omega⟩
    have hn : ns[i]? = some (ns[i]'(by omega)) := List.getElem?_eq_getElem _
    have hx : (ns.map ni)[i]? = some (ni (ns[i]'(by omega))) := by rw [List.getElem?_map, hn]; rfl
    have h2 := folN_node hn b
    rw [litR_node hn] at he
    generalize ns[i]'(by omega) = A at *
    subst he
    rw [h2, folI_at (j := i) (r := ((i + 2 : Nat) : Int)) (l := (A.l : Int)) (by omega) hx rfl]
    cases b <;> rfl
  · rw [folN_other he]
    unfold folI
    rw [litI_nat ns hr, if_neg (by omega)]
/-- what follows lies behind literal l, and is the function with l fixed -/
theorem fol_ok {ns : List Nd} (hO : Ord ns) {r l : Nat} (hr : r < ns.length + 2) (hl : l < 12) (hle : l ≤ litR ns r) (b : Bool) :
    folN ns r l b < ns.length + 2 ∧ l < litR ns (folN ns r l b) ∧ cut (F ns r) l b = F ns (folN ns r l b) := by
  by_cases he : litR ns r = l
  · have h : ¬ r < 2 := fun h => by have : litR ns r = 12 := by unfold litR; rw [if_pos h]
                                    omega
    obtain ⟨i, rfl⟩ : ∃ i, r = i + 2 := ⟨r - 2, by omega⟩
    have hn : ns[i]? = some (ns[i]'(by omega)) := List.getElem?_eq_getElem _
    have hi : i < ns.length := by omega
    obtain ⟨g1, g2, g3, g4, g5⟩ := hO i _ hn
    have h2 := folN_node hn b
    rw [litR_node hn] at he
    generalize ns[i]'(by omega) = A at *
    subst he
    rw [h2]
    refine ⟨by cases b <;> simp <;> omega, by cases b <;> simp <;> assumption, ?_⟩
    funext s
    exact F_upd hO hn s b
  · rw [folN_other he]
    refine ⟨hr, by omega, ?_⟩
    funext s
    exact ind_F hO hr (by omega) s b
def comb (ch : Bool → Bool → Bool) (f g : BF) : BF := fun s => ch (f s) (g s)
/-- the function of a pair of references -/
def gP (ch : Bool → Bool → Bool) (us vs : List Nd) (x y : Nat) : BF := comb ch (F us x) (F vs y)
def litP (us vs : List Nd) (x y : Nat) : Nat := min (litR us x) (litR vs y)
theorem gP_12 {ch : Bool → Bool → Bool} {us vs : List Nd} (ha : Ord us) (hb : Ord vs) {x y : Nat} (hx : x < us.length + 2) (hy : y < vs.length + 2) : F12 (gP ch us vs x y) := fun s t h => by
  unfold gP comb
  rw [F12_F ha hx s t h, F12_F hb hy s t h]
theorem gP_ind {ch : Bool → Bool → Bool} {us vs : List Nd} (ha : Ord us) (hb : Ord vs) {x y : Nat} (hx : x < us.length + 2) (hy : y < vs.length + 2) {l : Nat} (hl : l < litP us vs x y) : Ind (gP ch us vs x y) l := fun s b => by
  unfold litP at hl
  unfold gP comb
  rw [ind_F ha hx (by omega) s b, ind_F hb hy (by omega) s b]
theorem gP_cut {ch : Bool → Bool → Bool} {us vs : List Nd} (ha : Ord us) (hb : Ord vs) {x y : Nat} (hx : x < us.length + 2) (hy : y < vs.length + 2) {l : Nat} (hl : l < 12) (hle : l ≤ litP us vs x y) (b : Bool) :
    cut (gP ch us vs x y) l b = gP ch us vs (folN us x l b) (folN vs y l b) := by
  unfold litP at hle
  have h1 := (fol_ok ha hx hl (by omega) b).2.2
  have h2 := (fol_ok hb hy hl (by omega) b).2.2
  unfold gP comb
  rw [← h1, ← h2]
  rfl
theorem gP_const {ch : Bool → Bool → Bool} {us vs : List Nd} {x y : Nat} (hx : x < 2) (hy : y < 2) {ns : List Nd} (hG : Good ns) : can (gP ch us vs x y) ns = (ns, if ch (decide (x = 1)) (decide (y = 1)) then 1 else 0) := by
  have c : ∀ (ms : List Nd) (z : Nat), z < 2 → F ms z = fun _ => decide (z = 1) := fun ms z hz => by
    have : z = 0 ∨ z = 1 := by omega
    rcases this with rfl | rfl
    · rw [F_zero]; rfl
    · rw [F_one]; rfl
  have e : gP ch us vs x y = fun _ => ch (decide (x = 1)) (decide (y = 1)) := by
    unfold gP comb
    rw [c us x hx, c vs y hy]
  rw [e]
  cases ch (decide (x = 1)) (decide (y = 1))
  · exact can_ff hG
  · exact can_tt hG
theorem litP_lt {us vs : List Nd} (ha : Ord us) (hb : Ord vs) {x y : Nat} (hx : x < us.length + 2) (hy : y < vs.length + 2) (h : ¬ (x < 2 ∧ y < 2)) : litP us vs x y < 12 := by
  have one : ∀ (ns : List Nd), Ord ns → ∀ z, z < ns.length + 2 → ¬ z < 2 → litR ns z < 12 := fun ns hO z hz h2 => by
    obtain ⟨i, rfl⟩ : ∃ i, z = i + 2 := ⟨z - 2, by omega⟩
    have hn : ns[i]? = some (ns[i]'(by omega)) := List.getElem?_eq_getElem _
    rw [litR_node hn]
    exact (hO i _ hn).1
  unfold litP
  by_cases h2 : x < 2
  · have := one vs hb y hy (by omega)
    omega
  · have := one us ha x hx h2
    omega
end Go.Proofs.YtplmbmecjhmiiaaDoor
