/- A Boolean function with a literal fixed that may be none. No program is named. -/
import Derived.Test.YtplmbmecjhmiiaaDoorBddC
namespace Go.Proofs.YtplmbmecjhmiiaaDoor
/-- s with the literal l set, where l is one -/
def updI (s : Nat → Bool) (l : Int) (b : Bool) : Nat → Bool := fun x => if (x : Int) = l then b else s x
def cutI (f : BF) (l : Int) (b : Bool) : BF := fun s => f (updI s l b)
theorem updI_upd (s : Nat → Bool) {l : Int} {m : Nat} (h : (m : Int) ≠ l) (b c : Bool) : updI (upd s m c) l b = upd (updI s l b) m c := by
  funext x
  unfold updI upd
  by_cases h1 : x = m
  · subst h1; simp [h]
  · simp [h1]
theorem updI_nat (s : Nat → Bool) (l : Nat) (b : Bool) : updI s l b = upd s l b := by
  funext x
  unfold updI upd
  by_cases h1 : x = l
  · simp [h1]
  · rw [if_neg (by omega), if_neg h1]
theorem cutI_nat (f : BF) (l : Nat) (b : Bool) : cutI f l b = cut f l b := by
  funext s
  unfold cutI cut
  rw [updI_nat]
theorem F12_cutI {f : BF} (hf : F12 f) (l : Int) (b : Bool) : F12 (cutI f l b) := fun s t h => hf _ _ fun x hx => by
  unfold updI
  by_cases e : (x : Int) = l
  · simp [e]
  · simp [e]; exact h x hx
theorem cutI_none {f : BF} (hf : F12 f) {l : Int} (hl : l < 0 ∨ 12 ≤ l) (b : Bool) : cutI f l b = f := by
  funext s
  refine hf _ _ fun x hx => ?_
  unfold updI
  rw [if_neg (by omega)]
theorem ind_cutI {f : BF} {x : Nat} (l : Int) (b : Bool) (h : Ind f x) : Ind (cutI f l b) x := fun s c => by
  unfold cutI
  by_cases e : (x : Int) = l
  · have : updI (upd s x c) l b = updI s l b := by
      funext y
      unfold updI upd
      by_cases h1 : (y : Int) = l
      · simp [h1]
      · simp [h1, show y ≠ x by omega]
    rw [this]
  · rw [updI_upd _ e, h]
theorem cutI_const (ns : List Nd) {r : Nat} (h : r < 2) (l : Int) (b : Bool) : cutI (F ns r) l b = F ns r := by
  have : r = 0 ∨ r = 1 := by omega
  rcases this with rfl | rfl
  · rw [F_zero]; rfl
  · rw [F_one]; rfl
/-- the node tests the literal that is fixed -/
theorem cutI_hit {us : List Nd} (hO : Ord us) {i : Nat} {n : Nd} (h : us[i]? = some n) {l : Int} (hl : (n.l : Int) = l) (b : Bool) : cutI (F us (i + 2)) l b = cutI (F us (if b then n.h else n.o)) l b := by
  funext s
  unfold cutI
  rw [F_node hO h]
  have : updI s l b n.l = b := by unfold updI; rw [if_pos hl]
  rw [this]
  cases b <;> simp
theorem cutI_step {us : List Nd} (hO : Ord us) {i : Nat} {n : Nd} (h : us[i]? = some n) {l : Int} (hl : (n.l : Int) ≠ l) (b c : Bool) : cut (cutI (F us (i + 2)) l b) n.l c = cutI (F us (if c then n.h else n.o)) l b := by
  funext s
  unfold cut cutI
  rw [updI_upd _ hl]
  exact F_upd hO h _ c
theorem can_cutI {us ns : List Nd} (hO : Ord us) {i : Nat} {n : Nd} (h : us[i]? = some n) {l : Int} (hl : (n.l : Int) ≠ l) (b : Bool) (hG : Good ns) :
    can (cutI (F us (i + 2)) l b) ns = mkN (can (cutI (F us n.o) l b) (can (cutI (F us n.h) l b) ns).1).1 n.l (can (cutI (F us n.h) l b) ns).2 (can (cutI (F us n.o) l b) (can (cutI (F us n.h) l b) ns).1).2 := by
  have hi := (List.getElem?_eq_some_iff.1 h).1
  rw [can_step (F12_cutI (F12_F hO (by omega)) l b) (hO i n h).1 (fun x hx => ind_cutI l b (ind_F hO (by omega) (by rw [litR_node h]; exact hx))) hG, cutI_step hO h hl b true, cutI_step hO h hl b false]
  rfl
/-- a diagram is valid where building it anew changes nothing -/
theorem can_self {ns : List Nd} (hG : Good ns) {r : Nat} (hr : r < ns.length + 2) : (can (F ns r) ns) = (ns, r) := can_old hG hr rfl
theorem can_again {f : BF} (hf : F12 f) : can (F (can f []).1 (can f []).2) [] = can f [] := by
  rw [(can_ok hf Good_nil).2.2.2]
end Go.Proofs.YtplmbmecjhmiiaaDoor
