/- What the laws' walks share. -/
import Derived.Test.YtkmfpkdcedfgfaaSame
import Derived.Test.YtkmfpkdcedfgfaaAwake
import Derived.Test.YtkmfpkdcedfgfaaRefSets2
namespace Go.Proofs.Ytkmfpkdcedfgfaa
open Go.RowKit Go.Sort
theorem step_on {B a b : World} (h : Below B.heap.size B a) (k : Below a.heap.size a b) : Below B.heap.size B b := h.trans (k.mono h.size)
theorem kept_set {w : World} {B n c : Nat} {A : Option Addr} {m : List Strg} (ho : OwnN w B (.slice A n c) m) (hs : Short m) : ∀ wq, Below w.heap.size w wq → NmS wq wq.heap.size A n m := fun _ hb => (ho.rng hs).on hb
theorem kept_arg {w W : World} {A : Option Addr} {n : Nat} {m : List Strg} (hR : NmS w w.heap.size A n m) (hb : Below w.heap.size w W) : ∀ wq, Below W.heap.size W wq → NmS wq wq.heap.size A n m := fun _ h => hR.on (hb.trans (h.mono hb.size))
theorem valid_yes (co : Bool) (A : Option Addr) (n c : Nat) (m : List Strg) (p : Strg → Bool) (w : World) (hR : NmS w w.heap.size A n m) (hn : n ≤ 1000000) (h : IsSet co m p) :
    Calls Try.prog 12 #[.agg #[.bool co, .slice A n c]] w fun e w' => e = .returned (.bool true) ∧ Below w.heap.size w w' := by
  have := valid_any co A n c m w hR hn
  rwa [decide_eq_true h.1] at this
theorem valid_as (co : Bool) (A : Option Addr) (n c : Nat) (m : List Strg) (d : Bool) (w : World) (hR : NmS w w.heap.size A n m) (hn : n ≤ 1000000) (h : decide (Asc m) = d) :
    Calls Try.prog 12 #[.agg #[.bool co, .slice A n c]] w fun e w' => e = .returned (.bool d) ∧ Below w.heap.size w w' := by
  have := valid_any co A n c m w hR hn
  rwa [h] at this
theorem refValid_as (co : Bool) (A : Option Addr) (n c : Nat) (m : List Strg) (d : Bool) (w : World) (hR : NmS w w.heap.size A n m) (hn : n ≤ 1000000) (h : decide (Asc m) = d) :
    Calls Try.prog 14 #[.agg #[.bool co, .slice A n c]] w fun e w' => e = .returned (.bool d) ∧ Below w.heap.size w w' := by
  have := refValid_any co A n c m w hR hn
  rwa [h] at this
theorem contains_as (co : Bool) (A : Option Addr) (n c : Nat) (m : List Strg) (x : Strg) (d : Bool) (w : World) (hR : NmS w w.heap.size A n m) (hn : n ≤ 1000000) (h : inN co m x = d) :
    Calls Try.prog 13 #[.agg #[.bool co, .slice A n c], .string ⟨x.toArray⟩] w fun e w' => e = .returned (.bool d) ∧ Below w.heap.size w w' := by
  have := contains_any co A n c m x w hR hn
  rwa [h] at this
theorem hasName_as (co : Bool) (A : Option Addr) (n c : Nat) (m : List Strg) (x : Strg) (d : Bool) (w : World) (hR : NmS w w.heap.size A n m) (hn : n ≤ 1000000) (h : inN co m x = d) :
    Calls Try.prog 18 #[.agg #[.bool co, .slice A n c], .string ⟨x.toArray⟩] w fun e w' => e = .returned (.bool d) ∧ Below w.heap.size w w' := by
  have := hasName_any co A n c m x w hR hn
  rwa [h] at this
theorem same_as (co co' : Bool) (A A' : Option Addr) (n n' c c' : Nat) (m m' : List Strg) (d : Bool) (w : World) (hR : NmS w w.heap.size A n m) (hR' : NmS w w.heap.size A' n' m') (hn : n ≤ 1000000) (hn' : n' ≤ 1000000) (h : decide (co = co' ∧ m = m') = d) :
    Calls Try.prog 19 #[.agg #[.bool co, .slice A n c], .agg #[.bool co', .slice A' n' c']] w fun e w' => e = .returned (.bool d) ∧ Below w.heap.size w w' := by
  have := same_any co co' A A' n n' c c' m m' w hR hR' hn hn'
  rwa [h] at this
theorem same_yes (co co' : Bool) (A A' : Option Addr) (n n' c c' : Nat) (m m' : List Strg) (w : World) (hR : NmS w w.heap.size A n m) (hR' : NmS w w.heap.size A' n' m') (hn : n ≤ 1000000) (hn' : n' ≤ 1000000) (hc : co = co') (h : m = m') :
    Calls Try.prog 19 #[.agg #[.bool co, .slice A n c], .agg #[.bool co', .slice A' n' c']] w fun e w' => e = .returned (.bool true) ∧ Below w.heap.size w w' :=
  same_as co co' A A' n n' c c' m m' true w hR hR' hn hn' (decide_eq_true ⟨hc, h⟩)
theorem inN_neg {co co' : Bool} (h : (!co) = co') (l : List Strg) (x : Strg) : inN co' l x = !inN co l x := by rw [← h, inN_not]
theorem complement_as (co co' : Bool) (A : Option Addr) (n c : Nat) (ss : List Strg) (w : World) (hR : NmS w w.heap.size A n ss) (hn : n ≤ 1000000) (h : (!co) = co') :
    Calls Try.prog 17 #[.agg #[.bool co, .slice A n c]] w (RetN co' (inN co' ss) n w) := by
  subst h
  exact complement_any co A n c ss w hR hn
theorem union_as (co co' g : Bool) (A A' : Option Addr) (n c n' c' : Nat) (rs rs' : List Strg) (w : World) (hR : NmS w w.heap.size A n rs) (hR' : NmS w w.heap.size A' n' rs') (hn : n ≤ 1000000) (hn' : n' ≤ 1000000) (h : (co || co') = g) :
    Calls Try.prog 15 #[.agg #[.bool co, .slice A n c], .agg #[.bool co', .slice A' n' c']] w (RetN g (fun x => inN co rs x || inN co' rs' x) (n + n') w) := by
  subst h
  exact union_any co co' A A' n c n' c' rs rs' w hR hR' hn hn'
theorem intersect_as (co co' g : Bool) (A A' : Option Addr) (n c n' c' : Nat) (rs rs' : List Strg) (w : World) (hR : NmS w w.heap.size A n rs) (hR' : NmS w w.heap.size A' n' rs') (hn : n ≤ 1000000) (hn' : n' ≤ 1000000) (h : (co && co') = g) :
    Calls Try.prog 16 #[.agg #[.bool co, .slice A n c], .agg #[.bool co', .slice A' n' c']] w (RetN g (fun x => inN co rs x && inN co' rs' x) (n + n') w) := by
  subst h
  exact intersect_any co co' A A' n c n' c' rs rs' w hR hR' hn hn'
theorem unionNames_as (co co' g : Bool) (A A' : Option Addr) (n c n' c' : Nat) (rs rs' : List Strg) (w : World) (hR : NmS w w.heap.size A n rs) (hR' : NmS w w.heap.size A' n' rs') (hn : n ≤ 400000) (hn' : n' ≤ 400000) (h : (co || co') = g) :
    Calls Try.prog 20 #[.agg #[.bool co, .slice A n c], .agg #[.bool co', .slice A' n' c']] w (RetN g (fun x => inN co rs x || inN co' rs' x) (n + n') w) := by
  subst h
  exact unionNames_any co co' A A' n c n' c' rs rs' w hR hR' hn hn'
theorem intersectNames_as (co co' g : Bool) (A A' : Option Addr) (n c n' c' : Nat) (rs rs' : List Strg) (w : World) (hR : NmS w w.heap.size A n rs) (hR' : NmS w w.heap.size A' n' rs') (hn : n ≤ 200000) (hn' : n' ≤ 200000) (h : (co && co') = g) :
    Calls Try.prog 21 #[.agg #[.bool co, .slice A n c], .agg #[.bool co', .slice A' n' c']] w (RetN g (fun x => inN co rs x && inN co' rs' x) (n + n') w) := by
  subst h
  exact intersectNames_any co co' A A' n c n' c' rs rs' w hR hR' hn hn'
theorem subset_as (co co' d : Bool) (A A' : Option Addr) (n c n' c' : Nat) (rs rs' : List Strg) (w : World) (hR : NmS w w.heap.size A n rs) (hR' : NmS w w.heap.size A' n' rs') (hn : n ≤ 1000000) (hn' : n' ≤ 1000000) (h : subB co rs co' rs' = d) :
    Calls Try.prog 22 #[.agg #[.bool co, .slice A n c], .agg #[.bool co', .slice A' n' c']] w fun e w' => e = .returned (.bool d) ∧ Below w.heap.size w w' := by
  subst h
  exact isSubset_any co co' A A' n c n' c' rs rs' w hR hR' hn hn'
theorem subsetNames_as (co co' d : Bool) (A A' : Option Addr) (n c n' c' : Nat) (rs rs' : List Strg) (w : World) (hR : NmS w w.heap.size A n rs) (hR' : NmS w w.heap.size A' n' rs') (hn : n ≤ 200000) (hn' : n' ≤ 200000) (h : subB co rs co' rs' = d) :
    Calls Try.prog 23 #[.agg #[.bool co, .slice A n c], .agg #[.bool co', .slice A' n' c']] w fun e w' => e = .returned (.bool d) ∧ Below w.heap.size w w' := by
  subst h
  exact subsetNames_any co co' A A' n c n' c' rs rs' w hR hR' hn hn'
/-- the cells of three boxes -/
theorem cells_held {H r : Nat} {W wq : World} {a b : Value} {t : TypeId} (hb : Below H W wq) (hr : r < H) (h : W.heap[r]? = some (.cells #[a, b] t (0, 0))) : wq.cell? ⟨r, 0, none⟩ = some a ∧ wq.cell? ⟨r, 1, none⟩ = some b :=
  ⟨(hb.cell (p := ⟨r, 0, none⟩) hr).trans (cell0 h), (hb.cell (p := ⟨r, 1, none⟩) hr).trans (cell1 h)⟩
end Go.Proofs.Ytkmfpkdcedfgfaa
