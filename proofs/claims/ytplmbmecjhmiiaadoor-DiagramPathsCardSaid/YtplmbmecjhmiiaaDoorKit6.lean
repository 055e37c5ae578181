/- How the nodes of a diagram lie in the heap. -/
import Derived.Test.YtplmbmecjhmiiaaDoorOwn
import Derived.Test.YtplmbmecjhmiiaaDoorBddC
import Derived.Test.YtplmbmecjhmiiaaDoorProg
import Derived.Lib.Builder
import Derived.OwnWalk
import Derived.Deep.AppendLies
import Derived.Deep.RegionLaw
import Derived.WalkKit
import Derived.WalkSpells
import Derived.WalkLawsBesides
import Derived.Lib.Hide
import Derived.Outline
import Derived.Lib.Walk
import Derived.Lib.SliceRun
import Derived.Deep.Onto
namespace Go.Proofs.YtplmbmecjhmiiaaDoor
open Go Go.RowKit
def ni (n : Nd) : Int × Int × Int := ((n.l : Int), (n.h : Int), (n.o : Int))
def C3 (x : Int × Int × Int) : List Value := [.int .i64 x.1, .int .i64 x.2.1, .int .i64 x.2.2]
/-- a slice of nodes in blocks of B -/
def NdR (w : World) (B : Nat → Prop) (A : Option Addr) (n c : Nat) (is : List (Int × Int × Int)) : Prop :=
  is.length = n ∧ RowB w B 3 (.slice A n c) n (fun j cs => ∃ x, is[j]? = some x ∧ cs = C3 x)
theorem NdR.at {w : World} {H : Nat} {A : Option Addr} {n c : Nat} {is : List (Int × Int × Int)} (h : NdR w (fun b => b < H) A n c is) {j : Nat} (hj : j < n) :
    ∃ b off x, A = some ⟨b, off, none⟩ ∧ b < H ∧ is[j]? = some x ∧ w.cell? ⟨b, off + j * 3, none⟩ = some (.int .i64 x.1) ∧ w.cell? ⟨b, off + j * 3 + 1, none⟩ = some (.int .i64 x.2.1) ∧ w.cell? ⟨b, off + j * 3 + 2, none⟩ = some (.int .i64 x.2.2) := by
  obtain ⟨A', cap, h1, _, h3⟩ := h.2
  injection h1 with e1 _ _
  subst e1
  obtain ⟨b, off, rfl, h5, _, h7⟩ := h3 (by omega)
  obtain ⟨cs, h8, h9, x, hx, rfl⟩ := h7 j hj
  have c0 := h9 0 (by omega)
  have c1 := h9 1 (by omega)
  have c2 := h9 2 (by omega)
  exact ⟨b, off, x, rfl, h5, hx, by simpa [C3] using c0, by simpa [C3] using c1, by simpa [C3] using c2⟩
theorem NdR.on {w w' : World} {H : Nat} {A : Option Addr} {n c : Nat} {is : List (Int × Int × Int)} (h : NdR w (fun b => b < H) A n c is) (hb : Below H w w') : NdR w' (fun b => b < H) A n c is :=
  ⟨h.1, h.2.on hb fun _ _ h => h⟩
theorem NdR.up {w : World} {B B' : Nat → Prop} {A : Option Addr} {n c : Nat} {is : List (Int × Int × Int)} (h : NdR w B A n c is) (hB : ∀ b, B b → B' b) : NdR w B' A n c is :=
  ⟨h.1, h.2.sub hB fun _ _ h => h⟩
theorem NdR.max {w : World} {B : Nat → Prop} {A : Option Addr} {n c : Nat} {is : List (Int × Int × Int)} (h : NdR w B A n c is) : n ≤ maxLen ∧ n ≤ c := by
  obtain ⟨A', cap, h1, h2, _⟩ := h.2
  injection h1 with _ _ e3
  subst e3
  exact h2
/-- the literal that reference r tests -/
def litI (is : List (Int × Int × Int)) (r : Int) : Int := if r < 2 then 12 else ((is[(r - 2).toNat]?).map Prod.fst).getD 12
/-- the reference behind r with literal l fixed -/
def folI (is : List (Int × Int × Int)) (r l : Int) (v : Bool) : Int :=
  if litI is r = l then ((is[(r - 2).toNat]?).map fun x => if v then x.2.1 else x.2.2).getD 0 else r
theorem litI_at {is : List (Int × Int × Int)} {r : Int} {j : Nat} {x : Int × Int × Int} (hr : r = (j : Int) + 2) (hx : is[j]? = some x) : litI is r = x.1 := by
  subst hr
  unfold litI
  rw [if_neg (by omega), show ((j : Int) + 2 - 2).toNat = j by omega, hx]
  rfl
theorem folI_at {is : List (Int × Int × Int)} {r l : Int} {v : Bool} {j : Nat} {x : Int × Int × Int} (hr : r = (j : Int) + 2) (hx : is[j]? = some x) (hl : x.1 = l) : folI is r l v = if v then x.2.1 else x.2.2 := by
  unfold folI
  rw [litI_at hr hx, if_pos hl]
  subst hr
  rw [show ((j : Int) + 2 - 2).toNat = j by omega, hx]
  rfl
theorem new_at' {w : World} (o : Obj) {n : Nat} (h : w.heap.size = n) : (w.alloc o).heap[n]? = some o := by rw [← h]; exact heap_alloc_new w o
theorem cells2 {w : World} {g : Nat} {e : TypeId} {z0 z1 : Value} (h : w.heap[g]? = some (.cells #[z0, z1] e (0, 0))) : w.cell? ⟨g, 0, none⟩ = some z0 ∧ w.cell? ⟨g, 1, none⟩ = some z1 :=
  ⟨(Lib.cell_of_heap h 0).trans rfl, (Lib.cell_of_heap h 1).trans rfl⟩
theorem cells3 {w : World} {g : Nat} {e : TypeId} {z0 z1 z2 : Value} (h : w.heap[g]? = some (.cells #[z0, z1, z2] e (0, 0))) : w.cell? ⟨g, 0, none⟩ = some z0 ∧ w.cell? ⟨g, 1, none⟩ = some z1 ∧ w.cell? ⟨g, 2, none⟩ = some z2 :=
  ⟨(Lib.cell_of_heap h 0).trans rfl, (Lib.cell_of_heap h 1).trans rfl, (Lib.cell_of_heap h 2).trans rfl⟩
end Go.Proofs.YtplmbmecjhmiiaaDoor
