/- Short names for facts of the library that these texts use most. -/
import Derived.Lib.Hide
import Derived.Lib.Builder
import Derived.Below
import Derived.WalkKit
namespace Go.Proofs.YtcjgaohblaidjaaGreatDoor
open Go Go.RowKit
theorem lR {n:Nat}:n≤n:=Nat.le_refl n
theorem aN {a b:Prop}(h:a) (g:b):a∧b:=⟨h,g⟩
theorem bR {H:Nat}{w:World}:Below H w w:=Below.refl H w
theorem xI {p:Prop}(h:p):Hid p:=Lib.hid h
theorem cH {w:World}{g:Nat}{cs:Array Value}{e:TypeId}{z:Nat×Nat}(h:w.heap[g]?=some (.cells cs e z)) (i:Nat){v:Value}(hv:cs[i]?=some v:=by rfl):w.cell? ⟨g,i,none⟩=some v:=(Lib.cell_of_heap h i).trans hv
theorem pK:(∀ (a:Act) (d:Nat) (v:Value),a.put (some d) v={ a with tmps:=a.tmps.setIfInBounds d v })∧(∀ (a:Act) (v:Value),a.put none v=a)∧(∀ {α:Type}(l:List α) (i:Nat) (a:α),l.toArray.setIfInBounds i a=(l.set i a).toArray)∧(∀ {α:Type}(x:α) (l:List α) (a:α),(x::l).set 0 a=a::l)∧∀ {α:Type}(x:α) (l:List α) (n:Nat) (a:α),(x::l).set (n+1) a=x::l.set n a:=
  ⟨fun _ _ _=>rfl,fun _ _=>rfl,fun _ _ _=>List.setIfInBounds_toArray ..,fun _ _ _=>rfl,fun _ _ _ _=>rfl⟩
end Go.Proofs.YtcjgaohblaidjaaGreatDoor
