/- A value that comes in, as the walks take it; small closed facts of the rows. -/
import Derived.Test.YtpgnkfobgjplmaaRows
import Derived.Test.YtpgnkfobgjplmaaValOpen
import Derived.ProofKit
import Derived.OpenShut
import Derived.ShutString
import Derived.SliceStrings
import Derived.Deep.DeepHandedRow
import Derived.Deep.Slices
import Derived.Lib.SmallJoins
namespace Go.Proofs.Ytpgnkfobgjplmaa
open Go.ChangeShapes Go.WideShapes Go.ChangeAt Go.RowKit Go.Joins Go.Deep
theorem own : ownKnob Try.prog.godebug = none := by kernel_rfl
theorem laidOut : laidOutB Try.prog = true := by kernel_rfl
theorem valT : ValT Try.prog 27 3 2 9 22 50 23 44 24 4 25 where
  v := by kernel_rfl
  e := by kernel_rfl
  k := by kernel_rfl
  i := by kernel_rfl
  l := by kernel_rfl
  s := by kernel_rfl
  b := by kernel_rfl
  vs := by kernel_rfl
  ks := by kernel_rfl
  es := by kernel_rfl
  ss := by kernel_rfl
  cells := by kernel_rfl
theorem value_of_trod {H : Type} {enc : TypeId × Value → H} {W : World} {base : Nat} {v : Value} {d : DataW H} {p : List MemPlace} (hval : Value.okWide Try.prog W .any base 27 v) (h : DataW.Trod enc Try.prog W 0 (fun _ => true) true 27 v d p) :
    ∃ k u cs, v = .agg cs.toArray ∧ VS k W W.heap.size u cs := by
  obtain ⟨fs, hfs, _⟩ := fields_struct valT.v
  obtain ⟨cs, rfl, hsz⟩ := okWide_struct hfs hval
  obtain ⟨fuel, hf⟩ := h
  have hc : (Value.agg cs).cells.toList = cs.toList := rfl
  rw [hc] at hf
  obtain ⟨u, hu⟩ := val_of_trod valT fuel cs.toList _ hf
  exact ⟨fuel, u, cs.toList, by simp, hu⟩
end Go.Proofs.Ytpgnkfobgjplmaa
