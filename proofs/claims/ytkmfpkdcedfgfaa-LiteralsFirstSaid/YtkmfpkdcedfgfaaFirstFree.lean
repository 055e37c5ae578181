/- What firstFree returns with nextAtom. Conditions: the names on the way have at most 1000 bytes. -/
import Derived.Test.YtkmfpkdcedfgfaaNextAtom
import Derived.Test.YtkmfpkdcedfgfaaMap
import Derived.Deep.LoopGhost
namespace Go.Proofs.Ytkmfpkdcedfgfaa
open Go.RowKit
/-- the n-th name behind l -/
def iterA : Nat → List UInt8 → List UInt8
  | 0, l => l
  | n + 1, l => nextA (iterA n l)
set_option maxHeartbeats 1600000 in
theorem firstFreeA (B b m n : Nat) (v : Value) (l : List UInt8) (acc : List (List UInt8)) (w : World) (h : OwnB w B v l) (hM : MapB w b m acc) (hbB : b < B) (hBw : B ≤ w.heap.size)
    (hlen : ∀ j, j ≤ n → 0 < (iterA j l).length ∧ (iterA j l).length ≤ 1000) (hin : ∀ j, j < n → iterA j l ∈ acc) (hout : iterA n l ∉ acc) :
    Calls Try.prog 58 #[.map (some b), v, .func (.func 59) #[] #[]] w fun e w' => e = .returned (.string ⟨(iterA n l).toArray⟩) ∧ Below B w w' := by
  have HL := Lib.hid hlen
  have HI := Lib.hid hin
  have HO := Lib.hid hout
  clear hlen hin hout
  go_enter Try.func58, Try.ntmps58
  go_wp2_with fail
  go_loopg [1] n (fun gk v wr => ∃ k : Nat, k + gk = n ∧ OwnB wr B v (iterA k l) ∧ Below B w wr)
  case atStart => exact ⟨0, by omega, h, Below.refl _ _⟩
  case round =>
    obtain ⟨k, hk, hB, hb⟩ := hrel
    have HK := Lib.hid hk
    clear hk
    have hsr := hb.size
    have hstr := hB.str
    have hln := HL.out k (by have := HK.out; omega)
    have hM2 := hM.below hb hbB
    have hsz : (⟨(iterA k l).toArray⟩ : ByteArray).size ≤ maxLen := by show (iterA k l).length ≤ maxLen; unfold maxLen; omega
    by_cases hkn : k < n
    · have hlook : (Instr.lookup 70 (.map (some b)) (.string ⟨(iterA k l).toArray⟩) false).run Try.prog wr = .ok (.bool true) wr := by
        have := hM2.look ⟨(iterA k l).toArray⟩ hsz
        rw [this, show decide ((⟨(iterA k l).toArray⟩ : ByteArray).data.toList ∈ acc) = true from decide_eq_true (HI.out k hkn)]
      go_wp2_with fail
      refine (nextAtom_any _ _ _ _ hB hln.1 hln.2 (by omega)).mono ?_
      rintro e w1 ⟨v', rfl, hB', hb'⟩
      go_wp2
      go_roundg (n - k - 1)
      case measure => have := HK.out; omega
      case rel => exact ⟨k + 1, by omega, hB', hb.trans hb'⟩
    · have hke : Hid (k = n) := Lib.hid (by have := HK.out; omega)
      have hlook : (Instr.lookup 70 (.map (some b)) (.string ⟨(iterA k l).toArray⟩) false).run Try.prog wr = .ok (.bool false) wr := by
        have := hM2.look ⟨(iterA k l).toArray⟩ hsz
        rw [this, show decide ((⟨(iterA k l).toArray⟩ : ByteArray).data.toList ∈ acc) = false from decide_eq_false (by rw [hke.out]; exact HO.out)]
      go_wp2
      go_ret
      exact ⟨by rw [← hke.out]; rfl, hb⟩
end Go.Proofs.Ytkmfpkdcedfgfaa
