/- What the document's bytes returns, and its fresh for atom keys. -/
import Derived.Test.YtkmfpkdcedfgfaaRefNext
import Derived.Test.YtkmfpkdcedfgfaaAmong
import Derived.Deep.Onto
namespace Go.Proofs.Ytkmfpkdcedfgfaa
open Go.RowKit
def allB : List UInt8 := (List.range 256).map UInt8.ofNat
theorem allB_take (k : Nat) (h : k < 256) : allB.take (k + 1) = allB.take k ++ [UInt8.ofNat k] := by
  unfold allB
  rw [← List.map_take, ← List.map_take, List.take_succ_eq_append_getElem (by simpa using h), List.map_append]
  simp
set_option maxRecDepth 100000 in
set_option maxHeartbeats 800000 in
theorem refBytes_any (w : World) : Calls Try.prog 50 #[] w fun e w' => e = .returned (.string ⟨allB.toArray⟩) ∧ Below w.heap.size w w' := by
  have hlen : ∀ k, (allB.take k).length ≤ 256 := fun k => by have : allB.length = 256 := by simp [allB]
                                                             rw [List.length_take]; omega
  have HL := Lib.hid hlen
  clear hlen
  go_enter Try.func50, Try.ntmps50
  go_wp2_with fail
  go_loopw [1, 2] (fun v i wr => ∃ k : Nat, i = .int .i64 k ∧ k ≤ 256 ∧ OwnB wr w.heap.size v (allB.take k) ∧ Below w.heap.size w wr) (fun _ i _ => 256 - (intOf i).toNat)
  case atStart => exact ⟨0, rfl, by omega, World.ownsRow_nil _ _ _ _, Below.refl _ _⟩
  case round =>
    obtain ⟨k, rfl, hk, hB, hb⟩ := hrel
    have hsr := hb.size
    by_cases hlt : k < 256
    · have HT := Lib.hid (allB_take k hlt)
      have hlk := HL.out k
      have hc : (#[Value.int .u8 (k : Int)] : Array Value).toList = Lib.byteCells [UInt8.ofNat k] := by
        have : (UInt8.ofNat k).toNat = k := by simp; omega
        show [Value.int .u8 (k : Int)] = [Value.int .u8 ((UInt8.ofNat k).toNat : Int)]
        rw [this]
      have HC := Lib.hid hc
      clear hc
      go_wp2_with (at_builtin; refine wp_app_u8 rfl _ _ rfl w.heap.size _ _ rfl hB [UInt8.ofNat k] 1 1 rfl _ HC.out rfl (by omega) hsr ?_; intro v' w1 hown' hbl; refine Hid.out ?_)
      refine Lib.hid ?_
      go_wp2
      go_roundw
      case rel => exact ⟨k + 1, by go_num, by omega, by rw [HT.out]; exact hown', hb.trans hbl⟩
      case measure => simp [intOf]; omega
    · have hke : Hid (allB.take k = allB) := Lib.hid (by
        have : allB.length = 256 := by simp [allB]
        rw [List.take_of_length_le (by omega)])
      have hstr := hB.str
      rw [hke.out] at hstr
      go_wp2
      go_ret
      exact ⟨rfl, hb⟩
def iterR (F O : List UInt8) : Nat → List UInt8 → List UInt8
  | 0, l => l
  | n + 1, l => nextR F O (iterR F O n l)
def lowA : List UInt8 := [97, 98, 99, 100, 101, 102, 103, 104, 105, 106, 107, 108, 109, 110, 111, 112, 113, 114, 115, 116, 117, 118, 119, 120, 121, 122]
def tailA : List UInt8 := [48, 49, 50, 51, 52, 53, 54, 55, 56, 57, 95] ++ lowA
theorem OwnB.mono {w : World} {B B' : Nat} {v : Value} {l : List UInt8} (h : OwnB w B v l) (hB : B' ≤ B) : OwnB w B' v l := World.ownsRow.mono h hB
set_option maxRecDepth 100000 in
set_option maxHeartbeats 1600000 in
theorem refFresh0 (A : Option Addr) (n cap N : Nat) (ss : List ByteArray) (w : World) (hS : StrS w w.heap.size A n ss) (hn : n ≤ 1000000)
    (hlen : ∀ j, j ≤ N → 0 < (iterR lowA tailA j [97]).length ∧ (iterR lowA tailA j [97]).length ≤ 1000) (hin : ∀ j, j < N → iterR lowA tailA j [97] ∈ lists ss) (hout : iterR lowA tailA N [97] ∉ lists ss) :
    Calls Try.prog 39 #[.int .i64 0, .slice A n cap] w fun e w' => e = .returned (.string ⟨(iterR lowA tailA N [97]).toArray⟩) ∧ Below w.heap.size w w' := by
  have HL := Lib.hid hlen
  have HI := Lib.hid hin
  have HO := Lib.hid hout
  have HS := Lib.hid hS
  clear hlen hin hout hS
  have hf0 : OwnB (w.alloc (.cells #[.int .u8 97] 5)) w.heap.size (.slice (some ⟨w.heap.size, 0, none⟩) 1 1) [97] := OwnB.lit w w.heap.size (Nat.le_refl _) [97] #[.int .u8 97] 1 rfl rfl (by decide)
  have HF0 := Lib.hid hf0
  clear hf0
  go_enter Try.func39, Try.ntmps39
  go_wp2_with fail
  go_loopg [7] N (fun gk v wr => ∃ k : Nat, k + gk = N ∧ OwnB wr w.heap.size v (iterR lowA tailA k [97]) ∧ Below w.heap.size w wr)
  case atStart => exact ⟨0, by omega, HF0.out, (Below.refl _ _).alloc (Nat.le_refl _) _⟩
  case round =>
    obtain ⟨k, hk, hB, hb⟩ := hrel
    have HK := Lib.hid hk
    clear hk
    have hsr := hb.size
    have hstr := hB.str
    have hSr := Lib.hid (HS.out.below hb)
    have hln := HL.out k (by have := HK.out; omega)
    go_wp2_with fail
    refine (among_any A n cap _ ss ⟨(iterR lowA tailA k [97]).toArray⟩ _ hSr.out hn).mono ?_
    rintro e w1 ⟨rfl, rfl⟩
    by_cases hkn : k < N
    · have hd : decide ((⟨(iterR lowA tailA k [97]).toArray⟩ : ByteArray).data.toList ∈ lists ss) = true := decide_eq_true (HI.out k hkn)
      rw [hd]
      go_wp2_with fail
      refine (refNext_any w.heap.size _ _ ⟨lowA.toArray⟩ ⟨tailA.toArray⟩ _ hB (fun h => by rw [h] at hln; exact absurd hln.1 (by decide)) hln.2 hsr (by decide) (by decide) (by decide) (by decide)).mono ?_
      rintro e w2 ⟨v', rfl, hB', hb'⟩
      go_wp2
      go_roundg (N - k - 1)
      case measure => have := HK.out; omega
      case rel => exact ⟨k + 1, by omega, hB'.mono hsr, hb.trans (hb'.mono hsr)⟩
    · have hke : Hid (k = N) := Lib.hid (by have := HK.out; omega)
      have hd : decide ((⟨(iterR lowA tailA k [97]).toArray⟩ : ByteArray).data.toList ∈ lists ss) = false := decide_eq_false (by rw [hke.out]; exact HO.out)
      rw [hd]
      go_wp2
      go_ret
      exact ⟨by rw [← hke.out]; rfl, hb⟩
end Go.Proofs.Ytkmfpkdcedfgfaa
