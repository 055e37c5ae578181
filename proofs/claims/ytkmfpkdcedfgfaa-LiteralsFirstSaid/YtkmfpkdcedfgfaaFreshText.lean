/- What firstFree returns with nextText, and the document's fresh for string keys. -/
import Derived.Test.YtkmfpkdcedfgfaaNextText
import Derived.Test.YtkmfpkdcedfgfaaRefFresh
import Derived.Test.YtkmfpkdcedfgfaaFreshPlain
namespace Go.Proofs.Ytkmfpkdcedfgfaa
open Go.RowKit
/-- the n-th text behind l -/
def iterT : Nat → List UInt8 → List UInt8
  | 0, l => l
  | n + 1, l => nextT (iterT n l)
set_option maxHeartbeats 1600000 in
theorem firstFreeT (B b m n : Nat) (v : Value) (l : List UInt8) (acc : List (List UInt8)) (w : World) (h : OwnB w B v l) (hnil : l = [] → v = .slice none 0 0) (hM : MapB w b m acc) (hbB : b < B) (hBw : B ≤ w.heap.size)
    (hlen : ∀ j, j ≤ n → (iterT j l).length ≤ 1000) (hne : ∀ j, 1 ≤ j → j ≤ n → iterT j l ≠ []) (hin : ∀ j, j < n → iterT j l ∈ acc) (hout : iterT n l ∉ acc) :
    Calls Try.prog 58 #[.map (some b), v, .func (.func 60) #[] #[]] w fun e w' => e = .returned (.string ⟨(iterT n l).toArray⟩) ∧ Below B w w' := by
  have HL := Lib.hid hlen
  have HE := Lib.hid hne
  have HI := Lib.hid hin
  have HO := Lib.hid hout
  have HNIL := Lib.hid hnil
  clear hlen hne hin hout hnil
  go_enter Try.func58, Try.ntmps58
  go_wp2_with fail
  go_loopg [1] n (fun gk v wr => ∃ k : Nat, k + gk = n ∧ OwnB wr B v (iterT k l) ∧ (iterT k l = [] → v = .slice none 0 0) ∧ Below B w wr)
  case atStart => exact ⟨0, by omega, h, HNIL.out, Below.refl _ _⟩
  case round =>
    obtain ⟨k, hk, hB, hnl, hb⟩ := hrel
    have HK := Lib.hid hk
    have HNL := Lib.hid hnl
    clear hk hnl
    have hsr := hb.size
    have hstr := hB.str
    have hln := HL.out k (by have := HK.out; omega)
    have hM2 := hM.below hb hbB
    have hsz : (⟨(iterT k l).toArray⟩ : ByteArray).size ≤ maxLen := by show (iterT k l).length ≤ maxLen; unfold maxLen; omega
    by_cases hkn : k < n
    · have hlook : (Instr.lookup 70 (.map (some b)) (.string ⟨(iterT k l).toArray⟩) false).run Try.prog wr = .ok (.bool true) wr := by
        have := hM2.look ⟨(iterT k l).toArray⟩ hsz
        rw [this, show decide ((⟨(iterT k l).toArray⟩ : ByteArray).data.toList ∈ acc) = true from decide_eq_true (HI.out k hkn)]
      go_wp2_with fail
      refine (nextText_any _ _ _ _ hB HNL.out hln (by omega)).mono ?_
      rintro e w1 ⟨v', rfl, hB', hb'⟩
      go_wp2
      go_roundg (n - k - 1)
      case measure => have := HK.out; omega
      case rel => exact ⟨k + 1, by omega, hB', fun h => absurd h (HE.out (k + 1) (by omega) (by omega)), hb.trans hb'⟩
    · have hke : Hid (k = n) := Lib.hid (by have := HK.out; omega)
      have hlook : (Instr.lookup 70 (.map (some b)) (.string ⟨(iterT k l).toArray⟩) false).run Try.prog wr = .ok (.bool false) wr := by
        have := hM2.look ⟨(iterT k l).toArray⟩ hsz
        rw [this, show decide ((⟨(iterT k l).toArray⟩ : ByteArray).data.toList ∈ acc) = false from decide_eq_false (by rw [hke.out]; exact HO.out)]
      go_wp2
      go_ret
      exact ⟨by rw [← hke.out]; rfl, hb⟩
theorem iterT_nodup : ((List.range (60 + 1)).map (fun j => iterT j [])).Nodup := by decide +kernel
theorem iterT_len : ∀ j, j ≤ 60 → (iterT j []).length ≤ 1000 := by
  have h : ∀ j : Fin 61, (iterT j.1 []).length ≤ 1000 := by decide +kernel
  exact fun j hj => h ⟨j, by omega⟩
theorem iterT_ne : ∀ j, 1 ≤ j → j ≤ 60 → iterT j [] ≠ [] := by
  have h : ∀ j : Fin 61, 1 ≤ j.1 → iterT j.1 [] ≠ [] := by decide +kernel
  exact fun j h1 hj => h ⟨j, by omega⟩ h1
theorem iterRT_eq : ∀ j, j ≤ 60 → iterR allB allB j [] = iterT j [] := by
  have h : ∀ j : Fin 61, iterR allB allB j.1 [] = iterT j.1 [] := by decide +kernel
  exact fun j hj => h ⟨j, by omega⟩
theorem allB_facts : (⟨allB.toArray⟩ : ByteArray).size = 256 := by
  show allB.length = 256
  simp [allB]
set_option maxRecDepth 100000 in
set_option maxHeartbeats 1600000 in
theorem refFresh1 (A : Option Addr) (n cap N : Nat) (ss : List ByteArray) (w : World) (hS : StrS w w.heap.size A n ss) (hn : n ≤ 1000000) (hN : N ≤ 60)
    (hin : ∀ j, j < N → iterT j [] ∈ lists ss) (hout : iterT N [] ∉ lists ss) :
    Calls Try.prog 39 #[.int .i64 1, .slice A n cap] w fun e w' => e = .returned (.string ⟨(iterT N []).toArray⟩) ∧ Below w.heap.size w w' := by
  have HI := Lib.hid hin
  have HO := Lib.hid hout
  have HS := Lib.hid hS
  clear hin hout hS
  have hsz := allB_facts
  have HSZ := Lib.hid hsz
  clear hsz
  have hb0 : Below w.heap.size w (w.alloc (.cells #[.int .u8 97] 5)) := (Below.refl _ _).alloc (Nat.le_refl _) _
  go_enter Try.func39, Try.ntmps39
  go_wp2_with fail
  refine (refBytes_any _).mono ?_
  rintro e w1 ⟨rfl, hb1⟩
  have hb1' := hb0.trans (hb1.mono (by simp))
  have hs1 := hb1'.size
  clear hb0 hb1
  go_wp2_with fail
  go_loopg [7] N (fun gk v wr => ∃ k : Nat, k + gk = N ∧ OwnB wr w.heap.size v (iterT k []) ∧ (iterT k [] = [] → v = .slice none 0 0) ∧ Below w.heap.size w wr)
  case atStart => exact ⟨0, by omega, World.ownsRow_nil _ _ _ _, fun _ => rfl, hb1'⟩
  case round =>
    obtain ⟨k, hk, hB, hnl, hb⟩ := hrel
    have HK := Lib.hid hk
    have HNL := Lib.hid hnl
    clear hk hnl
    have hsr := hb.size
    have hstr := hB.str
    have hSr := Lib.hid (HS.out.below hb)
    have hln := iterT_len k (by have := HK.out; omega)
    go_wp2_with fail
    refine (among_any A n cap _ ss ⟨(iterT k []).toArray⟩ _ hSr.out hn).mono ?_
    rintro e w2 ⟨rfl, rfl⟩
    by_cases hkn : k < N
    · have hd : decide ((⟨(iterT k []).toArray⟩ : ByteArray).data.toList ∈ lists ss) = true := decide_eq_true (HI.out k hkn)
      rw [hd]
      have hnext : Hid (nextR allB allB (iterT k []) = iterT (k + 1) []) := Lib.hid (by
        rw [← iterRT_eq k (by omega), ← iterRT_eq (k + 1) (by omega)]; rfl)
      go_wp2_with fail
      refine (refNext_any w.heap.size _ _ ⟨allB.toArray⟩ ⟨allB.toArray⟩ _ hB HNL.out hln hsr (by rw [HSZ.out]; omega) (by rw [HSZ.out]; omega) (by rw [HSZ.out]; omega) (by rw [HSZ.out]; omega)).mono ?_
      rintro e w3 ⟨v', rfl, hB', hb'⟩
      go_wp2
      go_roundg (N - k - 1)
      case measure => have := HK.out; omega
      case rel => exact ⟨k + 1, by omega, by rw [← hnext.out]; exact hB'.mono hsr, fun h => absurd h (iterT_ne (k + 1) (by omega) (by omega)), hb.trans (hb'.mono hsr)⟩
    · have hke : Hid (k = N) := Lib.hid (by have := HK.out; omega)
      have hd : decide ((⟨(iterT k []).toArray⟩ : ByteArray).data.toList ∈ lists ss) = false := decide_eq_false (by rw [hke.out]; exact HO.out)
      rw [hd]
      go_wp2
      go_ret
      exact ⟨by rw [← hke.out]; rfl, hb⟩
end Go.Proofs.Ytkmfpkdcedfgfaa
