/- What the document's among returns: whether a string is one of a slice's. -/
import Derived.Test.YtkmfpkdcedfgfaaStrs
namespace Go.Proofs.Ytkmfpkdcedfgfaa
open Go.RowKit
theorem mem_lists_take {ss : List ByteArray} {k : Nat} {s x : ByteArray} (h : ss[k]? = some s) : (x.data.toList ∈ lists (ss.take (k + 1))) ↔ (x.data.toList ∈ lists (ss.take k) ∨ s.data.toList = x.data.toList) := by
  rw [lists_snoc ss k s h]
  simp [eq_comm]
set_option maxHeartbeats 800000 in
theorem among_any (A : Option Addr) (n cap B : Nat) (ss : List ByteArray) (x : ByteArray) (w : World) (hS : StrS w B A n ss) (hn : n ≤ 1000000) :
    Calls Try.prog 33 #[.slice A n cap, .string x] w fun e w' => e = .returned (.bool (decide (x.data.toList ∈ lists ss))) ∧ w = w' := by
  have HS := Lib.hid hS
  clear hS
  go_enter Try.func33, Try.ntmps33
  go_wp2_with fail
  go_loop [5] (fun i => ∃ k : Nat, i = .int .i64 k ∧ k ≤ n ∧ x.data.toList ∉ lists (ss.take k)) (fun i => n - (intOf i).toNat)
  case atStart => exact ⟨0, rfl, by omega, by simp [lists]⟩
  case round =>
    obtain ⟨k, rfl, hk, hno⟩ := hrel
    have HN := Lib.hid hno
    clear hno
    by_cases hkn : k < n
    · obtain ⟨b, off, rfl, hbl, hc⟩ := HS.out.2.2 (by omega)
      obtain ⟨s, hs⟩ : ∃ s, ss[k]? = some s := ⟨ss[k]'(by have := HS.out.1; omega), List.getElem?_eq_getElem _⟩
      have hcell := hc k s hs
      have HM := Lib.hid (mem_lists_take (x := x) hs)
      have HIN := Lib.hid (show s.data.toList ∈ lists ss by unfold lists; exact List.mem_map.2 ⟨s, List.mem_of_getElem? hs, rfl⟩)
      clear hc hs
      by_cases he : s.data.toList = x.data.toList
      · have q1 : (s.toList == x.toList) = true := by rw [Lib.toList_data, Lib.toList_data, beq_iff_eq]; exact he
        have HE := Lib.hid he
        clear he
        go_wp2
        go_ret
        exact ⟨ret_bool (by rw [← HE.out]; exact (decide_eq_true HIN.out).symm), rfl⟩
      · have q1 : (s.toList == x.toList) = false := by rw [Lib.toList_data, Lib.toList_data, beq_eq_false_iff_ne]; exact he
        have HE := Lib.hid he
        clear he
        go_wp2
        go_round
        case rel => exact ⟨k + 1, by go_num, by omega, fun h => (HM.out.1 h).elim HN.out HE.out⟩
        case measure => simp [intOf]; omega
    · have hke : Hid (ss.take k = ss) := Lib.hid (List.take_of_length_le (by have := HS.out.1; omega))
      go_wp2
      go_ret
      exact ⟨ret_bool (by have h := HN.out; rw [hke.out] at h; exact (decide_eq_false h).symm), rfl⟩
end Go.Proofs.Ytkmfpkdcedfgfaa
