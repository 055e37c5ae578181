/- What FreshAtom returns. Conditions: at most 1000000 names are used, and the names on the way have at most 1000 bytes. -/
import Derived.Test.YtjinngobiefifaaDoorFirstFree
namespace Go.Proofs.YtjinngobiefifaaDoor
open Go.RowKit
/-- the slice of strings .slice A n cap reads as the strings ss, in blocks below B -/
def StrS (w : World) (B : Nat) (A : Option Addr) (n : Nat) (ss : List ByteArray) : Prop :=
  n = ss.length ∧ (∀ s ∈ ss, s.size ≤ maxLen) ∧ (0 < n → ∃ b off, A = some ⟨b, off, none⟩ ∧ b < B ∧ ∀ j s, ss[j]? = some s → w.cell? ⟨b, off + j, none⟩ = some (.string s))
theorem StrS.below {w w' : World} {B : Nat} {A : Option Addr} {n : Nat} {ss : List ByteArray} (h : StrS w B A n ss) (hb : Below B w w') : StrS w' B A n ss :=
  ⟨h.1, h.2.1, fun hn => by
    obtain ⟨b, off, hA, hlt, hc⟩ := h.2.2 hn
    exact ⟨b, off, hA, hlt, fun j s hs => (hb.cell (p := ⟨b, off + j, none⟩) hlt).trans (hc j s hs)⟩⟩
def lists (ss : List ByteArray) : List (List UInt8) := ss.map (fun s => s.data.toList)
theorem lists_snoc (ss : List ByteArray) (k : Nat) (s : ByteArray) (h : ss[k]? = some s) : lists (ss.take (k + 1)) = lists (ss.take k) ++ [s.data.toList] := by
  unfold lists
  rw [List.take_add_one, h]
  simp
set_option maxHeartbeats 1600000 in
theorem freshAtom_any (A : Option Addr) (n cap N : Nat) (ss : List ByteArray) (w : World) (hS : StrS w w.heap.size A n ss) (hn : n ≤ 1000000)
    (hlen : ∀ j, j ≤ N → 0 < (iterA j [97]).length ∧ (iterA j [97]).length ≤ 1000) (hin : ∀ j, j < N → iterA j [97] ∈ lists ss) (hout : iterA N [97] ∉ lists ss) :
    Calls Tryd.prog 26 #[.slice A n cap] w fun e w' => e = .returned (.string ⟨(iterA N [97]).toArray⟩) ∧ Below w.heap.size w w' := by
  have HL := Lib.hid hlen
  have HI := Lib.hid hin
  have HO := Lib.hid hout
  have HS := Lib.hid hS
  clear hlen hin hout hS
  have hmm := @run_makeMap Tryd.prog
  go_enter Tryd.func26, Tryd.ntmps26
  go_wp2_with fail
  go_loopw [9, 5] (fun i _ wr => ∃ k : Nat, i = .int .i64 k ∧ k ≤ n ∧ MapB wr w.heap.size k (lists (ss.take k)) ∧ Below w.heap.size w wr) (fun i _ _ => n - (intOf i).toNat)
  case atStart => exact ⟨0, rfl, by omega, by simpa [lists] using MapB.made w, Below.grown (row := none) (Below.refl _ _) (World.grownBy_alloc w _ none) (Nat.le_refl _) (fun j hj => by cases hj)⟩
  case round =>
    obtain ⟨k, rfl, hk, hM, hb⟩ := hrel
    have hsr := hb.size
    have hlt2 := hM.lt
    by_cases hkn : k < n
    · obtain ⟨b, off, rfl, hbl, hc⟩ := (HS.out.below hb).2.2 (by omega)
      obtain ⟨s, hs⟩ : ∃ s, ss[k]? = some s := ⟨ss[k]'(by have := HS.out.1; omega), List.getElem?_eq_getElem _⟩
      have hcell := hc k s hs
      have hsm := HS.out.2.1 s (List.mem_of_getElem? hs)
      have HSN := Lib.hid (lists_snoc ss k s hs)
      clear hc hs
      go_wp2_with (refine wp_map_store rfl _ _ _ rfl w.heap.size k _ rfl hM (by unfold maxLen; omega) s rfl hsm rfl ?_; intro w1 hM1 hg1; refine Hid.out ?_)
      refine Lib.hid ?_
      go_wp2
      go_roundw
      case rel => exact ⟨k + 1, by go_num, by omega, by rw [HSN.out]; exact hM1, hb.grown hg1 hsr (fun j hj => by injection hj with hj; omega)⟩
      case measure => simp [intOf]; omega
    · have hke : Hid (ss.take k = ss) := Lib.hid (List.take_of_length_le (by have := HS.out.1; omega))
      have hM3 : MapB (wr.alloc (.cells #[.int .u8 97] 5)) w.heap.size k (lists (ss.take k)) := hM.below ((Below.refl wr.heap.size wr).alloc (Nat.le_refl _) _) hlt2
      have hO : OwnB (wr.alloc (.cells #[.int .u8 97] 5)) wr.heap.size (.slice (some ⟨wr.heap.size, 0, none⟩) 1 1) [97] := OwnB.lit wr wr.heap.size (Nat.le_refl _) [97] #[.int .u8 97] 1 rfl rfl (by decide)
      rw [hke.out] at hM3
      have HM3 := Lib.hid hM3
      have HO3 := Lib.hid hO
      clear hM3 hO hM
      go_wp2_with fail
      refine (firstFreeA wr.heap.size w.heap.size k N _ _ _ _ HO3.out HM3.out hlt2 (by simp) HL.out HI.out HO.out).mono ?_
      rintro e w1 ⟨rfl, hb1⟩
      go_wp2
      go_ret
      exact ⟨rfl, hb.trans (((Below.refl w.heap.size wr).alloc hsr _).trans (hb1.mono hsr))⟩
end Go.Proofs.YtjinngobiefifaaDoor
