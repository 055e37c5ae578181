/- A slice of strings that comes in, and one of the call's own. -/
import Derived.Test.YtpgnkfobgjplmaaGreatVb00
import Derived.Test.YtpgnkfobgjplmaaGreatProg
import Derived.Lib.Builder
import Derived.OwnWalk
import Derived.Deep.AppendLies
import Derived.Deep.RegionLaw
import Derived.Lib.BufferWrite
import Derived.WalkKit
import Derived.WalkSpells
import Derived.WalkLawsBesides
import Derived.Lib.Hide
import Derived.Outline
import Derived.BigQuiet
import Derived.Deep.QuietTactic
import Derived.Deep.RegionHeld3
import Derived.Test.YtpgnkfobgjplmaaGreatRows
import Derived.ProofKit
import Derived.OpenShut
import Derived.ShutString
import Derived.SliceStrings
import Derived.Deep.DeepHandedRow
import Derived.Deep.Slices
import Derived.Lib.SmallJoins
namespace Go.Proofs.YtpgnkfobgjplmaaGreat
open Go.RowKit
/-- the slice of strings .slice A n cap reads as the strings ss, in blocks below B -/
def StrS (w : World) (B : Nat) (A : Option Addr) (n : Nat) (ss : List ByteArray) : Prop :=
  n = ss.length ∧ (∀ s ∈ ss, s.size ≤ maxLen) ∧ (0 < n → ∃ b off, A = some ⟨b, off, none⟩ ∧ b < B ∧ ∀ j s, ss[j]? = some s → w.cell? ⟨b, off + j, none⟩ = some (.string s))
theorem StrS.below {w w' : World} {B : Nat} {A : Option Addr} {n : Nat} {ss : List ByteArray} (h : StrS w B A n ss) (hb : Below B w w') : StrS w' B A n ss :=
  ⟨h.1, h.2.1, fun hn => by
    obtain ⟨b, off, hA, hlt, hc⟩ := h.2.2 hn
    exact ⟨b, off, hA, hlt, fun j s hs => (hb.cell (p := ⟨b, off + j, none⟩) hlt).trans (hc j s hs)⟩⟩
def lists (ss : List ByteArray) : List (List UInt8) := ss.map (fun s => s.data.toList)
theorem lists_snoc (ss : List ByteArray) (k : Nat) (s : ByteArray) (h : ss[k]? = some s) : lists (ss.take (k + 1)) = lists (ss.take k) ++ [s.data.toList] := by
  unfold lists
  rw [List.take_add_one, h]
  simp
theorem Tryz.infoStr : (Tryz.prog.info? 9).map (fun i => (i.zero, i.size, i.bytes)) = some (some (.string ⟨#[]⟩), 1, 16) := by kernel_rfl
/-- The slice v owns the strings ss, in a block from B on. -/
def OwnS (w : World) (B : Nat) (v : Value) (ss : List ByteArray) : Prop := w.ownsRow B 9 1 v ss.length (ss.map Value.string)
theorem wp_app_str {ops : Array Oper} {rest : List Oper} {o : Oper} {a : Act} {Q : Exit → Act → World → Prop} {w0 : World} (hgd : o.guard = none) (s x : Operand)
    (ho : o.op = .call { callee := .builtin .append, args := #[s, x], argTypes := #[25, 25] }) (B : Nat) (v : Value) (ss : List ByteArray) (hs : a.eval s = v) (hown : OwnS w0 B v ss)
    (y : ByteArray) (hx : a.eval x = .slice (some ⟨w0.heap.size, 0, none⟩) 1 1) (hbytes : ss.length ≤ 1000000) (hbase : B ≤ w0.heap.size)
    (h : ∀ v' w', OwnS w' B v' (ss ++ [y]) → Below B w0 w' → wpList Tryz.prog ops Q rest (a.put o.dst v') w') :
    wpList Tryz.prog ops Q (o :: rest) a (w0.alloc (.cells #[.string y] 9)) := by
  obtain ⟨i0, hi, hz0, hz1, hz2⟩ := info_parts Tryz.infoStr
  refine wpList_append_own _ hgd s x 25 ho B 9 i0 (.string ⟨#[]⟩) 1 16 Tryz.underlying25 hi hz0 hz1 hz2 rfl (by decide) v ss.length (ss.map Value.string) hs (World.ownsRow.alloc hown _)
    ⟨w0.heap.size, 0, none⟩ 1 1 [.string y] hx (by simp) ?_ ?_ (by unfold maxLen; omega) (by omega) (by simp; omega) ?_
  · exact World.news_of_block (cs := #[.string y]) (heap_alloc_new w0 _)
  · intro u hu
    simp only [List.mem_singleton] at hu
    subst hu; rfl
  · intro v' w' h1 h2 _
    refine h v' w' (by unfold OwnS; rw [List.length_append, List.map_append]; exact h1) ?_
    exact ((Below.refl B w0).alloc hbase _).grown h2 (by simp; omega) (fun j hj => (hown.lt j hj).1)
theorem OwnS.strS {w : World} {B : Nat} {v : Value} {ss : List ByteArray} (h : OwnS w B v ss) (hm : ∀ s ∈ ss, s.size ≤ maxLen) : ∃ A n cap, v = .slice A n cap ∧ n = ss.length ∧ StrS w w.heap.size A n ss := by
  obtain ⟨hlen, ⟨rfl, h0⟩ | ⟨g, cap, cur, rfl, hB, hg, hnc, hcm, hcs, htk⟩⟩ := id h
  · obtain rfl : ss = [] := List.eq_nil_of_length_eq_zero h0
    exact ⟨_, _, _, rfl, rfl, rfl, by simp, fun h => by omega⟩
  · refine ⟨_, _, _, rfl, rfl, rfl, hm, fun _ => ⟨g, 0, rfl, ?_, ?_⟩⟩
    · rcases Nat.lt_or_ge g w.heap.size with hlt | hge
      · exact hlt
      · rw [Array.getElem?_eq_none hge] at hg; cases hg
    · intro j s hs
      have hj : j < ss.length := (List.getElem?_eq_some_iff.1 hs).1
      have := World.ownsRow.cellAt h j (by omega)
      rw [Nat.zero_add, this, List.getElem?_map, hs]; rfl
end Go.Proofs.YtpgnkfobgjplmaaGreat
namespace Go.Proofs.YtpgnkfobgjplmaaGreat
open Go.RowKit
set_option maxHeartbeats 400000 in
theorem isLower_any (c : Int) (w : World) :
    Calls Tryz.prog 117 #[.int .u8 c] w fun e w' => e = .returned (.bool (lowB c)) ∧ w = w' := by
  go_enter Tryz.func117, Tryz.ntmps117
  go_wp2
  all_goals go_ret
  all_goals exact ⟨ret_bool (by unfold lowB; simp; omega), rfl⟩
set_option maxHeartbeats 400000 in
theorem isUpper_any (c : Int) (w : World) :
    Calls Tryz.prog 137 #[.int .u8 c] w fun e w' => e = .returned (.bool (upB c)) ∧ w = w' := by
  go_enter Tryz.func137, Tryz.ntmps137
  go_wp2
  all_goals go_ret
  all_goals exact ⟨ret_bool (by unfold upB; simp; omega), rfl⟩
set_option maxHeartbeats 400000 in
theorem isDigit_any (c : Int) (w : World) :
    Calls Tryz.prog 118 #[.int .u8 c] w fun e w' => e = .returned (.bool (digB c)) ∧ w = w' := by
  go_enter Tryz.func118, Tryz.ntmps118
  go_wp2
  all_goals go_ret
  all_goals exact ⟨ret_bool (by unfold digB; simp; omega), rfl⟩
set_option maxHeartbeats 800000 in
theorem isAtom_any (s : ByteArray) (w : World) (hs : s.size ≤ maxLen) :
    Calls Tryz.prog 92 #[.string s] w fun e w' => e = .returned (.bool (atomB s.data.toList)) ∧ w = w' := by
  unfold maxLen at hs
  unfold atomB
  by_cases h1 : s.size < 1
  · go_enter Tryz.func92, Tryz.ntmps92
    go_wp2
    go_ret
    exact ⟨ret_bool (nameB_false _ _ _ (by omega)).symm, rfl⟩
  · by_cases h2 : 16 < s.size
    · go_enter Tryz.func92, Tryz.ntmps92
      go_wp2
      go_ret
      exact ⟨ret_bool (nameB_false _ _ _ (by omega)).symm, rfl⟩
    · have h3 : 0 < s.size := by omega
      cases h4 : lowB (s[0]'h3).toNat
      · go_enter Tryz.func92, Tryz.ntmps92
        go_wp2_with (go_at_call 117; refine (isLower_any _ _).mono ?_; rintro e w' ⟨rfl, rfl⟩)
        go_ret
        exact ⟨ret_bool (nameB_false _ _ _ (.inr (.inr (.inl ⟨h3, h4⟩)))).symm, rfl⟩
      · go_enter Tryz.func92, Tryz.ntmps92
        go_wp2_with (go_at_call 117; refine (isLower_any _ _).mono ?_; rintro e w' ⟨rfl, rfl⟩)
        go_loop [3] (fun i => ∃ k : Nat, 1 ≤ k ∧ k ≤ s.size ∧ i = .int .i64 k ∧ ∀ j (h : j < s.size), 1 ≤ j → j < k → atomT (s[j]'h).toNat = true) (fun i => s.size - (intOf i).toNat)
        case atStart => exact ⟨1, by omega, by omega, rfl, fun j h a b => by omega⟩
        case round =>
          obtain ⟨k, hk1, hk, rfl, hall⟩ := hrel
          have HA := Lib.hid hall
          clear hall
          go_wp2_with (first | (go_at_call 117; refine (isLower_any _ _).mono ?_; rintro e w' ⟨rfl, rfl⟩) | (go_at_call 118; refine (isDigit_any _ _).mono ?_; rintro e w' ⟨rfl, rfl⟩))
          · go_round
            case rel => exact ⟨k + 1, by omega, by omega, by go_num, nameStep HA ‹_› (by simp_all [atomT])⟩
            case measure => simp [intOf]; omega
          · go_round
            case rel => exact ⟨k + 1, by omega, by omega, by go_num, nameStep HA ‹_› (by simp_all [atomT])⟩
            case measure => simp [intOf]; omega
          · go_ret
            exact ⟨ret_bool (nameB_false _ _ _ (.inr (.inr (.inr ⟨k, ‹_›, hk1, by simp_all [atomT]⟩)))).symm, rfl⟩
          · go_round
            case rel => exact ⟨k + 1, by omega, by omega, by go_num, nameStep HA ‹_› (by simp_all [atomT])⟩
            case measure => simp [intOf]; omega
          · go_ret
            exact ⟨ret_bool (nameB_true _ _ _ h3 (by omega) h4 (fun j h a => HA.out j h a (by omega))).symm, rfl⟩
set_option maxHeartbeats 800000 in
theorem isVariable_any (s : ByteArray) (w : World) (hs : s.size ≤ maxLen) :
    Calls Tryz.prog 114 #[.string s] w fun e w' => e = .returned (.bool (varB s.data.toList)) ∧ w = w' := by
  unfold maxLen at hs
  unfold varB
  by_cases h1 : s.size < 1
  · go_enter Tryz.func114, Tryz.ntmps114
    go_wp2
    go_ret
    exact ⟨ret_bool (nameB_false _ _ _ (by omega)).symm, rfl⟩
  · by_cases h2 : 16 < s.size
    · go_enter Tryz.func114, Tryz.ntmps114
      go_wp2
      go_ret
      exact ⟨ret_bool (nameB_false _ _ _ (by omega)).symm, rfl⟩
    · have h3 : 0 < s.size := by omega
      cases h4 : upB (s[0]'h3).toNat
      · go_enter Tryz.func114, Tryz.ntmps114
        go_wp2_with (go_at_call 137; refine (isUpper_any _ _).mono ?_; rintro e w' ⟨rfl, rfl⟩)
        go_ret
        exact ⟨ret_bool (nameB_false _ _ _ (.inr (.inr (.inl ⟨h3, h4⟩)))).symm, rfl⟩
      · go_enter Tryz.func114, Tryz.ntmps114
        go_wp2_with (go_at_call 137; refine (isUpper_any _ _).mono ?_; rintro e w' ⟨rfl, rfl⟩)
        go_loop [3] (fun i => ∃ k : Nat, 1 ≤ k ∧ k ≤ s.size ∧ i = .int .i64 k ∧ ∀ j (h : j < s.size), 1 ≤ j → j < k → varT (s[j]'h).toNat = true) (fun i => s.size - (intOf i).toNat)
        case atStart => exact ⟨1, by omega, by omega, rfl, fun j h a b => by omega⟩
        case round =>
          obtain ⟨k, hk1, hk, rfl, hall⟩ := hrel
          have HA := Lib.hid hall
          clear hall
          go_wp2_with (first | (go_at_call 117; refine (isLower_any _ _).mono ?_; rintro e w' ⟨rfl, rfl⟩) | (go_at_call 137; refine (isUpper_any _ _).mono ?_; rintro e w' ⟨rfl, rfl⟩) | (go_at_call 118; refine (isDigit_any _ _).mono ?_; rintro e w' ⟨rfl, rfl⟩))
          · go_round
            case rel => exact ⟨k + 1, by omega, by omega, by go_num, nameStep HA ‹_› (by simp_all [varT])⟩
            case measure => simp [intOf]; omega
          · go_round
            case rel => exact ⟨k + 1, by omega, by omega, by go_num, nameStep HA ‹_› (by simp_all [varT])⟩
            case measure => simp [intOf]; omega
          · go_round
            case rel => exact ⟨k + 1, by omega, by omega, by go_num, nameStep HA ‹_› (by simp_all [varT])⟩
            case measure => simp [intOf]; omega
          · go_ret
            exact ⟨ret_bool (nameB_false _ _ _ (.inr (.inr (.inr ⟨k, ‹_›, hk1, by simp_all [varT]⟩)))).symm, rfl⟩
          · go_round
            case rel => exact ⟨k + 1, by omega, by omega, by go_num, nameStep HA ‹_› (by simp_all [varT])⟩
            case measure => simp [intOf]; omega
          · go_ret
            exact ⟨ret_bool (nameB_true _ _ _ h3 (by omega) h4 (fun j h a => HA.out j h a (by omega))).symm, rfl⟩
set_option maxHeartbeats 400000 in
theorem validKey_any (k : Int) (s : ByteArray) (w : World) (hs : s.size ≤ maxLen) :
    Calls Tryz.prog 55 #[.agg #[.int .i64 k, .string s]] w fun e w' => e = .returned (.bool (keyB k s.data.toList)) ∧ Below w.heap.size w w' := by
  have hs' := hs
  unfold maxLen at hs'
  have hlen : s.data.toList.length = s.size := by simp
  by_cases h0 : k = 0
  · subst h0
    go_enter Tryz.func55, Tryz.ntmps55
    go_wp2_with (go_at_call 92; refine (isAtom_any _ _ hs).mono ?_; rintro e w' ⟨rfl, rfl⟩)
    go_ret
    exact ⟨ret_bool (by simp [keyB] <;> omega), (Below.refl _ _).alloc (Nat.le_refl _) _⟩
  · by_cases h1 : k = 1
    · subst h1
      go_enter Tryz.func55, Tryz.ntmps55
      go_wp2
      go_ret
      exact ⟨ret_bool (by simp [keyB] <;> omega), (Below.refl _ _).alloc (Nat.le_refl _) _⟩
    · go_enter Tryz.func55, Tryz.ntmps55
      go_wp2
      go_ret
      exact ⟨ret_bool (by simp [keyB, h0, h1]), (Below.refl _ _).alloc (Nat.le_refl _) _⟩
end Go.Proofs.YtpgnkfobgjplmaaGreat
namespace Go.Proofs.YtpgnkfobgjplmaaGreat
open Go.RowKit
set_option maxHeartbeats 400000 in
theorem lower_any (c : Int) (w : World) :
    Calls Tryz.prog 52 #[.int .u8 c] w fun e w' => e = .returned (.bool (lowB c)) ∧ w = w' := by
  go_enter Tryz.func52, Tryz.ntmps52
  go_wp2
  all_goals go_ret
  all_goals exact ⟨ret_bool (by unfold lowB; simp; omega), rfl⟩
set_option maxHeartbeats 400000 in
theorem upper_any (c : Int) (w : World) :
    Calls Tryz.prog 75 #[.int .u8 c] w fun e w' => e = .returned (.bool (upB c)) ∧ w = w' := by
  go_enter Tryz.func75, Tryz.ntmps75
  go_wp2
  all_goals go_ret
  all_goals exact ⟨ret_bool (by unfold upB; simp; omega), rfl⟩
set_option maxHeartbeats 400000 in
theorem digit_any (c : Int) (w : World) :
    Calls Tryz.prog 53 #[.int .u8 c] w fun e w' => e = .returned (.bool (digB c)) ∧ w = w' := by
  go_enter Tryz.func53, Tryz.ntmps53
  go_wp2
  all_goals go_ret
  all_goals exact ⟨ret_bool (by unfold digB; simp; omega), rfl⟩
set_option maxHeartbeats 800000 in
theorem refIsAtom_any (s : ByteArray) (w : World) (hs : s.size ≤ maxLen) :
    Calls Tryz.prog 25 #[.string s] w fun e w' => e = .returned (.bool (atomB s.data.toList)) ∧ w = w' := by
  unfold maxLen at hs
  unfold atomB
  by_cases h1 : s.size < 1
  · go_enter Tryz.func25, Tryz.ntmps25
    go_wp2
    go_ret
    exact ⟨ret_bool (nameB_false _ _ _ (by omega)).symm, rfl⟩
  · by_cases h2 : 16 < s.size
    · go_enter Tryz.func25, Tryz.ntmps25
      go_wp2
      go_ret
      exact ⟨ret_bool (nameB_false _ _ _ (by omega)).symm, rfl⟩
    · have h3 : 0 < s.size := by omega
      cases h4 : lowB (s[0]'h3).toNat
      · go_enter Tryz.func25, Tryz.ntmps25
        go_wp2_with (go_at_call 52; refine (lower_any _ _).mono ?_; rintro e w' ⟨rfl, rfl⟩)
        go_ret
        exact ⟨ret_bool (nameB_false _ _ _ (.inr (.inr (.inl ⟨h3, h4⟩)))).symm, rfl⟩
      · go_enter Tryz.func25, Tryz.ntmps25
        go_wp2_with (go_at_call 52; refine (lower_any _ _).mono ?_; rintro e w' ⟨rfl, rfl⟩)
        go_loop [3] (fun i => ∃ k : Nat, 1 ≤ k ∧ k ≤ s.size ∧ i = .int .i64 k ∧ ∀ j (h : j < s.size), 1 ≤ j → j < k → atomT (s[j]'h).toNat = true) (fun i => s.size - (intOf i).toNat)
        case atStart => exact ⟨1, by omega, by omega, rfl, fun j h a b => by omega⟩
        case round =>
          obtain ⟨k, hk1, hk, rfl, hall⟩ := hrel
          have HA := Lib.hid hall
          clear hall
          go_wp2_with (first | (go_at_call 52; refine (lower_any _ _).mono ?_; rintro e w' ⟨rfl, rfl⟩) | (go_at_call 53; refine (digit_any _ _).mono ?_; rintro e w' ⟨rfl, rfl⟩))
          · go_round
            case rel => exact ⟨k + 1, by omega, by omega, by go_num, nameStep HA ‹_› (by simp_all [atomT])⟩
            case measure => simp [intOf]; omega
          · go_round
            case rel => exact ⟨k + 1, by omega, by omega, by go_num, nameStep HA ‹_› (by simp_all [atomT])⟩
            case measure => simp [intOf]; omega
          · go_ret
            exact ⟨ret_bool (nameB_false _ _ _ (.inr (.inr (.inr ⟨k, ‹_›, hk1, by simp_all [atomT]⟩)))).symm, rfl⟩
          · go_round
            case rel => exact ⟨k + 1, by omega, by omega, by go_num, nameStep HA ‹_› (by simp_all [atomT])⟩
            case measure => simp [intOf]; omega
          · go_ret
            exact ⟨ret_bool (nameB_true _ _ _ h3 (by omega) h4 (fun j h a => HA.out j h a (by omega))).symm, rfl⟩
set_option maxHeartbeats 800000 in
theorem refIsVariable_any (s : ByteArray) (w : World) (hs : s.size ≤ maxLen) :
    Calls Tryz.prog 33 #[.string s] w fun e w' => e = .returned (.bool (varB s.data.toList)) ∧ w = w' := by
  unfold maxLen at hs
  unfold varB
  by_cases h1 : s.size < 1
  · go_enter Tryz.func33, Tryz.ntmps33
    go_wp2
    go_ret
    exact ⟨ret_bool (nameB_false _ _ _ (by omega)).symm, rfl⟩
  · by_cases h2 : 16 < s.size
    · go_enter Tryz.func33, Tryz.ntmps33
      go_wp2
      go_ret
      exact ⟨ret_bool (nameB_false _ _ _ (by omega)).symm, rfl⟩
    · have h3 : 0 < s.size := by omega
      cases h4 : upB (s[0]'h3).toNat
      · go_enter Tryz.func33, Tryz.ntmps33
        go_wp2_with (go_at_call 75; refine (upper_any _ _).mono ?_; rintro e w' ⟨rfl, rfl⟩)
        go_ret
        exact ⟨ret_bool (nameB_false _ _ _ (.inr (.inr (.inl ⟨h3, h4⟩)))).symm, rfl⟩
      · go_enter Tryz.func33, Tryz.ntmps33
        go_wp2_with (go_at_call 75; refine (upper_any _ _).mono ?_; rintro e w' ⟨rfl, rfl⟩)
        go_loop [3] (fun i => ∃ k : Nat, 1 ≤ k ∧ k ≤ s.size ∧ i = .int .i64 k ∧ ∀ j (h : j < s.size), 1 ≤ j → j < k → varT (s[j]'h).toNat = true) (fun i => s.size - (intOf i).toNat)
        case atStart => exact ⟨1, by omega, by omega, rfl, fun j h a b => by omega⟩
        case round =>
          obtain ⟨k, hk1, hk, rfl, hall⟩ := hrel
          have HA := Lib.hid hall
          clear hall
          go_wp2_with (first | (go_at_call 52; refine (lower_any _ _).mono ?_; rintro e w' ⟨rfl, rfl⟩) | (go_at_call 75; refine (upper_any _ _).mono ?_; rintro e w' ⟨rfl, rfl⟩) | (go_at_call 53; refine (digit_any _ _).mono ?_; rintro e w' ⟨rfl, rfl⟩))
          · go_round
            case rel => exact ⟨k + 1, by omega, by omega, by go_num, nameStep HA ‹_› (by simp_all [varT])⟩
            case measure => simp [intOf]; omega
          · go_round
            case rel => exact ⟨k + 1, by omega, by omega, by go_num, nameStep HA ‹_› (by simp_all [varT])⟩
            case measure => simp [intOf]; omega
          · go_round
            case rel => exact ⟨k + 1, by omega, by omega, by go_num, nameStep HA ‹_› (by simp_all [varT])⟩
            case measure => simp [intOf]; omega
          · go_ret
            exact ⟨ret_bool (nameB_false _ _ _ (.inr (.inr (.inr ⟨k, ‹_›, hk1, by simp_all [varT]⟩)))).symm, rfl⟩
          · go_round
            case rel => exact ⟨k + 1, by omega, by omega, by go_num, nameStep HA ‹_› (by simp_all [varT])⟩
            case measure => simp [intOf]; omega
          · go_ret
            exact ⟨ret_bool (nameB_true _ _ _ h3 (by omega) h4 (fun j h a => HA.out j h a (by omega))).symm, rfl⟩
set_option maxHeartbeats 400000 in
theorem refValidKey_any (k : Int) (s : ByteArray) (w : World) (hs : s.size ≤ maxLen) :
    Calls Tryz.prog 59 #[.agg #[.int .i64 k, .string s]] w fun e w' => e = .returned (.bool (keyB k s.data.toList)) ∧ Below w.heap.size w w' := by
  have hs' := hs
  unfold maxLen at hs'
  have hlen : s.data.toList.length = s.size := by simp
  by_cases h0 : k = 0
  · subst h0
    go_enter Tryz.func59, Tryz.ntmps59
    go_wp2_with (go_at_call 25; refine (refIsAtom_any _ _ hs).mono ?_; rintro e w' ⟨rfl, rfl⟩)
    all_goals go_ret
    all_goals exact ⟨ret_bool (by simp_all [keyB]), (Below.refl _ _).alloc (Nat.le_refl _) _⟩
  · by_cases h1 : k = 1
    · subst h1
      go_enter Tryz.func59, Tryz.ntmps59
      go_wp2
      go_ret
      exact ⟨ret_bool (by simp [keyB] <;> omega), (Below.refl _ _).alloc (Nat.le_refl _) _⟩
    · go_enter Tryz.func59, Tryz.ntmps59
      go_wp2
      go_ret
      exact ⟨ret_bool (by simp [keyB, h0, h1]), (Below.refl _ _).alloc (Nat.le_refl _) _⟩
end Go.Proofs.YtpgnkfobgjplmaaGreat
namespace Go.Proofs.YtpgnkfobgjplmaaGreat
open Go Go.RowKit Go.WideShapes Go.Deep
theorem addr_plus (b off q : Nat) : (⟨b, off, none⟩ : Addr).add q = ⟨b, off + q, none⟩ := by cases q <;> rfl
/-- the fields of a struct: types and offsets -/
def fieldsOf (P : Program) (t : TypeId) : Option (List (TypeId × Nat)) :=
  match P.underlying t with
  | some (.struct fs) => some (fs.toList.map fun f => (f.type, f.offset))
  | _ => none
theorem fields_struct {P : Program} {t : TypeId} {l : List (TypeId × Nat)} (h : fieldsOf P t = some l) : ∃ fs, P.underlying t = some (.struct fs) ∧ fs.size = l.length ∧ ∀ (i : Nat) (p : TypeId × Nat), l[i]? = some p → ∃ f, fs[i]? = some f ∧ f.type = p.1 ∧ f.offset = p.2 := by
  unfold fieldsOf at h
  split at h
  · rename_i fs hfs
    simp only [Option.some.injEq] at h
    subst h
    refine ⟨fs, hfs, by simp, fun i p hp => ?_⟩
    simp only [List.getElem?_map, Option.map_eq_some_iff] at hp
    obtain ⟨f, hf, rfl⟩ := hp
    exact ⟨f, by simpa using hf, rfl, rfl⟩
  · cases h
section
variable {H : Type} {enc : TypeId × Value → H} {P : Program} {w : World} {spare : Nat → Bool} {held : Bool}
/-- field number i of a struct that reads -/
theorem trod_field {t : TypeId} {l : List (TypeId × Nat)} {k : Nat} {cs : List Value} {x : DataW H × List MemPlace} (hl : fieldsOf P t = some l) (h : DataW.trod enc P w 0 spare held k t cs = some x) :
    ∃ n, k = n + 1 ∧ cs.length = P.cellsOf t ∧ ∀ (i : Nat) (p : TypeId × Nat), l[i]? = some p → ∃ y, DataW.trod enc P w 0 spare held n p.1 ((cs.drop p.2).take (P.cellsOf p.1)) = some y := by
  obtain ⟨fs, hfs, hsz, hf⟩ := fields_struct hl
  obtain ⟨xs, n, hk, _, hlen, hxl, hx⟩ := DataW.trod_struct hfs h
  refine ⟨n, hk, hlen, fun i p hp => ?_⟩
  obtain ⟨f, h1, h2, h3⟩ := hf i p hp
  have := hx i f h1
  rw [h2, h3] at this
  have hi : i < xs.length := by
    have := (List.getElem?_eq_some_iff.1 hp).1
    omega
  exact ⟨xs[i], by rw [this]; exact List.getElem?_eq_getElem hi⟩
theorem open_row {n c : Nat} {t e : TypeId} {u : Value} {y : DataW H × List MemPlace} {α : Type} (R : α → List Value → Prop) (ht : P.underlying t = some (.slice e)) (hc : P.cellsOf e = c) (hpos : 0 < c)
    (h : DataW.trod enc P w 0 spare held n t [u] = some y) (hR : ∀ m cs z, m < n → DataW.trod enc P w 0 spare held m e cs = some z → ∃ x : α, R x cs) :
    ∃ l : List α, RowP w w.heap.size c u l.length (fun j cs => ∃ x, l[j]? = some x ∧ R x cs) := by
  rcases DataW.trod_slice ht h with ⟨h0, _⟩ | ⟨a, len, cap, elems, rest, m, rfl, hu, _, hb, hl, hm, hlen, hel, _⟩
  · simp only [List.cons.injEq, and_true] at h0
    subst h0
    exact ⟨[], none, 0, rfl, ⟨Nat.zero_le _, Nat.le_refl _⟩, fun hn => absurd hn (by simp)⟩
  · simp only [List.cons.injEq, and_true] at hu
    subst hu
    have each : ∀ i : Fin len, ∃ x : α, ∃ cs : List Value, cs.length = c ∧ (∀ q, q < c → w.cell? ((a.add (i.1 * c)).add q) = cs[q]?) ∧ R x cs := by
      intro i
      have h1 := hel i.1 i.2
      rw [List.getElem?_eq_getElem (by omega), hc] at h1
      obtain ⟨cs, h2, h3⟩ := Option.bind_eq_some_iff.1 h1
      obtain ⟨_, h4, h5⟩ := World.cells?_some h2
      obtain ⟨x, hx⟩ := hR m cs _ (by omega) h3
      exact ⟨x, cs, h4, h5, hx⟩
    refine ⟨List.ofFn fun i => Classical.choose (each i), some a, cap, by simp, ⟨by simp; omega, by simp; omega⟩, fun hn => ?_⟩
    rw [List.length_ofFn] at hn
    obtain ⟨b, off, spot⟩ := a
    obtain ⟨cs0, k1, k2, _⟩ := Classical.choose_spec (each ⟨0, hn⟩)
    have hc0 := k2 0 hpos
    rw [List.getElem?_eq_getElem (by omega)] at hc0
    have hspot : spot = none := by simpa [Addr.add] using World.cell?_spot hc0
    subst hspot
    refine ⟨b, off, rfl, ?_, ?_, fun j hj => ?_⟩
    · simpa [Addr.add] using World.block_lt_of_cell? _ _ hc0
    · simpa [Addr.add] using World.block_lt_of_cell? _ _ hc0
    · rw [List.length_ofFn] at hj
      obtain ⟨cs, k3, k4, k5⟩ := Classical.choose_spec (each ⟨j, hj⟩)
      refine ⟨cs, k3, fun i hi => ?_, _, by rw [List.getElem?_ofFn, dif_pos hj], k5⟩
      have := k4 i hi
      rw [addr_plus, addr_plus] at this
      rw [← this]
/-- the types that a value is made of -/
structure ValT (P : Program) (tV tI tL tS tVs tK tKs tE tEs tB tSs : TypeId) : Prop where
  v : fieldsOf P tV = some [(tI, 0), (tL, 1), (tS, 2), (tVs, 3), (tKs, 4), (tEs, 5), (tSs, 6)]
  e : fieldsOf P tE = some [(tVs, 0), (tB, 1), (tV, 2)]
  k : fieldsOf P tK = some [(tI, 0), (tS, 1)]
  i : P.underlying tI = some (.int .i64)
  l : P.underlying tL = some (.int .i64)
  s : P.underlying tS = some .string
  b : P.underlying tB = some .bool
  vs : P.underlying tVs = some (.slice tV)
  ks : P.underlying tKs = some (.slice tK)
  es : P.underlying tEs = some (.slice tE)
  ss : P.underlying tSs = some (.slice tS)
  cells : [tV, tI, tL, tS, tVs, tK, tKs, tE, tEs, tB, tSs].map P.cellsOf = [7, 1, 1, 1, 1, 2, 1, 9, 1, 1, 1]
theorem str_cell (s : ByteArray) : (⟨s.data.toList.toArray⟩ : ByteArray) = s := by cases s; simp
theorem val_of_trod {tV tI tL tS tVs tK tKs tE tEs tB tSs : TypeId} (T : ValT P tV tI tL tS tVs tK tKs tE tEs tB tSs) :
    ∀ (k : Nat) (cs : List Value) (x : DataW H × List MemPlace), DataW.trod enc P w 0 spare held k tV cs = some x → ∃ v, VS k w w.heap.size v cs := by
  have hcl := T.cells
  simp only [List.map_cons, List.map_nil, List.cons.injEq, and_true] at hcl
  obtain ⟨cV, cI, cL, cS, cVs, cK, cKs, cE, cEs, cB, cSs⟩ := hcl
  intro k
  induction k using Nat.strongRecOn with
  | ind k ih =>
  intro cs x h
  obtain ⟨n, rfl, hlen, hf⟩ := trod_field T.v h
  rw [cV] at hlen
  obtain ⟨c0, c1, c2, c3, c4, c5, c6, rfl⟩ : ∃ c0 c1 c2 c3 c4 c5 c6, cs = [c0, c1, c2, c3, c4, c5, c6] := by
    match cs, hlen with
    | [c0, c1, c2, c3, c4, c5, c6], _ => exact ⟨c0, c1, c2, c3, c4, c5, c6, rfl⟩
  obtain ⟨y0, h0⟩ := hf 0 _ rfl
  obtain ⟨y1, h1⟩ := hf 1 _ rfl
  obtain ⟨y2, h2⟩ := hf 2 _ rfl
  obtain ⟨y3, h3⟩ := hf 3 _ rfl
  obtain ⟨y4, h4⟩ := hf 4 _ rfl
  obtain ⟨y5, h5⟩ := hf 5 _ rfl
  obtain ⟨y6, h6⟩ := hf 6 _ rfl
  simp only [cI, cL, cS, cVs, cKs, cEs, cSs, List.drop_zero, List.drop_succ_cons, List.take_succ_cons, List.take_zero] at h0 h1 h2 h3 h4 h5 h6
  obtain ⟨kind, e0, _, w0⟩ := DataW.trod_int T.i h0
  obtain ⟨int, e1, _, w1⟩ := DataW.trod_int T.l h1
  obtain ⟨text, e2, _, w2⟩ := DataW.trod_string T.s h2
  simp only [List.cons.injEq, and_true] at e0 e1 e2
  subst e0 e1 e2
  have kidsOf : ∀ m u (y : DataW H × List MemPlace), m ≤ n → DataW.trod enc P w 0 spare held m tVs [u] = some y → ∃ l : List Vl, RowP w w.heap.size 7 u l.length (fun j cs => ∃ x, l[j]? = some x ∧ VS n w w.heap.size x cs) := by
    intro m u y hm hy
    refine open_row (fun x cs => VS n w w.heap.size x cs) T.vs cV (by omega) hy fun m' cs z hlt hz => ?_
    obtain ⟨v, hv⟩ := ih m' (by omega) cs z hz
    exact ⟨v, hv.up (Nat.le_refl _) (by omega)⟩
  obtain ⟨kids, hk⟩ := kidsOf n c3 y3 (Nat.le_refl _) h3
  obtain ⟨keys, hy⟩ := open_row (α := Int × List UInt8) (fun x cs => cs = [.int .i64 x.1, .string ⟨x.2.toArray⟩] ∧ (Lit.int .i64 x.1).wf = true ∧ x.2.length ≤ maxLen) T.ks cK (by omega) h4 (by
    intro m cs z _ hz
    obtain ⟨q, rfl, hl, hg⟩ := trod_field T.k hz
    rw [cK] at hl
    obtain ⟨a, b, rfl⟩ : ∃ a b, cs = [a, b] := by
      match cs, hl with
      | [a, b], _ => exact ⟨a, b, rfl⟩
    obtain ⟨z0, g0⟩ := hg 0 _ rfl
    obtain ⟨z1, g1⟩ := hg 1 _ rfl
    simp only [cI, cS, List.drop_zero, List.drop_succ_cons, List.take_succ_cons, List.take_zero] at g0 g1
    obtain ⟨i, e0, _, wi⟩ := DataW.trod_int T.i g0
    obtain ⟨s, e1, _, ws⟩ := DataW.trod_string T.s g1
    simp only [List.cons.injEq, and_true] at e0 e1
    subst e0 e1
    exact ⟨(i, s.data.toList), by rw [str_cell], wi, by simpa using ws⟩)
  obtain ⟨ents, he⟩ := open_row (α := En) (fun x cs => ∃ args fails result, x = .mk args fails result ∧ ∃ ua rs, cs = ua :: .bool fails :: rs ∧ RowP w w.heap.size 7 ua args.length (fun j cs => ∃ x, args[j]? = some x ∧ VS n w w.heap.size x cs) ∧ VS n w w.heap.size result rs) T.es cE (by omega) h5 (by
    intro m cs z hm hz
    obtain ⟨q, rfl, hl, hg⟩ := trod_field T.e hz
    rw [cE] at hl
    obtain ⟨ua, ub, rs, rfl, hrs⟩ : ∃ ua ub rs, cs = ua :: ub :: rs ∧ rs.length = 7 := by
      match cs, hl with
      | ua :: ub :: rs, hl => exact ⟨ua, ub, rs, rfl, by simpa using hl⟩
    obtain ⟨z0, g0⟩ := hg 0 _ rfl
    obtain ⟨z1, g1⟩ := hg 1 _ rfl
    obtain ⟨z2, g2⟩ := hg 2 _ rfl
    simp only [cVs, cB, cV, List.drop_zero, List.drop_succ_cons, List.take_succ_cons, List.take_zero] at g0 g1 g2
    rw [← hrs, List.take_length] at g2
    obtain ⟨args, ha⟩ := kidsOf q ua z0 (by omega) g0
    obtain ⟨fails, e1, _⟩ := DataW.trod_bool T.b g1
    simp only [List.cons.injEq, and_true] at e1
    subst e1
    obtain ⟨result, hr⟩ := ih q (by omega) rs z2 g2
    exact ⟨.mk args fails result, args, fails, result, rfl, ua, rs, rfl, ha, hr.up (Nat.le_refl _) (by omega)⟩)
  obtain ⟨labels, hb⟩ := open_row (α := List UInt8) (fun x cs => cs = [.string ⟨x.toArray⟩] ∧ x.length ≤ maxLen) T.ss cS (by omega) h6 (by
    intro m cs z _ hz
    obtain ⟨s, rfl, _, ws⟩ := DataW.trod_string T.s hz
    exact ⟨s.data.toList, by rw [str_cell], by simpa using ws⟩)
  refine ⟨.mk kind int text.data.toList kids keys ents labels, c3, c4, c5, c6, by rw [str_cell], w0, w1, by simpa using w2, hk, hy, he.mono (Nat.le_refl _) ?_, hb⟩
  rintro j cs ⟨x, hx, args, fails, result, rfl, hrest⟩
  exact ⟨args, fails, result, hx, hrest⟩
end
end Go.Proofs.YtpgnkfobgjplmaaGreat
namespace Go.Proofs.YtpgnkfobgjplmaaGreat
open Go.ChangeShapes Go.WideShapes Go.ChangeAt Go.RowKit Go.Joins Go.Deep
theorem own : ownKnob Tryz.prog.godebug = none := by kernel_rfl
theorem laidOut : laidOutB Tryz.prog = true := by kernel_rfl
set_option maxRecDepth 100000 in
theorem valT : ValT Tryz.prog 27 3 2 9 22 74 23 55 24 4 25 where
  v := by kernel_rfl
  e := by kernel_rfl
  k := by kernel_rfl
  i := by kernel_rfl
  l := by kernel_rfl
  s := by kernel_rfl
  b := by kernel_rfl
  vs := by kernel_rfl
  ks := by kernel_rfl
  es := by kernel_rfl
  ss := by kernel_rfl
  cells := by kernel_rfl
set_option maxRecDepth 100000 in
theorem value_of_trod {H : Type} {enc : TypeId × Value → H} {W : World} {base : Nat} {v : Value} {d : DataW H} {p : List MemPlace} (hval : Value.okWide Tryz.prog W .any base 27 v) (h : DataW.Trod enc Tryz.prog W 0 (fun _ => true) true 27 v d p) :
    ∃ k u cs, v = .agg cs.toArray ∧ VS k W W.heap.size u cs := by
  obtain ⟨fs, hfs, _⟩ := fields_struct valT.v
  obtain ⟨cs, rfl, hsz⟩ := okWide_struct hfs hval
  obtain ⟨fuel, hf⟩ := h
  have hc : (Value.agg cs).cells.toList = cs.toList := rfl
  rw [hc] at hf
  obtain ⟨u, hu⟩ := val_of_trod valT fuel cs.toList _ hf
  exact ⟨fuel, u, cs.toList, by simp, hu⟩
end Go.Proofs.YtpgnkfobgjplmaaGreat
