/- What the functions on names and keys of layer 1 (ident) return. Condition: a string has at most maxLen bytes. -/
import Derived.Test.YtjfknigiehggkaaGreatVl00
import Derived.Test.YtjfknigiehggkaaGreatVl01
import Derived.Test.YtjfknigiehggkaaGreatProg
import Derived.WalkKit
import Derived.WalkSpells
import Derived.WalkLawsBesides
import Derived.BigQuiet
import Derived.Deep.QuietTactic
import Derived.Lib.Hide
import Derived.Outline
import Derived.Deep.RegionHeld3
import Derived.Test.YtjfknigiehggkaaGreatVlShelf
import Derived.Test.YtjfknigiehggkaaGreatRows
import Derived.ProofKit
import Derived.OpenShut
import Derived.ShutString
import Derived.SliceStrings
import Derived.Deep.DeepHandedRow
import Derived.Deep.Slices
import Derived.Lib.SmallJoins
namespace Go.Proofs.YtjfknigiehggkaaGreat
open Go.RowKit
set_option maxHeartbeats 400000 in
theorem isLower_any (c : Int) (w : World) :
    Calls Tryz.prog 117 #[.int .u8 c] w fun e w' => e = .returned (.bool (lowB c)) ∧ w = w' := by
  go_enter Tryz.func117, Tryz.ntmps117
  go_wp2
  all_goals go_ret
  all_goals exact ⟨ret_bool (by unfold lowB; simp; omega), rfl⟩
set_option maxHeartbeats 400000 in
theorem isUpper_any (c : Int) (w : World) :
    Calls Tryz.prog 137 #[.int .u8 c] w fun e w' => e = .returned (.bool (upB c)) ∧ w = w' := by
  go_enter Tryz.func137, Tryz.ntmps137
  go_wp2
  all_goals go_ret
  all_goals exact ⟨ret_bool (by unfold upB; simp; omega), rfl⟩
set_option maxHeartbeats 400000 in
theorem isDigit_any (c : Int) (w : World) :
    Calls Tryz.prog 118 #[.int .u8 c] w fun e w' => e = .returned (.bool (digB c)) ∧ w = w' := by
  go_enter Tryz.func118, Tryz.ntmps118
  go_wp2
  all_goals go_ret
  all_goals exact ⟨ret_bool (by unfold digB; simp; omega), rfl⟩
set_option maxHeartbeats 800000 in
theorem isAtom_any (s : ByteArray) (w : World) (hs : s.size ≤ maxLen) :
    Calls Tryz.prog 92 #[.string s] w fun e w' => e = .returned (.bool (atomB s.data.toList)) ∧ w = w' := by
  unfold maxLen at hs
  unfold atomB
  by_cases h1 : s.size < 1
  · go_enter Tryz.func92, Tryz.ntmps92
    go_wp2
    go_ret
    exact ⟨ret_bool (nameB_false _ _ _ (by omega)).symm, rfl⟩
  · by_cases h2 : 16 < s.size
    · go_enter Tryz.func92, Tryz.ntmps92
      go_wp2
      go_ret
      exact ⟨ret_bool (nameB_false _ _ _ (by omega)).symm, rfl⟩
    · have h3 : 0 < s.size := by omega
      cases h4 : lowB (s[0]'h3).toNat
      · go_enter Tryz.func92, Tryz.ntmps92
        go_wp2_with (go_at_call 117; refine (isLower_any _ _).mono ?_; rintro e w' ⟨rfl, rfl⟩)
        go_ret
        exact ⟨ret_bool (nameB_false _ _ _ (.inr (.inr (.inl ⟨h3, h4⟩)))).symm, rfl⟩
      · go_enter Tryz.func92, Tryz.ntmps92
        go_wp2_with (go_at_call 117; refine (isLower_any _ _).mono ?_; rintro e w' ⟨rfl, rfl⟩)
        go_loop [3] (fun i => ∃ k : Nat, 1 ≤ k ∧ k ≤ s.size ∧ i = .int .i64 k ∧ ∀ j (h : j < s.size), 1 ≤ j → j < k → atomT (s[j]'h).toNat = true) (fun i => s.size - (intOf i).toNat)
        case atStart => exact ⟨1, by omega, by omega, rfl, fun j h a b => by omega⟩
        case round =>
          obtain ⟨k, hk1, hk, rfl, hall⟩ := hrel
          have HA := Lib.hid hall
          clear hall
          go_wp2_with (first | (go_at_call 117; refine (isLower_any _ _).mono ?_; rintro e w' ⟨rfl, rfl⟩) | (go_at_call 118; refine (isDigit_any _ _).mono ?_; rintro e w' ⟨rfl, rfl⟩))
          · go_round
            case rel => exact ⟨k + 1, by omega, by omega, by go_num, nameStep HA ‹_› (by simp_all [atomT])⟩
            case measure => simp [intOf]; omega
          · go_round
            case rel => exact ⟨k + 1, by omega, by omega, by go_num, nameStep HA ‹_› (by simp_all [atomT])⟩
            case measure => simp [intOf]; omega
          · go_ret
            exact ⟨ret_bool (nameB_false _ _ _ (.inr (.inr (.inr ⟨k, ‹_›, hk1, by simp_all [atomT]⟩)))).symm, rfl⟩
          · go_round
            case rel => exact ⟨k + 1, by omega, by omega, by go_num, nameStep HA ‹_› (by simp_all [atomT])⟩
            case measure => simp [intOf]; omega
          · go_ret
            exact ⟨ret_bool (nameB_true _ _ _ h3 (by omega) h4 (fun j h a => HA.out j h a (by omega))).symm, rfl⟩
set_option maxHeartbeats 800000 in
theorem isVariable_any (s : ByteArray) (w : World) (hs : s.size ≤ maxLen) :
    Calls Tryz.prog 114 #[.string s] w fun e w' => e = .returned (.bool (varB s.data.toList)) ∧ w = w' := by
  unfold maxLen at hs
  unfold varB
  by_cases h1 : s.size < 1
  · go_enter Tryz.func114, Tryz.ntmps114
    go_wp2
    go_ret
    exact ⟨ret_bool (nameB_false _ _ _ (by omega)).symm, rfl⟩
  · by_cases h2 : 16 < s.size
    · go_enter Tryz.func114, Tryz.ntmps114
      go_wp2
      go_ret
      exact ⟨ret_bool (nameB_false _ _ _ (by omega)).symm, rfl⟩
    · have h3 : 0 < s.size := by omega
      cases h4 : upB (s[0]'h3).toNat
      · go_enter Tryz.func114, Tryz.ntmps114
        go_wp2_with (go_at_call 137; refine (isUpper_any _ _).mono ?_; rintro e w' ⟨rfl, rfl⟩)
        go_ret
        exact ⟨ret_bool (nameB_false _ _ _ (.inr (.inr (.inl ⟨h3, h4⟩)))).symm, rfl⟩
      · go_enter Tryz.func114, Tryz.ntmps114
        go_wp2_with (go_at_call 137; refine (isUpper_any _ _).mono ?_; rintro e w' ⟨rfl, rfl⟩)
        go_loop [3] (fun i => ∃ k : Nat, 1 ≤ k ∧ k ≤ s.size ∧ i = .int .i64 k ∧ ∀ j (h : j < s.size), 1 ≤ j → j < k → varT (s[j]'h).toNat = true) (fun i => s.size - (intOf i).toNat)
        case atStart => exact ⟨1, by omega, by omega, rfl, fun j h a b => by omega⟩
        case round =>
          obtain ⟨k, hk1, hk, rfl, hall⟩ := hrel
          have HA := Lib.hid hall
          clear hall
          go_wp2_with (first | (go_at_call 117; refine (isLower_any _ _).mono ?_; rintro e w' ⟨rfl, rfl⟩) | (go_at_call 137; refine (isUpper_any _ _).mono ?_; rintro e w' ⟨rfl, rfl⟩) | (go_at_call 118; refine (isDigit_any _ _).mono ?_; rintro e w' ⟨rfl, rfl⟩))
          · go_round
            case rel => exact ⟨k + 1, by omega, by omega, by go_num, nameStep HA ‹_› (by simp_all [varT])⟩
            case measure => simp [intOf]; omega
          · go_round
            case rel => exact ⟨k + 1, by omega, by omega, by go_num, nameStep HA ‹_› (by simp_all [varT])⟩
            case measure => simp [intOf]; omega
          · go_round
            case rel => exact ⟨k + 1, by omega, by omega, by go_num, nameStep HA ‹_› (by simp_all [varT])⟩
            case measure => simp [intOf]; omega
          · go_ret
            exact ⟨ret_bool (nameB_false _ _ _ (.inr (.inr (.inr ⟨k, ‹_›, hk1, by simp_all [varT]⟩)))).symm, rfl⟩
          · go_round
            case rel => exact ⟨k + 1, by omega, by omega, by go_num, nameStep HA ‹_› (by simp_all [varT])⟩
            case measure => simp [intOf]; omega
          · go_ret
            exact ⟨ret_bool (nameB_true _ _ _ h3 (by omega) h4 (fun j h a => HA.out j h a (by omega))).symm, rfl⟩
set_option maxHeartbeats 400000 in
theorem validKey_any (k : Int) (s : ByteArray) (w : World) (hs : s.size ≤ maxLen) :
    Calls Tryz.prog 55 #[.agg #[.int .i64 k, .string s]] w fun e w' => e = .returned (.bool (keyB k s.data.toList)) ∧ Below w.heap.size w w' := by
  have hs' := hs
  unfold maxLen at hs'
  have hlen : s.data.toList.length = s.size := by simp
  by_cases h0 : k = 0
  · subst h0
    go_enter Tryz.func55, Tryz.ntmps55
    go_wp2_with (go_at_call 92; refine (isAtom_any _ _ hs).mono ?_; rintro e w' ⟨rfl, rfl⟩)
    go_ret
    exact ⟨ret_bool (by simp [keyB] <;> omega), (Below.refl _ _).alloc (Nat.le_refl _) _⟩
  · by_cases h1 : k = 1
    · subst h1
      go_enter Tryz.func55, Tryz.ntmps55
      go_wp2
      go_ret
      exact ⟨ret_bool (by simp [keyB] <;> omega), (Below.refl _ _).alloc (Nat.le_refl _) _⟩
    · go_enter Tryz.func55, Tryz.ntmps55
      go_wp2
      go_ret
      exact ⟨ret_bool (by simp [keyB, h0, h1]), (Below.refl _ _).alloc (Nat.le_refl _) _⟩
end Go.Proofs.YtjfknigiehggkaaGreat
namespace Go.Proofs.YtjfknigiehggkaaGreat.D
open Go Go.RowKit
theorem cmpInt_any (a b : Int) (w : World) : Calls Tryz.prog 95 #[.int .i64 a, .int .i64 b] w fun e w' => e = .returned (.int .i64 (cmpI a b)) ∧ w' = w := by
  refine (Tryz.cmp_Compare_int a b w).mono ?_
  rintro e w' ⟨rfl, rfl⟩
  exact ⟨ret_i (by unfold Lib.compareInt cmpI; (repeat' split) <;> first | rfl | omega), rfl⟩
set_option maxHeartbeats 400000 in
theorem cmpInt64_any (a b : Int) (w : World) : Calls Tryz.prog 168 #[.int .i64 a, .int .i64 b] w fun e w' => e = .returned (.int .i64 (cmpI a b)) ∧ w' = w := by
  go_enter Tryz.func168, Tryz.ntmps168
  go_wp2
  all_goals go_ret
  all_goals exact ⟨ret_i (by unfold cmpI; (repeat' split) <;> first | rfl | omega), rfl⟩
theorem strCmp_any (a b : ByteArray) (w : World) : Calls Tryz.prog 96 #[.string a, .string b] w fun e w' => e = .returned (.int .i64 (cmpT a.data.toList b.data.toList)) ∧ w' = w := by
  refine (Tryz.strings_Compare a b w).mono ?_
  rintro e w' ⟨rfl, rfl⟩
  exact ⟨ret_i (bytes_cmpT _ _), rfl⟩
set_option maxHeartbeats 400000 in
theorem cmpKeys_any (x y : Int × List UInt8) (w : World) :
    Calls Tryz.prog 58 #[.agg #[.int .i64 x.1, .string ⟨x.2.toArray⟩], .agg #[.int .i64 y.1, .string ⟨y.2.toArray⟩]] w fun e w' => e = .returned (.int .i64 (cmpK x y)) ∧ Below w.heap.size w w' := by
  obtain ⟨k1, s1⟩ := x
  obtain ⟨k2, s2⟩ := y
  by_cases h : k1 = k2
  · subst h
    have hc : cmpI k1 k1 = 0 := cmpI_zero.2 rfl
    have HT : Hid (cmpK (k1, s1) (k1, s2) = cmpT s1 s2) := Lib.hid (by simp only [cmpK, hc]; rfl)
    go_enter Tryz.func58, Tryz.ntmps58
    go_wp2_with (first | (go_at_call 95; refine (cmpInt_any _ _ _).mono ?_; rintro e w' ⟨rfl, rfl⟩) | (go_at_call 96; refine (strCmp_any _ _ _).mono ?_; rintro e w' ⟨rfl, rfl⟩))
    go_ret
    exact ⟨ret_i HT.out.symm, ((Below.refl _ _).alloc (Nat.le_refl _) _).alloc (by simp) _⟩
  · have hz : cmpI k1 k2 ≠ 0 := fun h0 => h (cmpI_zero.1 h0)
    have hc : (cmpI k1 k2 != 0) = true := by rw [bne_iff_ne]; exact hz
    have HT : Hid (cmpK (k1, s1) (k2, s2) = cmpI k1 k2) := Lib.hid (by simp only [cmpK, thn_of hz])
    clear hz
    go_enter Tryz.func58, Tryz.ntmps58
    go_wp2_with (first | (go_at_call 95; refine (cmpInt_any _ _ _).mono ?_; rintro e w' ⟨rfl, rfl⟩) | (go_at_call 96; refine (strCmp_any _ _ _).mono ?_; rintro e w' ⟨rfl, rfl⟩))
    go_ret
    exact ⟨ret_i HT.out.symm, ((Below.refl _ _).alloc (Nat.le_refl _) _).alloc (by simp) _⟩
end Go.Proofs.YtjfknigiehggkaaGreat.D
namespace Go.Proofs.YtjfknigiehggkaaGreat
open Go Go.RowKit
theorem mx (a b : Int) : (if a < b then b else a) = max a b := by split <;> omega
theorem highVs_app : ∀ l m : List Vl, highVs (l ++ m) = max (highVs l) (highVs m)
  | [], m => by simp [highVs]
  | a :: s, m => by simp only [List.cons_append, highVs, highVs_app s m]; omega
theorem highEs_app : ∀ l m : List En, highEs (l ++ m) = max (highEs l) (highEs m)
  | [], m => by simp [highEs]
  | a :: s, m => by simp only [List.cons_append, highEs, highEs_app s m]; omega
theorem highVs_step {l : List Vl} {j : Nat} {x : Vl} (h : l[j]? = some x) : highVs (l.take (j + 1)) = max (highVs (l.take j)) (high x) ∧ highVs (l.take j) ≤ highVs l ∧ high x ≤ highVs l := by
  have h1 : l.take (j + 1) = l.take j ++ [x] := by rw [List.take_add_one, h]; rfl
  have h2 := highVs_app (l.take (j + 1)) (l.drop (j + 1))
  rw [List.take_append_drop, h1, highVs_snoc] at h2
  exact ⟨by rw [h1, highVs_snoc], by omega, by omega⟩
theorem highEs_step {l : List En} {j : Nat} {x : En} (h : l[j]? = some x) : highEs (l.take (j + 1)) = max (highEs (l.take j)) (highE x) ∧ highEs (l.take j) ≤ highEs l ∧ highE x ≤ highEs l := by
  have h1 : l.take (j + 1) = l.take j ++ [x] := by rw [List.take_add_one, h]; rfl
  have h2 := highEs_app (l.take (j + 1)) (l.drop (j + 1))
  rw [List.take_append_drop, h1, highEs_snoc] at h2
  exact ⟨by rw [h1, highEs_snoc], by omega, by omega⟩
set_option maxRecDepth 100000 in
set_option maxHeartbeats 3200000 in
theorem maxh_any (k : Nat) (hP : Hid (∀ (v : Vl) (cs : List Value) (w : World), VS k w w.heap.size v cs → high v ≤ 1048577 → Calls Tryz.prog 39 #[.agg cs.toArray] w fun e w' => e = .returned (.int .i64 ((high v : Int))) ∧ Below w.heap.size w w')) (A : Option Addr) (cap : Nat) (l : List Vl) (w : World) (hl : RowP w w.heap.size 7 (.slice A l.length cap) l.length (fun j cs => ∃ x, l[j]? = some x ∧ VS k w w.heap.size x cs)) (hm : highVs l ≤ 1048577) :
    Calls Tryz.prog 80 #[.slice A l.length cap] w fun e w' => e = .returned (.int .i64 (highVs l : Int)) ∧ Below w.heap.size w w' := by
  obtain ⟨A0, cap0, hA0, hll⟩ := hl.form
  clear hA0 A0 cap0
  unfold maxLen at hll
  have HL := Lib.hid hl
  clear hl
  go_enter Tryz.func80, Tryz.ntmps80
  go_wp2_with fail
  go_loopw [3, 8] (fun n i wr => ∃ j : Nat, i = .int .i64 j ∧ j ≤ l.length ∧ n = .int .i64 ((highVs (l.take j) : Nat) : Int) ∧ Below w.heap.size w wr) (fun _ i _ => l.length - (intOf i).toNat)
  case atStart => exact ⟨0, rfl, by omega, by simp [highVs], Below.refl _ _⟩
  case round =>
    obtain ⟨j, rfl, hj, rfl, hb⟩ := hrel
    by_cases hjn : j < l.length
    · obtain ⟨b, off, cap0, x0, x1, x2, x3, x4, x5, x6, hu, hbH, ⟨x, hx, hv⟩, c0, c1, c2, c3, c4, c5, c6⟩ := (HL.out.on hb (fun _ _ h => h)).at7 hjn
      injection hu with hA _ hcap
      subst hA hcap
      obtain ⟨a, i, st, A3, n3, c3', A4, n4, c4', A5, n5, c5', A6, n6, c6', he7⟩ := hv.form7
      simp only [List.cons.injEq, and_true] at he7
      obtain ⟨rfl, rfl, rfl, rfl, rfl, rfl, rfl⟩ := he7
      have hst := highVs_step hx
      have kn : (j : Int) < (l.length : Int) := by omega
      have k0 : (0 : Int) ≤ (j : Int) := by omega
      have HX : Hid (max (highVs (l.take j) : Int) (high x : Int) = ((highVs (l.take (j + 1)) : Nat) : Int)) := Lib.hid (by rw [hst.1]; omega)
      have HBX : Hid (high x ≤ 1048577) := Lib.hid (by omega)
      have HV := Lib.hid hb
      have HVX := Lib.hid (VS.up hb.size (Nat.le_refl _) (VS.on hb hv))
      clear hx hv hst hb
      go_wp2_with fail
      rename World => U
      obtain ⟨W2, hW2⟩ : ∃ W2, W2 = U.alloc (.cells #[.int .i64 a, .int .i64 i, .string st, .slice A3 n3 c3', .slice A4 n4 c4', .slice A5 n5 c5', .slice A6 n6 c6'] 27) := ⟨_, rfl⟩
      have hb2 : Below U.heap.size U W2 := by rw [hW2]; exact (Below.refl _ _).alloc (Nat.le_refl _) _
      have q0 : W2.cell? ⟨U.heap.size, 0, none⟩ = some (.int .i64 a) := by rw [hW2]; simp
      have q1 : W2.cell? ⟨U.heap.size, 1, none⟩ = some (.int .i64 i) := by rw [hW2]; simp
      have q2 : W2.cell? ⟨U.heap.size, 2, none⟩ = some (.string st) := by rw [hW2]; simp
      have q3 : W2.cell? ⟨U.heap.size, 3, none⟩ = some (.slice A3 n3 c3') := by rw [hW2]; simp
      have q4 : W2.cell? ⟨U.heap.size, 4, none⟩ = some (.slice A4 n4 c4') := by rw [hW2]; simp
      have q5 : W2.cell? ⟨U.heap.size, 5, none⟩ = some (.slice A5 n5 c5') := by rw [hW2]; simp
      have q6 : W2.cell? ⟨U.heap.size, 6, none⟩ = some (.slice A6 n6 c6') := by rw [hW2]; simp
      have hc := hP.out x _ W2 (VS.up hb2.size (Nat.le_refl _) (VS.on hb2 HVX.out)) HBX.out
      have HB2 := Lib.hid (HV.out.trans (hb2.mono HV.out.size))
      rw [← hW2]
      clear hW2 c0 c1 c2 c3 c4 c5 c6 hb2
      generalize (high x : Int) = nx at hc HX
      generalize ((highVs (l.take j) : Nat) : Int) = q at HX ⊢
      go_wp2_with (go_at_call 39; refine hc.mono ?_; rintro e w1 ⟨rfl, hb1⟩; refine Hid.out ?_)
      refine Lib.hid ?_
      clear hc
      go_wp2
      go_roundw
      case rel => exact ⟨j + 1, by go_num, by omega, by rw [← HX.out, ← mx], HB2.out.trans (hb1.mono HB2.out.size)⟩
      case measure => simp [intOf]; omega
    · have hke : l.take j = l := List.take_of_length_le (by omega)
      rw [hke]
      go_wp2
      go_ret
      exact ⟨by simp, hb⟩
set_option maxRecDepth 100000 in
set_option maxHeartbeats 3200000 in
theorem heightP_any : ∀ (k : Nat) (v : Vl) (cs : List Value) (w : World), VS k w w.heap.size v cs → high v ≤ 1048577 →
    Calls Tryz.prog 39 #[.agg cs.toArray] w fun e w' => e = .returned (.int .i64 ((high v : Int))) ∧ Below w.heap.size w w' := by
  intro k
  induction k with
  | zero => intro v cs w h; exact h.elim
  | succ k ih =>
    intro v cs w h hm
    obtain ⟨kind, int, text, kids, keys, ents, labels⟩ := v
    obtain ⟨uk, uy, ue, ul, rfl, _, _, _, hk, hyy, he, hll⟩ := h
    obtain ⟨A, cap, rfl, hkl⟩ := hk.form
    obtain ⟨A', cap', rfl, hel⟩ := he.form
    unfold maxLen at hkl hel
    have HKI := Lib.hid hk
    have HEN := Lib.hid he
    clear hk he hyy hll
    have IH := Lib.hid ih
    clear ih
    unfold high at hm ⊢
    have HM : highVs kids ≤ 1048576 ∧ highEs ents ≤ 1048576 := ⟨by omega, by omega⟩
    have HMM := Lib.hid HM
    clear hm HM
    obtain ⟨W, hW⟩ : ∃ W, W = w.alloc (.cells #[.int .i64 kind, .int .i64 int, .string ⟨text.toArray⟩, .slice A kids.length cap, uy, .slice A' ents.length cap', ul] 27) := ⟨_, rfl⟩
    have hbl : Below w.heap.size w W := by rw [hW]; exact (Below.refl _ _).alloc (Nat.le_refl _) _
    have d3 : W.cell? ⟨w.heap.size, 3, none⟩ = some (.slice A kids.length cap) := by rw [hW]; simp
    have d5 : W.cell? ⟨w.heap.size, 5, none⟩ = some (.slice A' ents.length cap') := by rw [hW]; simp
    have hlt : w.heap.size < W.heap.size := by rw [hW]; simp
    have hs := maxh_any k IH A cap kids W ((HKI.out.on hbl fun _ _ ⟨x, h1, h2⟩ => ⟨x, h1, VS.up hbl.size (Nat.le_refl _) (VS.on hbl h2)⟩).mono hbl.size fun _ _ h => h) (by have := HMM.out.1; omega)
    have HB := Lib.hid hbl
    clear hbl
    have HS : Hid (highVs kids ≤ 1048576) := Lib.hid HMM.out.1
    have HKE : Hid (((max (highVs kids) (highEs ents) + 1 : Nat) : Int) = 1 + ((max (highVs kids) (highEs ents) : Nat) : Int)) := Lib.hid (by omega)
    have HKB : Hid (max (highVs kids) (highEs ents) ≤ 1048576) := Lib.hid (by have := HMM.out; omega)
    generalize ((max (highVs kids) (highEs ents) + 1 : Nat) : Int) = RES at HKE ⊢
    go_enter Tryz.func39, Tryz.ntmps39
    go_wp2_with fail
    rw [← hW]
    clear hW
    go_wp2_with (go_at_call 80; refine hs.mono ?_; rintro e w1 ⟨rfl, hb1⟩; refine Hid.out ?_)
    refine Lib.hid ?_
    clear hs
    have e5 : w1.cell? ⟨w.heap.size, 5, none⟩ = some (.slice A' ents.length cap') := (hb1.cell (p := ⟨w.heap.size, 5, none⟩) hlt).trans d5
    have HBW := Lib.hid (HB.out.trans (hb1.mono HB.out.size))
    have hlt1 : w.heap.size < w1.heap.size := Nat.lt_of_lt_of_le hlt hb1.size
    clear d3 d5 hb1 hlt
    go_wp2_with fail
    go_loopw [3, 12] (fun n i w2 => ∃ j : Nat, i = .int .i64 j ∧ j ≤ ents.length ∧ n = .int .i64 ((max (highVs kids) (highEs (ents.take j)) : Nat) : Int) ∧ Below w1.heap.size w1 w2) (fun _ i _ => ents.length - (intOf i).toNat)
    case atStart => exact ⟨0, rfl, by omega, by simp [highEs], Below.refl _ _⟩
    case round =>
      obtain ⟨j, rfl, hj, rfl, hb⟩ := hrel
      by_cases hjn : j < ents.length
      · have hbw : Below w.heap.size w wr := HBW.out.trans (hb.mono HBW.out.size)
        obtain ⟨b, off, cap0, ya, yb, x0, x1, x2, x3, x4, x5, x6, hu, hbH, ⟨args, fails, result, hx, ua, rs, hcs, ha, hr⟩, c0, c1, c2, c3, c4, c5, c6, c7, c8⟩ := (HEN.out.on hbw (fun _ _ h => h)).at9 hjn
        injection hu with hA _ hcap
        subst hA hcap
        simp only [List.cons.injEq] at hcs
        obtain ⟨rfl, rfl, rfl⟩ := hcs
        obtain ⟨A2, cap2, rfl, hal⟩ := ha.form
        unfold maxLen at hal
        obtain ⟨a, i, st, A3, n3, c3', A4, n4, c4', A5, n5, c5', A6, n6, c6', he7⟩ := hr.form7
        simp only [List.cons.injEq, and_true] at he7
        obtain ⟨rfl, rfl, rfl, rfl, rfl, rfl, rfl⟩ := he7
        have hst := highEs_step hx
        have kn : (j : Int) < (ents.length : Int) := by omega
        have k0 : (0 : Int) ≤ (j : Int) := by omega
        have HX := Lib.hid hst.1
        have HST := Lib.hid hst
        have HV := Lib.hid hb
        have HAR := Lib.hid ha
        have HRS := Lib.hid hr
        have HBW2 := Lib.hid hbw
        have HJN := Lib.hid hjn
        clear hx ha hr hbw hb hj hjn
        have HA0 := Lib.hid (show highE (.mk args fails result) ≤ 1048576 by have := HMM.out.2; omega)
        have HP0 : Hid (((max (highVs kids) (highEs (ents.take j)) : Nat) : Int) ≤ 1048576 ∧ 0 ≤ ((max (highVs kids) (highEs (ents.take j)) : Nat) : Int)) := Lib.hid (by have := HMM.out; omega)
        have HXX : Hid (((max (highVs kids) (highEs (ents.take (j + 1))) : Nat) : Int) = max ((max (highVs kids) (highEs (ents.take j)) : Nat) : Int) (highE (.mk args fails result) : Int)) := Lib.hid (by rw [hst.1]; omega)
        generalize ((max (highVs kids) (highEs (ents.take j)) : Nat) : Int) = p at HXX HP0 ⊢
        clear hst
        go_wp2_with fail
        rename World => U
        obtain ⟨W2, hW2⟩ : ∃ W2, W2 = U.alloc (.cells #[.slice A2 args.length cap2, .bool fails, .int .i64 a, .int .i64 i, .string st, .slice A3 n3 c3', .slice A4 n4 c4', .slice A5 n5 c5', .slice A6 n6 c6'] 55) := ⟨_, rfl⟩
        have hb2 : Below U.heap.size U W2 := by rw [hW2]; exact (Below.refl _ _).alloc (Nat.le_refl _) _
        have q0 : W2.cell? ⟨U.heap.size, 0, none⟩ = some (.slice A2 args.length cap2) := by rw [hW2]; simp
        have HQ : Hid (W2.cell? ⟨U.heap.size, 1, none⟩ = some (.bool fails) ∧ W2.cell? ⟨U.heap.size, 2, none⟩ = some (.int .i64 a) ∧ W2.cell? ⟨U.heap.size, 3, none⟩ = some (.int .i64 i) ∧ W2.cell? ⟨U.heap.size, 4, none⟩ = some (.string st) ∧ W2.cell? ⟨U.heap.size, 5, none⟩ = some (.slice A3 n3 c3') ∧ W2.cell? ⟨U.heap.size, 6, none⟩ = some (.slice A4 n4 c4') ∧ W2.cell? ⟨U.heap.size, 7, none⟩ = some (.slice A5 n5 c5') ∧ W2.cell? ⟨U.heap.size, 8, none⟩ = some (.slice A6 n6 c6')) := Lib.hid (by rw [hW2]; simp)
        have hlt2 : U.heap.size < W2.heap.size := by rw [hW2]; simp
        rw [← hW2]
        clear hW2
        have hbu := HBW2.out.trans (hb2.mono HBW2.out.size)
        have hsa := maxh_any k IH A2 cap2 args W2 ((HAR.out.on hbu fun _ _ ⟨x, h1, h2⟩ => ⟨x, h1, VS.up hbu.size (Nat.le_refl _) (VS.on hbu h2)⟩).mono hbu.size fun _ _ h => h) (by have := HA0.out; unfold highE at this; omega)
        have HBU := Lib.hid hbu
        have HVU := Lib.hid (HV.out.trans (hb2.mono HV.out.size))
        clear hb2 hbu c0 c1 c2 c3 c4 c5 c6 c7 c8
        have HNA : Hid ((highE (.mk args fails result) : Int) = max (highVs args : Int) (if fails then 0 else (high result : Int))) := Lib.hid (by rw [highE]; cases fails <;> simp <;> omega)
        have HRB : Hid (fails = false → high result ≤ 1048577) := Lib.hid (fun e => by have := HA0.out; rw [highE, e] at this; simp at this; omega)
        have HNB : Hid ((highVs args : Int) ≤ 1048577 ∧ 0 ≤ (highVs args : Int)) := Lib.hid (by have := HA0.out; unfold highE at this; omega)
        generalize (highVs args : Int) = na at hsa HNA HNB
        clear HA0
        have HPN : Hid (p < na ∨ na ≤ p) := Lib.hid (by omega)
        by_cases hpn : p < na
        all_goals
          replace HPN := Lib.hid hpn
          go_wp2_with (go_at_call 80; refine hsa.mono ?_; rintro e w2 ⟨rfl, hb3⟩; refine Hid.out ?_)
          refine Lib.hid ?_
          clear hsa q0
          have HVW := Lib.hid (HVU.out.trans (hb3.mono HVU.out.size))
          obtain ⟨s1, s2, s3, s4, s5, s6, s7, s8⟩ := HQ.out
          have r1 := (hb3.cell (p := ⟨U.heap.size, 1, none⟩) hlt2).trans s1
          cases fails
          · have r2 := (hb3.cell (p := ⟨U.heap.size, 2, none⟩) hlt2).trans s2
            have r3 := (hb3.cell (p := ⟨U.heap.size, 3, none⟩) hlt2).trans s3
            have r4 := (hb3.cell (p := ⟨U.heap.size, 4, none⟩) hlt2).trans s4
            have r5 := (hb3.cell (p := ⟨U.heap.size, 5, none⟩) hlt2).trans s5
            have r6 := (hb3.cell (p := ⟨U.heap.size, 6, none⟩) hlt2).trans s6
            have r7 := (hb3.cell (p := ⟨U.heap.size, 7, none⟩) hlt2).trans s7
            have r8 := (hb3.cell (p := ⟨U.heap.size, 8, none⟩) hlt2).trans s8
            have hbv := HBU.out.trans (hb3.mono HBU.out.size)
            have hc := IH.out result _ w2 (VS.up hbv.size (Nat.le_refl _) (VS.on hbv HRS.out)) (HRB.out rfl)
            have HX2 : Hid (((max (highVs kids) (highEs (ents.take (j + 1))) : Nat) : Int) = max (max p na) (high result : Int)) := Lib.hid (by rw [HXX.out, HNA.out]; simp only [Bool.false_eq_true, if_false]; omega)
            clear s1 s2 s3 s4 s5 s6 s7 s8 hbv HX hb3
            generalize (high result : Int) = nr at hc HX2
            go_wp2_with (go_at_call 39; refine hc.mono ?_; rintro e w3 ⟨rfl, hb4⟩; refine Hid.out ?_)
            refine Lib.hid ?_
            clear hc
            go_wp2
            go_roundw
            case rel => exact ⟨j + 1, by go_num, HJN.out, by first | (rw [HX2.out]; done) | (rw [HX2.out]; have := HPN.out; congr 1; (try split) <;> omega), HVW.out.trans (hb4.mono HVW.out.size)⟩
            case measure => have := HJN.out; simp [intOf]; omega
          · have HX2 : Hid (((max (highVs kids) (highEs (ents.take (j + 1))) : Nat) : Int) = max p na) := Lib.hid (by rw [HXX.out, HNA.out]; have := HNB.out; simp only [if_true]; omega)
            clear s1 s2 s3 s4 s5 s6 s7 s8 HX hb3
            go_wp2
            go_roundw
            case rel => exact ⟨j + 1, by go_num, HJN.out, by first | (rw [HX2.out]; done) | (rw [HX2.out]; have := HPN.out; congr 1; (try split) <;> omega), HVW.out⟩
            case measure => have := HJN.out; simp [intOf]; omega
      · have hke : ents.take j = ents := List.take_of_length_le (by omega)
        rw [hke]
        have HH := Lib.hid (show ((max (highVs kids) (highEs ents) : Nat) : Int) ≤ 1048576 ∧ 0 ≤ ((max (highVs kids) (highEs ents) : Nat) : Int) by have := HKB.out; omega)
        generalize ((max (highVs kids) (highEs ents) : Nat) : Int) = p at HH HKE ⊢
        have hw : IntKind.i64.wrap (1 + p) = 1 + p := IntWalk.i64_in _ (by have := HH.out; omega)
        go_wp2
        go_ret
        exact ⟨ret_i (by rw [HKE.out]; try (have := HH.out; go_num)), HBW.out.trans (hb.mono HBW.out.size)⟩
end Go.Proofs.YtjfknigiehggkaaGreat
namespace Go.Proofs.YtjfknigiehggkaaGreat
open Go Go.RowKit
set_option maxRecDepth 100000 in
set_option maxHeartbeats 3200000 in
theorem sum_any (k : Nat) (hP : Hid (∀ (v : Vl) (cs : List Value) (w : World), VS k w w.heap.size v cs → Calls Tryz.prog 38 #[.agg cs.toArray] w fun e w' => e = .returned (.int .i64 (wrap64 (nodes v))) ∧ Below w.heap.size w w')) (A : Option Addr) (cap : Nat) (l : List Vl) (w : World) (hl : RowP w w.heap.size 7 (.slice A l.length cap) l.length (fun j cs => ∃ x, l[j]? = some x ∧ VS k w w.heap.size x cs)) :
    Calls Tryz.prog 79 #[.slice A l.length cap] w fun e w' => e = .returned (.int .i64 (wrap64 (nodesVs l))) ∧ Below w.heap.size w w' := by
  obtain ⟨A0, cap0, hA0, hll⟩ := hl.form
  clear hA0 A0 cap0
  unfold maxLen at hll
  have HL := Lib.hid hl
  clear hl
  go_enter Tryz.func79, Tryz.ntmps79
  go_wp2_with fail
  go_loopw [3, 8] (fun n i wr => ∃ j : Nat, i = .int .i64 j ∧ j ≤ l.length ∧ n = .int .i64 (wrap64 ((nodesVs (l.take j) : Nat) : Int)) ∧ Below w.heap.size w wr) (fun _ i _ => l.length - (intOf i).toNat)
  case atStart => exact ⟨0, rfl, by omega, by simp [nodesVs, wrap64], Below.refl _ _⟩
  case round =>
    obtain ⟨j, rfl, hj, rfl, hb⟩ := hrel
    by_cases hjn : j < l.length
    · obtain ⟨b, off, cap0, x0, x1, x2, x3, x4, x5, x6, hu, hbH, ⟨x, hx, hv⟩, c0, c1, c2, c3, c4, c5, c6⟩ := (HL.out.on hb (fun _ _ h => h)).at7 hjn
      injection hu with hA _ hcap
      subst hA hcap
      obtain ⟨a, i, st, A3, n3, c3', A4, n4, c4', A5, n5, c5', A6, n6, c6', he7⟩ := hv.form7
      simp only [List.cons.injEq, and_true] at he7
      obtain ⟨rfl, rfl, rfl, rfl, rfl, rfl, rfl⟩ := he7
      have hst := (nodesVs_step hx).1
      have kn : (j : Int) < (l.length : Int) := by omega
      have k0 : (0 : Int) ≤ (j : Int) := by omega
      have HX : Hid (wrap64 (wrap64 ((nodesVs (l.take j) : Nat) : Int) + wrap64 (nodes x : Int)) = wrap64 ((nodesVs (l.take (j + 1)) : Nat) : Int)) := Lib.hid (wrap_add (by rw [hst]; omega))
      have HV := Lib.hid hb
      have HVX := Lib.hid (VS.up hb.size (Nat.le_refl _) (VS.on hb hv))
      clear hx hv hst hb
      go_wp2_with fail
      rename World => U
      obtain ⟨W2, hW2⟩ : ∃ W2, W2 = U.alloc (.cells #[.int .i64 a, .int .i64 i, .string st, .slice A3 n3 c3', .slice A4 n4 c4', .slice A5 n5 c5', .slice A6 n6 c6'] 27) := ⟨_, rfl⟩
      have hb2 : Below U.heap.size U W2 := by rw [hW2]; exact (Below.refl _ _).alloc (Nat.le_refl _) _
      have q0 : W2.cell? ⟨U.heap.size, 0, none⟩ = some (.int .i64 a) := by rw [hW2]; simp
      have q1 : W2.cell? ⟨U.heap.size, 1, none⟩ = some (.int .i64 i) := by rw [hW2]; simp
      have q2 : W2.cell? ⟨U.heap.size, 2, none⟩ = some (.string st) := by rw [hW2]; simp
      have q3 : W2.cell? ⟨U.heap.size, 3, none⟩ = some (.slice A3 n3 c3') := by rw [hW2]; simp
      have q4 : W2.cell? ⟨U.heap.size, 4, none⟩ = some (.slice A4 n4 c4') := by rw [hW2]; simp
      have q5 : W2.cell? ⟨U.heap.size, 5, none⟩ = some (.slice A5 n5 c5') := by rw [hW2]; simp
      have q6 : W2.cell? ⟨U.heap.size, 6, none⟩ = some (.slice A6 n6 c6') := by rw [hW2]; simp
      have hc := hP.out x _ W2 (VS.up hb2.size (Nat.le_refl _) (VS.on hb2 HVX.out))
      have HB2 := Lib.hid (HV.out.trans (hb2.mono HV.out.size))
      rw [← hW2]
      clear hW2 c0 c1 c2 c3 c4 c5 c6 hb2
      generalize wrap64 (nodes x : Int) = nx at hc HX
      generalize wrap64 ((nodesVs (l.take j) : Nat) : Int) = q at HX ⊢
      go_wp2_with (go_at_call 38; refine hc.mono ?_; rintro e w1 ⟨rfl, hb1⟩; refine Hid.out ?_)
      refine Lib.hid ?_
      clear hc
      go_wp2
      go_roundw
      case rel => exact ⟨j + 1, by go_num, by omega, by rw [← HX.out], HB2.out.trans (hb1.mono HB2.out.size)⟩
      case measure => simp [intOf]; omega
    · have hke : l.take j = l := List.take_of_length_le (by omega)
      rw [hke]
      go_wp2
      go_ret
      exact ⟨by simp, hb⟩
set_option maxRecDepth 100000 in
set_option maxHeartbeats 3200000 in
theorem nodesP_any : ∀ (k : Nat) (v : Vl) (cs : List Value) (w : World), VS k w w.heap.size v cs →
    Calls Tryz.prog 38 #[.agg cs.toArray] w fun e w' => e = .returned (.int .i64 (wrap64 (nodes v))) ∧ Below w.heap.size w w' := by
  intro k
  induction k with
  | zero => intro v cs w h; exact h.elim
  | succ k ih =>
    intro v cs w h
    obtain ⟨kind, int, text, kids, keys, ents, labels⟩ := v
    obtain ⟨uk, uy, ue, ul, rfl, _, _, _, hk, hyy, he, hll⟩ := h
    obtain ⟨A, cap, rfl, hkl⟩ := hk.form
    obtain ⟨A', cap', rfl, hel⟩ := he.form
    unfold maxLen at hkl hel
    have HKI := Lib.hid hk
    have HEN := Lib.hid he
    clear hk he hyy hll
    have IH := Lib.hid ih
    clear ih
    unfold nodes
    obtain ⟨W, hW⟩ : ∃ W, W = w.alloc (.cells #[.int .i64 kind, .int .i64 int, .string ⟨text.toArray⟩, .slice A kids.length cap, uy, .slice A' ents.length cap', ul] 27) := ⟨_, rfl⟩
    have hbl : Below w.heap.size w W := by rw [hW]; exact (Below.refl _ _).alloc (Nat.le_refl _) _
    have d3 : W.cell? ⟨w.heap.size, 3, none⟩ = some (.slice A kids.length cap) := by rw [hW]; simp
    have d5 : W.cell? ⟨w.heap.size, 5, none⟩ = some (.slice A' ents.length cap') := by rw [hW]; simp
    have hlt : w.heap.size < W.heap.size := by rw [hW]; simp
    have hs := sum_any k IH A cap kids W ((HKI.out.on hbl fun _ _ ⟨x, h1, h2⟩ => ⟨x, h1, VS.up hbl.size (Nat.le_refl _) (VS.on hbl h2)⟩).mono hbl.size fun _ _ h => h)
    have HB := Lib.hid hbl
    clear hbl
    have HS : Hid (wrap64 ((1 : Int) + wrap64 (nodesVs kids : Int)) = wrap64 ((1 + nodesVs kids : Nat) : Int)) := Lib.hid (by unfold wrap64; omega)
    generalize hnk : wrap64 (nodesVs kids : Int) = nk at hs HS
    clear hnk
    go_enter Tryz.func38, Tryz.ntmps38
    go_wp2_with fail
    rw [← hW]
    clear hW
    go_wp2_with (go_at_call 79; refine hs.mono ?_; rintro e w1 ⟨rfl, hb1⟩; refine Hid.out ?_)
    refine Lib.hid ?_
    clear hs
    have e5 : w1.cell? ⟨w.heap.size, 5, none⟩ = some (.slice A' ents.length cap') := (hb1.cell (p := ⟨w.heap.size, 5, none⟩) hlt).trans d5
    have HBW := Lib.hid (HB.out.trans (hb1.mono HB.out.size))
    have hlt1 : w.heap.size < w1.heap.size := Nat.lt_of_lt_of_le hlt hb1.size
    clear d3 d5 hb1 hlt
    go_wp2_with fail
    go_loopw [3, 13] (fun n i w2 => ∃ j : Nat, i = .int .i64 j ∧ j ≤ ents.length ∧ n = .int .i64 (wrap64 ((1 + nodesVs kids + nodesEs (ents.take j) : Nat) : Int)) ∧ Below w1.heap.size w1 w2) (fun _ i _ => ents.length - (intOf i).toNat)
    case atStart => exact ⟨0, rfl, by omega, by rw [HS.out]; simp [nodesEs], Below.refl _ _⟩
    case round =>
      obtain ⟨j, rfl, hj, rfl, hb⟩ := hrel
      by_cases hjn : j < ents.length
      · have hbw : Below w.heap.size w wr := HBW.out.trans (hb.mono HBW.out.size)
        obtain ⟨b, off, cap0, ya, yb, x0, x1, x2, x3, x4, x5, x6, hu, hbH, ⟨args, fails, result, hx, ua, rs, hcs, ha, hr⟩, c0, c1, c2, c3, c4, c5, c6, c7, c8⟩ := (HEN.out.on hbw (fun _ _ h => h)).at9 hjn
        injection hu with hA _ hcap
        subst hA hcap
        simp only [List.cons.injEq] at hcs
        obtain ⟨rfl, rfl, rfl⟩ := hcs
        obtain ⟨A2, cap2, rfl, hal⟩ := ha.form
        unfold maxLen at hal
        obtain ⟨a, i, st, A3, n3, c3', A4, n4, c4', A5, n5, c5', A6, n6, c6', he7⟩ := hr.form7
        simp only [List.cons.injEq, and_true] at he7
        obtain ⟨rfl, rfl, rfl, rfl, rfl, rfl, rfl⟩ := he7
        have hst := (nodesEs_step hx).1
        have kn : (j : Int) < (ents.length : Int) := by omega
        have k0 : (0 : Int) ≤ (j : Int) := by omega
        have HX := Lib.hid hst
        have HV := Lib.hid hb
        have HAR := Lib.hid ha
        have HRS := Lib.hid hr
        have HBW2 := Lib.hid hbw
        have HJN := Lib.hid hjn
        clear hx hst ha hr hbw hb hj hjn
        have HA0 : ∀ na : Int, wrap64 (wrap64 ((1 + nodesVs kids + nodesEs (ents.take j) : Nat) : Int) + wrap64 na) = wrap64 (((1 + nodesVs kids + nodesEs (ents.take j) : Nat) : Int) + na) := fun na => wrap_add rfl
        have HA0 := Lib.hid HA0
        generalize wrap64 ((1 + nodesVs kids + nodesEs (ents.take j) : Nat) : Int) = p at HA0 ⊢
        go_wp2_with fail
        rename World => U
        obtain ⟨W2, hW2⟩ : ∃ W2, W2 = U.alloc (.cells #[.slice A2 args.length cap2, .bool fails, .int .i64 a, .int .i64 i, .string st, .slice A3 n3 c3', .slice A4 n4 c4', .slice A5 n5 c5', .slice A6 n6 c6'] 55) := ⟨_, rfl⟩
        have hb2 : Below U.heap.size U W2 := by rw [hW2]; exact (Below.refl _ _).alloc (Nat.le_refl _) _
        have q0 : W2.cell? ⟨U.heap.size, 0, none⟩ = some (.slice A2 args.length cap2) := by rw [hW2]; simp
        have HQ : Hid (W2.cell? ⟨U.heap.size, 1, none⟩ = some (.bool fails) ∧ W2.cell? ⟨U.heap.size, 2, none⟩ = some (.int .i64 a) ∧ W2.cell? ⟨U.heap.size, 3, none⟩ = some (.int .i64 i) ∧ W2.cell? ⟨U.heap.size, 4, none⟩ = some (.string st) ∧ W2.cell? ⟨U.heap.size, 5, none⟩ = some (.slice A3 n3 c3') ∧ W2.cell? ⟨U.heap.size, 6, none⟩ = some (.slice A4 n4 c4') ∧ W2.cell? ⟨U.heap.size, 7, none⟩ = some (.slice A5 n5 c5') ∧ W2.cell? ⟨U.heap.size, 8, none⟩ = some (.slice A6 n6 c6')) := Lib.hid (by rw [hW2]; simp)
        have hlt2 : U.heap.size < W2.heap.size := by rw [hW2]; simp
        rw [← hW2]
        clear hW2
        have hbu := HBW2.out.trans (hb2.mono HBW2.out.size)
        have hsa := sum_any k IH A2 cap2 args W2 ((HAR.out.on hbu fun _ _ ⟨x, h1, h2⟩ => ⟨x, h1, VS.up hbu.size (Nat.le_refl _) (VS.on hbu h2)⟩).mono hbu.size fun _ _ h => h)
        have HBU := Lib.hid hbu
        have HVU := Lib.hid (HV.out.trans (hb2.mono HV.out.size))
        clear hb2 hbu c0 c1 c2 c3 c4 c5 c6 c7 c8
        have HA : Hid (wrap64 (p + wrap64 (nodesVs args : Int)) = wrap64 ((1 + nodesVs kids + nodesEs (ents.take j) + nodesVs args : Nat) : Int)) := Lib.hid (by rw [HA0.out]; rfl)
        generalize wrap64 (nodesVs args : Int) = na at hsa HA
        clear HA0
        go_wp2_with (go_at_call 79; refine hsa.mono ?_; rintro e w2 ⟨rfl, hb3⟩; refine Hid.out ?_)
        refine Lib.hid ?_
        clear hsa q0
        have HVW := Lib.hid (HVU.out.trans (hb3.mono HVU.out.size))
        obtain ⟨s1, s2, s3, s4, s5, s6, s7, s8⟩ := HQ.out
        have r1 := (hb3.cell (p := ⟨U.heap.size, 1, none⟩) hlt2).trans s1
        cases fails
        · have r2 := (hb3.cell (p := ⟨U.heap.size, 2, none⟩) hlt2).trans s2
          have r3 := (hb3.cell (p := ⟨U.heap.size, 3, none⟩) hlt2).trans s3
          have r4 := (hb3.cell (p := ⟨U.heap.size, 4, none⟩) hlt2).trans s4
          have r5 := (hb3.cell (p := ⟨U.heap.size, 5, none⟩) hlt2).trans s5
          have r6 := (hb3.cell (p := ⟨U.heap.size, 6, none⟩) hlt2).trans s6
          have r7 := (hb3.cell (p := ⟨U.heap.size, 7, none⟩) hlt2).trans s7
          have r8 := (hb3.cell (p := ⟨U.heap.size, 8, none⟩) hlt2).trans s8
          have hbv := HBU.out.trans (hb3.mono HBU.out.size)
          have hc := IH.out result _ w2 (VS.up hbv.size (Nat.le_refl _) (VS.on hbv HRS.out))
          have HX2 : Hid (wrap64 (wrap64 (p + na) + wrap64 (nodes result : Int)) = wrap64 ((1 + nodesVs kids + nodesEs (ents.take (j + 1)) : Nat) : Int)) := Lib.hid (by rw [HA.out, wrap_add (c := ((1 + nodesVs kids + nodesEs (ents.take (j + 1)) : Nat) : Int)) (by rw [HX.out, nodesE]; simp; omega)])
          clear s1 s2 s3 s4 s5 s6 s7 s8 hbv HX HA hb3
          generalize wrap64 (nodes result : Int) = nr at hc HX2
          go_wp2_with (go_at_call 38; refine hc.mono ?_; rintro e w3 ⟨rfl, hb4⟩; refine Hid.out ?_)
          refine Lib.hid ?_
          clear hc
          go_wp2
          go_roundw
          case rel => exact ⟨j + 1, by go_num, HJN.out, by rw [← HX2.out], HVW.out.trans (hb4.mono HVW.out.size)⟩
          case measure => have := HJN.out; simp [intOf]; omega
        · have HX2 : Hid (wrap64 (p + na) = wrap64 ((1 + nodesVs kids + nodesEs (ents.take (j + 1)) : Nat) : Int)) := Lib.hid (by rw [HA.out, HX.out, nodesE]; simp; congr 1; omega)
          clear s1 s2 s3 s4 s5 s6 s7 s8 HX HA hb3
          go_wp2
          go_roundw
          case rel => exact ⟨j + 1, by go_num, HJN.out, by rw [← HX2.out], HVW.out⟩
          case measure => have := HJN.out; simp [intOf]; omega
      · have hke : ents.take j = ents := List.take_of_length_le (by omega)
        rw [hke]
        go_wp2
        go_ret
        exact ⟨by simp, HBW.out.trans (hb.mono HBW.out.size)⟩
end Go.Proofs.YtjfknigiehggkaaGreat
namespace Go.Proofs.YtjfknigiehggkaaGreat
open Go.RowKit
set_option maxHeartbeats 400000 in
theorem lower_any (c : Int) (w : World) :
    Calls Tryz.prog 52 #[.int .u8 c] w fun e w' => e = .returned (.bool (lowB c)) ∧ w = w' := by
  go_enter Tryz.func52, Tryz.ntmps52
  go_wp2
  all_goals go_ret
  all_goals exact ⟨ret_bool (by unfold lowB; simp; omega), rfl⟩
set_option maxHeartbeats 400000 in
theorem upper_any (c : Int) (w : World) :
    Calls Tryz.prog 75 #[.int .u8 c] w fun e w' => e = .returned (.bool (upB c)) ∧ w = w' := by
  go_enter Tryz.func75, Tryz.ntmps75
  go_wp2
  all_goals go_ret
  all_goals exact ⟨ret_bool (by unfold upB; simp; omega), rfl⟩
set_option maxHeartbeats 400000 in
theorem digit_any (c : Int) (w : World) :
    Calls Tryz.prog 53 #[.int .u8 c] w fun e w' => e = .returned (.bool (digB c)) ∧ w = w' := by
  go_enter Tryz.func53, Tryz.ntmps53
  go_wp2
  all_goals go_ret
  all_goals exact ⟨ret_bool (by unfold digB; simp; omega), rfl⟩
set_option maxHeartbeats 800000 in
theorem refIsAtom_any (s : ByteArray) (w : World) (hs : s.size ≤ maxLen) :
    Calls Tryz.prog 25 #[.string s] w fun e w' => e = .returned (.bool (atomB s.data.toList)) ∧ w = w' := by
  unfold maxLen at hs
  unfold atomB
  by_cases h1 : s.size < 1
  · go_enter Tryz.func25, Tryz.ntmps25
    go_wp2
    go_ret
    exact ⟨ret_bool (nameB_false _ _ _ (by omega)).symm, rfl⟩
  · by_cases h2 : 16 < s.size
    · go_enter Tryz.func25, Tryz.ntmps25
      go_wp2
      go_ret
      exact ⟨ret_bool (nameB_false _ _ _ (by omega)).symm, rfl⟩
    · have h3 : 0 < s.size := by omega
      cases h4 : lowB (s[0]'h3).toNat
      · go_enter Tryz.func25, Tryz.ntmps25
        go_wp2_with (go_at_call 52; refine (lower_any _ _).mono ?_; rintro e w' ⟨rfl, rfl⟩)
        go_ret
        exact ⟨ret_bool (nameB_false _ _ _ (.inr (.inr (.inl ⟨h3, h4⟩)))).symm, rfl⟩
      · go_enter Tryz.func25, Tryz.ntmps25
        go_wp2_with (go_at_call 52; refine (lower_any _ _).mono ?_; rintro e w' ⟨rfl, rfl⟩)
        go_loop [3] (fun i => ∃ k : Nat, 1 ≤ k ∧ k ≤ s.size ∧ i = .int .i64 k ∧ ∀ j (h : j < s.size), 1 ≤ j → j < k → atomT (s[j]'h).toNat = true) (fun i => s.size - (intOf i).toNat)
        case atStart => exact ⟨1, by omega, by omega, rfl, fun j h a b => by omega⟩
        case round =>
          obtain ⟨k, hk1, hk, rfl, hall⟩ := hrel
          have HA := Lib.hid hall
          clear hall
          go_wp2_with (first | (go_at_call 52; refine (lower_any _ _).mono ?_; rintro e w' ⟨rfl, rfl⟩) | (go_at_call 53; refine (digit_any _ _).mono ?_; rintro e w' ⟨rfl, rfl⟩))
          · go_round
            case rel => exact ⟨k + 1, by omega, by omega, by go_num, nameStep HA ‹_› (by simp_all [atomT])⟩
            case measure => simp [intOf]; omega
          · go_round
            case rel => exact ⟨k + 1, by omega, by omega, by go_num, nameStep HA ‹_› (by simp_all [atomT])⟩
            case measure => simp [intOf]; omega
          · go_ret
            exact ⟨ret_bool (nameB_false _ _ _ (.inr (.inr (.inr ⟨k, ‹_›, hk1, by simp_all [atomT]⟩)))).symm, rfl⟩
          · go_round
            case rel => exact ⟨k + 1, by omega, by omega, by go_num, nameStep HA ‹_› (by simp_all [atomT])⟩
            case measure => simp [intOf]; omega
          · go_ret
            exact ⟨ret_bool (nameB_true _ _ _ h3 (by omega) h4 (fun j h a => HA.out j h a (by omega))).symm, rfl⟩
set_option maxHeartbeats 800000 in
theorem refIsVariable_any (s : ByteArray) (w : World) (hs : s.size ≤ maxLen) :
    Calls Tryz.prog 33 #[.string s] w fun e w' => e = .returned (.bool (varB s.data.toList)) ∧ w = w' := by
  unfold maxLen at hs
  unfold varB
  by_cases h1 : s.size < 1
  · go_enter Tryz.func33, Tryz.ntmps33
    go_wp2
    go_ret
    exact ⟨ret_bool (nameB_false _ _ _ (by omega)).symm, rfl⟩
  · by_cases h2 : 16 < s.size
    · go_enter Tryz.func33, Tryz.ntmps33
      go_wp2
      go_ret
      exact ⟨ret_bool (nameB_false _ _ _ (by omega)).symm, rfl⟩
    · have h3 : 0 < s.size := by omega
      cases h4 : upB (s[0]'h3).toNat
      · go_enter Tryz.func33, Tryz.ntmps33
        go_wp2_with (go_at_call 75; refine (upper_any _ _).mono ?_; rintro e w' ⟨rfl, rfl⟩)
        go_ret
        exact ⟨ret_bool (nameB_false _ _ _ (.inr (.inr (.inl ⟨h3, h4⟩)))).symm, rfl⟩
      · go_enter Tryz.func33, Tryz.ntmps33
        go_wp2_with (go_at_call 75; refine (upper_any _ _).mono ?_; rintro e w' ⟨rfl, rfl⟩)
        go_loop [3] (fun i => ∃ k : Nat, 1 ≤ k ∧ k ≤ s.size ∧ i = .int .i64 k ∧ ∀ j (h : j < s.size), 1 ≤ j → j < k → varT (s[j]'h).toNat = true) (fun i => s.size - (intOf i).toNat)
        case atStart => exact ⟨1, by omega, by omega, rfl, fun j h a b => by omega⟩
        case round =>
          obtain ⟨k, hk1, hk, rfl, hall⟩ := hrel
          have HA := Lib.hid hall
          clear hall
          go_wp2_with (first | (go_at_call 52; refine (lower_any _ _).mono ?_; rintro e w' ⟨rfl, rfl⟩) | (go_at_call 75; refine (upper_any _ _).mono ?_; rintro e w' ⟨rfl, rfl⟩) | (go_at_call 53; refine (digit_any _ _).mono ?_; rintro e w' ⟨rfl, rfl⟩))
          · go_round
            case rel => exact ⟨k + 1, by omega, by omega, by go_num, nameStep HA ‹_› (by simp_all [varT])⟩
            case measure => simp [intOf]; omega
          · go_round
            case rel => exact ⟨k + 1, by omega, by omega, by go_num, nameStep HA ‹_› (by simp_all [varT])⟩
            case measure => simp [intOf]; omega
          · go_round
            case rel => exact ⟨k + 1, by omega, by omega, by go_num, nameStep HA ‹_› (by simp_all [varT])⟩
            case measure => simp [intOf]; omega
          · go_ret
            exact ⟨ret_bool (nameB_false _ _ _ (.inr (.inr (.inr ⟨k, ‹_›, hk1, by simp_all [varT]⟩)))).symm, rfl⟩
          · go_round
            case rel => exact ⟨k + 1, by omega, by omega, by go_num, nameStep HA ‹_› (by simp_all [varT])⟩
            case measure => simp [intOf]; omega
          · go_ret
            exact ⟨ret_bool (nameB_true _ _ _ h3 (by omega) h4 (fun j h a => HA.out j h a (by omega))).symm, rfl⟩
set_option maxHeartbeats 400000 in
theorem refValidKey_any (k : Int) (s : ByteArray) (w : World) (hs : s.size ≤ maxLen) :
    Calls Tryz.prog 59 #[.agg #[.int .i64 k, .string s]] w fun e w' => e = .returned (.bool (keyB k s.data.toList)) ∧ Below w.heap.size w w' := by
  have hs' := hs
  unfold maxLen at hs'
  have hlen : s.data.toList.length = s.size := by simp
  by_cases h0 : k = 0
  · subst h0
    go_enter Tryz.func59, Tryz.ntmps59
    go_wp2_with (go_at_call 25; refine (refIsAtom_any _ _ hs).mono ?_; rintro e w' ⟨rfl, rfl⟩)
    all_goals go_ret
    all_goals exact ⟨ret_bool (by simp_all [keyB]), (Below.refl _ _).alloc (Nat.le_refl _) _⟩
  · by_cases h1 : k = 1
    · subst h1
      go_enter Tryz.func59, Tryz.ntmps59
      go_wp2
      go_ret
      exact ⟨ret_bool (by simp [keyB] <;> omega), (Below.refl _ _).alloc (Nat.le_refl _) _⟩
    · go_enter Tryz.func59, Tryz.ntmps59
      go_wp2
      go_ret
      exact ⟨ret_bool (by simp [keyB, h0, h1]), (Below.refl _ _).alloc (Nat.le_refl _) _⟩
end Go.Proofs.YtjfknigiehggkaaGreat
namespace Go.Proofs.YtjfknigiehggkaaGreat
open Go Go.RowKit Go.WideShapes Go.Deep
theorem addr_plus (b off q : Nat) : (⟨b, off, none⟩ : Addr).add q = ⟨b, off + q, none⟩ := by cases q <;> rfl
section
variable {H : Type} {enc : TypeId × Value → H} {P : Program} {w : World} {spare : Nat → Bool} {held : Bool}
theorem open_row {n c : Nat} {t e : TypeId} {u : Value} {y : DataW H × List MemPlace} {α : Type} (R : α → List Value → Prop) (ht : P.underlying t = some (.slice e)) (hc : P.cellsOf e = c) (hpos : 0 < c)
    (h : DataW.trod enc P w 0 spare held n t [u] = some y) (hR : ∀ m cs z, m < n → DataW.trod enc P w 0 spare held m e cs = some z → ∃ x : α, R x cs) :
    ∃ l : List α, RowP w w.heap.size c u l.length (fun j cs => ∃ x, l[j]? = some x ∧ R x cs) := by
  rcases DataW.trod_slice ht h with ⟨h0, _⟩ | ⟨a, len, cap, elems, rest, m, rfl, hu, _, hb, hl, hm, hlen, hel, _⟩
  · simp only [List.cons.injEq, and_true] at h0
    subst h0
    exact ⟨[], none, 0, rfl, ⟨Nat.zero_le _, Nat.le_refl _⟩, fun hn => absurd hn (by simp)⟩
  · simp only [List.cons.injEq, and_true] at hu
    subst hu
    have each : ∀ i : Fin len, ∃ x : α, ∃ cs : List Value, cs.length = c ∧ (∀ q, q < c → w.cell? ((a.add (i.1 * c)).add q) = cs[q]?) ∧ R x cs := by
      intro i
      have h1 := hel i.1 i.2
      rw [List.getElem?_eq_getElem (by omega), hc] at h1
      obtain ⟨cs, h2, h3⟩ := Option.bind_eq_some_iff.1 h1
      obtain ⟨_, h4, h5⟩ := World.cells?_some h2
      obtain ⟨x, hx⟩ := hR m cs _ (by omega) h3
      exact ⟨x, cs, h4, h5, hx⟩
    refine ⟨List.ofFn fun i => Classical.choose (each i), some a, cap, by simp, ⟨by simp; omega, by simp; omega⟩, fun hn => ?_⟩
    rw [List.length_ofFn] at hn
    obtain ⟨b, off, spot⟩ := a
    obtain ⟨cs0, k1, k2, _⟩ := Classical.choose_spec (each ⟨0, hn⟩)
    have hc0 := k2 0 hpos
    rw [List.getElem?_eq_getElem (by omega)] at hc0
    have hspot : spot = none := by simpa [Addr.add] using World.cell?_spot hc0
    subst hspot
    refine ⟨b, off, rfl, ?_, ?_, fun j hj => ?_⟩
    · simpa [Addr.add] using World.block_lt_of_cell? _ _ hc0
    · simpa [Addr.add] using World.block_lt_of_cell? _ _ hc0
    · rw [List.length_ofFn] at hj
      obtain ⟨cs, k3, k4, k5⟩ := Classical.choose_spec (each ⟨j, hj⟩)
      refine ⟨cs, k3, fun i hi => ?_, _, by rw [List.getElem?_ofFn, dif_pos hj], k5⟩
      have := k4 i hi
      rw [addr_plus, addr_plus] at this
      rw [← this]
theorem str_cell (s : ByteArray) : (⟨s.data.toList.toArray⟩ : ByteArray) = s := by cases s; simp
end
end Go.Proofs.YtjfknigiehggkaaGreat
namespace Go.Proofs.YtjfknigiehggkaaGreat
open Go.ChangeShapes Go.WideShapes Go.ChangeAt Go.RowKit Go.Joins Go.Deep
theorem own : ownKnob Tryz.prog.godebug = none := by kernel_rfl
theorem laidOut : laidOutB Tryz.prog = true := by kernel_rfl
end Go.Proofs.YtjfknigiehggkaaGreat
namespace Go.Proofs.YtjfknigiehggkaaGreat
open Go.ChangeShapes Go.WideShapes Go.ChangeAt Go.RowKit Go.Joins Go.Deep
set_option maxRecDepth 100000 in
theorem nmS_of_trod {H : Type} {enc : TypeId × Value → H} {W : World} {A : Option Addr} {n c : Nat} {d : DataW H} {p : List MemPlace} (h : DataW.Trod enc Tryz.prog W 0 (fun _ => true) true 25 (.slice A n c) d p) :
    ∃ ss, NmS W W.heap.size A n ss := by
  obtain ⟨fuel, hf⟩ := h
  have hf' : DataW.trod enc Tryz.prog W 0 (fun _ => true) true fuel 25 [.slice A n c] = some (d, p) := hf
  obtain ⟨l, hl⟩ := open_row (α := List UInt8) (fun x cs => cs = [.string ⟨x.toArray⟩] ∧ x.length ≤ maxLen) Tryz.underlying25 (show Tryz.prog.cellsOf 9 = 1 by kernel_rfl) (by omega) hf' (by
    intro m cs z _ hz
    obtain ⟨s, rfl, _, ws⟩ := DataW.trod_string Tryz.underlying9 hz
    exact ⟨s.data.toList, by rw [str_cell s], by simpa using ws⟩)
  obtain ⟨A', c', e, h1, h2⟩ := hl
  injection e with e1 e2 e3
  subst e1 e3
  refine ⟨l, e2, fun s hs => ?_, fun hn => ?_⟩
  · obtain ⟨j, hj⟩ := List.getElem?_of_mem hs
    have hjl := (List.getElem?_eq_some_iff.1 hj).1
    obtain ⟨b, off, _, _, _, h3⟩ := h2 (by omega)
    obtain ⟨cs, _, _, x, hx, _, hl⟩ := h3 j hjl
    rw [hj] at hx
    injection hx with hx
    rw [hx]
    exact hl
  · obtain ⟨b, off, hA, hb, _, h3⟩ := h2 (by omega)
    refine ⟨b, off, hA, hb, fun j s hs => ?_⟩
    obtain ⟨cs, _, hc, x, hx, hcs, _⟩ := h3 j (List.getElem?_eq_some_iff.1 hs).1
    rw [hs] at hx
    injection hx with hx
    subst hx hcs
    have := hc 0 (by omega)
    simpa [encStr] using this
end Go.Proofs.YtjfknigiehggkaaGreat
