/- What unquoteHex and unquoteByte return. Condition: the string has at most maxLen bytes and is not empty. -/
import Derived.Test.YtcjgaohblaidjaaGreatDoorVb00
import Derived.Test.YtcjgaohblaidjaaGreatDoorVb01
import Derived.Test.YtcjgaohblaidjaaGreatDoorVb02
import Derived.Laws.BitsAllLaws
import Derived.Test.YtcjgaohblaidjaaGreatDoorRows
import Derived.ProofKit
import Derived.OpenShut
import Derived.ShutString
import Derived.SliceStrings
import Derived.Deep.DeepHandedRow
import Derived.Deep.Slices
import Derived.Lib.SmallJoins
namespace Go.Proofs.YtcjgaohblaidjaaGreatDoor
open Go.RowKit
def hexBytes : List UInt8 := [48, 49, 50, 51, 52, 53, 54, 55, 56, 57, 97, 98, 99, 100, 101, 102]
theorem hexIdx (b : UInt8) : (∃ n : Nat, n < 16 ∧ hexD n = b ∧ Lib.indexByte hexBytes b = (n : Int)) ∨ (Lib.indexByte hexBytes b = -1 ∧ ∀ n : Nat, n < 16 → hexD n ≠ b) := by
 have key : ∀ b : Fin 256, (∃ n : Fin 16, hexD n.1 = UInt8.ofNat b.1 ∧ Lib.indexByte hexBytes (UInt8.ofNat b.1) = ((n.1 : Nat) : Int)) ∨ (Lib.indexByte hexBytes (UInt8.ofNat b.1) = -1 ∧ ∀ n : Fin 16, hexD n.1 ≠ UInt8.ofNat b.1) := by decide +kernel
 have h := key ⟨b.toNat, b.toNat_lt⟩
 simp only [UInt8.ofNat_toNat] at h
 rcases h with ⟨n, h1, h2⟩ | ⟨h1, h2⟩
 · exact .inl ⟨n.1, n.2, h1, h2⟩
 · exact .inr ⟨h1, fun n hn => h2 ⟨n, hn⟩⟩
def UnHex (a b : UInt8) (w : World) (e : Ending) (w' : World) : Prop :=
 w = w' ∧ ((∃ c : UInt8, qByte c = [92, 120, a, b] ∧ e = .returned (.tuple #[.int .u8 c.toNat, .int .i64 4])) ∨ ((∀ c : UInt8, qByte c ≠ [92, 120, a, b]) ∧ e = .returned (.tuple #[.int .u8 0, .int .i64 0])))
theorem idxHex (a : UInt8) (r : Int) (w : World) (h : Lib.indexByte hexBytes a = r) :
  Calls Tryz.prog 199 #[.string ⟨#[48, 49, 50, 51, 52, 53, 54, 55, 56, 57, 97, 98, 99, 100, 101, 102]⟩, .int .u8 a.toNat] w fun e w' => e = .returned (.int .i64 r) ∧ w = w' :=
 (Tryz.strings_IndexByte _ _ w).mono fun _ _ ⟨he, hw⟩ => ⟨by rw [he, ← h]; have h9 : (a.toNat : Int).toNat.toUInt8 = a := (by simp); rw [h9]; rfl, hw.symm⟩
theorem or16 (n m : Nat) (hn : n < 16) (hm : m < 16) : bits BinOp.or IntKind.i64 ((n : Int) * 16) (m : Int) = (n : Int) * 16 + m := by
 have key : ∀ n m : Fin 16, bits BinOp.or IntKind.i64 ((n.1 : Int) * 16) (m.1 : Int) = (n.1 : Int) * 16 + m.1 := by decide +kernel
 exact key ⟨n, hn⟩ ⟨m, hm⟩
theorem hexByte (n m : Nat) (hn : n < 16) (hm : m < 16) : ∃ c : UInt8, (c.toNat : Int) = (n : Int) * 16 + m ∧ c.toNat / 16 = n ∧ c.toNat % 16 = m := by
 refine ⟨UInt8.ofNat (n * 16 + m), ?_⟩
 have : (UInt8.ofNat (n * 16 + m)).toNat = n * 16 + m := by simp; omega
 rw [this]; omega
theorem qByte_hex {c a b : UInt8} (h : qByte c = [92, 120, a, b]) : printB c.toNat = false ∧ hexD (c.toNat / 16) = a ∧ hexD (c.toNat % 16) = b := by
 rcases qByte_cases c with ⟨e, _⟩ | ⟨e, _⟩ | ⟨e, hp⟩
 · rw [e] at h; simp at h
 · rw [e] at h; simp at h
 · rw [e] at h; simp at h; exact ⟨hp, h.1, h.2⟩
theorem esc_of_print {c : UInt8} (hp : printB c.toNat = false) : qByte c = [92, 120, hexD (c.toNat / 16), hexD (c.toNat % 16)] := by
 rcases qByte_cases c with ⟨e, rfl | rfl⟩ | ⟨e, _, _, h⟩ | ⟨e, _⟩
 · exact absurd hp (by decide)
 · exact absurd hp (by decide)
 · rw [hp] at h; cases h
 · exact e
theorem unHex_no {a b : UInt8} {w : World} (h : ∀ c : UInt8, printB c.toNat = false → hexD (c.toNat / 16) = a → hexD (c.toNat % 16) = b → False) : UnHex a b w (.returned (.tuple #[.int .u8 0, .int .i64 0])) w :=
 ⟨rfl, .inr ⟨fun c hc => h c (qByte_hex hc).1 (qByte_hex hc).2.1 (qByte_hex hc).2.2, rfl⟩⟩
set_option maxHeartbeats 800000 in
theorem unquoteHex_any (a b : UInt8) (w : World) : Calls Tryz.prog 194 #[.int .u8 a.toNat, .int .u8 b.toNat] w (UnHex a b w) := by
 rcases hexIdx a with ⟨n, hn, han, hai⟩ | ⟨hai, han⟩
 ·
  rcases hexIdx b with ⟨m, hm, hbm, hbi⟩ | ⟨hbi, hbm⟩
  ·
   have HAN := Lib.hid han
   have HBM := Lib.hid hbm
   have HAI := Lib.hid hai
   have HBI := Lib.hid hbi
   have d1 := or16 n m hn hm
   obtain ⟨c, hc, hc1, hc2⟩ := hexByte n m hn hm
   have HC := Lib.hid hc
   have HC1 := Lib.hid hc1
   have HC2 := Lib.hid hc2
   clear han hbm hai hbi hc hc1 hc2
   cases hp : printB ((n : Int) * 16 + m)
   all_goals
    go_enter Tryz.func194, Tryz.ntmps194
    go_wp2_with fail
    refine (idxHex _ _ _ HAI.out).mono ?_
    rintro e w1 ⟨rfl, rfl⟩
    go_wp2_with fail
    refine (idxHex _ _ _ HBI.out).mono ?_
    rintro e w1 ⟨rfl, rfl⟩
    go_wp2_with (go_at_call 117; refine (isPrintable_any _ _).mono ?_; rintro e w' ⟨rfl, rfl⟩)
    go_ret2
   ·
    have hp' : printB c.toNat = false := by rw [HC.out]; exact hp
    have h1 := esc_of_print hp'
    rw [HC1.out, HC2.out, HAN.out, HBM.out] at h1
    refine ⟨rfl, .inl ⟨c, h1, ?_⟩⟩
    show Ending.returned (.tuple #[.int .u8 ((n : Int) * 16 + m), .int .i64 4]) = _
    rw [HC.out]
   ·
    refine unHex_no fun c' h1 h2 h3 => ?_
    rw [← HAN.out] at h2
    rw [← HBM.out] at h3
    have e1 := hexD_inj' (by have := c'.toNat_lt; omega) hn h2
    have e2 := hexD_inj' (by omega) hm h3
    have e3 : (c'.toNat : Int) = (n : Int) * 16 + m := by omega
    rw [e3, hp] at h1; cases h1
  ·
   have HAI := Lib.hid hai
   have HBI := Lib.hid hbi
   clear hai hbi
   go_enter Tryz.func194, Tryz.ntmps194
   go_wp2_with fail
   refine (idxHex _ _ _ HAI.out).mono ?_
   rintro e w1 ⟨rfl, rfl⟩
   go_wp2_with fail
   refine (idxHex _ _ _ HBI.out).mono ?_
   rintro e w1 ⟨rfl, rfl⟩
   go_wp2
   go_ret2
   exact unHex_no fun c' h1 h2 h3 => hbm _ (by omega) h3
 ·
  have HAI := Lib.hid hai
  clear hai
  obtain ⟨r, hbi⟩ : ∃ r, Lib.indexByte hexBytes b = r := ⟨_, rfl⟩
  have HBI := Lib.hid hbi
  clear hbi
  go_enter Tryz.func194, Tryz.ntmps194
  go_wp2_with fail
  refine (idxHex _ _ _ HAI.out).mono ?_
  rintro e w1 ⟨rfl, rfl⟩
  go_wp2_with fail
  refine (idxHex _ _ _ HBI.out).mono ?_
  rintro e w1 ⟨rfl, rfl⟩
  go_wp2
  go_ret2
  exact unHex_no fun c' h1 h2 h3 => han _ (by have := c'.toNat_lt; omega) h2
theorem unHex_yes {a b c : UInt8} (h : qByte c = [92, 120, a, b]) (w : World) : Calls Tryz.prog 194 #[.int .u8 a.toNat, .int .u8 b.toNat] w fun e w' => e = .returned (.tuple #[.int .u8 c.toNat, .int .i64 4]) ∧ w' = w :=
 (unquoteHex_any a b w).mono fun e w' ⟨hw, hc⟩ => by
  rcases hc with ⟨c', h', he⟩ | ⟨hn, _⟩
  ·
   have : c' = c := (qByte_prefix (x := []) (y := []) (by rw [h, h'])).1
   subst this
   exact ⟨he, hw.symm⟩
  · exact absurd h (hn c)
theorem unHex_none {a b : UInt8} (h : ∀ c : UInt8, qByte c ≠ [92, 120, a, b]) (w : World) : Calls Tryz.prog 194 #[.int .u8 a.toNat, .int .u8 b.toNat] w fun e w' => e = .returned (.tuple #[.int .u8 0, .int .i64 0]) ∧ w' = w :=
 (unquoteHex_any a b w).mono fun e w' ⟨hw, hc⟩ => by
  rcases hc with ⟨c', h', he⟩ | ⟨hn, he⟩
  · exact absurd h' (h c')
  · exact ⟨he, hw.symm⟩
def UnByte (l : List UInt8) (w : World) (e : Ending) (w' : World) : Prop :=
 (∃ n, w' = w.drewN n) ∧ ((∃ (c : UInt8) (r : List UInt8), l = qByte c ++ r ∧ e = .returned (.tuple #[.int .u8 c.toNat, .int .i64 (qByte c).length])) ∨
  ((∀ (c : UInt8) (r : List UInt8), l ≠ qByte c ++ r) ∧ e = .returned (.tuple #[.int .u8 0, .int .i64 0])))
theorem unByte_no {l : List UInt8} {w : World} (h : ∀ (c : UInt8) (r : List UInt8), l ≠ qByte c ++ r) (n : Nat) : UnByte l w (.returned (.tuple #[.int .u8 0, .int .i64 0])) (w.drewN n) := ⟨⟨n, rfl⟩, .inr ⟨h, rfl⟩⟩
theorem unByte_yes {l r : List UInt8} {c : UInt8} {w : World} {m : Int} (h : l = qByte c ++ r) (hm : m = (qByte c).length) (n : Nat) : UnByte l w (.returned (.tuple #[.int .u8 c.toNat, .int .i64 m])) (w.drewN n) :=
 ⟨⟨n, rfl⟩, .inl ⟨c, r, h, by rw [hm]⟩⟩
theorem l2 {s : ByteArray} (h : 2 ≤ s.size) : ∃ r, s.data.toList = (s[0]'(by omega)) :: (s[1]'h) :: r := by
 obtain ⟨⟨l⟩⟩ := s
 match l, h with
 | a :: b :: r, _ => exact ⟨r, rfl⟩
theorem l4 {s : ByteArray} (h : 4 ≤ s.size) : ∃ r, s.data.toList = (s[0]'(by omega)) :: (s[1]'(by omega)) :: (s[2]'(by omega)) :: (s[3]'h) :: r := by
 obtain ⟨⟨l⟩⟩ := s
 match l, h with
 | a :: b :: c :: d :: r, _ => exact ⟨r, rfl⟩
theorem l1 {s : ByteArray} (h : 0 < s.size) : ∃ r, s.data.toList = (s[0]'h) :: r := by
 obtain ⟨⟨l⟩⟩ := s
 match l, h with
 | a :: r, _ => exact ⟨r, rfl⟩
theorem byteEq {c : UInt8} {n : Nat} (h : (c.toNat : Int) = n) (hn : n < 256) : c = UInt8.ofNat n := UInt8.toNat_inj.1 (by simp; omega)
theorem no_q {l : List UInt8} (h : ∀ c : UInt8, c = 34 ∨ c = 92 → ∀ r, l ≠ 92 :: c :: r) (h' : ∀ c : UInt8, c ≠ 34 → c ≠ 92 → printB c.toNat = true → ∀ r, l ≠ c :: r)
  (h'' : ∀ c a b : UInt8, qByte c = [92, 120, a, b] → ∀ r, l ≠ 92 :: 120 :: a :: b :: r) (c : UInt8) (r : List UInt8) : l ≠ qByte c ++ r := by
 rcases qByte_cases c with ⟨e, hc⟩ | ⟨e, h1, h2, h3⟩ | ⟨e, hp⟩
 · rw [e]; exact h c hc r
 · rw [e]; exact h' c h1 h2 h3 r
 ·
  have := h'' c _ _ e r
  rwa [e]
theorem sizeList (s : ByteArray) : s.data.toList.length = s.size := by simp
set_option maxHeartbeats 3200000 in
theorem unquoteByte_any (s : ByteArray) (w : World) (hs : 0 < s.size) (hm : s.size ≤ maxLen) : Calls Tryz.prog 188 #[.string s] w (UnByte s.data.toList w) := by
 unfold maxLen at hm
 obtain ⟨r1, e1⟩ := l1 hs
 have E1 := Lib.hid e1
 clear e1
 have hsl := Lib.hid (sizeList s)
 by_cases h1 : ((s[0]'hs).toNat : Int) = 34
 ·
  have hno := Lib.hid (show ∀ (c : UInt8) (r : List UInt8), s.data.toList ≠ qByte c ++ r by
   have e0 : s[0]'hs = 34 := byteEq (n := 34) h1 (by decide)
   rw [E1.out, e0]
   exact no_q (fun c _ r => by simp) (fun c h _ _ r => by simp; intro e; exact absurd e.symm h) (fun c a b _ r => by simp))
  go_enter Tryz.func188, Tryz.ntmps188
  go_wp2_with (go_at_call 117; refine (isPrintable_any _ _).mono ?_; rintro e w' ⟨rfl, rfl⟩)
  all_goals go_ret2
  all_goals exact unByte_no hno.out 0
 have h1b : (((s[0]'hs).toNat : Int) == 34) = false := by rw [beq_eq_false_iff_ne]; exact h1
 by_cases h3 : ((s[0]'hs).toNat : Int) = 92
 ·
  have h2 : printB 92 = true := by decide
  have e0 := Lib.hid (show s[0]'hs = 92 from byteEq (n := 92) h3 (by decide))
  have noP : Hid (∀ c : UInt8, c ≠ 34 → c ≠ 92 → printB c.toNat = true → ∀ r, s.data.toList ≠ c :: r) := Lib.hid (by
   intro c _ h _ r
   rw [E1.out, e0.out]; simp; intro e; exact absurd e.symm h)
  by_cases h4 : 2 ≤ s.size
  ·
   obtain ⟨r2, e2⟩ := l2 h4
   have E2 := Lib.hid e2
   clear e2
   by_cases h5 : ((s[1]'h4).toNat : Int) = 34
   ·
    have hy := Lib.hid (show s.data.toList = qByte 34 ++ r2 by rw [E2.out, e0.out, show s[1]'h4 = 34 from byteEq (n := 34) h5 (by decide)]; rfl)
    go_enter Tryz.func188, Tryz.ntmps188
    go_wp2_with (go_at_call 117; refine (isPrintable_any _ _).mono ?_; rintro e w' ⟨rfl, rfl⟩)
    all_goals go_ret2
    all_goals exact unByte_yes (c := 34) (m := 2) hy.out rfl 0
   by_cases h6 : ((s[1]'h4).toNat : Int) = 92
   ·
    have hy := Lib.hid (show s.data.toList = qByte 92 ++ r2 by rw [E2.out, e0.out, show s[1]'h4 = 92 from byteEq (n := 92) h6 (by decide)]; rfl)
    go_enter Tryz.func188, Tryz.ntmps188
    go_wp2_with (go_at_call 117; refine (isPrintable_any _ _).mono ?_; rintro e w' ⟨rfl, rfl⟩)
    all_goals go_ret2
    all_goals exact unByte_yes (c := 92) (m := 2) hy.out rfl 0
   have noE : Hid (∀ c : UInt8, c = 34 ∨ c = 92 → ∀ r, s.data.toList ≠ 92 :: c :: r) := Lib.hid (by
    intro c hc r
    rw [E2.out]; simp; intro _ e
    rcases hc with rfl | rfl
    · exact absurd (show ((s[1]'h4).toNat : Int) = 34 by rw [e]; rfl) h5
    · exact absurd (show ((s[1]'h4).toNat : Int) = 92 by rw [e]; rfl) h6)
   have h5b : (((s[1]'h4).toNat : Int) == 34) = false := by rw [beq_eq_false_iff_ne]; exact h5
   have h6b : (((s[1]'h4).toNat : Int) == 92) = false := by rw [beq_eq_false_iff_ne]; exact h6
   by_cases h7 : 4 ≤ s.size
   ·
    obtain ⟨r4, e4⟩ := l4 h7
    have E4 := Lib.hid e4
    clear e4
    have i2 : (2 : Int) < (s.size : Int) := by omega
    have i3 : (3 : Int) < (s.size : Int) := by omega
    by_cases h8 : ((s[1]'h4).toNat : Int) = 120
    ·
     by_cases hx : ∃ c : UInt8, qByte c = [(92 : UInt8), 120, (s[2]'(by omega) : UInt8), (s[3]'h7 : UInt8)]
     ·
      obtain ⟨c, hx⟩ := hx
      have hy := Lib.hid (show s.data.toList = qByte c ++ r4 by rw [E4.out, e0.out, hx, show s[1]'(by omega) = 120 from byteEq (n := 120) h8 (by decide)]; rfl)
      have HX := Lib.hid hx
      clear hx
      go_enter Tryz.func188, Tryz.ntmps188
      go_wp2_with (go_at_call 117; refine (isPrintable_any _ _).mono ?_; rintro e w' ⟨rfl, rfl⟩)
      go_quiet ((go_at_call 194; exact Calls.quiet_of_same (unHex_yes HX.out _)))
      go_wp2
      go_ret2
      exact unByte_yes (c := c) (m := 4) hy.out (by rw [HX.out]; rfl) _
     ·
      have hno : Hid (∀ c : UInt8, qByte c ≠ [(92 : UInt8), 120, (s[2]'(by omega) : UInt8), (s[3]'h7 : UInt8)]) := Lib.hid fun c hc => hx ⟨c, hc⟩
      clear hx
      have hn2 := Lib.hid (show ∀ (c : UInt8) (r : List UInt8), s.data.toList ≠ qByte c ++ r from no_q noE.out noP.out (by
       intro c a b hc r
       rw [E4.out]; simp; intro _ _ ea eb
       rw [← ea, ← eb] at hc
       exact absurd hc (hno.out c)))
      go_enter Tryz.func188, Tryz.ntmps188
      go_wp2_with (go_at_call 117; refine (isPrintable_any _ _).mono ?_; rintro e w' ⟨rfl, rfl⟩)
      go_quiet ((go_at_call 194; exact Calls.quiet_of_same (unHex_none hno.out _)))
      go_wp2
      go_ret2
      exact unByte_no hn2.out _
    ·
     have h8b : (((s[1]'h4).toNat : Int) == 120) = false := by rw [beq_eq_false_iff_ne]; exact h8
     have hn2 := Lib.hid (show ∀ (c : UInt8) (r : List UInt8), s.data.toList ≠ qByte c ++ r from no_q noE.out noP.out (by
      intro c a b _ r
      rw [E4.out]; simp; intro _ e
      exact absurd (show ((s[1]'h4).toNat : Int) = 120 by rw [e]; rfl) h8))
     go_enter Tryz.func188, Tryz.ntmps188
     go_wp2_with (go_at_call 117; refine (isPrintable_any _ _).mono ?_; rintro e w' ⟨rfl, rfl⟩)
     all_goals go_ret2
     all_goals exact unByte_no hn2.out 0
   ·
    have hn2 := Lib.hid (show ∀ (c : UInt8) (r : List UInt8), s.data.toList ≠ qByte c ++ r from no_q noE.out noP.out (by
     intro c a b _ r e
     have := congrArg List.length e
     rw [hsl.out] at this; simp at this; omega))
    go_enter Tryz.func188, Tryz.ntmps188
    go_wp2_with (go_at_call 117; refine (isPrintable_any _ _).mono ?_; rintro e w' ⟨rfl, rfl⟩)
    all_goals go_ret2
    all_goals exact unByte_no hn2.out 0
  ·
   have hn2 := Lib.hid (show ∀ (c : UInt8) (r : List UInt8), s.data.toList ≠ qByte c ++ r from no_q (by
     intro c _ r e
     have := congrArg List.length e
     rw [hsl.out] at this; simp at this; omega) noP.out (by
     intro c a b _ r e
     have := congrArg List.length e
     rw [hsl.out] at this; simp at this; omega))
   go_enter Tryz.func188, Tryz.ntmps188
   go_wp2_with (go_at_call 117; refine (isPrintable_any _ _).mono ?_; rintro e w' ⟨rfl, rfl⟩)
   all_goals go_ret2
   all_goals exact unByte_no hn2.out 0
 have h3b : (((s[0]'hs).toNat : Int) == 92) = false := by rw [beq_eq_false_iff_ne]; exact h3
 cases h2 : printB (s[0]'hs).toNat
 ·
  have hn2 := Lib.hid (show ∀ (c : UInt8) (r : List UInt8), s.data.toList ≠ qByte c ++ r from no_q (by
    intro c _ r; rw [E1.out]; simp; intro e; exact absurd (show ((s[0]'hs).toNat : Int) = 92 by rw [e]; rfl) h3) (by
    intro c _ _ hp r; rw [E1.out]; simp; intro e; rw [e, hp] at h2; cases h2) (by
    intro c _ _ _ r; rw [E1.out]; simp; intro e; exact absurd (show ((s[0]'hs).toNat : Int) = 92 by rw [e]; rfl) h3))
  go_enter Tryz.func188, Tryz.ntmps188
  go_wp2_with (go_at_call 117; refine (isPrintable_any _ _).mono ?_; rintro e w' ⟨rfl, rfl⟩)
  all_goals go_ret2
  all_goals exact unByte_no hn2.out 0
 ·
  have hq := Lib.hid (qByte_plain h2 h1b h3b)
  have hy := Lib.hid (show s.data.toList = qByte (s[0]'hs) ++ r1 by rw [hq.out, E1.out]; rfl)
  go_enter Tryz.func188, Tryz.ntmps188
  go_wp2_with (go_at_call 117; refine (isPrintable_any _ _).mono ?_; rintro e w' ⟨rfl, rfl⟩)
  all_goals go_ret2
  all_goals exact unByte_yes (c := s[0]'hs) (m := 1) hy.out (by rw [hq.out]; rfl) 0
end Go.Proofs.YtcjgaohblaidjaaGreatDoor
namespace Go.Proofs.YtcjgaohblaidjaaGreatDoor
open Go.RowKit
def strLen : Value → Nat
 | .string s => s.size
 | _ => 0
def UnQ (l : List UInt8) (w : World) (e : Ending) (w' : World) : Prop :=
 Below w.heap.size w w' ∧ ((∃ t : List UInt8, quoteL t = l ∧ e = .returned (.tuple #[.string ⟨t.toArray⟩, .int .i64 0])) ∨ ((∀ t : List UInt8, quoteL t ≠ l) ∧ e = .returned (.tuple #[.string ⟨#[]⟩, .int .i64 5])))
theorem unQ_no {l : List UInt8} {w w' : World} (h : ∀ t : List UInt8, quoteL t ≠ l) (hb : Below w.heap.size w w') : UnQ l w (.returned (.tuple #[.string ⟨#[]⟩, .int .i64 5])) w' := ⟨hb, .inr ⟨h, rfl⟩⟩
theorem unQ_yes {l t : List UInt8} {w w' : World} (h : quoteL t = l) (hb : Below w.heap.size w w') : UnQ l w (.returned (.tuple #[.string ⟨t.toArray⟩, .int .i64 0])) w' := ⟨hb, .inl ⟨t, h, rfl⟩⟩
theorem quoteL_len (t : List UInt8) : 2 ≤ (quoteL t).length := by simp [quoteL]
theorem ba_list {s : ByteArray} {l : List UInt8} (h : s.data.toList = l) : s = ⟨⟨l⟩⟩ := by
 obtain ⟨⟨x⟩⟩ := s
 simp only at h
 subst h
 rfl
theorem quoteL_first {t : List UInt8} {s : ByteArray} (h : quoteL t = s.data.toList) (h0 : 0 < s.size) : s[0]'h0 = 34 := by
 have e := ba_list h.symm
 subst e
 rfl
theorem quoteL_last {t : List UInt8} {s : ByteArray} (h : quoteL t = s.data.toList) (h0 : s.size - 1 < s.size) : s[s.size - 1]'h0 = 34 := by
 have e := ba_list h.symm
 subst e
 show (quoteL t)[(quoteL t).length - 1]'_ = 34
 simp [quoteL]
theorem list_ends : ∀ {l : List UInt8}, 2 ≤ l.length → l[0]? = some 34 → l[l.length - 1]? = some 34 → l = 34 :: ((l.drop 1).take (l.length - 2) ++ [34])
 | a :: r, h2, h0, h1 => by
  simp only [List.getElem?_cons_zero, Option.some.injEq] at h0
  subst h0
  simp only [List.length_cons] at h2 h1
  have hr : r ≠ [] := by intro e; subst e; simp at h2
  have hp : 0 < r.length := List.length_pos_iff.2 hr
  have e2 : r.length + 1 - 1 = (r.length - 1) + 1 := by omega
  rw [e2, List.getElem?_cons_succ, List.getElem?_eq_getElem (by omega)] at h1
  simp only [Option.some.injEq] at h1
  simp only [List.length_cons, List.drop_succ_cons, List.drop_zero, List.cons.injEq, true_and]
  have hr2 : r.length + 1 - 2 = r.length - 1 := by omega
  rw [hr2, ← h1]
  have := List.take_succ_eq_append_getElem (l := r) (i := r.length - 1) (by omega)
  rw [← this, show r.length - 1 + 1 = r.length by omega, List.take_length]
theorem inside_of {s : ByteArray} (h2 : 2 ≤ s.size) (h0 : s[0]'(by omega) = 34) (h1 : s[s.size - 1]'(by omega) = 34) :
  s.data.toList = 34 :: ((s.extract 1 (s.size - 1)).data.toList ++ [34]) := by
 rw [Lib.extract_data]
 have hl : s.data.toList.length = s.size := by simp
 have e := list_ends (l := s.data.toList) (by omega) (by rw [List.getElem?_eq_getElem (by omega)]; exact congrArg some h0) (by rw [List.getElem?_eq_getElem (by omega)]; simp only [hl]; exact congrArg some h1)
 rw [hl] at e
 exact e
theorem quoteL_inside {t ins : List UInt8} (h : quoteL t = 34 :: (ins ++ [34])) : t.flatMap qByte = ins := by
 unfold quoteL at h
 simp only [List.cons.injEq, true_and] at h
 exact List.append_cancel_right h
theorem strLen_mk (s : ByteArray) : strLen (.string s) = s.size := rfl
theorem below_drewN0 (B : Nat) (w : World) (n : Nat) : Below B w (w.drewN n) := ⟨rfl, rfl, rfl, Nat.le_refl _, fun _ _ => rfl⟩
set_option maxHeartbeats 3200000 in
theorem unquote_any (s : ByteArray) (w : World) (hs : s.size ≤ 140737488355328) : Calls Tryz.prog 178 #[.string s] w (UnQ s.data.toList w) := by
 have hsl := Lib.hid (sizeList s)
 by_cases h1 : s.size < 2
 ·
  go_enter Tryz.func178, Tryz.ntmps178
  go_wp2
  go_ret2
  exact unQ_no (fun t e => by have := quoteL_len t; rw [e, hsl.out] at this; omega) (Below.refl _ _)
 have h2 : 0 < s.size := by omega
 have h3 : s.size - 1 < s.size := by omega
 by_cases h4 : ((s[0]'h2).toNat : Int) = 34
 ·
  have h4b : (((s[0]'h2).toNat : Int) != 34) = false := by rw [bne_eq_false_iff_eq]; exact h4
  by_cases h5 : ((s[s.size - 1]'h3).toNat : Int) = 34
  ·
   have hin := Lib.hid (inside_of (s := s) (by omega) (byteEq (n := 34) h4 (by decide)) (byteEq (n := 34) h5 (by decide)))
   have hd : decide ((s.size : Int) < 2) = false := by simp; omega
   have hil : (s.extract 1 (s.size - 1)).size ≤ s.size := by simp; omega
   obtain ⟨ins, hins⟩ : ∃ ins, ins = s.extract 1 (s.size - 1) := ⟨_, rfl⟩
   rw [← hins] at hin hil
   have HI := Lib.hid hins
   clear hins
   have hb0 : Below w.heap.size w (w.alloc (.cells #[.slice none 0 0, .int .i64 0, .int .i8 0] 54)) := (Below.refl _ _).alloc (Nat.le_refl _) _
   have HF := Lib.hid (Lib.fresh_isBuffer 54 5 w)
   go_enter Tryz.func178, Tryz.ntmps178
   go_wp2_with fail
   rw [← HI.out]
   go_loopw [5, 6, 7, 2, 3] (fun v _ _ u2 u3 wr => ∃ (r : ByteArray) (acc : List UInt8), v = .string r ∧ u2 = .string ⟨#[]⟩ ∧ u3 = .int .i64 0 ∧ ins.data.toList = acc.flatMap qByte ++ r.data.toList ∧ acc.length + r.size ≤ ins.size ∧ Lib.IsBuffer 54 5 w.heap.size w.heap.size (Lib.byteCells acc) wr ∧ Below w.heap.size w wr) (fun v _ _ _ _ _ => strLen v)
   case atStart => exact ⟨ins, [], rfl, rfl, rfl, by simp, by simp, HF.out, hb0⟩
   case round =>
    obtain ⟨r, acc, rfl, rfl, rfl, heq, hlen, hI, hb⟩ := hrel
    have HQ := Lib.hid heq
    clear heq
    have hsr := hb.size
    by_cases hr : r.size = 0
    ·
     have hr0 : r.data.toList = [] := by rw [← List.length_eq_zero_iff]; simpa using hr
     have hr1 : r.toList.isEmpty = true := by rw [Lib.toList_data, hr0]; rfl
     have HR0 := Lib.hid hr0
     clear hr0
     go_wp2_with fail
     refine (Tryz.Buffer_String _ _ _ _ hI).mono ?_
     rintro e w1 ⟨rfl, nq, rfl⟩
     go_wp2
     go_ret2
     exact unQ_yes (by rw [hin.out, HQ.out, HR0.out]; simp [quoteL]) (hb.trans ⟨rfl, rfl, rfl, Nat.le_refl _, fun _ _ => rfl⟩)
    ·
     have hr1 : r.toList.isEmpty = false := by
      rw [Lib.toList_data, List.isEmpty_eq_false_iff]
      intro e; apply hr; have := congrArg List.length e; simpa using this
     have hrm : r.size ≤ maxLen := by unfold maxLen; omega
     go_wp2_with fail
     refine (unquoteByte_any r wr (by omega) hrm).mono ?_
     rintro e w1 ⟨⟨nq, rfl⟩, ⟨c, rest, hc, rfl⟩ | ⟨hno, rfl⟩⟩
     ·
      have HC := Lib.hid hc
      clear hc
      have hq1 := qByte_pos c
      have hq4 := qByte_length c
      have hrl : (qByte c).length ≤ r.size := by
       have := congrArg List.length HC.out
       simp only [List.length_append] at this
       have h' : r.data.toList.length = r.size := by simp
       omega
      have hz : (((qByte c).length : Int) == 0) = false := by rw [beq_eq_false_iff_ne]; omega
      go_wp2_with fail
      refine (bufByte _ _ _ _ _ (hI.drewN nq) hsr (by omega)).mono ?_
      rintro e w2 ⟨rfl, hI2, hb2⟩
      go_wp2
      go_roundw
      case rel =>
       refine ⟨_, acc ++ [c], rfl, rfl, rfl, ?_, ?_, hI2, (hb.trans (below_drewN0 _ _ nq)).trans hb2⟩
       ·
        have hrest : rest.length = r.size - (qByte c).length := by
         have := congrArg List.length HC.out
         simp only [List.length_append] at this
         have h' : r.data.toList.length = r.size := by simp
         omega
        rw [HQ.out, Lib.extract_data, HC.out, List.flatMap_append, List.drop_left, List.take_of_length_le (by omega)]
        simp
       · simp only [List.length_append, List.length_cons, List.length_nil, ByteArray.size_extract]; omega
      case measure => simp only [strLen_mk, ByteArray.size_extract]; omega
     ·
      have hn2 := Lib.hid (show ∀ t : List UInt8, quoteL t ≠ s.data.toList by
       intro t e
       have h1 := quoteL_inside (e.trans hin.out)
       rw [HQ.out] at h1
       obtain ⟨c, rfl, hc⟩ := flat_prefix h1.symm
       cases c with
       | nil =>
        have h' : r.data.toList.length = r.size := sizeList r
        rw [hc] at h'
        simp only [List.flatMap_nil, List.length_nil] at h'
        omega
       | cons p c => exact hno p _ hc)
      clear hno
      go_wp2
      go_ret2
      exact unQ_no hn2.out (hb.trans ⟨rfl, rfl, rfl, Nat.le_refl _, fun _ _ => rfl⟩)
  ·
   have h5b : (((s[s.size - 1]'h3).toNat : Int) != 34) = true := by rw [bne_iff_ne]; exact h5
   go_enter Tryz.func178, Tryz.ntmps178
   go_wp2
   go_ret2
   exact unQ_no (fun t e => h5 (by rw [quoteL_last e h3]; rfl)) (Below.refl _ _)
 ·
  have h4b : (((s[0]'h2).toNat : Int) != 34) = true := by rw [bne_iff_ne]; exact h4
  go_enter Tryz.func178, Tryz.ntmps178
  go_wp2
  go_ret2
  exact unQ_no (fun t e => h4 (by rw [quoteL_first e h2]; rfl)) (Below.refl _ _)
end Go.Proofs.YtcjgaohblaidjaaGreatDoor
namespace Go.Proofs.YtcjgaohblaidjaaGreatDoor
open Go.RowKit
theorem bcell {W w1 : World} (hb : Below W.heap.size W w1) : (∀ b o, b < W.heap.size → w1.cell? ⟨b, o, none⟩ = W.cell? ⟨b, o, none⟩) ∧ (∀ b o, b < W.heap.size → w1.frozen? ⟨b, o, none⟩ = W.frozen? ⟨b, o, none⟩) :=
 ⟨fun b o h => hb.cell (p := ⟨b, o, none⟩) h, fun b o h => hb.frozen (p := ⟨b, o, none⟩) h⟩
def formatL (k : Int) (l : List UInt8) : List UInt8 := if keyB k l then (if k = 1 then quoteL l else l) else []
theorem ba_mk (s : ByteArray) : (⟨s.data.toList.toArray⟩ : ByteArray) = s := by
 obtain ⟨⟨l⟩⟩ := s
 rfl
set_option maxHeartbeats 800000 in
theorem formatKey_any (k : Int) (s : ByteArray) (w : World) (hs : s.size ≤ maxLen) :
  Calls Tryz.prog 74 #[.agg #[.int .i64 k, .string s]] w fun e w' => e = .returned (.string ⟨(formatL k s.data.toList).toArray⟩) ∧ Below w.heap.size w w' := by
 have hb0 : Below w.heap.size w (w.alloc (.cells #[.int .i64 k, .string s] 80)) := (Below.refl _ _).alloc (Nat.le_refl _) _
 cases hk : keyB k s.data.toList
 ·
  have hf := Lib.hid (show formatL k s.data.toList = [] by simp [formatL, hk])
  go_enter Tryz.func74, Tryz.ntmps74
  go_wp2_with (go_at_call 118; refine (validKey_any _ _ _ hs).mono ?_; rintro e w1 ⟨rfl, hb⟩)
  go_ret
  exact ⟨by rw [hf.out]; rfl, hb0.trans (hb.mono (by simp))⟩
 ·
  by_cases h1 : k = 1
  ·
   subst h1
   have hf := Lib.hid (show formatL 1 s.data.toList = quoteL s.data.toList by simp [formatL, hk])
   have hs2 : s.size ≤ 35184372088830 := by
    simp [keyB] at hk; omega
   go_enter Tryz.func74, Tryz.ntmps74
   go_wp2_with fail
   refine (validKey_any _ _ _ hs).mono ?_
   rintro e w1 ⟨rfl, hb⟩
   obtain ⟨hc, hfz⟩ := bcell hb
   have hz := hb.size
   simp only [World.size_alloc] at hz
   go_wp2_with fail
   refine (quote_any _ _ hs2).mono ?_
   rintro e w2 ⟨rfl, hb2⟩
   go_wp2
   go_ret
   exact ⟨by rw [hf.out]; rfl, (hb0.trans (hb.mono (by simp))).trans (hb2.mono (by omega))⟩
  ·
   have hf := Lib.hid (show formatL k s.data.toList = s.data.toList by simp [formatL, hk, h1])
   have h1b : (k == 1) = false := by simp [h1]
   go_enter Tryz.func74, Tryz.ntmps74
   go_wp2_with fail
   refine (validKey_any _ _ _ hs).mono ?_
   rintro e w1 ⟨rfl, hb⟩
   obtain ⟨hc, hfz⟩ := bcell hb
   have hz := hb.size
   simp only [World.size_alloc] at hz
   go_wp2
   go_ret
   exact ⟨by rw [hf.out, ba_mk]; rfl, hb0.trans (hb.mono (by simp))⟩
def Notes (l : List UInt8) (k : Int) (t : List UInt8) : Prop := keyB k t = true ∧ ((k = 0 ∧ t = l) ∨ (k = 1 ∧ quoteL t = l))
def PKey (l : List UInt8) (w : World) (e : Ending) (w' : World) : Prop :=
 Below w.heap.size w w' ∧ ((∃ k t, Notes l k t ∧ e = .returned (.tuple #[.agg #[.int .i64 k, .string ⟨t.toArray⟩], .int .i64 0])) ∨ ((∀ k t, ¬ Notes l k t) ∧ e = .returned (.tuple #[.agg #[.int .i64 0, .string ⟨#[]⟩], .int .i64 5])))
theorem pKey_no {l : List UInt8} {w w' : World} (h : ∀ k t, ¬ Notes l k t) (hb : Below w.heap.size w w') : PKey l w (.returned (.tuple #[.agg #[.int .i64 0, .string ⟨#[]⟩], .int .i64 5])) w' := ⟨hb, .inr ⟨h, rfl⟩⟩
theorem pKey_yes {l : List UInt8} {k : Int} {t : ByteArray} {w w' : World} (h : Notes l k t.data.toList) (hb : Below w.heap.size w w') : PKey l w (.returned (.tuple #[.agg #[.int .i64 k, .string t], .int .i64 0])) w' :=
 ⟨hb, .inl ⟨k, t.data.toList, h, by rw [ba_mk]⟩⟩
theorem two_facts {w w1 : World} {a b c d : Value} {T : TypeId} (hb : Below ((w.alloc (.cells #[a, b] T)).alloc (.cells #[c, d] T)).heap.size ((w.alloc (.cells #[a, b] T)).alloc (.cells #[c, d] T)) w1) :
  w1.cell? ⟨w.heap.size, 0, none⟩ = some a ∧ w1.cell? ⟨w.heap.size, 1, none⟩ = some b ∧ w1.cell? ⟨w.heap.size + 1, 0, none⟩ = some c ∧ w1.cell? ⟨w.heap.size + 1, 1, none⟩ = some d ∧
  w1.frozen? ⟨w.heap.size, 0, none⟩ = false ∧ w1.frozen? ⟨w.heap.size, 1, none⟩ = false ∧ w1.frozen? ⟨w.heap.size + 1, 0, none⟩ = false ∧ w1.frozen? ⟨w.heap.size + 1, 1, none⟩ = false ∧ w.heap.size + 1 < w1.heap.size := by
 have hz := hb.size
 have h0 : w1.heap[w.heap.size]? = some (.cells #[a, b] T (0, 0)) := by
  rw [hb.block _ (by simp; omega)]
  rw [Below.heap_alloc _ _ _ (by simp)]
  exact heap_alloc_new w _
 have h1 : w1.heap[w.heap.size + 1]? = some (.cells #[c, d] T (0, 0)) := by
  rw [hb.block _ (by simp)]
  have := heap_alloc_new (w.alloc (.cells #[a, b] T)) (.cells #[c, d] T)
  simpa using this
 refine ⟨?_, ?_, ?_, ?_, Lib.frozen_of_heap h0 0, Lib.frozen_of_heap h0 1, Lib.frozen_of_heap h1 0, Lib.frozen_of_heap h1 1, by simp at hz; omega⟩
 · rw [Lib.cell_of_heap h0]; rfl
 · rw [Lib.cell_of_heap h0]; rfl
 · rw [Lib.cell_of_heap h1]; rfl
 · rw [Lib.cell_of_heap h1]; rfl
theorem notes_string {l t : List UInt8} (hp : Lib.hasPrefix l [34] = true) {k : Int} (h : Notes l k t) : k = 1 ∧ quoteL t = l := by
 obtain ⟨hk, ⟨rfl, rfl⟩ | h⟩ := h
 ·
  simp only [keyB, if_true] at hk
  cases t with
  | nil => cases hp
  | cons a r =>
   have : a = 34 := by
    simp [Lib.hasPrefix] at hp
    exact hp.symm
   subst this
   simp [atomB, nameB, lowB] at hk
 · exact h
theorem notes_atom {l t : List UInt8} (hp : Lib.hasPrefix l [34] = false) {k : Int} (h : Notes l k t) : k = 0 ∧ t = l := by
 obtain ⟨hk, h | ⟨rfl, rfl⟩⟩ := h
 · exact h
 · simp [Lib.hasPrefix, quoteL] at hp
set_option maxHeartbeats 1600000 in
theorem parseKey_any (s : ByteArray) (w : World) (hs : s.size ≤ 140737488355328) : Calls Tryz.prog 163 #[.string s] w (PKey s.data.toList w) := by
 have hs' : s.size ≤ maxLen := by unfold maxLen; omega
 have hb0 : Below w.heap.size w ((w.alloc (.cells #[.int .i64 0, .string ⟨#[]⟩] 80)).alloc (.cells #[.int .i64 0, .string s] 80)) := ((Below.refl _ _).alloc (Nat.le_refl _) _).alloc (by simp) _
 cases hp : Lib.hasPrefix s.data.toList [34]
 ·
  cases hk : keyB 0 s.data.toList
  ·
   have hn := Lib.hid (show ∀ k t, ¬ Notes s.data.toList k t by
    intro k t h
    obtain ⟨rfl, rfl⟩ := notes_atom hp h
    exact absurd h.1 (by rw [hk]; decide))
   go_enter Tryz.func163, Tryz.ntmps163
   go_wp2_with fail
   refine (Tryz.strings_HasPrefix _ _ _).mono ?_
   rintro e w1 ⟨rfl, rfl⟩
   go_wp2_with fail
   refine (validKey_any _ _ _ hs').mono ?_
   rintro e w1 ⟨rfl, hb⟩
   obtain ⟨c0, c1, c2, c3, f0, f1, f2, f3, hz⟩ := two_facts hb
   go_wp2
   refine bodyPost_ret (v := .tuple #[.agg #[.int .i64 0, .string ⟨#[]⟩], .int .i64 5]) (by simp [results, Tryz.results163, go_sem, c0, c1]) rfl (pKey_no hn.out ?_)
   exact ((hb0.trans (hb.mono (by simp; omega))).setCell (p := ⟨w.heap.size, 0, none⟩) (Nat.le_refl _) _).setCell (p := ⟨w.heap.size, 1, none⟩) (Nat.le_refl _) _
  ·
   have hy : Hid (Notes s.data.toList 0 s.data.toList) := Lib.hid ⟨hk, .inl ⟨rfl, rfl⟩⟩
   go_enter Tryz.func163, Tryz.ntmps163
   go_wp2_with fail
   refine (Tryz.strings_HasPrefix _ _ _).mono ?_
   rintro e w1 ⟨rfl, rfl⟩
   go_wp2_with fail
   refine (validKey_any _ _ _ hs').mono ?_
   rintro e w1 ⟨rfl, hb⟩
   obtain ⟨c0, c1, c2, c3, f0, f1, f2, f3, hz⟩ := two_facts hb
   go_wp2
   refine bodyPost_ret (v := .tuple #[.agg #[.int .i64 0, .string s], .int .i64 0]) (by simp [results, Tryz.results163, go_sem, c0, c1]) rfl (pKey_yes hy.out ?_)
   exact ((hb0.trans (hb.mono (by simp; omega))).setCell (p := ⟨w.heap.size, 0, none⟩) (Nat.le_refl _) _).setCell (p := ⟨w.heap.size, 1, none⟩) (Nat.le_refl _) _
 ·
  go_enter Tryz.func163, Tryz.ntmps163
  go_wp2_with fail
  refine (Tryz.strings_HasPrefix _ _ _).mono ?_
  rintro e w1 ⟨rfl, rfl⟩
  go_wp2_with fail
  refine (unquote_any _ _ hs).mono ?_
  rintro e w1 ⟨hb, ⟨t, ht, rfl⟩ | ⟨hno, rfl⟩⟩
  ·
   obtain ⟨c0, c1, c2, c3, f0, f1, f2, f3, hz⟩ := two_facts hb
   have HT := Lib.hid ht
   clear ht
   have htl : (⟨t.toArray⟩ : ByteArray).size ≤ maxLen := by
    have h1 := congrArg List.length HT.out
    have h2 : t.length ≤ (quoteL t).length := by
     simp only [quoteL, List.length_cons, List.length_append, List.length_nil]
     have : t.length ≤ (t.flatMap qByte).length := by
      clear HT h1
      induction t with
      | nil => simp
      | cons a r ih => have := qByte_pos a; simp only [List.flatMap_cons, List.length_append, List.length_cons]; omega
     omega
    have h3 := sizeList s
    show t.length ≤ maxLen
    omega
   go_wp2_with fail
   have HK := Lib.hid (show keyB 1 t = true ∨ keyB 1 t = false by cases keyB 1 t <;> simp)
   refine (validKey_any _ _ _ htl).mono ?_
   rintro e w2 ⟨rfl, hb2⟩
   have hz2 := hb2.size
   simp only [World.size_setCell] at hz2
   have d0 : w2.cell? ⟨w.heap.size, 0, none⟩ = some (.int .i64 0) := by rw [hb2.cell (by simp; omega)]; go_simp
   have d1 : w2.cell? ⟨w.heap.size, 1, none⟩ = some (.string ⟨#[]⟩) := by rw [hb2.cell (by simp; omega)]; go_simp
   have d2 : w2.cell? ⟨w.heap.size + 1, 0, none⟩ = some (.int .i64 1) := by rw [hb2.cell (by simp; omega)]; go_simp
   have d3 : w2.cell? ⟨w.heap.size + 1, 1, none⟩ = some (.string ⟨t.toArray⟩) := by rw [hb2.cell (by simp; omega)]; go_simp
   have g0 : w2.frozen? ⟨w.heap.size, 0, none⟩ = false := by rw [hb2.frozen (by simp; omega)]; go_simp
   have g1 : w2.frozen? ⟨w.heap.size, 1, none⟩ = false := by rw [hb2.frozen (by simp; omega)]; go_simp
   rcases HK.out with hk | hk
   ·
    have hy : Hid (Notes s.data.toList 1 t) := Lib.hid ⟨hk, .inr ⟨rfl, HT.out⟩⟩
    go_wp2
    refine bodyPost_ret (v := .tuple #[.agg #[.int .i64 1, .string ⟨t.toArray⟩], .int .i64 0]) (by simp [results, Tryz.results163, go_sem, d0, d1]) rfl (pKey_yes hy.out ?_)
    exact (((((hb0.trans (hb.mono (by simp; omega))).setCell (p := ⟨w.heap.size + 1, 0, none⟩) (by simp) _).setCell (p := ⟨w.heap.size + 1, 1, none⟩) (by simp) _).trans (hb2.mono (by simp; omega))).setCell (p := ⟨w.heap.size, 0, none⟩) (Nat.le_refl _) _).setCell (p := ⟨w.heap.size, 1, none⟩) (Nat.le_refl _) _
   ·
    have hn := Lib.hid (show ∀ k t, ¬ Notes s.data.toList k t by
     intro k t' h
     obtain ⟨rfl, h'⟩ := notes_string hp h
     have := quoteL_inj (h'.trans HT.out.symm)
     subst this
     exact absurd h.1 (by rw [hk]; decide))
    go_wp2
    refine bodyPost_ret (v := .tuple #[.agg #[.int .i64 0, .string ⟨#[]⟩], .int .i64 5]) (by simp [results, Tryz.results163, go_sem, d0, d1]) rfl (pKey_no hn.out ?_)
    exact (((((hb0.trans (hb.mono (by simp; omega))).setCell (p := ⟨w.heap.size + 1, 0, none⟩) (by simp) _).setCell (p := ⟨w.heap.size + 1, 1, none⟩) (by simp) _).trans (hb2.mono (by simp; omega))).setCell (p := ⟨w.heap.size, 0, none⟩) (Nat.le_refl _) _).setCell (p := ⟨w.heap.size, 1, none⟩) (Nat.le_refl _) _
  ·
   obtain ⟨c0, c1, c2, c3, f0, f1, f2, f3, hz⟩ := two_facts hb
   have hn := Lib.hid (show ∀ k t, ¬ Notes s.data.toList k t by
    intro k t h
    exact hno _ (notes_string hp h).2)
   clear hno
   go_wp2
   refine bodyPost_ret (v := .tuple #[.agg #[.int .i64 0, .string ⟨#[]⟩], .int .i64 5]) (by simp [results, Tryz.results163, go_sem, c0, c1]) rfl (pKey_no hn.out ?_)
   exact ((hb0.trans (hb.mono (by simp; omega))).setCell (p := ⟨w.heap.size, 0, none⟩) (Nat.le_refl _) _).setCell (p := ⟨w.heap.size, 1, none⟩) (Nat.le_refl _) _
end Go.Proofs.YtcjgaohblaidjaaGreatDoor
namespace Go.Proofs.YtcjgaohblaidjaaGreatDoor
open Go Go.RowKit
theorem kids_two {k i : Int} {t : Bs} {v : List Vl} {y : List (Int × Bs)} {e : List En} {l : List Bs} (h : okV (.mk k i t v y e l) = true) (hk : k = 7) : ∃ a b, v = [a, b] ∧ okV a = true ∧ okV b = true ∧ (kindOf b = 5 ∨ kindOf b = 7) := by
 subst hk
 simp only [okV, okVs_all, Bool.and_eq_true, List.all_eq_true] at h
 have hc : consB v = true := h.1.1.2
 match v, hc, h.1.2 with
 | [a, b], hc, h2 => exact ⟨a, b, rfl, h2 a (by simp), h2 b (by simp), by simpa [consB] using hc⟩
end Go.Proofs.YtcjgaohblaidjaaGreatDoor
namespace Go.Proofs.YtcjgaohblaidjaaGreatDoor
open Go Go.RowKit
mutual
def dep : Vl → Nat
 | .mk _ _ _ v _ e _ => max (depVs v) (depEs e) + 1
def depVs : List Vl → Nat
 | [] => 0
 | a :: s => max (dep a) (depVs s)
def depE : En → Nat
 | .mk a _ r => max (depVs a) (dep r)
def depEs : List En → Nat
 | [] => 0
 | a :: s => max (depE a) (depEs s)
end
theorem depVs_mem : ∀ {l : List Vl} {x : Vl}, x ∈ l → dep x ≤ depVs l
 | a :: s, x, h => by
  simp only [depVs]
  rcases List.mem_cons.1 h with rfl | h
  · omega
  · have := depVs_mem h; omega
theorem depVs_le {k : Nat} : ∀ {l : List Vl}, (∀ x ∈ l, dep x ≤ k) → depVs l ≤ k
 | [], _ => Nat.zero_le _
 | a :: s, h => by
  simp only [depVs]
  have h1 := h a (by simp)
  have h2 := depVs_le (l := s) fun x hx => h x (by simp [hx])
  omega
theorem depEs_mem : ∀ {l : List En} {x : En}, x ∈ l → depE x ≤ depEs l
 | a :: s, x, h => by
  simp only [depEs]
  rcases List.mem_cons.1 h with rfl | h
  · omega
  · have := depEs_mem h; omega
theorem depEs_le {k : Nat} : ∀ {l : List En}, (∀ x ∈ l, depE x ≤ k) → depEs l ≤ k
 | [], _ => Nat.zero_le _
 | a :: s, h => by
  simp only [depEs]
  have h1 := h a (by simp)
  have h2 := depEs_le (l := s) fun x hx => h x (by simp [hx])
  omega
theorem RowB.elem {w : World} {B : Nat → Prop} {c n j : Nat} {u : Value} {R : Nat → List Value → Prop} (h : RowB w B c u n R) (hj : j < n) : ∃ cs, R j cs := by
 obtain ⟨_, _, _, _, h3⟩ := h
 obtain ⟨_, _, _, _, _, h7⟩ := h3 (by omega)
 obtain ⟨cs, _, _, h10⟩ := h7 j hj
 exact ⟨cs, h10⟩
theorem mem_of_row {α : Type} {l : List α} {P : α → Prop} (h : ∀ j, j < l.length → ∃ x, l[j]? = some x ∧ P x) : ∀ x ∈ l, P x := by
 intro x hx
 obtain ⟨j, hj, rfl⟩ := List.mem_iff_getElem.1 hx
 obtain ⟨y, hy, hP⟩ := h j hj
 rw [List.getElem?_eq_getElem hj] at hy
 injection hy with hy
 rw [hy]; exact hP
theorem VB.dep_le {w : World} {B : Nat → Prop} : ∀ {k : Nat} {v : Vl} {cs : List Value}, VB k w B v cs → dep v ≤ k
 | 0, _, _, h => h.elim
 | k + 1, .mk kind int text kids keys ents labels, cs, h => by
  obtain ⟨uk, uy, ue, ul, h1, h2, h3, h4, h5, h6, h7, h8⟩ := h
  have e1 : depVs kids ≤ k := depVs_le (mem_of_row fun j hj => by
   obtain ⟨cs, x, hx, hv⟩ := h5.elem hj
   exact ⟨x, hx, VB.dep_le hv⟩)
  have e2 : depEs ents ≤ k := depEs_le (mem_of_row fun j hj => by
   obtain ⟨cs, args, fails, result, hx, ua, rs, hc, ha, hr⟩ := h7.elem hj
   have a1 : depVs args ≤ k := depVs_le (mem_of_row fun i hi => by
    obtain ⟨cs, x, hx, hv⟩ := ha.elem hi
    exact ⟨x, hx, VB.dep_le hv⟩)
   have a2 := VB.dep_le hr
   exact ⟨_, hx, by simp only [depE]; omega⟩)
  simp only [dep]
  omega
end Go.Proofs.YtcjgaohblaidjaaGreatDoor
namespace Go.Proofs.YtcjgaohblaidjaaGreatDoor
open Go Go.RowKit
def i64B (i : Int) : Bool := decide (-9223372036854775808 ≤ i ∧ i ≤ 9223372036854775807)
mutual
def rngV : Vl → Bool
 | .mk _ i _ v _ e _ => i64B i && rngVs v && rngEs e
def rngVs : List Vl → Bool
 | [] => true
 | a :: s => rngV a && rngVs s
def rngE : En → Bool
 | .mk a _ r => rngVs a && rngV r
def rngEs : List En → Bool
 | [] => true
 | a :: s => rngE a && rngEs s
end
theorem rngVs_all : ∀ l : List Vl, rngVs l = l.all rngV
 | [] => rfl
 | a :: s => by rw [rngVs, rngVs_all s, List.all_cons]
theorem rngEs_all : ∀ l : List En, rngEs l = l.all rngE
 | [] => rfl
 | a :: s => by rw [rngEs, rngEs_all s, List.all_cons]
structure Fit (n : Nat) (v : Vl) : Prop where
 ok : okV v = true
 rng : rngV v = true
 dep : dep v ≤ n
structure FitE (n : Nat) (e : En) : Prop where
 ok : okE e = true
 rng : rngE e = true
 dep : depE e ≤ n
theorem Fit.mono {n m : Nat} {v : Vl} (h : Fit n v) (hm : n ≤ m) : Fit m v := ⟨h.ok, h.rng, Nat.le_trans h.dep hm⟩
theorem FitE.args {n : Nat} {a : List Vl} {f : Bool} {r : Vl} (h : FitE n (.mk a f r)) : (∀ x ∈ a, Fit n x) ∧ (f = true ∨ Fit n r) := by
 obtain ⟨h1, h2, h3⟩ := h
 simp only [okE, rngE, depE, okVs_all, rngVs_all, Bool.and_eq_true, Bool.or_eq_true, List.all_eq_true] at h1 h2 h3
 refine ⟨fun x hx => ⟨h1.1 x hx, h2.1 x hx, ?_⟩, ?_⟩
 · have := depVs_mem hx; omega
 ·
  rcases h1.2 with h | h
  · exact .inl h
  · exact .inr ⟨h, h2.2, by omega⟩
structure Parts (n : Nat) (k i : Int) (t : Bs) (v : List Vl) (y : List (Int × Bs)) (e : List En) (l : List Bs) : Prop where
 labs : labelsB l = true
 uses : usesB k i t v y e = true
 kind : kindB k i t v y e = true
 kids : ∀ x ∈ v, Fit n x
 ents : ∀ x ∈ e, FitE n x
 lo : -9223372036854775808 ≤ i
 hi : i ≤ 9223372036854775807
theorem Fit.parts {n : Nat} {k i : Int} {t : Bs} {v : List Vl} {y : List (Int × Bs)} {e : List En} {l : List Bs} (h : Fit (n + 1) (.mk k i t v y e l)) : Parts n k i t v y e l := by
 obtain ⟨h1, h2, h3⟩ := h
 simp only [okV, rngV, Go.Proofs.YtcjgaohblaidjaaGreatDoor.dep, okVs_all, okEs_all, rngVs_all, rngEs_all, i64B, Bool.and_eq_true, List.all_eq_true, decide_eq_true_eq] at h1 h2 h3
 refine ⟨h1.1.1.1.1, h1.1.1.1.2, h1.1.1.2, fun x hx => ⟨h1.1.2 x hx, h2.1.2 x hx, ?_⟩, fun x hx => ⟨h1.2 x hx, h2.2 x hx, ?_⟩, h2.1.1.1, h2.1.1.2⟩
 · have := depVs_mem hx; omega
 · have := depEs_mem hx; omega
theorem Fit.pos {n : Nat} {v : Vl} (h : Fit n v) : ∃ m, n = m + 1 := by
 obtain ⟨k, i, t, v, y, e, l⟩ := v
 have := h.dep
 simp only [Go.Proofs.YtcjgaohblaidjaaGreatDoor.dep] at this
 exact ⟨n - 1, by omega⟩
theorem kinds {k i : Int} {t : Bs} {v : List Vl} {y : List (Int × Bs)} {e : List En} (h : kindB k i t v y e = true) : k = 1 ∨ k = 2 ∨ k = 3 ∨ k = 4 ∨ k = 5 ∨ k = 6 ∨ k = 7 ∨ k = 8 ∨ k = 9 := by
 unfold kindB at h
 repeat (split at h; omega)
 cases h
def folB (c : UInt8) : Bool := c == 44 || c == 125 || c == 93 || c == 32 || c == 41
def folU (c : UInt8) : Bool := folB c || c == 64
def Fol (p : UInt8 → Bool) (r : Bs) : Prop := ∀ c q, r = c :: q → p c = true
theorem Fol.nil (p : UInt8 → Bool) : Fol p [] := by intro c q h; cases h
theorem Fol.cons {p : UInt8 → Bool} {c : UInt8} (q : Bs) (h : p c = true) : Fol p (c :: q) := by
 intro d q' h'
 injection h' with h1 _
 rw [← h1]; exact h
theorem folU_cases {c : UInt8} (h : folU c = true) : c = 44 ∨ c = 125 ∨ c = 93 ∨ c = 32 ∨ c = 41 ∨ c = 64 := by
 simp only [folU, folB, Bool.or_eq_true, beq_iff_eq] at h
 rcases h with ((((h | h) | h) | h) | h) | h <;> simp [h]
theorem Fol.up {r : Bs} (h : Fol folB r) : Fol folU r := by
 intro c q e
 unfold folU
 rw [h c q e]; rfl
theorem Fol.num {r : Bs} (h : Fol folU r) : Brk numC r := by
 intro c q e
 rcases folU_cases (h c q e) with rfl | rfl | rfl | rfl | rfl | rfl <;> decide
theorem Fol.name {r : Bs} (h : Fol folU r) : Brk nameC r := by
 intro c q e
 rcases folU_cases (h c q e) with rfl | rfl | rfl | rfl | rfl | rfl <;> decide
theorem Fol.cut {p : UInt8 → Bool} {r : Bs} (h : Fol p r) {d : UInt8} (hd : p d = false) (s : Bs) : cutP (d :: s) r = none := by
 cases r with
 | nil => exact cutP_nil d s
 | cons c q =>
  refine cutP_ne s q ?_
  rintro rfl
  rw [h c q rfl] at hd
  cases hd
def headB (c : UInt8) : Bool := !(c == 125 || c == 93 || c == 41 || c == 33)
theorem itoa_head (n : Int) : ∃ c q, Lib.itoa n = c :: q ∧ numC c = true := by
 obtain ⟨c, q, e⟩ := List.exists_cons_of_ne_nil (itoa_ne n)
 exact ⟨c, q, e, itoa_num n c (by rw [e]; simp)⟩
theorem num_cases {c : UInt8} (h : numC c = true) : ∀ d : UInt8, numC d = false → c ≠ d := by
 rintro d hd rfl
 rw [h] at hd; cases hd
theorem body_head {n : Nat} {v : Vl} (h : Fit n v) : ∃ c q, bodyV v = c :: q ∧ headB c = true := by
 obtain ⟨m, rfl⟩ := h.pos
 obtain ⟨k, i, t, v, y, e, l⟩ := v
 have hp := h.parts
 rcases kinds hp.kind with rfl | rfl | rfl | rfl | rfl | rfl | rfl | rfl | rfl
 ·
  obtain ⟨c, q, e1, e2⟩ := itoa_head i
  refine ⟨c, q, e1, ?_⟩
  simp only [headB, Bool.not_eq_true', Bool.or_eq_false_iff, beq_eq_false_iff_ne]
  exact ⟨⟨⟨num_cases e2 _ (by decide), num_cases e2 _ (by decide)⟩, num_cases e2 _ (by decide)⟩, num_cases e2 _ (by decide)⟩
 · exact ⟨34, _, rfl, by decide⟩
 ·
  have ha : atomB t = true := hp.kind
  obtain ⟨⟨c, q, e1, e2⟩, _⟩ := atom_name ha
  refine ⟨c, q, e1, ?_⟩
  simp only [headB, Bool.not_eq_true', Bool.or_eq_false_iff, beq_eq_false_iff_ne]
  refine ⟨⟨⟨?_, ?_⟩, ?_⟩, ?_⟩ <;> (rintro rfl; exact absurd e2 (by decide))
 · exact ⟨35, _, rfl, by decide⟩
 · exact ⟨91, _, rfl, by decide⟩
 · exact ⟨123, _, rfl, by decide⟩
 · exact ⟨91, _, rfl, by decide⟩
 · exact ⟨37, _, rfl, by decide⟩
 · exact ⟨102, _, rfl, by decide⟩
theorem show_head {n : Nat} {v : Vl} (h : Fit n v) : ∃ c q, showV v = c :: q ∧ headB c = true := by
 obtain ⟨c, q, e1, e2⟩ := body_head h
 exact ⟨c, q ++ labsL (lbsV v), by rw [showV_eq, e1]; rfl, e2⟩
theorem show_cut {n : Nat} {v : Vl} (h : Fit n v) {d : UInt8} (hd : headB d = false) (s q : Bs) : cutP (d :: s) (showV v ++ q) = none := by
 obtain ⟨c, p, e1, e2⟩ := show_head h
 rw [e1]
 refine cutP_ne s (p ++ q) ?_
 rintro rfl
 rw [e2] at hd
 cases hd
def Full (n : Nat) (val : Rd Vl) : Prop := ∀ v, Fit n v → ∀ r, Fol folB r → val (showV v ++ r) = some (v, r)
theorem fol_comma (q : Bs) : Fol folB (commaL ++ q) := Fol.cons (c := 44) _ (by decide)
theorem entryP_full {n : Nat} {val : Rd Vl} (h : Full n val) {e : En} (he : FitE n e) (hz : failsOf e = true → resOf e = zeroV) {r : Bs} (hr : Fol folB r) : entryP val (showE e ++ r) = some (e, r) := by
 obtain ⟨a, f, x⟩ := e
 obtain ⟨h1, h2⟩ := he.args
 have e1 : showE (.mk a f x) ++ r = [40] ++ (sepL commaL (a.map showV) ++ ([41, 32, 45, 62, 32] ++ ((if f then [33] else showV x) ++ r))) := by
  rw [showE_eq]; simp
 rw [e1]
 unfold entryP
 rw [cutP_append]
 simp only
 rw [manyP_full (item := val) (f := showV) (G := Fol folB) (e := [41, 32, 45, 62, 32]) (r := (if f then [33] else showV x) ++ r) (l := a) fol_comma (Fol.cons (c := 41) _ (by decide)) (cutP_ne (c := 41) (d := 44) _ _ (by decide)) (fun x hx q => show_cut (h1 x hx) (d := 41) (by decide) _ _) (fun x hx q hq => h x (h1 x hx) q hq)]
 simp only
 cases f with
 | true =>
  have hx : x = zeroV := hz rfl
  subst hx
  simp only [if_true, cutP_append]
 | false =>
  have hx : Fit n x := h2.resolve_left (by decide)
  simp only [Bool.false_eq_true, if_false]
  rw [show_cut hx (by decide)]
  simp only
  rw [h x hx r hr]
theorem fieldP_full {n : Nat} {val : Rd Vl} (h : Full n val) {k : Int} {t : Bs} {v : Vl} (hk : keyB k t = true) (h0 : k = 0 ∨ k = 1) (hv : Fit n v) {r : Bs} (hr : Fol folB r) :
  fieldP val (keyL k t ++ [58, 32] ++ showV v ++ r) = some (((k, t), v), r) := by
 unfold fieldP
 rw [List.append_assoc, List.append_assoc, keyP_full hk h0 (show Brk nameC ([58, 32] ++ (showV v ++ r)) from Brk.cons (c := 58) _ (by decide))]
 simp only
 rw [cutP_append]
 simp only
 rw [h v hv r hr]
theorem keyB_kind {k : Int} {t : Bs} (h : keyB k t = true) : k = 0 ∨ k = 1 := by
 unfold keyB at h
 split at h
 · exact .inl ‹_›
 ·
  split at h
  · exact .inr ‹_›
  · cases h
theorem list_parts : ∀ (n : Nat) (b : Vl), Fit n b → (kindOf b = 5 ∨ kindOf b = 7) → ∃ (l : List Vl) (t : Vl), b = l.foldr cnV t ∧ (t = nlV ∨ (lbsV t ≠ [] ∧ Fit n t)) ∧ ∀ x ∈ l, Fit n x
 | 0, b, h, _ => by obtain ⟨m, hm⟩ := h.pos; omega
 | n + 1, .mk k i t v y e l, h, hk => by
  have hp := h.parts
  by_cases hl : l = []
  ·
   subst hl
   have hu := hp.uses
   unfold usesB at hu
   rcases hk with hk | hk
   ·
    have hk' : k = 5 := hk
    subst hk'
    simp only [Bool.and_eq_true, Bool.or_eq_true, decide_eq_true_eq, List.isEmpty_iff] at hu
    obtain ⟨⟨⟨⟨h1, h2⟩, h3⟩, h4⟩, h5⟩ := hu
    have e1 : i = 0 := h1.resolve_left (by decide)
    have e2 : t = [] := h2.resolve_left (by decide)
    have e3 : v = [] := h3.resolve_left (by decide)
    have e4 : y = [] := h4.resolve_left (by decide)
    have e5 : e = [] := h5.resolve_left (by decide)
    subst e1 e2 e3 e4 e5
    exact ⟨[], nlV, rfl, .inl rfl, by simp⟩
   ·
    have hk' : k = 7 := hk
    subst hk'
    simp only [Bool.and_eq_true, Bool.or_eq_true, decide_eq_true_eq, List.isEmpty_iff] at hu
    obtain ⟨⟨⟨⟨h1, h2⟩, -⟩, h4⟩, h5⟩ := hu
    have e1 : i = 0 := h1.resolve_left (by decide)
    have e2 : t = [] := h2.resolve_left (by decide)
    have e4 : y = [] := h4.resolve_left (by decide)
    have e5 : e = [] := h5.resolve_left (by decide)
    subst e1 e2 e4 e5
    have hc : consB v = true := hp.kind
    match v, hc, hp.kids with
    | [a, b], hc, hkids =>
     have hb := hkids b (by simp)
     have hkb : kindOf b = 5 ∨ kindOf b = 7 := by
      simpa [consB] using hc
     obtain ⟨l, t, h6, h7, h8⟩ := list_parts n b hb hkb
     refine ⟨a :: l, t, by rw [List.foldr_cons, ← h6]; rfl, ?_, ?_⟩
     ·
      rcases h7 with h7 | ⟨h7, h9⟩
      · exact .inl h7
      · exact .inr ⟨h7, h9.mono (Nat.le_succ n)⟩
     ·
      intro x hx
      rcases List.mem_cons.1 hx with rfl | hx
      · exact (hkids _ (by simp)).mono (Nat.le_succ n)
      · exact (h8 x hx).mono (Nat.le_succ n)
  · exact ⟨[], _, rfl, .inr ⟨hl, h⟩, by simp⟩
theorem listP_full {n : Nat} {val : Rd Vl} (h : Full n val) {a : Vl} {l : List Vl} {t : Vl} (ha : ∀ x ∈ a :: l, Fit n x) (ht : t = nlV ∨ (lbsV t ≠ [] ∧ Fit n t)) (r : Bs) :
  listP val (sepL commaL ((a :: l).map showV) ++ (tlV t ++ r)) = some ((a :: l).foldr cnV t, r) := by
 have h1 : cutP [93] (sepL commaL ((a :: l).map showV) ++ (tlV t ++ r)) = none := by
  cases l with
  | nil => simpa [sepL] using show_cut (ha a (by simp)) (d := 93) (by decide) [] (tlV t ++ r)
  | cons b l => simpa [sepL] using show_cut (ha a (by simp)) (d := 93) (by decide) [] (commaL ++ (sepL commaL ((b :: l).map showV) ++ (tlV t ++ r)))
 unfold listP
 rw [h1]
 simp only
 rcases ht with rfl | ⟨hl, hf⟩
 ·
  rw [tlV_nl, seqL_full (f := showV) fol_comma (by simp [commaL]) (show Fol folB ([93] ++ r) from Fol.cons (c := 93) r (by decide)) (cutP_ne (c := 93) (d := 44) _ _ (by decide)) (by simp) (fun x hx q hq => h x (ha x hx) q hq)]
  simp only
  rw [show cutP [32, 124, 32] ([93] ++ r) = none from cutP_ne _ _ (by decide), cutP_append]
 ·
  have e : tlV t ++ r = [32, 124, 32] ++ (showV t ++ ([93] ++ r)) := by rw [tlV_lab hl]; simp
  rw [e, seqL_full (f := showV) fol_comma (by simp [commaL]) (show Fol folB ([32, 124, 32] ++ (showV t ++ ([93] ++ r))) from Fol.cons (c := 32) _ (by decide)) (cutP_ne (c := 32) (d := 44) _ _ (by decide)) (by simp) (fun x hx q hq => h x (ha x hx) q hq)]
  simp only
  rw [cutP_append]
  simp only
  rw [h t hf _ (show Fol folB ([93] ++ r) from Fol.cons (c := 93) r (by decide))]
  simp only
  rw [if_neg hl, cutP_append]
end Go.Proofs.YtcjgaohblaidjaaGreatDoor
namespace Go.Proofs.YtcjgaohblaidjaaGreatDoor
open Go Go.RowKit Go.WideShapes Go.Deep
theorem addr_plus (b off q : Nat) : (⟨b, off, none⟩ : Addr).add q = ⟨b, off + q, none⟩ := by cases q <;> rfl
section
variable {H : Type} {enc : TypeId × Value → H} {P : Program} {w : World} {spare : Nat → Bool} {held : Bool}
theorem open_row {n c : Nat} {t e : TypeId} {u : Value} {y : DataW H × List MemPlace} {α : Type} (R : α → List Value → Prop) (ht : P.underlying t = some (.slice e)) (hc : P.cellsOf e = c) (hpos : 0 < c)
  (h : DataW.trod enc P w 0 spare held n t [u] = some y) (hR : ∀ m cs z, m < n → DataW.trod enc P w 0 spare held m e cs = some z → ∃ x : α, R x cs) :
  ∃ l : List α, RowP w w.heap.size c u l.length (fun j cs => ∃ x, l[j]? = some x ∧ R x cs) := by
 rcases DataW.trod_slice ht h with ⟨h0, _⟩ | ⟨a, len, cap, elems, rest, m, rfl, hu, _, hb, hl, hm, hlen, hel, _⟩
 ·
  simp only [List.cons.injEq, and_true] at h0
  subst h0
  exact ⟨[], none, 0, rfl, ⟨Nat.zero_le _, Nat.le_refl _⟩, fun hn => absurd hn (by simp)⟩
 ·
  simp only [List.cons.injEq, and_true] at hu
  subst hu
  have each : ∀ i : Fin len, ∃ x : α, ∃ cs : List Value, cs.length = c ∧ (∀ q, q < c → w.cell? ((a.add (i.1 * c)).add q) = cs[q]?) ∧ R x cs := by
   intro i
   have h1 := hel i.1 i.2
   rw [List.getElem?_eq_getElem (by omega), hc] at h1
   obtain ⟨cs, h2, h3⟩ := Option.bind_eq_some_iff.1 h1
   obtain ⟨_, h4, h5⟩ := World.cells?_some h2
   obtain ⟨x, hx⟩ := hR m cs _ (by omega) h3
   exact ⟨x, cs, h4, h5, hx⟩
  refine ⟨List.ofFn fun i => Classical.choose (each i), some a, cap, by simp, ⟨by simp; omega, by simp; omega⟩, fun hn => ?_⟩
  rw [List.length_ofFn] at hn
  obtain ⟨b, off, spot⟩ := a
  obtain ⟨cs0, k1, k2, _⟩ := Classical.choose_spec (each ⟨0, hn⟩)
  have hc0 := k2 0 hpos
  rw [List.getElem?_eq_getElem (by omega)] at hc0
  have hspot : spot = none := by simpa [Addr.add] using World.cell?_spot hc0
  subst hspot
  refine ⟨b, off, rfl, ?_, ?_, fun j hj => ?_⟩
  · simpa [Addr.add] using World.block_lt_of_cell? _ _ hc0
  · simpa [Addr.add] using World.block_lt_of_cell? _ _ hc0
  ·
   rw [List.length_ofFn] at hj
   obtain ⟨cs, k3, k4, k5⟩ := Classical.choose_spec (each ⟨j, hj⟩)
   refine ⟨cs, k3, fun i hi => ?_, _, by rw [List.getElem?_ofFn, dif_pos hj], k5⟩
   have := k4 i hi
   rw [addr_plus, addr_plus] at this
   rw [← this]
end
end Go.Proofs.YtcjgaohblaidjaaGreatDoor
namespace Go.Proofs.YtcjgaohblaidjaaGreatDoor
open Go.ChangeShapes Go.WideShapes Go.ChangeAt Go.RowKit Go.Joins Go.Deep
theorem own : ownKnob Tryz.prog.godebug = none := by kernel_rfl
theorem laidOut : laidOutB Tryz.prog = true := by kernel_rfl
end Go.Proofs.YtcjgaohblaidjaaGreatDoor
