/- What unquoteHex and unquoteByte return. Condition: the string has at most maxLen bytes and is not empty. -/
import Derived.Test.YtjinngobiefifaaDoorQuoteCode
import Derived.Laws.BitsAllLaws
namespace Go.Proofs.YtjinngobiefifaaDoor
open Go.RowKit
def hexBytes : List UInt8 := [48, 49, 50, 51, 52, 53, 54, 55, 56, 57, 97, 98, 99, 100, 101, 102]
theorem hexIdx (b : UInt8) : (∃ n : Nat, n < 16 ∧ hexD n = b ∧ Lib.indexByte hexBytes b = (n : Int)) ∨ (Lib.indexByte hexBytes b = -1 ∧ ∀ n : Nat, n < 16 → hexD n ≠ b) := by
  have key : ∀ b : Fin 256, (∃ n : Fin 16, hexD n.1 = UInt8.ofNat b.1 ∧ Lib.indexByte hexBytes (UInt8.ofNat b.1) = ((n.1 : Nat) : Int)) ∨ (Lib.indexByte hexBytes (UInt8.ofNat b.1) = -1 ∧ ∀ n : Fin 16, hexD n.1 ≠ UInt8.ofNat b.1) := by decide +kernel
  have h := key ⟨b.toNat, b.toNat_lt⟩
  simp only [UInt8.ofNat_toNat] at h
  rcases h with ⟨n, h1, h2⟩ | ⟨h1, h2⟩
  · exact .inl ⟨n.1, n.2, h1, h2⟩
  · exact .inr ⟨h1, fun n hn => h2 ⟨n, hn⟩⟩
/-- what unquoteHex returns for two bytes -/
def UnHex (a b : UInt8) (w : World) (e : Ending) (w' : World) : Prop :=
  w = w' ∧ ((∃ c : UInt8, qByte c = [92, 120, a, b] ∧ e = .returned (.tuple #[.int .u8 c.toNat, .int .i64 4])) ∨ ((∀ c : UInt8, qByte c ≠ [92, 120, a, b]) ∧ e = .returned (.tuple #[.int .u8 0, .int .i64 0])))
theorem idxHex (a : UInt8) (r : Int) (w : World) (h : Lib.indexByte hexBytes a = r) :
    Calls Tryd.prog 67 #[.string ⟨#[48, 49, 50, 51, 52, 53, 54, 55, 56, 57, 97, 98, 99, 100, 101, 102]⟩, .int .u8 a.toNat] w fun e w' => e = .returned (.int .i64 r) ∧ w = w' :=
  (Tryd.strings_IndexByte _ _ w).mono fun _ _ ⟨he, hw⟩ => ⟨by rw [he, ← h]; have : (a.toNat : Int).toNat.toUInt8 = a := by simp
                                                              rw [this]; rfl, hw.symm⟩
theorem or16 (n m : Nat) (hn : n < 16) (hm : m < 16) : bits BinOp.or IntKind.i64 ((n : Int) * 16) (m : Int) = (n : Int) * 16 + m := by
  have key : ∀ n m : Fin 16, bits BinOp.or IntKind.i64 ((n.1 : Int) * 16) (m.1 : Int) = (n.1 : Int) * 16 + m.1 := by decide +kernel
  exact key ⟨n, hn⟩ ⟨m, hm⟩
theorem hexByte (n m : Nat) (hn : n < 16) (hm : m < 16) : ∃ c : UInt8, (c.toNat : Int) = (n : Int) * 16 + m ∧ c.toNat / 16 = n ∧ c.toNat % 16 = m := by
  refine ⟨UInt8.ofNat (n * 16 + m), ?_⟩
  have : (UInt8.ofNat (n * 16 + m)).toNat = n * 16 + m := by simp; omega
  rw [this]; omega
theorem qByte_hex {c a b : UInt8} (h : qByte c = [92, 120, a, b]) : printB c.toNat = false ∧ hexD (c.toNat / 16) = a ∧ hexD (c.toNat % 16) = b := by
  rcases qByte_cases c with ⟨e, _⟩ | ⟨e, _⟩ | ⟨e, hp⟩
  · rw [e] at h; simp at h
  · rw [e] at h; simp at h
  · rw [e] at h; simp at h; exact ⟨hp, h.1, h.2⟩
theorem esc_of_print {c : UInt8} (hp : printB c.toNat = false) : qByte c = [92, 120, hexD (c.toNat / 16), hexD (c.toNat % 16)] := by
  rcases qByte_cases c with ⟨e, rfl | rfl⟩ | ⟨e, _, _, h⟩ | ⟨e, _⟩
  · exact absurd hp (by decide)
  · exact absurd hp (by decide)
  · rw [hp] at h; cases h
  · exact e
theorem unHex_no {a b : UInt8} {w : World} (h : ∀ c : UInt8, printB c.toNat = false → hexD (c.toNat / 16) = a → hexD (c.toNat % 16) = b → False) : UnHex a b w (.returned (.tuple #[.int .u8 0, .int .i64 0])) w :=
  ⟨rfl, .inr ⟨fun c hc => h c (qByte_hex hc).1 (qByte_hex hc).2.1 (qByte_hex hc).2.2, rfl⟩⟩
set_option maxHeartbeats 800000 in
theorem unquoteHex_any (a b : UInt8) (w : World) : Calls Tryd.prog 57 #[.int .u8 a.toNat, .int .u8 b.toNat] w (UnHex a b w) := by
  rcases hexIdx a with ⟨n, hn, han, hai⟩ | ⟨hai, han⟩
  · rcases hexIdx b with ⟨m, hm, hbm, hbi⟩ | ⟨hbi, hbm⟩
    · have HAN := Lib.hid han
      have HBM := Lib.hid hbm
      have HAI := Lib.hid hai
      have HBI := Lib.hid hbi
      have d1 := or16 n m hn hm
      obtain ⟨c, hc, hc1, hc2⟩ := hexByte n m hn hm
      have HC := Lib.hid hc
      have HC1 := Lib.hid hc1
      have HC2 := Lib.hid hc2
      clear han hbm hai hbi hc hc1 hc2
      cases hp : printB ((n : Int) * 16 + m)
      all_goals
        go_enter Tryd.func57, Tryd.ntmps57
        go_wp2_with fail
        refine (idxHex _ _ _ HAI.out).mono ?_
        rintro e w1 ⟨rfl, rfl⟩
        go_wp2_with fail
        refine (idxHex _ _ _ HBI.out).mono ?_
        rintro e w1 ⟨rfl, rfl⟩
        go_wp2_with (go_at_call 55; refine (isPrintable_any _ _).mono ?_; rintro e w' ⟨rfl, rfl⟩)
        go_ret2
      · have hp' : printB c.toNat = false := by rw [HC.out]; exact hp
        have h1 := esc_of_print hp'
        rw [HC1.out, HC2.out, HAN.out, HBM.out] at h1
        refine ⟨rfl, .inl ⟨c, h1, ?_⟩⟩
        show Ending.returned (.tuple #[.int .u8 ((n : Int) * 16 + m), .int .i64 4]) = _
        rw [HC.out]
      · refine unHex_no fun c' h1 h2 h3 => ?_
        rw [← HAN.out] at h2
        rw [← HBM.out] at h3
        have e1 := hexD_inj' (by have := c'.toNat_lt; omega) hn h2
        have e2 := hexD_inj' (by omega) hm h3
        have e3 : (c'.toNat : Int) = (n : Int) * 16 + m := by omega
        rw [e3, hp] at h1; cases h1
    · have HAI := Lib.hid hai
      have HBI := Lib.hid hbi
      clear hai hbi
      go_enter Tryd.func57, Tryd.ntmps57
      go_wp2_with fail
      refine (idxHex _ _ _ HAI.out).mono ?_
      rintro e w1 ⟨rfl, rfl⟩
      go_wp2_with fail
      refine (idxHex _ _ _ HBI.out).mono ?_
      rintro e w1 ⟨rfl, rfl⟩
      go_wp2
      go_ret2
      exact unHex_no fun c' h1 h2 h3 => hbm _ (by omega) h3
  · have HAI := Lib.hid hai
    clear hai
    obtain ⟨r, hbi⟩ : ∃ r, Lib.indexByte hexBytes b = r := ⟨_, rfl⟩
    have HBI := Lib.hid hbi
    clear hbi
    go_enter Tryd.func57, Tryd.ntmps57
    go_wp2_with fail
    refine (idxHex _ _ _ HAI.out).mono ?_
    rintro e w1 ⟨rfl, rfl⟩
    go_wp2_with fail
    refine (idxHex _ _ _ HBI.out).mono ?_
    rintro e w1 ⟨rfl, rfl⟩
    go_wp2
    go_ret2
    exact unHex_no fun c' h1 h2 h3 => han _ (by have := c'.toNat_lt; omega) h2
theorem unHex_yes {a b c : UInt8} (h : qByte c = [92, 120, a, b]) (w : World) : Calls Tryd.prog 57 #[.int .u8 a.toNat, .int .u8 b.toNat] w fun e w' => e = .returned (.tuple #[.int .u8 c.toNat, .int .i64 4]) ∧ w' = w :=
  (unquoteHex_any a b w).mono fun e w' ⟨hw, hc⟩ => by
    rcases hc with ⟨c', h', he⟩ | ⟨hn, _⟩
    · have : c' = c := (qByte_prefix (x := []) (y := []) (by rw [h, h'])).1
      subst this
      exact ⟨he, hw.symm⟩
    · exact absurd h (hn c)
theorem unHex_none {a b : UInt8} (h : ∀ c : UInt8, qByte c ≠ [92, 120, a, b]) (w : World) : Calls Tryd.prog 57 #[.int .u8 a.toNat, .int .u8 b.toNat] w fun e w' => e = .returned (.tuple #[.int .u8 0, .int .i64 0]) ∧ w' = w :=
  (unquoteHex_any a b w).mono fun e w' ⟨hw, hc⟩ => by
    rcases hc with ⟨c', h', he⟩ | ⟨hn, he⟩
    · exact absurd h' (h c')
    · exact ⟨he, hw.symm⟩
/-- what unquoteByte returns for the bytes l -/
def UnByte (l : List UInt8) (w : World) (e : Ending) (w' : World) : Prop :=
  (∃ n, w' = w.drewN n) ∧ ((∃ (c : UInt8) (r : List UInt8), l = qByte c ++ r ∧ e = .returned (.tuple #[.int .u8 c.toNat, .int .i64 (qByte c).length])) ∨
    ((∀ (c : UInt8) (r : List UInt8), l ≠ qByte c ++ r) ∧ e = .returned (.tuple #[.int .u8 0, .int .i64 0])))
theorem unByte_no {l : List UInt8} {w : World} (h : ∀ (c : UInt8) (r : List UInt8), l ≠ qByte c ++ r) (n : Nat) : UnByte l w (.returned (.tuple #[.int .u8 0, .int .i64 0])) (w.drewN n) := ⟨⟨n, rfl⟩, .inr ⟨h, rfl⟩⟩
theorem unByte_yes {l r : List UInt8} {c : UInt8} {w : World} {m : Int} (h : l = qByte c ++ r) (hm : m = (qByte c).length) (n : Nat) : UnByte l w (.returned (.tuple #[.int .u8 c.toNat, .int .i64 m])) (w.drewN n) :=
  ⟨⟨n, rfl⟩, .inl ⟨c, r, h, by rw [hm]⟩⟩
theorem l2 {s : ByteArray} (h : 2 ≤ s.size) : ∃ r, s.data.toList = (s[0]'(by omega)) :: (s[1]'h) :: r := by
  obtain ⟨⟨l⟩⟩ := s
  match l, h with
  | a :: b :: r, _ => exact ⟨r, rfl⟩
theorem l4 {s : ByteArray} (h : 4 ≤ s.size) : ∃ r, s.data.toList = (s[0]'(by omega)) :: (s[1]'(by omega)) :: (s[2]'(by omega)) :: (s[3]'h) :: r := by
  obtain ⟨⟨l⟩⟩ := s
  match l, h with
  | a :: b :: c :: d :: r, _ => exact ⟨r, rfl⟩
theorem l1 {s : ByteArray} (h : 0 < s.size) : ∃ r, s.data.toList = (s[0]'h) :: r := by
  obtain ⟨⟨l⟩⟩ := s
  match l, h with
  | a :: r, _ => exact ⟨r, rfl⟩
theorem byteEq {c : UInt8} {n : Nat} (h : (c.toNat : Int) = n) (hn : n < 256) : c = UInt8.ofNat n := UInt8.toNat_inj.1 (by simp; omega)
/-- how a representation begins -/
theorem no_q {l : List UInt8} (h : ∀ c : UInt8, c = 34 ∨ c = 92 → ∀ r, l ≠ 92 :: c :: r) (h' : ∀ c : UInt8, c ≠ 34 → c ≠ 92 → printB c.toNat = true → ∀ r, l ≠ c :: r)
    (h'' : ∀ c a b : UInt8, qByte c = [92, 120, a, b] → ∀ r, l ≠ 92 :: 120 :: a :: b :: r) (c : UInt8) (r : List UInt8) : l ≠ qByte c ++ r := by
  rcases qByte_cases c with ⟨e, hc⟩ | ⟨e, h1, h2, h3⟩ | ⟨e, hp⟩
  · rw [e]; exact h c hc r
  · rw [e]; exact h' c h1 h2 h3 r
  · have := h'' c _ _ e r
    rwa [e]
theorem sizeList (s : ByteArray) : s.data.toList.length = s.size := by simp
set_option maxHeartbeats 3200000 in
theorem unquoteByte_any (s : ByteArray) (w : World) (hs : 0 < s.size) (hm : s.size ≤ maxLen) : Calls Tryd.prog 44 #[.string s] w (UnByte s.data.toList w) := by
  unfold maxLen at hm
  obtain ⟨r1, e1⟩ := l1 hs
  have E1 := Lib.hid e1
  clear e1
  have hsl := Lib.hid (sizeList s)
  by_cases h1 : ((s[0]'hs).toNat : Int) = 34
  · have hno := Lib.hid (show ∀ (c : UInt8) (r : List UInt8), s.data.toList ≠ qByte c ++ r by
      have e0 : s[0]'hs = 34 := byteEq (n := 34) h1 (by decide)
      rw [E1.out, e0]
      exact no_q (fun c _ r => by simp) (fun c h _ _ r => by simp; intro e; exact absurd e.symm h) (fun c a b _ r => by simp))
    go_enter Tryd.func44, Tryd.ntmps44
    go_wp2_with (go_at_call 55; refine (isPrintable_any _ _).mono ?_; rintro e w' ⟨rfl, rfl⟩)
    all_goals go_ret2
    all_goals exact unByte_no hno.out 0
  have h1b : (((s[0]'hs).toNat : Int) == 34) = false := by rw [beq_eq_false_iff_ne]; exact h1
  by_cases h3 : ((s[0]'hs).toNat : Int) = 92
  · have h2 : printB 92 = true := by decide
    have e0 := Lib.hid (show s[0]'hs = 92 from byteEq (n := 92) h3 (by decide))
    have noP : Hid (∀ c : UInt8, c ≠ 34 → c ≠ 92 → printB c.toNat = true → ∀ r, s.data.toList ≠ c :: r) := Lib.hid (by
      intro c _ h _ r
      rw [E1.out, e0.out]; simp; intro e; exact absurd e.symm h)
    by_cases h4 : 2 ≤ s.size
    · obtain ⟨r2, e2⟩ := l2 h4
      have E2 := Lib.hid e2
      clear e2
      by_cases h5 : ((s[1]'h4).toNat : Int) = 34
      · have hy := Lib.hid (show s.data.toList = qByte 34 ++ r2 by rw [E2.out, e0.out, show s[1]'h4 = 34 from byteEq (n := 34) h5 (by decide)]; rfl)
        go_enter Tryd.func44, Tryd.ntmps44
        go_wp2_with (go_at_call 55; refine (isPrintable_any _ _).mono ?_; rintro e w' ⟨rfl, rfl⟩)
        all_goals go_ret2
        all_goals exact unByte_yes (c := 34) (m := 2) hy.out rfl 0
      by_cases h6 : ((s[1]'h4).toNat : Int) = 92
      · have hy := Lib.hid (show s.data.toList = qByte 92 ++ r2 by rw [E2.out, e0.out, show s[1]'h4 = 92 from byteEq (n := 92) h6 (by decide)]; rfl)
        go_enter Tryd.func44, Tryd.ntmps44
        go_wp2_with (go_at_call 55; refine (isPrintable_any _ _).mono ?_; rintro e w' ⟨rfl, rfl⟩)
        all_goals go_ret2
        all_goals exact unByte_yes (c := 92) (m := 2) hy.out rfl 0
      have noE : Hid (∀ c : UInt8, c = 34 ∨ c = 92 → ∀ r, s.data.toList ≠ 92 :: c :: r) := Lib.hid (by
        intro c hc r
        rw [E2.out]; simp; intro _ e
        rcases hc with rfl | rfl
        · exact absurd (show ((s[1]'h4).toNat : Int) = 34 by rw [e]; rfl) h5
        · exact absurd (show ((s[1]'h4).toNat : Int) = 92 by rw [e]; rfl) h6)
      have h5b : (((s[1]'h4).toNat : Int) == 34) = false := by rw [beq_eq_false_iff_ne]; exact h5
      have h6b : (((s[1]'h4).toNat : Int) == 92) = false := by rw [beq_eq_false_iff_ne]; exact h6
      by_cases h7 : 4 ≤ s.size
      · obtain ⟨r4, e4⟩ := l4 h7
        have E4 := Lib.hid e4
        clear e4
        have i2 : (2 : Int) < (s.size : Int) := by omega
        have i3 : (3 : Int) < (s.size : Int) := by omega
        by_cases h8 : ((s[1]'h4).toNat : Int) = 120
        · by_cases hx : ∃ c : UInt8, qByte c = [(92 : UInt8), 120, (s[2]'(by omega) : UInt8), (s[3]'h7 : UInt8)]
          · obtain ⟨c, hx⟩ := hx
            have hy := Lib.hid (show s.data.toList = qByte c ++ r4 by rw [E4.out, e0.out, hx, show s[1]'(by omega) = 120 from byteEq (n := 120) h8 (by decide)]; rfl)
            have HX := Lib.hid hx
            clear hx
            go_enter Tryd.func44, Tryd.ntmps44
            go_wp2_with (go_at_call 55; refine (isPrintable_any _ _).mono ?_; rintro e w' ⟨rfl, rfl⟩)
            go_quiet ((go_at_call 57; exact Calls.quiet_of_same (unHex_yes HX.out _)))
            go_wp2
            go_ret2
            exact unByte_yes (c := c) (m := 4) hy.out (by rw [HX.out]; rfl) _
          · have hno : Hid (∀ c : UInt8, qByte c ≠ [(92 : UInt8), 120, (s[2]'(by omega) : UInt8), (s[3]'h7 : UInt8)]) := Lib.hid fun c hc => hx ⟨c, hc⟩
            clear hx
            have hn2 := Lib.hid (show ∀ (c : UInt8) (r : List UInt8), s.data.toList ≠ qByte c ++ r from no_q noE.out noP.out (by
              intro c a b hc r
              rw [E4.out]; simp; intro _ _ ea eb
              rw [← ea, ← eb] at hc
              exact absurd hc (hno.out c)))
            go_enter Tryd.func44, Tryd.ntmps44
            go_wp2_with (go_at_call 55; refine (isPrintable_any _ _).mono ?_; rintro e w' ⟨rfl, rfl⟩)
            go_quiet ((go_at_call 57; exact Calls.quiet_of_same (unHex_none hno.out _)))
            go_wp2
            go_ret2
            exact unByte_no hn2.out _
        · have h8b : (((s[1]'h4).toNat : Int) == 120) = false := by rw [beq_eq_false_iff_ne]; exact h8
          have hn2 := Lib.hid (show ∀ (c : UInt8) (r : List UInt8), s.data.toList ≠ qByte c ++ r from no_q noE.out noP.out (by
            intro c a b _ r
            rw [E4.out]; simp; intro _ e
            exact absurd (show ((s[1]'h4).toNat : Int) = 120 by rw [e]; rfl) h8))
          go_enter Tryd.func44, Tryd.ntmps44
          go_wp2_with (go_at_call 55; refine (isPrintable_any _ _).mono ?_; rintro e w' ⟨rfl, rfl⟩)
          all_goals go_ret2
          all_goals exact unByte_no hn2.out 0
      · have hn2 := Lib.hid (show ∀ (c : UInt8) (r : List UInt8), s.data.toList ≠ qByte c ++ r from no_q noE.out noP.out (by
          intro c a b _ r e
          have := congrArg List.length e
          rw [hsl.out] at this; simp at this; omega))
        go_enter Tryd.func44, Tryd.ntmps44
        go_wp2_with (go_at_call 55; refine (isPrintable_any _ _).mono ?_; rintro e w' ⟨rfl, rfl⟩)
        all_goals go_ret2
        all_goals exact unByte_no hn2.out 0
    · have hn2 := Lib.hid (show ∀ (c : UInt8) (r : List UInt8), s.data.toList ≠ qByte c ++ r from no_q (by
          intro c _ r e
          have := congrArg List.length e
          rw [hsl.out] at this; simp at this; omega) noP.out (by
          intro c a b _ r e
          have := congrArg List.length e
          rw [hsl.out] at this; simp at this; omega))
      go_enter Tryd.func44, Tryd.ntmps44
      go_wp2_with (go_at_call 55; refine (isPrintable_any _ _).mono ?_; rintro e w' ⟨rfl, rfl⟩)
      all_goals go_ret2
      all_goals exact unByte_no hn2.out 0
  have h3b : (((s[0]'hs).toNat : Int) == 92) = false := by rw [beq_eq_false_iff_ne]; exact h3
  cases h2 : printB (s[0]'hs).toNat
  · have hn2 := Lib.hid (show ∀ (c : UInt8) (r : List UInt8), s.data.toList ≠ qByte c ++ r from no_q (by
        intro c _ r; rw [E1.out]; simp; intro e; exact absurd (show ((s[0]'hs).toNat : Int) = 92 by rw [e]; rfl) h3) (by
        intro c _ _ hp r; rw [E1.out]; simp; intro e; rw [e, hp] at h2; cases h2) (by
        intro c _ _ _ r; rw [E1.out]; simp; intro e; exact absurd (show ((s[0]'hs).toNat : Int) = 92 by rw [e]; rfl) h3))
    go_enter Tryd.func44, Tryd.ntmps44
    go_wp2_with (go_at_call 55; refine (isPrintable_any _ _).mono ?_; rintro e w' ⟨rfl, rfl⟩)
    all_goals go_ret2
    all_goals exact unByte_no hn2.out 0
  · have hq := Lib.hid (qByte_plain h2 h1b h3b)
    have hy := Lib.hid (show s.data.toList = qByte (s[0]'hs) ++ r1 by rw [hq.out, E1.out]; rfl)
    go_enter Tryd.func44, Tryd.ntmps44
    go_wp2_with (go_at_call 55; refine (isPrintable_any _ _).mono ?_; rintro e w' ⟨rfl, rfl⟩)
    all_goals go_ret2
    all_goals exact unByte_yes (c := s[0]'hs) (m := 1) hy.out (by rw [hq.out]; rfl) 0
end Go.Proofs.YtjinngobiefifaaDoor
