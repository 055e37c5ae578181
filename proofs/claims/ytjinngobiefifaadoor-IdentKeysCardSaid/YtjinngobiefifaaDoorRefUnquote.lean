/- What the document's Unquote returns. Condition: the string has at most 2^45 - 2 bytes. -/
import Derived.Test.YtjinngobiefifaaDoorRefQuote
import Derived.Test.YtjinngobiefifaaDoorUnByte
namespace Go.Proofs.YtjinngobiefifaaDoor
open Go.RowKit
def nib (c : Int) : Int := if digB c then c - 48 else if 97 ≤ c ∧ c ≤ 102 then c - 87 else -1
set_option maxHeartbeats 800000 in
theorem nibble_any (c : UInt8) (w : World) : Calls Tryd.prog 45 #[.int .u8 c.toNat] w fun e w' => e = .returned (.int .i64 (nib c.toNat)) ∧ w = w' := by
  have hc := c.toNat_lt
  cases hd : digB c.toNat
  · by_cases h1 : 97 ≤ (c.toNat : Int) ∧ (c.toNat : Int) ≤ 102
    · have hn := Lib.hid (show nib c.toNat = (c.toNat : Int) - 87 by simp [nib, hd, h1])
      obtain ⟨h1, h2⟩ := h1
      go_enter Tryd.func45, Tryd.ntmps45
      go_wp2_with (go_at_call 33; refine (digit_any _ _).mono ?_; rintro e w' ⟨rfl, rfl⟩)
      go_ret
      exact ⟨ret_int (by rw [hn.out]; omega), rfl⟩
    · have hn := Lib.hid (show nib c.toNat = -1 by simp [nib, hd]; omega)
      by_cases h2 : 97 ≤ (c.toNat : Int)
      all_goals
        go_enter Tryd.func45, Tryd.ntmps45
        go_wp2_with (go_at_call 33; refine (digit_any _ _).mono ?_; rintro e w' ⟨rfl, rfl⟩)
        go_ret
        exact ⟨ret_int (by rw [hn.out]), rfl⟩
  · have hn := Lib.hid (show nib c.toNat = (c.toNat : Int) - 48 by simp only [nib, hd]; rfl)
    have hd' : 48 ≤ (c.toNat : Int) ∧ (c.toNat : Int) ≤ 57 := by simpa [digB] using hd
    obtain ⟨h1, h2⟩ := hd'
    go_enter Tryd.func45, Tryd.ntmps45
    go_wp2_with (go_at_call 33; refine (digit_any _ _).mono ?_; rintro e w' ⟨rfl, rfl⟩)
    go_ret
    exact ⟨ret_int (by rw [hn.out]), rfl⟩
theorem nib_hexD (n : Nat) (h : n < 16) : nib (hexD n).toNat = n := by
  have key : ∀ n : Fin 16, nib ((hexD n.1).toNat : Int) = ((n.1 : Nat) : Int) := by decide
  exact key ⟨n, h⟩
theorem nib_lt (c : Int) : nib c < 16 := by
  unfold nib digB; split
  · simp_all; omega
  · split <;> omega
/-- what is read of l up to i, if l is a notation -/
def Inv (l : List UInt8) (i : Nat) (acc : List UInt8) : Prop := ∀ t, quoteL t = l → ∃ u, t = acc ++ u ∧ l.drop i = u.flatMap qByte ++ [34]
theorem inv_start (l : List UInt8) : Inv l 1 [] := by
  intro t h
  subst h
  exact ⟨t, rfl, rfl⟩
theorem inv_next {l : List UInt8} {i : Nat} {acc t : List UInt8} (h : Inv l i acc) (ht : quoteL t = l) (hi : i + 1 < l.length) : ∃ c u, t = acc ++ c :: u ∧ l.drop i = qByte c ++ (u.flatMap qByte ++ [34]) := by
  obtain ⟨u, h1, h2⟩ := h t ht
  cases u with
  | nil =>
    have := congrArg List.length h2
    simp at this; omega
  | cons c u => exact ⟨c, u, h1, by rw [h2]; simp⟩
theorem drop_get {l : List UInt8} {i : Nat} {a : UInt8} {x : List UInt8} (h : l.drop i = a :: x) (hi : i < l.length) : l[i] = a ∧ l.drop (i + 1) = x := by
  rw [List.drop_eq_getElem_cons hi] at h
  injection h with h1 h2
  exact ⟨h1, h2⟩
theorem inv_plain {l : List UInt8} {i : Nat} {acc : List UInt8} (h : Inv l i acc) (hi : i + 1 < l.length) (hne : l[i] ≠ 92) : Inv l (i + 1) (acc ++ [l[i]]) := by
  intro t ht
  obtain ⟨c, u, h1, h2⟩ := inv_next h ht hi
  rcases qByte_cases c with ⟨e, _⟩ | ⟨e, _⟩ | ⟨e, _⟩
  · rw [e] at h2; exact absurd (drop_get h2 (by omega)).1 hne
  · rw [e] at h2
    obtain ⟨h3, h4⟩ := drop_get h2 (by omega)
    exact ⟨u, by rw [h1, h3]; simp, h4⟩
  · rw [e] at h2; exact absurd (drop_get h2 (by omega)).1 hne
theorem inv_hex {l : List UInt8} {i : Nat} {acc : List UInt8} (h : Inv l i acc) (hi : i + 4 < l.length) (h0 : l[i] = 92) (h1 : l[i + 1] = 120) (b : UInt8)
    (hb : (b.toNat : Int) = 16 * nib (l[i + 2]).toNat + nib (l[i + 3]).toNat) : Inv l (i + 4) (acc ++ [b]) := by
  intro t ht
  obtain ⟨c, u, e1, e2⟩ := inv_next h ht (by omega)
  rcases qByte_cases c with ⟨e, hc⟩ | ⟨e, hc1, hc2, _⟩ | ⟨e, _⟩
  · rw [e] at e2
    have h3 := (drop_get (drop_get e2 (by omega)).2 (by omega)).1
    rw [h1] at h3
    rcases hc with rfl | rfl <;> exact absurd h3 (by decide)
  · rw [e] at e2
    have h3 := (drop_get e2 (by omega)).1
    rw [h0] at h3
    exact absurd h3.symm hc2
  · rw [e] at e2
    have h3 := (drop_get (drop_get e2 (by omega)).2 (by omega)).2
    obtain ⟨h4, h5⟩ := drop_get h3 (by omega)
    obtain ⟨h6, h7⟩ := drop_get h5 (by omega)
    have h4' : l[i + 2] = hexD (c.toNat / 16) := h4
    have h6' : l[i + 3] = hexD (c.toNat % 16) := h6
    have hc := c.toNat_lt
    rw [h4', h6', nib_hexD _ (by omega), nib_hexD _ (by omega)] at hb
    have : b = c := UInt8.toNat_inj.1 (by omega)
    subst this
    exact ⟨u, by rw [e1]; simp, h7⟩
theorem inv_esc {l : List UInt8} {i : Nat} {acc : List UInt8} (h : Inv l i acc) (hi : i + 1 < l.length) (h0 : l[i] = 92)
    (hno : ¬ ∃ h4 : i + 4 < l.length, l[i + 1] = 120 ∧ 0 ≤ nib (l[i + 2]'(by omega)).toNat ∧ 0 ≤ nib (l[i + 3]'(by omega)).toNat) : Inv l (i + 2) (acc ++ [l[i + 1]]) := by
  intro t ht
  obtain ⟨c, u, e1, e2⟩ := inv_next h ht hi
  rcases qByte_cases c with ⟨e, hc⟩ | ⟨e, hc1, hc2, _⟩ | ⟨e, _⟩
  · rw [e] at e2
    obtain ⟨h3, h4⟩ := drop_get (drop_get e2 (by omega)).2 (by omega)
    exact ⟨u, by rw [e1, h3]; simp, h4⟩
  · rw [e] at e2
    have h3 := (drop_get e2 (by omega)).1
    rw [h0] at h3
    exact absurd h3.symm hc2
  · refine absurd ?_ hno
    rw [e] at e2
    have hl := congrArg List.length e2
    simp only [List.length_drop, List.length_append, List.length_cons, List.length_nil] at hl
    have h2 := drop_get (drop_get e2 (by omega)).2 (by omega)
    obtain ⟨h4, h5⟩ := drop_get h2.2 (by omega)
    obtain ⟨h6, h7⟩ := drop_get h5 (by omega)
    have h4' : l[i + 2]'(by omega) = hexD (c.toNat / 16) := h4
    have h6' : l[i + 3]'(by omega) = hexD (c.toNat % 16) := h6
    have hc := c.toNat_lt
    exact ⟨by omega, h2.1, by rw [h4', nib_hexD _ (by omega)]; omega, by rw [h6', nib_hexD _ (by omega)]; omega⟩
theorem inv_end {l : List UInt8} {i : Nat} {acc t : List UInt8} (h : Inv l i acc) (hi : l.length ≤ i + 1) (ht : quoteL t = l) : t = acc := by
  obtain ⟨u, h1, h2⟩ := h t ht
  cases u with
  | nil => simpa using h1
  | cons c u =>
    have h3 := congrArg List.length h2
    have h4 := qByte_pos c
    simp only [List.length_drop, List.flatMap_cons, List.length_append, List.length_cons, List.length_nil] at h3
    omega
/-- what the document's Unquote returns for the bytes l -/
def UnR (l : List UInt8) (w : World) (e : Ending) (w' : World) : Prop :=
  Below w.heap.size w w' ∧ ((∃ t : List UInt8, quoteL t = l ∧ e = .returned (.tuple #[.string ⟨t.toArray⟩, .bool true])) ∨ ((∀ t : List UInt8, quoteL t ≠ l) ∧ e = .returned (.tuple #[.string ⟨#[]⟩, .bool false])))
theorem OwnB.old {w w' : World} {B : Nat} {v : Value} {l : List UInt8} (h : OwnB w B v l) (hb : Below w.heap.size w w') : OwnB w' B v l :=
  World.ownsRow.kept (row := none) h ⟨hb.os, hb.tape, hb.output, hb.size, fun k hk _ => hb.block k hk⟩ (by cases hv : v.ownBlock <;> simp)
set_option maxRecDepth 100000 in
set_option maxHeartbeats 3200000 in
theorem refUnquote_any (s : ByteArray) (w : World) (hs : s.size ≤ 35184372088830) : Calls Tryd.prog 22 #[.string s] w (UnR s.data.toList w) := by
  have hsl : s.data.toList.length = s.size := sizeList s
  have HSL := Lib.hid hsl
  clear hsl
  go_enter Tryd.func22, Tryd.ntmps22
  go_wp2_with fail
  go_loopw [4, 5] (fun v i wr => ∃ (k : Nat) (acc : List UInt8), i = .int .i64 k ∧ 1 ≤ k ∧ k ≤ s.size + 1 ∧ acc.length + 1 ≤ k ∧ OwnB wr w.heap.size v acc ∧ Inv s.data.toList k acc ∧ Below w.heap.size w wr) (fun _ i _ => s.size + 8 - (intOf i).toNat)
  case atStart => exact ⟨1, [], rfl, by omega, by omega, by simp, World.ownsRow_nil _ _ _ _, inv_start _, Below.refl _ _⟩
  case round =>
    obtain ⟨k, acc, rfl, hk1, hk2, hal, hB, hinv, hb⟩ := hrel
    have hsr := hb.size
    by_cases hlt : k + 1 < s.size
    · by_cases h0 : ((s[k]'(by omega)).toNat : Int) = 92
      · by_cases h1 : k + 4 < s.size
        · by_cases h2 : ((s[k + 1]'(by omega)).toNat : Int) = 120
          · by_cases h3 : 0 ≤ nib (s[k + 2]'(by omega)).toNat
            · by_cases h4 : 0 ≤ nib (s[k + 3]'(by omega)).toNat
              · go_wp2_with (go_at_call 45; refine (nibble_any _ _).mono ?_; rintro e w' ⟨rfl, rfl⟩)
                have n1 := nib_lt (s[k + 2]'(by omega)).toNat
                have n2 := nib_lt (s[k + 3]'(by omega)).toNat
                have e1 : IntKind.i64.wrap ((k : Int) + 2) = (k : Int) + 2 := IntWalk.i64_in _ (by omega)
                have e2 : IntKind.i64.wrap ((k : Int) + 3) = (k : Int) + 3 := IntWalk.i64_in _ (by omega)
                have e3 : 0 ≤ (k : Int) + 2 ∧ (k : Int) + 2 < s.size := by omega
                have e4 : 0 ≤ (k : Int) + 3 ∧ (k : Int) + 3 < s.size := by omega
                have e5 : ((k : Int) + 2).toNat = k + 2 := by omega
                have e6 : ((k : Int) + 3).toNat = k + 3 := by omega
                have e7 : IntKind.i64.wrap (16 * nib (s[k + 2]'(by omega)).toNat) = 16 * nib (s[k + 2]'(by omega)).toNat := IntWalk.i64_in _ (by omega)
                have e8 : IntKind.i64.wrap (16 * nib (s[k + 2]'(by omega)).toNat + nib (s[k + 3]'(by omega)).toNat) = 16 * nib (s[k + 2]'(by omega)).toNat + nib (s[k + 3]'(by omega)).toNat := IntWalk.i64_in _ (by omega)
                have e9 : IntKind.u8.wrap (16 * nib (s[k + 2]'(by omega)).toNat + nib (s[k + 3]'(by omega)).toNat) = 16 * nib (s[k + 2]'(by omega)).toNat + nib (s[k + 3]'(by omega)).toNat := by rw [show ∀ x : Int, IntKind.u8.wrap x = x % 256 from fun x => rfl]; omega
                obtain ⟨bb, hbb⟩ : ∃ bb : UInt8, (bb.toNat : Int) = 16 * nib (s[k + 2]'(by omega)).toNat + nib (s[k + 3]'(by omega)).toNat :=
                  ⟨UInt8.ofNat (16 * nib (s[k + 2]'(by omega)).toNat + nib (s[k + 3]'(by omega)).toNat).toNat, by simp; omega⟩
                have HBB := Lib.hid hbb
                clear hbb
                go_region_law (first | (refine step_app_u8 rfl _ _ rfl w.heap.size _ _ rfl hB [bb] 1 1 rfl (by decide) _ (by rw [show Lib.byteCells [bb] = [.int .u8 (bb.toNat : Int)] from rfl, HBB.out]) rfl (by omega) hsr ?_; intro v' w1 hown' hbl) | (go_simp; go_at_call 45; refine (nibble_any _ _).mono ?_; rintro e w' ⟨rfl, rfl⟩))
                all_goals
                  go_wp2
                  go_roundw
                  case rel => exact ⟨k + 4, _, by go_num, by omega, by omega, by simp; omega, hown', inv_hex hinv (by rw [HSL.out]; omega) (byteEq (n := 92) h0 (by decide)) (byteEq (n := 120) h2 (by decide)) bb HBB.out, hb.trans hbl⟩
                  case measure => simp [intOf]; omega
              · have h4b : nib (s[k + 3]'(by omega)).toNat < 0 := by omega
                have hno : Hid (¬ ∃ h4 : k + 4 < s.data.toList.length, (s.data.toList[k + 1]'(by omega)) = 120 ∧ 0 ≤ nib (s.data.toList[k + 2]'(by omega)).toNat ∧ 0 ≤ nib (s.data.toList[k + 3]'(by omega)).toNat) := Lib.hid (by
                  rintro ⟨x4, x1, x2, x3⟩
                  exact h4 x3)
                go_wp2_with (first | (go_at_call 45; refine (nibble_any _ _).mono ?_; rintro e w' ⟨rfl, rfl⟩) | (at_builtin; (refine wp_app_u8 rfl _ _ rfl w.heap.size _ _ rfl hB [120] 1 1 rfl _ rfl rfl (by omega) hsr ?_); intro v' w1 hown' hbl; refine Hid.out ?_))
                refine Lib.hid ?_
                go_wp2
                go_roundw
                case rel => exact ⟨k + 2, _, by go_num, by omega, by omega, by simp; omega, hown', (by have hx := inv_esc hinv (by rw [HSL.out]; omega) (byteEq (n := 92) h0 (by decide)) hno.out; rwa [show s.data.toList[k + 1]'(by rw [HSL.out]; omega) = 120 from byteEq (n := 120) h2 (by decide)] at hx), hb.trans hbl⟩
                case measure => simp [intOf]; omega
            · have h3b : nib (s[k + 2]'(by omega)).toNat < 0 := by omega
              have hno : Hid (¬ ∃ h4 : k + 4 < s.data.toList.length, (s.data.toList[k + 1]'(by omega)) = 120 ∧ 0 ≤ nib (s.data.toList[k + 2]'(by omega)).toNat ∧ 0 ≤ nib (s.data.toList[k + 3]'(by omega)).toNat) := Lib.hid (by
                rintro ⟨x4, x1, x2, x3⟩
                exact h3 x2)
              go_wp2_with (first | (go_at_call 45; refine (nibble_any _ _).mono ?_; rintro e w' ⟨rfl, rfl⟩) | (at_builtin; (refine wp_app_u8 rfl _ _ rfl w.heap.size _ _ rfl hB [120] 1 1 rfl _ rfl rfl (by omega) hsr ?_); intro v' w1 hown' hbl; refine Hid.out ?_))
              refine Lib.hid ?_
              go_wp2
              go_roundw
              case rel => exact ⟨k + 2, _, by go_num, by omega, by omega, by simp; omega, hown', (by have hx := inv_esc hinv (by rw [HSL.out]; omega) (byteEq (n := 92) h0 (by decide)) hno.out; rwa [show s.data.toList[k + 1]'(by rw [HSL.out]; omega) = 120 from byteEq (n := 120) h2 (by decide)] at hx), hb.trans hbl⟩
              case measure => simp [intOf]; omega
          · have h2b : (((s[k + 1]'(by omega)).toNat : Int) == 120) = false := by rw [beq_eq_false_iff_ne]; exact h2
            have hno : Hid (¬ ∃ h4 : k + 4 < s.data.toList.length, (s.data.toList[k + 1]'(by omega)) = 120 ∧ 0 ≤ nib (s.data.toList[k + 2]'(by omega)).toNat ∧ 0 ≤ nib (s.data.toList[k + 3]'(by omega)).toNat) := Lib.hid (by
              rintro ⟨x4, x1, x2, x3⟩
              exact h2 (by rw [show s[k + 1]'hlt = (120 : UInt8) from x1]; rfl))
            go_wp2_with (first | (go_at_call 45; refine (nibble_any _ _).mono ?_; rintro e w' ⟨rfl, rfl⟩) | (at_builtin; (refine wp_app_u8 rfl _ _ rfl w.heap.size _ _ rfl hB [s[k + 1]'hlt] 1 1 rfl _ rfl rfl (by omega) hsr ?_); intro v' w1 hown' hbl; refine Hid.out ?_))
            refine Lib.hid ?_
            go_wp2
            go_roundw
            case rel => exact ⟨k + 2, _, by go_num, by omega, by omega, by simp; omega, hown', inv_esc hinv (by rw [HSL.out]; omega) (byteEq (n := 92) h0 (by decide)) hno.out, hb.trans hbl⟩
            case measure => simp [intOf]; omega
        · have hno : Hid (¬ ∃ h4 : k + 4 < s.data.toList.length, (s.data.toList[k + 1]'(by omega)) = 120 ∧ 0 ≤ nib (s.data.toList[k + 2]'(by omega)).toNat ∧ 0 ≤ nib (s.data.toList[k + 3]'(by omega)).toNat) := Lib.hid (by
            rintro ⟨x4, x1, x2, x3⟩
            exact h1 (by rw [HSL.out] at x4; exact x4))
          go_wp2_with (first | (go_at_call 45; refine (nibble_any _ _).mono ?_; rintro e w' ⟨rfl, rfl⟩) | (at_builtin; (refine wp_app_u8 rfl _ _ rfl w.heap.size _ _ rfl hB [s[k + 1]'hlt] 1 1 rfl _ rfl rfl (by omega) hsr ?_); intro v' w1 hown' hbl; refine Hid.out ?_))
          refine Lib.hid ?_
          go_wp2
          go_roundw
          case rel => exact ⟨k + 2, _, by go_num, by omega, by omega, by simp; omega, hown', inv_esc hinv (by rw [HSL.out]; omega) (byteEq (n := 92) h0 (by decide)) hno.out, hb.trans hbl⟩
          case measure => simp [intOf]; omega
      · have h0b : (((s[k]'(by omega)).toNat : Int) != 92) = true := by rw [bne_iff_ne]; exact h0
        go_wp2_with (at_builtin; refine wp_app_u8 rfl _ _ rfl w.heap.size _ _ rfl hB [s[k]'(by omega)] 1 1 rfl _ rfl rfl (by omega) hsr ?_; intro v' w1 hown' hbl; refine Hid.out ?_)
        refine Lib.hid ?_
        go_wp2
        go_roundw
        case rel => exact ⟨k + 1, _, by go_num, by omega, by omega, by simp; omega, hown', inv_plain hinv (by rw [HSL.out]; omega) (fun e => h0 (by rw [show s[k]'(by omega) = (92 : UInt8) from e]; rfl)), hb.trans hbl⟩
        case measure => simp [intOf]; omega
    · have hstr := hB.str
      have hsz : (⟨acc.toArray⟩ : ByteArray).size ≤ 35184372088830 := by show acc.length ≤ 35184372088830; omega
      go_wp2_with fail
      refine (refQuote_any _ _ hsz).mono ?_
      rintro e w1 ⟨rfl, hb1⟩
      by_cases hq : quoteL acc = s.data.toList
      · have q1 : (quoteL acc == s.toList) = true := by rw [Lib.toList_data, beq_iff_eq]; exact hq
        have q2 : (!(quoteL acc == s.toList)) = false := by rw [q1]; rfl
        have HQ := Lib.hid hq
        clear hq hstr
        have hstr2 := (hB.old hb1).str
        go_wp2
        go_ret2
        exact ⟨hb.trans (hb1.mono hsr), .inl ⟨acc, HQ.out, rfl⟩⟩
      · have hn := Lib.hid (show ∀ t : List UInt8, quoteL t ≠ s.data.toList by
          intro t ht
          have := inv_end hinv (by rw [HSL.out]; omega) ht
          subst this
          exact hq ht)
        have q1 : (quoteL acc == s.toList) = false := by rw [Lib.toList_data, beq_eq_false_iff_ne]; exact hq
        have q2 : (!(quoteL acc == s.toList)) = true := by rw [q1]; rfl
        clear hq
        go_wp2
        go_ret2
        exact ⟨hb.trans (hb1.mono hsr), .inr ⟨hn.out, rfl⟩⟩
end Go.Proofs.YtjinngobiefifaaDoor
