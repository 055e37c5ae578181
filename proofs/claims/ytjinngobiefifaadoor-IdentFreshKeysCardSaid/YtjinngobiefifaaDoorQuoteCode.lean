/- Quote's representations of bytes are a prefix code: plain facts. -/
import Derived.Test.YtjinngobiefifaaDoorQuote
namespace Go.Proofs.YtjinngobiefifaaDoor
open Go.RowKit
theorem qByte_pos (c : UInt8) : 1 ≤ (qByte c).length := by
  unfold qByte; split
  · simp
  · split <;> simp
theorem hexD_inj : ∀ a b : Fin 16, hexD a.1 = hexD b.1 → a = b := by decide
theorem hexD_inj' {a b : Nat} (ha : a < 16) (hb : b < 16) (h : hexD a = hexD b) : a = b := by
  have := hexD_inj ⟨a, ha⟩ ⟨b, hb⟩ h
  exact congrArg Fin.val this
/-- the kinds of representations: escaped by a backslash, itself, or two digits -/
theorem qByte_cases (c : UInt8) : (qByte c = [92, c] ∧ (c = 34 ∨ c = 92)) ∨ (qByte c = [c] ∧ c ≠ 34 ∧ c ≠ 92 ∧ printB c.toNat = true) ∨ (qByte c = [92, 120, hexD (c.toNat / 16), hexD (c.toNat % 16)] ∧ printB c.toNat = false) := by
  by_cases h : c = 34 ∨ c = 92
  · exact .inl ⟨by unfold qByte; rw [if_pos h], h⟩
  · rw [not_or] at h
    have h1 : ((c.toNat : Int) == 34) = false := by
      rw [beq_eq_false_iff_ne]; intro e; exact h.1 (UInt8.toNat_inj.1 (by have : (34 : UInt8).toNat = 34 := rfl; omega))
    have h2 : ((c.toNat : Int) == 92) = false := by
      rw [beq_eq_false_iff_ne]; intro e; exact h.2 (UInt8.toNat_inj.1 (by have : (92 : UInt8).toNat = 92 := rfl; omega))
    cases hp : printB c.toNat
    · exact .inr (.inr ⟨qByte_esc hp h1 h2, rfl⟩)
    · exact .inr (.inl ⟨qByte_plain hp h1 h2, h.1, h.2, rfl⟩)
/-- no representation begins another one -/
theorem qByte_prefix {a b : UInt8} {x y : List UInt8} (h : qByte a ++ x = qByte b ++ y) : a = b ∧ x = y := by
  rcases qByte_cases a with ⟨ea, ha⟩ | ⟨ea, ha1, ha2, ha3⟩ | ⟨ea, ha⟩ <;> rcases qByte_cases b with ⟨eb, hb⟩ | ⟨eb, hb1, hb2, hb3⟩ | ⟨eb, hb⟩ <;>
    rw [ea, eb] at h <;> simp only [List.cons_append, List.nil_append, List.cons.injEq, true_and] at h
  · exact h
  · exact absurd h.1.symm hb2
  · rcases ha with rfl | rfl <;> exact absurd h.1 (by decide)
  · exact absurd h.1 ha2
  · exact h
  · exact absurd h.1 ha2
  · rcases hb with rfl | rfl <;> exact absurd h.1 (by decide)
  · exact absurd h.1.symm hb2
  · have h1 := hexD_inj' (by have := a.toNat_lt; omega) (by have := b.toNat_lt; omega) h.1
    have h2 := hexD_inj' (by omega) (by omega) h.2.1
    exact ⟨UInt8.toNat_inj.1 (by omega), h.2.2⟩
theorem flat_prefix : ∀ {a b : List UInt8} {x : List UInt8}, a.flatMap qByte ++ x = b.flatMap qByte → ∃ c, b = a ++ c ∧ x = c.flatMap qByte
  | [], b, x, h => ⟨b, rfl, by simpa using h⟩
  | p :: a, [], x, h => by
    have := congrArg List.length h
    have := qByte_pos p
    simp only [List.flatMap_cons, List.length_append, List.flatMap_nil, List.length_nil] at *
    omega
  | p :: a, q :: b, x, h => by
    simp only [List.flatMap_cons, List.append_assoc] at h
    obtain ⟨rfl, h'⟩ := qByte_prefix h
    obtain ⟨c, rfl, hx⟩ := flat_prefix h'
    exact ⟨c, rfl, hx⟩
theorem flat_inj {a b : List UInt8} (h : a.flatMap qByte = b.flatMap qByte) : a = b := by
  obtain ⟨c, rfl, hx⟩ := flat_prefix (x := []) (by simpa using h)
  cases c with
  | nil => simp
  | cons p c =>
    have := congrArg List.length hx
    have := qByte_pos p
    simp only [List.flatMap_cons, List.length_append, List.length_nil] at *
    omega
theorem quoteL_inj {a b : List UInt8} (h : quoteL a = quoteL b) : a = b := by
  unfold quoteL at h
  simp only [List.cons.injEq, true_and] at h
  exact flat_inj (List.append_cancel_right h)
end Go.Proofs.YtjinngobiefifaaDoor
