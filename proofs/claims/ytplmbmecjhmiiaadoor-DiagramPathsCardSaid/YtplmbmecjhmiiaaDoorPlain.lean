/- Plain facts on names, for layer 1 (ident): which lists of bytes are names of atoms and of type variables. No program is imported. -/
import Derived.WalkKit
import Derived.Lib.Hide
namespace Go.Proofs.YtplmbmecjhmiiaaDoor
open Go Go.RowKit
def lowB (c : Int) : Bool := decide (97 ≤ c) && decide (c ≤ 122)
def digB (c : Int) : Bool := decide (48 ≤ c) && decide (c ≤ 57)
def upB (c : Int) : Bool := decide (65 ≤ c) && decide (c ≤ 90)
def atomT (c : Int) : Bool := lowB c || digB c || c == 95
def varT (c : Int) : Bool := lowB c || upB c || digB c || c == 95
def nameB (first tail : Int → Bool) (l : List UInt8) : Bool :=
  decide (1 ≤ l.length) && decide (l.length ≤ 16) && first (l.headD 0).toNat && (l.drop 1).all (fun c => tail c.toNat)
def atomB (l : List UInt8) : Bool := nameB lowB atomT l
def varB (l : List UInt8) : Bool := nameB upB varT l
/-- a key is valid: kind 0 with the name of an atom, kind 1 with at most 65535 bytes -/
def keyB (k : Int) (l : List UInt8) : Bool := if k = 0 then atomB l else if k = 1 then decide (l.length ≤ 64) else false
theorem ret_bool {a b : Bool} (h : a = b) : Ending.returned (.bool a) = .returned (.bool b) := by rw [h]
theorem ret_int {k : IntKind} {a b : Int} (h : a = b) : Ending.returned (.int k a) = .returned (.int k b) := by rw [h]
theorem all_drop1 (p : UInt8 → Bool) (l : List UInt8) : (l.drop 1).all p = true ↔ ∀ j (h : j < l.length), 1 ≤ j → p l[j] = true := by
  cases l with
  | nil => simp
  | cons a r =>
    simp only [List.drop_succ_cons, List.drop_zero, List.all_eq_true]
    constructor
    · intro h j hj h1
      obtain ⟨j', rfl⟩ : ∃ j', j = j' + 1 := ⟨j - 1, by omega⟩
      simp only [List.getElem_cons_succ]
      exact h _ (List.getElem_mem _)
    · intro h x hx
      obtain ⟨i, hi, rfl⟩ := List.getElem_of_mem hx
      have := h (i + 1) (by simp; omega) (by omega)
      simpa using this
theorem nameB_true (f t : Int → Bool) (s : ByteArray) (h1 : 0 < s.size) (h2 : s.size ≤ 16) (hf : f (s[0]'h1).toNat = true)
    (ht : ∀ j (h : j < s.size), 1 ≤ j → t (s[j]'h).toNat = true) : nameB f t s.data.toList = true := by
  obtain ⟨⟨l⟩⟩ := s
  have e : (⟨⟨l⟩⟩ : ByteArray).size = l.length := rfl
  simp only [e] at h1 h2
  have ht' : ∀ j (h : j < l.length), 1 ≤ j → t (l[j]'h).toNat = true := fun j h h1 => ht j h h1
  have hf' : f (l[0]'h1).toNat = true := hf
  have hd : l.headD 0 = l[0]'h1 := by cases l with | nil => simp at h1 | cons a r => rfl
  unfold nameB
  simp only [Bool.and_eq_true, decide_eq_true_eq]
  exact ⟨⟨⟨h1, h2⟩, by rw [hd]; exact hf'⟩, (all_drop1 _ _).2 ht'⟩
theorem nameStep {t : Int → Bool} {s : ByteArray} {k : Nat} (hall : Hid (∀ j (h : j < s.size), 1 ≤ j → j < k → t (s[j]'h).toNat = true)) (hk : k < s.size) (hx : t (s[k]'hk).toNat = true) :
    ∀ j (h : j < s.size), 1 ≤ j → j < k + 1 → t (s[j]'h).toNat = true := by
  intro j h h1 h2
  by_cases e : j = k
  · subst e; exact hx
  · exact hall.out j h h1 (by omega)
theorem nameB_false (f t : Int → Bool) (s : ByteArray)
    (h : s.size < 1 ∨ 16 < s.size ∨ (∃ h : 0 < s.size, f (s[0]'h).toNat = false) ∨ (∃ j, ∃ h : j < s.size, 1 ≤ j ∧ t (s[j]'h).toNat = false)) : nameB f t s.data.toList = false := by
  obtain ⟨⟨l⟩⟩ := s
  rw [← Bool.not_eq_true]
  intro hn
  unfold nameB at hn
  simp only [Bool.and_eq_true, decide_eq_true_eq] at hn
  obtain ⟨⟨⟨h1, h2⟩, h3⟩, h4⟩ := hn
  rw [all_drop1] at h4
  have e : (⟨⟨l⟩⟩ : ByteArray).size = l.length := rfl
  rcases h with h | h | ⟨h, hf⟩ | ⟨j, h, hj, hf⟩
  · rw [e] at h; omega
  · rw [e] at h; omega
  · have hd : l.headD 0 = l[0]'h := by cases l with | nil => simp at h1 | cons a r => rfl
    rw [hd] at h3
    have : f (l[0]'h).toNat = false := hf
    rw [this] at h3; cases h3
  · have : t (l[j]'h).toNat = false := hf
    have h5 := h4 j h hj
    rw [this] at h5; cases h5
end Go.Proofs.YtplmbmecjhmiiaaDoor
