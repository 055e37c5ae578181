/- Sets of integers as lists of ranges: normal forms, their members, and that a set has one normal form. Plain mathematics. -/
import Derived.KernelRfl
namespace Go.Proofs.Ytahapkbapbgbiaa
abbrev Rg := Int × Int
def LO : Int := -9223372036854775808
def HI : Int := 9223372036854775807
def inR (r : Rg) (n : Int) : Prop := r.1 ≤ n ∧ n ≤ r.2
def hasI (l : List Rg) (n : Int) : Prop := ∃ r ∈ l, inR r n
def Fit1 (r : Rg) : Prop := LO ≤ r.1 ∧ r.1 ≤ HI ∧ LO ≤ r.2 ∧ r.2 ≤ HI
def Fit (l : List Rg) : Prop := ∀ r ∈ l, Fit1 r
/-- a normal form -/
def Nf (l : List Rg) : Prop := (∀ r ∈ l, r.1 ≤ r.2) ∧ l.Pairwise (fun a b => a.2 + 1 < b.1)
theorem hasI_nil (n : Int) : ¬ hasI [] n := by simp [hasI]
theorem hasI_cons (r : Rg) (l : List Rg) (n : Int) : hasI (r :: l) n ↔ inR r n ∨ hasI l n := by simp [hasI]
theorem hasI_append (a b : List Rg) (n : Int) : hasI (a ++ b) n ↔ hasI a n ∨ hasI b n := by
  simp only [hasI, List.mem_append]
  constructor
  · rintro ⟨r, h | h, hr⟩
    · exact .inl ⟨r, h, hr⟩
    · exact .inr ⟨r, h, hr⟩
  · rintro (⟨r, h, hr⟩ | ⟨r, h, hr⟩)
    · exact ⟨r, .inl h, hr⟩
    · exact ⟨r, .inr h, hr⟩
theorem hasI_fit {l : List Rg} (h : Fit l) {n : Int} (hn : hasI l n) : LO ≤ n ∧ n ≤ HI := by
  obtain ⟨r, hr, h1, h2⟩ := hn
  have := h r hr
  unfold Fit1 at this; omega
theorem nf_nil : Nf [] := ⟨by simp, .nil⟩
theorem nf_cons {r : Rg} {l : List Rg} : Nf (r :: l) ↔ r.1 ≤ r.2 ∧ (∀ x ∈ l, r.2 + 1 < x.1) ∧ Nf l := by
  simp only [Nf, List.mem_cons, List.pairwise_cons]
  constructor
  · rintro ⟨h1, h2, h3⟩
    exact ⟨h1 r (.inl rfl), h2, fun x hx => h1 x (.inr hx), h3⟩
  · rintro ⟨h1, h2, h3, h4⟩
    refine ⟨?_, h2, h4⟩
    rintro x (rfl | hx)
    · exact h1
    · exact h3 x hx
theorem nf_above {r : Rg} {l : List Rg} (h : Nf (r :: l)) {n : Int} (hn : hasI l n) : r.2 + 1 < n := by
  obtain ⟨x, hx, h1, h2⟩ := hn
  have := (nf_cons.1 h).2.1 x hx
  omega
/-- a set has one normal form -/
theorem nf_unique : ∀ (a b : List Rg), Nf a → Nf b → (∀ n, hasI a n ↔ hasI b n) → a = b
  | [], [], _, _, _ => rfl
  | [], r :: b, _, hb, h => by
    have h1 := (nf_cons.1 hb).1
    exact absurd ((h r.1).2 ((hasI_cons _ _ _).2 (.inl ⟨Int.le_refl _, h1⟩))) (hasI_nil _)
  | r :: a, [], ha, _, h => by
    have h1 := (nf_cons.1 ha).1
    exact absurd ((h r.1).1 ((hasI_cons _ _ _).2 (.inl ⟨Int.le_refl _, h1⟩))) (hasI_nil _)
  | r :: a, s :: b, ha, hb, h => by
    have ra := (nf_cons.1 ha).1
    have sb := (nf_cons.1 hb).1
  
    have e1 : r.1 = s.1 := by
      have p : s.1 ≤ r.1 := by
        rcases (hasI_cons _ _ _).1 ((h r.1).1 ((hasI_cons _ _ _).2 (.inl ⟨Int.le_refl _, ra⟩))) with hx | hx
        · exact hx.1
        · have := nf_above hb hx; omega
      have q : r.1 ≤ s.1 := by
        rcases (hasI_cons _ _ _).1 ((h s.1).2 ((hasI_cons _ _ _).2 (.inl ⟨Int.le_refl _, sb⟩))) with hx | hx
        · exact hx.1
        · have := nf_above ha hx; omega
      omega

    have e2 : r.2 = s.2 := by
      by_cases hlt : r.2 < s.2
      · have : hasI (r :: a) (r.2 + 1) := (h _).2 ((hasI_cons _ _ _).2 (.inl ⟨by omega, by omega⟩))
        rcases (hasI_cons _ _ _).1 this with hx | hx
        · have := hx.2; omega
        · have := nf_above ha hx; omega
      · by_cases hgt : s.2 < r.2
        · have : hasI (s :: b) (s.2 + 1) := (h _).1 ((hasI_cons _ _ _).2 (.inl ⟨by omega, by omega⟩))
          rcases (hasI_cons _ _ _).1 this with hx | hx
          · have := hx.2; omega
          · have := nf_above hb hx; omega
        · omega
    have e : r = s := Prod.ext e1 e2
    subst e
    congr 1
    refine nf_unique a b (nf_cons.1 ha).2.2 (nf_cons.1 hb).2.2 fun n => ?_
    constructor
    · intro hn
      have h1 := nf_above ha hn
      rcases (hasI_cons _ _ _).1 ((h n).1 ((hasI_cons _ _ _).2 (.inr hn))) with hx | hx
      · have := hx.2; omega
      · exact hx
    · intro hn
      have h1 := nf_above hb hn
      rcases (hasI_cons _ _ _).1 ((h n).2 ((hasI_cons _ _ _).2 (.inr hn))) with hx | hx
      · have := hx.2; omega
      · exact hx
open Classical in
/-- the normal form of a set, if it has one -/
noncomputable def nfOf (P : Int → Prop) : List Rg := if h : ∃ m, Nf m ∧ ∀ n, hasI m n ↔ P n then h.choose else []
theorem nfOf_eq {m : List Rg} {P : Int → Prop} (h1 : Nf m) (h2 : ∀ n, hasI m n ↔ P n) : m = nfOf P := by
  have h : ∃ m, Nf m ∧ ∀ n, hasI m n ↔ P n := ⟨m, h1, h2⟩
  unfold nfOf
  rw [dif_pos h]
  exact nf_unique _ _ h1 h.choose_spec.1 fun n => (h2 n).trans (h.choose_spec.2 n).symm
theorem nfOf_congr {P Q : Int → Prop} (h : ∀ n, P n ↔ Q n) : nfOf P = nfOf Q := by
  rw [funext fun n => propext (h n)]
theorem nf_fit {l : List Rg} (h : Nf l) (hb : ∀ n, hasI l n → LO ≤ n ∧ n ≤ HI) : Fit l := by
  intro r hr
  have h1 := h.1 r hr
  have a := hb r.1 ⟨r, hr, Int.le_refl _, h1⟩
  have b := hb r.2 ⟨r, hr, h1, Int.le_refl _⟩
  unfold Fit1; omega
/-- the parts of a merge: the last range of a normal form takes in a range that begins no earlier and leaves no gap -/
theorem nf_snoc {m : List Rg} {r : Rg} (h : Nf m) (hr : r.1 ≤ r.2) (hg : ∀ x ∈ m, x.2 + 1 < r.1) : Nf (m ++ [r]) := by
  refine ⟨?_, ?_⟩
  · intro x hx
    rcases List.mem_append.1 hx with hx | hx
    · exact h.1 x hx
    · rw [List.mem_singleton.1 hx]; exact hr
  · rw [List.pairwise_append]
    refine ⟨h.2, by simp, ?_⟩
    intro x hx y hy
    rw [List.mem_singleton.1 hy]
    exact hg x hx
theorem nf_snoc_inv {m : List Rg} {r : Rg} (h : Nf (m ++ [r])) : Nf m ∧ r.1 ≤ r.2 ∧ ∀ x ∈ m, x.2 + 1 < r.1 := by
  have h2 := List.pairwise_append.1 h.2
  exact ⟨⟨fun x hx => h.1 x (List.mem_append_left _ hx), h2.1⟩, h.1 r (by simp), fun x hx => h2.2.2 x hx r (by simp)⟩
theorem hasI_snoc (m : List Rg) (r : Rg) (n : Int) : hasI (m ++ [r]) n ↔ hasI m n ∨ inR r n := by
  rw [hasI_append]
  simp [hasI]
theorem nf_merge {m : List Rg} {x r : Rg} (h : Nf (m ++ [x])) (h1 : x.1 ≤ r.1) (h2 : r.1 ≤ x.2 + 1) (h3 : r.1 ≤ r.2) :
    Nf (m ++ [(x.1, max x.2 r.2)]) ∧ ∀ n, hasI (m ++ [(x.1, max x.2 r.2)]) n ↔ hasI (m ++ [x]) n ∨ inR r n := by
  obtain ⟨a, b, c⟩ := nf_snoc_inv h
  refine ⟨nf_snoc a (by simp only; omega) c, fun n => ?_⟩
  rw [hasI_snoc, hasI_snoc]
  simp only [inR]
  constructor
  · rintro (q | q)
    · exact .inl (.inl q)
    · by_cases hn : n ≤ x.2
      · exact .inl (.inr ⟨q.1, hn⟩)
      · exact .inr ⟨by omega, by omega⟩
  · rintro ((q | q) | q)
    · exact .inl q
    · exact .inr ⟨q.1, by omega⟩
    · exact .inr ⟨by omega, by omega⟩
theorem nf_gap {m : List Rg} {x r : Rg} (h : Nf (m ++ [x])) (h2 : x.2 + 1 < r.1) (h3 : r.1 ≤ r.2) : Nf (m ++ [x] ++ [r]) := by
  obtain ⟨a, b, c⟩ := nf_snoc_inv h
  refine nf_snoc h h3 ?_
  intro y hy
  rcases List.mem_append.1 hy with hy | hy
  · have := c y hy; omega
  · rw [List.mem_singleton.1 hy]; exact h2
/-- n is in the set, as a Bool -/
def hasB (l : List Rg) (n : Int) : Bool := l.any fun r => decide (r.1 ≤ n) && decide (n ≤ r.2)
theorem hasB_iff (l : List Rg) (n : Int) : hasB l n = true ↔ hasI l n := by
  simp [hasB, hasI, inR]
theorem hasB_take {l : List Rg} {k : Nat} {r : Rg} {n : Int} (h : l[k]? = some r) (h0 : hasB (l.take k) n = false) (hr : ¬ (r.1 ≤ n ∧ n ≤ r.2)) : hasB (l.take (k + 1)) n = false := by
  rw [List.take_add_one, h]
  simp only [hasB, List.any_append] at h0 ⊢
  rw [h0]
  simp
  omega
theorem hasB_hit {l : List Rg} {k : Nat} {r : Rg} {n : Int} (h : l[k]? = some r) (h1 : r.1 ≤ n) (h2 : n ≤ r.2) : hasB l n = true :=
  (hasB_iff l n).2 ⟨r, List.mem_of_getElem? h, h1, h2⟩
instance (l : List Rg) : Decidable (Nf l) := by unfold Nf; infer_instance
/-- the list is a normal form, as a Bool -/
def nfB (l : List Rg) : Bool := decide (Nf l)
theorem nf_take_zero (l : List Rg) : Nf (l.take 0) := nf_nil
theorem nf_take_one {l : List Rg} {r : Rg} (h : l[0]? = some r) (hr : r.1 ≤ r.2) : Nf (l.take 1) := by
  rw [List.take_add_one, h]
  simpa using nf_snoc nf_nil hr (by simp)
theorem nf_take_next {l : List Rg} {k : Nat} {x r : Rg} (h0 : Nf (l.take (k + 1))) (hx : l[k]? = some x) (h : l[k + 1]? = some r) (hr : r.1 ≤ r.2) (hg : x.2 + 1 < r.1) : Nf (l.take (k + 1 + 1)) := by
  rw [List.take_add_one, h]
  have e : l.take (k + 1) = l.take k ++ [x] := by rw [List.take_add_one, hx]; rfl
  rw [e] at h0 ⊢
  exact nf_gap h0 hg hr
theorem nf_not_empty {l : List Rg} {k : Nat} {r : Rg} (h : l[k]? = some r) (hr : r.2 < r.1) : nfB l = false := by
  unfold nfB
  rw [decide_eq_false_iff_not]
  intro hn
  have := hn.1 r (List.mem_of_getElem? h)
  omega
theorem nf_not_gap {l : List Rg} {k : Nat} {x r : Rg} (hx : l[k]? = some x) (h : l[k + 1]? = some r) (hg : ¬ x.2 + 1 < r.1) : nfB l = false := by
  unfold nfB
  rw [decide_eq_false_iff_not]
  intro hn
  obtain ⟨h1, e1⟩ := List.getElem?_eq_some_iff.1 hx
  obtain ⟨h2, e2⟩ := List.getElem?_eq_some_iff.1 h
  have := List.pairwise_iff_getElem.1 hn.2 k (k + 1) h1 h2 (by omega)
  rw [e1, e2] at this
  exact hg this
theorem nf_all {l : List Rg} {k : Nat} (h : Nf (l.take k)) (hk : l.length ≤ k) : nfB l = true := by
  rw [List.take_of_length_le hk] at h
  unfold nfB
  simpa using h
end Go.Proofs.Ytahapkbapbgbiaa
