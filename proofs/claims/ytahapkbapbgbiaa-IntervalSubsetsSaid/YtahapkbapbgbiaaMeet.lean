/- The common parts of two normal forms, walked by two indices. Plain mathematics. -/
import Derived.Test.YtahapkbapbgbiaaGaps
namespace Go.Proofs.Ytahapkbapbgbiaa
/-- the common parts of two normal forms, walked by two indices -/
structure InterInv (N M G : List Rg) (i k : Nat) : Prop where
  nf : Nf G
  ends : ∀ y ∈ G, (∀ (j : Nat) (r : Rg), i ≤ j → N[j]? = some r → y.2 + 1 < r.1) ∨ (∀ (j : Nat) (r : Rg), k ≤ j → M[j]? = some r → y.2 + 1 < r.1)
  mem : ∀ x, hasI G x ↔ (hasI N x ∧ hasI M x) ∧ (hasI (N.take i) x ∨ hasI (M.take k) x)
  len : G.length ≤ i + k
  fit : Fit G
theorem InterInv.start (N M : List Rg) : InterInv N M [] 0 0 :=
  ⟨nf_nil, by simp, fun x => by simp [hasI], Nat.le_refl _, by simp [Fit]⟩
def part (r s : Rg) : Rg := (max r.1 s.1, min r.2 s.2)
theorem inR_part (r s : Rg) (x : Int) : inR (part r s) x ↔ inR r x ∧ inR s x := by
  unfold inR part
  simp only
  constructor
  · rintro ⟨a, b⟩; exact ⟨⟨by omega, by omega⟩, by omega, by omega⟩
  · rintro ⟨⟨a, b⟩, c, d⟩; exact ⟨by omega, by omega⟩
theorem fit_part {r s : Rg} (hr : Fit1 r) (hs : Fit1 s) : Fit1 (part r s) := by
  unfold Fit1 part at *
  simp only
  omega
theorem has_at {N : List Rg} {i : Nat} {r : Rg} (h : N[i]? = some r) {x : Int} (hx : inR r x) : hasI N x := ⟨r, List.mem_of_getElem? h, hx⟩
theorem has_index {N : List Rg} {x : Int} (h : hasI N x) : ∃ (j : Nat) (r : Rg), N[j]? = some r ∧ inR r x := by
  obtain ⟨r, hr, hx⟩ := h
  obtain ⟨j, hj⟩ := List.mem_iff_getElem?.1 hr
  exact ⟨j, r, hj, hx⟩
theorem has_take {N : List Rg} {i j : Nat} {r : Rg} (h : N[j]? = some r) (hj : j < i) {x : Int} (hx : inR r x) : hasI (N.take i) x :=
  ⟨r, List.mem_of_getElem? (i := j) (by rw [List.getElem?_take_of_lt hj]; exact h), hx⟩
/-- the members after a step: G with the part of r and s, the range that ends first passed -/
theorem inter_mem_left {N M : List Rg} {i k : Nat} {r s : Rg} (hM : Nf M) (hr : N[i]? = some r) (hs : M[k]? = some s) (hlt : r.2 < s.2) (x : Int) :
    (hasI N x ∧ hasI M x) ∧ (hasI (N.take (i + 1)) x ∨ hasI (M.take k) x) ↔ ((hasI N x ∧ hasI M x) ∧ (hasI (N.take i) x ∨ hasI (M.take k) x)) ∨ inR (part r s) x := by
  rw [hasI_take_next hr, inR_part]
  constructor
  · rintro ⟨⟨a, b⟩, (c | c) | c⟩
    · exact .inl ⟨⟨a, b⟩, .inl c⟩
    · obtain ⟨j, q, hq, hx⟩ := has_index b
      rcases Nat.lt_trichotomy j k with h | h | h
      · exact .inl ⟨⟨a, b⟩, .inr (has_take hq h hx)⟩
      · subst h
        rw [hs] at hq; injection hq with hq; subst hq
        exact .inr ⟨c, hx⟩
      · have := nf_after hM hs hq h
        unfold inR at c hx
        omega
    · exact .inl ⟨⟨a, b⟩, .inr c⟩
  · rintro (⟨a, c⟩ | ⟨c, d⟩)
    · exact ⟨a, by rcases c with c | c; exact .inl (.inl c); exact .inr c⟩
    · exact ⟨⟨has_at hr c, has_at hs d⟩, .inl (.inr c)⟩
theorem inter_mem_right {N M : List Rg} {i k : Nat} {r s : Rg} (hN : Nf N) (hr : N[i]? = some r) (hs : M[k]? = some s) (hlt : s.2 ≤ r.2) (x : Int) :
    (hasI N x ∧ hasI M x) ∧ (hasI (N.take i) x ∨ hasI (M.take (k + 1)) x) ↔ ((hasI N x ∧ hasI M x) ∧ (hasI (N.take i) x ∨ hasI (M.take k) x)) ∨ inR (part r s) x := by
  rw [hasI_take_next hs, inR_part]
  constructor
  · rintro ⟨⟨a, b⟩, c | (c | c)⟩
    · exact .inl ⟨⟨a, b⟩, .inl c⟩
    · exact .inl ⟨⟨a, b⟩, .inr c⟩
    · obtain ⟨j, q, hq, hx⟩ := has_index a
      rcases Nat.lt_trichotomy j i with h | h | h
      · exact .inl ⟨⟨a, b⟩, .inl (has_take hq h hx)⟩
      · subst h
        rw [hr] at hq; injection hq with hq; subst hq
        exact .inr ⟨hx, c⟩
      · have := nf_after hN hr hq h
        unfold inR at c hx
        omega
  · rintro (⟨a, c⟩ | ⟨c, d⟩)
    · exact ⟨a, by rcases c with c | c; exact .inl c; exact .inr (.inl c)⟩
    · exact ⟨⟨has_at hr c, has_at hs d⟩, .inr (.inr d)⟩
theorem InterInv.before {N M G : List Rg} {i k : Nat} {r s : Rg} (h : InterInv N M G i k) (hr : N[i]? = some r) (hs : M[k]? = some s) : ∀ y ∈ G, y.2 + 1 < (part r s).1 := by
  intro y hy
  unfold part
  simp only
  rcases h.ends y hy with h1 | h1
  · have := h1 i r (Nat.le_refl _) hr; omega
  · have := h1 k s (Nat.le_refl _) hs; omega
/-- one step -/
theorem InterInv.left {N M G : List Rg} {i k : Nat} {r s : Rg} (h : InterInv N M G i k) (hN : Nf N) (hM : Nf M) (hr : N[i]? = some r) (hs : M[k]? = some s) (hfr : Fit1 r) (hfs : Fit1 s) (hlt : r.2 < s.2) :
    ((part r s).1 ≤ (part r s).2 → InterInv N M (G ++ [part r s]) (i + 1) k) ∧ (¬ (part r s).1 ≤ (part r s).2 → InterInv N M G (i + 1) k) := by
  have hm := inter_mem_left hM hr hs hlt
  have he : ∀ y ∈ G, (∀ (j : Nat) (q : Rg), i + 1 ≤ j → N[j]? = some q → y.2 + 1 < q.1) ∨ (∀ (j : Nat) (q : Rg), k ≤ j → M[j]? = some q → y.2 + 1 < q.1) := by
    intro y hy
    rcases h.ends y hy with h1 | h1
    · exact .inl fun j q hj hq => h1 j q (by omega) hq
    · exact .inr h1
  constructor
  · intro hne
    refine ⟨nf_snoc h.nf hne (h.before hr hs), ?_, fun x => by rw [hasI_snoc, h.mem, hm x], by have := h.len; simp; omega, ?_⟩
    · intro y hy
      rcases List.mem_append.1 hy with hy | hy
      · exact he y hy
      · refine .inl fun j q hj hq => ?_
        have := nf_after hN hr hq (by omega)
        rw [List.mem_singleton.1 hy]
        unfold part
        simp only
        omega
    · intro y hy
      rcases List.mem_append.1 hy with hy | hy
      · exact h.fit y hy
      · rw [List.mem_singleton.1 hy]; exact fit_part hfr hfs
  · intro hne
    refine ⟨h.nf, he, fun x => ?_, by have := h.len; omega, h.fit⟩
    rw [h.mem, hm x]
    constructor
    · exact .inl
    · rintro (a | a)
      · exact a
      · unfold inR at a; omega
theorem InterInv.right {N M G : List Rg} {i k : Nat} {r s : Rg} (h : InterInv N M G i k) (hN : Nf N) (hM : Nf M) (hr : N[i]? = some r) (hs : M[k]? = some s) (hfr : Fit1 r) (hfs : Fit1 s) (hlt : ¬ r.2 < s.2) :
    ((part r s).1 ≤ (part r s).2 → InterInv N M (G ++ [part r s]) i (k + 1)) ∧ (¬ (part r s).1 ≤ (part r s).2 → InterInv N M G i (k + 1)) := by
  have hm := inter_mem_right hN hr hs (by omega)
  have he : ∀ y ∈ G, (∀ (j : Nat) (q : Rg), i ≤ j → N[j]? = some q → y.2 + 1 < q.1) ∨ (∀ (j : Nat) (q : Rg), k + 1 ≤ j → M[j]? = some q → y.2 + 1 < q.1) := by
    intro y hy
    rcases h.ends y hy with h1 | h1
    · exact .inl h1
    · exact .inr fun j q hj hq => h1 j q (by omega) hq
  constructor
  · intro hne
    refine ⟨nf_snoc h.nf hne (h.before hr hs), ?_, fun x => by rw [hasI_snoc, h.mem, hm x], by have := h.len; simp; omega, ?_⟩
    · intro y hy
      rcases List.mem_append.1 hy with hy | hy
      · exact he y hy
      · refine .inr fun j q hj hq => ?_
        have := nf_after hM hs hq (by omega)
        rw [List.mem_singleton.1 hy]
        unfold part
        simp only
        omega
    · intro y hy
      rcases List.mem_append.1 hy with hy | hy
      · exact h.fit y hy
      · rw [List.mem_singleton.1 hy]; exact fit_part hfr hfs
  · intro hne
    refine ⟨h.nf, he, fun x => ?_, by have := h.len; omega, h.fit⟩
    rw [h.mem, hm x]
    constructor
    · exact .inl
    · rintro (a | a)
      · exact a
      · unfold inR at a; omega
theorem InterInv.done {N M G : List Rg} {i k : Nat} (h : InterInv N M G i k) (hd : N.length ≤ i ∨ M.length ≤ k) (x : Int) : hasI G x ↔ hasI N x ∧ hasI M x := by
  rw [h.mem]
  constructor
  · exact fun h => h.1
  · intro hx
    refine ⟨hx, ?_⟩
    rcases hd with hd | hd
    · rw [List.take_of_length_le hd]; exact .inl hx.1
    · rw [List.take_of_length_le hd]; exact .inr hx.2
end Go.Proofs.Ytahapkbapbgbiaa
