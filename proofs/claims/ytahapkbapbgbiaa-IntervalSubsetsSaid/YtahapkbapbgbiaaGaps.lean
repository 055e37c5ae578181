/- The gaps of a normal form, and the common parts of two. Plain mathematics. -/
import Derived.Test.YtahapkbapbgbiaaSets
namespace Go.Proofs.Ytahapkbapbgbiaa
theorem hasI_take_next {l : List Rg} {k : Nat} {r : Rg} (h : l[k]? = some r) (n : Int) : hasI (l.take (k + 1)) n ↔ hasI (l.take k) n ∨ inR r n := by
  rw [List.take_add_one, h]
  exact hasI_snoc _ _ _
theorem nf_after {N : List Rg} (h : Nf N) {j k : Nat} {x r : Rg} (hj : N[j]? = some x) (hk : N[k]? = some r) (hlt : j < k) : x.2 + 1 < r.1 := by
  obtain ⟨h1, e1⟩ := List.getElem?_eq_some_iff.1 hj
  obtain ⟨h2, e2⟩ := List.getElem?_eq_some_iff.1 hk
  have := List.pairwise_iff_getElem.1 h.2 j k h1 h2 hlt
  rwa [e1, e2] at this
structure GapInv (N G : List Rg) (k : Nat) (lo : Int) : Prop where
  nf : Nf G
  ends : ∀ y ∈ G, y.2 + 1 < lo
  mem : ∀ x, hasI G x ↔ LO ≤ x ∧ x < lo ∧ ¬ hasI (N.take k) x
  past : ∀ r ∈ N.take k, r.2 < lo
  next : ∀ (j : Nat) (r : Rg), k ≤ j → N[j]? = some r → lo ≤ r.1
  low : LO ≤ lo
  len : G.length ≤ k
  fit : Fit G
theorem GapInv.start {N : List Rg} (hf : Fit N) : GapInv N [] 0 LO :=
  ⟨nf_nil, by simp, fun x => ⟨fun h => absurd h (hasI_nil x), fun h => by omega⟩, by simp, fun j r _ hr => (hf r (List.mem_of_getElem? hr)).1, Int.le_refl _, Nat.le_refl _, by simp [Fit]⟩
theorem GapInv.gap {N G : List Rg} {k : Nat} {lo : Int} {r : Rg} (h : GapInv N G k lo) (hN : Nf N) (hf : Fit N) (hr : N[k]? = some r) (hlt : lo < r.1) : GapInv N (G ++ [(lo, r.1 - 1)]) (k + 1) (r.2 + 1) := by
  have h1 := hN.1 r (List.mem_of_getElem? hr)
  have hfr := hf r (List.mem_of_getElem? hr)
  have hlow := h.low
  unfold Fit1 at hfr
  refine ⟨nf_snoc h.nf (by simp only; omega) h.ends, ?_, ?_, ?_, ?_, by omega, by have := h.len; simp; omega, ?_⟩
  · intro y hy
    rcases List.mem_append.1 hy with hy | hy
    · have := h.ends y hy; omega
    · rw [List.mem_singleton.1 hy]; simp only; omega
  · intro x
    rw [hasI_snoc, h.mem, hasI_take_next hr]
    unfold inR
    simp only
    constructor
    · rintro (⟨a, b, c⟩ | ⟨a, b⟩)
      · exact ⟨a, by omega, fun hc => by rcases hc with hc | hc; · exact c hc
                                         · omega⟩
      · refine ⟨by omega, by omega, fun hc => ?_⟩
        rcases hc with ⟨q, hq, hc⟩ | hc
        · have := h.past q hq; unfold inR at hc; omega
        · omega
    · rintro ⟨a, b, c⟩
      by_cases hx : x < lo
      · exact .inl ⟨a, hx, fun hc => c (.inl hc)⟩
      · refine .inr ⟨by omega, ?_⟩
        by_cases hx2 : r.1 ≤ x
        · exact absurd (.inr ⟨hx2, by omega⟩) c
        · omega
  · intro q hq
    rw [List.take_add_one, hr] at hq
    rcases List.mem_append.1 hq with hq | hq
    · have := h.past q hq; omega
    · rw [List.mem_singleton.1 hq]; omega
  · intro j q hj hq
    have := nf_after hN hr hq (by omega)
    omega
  · intro y hy
    rcases List.mem_append.1 hy with hy | hy
    · exact h.fit y hy
    · rw [List.mem_singleton.1 hy]; unfold Fit1 LO HI at *; simp only; omega
theorem GapInv.touch {N G : List Rg} {k : Nat} {lo : Int} {r : Rg} (h : GapInv N G k lo) (hN : Nf N) (hr : N[k]? = some r) (hlt : ¬ lo < r.1) : GapInv N G (k + 1) (r.2 + 1) := by
  have h1 := hN.1 r (List.mem_of_getElem? hr)
  have hlow := h.low
  have hle := h.next k r (Nat.le_refl _) hr
  refine ⟨h.nf, ?_, ?_, ?_, ?_, by omega, by have := h.len; omega, h.fit⟩
  · intro y hy
    have := h.ends y hy; omega
  · intro x
    rw [h.mem, hasI_take_next hr]
    unfold inR
    constructor
    · rintro ⟨a, b, c⟩
      exact ⟨a, by omega, fun hc => by rcases hc with hc | hc; · exact c hc
                                       · omega⟩
    · rintro ⟨a, b, c⟩
      refine ⟨a, ?_, fun hc => c (.inl hc)⟩
      by_cases hx2 : r.1 ≤ x
      · exact absurd (.inr ⟨hx2, by omega⟩) c
      · omega
  · intro q hq
    rw [List.take_add_one, hr] at hq
    rcases List.mem_append.1 hq with hq | hq
    · have := h.past q hq; omega
    · rw [List.mem_singleton.1 hq]; omega
  · intro j q hj hq
    have := nf_after hN hr hq (by omega)
    omega
/-- what is not in the set -/
def Non (P : Int → Prop) (x : Int) : Prop := LO ≤ x ∧ x ≤ HI ∧ ¬ P x
/-- the last range ends at the greatest integer -/
theorem GapInv.full {N G : List Rg} {k : Nat} (h : GapInv N G k (HI + 1)) (hf : Fit N) : ∀ x, hasI G x ↔ Non (hasI N) x := by
  intro x
  rw [h.mem]
  unfold Non
  have e : hasI N x ↔ hasI (N.take k) x := by
    constructor
    · rintro ⟨r, hr, hx⟩
      obtain ⟨j, hj⟩ := List.mem_iff_getElem?.1 hr
      by_cases hjk : j < k
      · exact ⟨r, List.mem_of_getElem? (i := j) (by rw [List.getElem?_take_of_lt hjk]; exact hj), hx⟩
      · have := h.next j r (by omega) hj
        have := hf r hr
        unfold Fit1 at this
        omega
    · rintro ⟨r, hr, hx⟩
      exact ⟨r, List.mem_of_mem_take hr, hx⟩
  rw [e]
  constructor
  · rintro ⟨a, b, c⟩; exact ⟨a, by omega, c⟩
  · rintro ⟨a, b, c⟩; exact ⟨a, by omega, c⟩
/-- the last gap ends at the greatest integer -/
theorem GapInv.last {N G : List Rg} {k : Nat} {lo : Int} (h : GapInv N G k lo) (hk : N.length ≤ k) (hlo : lo ≤ HI) : Nf (G ++ [(lo, HI)]) ∧ ∀ x, hasI (G ++ [(lo, HI)]) x ↔ Non (hasI N) x := by
  refine ⟨nf_snoc h.nf hlo h.ends, fun x => ?_⟩
  have hm := h.mem x
  have hp := h.past
  rw [List.take_of_length_le hk] at hm hp
  rw [hasI_snoc, hm]
  unfold Non inR
  have hlow := h.low
  constructor
  · rintro (⟨a, b, c⟩ | ⟨a, b⟩)
    · exact ⟨a, by omega, c⟩
    · refine ⟨by simp only at a; omega, b, ?_⟩
      rintro ⟨r, hr, hx⟩
      have := hp r hr
      unfold inR at hx
      simp only at a
      omega
  · rintro ⟨a, b, c⟩
    by_cases hx : x < lo
    · exact .inl ⟨a, hx, c⟩
    · exact .inr ⟨by simp only; omega, b⟩
end Go.Proofs.Ytahapkbapbgbiaa
