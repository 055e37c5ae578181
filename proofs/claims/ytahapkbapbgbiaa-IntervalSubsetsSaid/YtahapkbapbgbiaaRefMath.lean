/- The document's own normal form: a range is merged with those that it meets or touches. Plain mathematics. -/
import Derived.Test.YtahapkbapbgbiaaMeet
namespace Go.Proofs.Ytahapkbapbgbiaa
structure RefInv (O : List Rg) (r0 : Rg) (k : Nat) (R : List Rg) (r : Rg) (T : List Rg) : Prop where
  nfR : Nf R
  nfT : Nf T
  ne : r.1 ≤ r.2
  lo : ∀ y ∈ R, y.2 + 1 < r.1
  hi : ∀ y ∈ T, r.2 + 1 < y.1
  nextR : ∀ y ∈ R, ∀ (j : Nat) (z : Rg), k ≤ j → O[j]? = some z → y.2 + 1 < z.1
  nextT : ∀ y ∈ T, ∀ (j : Nat) (z : Rg), k ≤ j → O[j]? = some z → y.2 + 1 < z.1
  mem : ∀ x, (hasI R x ∨ inR r x ∨ hasI T x) ↔ (hasI (O.take k) x ∨ inR r0 x)
  len : R.length + T.length ≤ k
  fitR : Fit R
  fit : Fit1 r
  fitT : Fit T
theorem RefInv.start {O : List Rg} {r : Rg} (hr : r.1 ≤ r.2) (hf : Fit1 r) : RefInv O r 0 [] r [] :=
  ⟨nf_nil, nf_nil, hr, by simp, by simp, by simp, by simp, fun x => by simp [hasI], Nat.le_refl _, by simp [Fit], hf, by simp [Fit]⟩
theorem RefInv.toRest {O R T : List Rg} {r0 r z : Rg} {k : Nat} (h : RefInv O r0 k R r T) (hO : Nf O) (hf : Fit O) (hz : O[k]? = some z) (hg : z.2 + 1 < r.1) : RefInv O r0 (k + 1) (R ++ [z]) r T := by
  have hzne := hO.1 z (List.mem_of_getElem? hz)
  refine ⟨nf_snoc h.nfR hzne (fun y hy => h.nextR y hy k z (Nat.le_refl _) hz), h.nfT, h.ne, ?_, h.hi, ?_, fun y hy j q hj hq => h.nextT y hy j q (by omega) hq, fun x => ?_, by have := h.len; simp; omega, ?_, h.fit, h.fitT⟩
  · intro y hy
    rcases List.mem_append.1 hy with hy | hy
    · exact h.lo y hy
    · rw [List.mem_singleton.1 hy]; exact hg
  · intro y hy j q hj hq
    rcases List.mem_append.1 hy with hy | hy
    · exact h.nextR y hy j q (by omega) hq
    · rw [List.mem_singleton.1 hy]; exact nf_after hO hz hq (by omega)
  · have := h.mem x
    rw [hasI_snoc, hasI_take_next hz]
    constructor
    · rintro ((a | a) | a | a)
      · rcases this.1 (.inl a) with b | b
        · exact .inl (.inl b)
        · exact .inr b
      · exact .inl (.inr a)
      · rcases this.1 (.inr (.inl a)) with b | b
        · exact .inl (.inl b)
        · exact .inr b
      · rcases this.1 (.inr (.inr a)) with b | b
        · exact .inl (.inl b)
        · exact .inr b
    · rintro ((a | a) | a)
      · rcases this.2 (.inl a) with b | b | b
        · exact .inl (.inl b)
        · exact .inr (.inl b)
        · exact .inr (.inr b)
      · exact .inl (.inr a)
      · rcases this.2 (.inr a) with b | b | b
        · exact .inl (.inl b)
        · exact .inr (.inl b)
        · exact .inr (.inr b)
  · intro y hy
    rcases List.mem_append.1 hy with hy | hy
    · exact h.fitR y hy
    · rw [List.mem_singleton.1 hy]; exact hf z (List.mem_of_getElem? hz)
theorem RefInv.toAfter {O R T : List Rg} {r0 r z : Rg} {k : Nat} (h : RefInv O r0 k R r T) (hO : Nf O) (hf : Fit O) (hz : O[k]? = some z) (hg : r.2 + 1 < z.1) : RefInv O r0 (k + 1) R r (T ++ [z]) := by
  have hzne := hO.1 z (List.mem_of_getElem? hz)
  refine ⟨h.nfR, nf_snoc h.nfT hzne (fun y hy => h.nextT y hy k z (Nat.le_refl _) hz), h.ne, h.lo, ?_, fun y hy j q hj hq => h.nextR y hy j q (by omega) hq, ?_, fun x => ?_, by have := h.len; simp; omega, h.fitR, h.fit, ?_⟩
  · intro y hy
    rcases List.mem_append.1 hy with hy | hy
    · exact h.hi y hy
    · rw [List.mem_singleton.1 hy]; exact hg
  · intro y hy j q hj hq
    rcases List.mem_append.1 hy with hy | hy
    · exact h.nextT y hy j q (by omega) hq
    · rw [List.mem_singleton.1 hy]; exact nf_after hO hz hq (by omega)
  · have := h.mem x
    rw [hasI_snoc, hasI_take_next hz]
    constructor
    · rintro (a | a | a | a)
      · rcases this.1 (.inl a) with b | b
        · exact .inl (.inl b)
        · exact .inr b
      · rcases this.1 (.inr (.inl a)) with b | b
        · exact .inl (.inl b)
        · exact .inr b
      · rcases this.1 (.inr (.inr a)) with b | b
        · exact .inl (.inl b)
        · exact .inr b
      · exact .inl (.inr a)
    · rintro ((a | a) | a)
      · rcases this.2 (.inl a) with b | b | b
        · exact .inl b
        · exact .inr (.inl b)
        · exact .inr (.inr (.inl b))
      · exact .inr (.inr (.inr a))
      · rcases this.2 (.inr a) with b | b | b
        · exact .inl b
        · exact .inr (.inl b)
        · exact .inr (.inr (.inl b))
  · intro y hy
    rcases List.mem_append.1 hy with hy | hy
    · exact h.fitT y hy
    · rw [List.mem_singleton.1 hy]; exact hf z (List.mem_of_getElem? hz)
def hull (r z : Rg) : Rg := (min r.1 z.1, max r.2 z.2)
theorem RefInv.merge {O R T : List Rg} {r0 r z : Rg} {k : Nat} (h : RefInv O r0 k R r T) (hO : Nf O) (hf : Fit O) (hz : O[k]? = some z) (hg1 : ¬ z.2 + 1 < r.1) (hg2 : ¬ r.2 + 1 < z.1) : RefInv O r0 (k + 1) R (hull r z) T := by
  have hzne := hO.1 z (List.mem_of_getElem? hz)
  have hfz := hf z (List.mem_of_getElem? hz)
  have hne := h.ne
  have hfr := h.fit
  have hin : ∀ x, inR (hull r z) x ↔ inR r x ∨ inR z x := fun x => by
    unfold hull inR; simp only; omega
  refine ⟨h.nfR, h.nfT, by unfold hull; simp only; omega, ?_, ?_, fun y hy j q hj hq => h.nextR y hy j q (by omega) hq, fun y hy j q hj hq => h.nextT y hy j q (by omega) hq, fun x => ?_, by have := h.len; omega, h.fitR, by unfold hull Fit1 at *; simp only; omega, h.fitT⟩
  · intro y hy
    have a := h.lo y hy
    have b := h.nextR y hy k z (Nat.le_refl _) hz
    unfold hull; simp only; omega
  · intro y hy
    have a := h.hi y hy
    have b := h.nextT y hy k z (Nat.le_refl _) hz
    have c := h.nfT.1 y hy
    unfold hull; simp only; omega
  · have := h.mem x
    rw [hin, hasI_take_next hz]
    constructor
    · rintro (a | (a | a) | a)
      · rcases this.1 (.inl a) with b | b
        · exact .inl (.inl b)
        · exact .inr b
      · rcases this.1 (.inr (.inl a)) with b | b
        · exact .inl (.inl b)
        · exact .inr b
      · exact .inl (.inr a)
      · rcases this.1 (.inr (.inr a)) with b | b
        · exact .inl (.inl b)
        · exact .inr b
    · rintro ((a | a) | a)
      · rcases this.2 (.inl a) with b | b | b
        · exact .inl b
        · exact .inr (.inl (.inl b))
        · exact .inr (.inr b)
      · exact .inr (.inl (.inr a))
      · rcases this.2 (.inr a) with b | b | b
        · exact .inl b
        · exact .inr (.inl (.inl b))
        · exact .inr (.inr b)
/-- the document's list after i ranges -/
structure OutInv (rs O : List Rg) (i : Nat) : Prop where
  nf : Nf O
  mem : ∀ x, hasI O x ↔ hasI (rs.take i) x
  len : O.length ≤ i
  fit : Fit O
theorem OutInv.start (rs : List Rg) : OutInv rs [] 0 := ⟨nf_nil, fun x => by simp [hasI], Nat.le_refl _, by simp [Fit]⟩
theorem OutInv.skip {rs O : List Rg} {i : Nat} {r : Rg} (h : OutInv rs O i) (hr : rs[i]? = some r) (he : r.2 < r.1) : OutInv rs O (i + 1) :=
  ⟨h.nf, fun x => by
    rw [hasI_take_next hr, h.mem]
    refine ⟨.inl, ?_⟩
    rintro (a | a)
    · exact a
    · unfold inR at a; omega, by have := h.len; omega, h.fit⟩
theorem nf_join {R T : List Rg} {r : Rg} (h1 : Nf R) (h2 : Nf T) (hr : r.1 ≤ r.2) (hlo : ∀ y ∈ R, y.2 + 1 < r.1) (hhi : ∀ y ∈ T, r.2 + 1 < y.1) : Nf (R ++ [r] ++ T) := by
  have h3 := nf_snoc h1 hr hlo
  refine ⟨fun y hy => ?_, List.pairwise_append.2 ⟨h3.2, h2.2, fun a ha b hb => ?_⟩⟩
  · rcases List.mem_append.1 hy with hy | hy
    · exact h3.1 y hy
    · exact h2.1 y hy
  · have hb1 := hhi b hb
    rcases List.mem_append.1 ha with ha | ha
    · have := hlo a ha; omega
    · rw [List.mem_singleton.1 ha]; exact hb1
theorem OutInv.join {rs O R T : List Rg} {i k : Nat} {r0 r : Rg} (h : OutInv rs O i) (hr : rs[i]? = some r0) (hi : RefInv O r0 k R r T) (hk : k = O.length) : OutInv rs (R ++ [r] ++ T) (i + 1) := by
  refine ⟨nf_join hi.nfR hi.nfT hi.ne hi.lo hi.hi, fun x => ?_, ?_, ?_⟩
  · have := hi.mem x
    rw [List.take_of_length_le (by omega), h.mem] at this
    rw [hasI_append, hasI_snoc, hasI_take_next hr, ← this]
    constructor
    · rintro ((a | a) | a)
      · exact .inl a
      · exact .inr (.inl a)
      · exact .inr (.inr a)
    · rintro (a | a | a)
      · exact .inl (.inl a)
      · exact .inl (.inr a)
      · exact .inr a
  · have h1 := hi.len
    have h2 := h.len
    simp; omega
  · intro y hy
    rcases List.mem_append.1 hy with hy | hy
    · rcases List.mem_append.1 hy with hy | hy
      · exact hi.fitR y hy
      · rw [List.mem_singleton.1 hy]; exact hi.fit
    · exact hi.fitT y hy
end Go.Proofs.Ytahapkbapbgbiaa
