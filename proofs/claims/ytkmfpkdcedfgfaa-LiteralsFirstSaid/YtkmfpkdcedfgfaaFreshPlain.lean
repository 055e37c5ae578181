/- Plain facts on the first 61 atom names. -/
import Derived.Test.YtkmfpkdcedfgfaaFirstFree
import Derived.Test.YtkmfpkdcedfgfaaRefNext
import Derived.Deep.LoopGhost
namespace Go.Proofs.Ytkmfpkdcedfgfaa
open Go.RowKit
theorem length_le_of_mem : ∀ {l L : List (List UInt8)}, l.Nodup → (∀ x ∈ l, x ∈ L) → l.length ≤ L.length
  | [], _, _, _ => by simp
  | a :: r, L, hn, hs => by
    rw [List.nodup_cons] at hn
    have ha := hs a (by simp)
    have h := length_le_of_mem (l := r) (L := L.erase a) hn.2 (fun x hx => by
      have hne : x ≠ a := fun e => hn.1 (e ▸ hx)
      exact (List.mem_erase_of_ne hne).2 (hs x (by simp [hx])))
    rw [List.length_erase_of_mem ha] at h
    have := List.length_pos_of_mem ha
    simp; omega
theorem first_free (f : Nat → List UInt8) (L : List (List UInt8)) (M : Nat) (hn : ((List.range (M + 1)).map f).Nodup) (hL : L.length ≤ M) : ∃ N, N ≤ M ∧ f N ∉ L ∧ ∀ j, j < N → f j ∈ L := by
  have hex : ∃ N, N ≤ M ∧ f N ∉ L := by
    refine Decidable.byContradiction fun hno => ?_
    have hall : ∀ x ∈ (List.range (M + 1)).map f, x ∈ L := by
      intro x hx
      obtain ⟨j, hj, rfl⟩ := List.mem_map.1 hx
      refine Decidable.byContradiction fun h => hno ⟨j, by have := List.mem_range.1 hj; omega, h⟩
    have := length_le_of_mem hn hall
    simp at this; omega
  obtain ⟨N, ⟨h1, h2⟩, h3⟩ := exists_least hex
  exact ⟨N, h1, h2, fun j hj => Decidable.byContradiction fun h => by have := h3 j ⟨by omega, h⟩; omega⟩
theorem iterA_nodup : ((List.range (60 + 1)).map (fun j => iterA j [97])).Nodup := by decide +kernel
theorem iterA_len : ∀ j, j ≤ 60 → 0 < (iterA j [97]).length ∧ (iterA j [97]).length ≤ 1000 := by
  have h : ∀ j : Fin 61, 0 < (iterA j.1 [97]).length ∧ (iterA j.1 [97]).length ≤ 1000 := by decide +kernel
  exact fun j hj => h ⟨j, by omega⟩
theorem iterA_atom : ∀ j, j ≤ 60 → atomB (iterA j [97]) = true := by
  have h : ∀ j : Fin 61, atomB (iterA j.1 [97]) = true := by decide +kernel
  exact fun j hj => h ⟨j, by omega⟩
/-- the two shapes of the first 61 names -/
theorem iterA_shape : ∀ j, j ≤ 60 → (j < 26 ∧ iterA j [97] = [UInt8.ofNat (97 + j)]) ∨ (26 ≤ j ∧ ∃ t, iterA j [97] = [97, t]) := by
  have h : ∀ j : Fin 61, (j.1 < 26 ∧ iterA j.1 [97] = [UInt8.ofNat (97 + j.1)]) ∨ (26 ≤ j.1 ∧ iterA j.1 [97] = [97, (iterA j.1 [97]).getD 1 0]) := by decide +kernel
  intro j hj
  rcases h ⟨j, by omega⟩ with h | ⟨h1, h2⟩
  · exact .inl h
  · exact .inr ⟨h1, _, h2⟩
theorem iterA_two : ∀ j, 26 ≤ j → j ≤ 60 → ∀ d : UInt8, atomT d.toNat = true → d < (iterA j [97]).getD 1 0 → ∃ i, i < j ∧ iterA i [97] = [97, d] := by
  have h : ∀ j : Fin 61, 26 ≤ j.1 → ∀ d : Fin 256, atomT (d.1 : Int) = true → UInt8.ofNat d.1 < (iterA j.1 [97]).getD 1 0 → ∃ i : Fin 61, i.1 < j.1 ∧ iterA i.1 [97] = [97, UInt8.ofNat d.1] := by decide +kernel
  intro j h1 h2 d hd hlt
  obtain ⟨i, h3, h4⟩ := h ⟨j, by omega⟩ h1 ⟨d.toNat, d.toNat_lt⟩ hd (by simpa using hlt)
  exact ⟨i.1, h3, by simpa using h4⟩
theorem low_bounds {c : UInt8} {r : List UInt8} (h : lowB (((c :: r).headD 0).toNat : Int) = true) : 97 ≤ c.toNat ∧ c.toNat ≤ 122 := by
  simp [lowB] at h
  omega
/-- in order of length and then bytewise, the names before the N-th one are the first N -/
theorem before_in (N : Nat) (hN : N ≤ 60) (s : List UInt8) (hs : atomB s = true) (hb : s.length < (iterA N [97]).length ∨ s.length = (iterA N [97]).length ∧ Op.bytesLess s (iterA N [97]) = true) : ∃ j, j < N ∧ iterA j [97] = s := by
  have hs2 := hs
  unfold atomB nameB at hs2
  simp only [Bool.and_eq_true, decide_eq_true_eq] at hs2
  obtain ⟨⟨⟨h1, _⟩, h3⟩, h4⟩ := hs2
  have one : ∀ c : UInt8, s = [c] → c.toNat - 97 < N → ∃ j, j < N ∧ iterA j [97] = s := by
    intro c hc hlt
    subst hc
    replace h3 := low_bounds h3
    refine ⟨c.toNat - 97, hlt, ?_⟩
    rcases iterA_shape (c.toNat - 97) (by omega) with ⟨_, h⟩ | ⟨h, _⟩
    · rw [h]; congr 1
      apply UInt8.toNat_inj.1
      simp; omega
    · omega
  rcases iterA_shape N hN with ⟨hn, hf⟩ | ⟨hn, t, hf⟩
  · rw [hf] at hb
    match s, h1, hb, h3, one with
    | [c], _, hb, h3, one =>
      replace h3 := low_bounds h3
      simp [Op.bytesLess] at hb
      rw [UInt8.lt_iff_toNat_lt] at hb
      simp at hb
      exact one c rfl (by omega)
    | a :: b :: r, _, hb, _, _ => simp at hb
  · rw [hf] at hb
    match s, h1, hb, h3, h4, one with
    | [c], _, _, h3, _, one =>
      replace h3 := low_bounds h3
      exact one c rfl (by omega)
    | [a, d], _, hb, h3, h4, _ =>
      replace h3 := low_bounds h3
      simp [Op.bytesLess] at hb
      have ha : a = 97 := by
        rcases hb with h | h
        · rw [UInt8.lt_iff_toNat_lt] at h; simp at h; omega
        · exact h.1
      subst ha
      have hd : d < t := by
        rcases hb with h | h
        · exact absurd h (by decide)
        · exact h.2
      simp at h4
      exact iterA_two N hn hN d h4 (by rw [hf]; exact hd)
    | a :: b :: c :: r, _, hb, _, _, _ => simp at hb; omega
end Go.Proofs.Ytkmfpkdcedfgfaa
