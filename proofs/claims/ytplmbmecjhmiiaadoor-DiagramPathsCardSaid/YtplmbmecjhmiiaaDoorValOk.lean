/- Valid values; taking the labels off keeps them valid. No program is named. -/
import Derived.Test.YtplmbmecjhmiiaaDoorValPure
import Derived.Test.YtplmbmecjhmiiaaDoorPlain
namespace Go.Proofs.YtplmbmecjhmiiaaDoor
open Go Go.RowKit
instance {α : Type} (c : α → α → Int) (l : List α) : Decidable (AscC c l) := inferInstanceAs (Decidable (l.Pairwise fun a b => c a b < 0))
def kindOf : Vl → Int | .mk k _ _ _ _ _ _ => k
def zeroV : Vl := .mk 0 0 [] [] [] [] []
def argsOf : En → List Vl | .mk a _ _ => a
def failsOf : En → Bool | .mk _ f _ => f
def resOf : En → Vl | .mk _ _ r => r
def isZ (v : Vl) : Bool := decide (cmpV v zeroV = 0)
theorem isZ_iff {v : Vl} : isZ v = true ↔ v = zeroV := by unfold isZ; rw [decide_eq_true_iff, cmpV_zero]
def consB : List Vl → Bool
  | [_, b] => decide (kindOf b = 5) || decide (kindOf b = 7)
  | _ => false
def entB (i : Int) (e : En) : Bool := decide (((argsOf e).length : Int) = i) && (!failsOf e || isZ (resOf e))
/-- what the kind asks of the fields that it uses -/
def kindB (k i : Int) (t : List UInt8) (v : List Vl) (y : List (Int × List UInt8)) (e : List En) : Bool :=
  if k = 1 ∨ k = 5 then true
  else if k = 2 then decide (t.length ≤ 64)
  else if k = 3 then atomB t
  else if k = 4 then decide (0 ≤ i)
  else if k = 6 then decide (v.length ≤ 4)
  else if k = 7 then consB v
  else if k = 8 then y.all (fun x => keyB x.1 x.2) && decide (AscC cmpK y) && decide (y.length = v.length)
  else if k = 9 then decide (0 ≤ i ∧ i ≤ 4) && e.all (entB i) && decide (AscC cmpE e)
  else false
/-- the fields that the kind does not use are empty -/
def usesB (k i : Int) (t : List UInt8) (v : List Vl) (y : List (Int × List UInt8)) (e : List En) : Bool :=
  (decide (k = 1 ∨ k = 4 ∨ k = 9) || decide (i = 0)) && (decide (k = 2 ∨ k = 3) || t.isEmpty) && (decide (k = 6 ∨ k = 7 ∨ k = 8) || v.isEmpty) && (decide (k = 8) || y.isEmpty) && (decide (k = 9) || e.isEmpty)
def labelsB (l : List (List UInt8)) : Bool := l.all varB && decide (AscC cmpT l)
mutual
def okV : Vl → Bool
  | .mk k i t v y e l => labelsB l && usesB k i t v y e && kindB k i t v y e && okVs v && okEs e
def okVs : List Vl → Bool
  | [] => true
  | a :: s => okV a && okVs s
def okE : En → Bool
  | .mk a f r => okVs a && (f || okV r)
def okEs : List En → Bool
  | [] => true
  | a :: s => okE a && okEs s
end
theorem okVs_all : ∀ l : List Vl, okVs l = l.all okV
  | [] => rfl
  | a :: s => by rw [okVs, okVs_all s, List.all_cons]
theorem okEs_all : ∀ l : List En, okEs l = l.all okE
  | [] => rfl
  | a :: s => by rw [okEs, okEs_all s, List.all_cons]
theorem kindOf_unl (v : Vl) : kindOf (unl v) = kindOf v := by cases v; rfl
theorem unl_zero : unl zeroV = zeroV := rfl
theorem consB_unl {v : List Vl} (h : consB v = true) : consB (unlVs v) = true := by
  rw [unlVs_map]
  match v, h with
  | [_, b], h => simpa [consB, kindOf_unl] using h
theorem entB_unl {i : Int} {e : En} (h : entB i e = true) : entB i (unlE e) = true := by
  obtain ⟨a, f, r⟩ := e
  unfold entB at h ⊢
  simp only [unlE, argsOf, failsOf, resOf, unlVs_map, List.length_map] at h ⊢
  cases f
  · exact h
  · simp only [Bool.not_true, Bool.false_or, Bool.and_eq_true] at h ⊢
    refine ⟨h.1, ?_⟩
    rw [isZ_iff] at h ⊢
    rw [h.2, unl_zero]
theorem unlEs_mem {e : List En} {x : En} (h : x ∈ srtC cmpE (unlEs e)) : ∃ u, u ∈ e ∧ x = unlE u := by
  rw [mem_srtC totE, unlEs_map, List.mem_map] at h
  obtain ⟨u, hu, rfl⟩ := h
  exact ⟨u, hu, rfl⟩
theorem usesB_unl {k i : Int} {t : List UInt8} {v : List Vl} {y : List (Int × List UInt8)} {e : List En} (h : usesB k i t v y e = true) : usesB k i t (unlVs v) y (srtC cmpE (unlEs e)) = true := by
  unfold usesB at h ⊢
  simp only [Bool.and_eq_true, Bool.or_eq_true, List.isEmpty_iff] at h ⊢
  obtain ⟨⟨⟨⟨h1, h2⟩, h3⟩, h4⟩, h5⟩ := h
  refine ⟨⟨⟨⟨h1, h2⟩, ?_⟩, h4⟩, ?_⟩
  · rcases h3 with h | rfl
    · exact .inl h
    · exact .inr rfl
  · rcases h5 with h | rfl
    · exact .inl h
    · exact .inr rfl
theorem kindB_unl {k i : Int} {t : List UInt8} {v : List Vl} {y : List (Int × List UInt8)} {e : List En} (h : kindB k i t v y e = true) : kindB k i t (unlVs v) y (srtC cmpE (unlEs e)) = true := by
  unfold kindB at h ⊢
  split
  · rfl
  rename_i h1
  rw [if_neg h1] at h
  split
  · rename_i h2; rwa [if_pos h2] at h
  rename_i h2
  rw [if_neg h2] at h
  split
  · rename_i h3; rwa [if_pos h3] at h
  rename_i h3
  rw [if_neg h3] at h
  split
  · rename_i h4; rwa [if_pos h4] at h
  rename_i h4
  rw [if_neg h4] at h
  split
  · rename_i h5; rw [if_pos h5] at h
    rwa [unlVs_map, List.length_map]
  rename_i h5
  rw [if_neg h5] at h
  split
  · rename_i h6; rw [if_pos h6] at h
    exact consB_unl h
  rename_i h6
  rw [if_neg h6] at h
  split
  · rename_i h7; rw [if_pos h7] at h
    rwa [unlVs_map, List.length_map]
  rename_i h7
  rw [if_neg h7] at h
  split
  · rename_i h8; rw [if_pos h8] at h
    simp only [Bool.and_eq_true, List.all_eq_true, decide_eq_true_eq] at h ⊢
    refine ⟨⟨h.1.1, fun x hx => ?_⟩, asc_srtC totE _⟩
    obtain ⟨u, hu, rfl⟩ := unlEs_mem hx
    exact entB_unl (h.1.2 u hu)
  · rename_i h8; rwa [if_neg h8] at h
mutual
theorem okV_unl : ∀ v : Vl, okV v = true → okV (unl v) = true
  | .mk k i t v y e l, h => by
    unfold okV at h
    simp only [Bool.and_eq_true] at h
    obtain ⟨⟨⟨⟨_, h2⟩, h3⟩, h4⟩, h5⟩ := h
    unfold unl okV
    simp only [Bool.and_eq_true]
    refine ⟨⟨⟨⟨rfl, usesB_unl h2⟩, kindB_unl h3⟩, okVs_unl v h4⟩, ?_⟩
    rw [okEs_all, List.all_eq_true]
    intro x hx
    obtain ⟨u, hu, rfl⟩ := unlEs_mem hx
    exact okEs_unl e h5 u hu
theorem okVs_unl : ∀ l : List Vl, okVs l = true → okVs (unlVs l) = true
  | [], _ => rfl
  | a :: s, h => by
    unfold okVs at h
    simp only [Bool.and_eq_true] at h
    unfold unlVs okVs
    simp only [Bool.and_eq_true]
    exact ⟨okV_unl a h.1, okVs_unl s h.2⟩
theorem okE_unl : ∀ e : En, okE e = true → okE (unlE e) = true
  | .mk a f r, h => by
    unfold okE at h
    simp only [Bool.and_eq_true, Bool.or_eq_true] at h
    unfold unlE okE
    simp only [Bool.and_eq_true, Bool.or_eq_true]
    refine ⟨okVs_unl a h.1, ?_⟩
    rcases h.2 with h | h
    · exact .inl h
    · exact .inr (okV_unl r h)
theorem okEs_unl : ∀ l : List En, okEs l = true → ∀ u, u ∈ l → okE (unlE u) = true
  | [], _, _, hu => absurd hu (by simp)
  | a :: s, h, u, hu => by
    unfold okEs at h
    simp only [Bool.and_eq_true] at h
    rcases List.mem_cons.1 hu with e | hu
    · rw [e]; exact okE_unl a h.1
    · exact okEs_unl s h.2 u hu
end
mutual
/-- the number of nodes -/
def nodes : Vl → Nat
  | .mk _ _ _ v _ e _ => 1 + nodesVs v + nodesEs e
def nodesVs : List Vl → Nat
  | [] => 0
  | a :: s => nodes a + nodesVs s
def nodesE : En → Nat
  | .mk a f r => nodesVs a + if f then 0 else nodes r
def nodesEs : List En → Nat
  | [] => 0
  | a :: s => nodesE a + nodesEs s
end
mutual
def high : Vl → Nat
  | .mk _ _ _ v _ e _ => max (highVs v) (highEs e) + 1
def highVs : List Vl → Nat
  | [] => 0
  | a :: s => max (high a) (highVs s)
def highE : En → Nat
  | .mk a f r => max (highVs a) (if f then 0 else high r)
def highEs : List En → Nat
  | [] => 0
  | a :: s => max (highE a) (highEs s)
end
theorem nodesVs_snoc (l : List Vl) (x : Vl) : nodesVs (l ++ [x]) = nodesVs l + nodes x := by
  induction l with
  | nil => simp [nodesVs]
  | cons a s ih => simp only [List.cons_append, nodesVs, ih]; omega
theorem nodesEs_snoc (l : List En) (x : En) : nodesEs (l ++ [x]) = nodesEs l + nodesE x := by
  induction l with
  | nil => simp [nodesEs]
  | cons a s ih => simp only [List.cons_append, nodesEs, ih]; omega
theorem highVs_snoc (l : List Vl) (x : Vl) : highVs (l ++ [x]) = max (highVs l) (high x) := by
  induction l with
  | nil => simp [highVs]
  | cons a s ih => simp only [List.cons_append, highVs, ih]; omega
theorem highEs_snoc (l : List En) (x : En) : highEs (l ++ [x]) = max (highEs l) (highE x) := by
  induction l with
  | nil => simp [highEs]
  | cons a s ih => simp only [List.cons_append, highEs, ih]; omega
end Go.Proofs.YtplmbmecjhmiiaaDoor
