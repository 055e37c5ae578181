/- Reduced ordered decision diagrams as lists of nodes: the one list of nodes of a Boolean function. No program is named. -/
namespace Go.Proofs.YtplmbmecjhmiiaaDoor
/-- a node: literal, high, low; a reference: 0, 1 for the constants, i + 2 for node i -/
structure Nd where
  l : Nat
  h : Nat
  o : Nat
deriving DecidableEq
/-- a Boolean function of literals -/
abbrev BF := (Nat → Bool) → Bool
def ffB : BF := fun _ => false
def ttB : BF := fun _ => true
/-- the function of a node over the functions of the references before it -/
def ndB (T : List BF) (n : Nd) : BF := fun s => if s n.l then (T[n.h]?.getD ffB) s else (T[n.o]?.getD ffB) s
def dens (ns : List Nd) : List BF := ns.foldl (fun T n => T ++ [ndB T n]) [ffB, ttB]
theorem rev_all {α : Type} {P : List α → Prop} (h0 : P []) (h1 : ∀ l a, P l → P (l ++ [a])) : ∀ (n : Nat) (l : List α), l.length = n → P l
  | 0, l, h => by rw [List.eq_nil_of_length_eq_zero h]; exact h0
  | n + 1, l, h => by
    have hne : l ≠ [] := fun e => by rw [e] at h; simp at h
    rw [← List.dropLast_concat_getLast hne]
    exact h1 _ _ (rev_all h0 h1 n _ (by rw [List.length_dropLast]; omega))
theorem rev_ind {α : Type} {P : List α → Prop} (h0 : P []) (h1 : ∀ l a, P l → P (l ++ [a])) (l : List α) : P l := rev_all h0 h1 _ l rfl
theorem dens_snoc (ns : List Nd) (n : Nd) : dens (ns ++ [n]) = dens ns ++ [ndB (dens ns) n] := by simp [dens]
theorem dens_len (ns : List Nd) : (dens ns).length = ns.length + 2 := by
  refine rev_ind (P := fun ns => (dens ns).length = ns.length + 2) rfl (fun ns n ih => ?_) ns
  rw [dens_snoc, List.length_append, List.length_append, ih]
  simp
/-- the function of a reference -/
def F (ns : List Nd) (r : Nat) : BF := ((dens ns)[r]?).getD ffB
theorem F_snoc {ns : List Nd} {n : Nd} {r : Nat} (h : r < ns.length + 2) : F (ns ++ [n]) r = F ns r := by
  unfold F
  rw [dens_snoc, List.getElem?_append_left (by rw [dens_len]; exact h)]
theorem F_app {ns ms : List Nd} {r : Nat} (h : r < ns.length + 2) : F (ns ++ ms) r = F ns r := by
  refine rev_ind (P := fun ms => F (ns ++ ms) r = F ns r) (by simp) (fun ms n ih => ?_) ms
  rw [← List.append_assoc, F_snoc (by rw [List.length_append]; omega), ih]
theorem F_zero (ns : List Nd) : F ns 0 = ffB := by
  have := F_app (ns := []) (ms := ns) (r := 0) (by simp)
  rw [List.nil_append] at this
  rw [this]; rfl
theorem F_one (ns : List Nd) : F ns 1 = ttB := by
  have := F_app (ns := []) (ms := ns) (r := 1) (by simp)
  rw [List.nil_append] at this
  rw [this]; rfl
theorem F_last (ns : List Nd) (n : Nd) (s : Nat → Bool) : F (ns ++ [n]) (ns.length + 2) s = if s n.l then F ns n.h s else F ns n.o s := by
  unfold F
  rw [dens_snoc, List.getElem?_append_right (by rw [dens_len]; omega), dens_len]
  simp [ndB]
/-- the literal of a reference: 12 for the constants -/
def litR (ns : List Nd) (r : Nat) : Nat := if r < 2 then 12 else (ns[r - 2]?.map Nd.l).getD 12
/-- node i of the list is in order -/
def OkN (ns : List Nd) (i : Nat) (n : Nd) : Prop := n.l < 12 ∧ n.h < i + 2 ∧ n.o < i + 2 ∧ n.l < litR ns n.h ∧ n.l < litR ns n.o
/-- an ordered list of nodes -/
def Ord (ns : List Nd) : Prop := ∀ (i : Nat) (n : Nd), ns[i]? = some n → OkN ns i n
/-- .. which is reduced -/
structure Good (ns : List Nd) : Prop where
  ord : Ord ns
  red : ∀ (i : Nat) (n : Nd), ns[i]? = some n → n.h ≠ n.o
  inj : ∀ (i j : Nat) (n : Nd), ns[i]? = some n → ns[j]? = some n → i = j
theorem litR_app {ns ms : List Nd} {r : Nat} (h : r < ns.length + 2) : litR (ns ++ ms) r = litR ns r := by
  unfold litR
  split
  · rfl
  · rw [List.getElem?_append_left (by omega)]
theorem F_node {ns : List Nd} (hO : Ord ns) {i : Nat} {n : Nd} (h : ns[i]? = some n) (s : Nat → Bool) : F ns (i + 2) s = if s n.l then F ns n.h s else F ns n.o s := by
  have hi := (List.getElem?_eq_some_iff.1 h).1
  have e : ns = (ns.take i ++ [n]) ++ ns.drop (i + 1) := by
    have h1 : ns.take i ++ [n] = ns.take (i + 1) := by rw [List.take_add_one, h]; rfl
    rw [h1, List.take_append_drop]
  have hl : (ns.take i).length = i := by rw [List.length_take]; omega
  obtain ⟨_, h2, h3, _, _⟩ := hO i n h
  have a1 : F ns (i + 2) = F (ns.take i ++ [n]) (i + 2) := by
    rw [congrArg (fun x => F x (i + 2)) e]
    exact F_app (by rw [List.length_append, hl]; simp)
  have a2 : ∀ r, r < i + 2 → F ns r = F (ns.take i) r := by
    intro r hr
    rw [congrArg (fun x => F x r) e, List.append_assoc]
    exact F_app (by rw [hl]; exact hr)
  rw [a1, a2 _ h2, a2 _ h3]
  have := F_last (ns.take i) n s
  rw [hl] at this
  exact this
theorem litR_node {ns : List Nd} {i : Nat} {n : Nd} (h : ns[i]? = some n) : litR ns (i + 2) = n.l := by
  unfold litR
  rw [if_neg (by omega), show i + 2 - 2 = i by omega, h]
  rfl
theorem litR_le (ns : List Nd) (hO : Ord ns) (r : Nat) : litR ns r ≤ 12 := by
  unfold litR
  split
  · omega
  · rename_i h
    cases hn : ns[r - 2]? with
    | none => simp
    | some n => have := (hO _ n hn).1; simp; omega
/-- a reference's function does not look at literals before its own -/
theorem F_dep {ns : List Nd} (hO : Ord ns) : ∀ (N r : Nat), r < N → r < ns.length + 2 → ∀ s t : Nat → Bool, (∀ x, litR ns r ≤ x → x < 12 → s x = t x) → F ns r s = F ns r t
  | 0, _, h, _, _, _, _ => absurd h (by omega)
  | N + 1, r, hr, hl, s, t, he => by
    by_cases h2 : r < 2
    · have : r = 0 ∨ r = 1 := by omega
      rcases this with rfl | rfl
      · rw [F_zero]; rfl
      · rw [F_one]; rfl
    · obtain ⟨i, rfl⟩ : ∃ i, r = i + 2 := ⟨r - 2, by omega⟩
      have hi : i < ns.length := by omega
      have hn : ns[i]? = some ns[i] := List.getElem?_eq_getElem hi
      obtain ⟨g1, g2, g3, g4, g5⟩ := hO i _ hn
      rw [F_node hO hn, F_node hO hn]
      rw [litR_node hn] at he
      rw [he _ (Nat.le_refl _) g1]
      rw [F_dep hO N _ (by omega) (by omega) s t fun x hx h12 => he x (by omega) h12, F_dep hO N _ (by omega) (by omega) s t fun x hx h12 => he x (by omega) h12]
/-- s with the literal l set -/
def upd (s : Nat → Bool) (l : Nat) (b : Bool) : Nat → Bool := fun x => if x = l then b else s x
theorem upd_same (s : Nat → Bool) (l : Nat) (b : Bool) : upd s l b l = b := by simp [upd]
theorem upd_other (s : Nat → Bool) {l x : Nat} (b : Bool) (h : x ≠ l) : upd s l b x = s x := by simp [upd, h]
theorem upd_self (s : Nat → Bool) (l : Nat) : upd s l (s l) = s := by
  funext x
  by_cases h : x = l
  · rw [h, upd_same]
  · rw [upd_other _ _ h]
/-- high and low as restrictions -/
theorem F_upd {ns : List Nd} (hO : Ord ns) {i : Nat} {n : Nd} (h : ns[i]? = some n) (s : Nat → Bool) (b : Bool) : F ns (i + 2) (upd s n.l b) = F ns (if b then n.h else n.o) s := by
  have hi := (List.getElem?_eq_some_iff.1 h).1
  obtain ⟨_, h2, h3, h4, h5⟩ := hO i n h
  rw [F_node hO h, upd_same]
  cases b
  · exact F_dep hO _ _ (Nat.lt_succ_self _) (by omega) _ _ fun x hx _ => upd_other _ _ (by omega)
  · exact F_dep hO _ _ (Nat.lt_succ_self _) (by omega) _ _ fun x hx _ => upd_other _ _ (by omega)
/-- equal functions have equal references -/
theorem canon {ns : List Nd} (hG : Good ns) : ∀ (N r1 r2 : Nat), r1 < N → r2 < N → r1 < ns.length + 2 → r2 < ns.length + 2 → F ns r1 = F ns r2 → r1 = r2
  | 0, _, _, h, _, _, _, _ => absurd h (by omega)
  | N + 1, r1, r2, h1, h2, hl1, hl2, he => by
    have key : ∀ r q : Nat, r < N + 1 → q < N + 1 → r < ns.length + 2 → q < ns.length + 2 → F ns r = F ns q → litR ns r < litR ns q → False := by
      intro r q hr hq hlr hlq hrq hlt
      have hle := litR_le ns hG.ord q
      have hr2 : ¬ r < 2 := fun h => by have : litR ns r = 12 := by unfold litR; rw [if_pos h]
                                        omega
      obtain ⟨i, rfl⟩ : ∃ i, r = i + 2 := ⟨r - 2, by omega⟩
      have hi : i < ns.length := by omega
      have hn : ns[i]? = some ns[i] := List.getElem?_eq_getElem hi
      obtain ⟨g1, g2, g3, g4, g5⟩ := hG.ord i _ hn
      rw [litR_node hn] at hlt
      refine hG.red i _ hn (canon hG N _ _ (by omega) (by omega) (by omega) (by omega) ?_)
      funext s
      have a1 := F_upd hG.ord hn s true
      have a2 := F_upd hG.ord hn s false
      simp only [if_true] at a1
      simp only [Bool.false_eq_true, if_false] at a2
      rw [← a1, ← a2, hrq]
      exact F_dep hG.ord _ _ (Nat.lt_succ_self _) hlq _ _ fun x hx _ => by rw [upd_other _ _ (by omega), upd_other _ _ (by omega)]
    rcases Nat.lt_trichotomy (litR ns r1) (litR ns r2) with hlt | heq | hgt
    · exact (key r1 r2 h1 h2 hl1 hl2 he hlt).elim
    · by_cases c1 : r1 < 2
      · by_cases c2 : r2 < 2
        · have e1 : r1 = 0 ∨ r1 = 1 := by omega
          have e2 : r2 = 0 ∨ r2 = 1 := by omega
          rcases e1 with rfl | rfl <;> rcases e2 with rfl | rfl
          · rfl
          · rw [F_zero, F_one] at he
            exact absurd (congrFun he fun _ => false) (by simp [ffB, ttB])
          · rw [F_zero, F_one] at he
            exact absurd (congrFun he fun _ => false) (by simp [ffB, ttB])
          · rfl
        · have e1 : litR ns r1 = 12 := by unfold litR; rw [if_pos c1]
          obtain ⟨i, rfl⟩ : ∃ i, r2 = i + 2 := ⟨r2 - 2, by omega⟩
          have hn : ns[i]? = some (ns[i]'(by omega)) := List.getElem?_eq_getElem _
          have := (hG.ord i _ hn).1
          rw [litR_node hn] at heq
          omega
      · obtain ⟨i, rfl⟩ : ∃ i, r1 = i + 2 := ⟨r1 - 2, by omega⟩
        have hn : ns[i]? = some (ns[i]'(by omega)) := List.getElem?_eq_getElem _
        obtain ⟨g1, g2, g3, g4, g5⟩ := hG.ord i _ hn
        rw [litR_node hn] at heq
        by_cases c2 : r2 < 2
        · have e1 : litR ns r2 = 12 := by unfold litR; rw [if_pos c2]
          omega
        · obtain ⟨j, rfl⟩ : ∃ j, r2 = j + 2 := ⟨r2 - 2, by omega⟩
          have hm : ns[j]? = some (ns[j]'(by omega)) := List.getElem?_eq_getElem _
          obtain ⟨m1, m2, m3, m4, m5⟩ := hG.ord j _ hm
          rw [litR_node hm] at heq
          generalize hA : ns[i] = A at *
          generalize hB : ns[j] = B at *
          have eh : A.h = B.h := canon hG N _ _ (by omega) (by omega) (by omega) (by omega) (by
            funext s
            have a1 := F_upd hG.ord hn s true
            have a2 := F_upd hG.ord hm s true
            simp only [if_true] at a1 a2
            rw [← a1, ← a2, he, heq])
          have eo : A.o = B.o := canon hG N _ _ (by omega) (by omega) (by omega) (by omega) (by
            funext s
            have a1 := F_upd hG.ord hn s false
            have a2 := F_upd hG.ord hm s false
            simp only [Bool.false_eq_true, if_false] at a1 a2
            rw [← a1, ← a2, he, heq])
          have eAB : A = B := by
            cases A; cases B
            simp only at eh eo heq
            subst eh eo heq
            rfl
          rw [← eAB] at hm
          rw [hG.inj i j A hn hm]
    · exact (key r2 r1 h2 h1 hl2 hl1 he.symm hgt).elim
end Go.Proofs.YtplmbmecjhmiiaaDoor
