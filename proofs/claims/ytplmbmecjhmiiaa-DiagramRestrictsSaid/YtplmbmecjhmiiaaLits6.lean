/- The literals of the nodes of a Boolean function are just those on which it depends. No program is named. -/
import Derived.Test.YtplmbmecjhmiiaaBddC
namespace Go.Proofs.Ytplmbmecjhmiiaa
/-- what is handed back looks at no literal at which f doesn't look -/
theorem bld_refInd {k : Nat} (hk : k ≤ 12) {f : BF} (hf : F12 f) (s : Nat → Bool) {ns : List Nd} (hG : Good ns) {x : Nat} (hx : Ind f x) : Ind (F (bld k f s ns).1 (bld k f s ns).2) x := by
  obtain ⟨_, G, l, t, Fk⟩ := bld_ok k hk f hf s ns hG
  intro u b
  have e : ∀ u : Nat → Bool, F (bld k f s ns).1 (bld k f s ns).2 u = f (fun y => if y < 12 - k then s y else u y) := fun u => by
    rw [← Fk (fun y => if y < 12 - k then s y else u y) (fun y hy => by simp [hy])]
    exact F_dep G.ord _ _ (Nat.lt_succ_self _) l _ _ fun y hy _ => by
      rw [if_neg (by omega)]
  rw [e, e]
  by_cases h : x < 12 - k
  · refine congrArg f ?_
    funext y
    by_cases hy : y < 12 - k
    · simp [hy]
    · simp only [hy, if_false]; exact upd_other _ _ (by omega)
  · rw [← hx (fun y => if y < 12 - k then s y else u y) b]
    refine congrArg f ?_
    funext y
    by_cases hy : y < 12 - k
    · simp only [hy, if_true]; rw [upd_other _ _ (by omega)]; simp [hy]
    · by_cases hyx : y = x
      · subst hyx; simp [hy, upd_same]
      · simp only [hy, if_false]; rw [upd_other _ _ hyx, upd_other _ _ hyx]; simp [hy]
/-- nor does any node that was added -/
theorem bld_nodes : ∀ (k : Nat), k ≤ 12 → ∀ (f : BF), F12 f → ∀ (s : Nat → Bool) (ns : List Nd), Good ns → ∀ i, ns.length ≤ i → i < (bld k f s ns).1.length → ∀ x, Ind f x → Ind (F (bld k f s ns).1 (i + 2)) x
  | 0, _, f, hf, s, ns, hG, i, hi, hl, x, hx => by
    simp only [bld] at hl
    omega
  | k + 1, hk, f, hf, s, ns, hG, i, hi, hl, x, hx => by
    obtain ⟨⟨m1, e1⟩, G1, l1, t1, F1⟩ := bld_ok k (by omega) f hf (upd s (11 - k) true) ns hG
    obtain ⟨⟨m2, e2⟩, G2, l2, t2, F2⟩ := bld_ok k (by omega) f hf (upd s (11 - k) false) (bld k f (upd s (11 - k) true) ns).1 G1
    have ref := bld_refInd hk hf s hG hx
    have IH1 := bld_nodes k (by omega) f hf (upd s (11 - k) true) ns hG i hi
    have IH2 := bld_nodes k (by omega) f hf (upd s (11 - k) false) _ G1 i
    have hb : bld (k + 1) f s ns = mkN (bld k f (upd s (11 - k) false) (bld k f (upd s (11 - k) true) ns).1).1 (11 - k) (bld k f (upd s (11 - k) true) ns).2 (bld k f (upd s (11 - k) false) (bld k f (upd s (11 - k) true) ns).1).2 := rfl
    rw [hb] at ref hl ⊢
    generalize bld k f (upd s (11 - k) true) ns = a at *
    generalize bld k f (upd s (11 - k) false) a.1 = b at *
    obtain ⟨n1, h⟩ := a
    obtain ⟨n2, o⟩ := b
    simp only at e1 e2 G1 G2 l1 l2 IH1 IH2 ref hl ⊢
    have old : i < n2.length → Ind (F n2 (i + 2)) x := fun hi2 => by
      by_cases h1 : i < n1.length
      · rw [e2, F_app (by omega)]; exact IH1 h1 x hx
      · exact IH2 (by omega) hi2 x hx
    unfold mkN at ref hl ⊢
    split
    · rename_i hho
      rw [if_pos hho] at hl
      exact old hl
    · rename_i hho
      rw [if_neg hho] at ref hl
      split
      · rename_i hm
        rw [if_pos hm] at hl
        exact old hl
      · rename_i hm
        rw [if_neg hm] at ref hl
        simp only [List.length_append, List.length_singleton] at hl
        by_cases h2 : i < n2.length
        · rw [F_app (by omega)]; exact old h2
        · obtain rfl : i = n2.length := by omega
          exact ref
/-- a node's own literal is one on which f depends -/
theorem can_dep {f : BF} (hf : F12 f) {n : Nd} (hn : n ∈ (can f []).1) : ¬ Ind f n.l := fun hx => by
  obtain ⟨_, hG, hr, hF⟩ := can_ok hf Good_nil
  obtain ⟨i, hi⟩ := List.getElem?_of_mem hn
  have hil := (List.getElem?_eq_some_iff.1 hi).1
  have hI : Ind (F (can f []).1 (i + 2)) n.l := bld_nodes 12 (Nat.le_refl _) f hf (fun _ => false) [] Good_nil i (Nat.zero_le _) hil _ hx
  obtain ⟨g1, g2, g3, g4, g5⟩ := hG.ord i n hi
  refine hG.red i n hi (canon hG _ _ _ (Nat.lt_succ_of_le (Nat.le_max_left n.h n.o)) (Nat.lt_succ_of_le (Nat.le_max_right n.h n.o)) (by omega) (by omega) ?_)
  funext s
  have a1 := F_upd hG.ord hi s true
  have a2 := F_upd hG.ord hi s false
  simp only [if_true] at a1
  simp only [Bool.false_eq_true, if_false] at a2
  rw [← a1, ← a2, hI, hI]
/-- a literal of no node is one on which no reference depends -/
theorem F_free {ns : List Nd} (hO : Ord ns) {x : Nat} (hx : ∀ n, n ∈ ns → n.l ≠ x) : ∀ (N r : Nat), r < N → r < ns.length + 2 → Ind (F ns r) x
  | 0, _, h, _ => absurd h (by omega)
  | N + 1, r, hr, hl => by
    by_cases h2 : r < 2
    · have : r = 0 ∨ r = 1 := by omega
      rcases this with rfl | rfl
      · rw [F_zero]; intro s b; rfl
      · rw [F_one]; intro s b; rfl
    · obtain ⟨i, rfl⟩ : ∃ i, r = i + 2 := ⟨r - 2, by omega⟩
      have hn : ns[i]? = some (ns[i]'(by omega)) := List.getElem?_eq_getElem _
      obtain ⟨g1, g2, g3, g4, g5⟩ := hO i _ hn
      have hne := hx _ (List.mem_of_getElem? hn)
      intro s b
      rw [F_node hO hn, F_node hO hn, upd_other _ _ hne, F_free hO hx N _ (by omega) (by omega) s b, F_free hO hx N _ (by omega) (by omega) s b]
theorem lit_iff {f : BF} (hf : F12 f) (x : Nat) : (∃ n, n ∈ (can f []).1 ∧ n.l = x) ↔ ¬ Ind f x := by
  obtain ⟨_, hG, hr, hF⟩ := can_ok hf Good_nil
  constructor
  · rintro ⟨n, hn, rfl⟩
    exact can_dep hf hn
  · intro h
    apply Classical.byContradiction
    intro hne
    refine h ?_
    have := F_free hG.ord (x := x) (fun n hn e => hne ⟨n, hn, e⟩) _ _ (Nat.lt_succ_self _) hr
    rw [hF] at this
    exact this
theorem ind_iff {f : BF} {x : Nat} : Ind f x ↔ cut f x true = cut f x false := by
  constructor
  · intro h
    funext s
    exact (h s true).trans (h s false).symm
  · intro h s b
    have e : ∀ b, f (upd s x b) = f (upd s x true) := fun b => by
      cases b
      · exact (congrFun h s).symm
      · rfl
    rw [e b, ← e (s x), upd_self]
/-- a function is put together from its restrictions -/
theorem split_cut (f : BF) (x : Nat) : (fun s => (s x && cut f x true s) || (!s x && cut f x false s)) = f := by
  funext s
  have h := congrArg f (upd_self s x)
  unfold cut
  cases hb : s x
  · rw [hb] at h; rw [← h]; simp
  · rw [hb] at h; rw [← h]; simp
end Go.Proofs.Ytplmbmecjhmiiaa
