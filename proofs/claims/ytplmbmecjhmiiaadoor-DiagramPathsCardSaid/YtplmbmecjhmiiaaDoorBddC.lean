/- Building the diagram of a Boolean function: what is built is determined, and nothing is built twice. No program is named. -/
import Derived.Test.YtplmbmecjhmiiaaDoorBdd
namespace Go.Proofs.YtplmbmecjhmiiaaDoor
/-- the reference of a node, added where it lacks -/
def mkN (ns : List Nd) (l h o : Nat) : List Nd × Nat :=
  if h = o then (ns, h) else if (⟨l, h, o⟩ : Nd) ∈ ns then (ns, ns.idxOf ⟨l, h, o⟩ + 2) else (ns ++ [⟨l, h, o⟩], ns.length + 2)
theorem mkN_same (ns : List Nd) (l h : Nat) : mkN ns l h h = (ns, h) := by simp [mkN]
theorem mkN_old {ns : List Nd} (hG : Good ns) {i l h o : Nat} (hi : ns[i]? = some ⟨l, h, o⟩) : mkN ns l h o = (ns, i + 2) := by
  have hne : h ≠ o := hG.red i _ hi
  have hm : (⟨l, h, o⟩ : Nd) ∈ ns := List.mem_of_getElem? hi
  unfold mkN
  rw [if_neg hne, if_pos hm]
  have hlt := List.idxOf_lt_length_iff.2 hm
  have he : ns[ns.idxOf (⟨l, h, o⟩ : Nd)]? = some ⟨l, h, o⟩ := by rw [List.getElem?_eq_getElem hlt, List.getElem_idxOf]
  rw [hG.inj _ _ _ he hi]
theorem mkN_new {ns : List Nd} {l h o : Nat} (hne : h ≠ o) (hn : (⟨l, h, o⟩ : Nd) ∉ ns) : mkN ns l h o = (ns ++ [⟨l, h, o⟩], ns.length + 2) := by
  unfold mkN
  rw [if_neg hne, if_neg hn]
theorem Ord_app {ns : List Nd} {n : Nd} (hO : Ord ns) (hn : OkN ns ns.length n) : Ord (ns ++ [n]) := by
  have up : ∀ i m, i ≤ ns.length → OkN ns i m → OkN (ns ++ [n]) i m := fun i m hi ⟨g1, g2, g3, g4, g5⟩ =>
    ⟨g1, g2, g3, by rw [litR_app (by omega)]; exact g4, by rw [litR_app (by omega)]; exact g5⟩
  intro i m hm
  by_cases hi : i < ns.length
  · rw [List.getElem?_append_left hi] at hm
    exact up i m (by omega) (hO i m hm)
  · have h2 := (List.getElem?_eq_some_iff.1 hm).1
    rw [List.length_append, List.length_singleton] at h2
    obtain rfl : i = ns.length := by omega
    rw [List.getElem?_append_right (Nat.le_refl _), Nat.sub_self] at hm
    simp at hm
    subst hm
    exact up _ _ (Nat.le_refl _) hn
theorem Good_app {ns : List Nd} {n : Nd} (hG : Good ns) (hn : OkN ns ns.length n) (hr : n.h ≠ n.o) (hm : n ∉ ns) : Good (ns ++ [n]) := by
  have at' : ∀ i m, (ns ++ [n])[i]? = some m → (i < ns.length ∧ ns[i]? = some m) ∨ (i = ns.length ∧ m = n) := by
    intro i m h
    by_cases hi : i < ns.length
    · rw [List.getElem?_append_left hi] at h
      exact .inl ⟨hi, h⟩
    · have h2 := (List.getElem?_eq_some_iff.1 h).1
      rw [List.length_append, List.length_singleton] at h2
      obtain rfl : i = ns.length := by omega
      rw [List.getElem?_append_right (Nat.le_refl _), Nat.sub_self] at h
      simp at h
      exact .inr ⟨rfl, h.symm⟩
  refine ⟨Ord_app hG.ord hn, fun i m h => ?_, fun i j m h1 h2 => ?_⟩
  · rcases at' i m h with ⟨_, h⟩ | ⟨_, rfl⟩
    · exact hG.red i m h
    · exact hr
  · rcases at' i m h1 with ⟨_, g1⟩ | ⟨e1, rfl⟩
    · rcases at' j m h2 with ⟨_, g2⟩ | ⟨_, rfl⟩
      · exact hG.inj i j m g1 g2
      · exact absurd (List.mem_of_getElem? g1) hm
    · rcases at' j m h2 with ⟨_, g2⟩ | ⟨e2, _⟩
      · exact absurd (List.mem_of_getElem? g2) hm
      · rw [e1, e2]
theorem Good_nil : Good [] := ⟨fun i n h => by simp at h, fun i n h => by simp at h, fun i j n h => by simp at h⟩
/-- f looks at the twelve literals alone -/
def F12 (f : BF) : Prop := ∀ s t : Nat → Bool, (∀ x, x < 12 → s x = t x) → f s = f t
/-- the nodes of f, where the literals before 12 - k are as s says, added behind ns; and the reference -/
def bld : Nat → BF → (Nat → Bool) → List Nd → List Nd × Nat
  | 0, f, s, ns => (ns, if f s then 1 else 0)
  | k + 1, f, s, ns =>
    let a := bld k f (upd s (11 - k) true) ns
    let b := bld k f (upd s (11 - k) false) a.1
    mkN b.1 (11 - k) a.2 b.2
theorem bld_ok : ∀ (k : Nat), k ≤ 12 → ∀ (f : BF), F12 f → ∀ (s : Nat → Bool) (ns : List Nd), Good ns →
    (∃ ms, (bld k f s ns).1 = ns ++ ms) ∧ Good (bld k f s ns).1 ∧ (bld k f s ns).2 < (bld k f s ns).1.length + 2 ∧ 12 - k ≤ litR (bld k f s ns).1 (bld k f s ns).2 ∧
      ∀ t : Nat → Bool, (∀ x, x < 12 - k → t x = s x) → F (bld k f s ns).1 (bld k f s ns).2 t = f t
  | 0, _, f, hf, s, ns, hG => by
    refine ⟨⟨[], by simp [bld]⟩, hG, ?_, ?_, fun t ht => ?_⟩
    · simp only [bld]; split <;> omega
    · simp only [bld]; unfold litR; split <;> simp
    · simp only [bld]
      have hft : f t = f s := hf _ _ fun x hx => ht x (by omega)
      rw [hft]
      cases f s
      · simp [F_zero, ffB]
      · simp [F_one, ttB]
  | k + 1, hk, f, hf, s, ns, hG => by
    obtain ⟨⟨m1, e1⟩, G1, l1, t1, F1⟩ := bld_ok k (by omega) f hf (upd s (11 - k) true) ns hG
    obtain ⟨⟨m2, e2⟩, G2, l2, t2, F2⟩ := bld_ok k (by omega) f hf (upd s (11 - k) false) (bld k f (upd s (11 - k) true) ns).1 G1
    have hb : bld (k + 1) f s ns = mkN (bld k f (upd s (11 - k) false) (bld k f (upd s (11 - k) true) ns).1).1 (11 - k) (bld k f (upd s (11 - k) true) ns).2 (bld k f (upd s (11 - k) false) (bld k f (upd s (11 - k) true) ns).1).2 := rfl
    rw [hb]
    generalize bld k f (upd s (11 - k) true) ns = a at *
    generalize bld k f (upd s (11 - k) false) a.1 = b at *
    obtain ⟨n1, h⟩ := a
    obtain ⟨n2, o⟩ := b
    simp only at e1 e2 G1 G2 l1 l2 t1 t2 F1 F2 ⊢
    have hl2 : h < n2.length + 2 := by rw [e2, List.length_append]; omega
    have th : litR n2 h = litR n1 h := by rw [e2]; exact litR_app l1
    have FH : ∀ t : Nat → Bool, (∀ x, x < 11 - k → t x = s x) → t (11 - k) = true → F n2 h t = f t := by
      intro t ht htl
      rw [e2, F_app l1]
      refine F1 t fun x hx => ?_
      by_cases e : x = 11 - k
      · rw [e, upd_same, htl]
      · rw [upd_other _ _ e]; exact ht x (by omega)
    have FO : ∀ t : Nat → Bool, (∀ x, x < 11 - k → t x = s x) → t (11 - k) = false → F n2 o t = f t := by
      intro t ht htl
      refine F2 t fun x hx => ?_
      by_cases e : x = 11 - k
      · rw [e, upd_same, htl]
      · rw [upd_other _ _ e]; exact ht x (by omega)
    have hx : 12 - (k + 1) = 11 - k := by omega
    rw [hx]
    by_cases hho : h = o
    · subst hho
      rw [mkN_same]
      refine ⟨⟨m1 ++ m2, by rw [e2, e1, List.append_assoc]⟩, G2, l2, by rw [th]; omega, fun t ht => ?_⟩
      cases e : t (11 - k)
      · exact FO t ht e
      · exact FH t ht e
    · have hok : OkN n2 n2.length ⟨11 - k, h, o⟩ := ⟨by simp only; omega, hl2, l2, by simp only; rw [th]; omega, by simp only; omega⟩
      by_cases hm : (⟨11 - k, h, o⟩ : Nd) ∈ n2
      · obtain ⟨i, hi⟩ := List.getElem?_of_mem hm
        have hil := (List.getElem?_eq_some_iff.1 hi).1
        rw [mkN_old G2 hi]
        refine ⟨⟨m1 ++ m2, by rw [e2, e1, List.append_assoc]⟩, G2, by simp only; omega, by rw [litR_node hi]; exact Nat.le_refl _, fun t ht => ?_⟩
        rw [F_node G2.ord hi]
        cases e : t (11 - k)
        · simp only; exact FO t ht e
        · simp only; exact FH t ht e
      · rw [mkN_new hho hm]
        refine ⟨⟨m1 ++ m2 ++ [⟨11 - k, h, o⟩], by rw [e2, e1]; simp⟩, Good_app G2 hok hho hm, by simp, ?_, fun t ht => ?_⟩
        · simp only
          rw [litR_node (n := ⟨11 - k, h, o⟩) (by simp)]
          exact Nat.le_refl _
        · simp only
          rw [F_last]
          cases e : t (11 - k)
          · simp only; exact FO t ht e
          · simp only; exact FH t ht e
/-- what is there is not built again -/
theorem bld_old : ∀ (k : Nat), k ≤ 12 → ∀ (f : BF) (s : Nat → Bool) (ns : List Nd), Good ns → ∀ r, r < ns.length + 2 → 12 - k ≤ litR ns r →
    (∀ t : Nat → Bool, (∀ x, x < 12 - k → t x = s x) → F ns r t = f t) → bld k f s ns = (ns, r)
  | 0, _, f, s, ns, hG, r, hr, hl, hF => by
    have h2 : r < 2 := by
      apply Classical.byContradiction
      intro h2
      obtain ⟨i, rfl⟩ : ∃ i, r = i + 2 := ⟨r - 2, by omega⟩
      have hn : ns[i]? = some (ns[i]'(by omega)) := List.getElem?_eq_getElem _
      have := (hG.ord i _ hn).1
      rw [litR_node hn] at hl
      omega
    have h := hF s fun _ _ => rfl
    simp only [bld]
    rw [← h]
    have : r = 0 ∨ r = 1 := by omega
    rcases this with rfl | rfl
    · simp [F_zero, ffB]
    · simp [F_one, ttB]
  | k + 1, hk, f, s, ns, hG, r, hr, hl, hF => by
    have hx : 12 - (k + 1) = 11 - k := by omega
    rw [hx] at hl hF
    have hb : bld (k + 1) f s ns = mkN (bld k f (upd s (11 - k) false) (bld k f (upd s (11 - k) true) ns).1).1 (11 - k) (bld k f (upd s (11 - k) true) ns).2 (bld k f (upd s (11 - k) false) (bld k f (upd s (11 - k) true) ns).1).2 := rfl
    rw [hb]
    have sub : ∀ (b : Bool) (t : Nat → Bool), (∀ x, x < 12 - k → t x = upd s (11 - k) b x) → (∀ x, x < 11 - k → t x = s x) ∧ t (11 - k) = b := fun b t ht =>
      ⟨fun x hx => by rw [ht x (by omega), upd_other _ _ (by omega)], by rw [ht _ (by omega), upd_same]⟩
    by_cases he : litR ns r = 11 - k
    · have h2 : ¬ r < 2 := fun h2 => by have : litR ns r = 12 := by unfold litR; rw [if_pos h2]
                                        omega
      obtain ⟨i, rfl⟩ : ∃ i, r = i + 2 := ⟨r - 2, by omega⟩
      have hn : ns[i]? = some (ns[i]'(by omega)) := List.getElem?_eq_getElem _
      obtain ⟨g1, g2, g3, g4, g5⟩ := hG.ord i _ hn
      rw [litR_node hn] at he
      generalize hA : ns[i]'(by omega) = A at *
      obtain ⟨l, h, o⟩ := A
      simp only at g1 g2 g3 g4 g5 he
      subst he
      have a1 := bld_old k (by omega) f (upd s (11 - k) true) ns hG h (by omega) (by omega) fun t ht => by
        obtain ⟨q1, q2⟩ := sub true t ht
        rw [← hF t q1, F_node hG.ord hn]
        simp only [q2, if_true]
      have a2 := bld_old k (by omega) f (upd s (11 - k) false) ns hG o (by omega) (by omega) fun t ht => by
        obtain ⟨q1, q2⟩ := sub false t ht
        rw [← hF t q1, F_node hG.ord hn]
        simp only [q2, Bool.false_eq_true, if_false]
      rw [a1]
      simp only
      rw [a2]
      exact mkN_old hG hn
    · have a1 := bld_old k (by omega) f (upd s (11 - k) true) ns hG r hr (by omega) fun t ht => hF t (sub true t ht).1
      have a2 := bld_old k (by omega) f (upd s (11 - k) false) ns hG r hr (by omega) fun t ht => hF t (sub false t ht).1
      rw [a1]
      simp only
      rw [a2]
      exact mkN_same _ _ _
/-- f does not look at literal l -/
def Ind (f : BF) (l : Nat) : Prop := ∀ s b, f (upd s l b) = f s
theorem ind_many {f : BF} (hf : F12 f) {s t : Nat → Bool} (h : ∀ x, x < 12 → s x ≠ t x → Ind f x) : f s = f t := by
  have hyb : ∀ m, m ≤ 12 → f (fun x => if x < m then t x else s x) = f s := by
    intro m
    induction m with
    | zero => intro _; exact congrArg f (by funext x; simp)
    | succ m ih =>
      intro hm
      rw [← ih (by omega)]
      by_cases e : s m = t m
      · refine congrArg f ?_
        funext x
        by_cases h1 : x < m
        · simp [h1, show x < m + 1 by omega]
        · by_cases h2 : x = m
          · subst h2; simp [e]
          · simp [h1, show ¬ x < m + 1 by omega]
      · have := h m (by omega) e (fun x => if x < m then t x else s x) (t m)
        rw [← this]
        refine congrArg f ?_
        funext x
        by_cases h2 : x = m
        · subst h2; rw [upd_same]; simp
        · rw [upd_other _ _ h2]
          by_cases h1 : x < m
          · simp [h1, show x < m + 1 by omega]
          · simp [h1, show ¬ x < m + 1 by omega]
  rw [← hyb 12 (Nat.le_refl _)]
  exact hf _ _ fun x hx => by simp [hx]
theorem bld_ind {f : BF} (hf : F12 f) : ∀ (k : Nat), k ≤ 12 → ∀ (s t : Nat → Bool) (ns : List Nd), (∀ x, x < 12 - k → s x ≠ t x → Ind f x) → bld k f s ns = bld k f t ns
  | 0, _, s, t, ns, h => by
    simp only [bld]
    rw [ind_many hf fun x hx => h x (by omega)]
  | k + 1, hk, s, t, ns, h => by
    have st : ∀ (b : Bool) (ms : List Nd), bld k f (upd s (11 - k) b) ms = bld k f (upd t (11 - k) b) ms := fun b ms => bld_ind hf k (by omega) _ _ ms fun x hx hne => by
      by_cases e : x = 11 - k
      · rw [e, upd_same, upd_same] at hne; exact absurd rfl hne
      · rw [upd_other _ _ e, upd_other _ _ e] at hne; exact h x (by omega) hne
    simp only [bld]
    rw [st true ns, st false]
theorem bld_skip {f : BF} (hf : F12 f) {k : Nat} (hk : k < 12) (h : Ind f (11 - k)) (s : Nat → Bool) {ns : List Nd} (hG : Good ns) : bld (k + 1) f s ns = bld k f s ns := by
  have e : ∀ (b : Bool) (ms : List Nd), bld k f (upd s (11 - k) b) ms = bld k f s ms := fun b ms => bld_ind hf k (by omega) _ _ ms fun x hx hne => by
    by_cases e : x = 11 - k
    · rw [e]; exact h
    · rw [upd_other _ _ e] at hne; exact absurd rfl hne
  have hb : bld (k + 1) f s ns = mkN (bld k f (upd s (11 - k) false) (bld k f (upd s (11 - k) true) ns).1).1 (11 - k) (bld k f (upd s (11 - k) true) ns).2 (bld k f (upd s (11 - k) false) (bld k f (upd s (11 - k) true) ns).1).2 := rfl
  obtain ⟨_, G1, l1, t1, F1⟩ := bld_ok k (by omega) f hf s ns hG
  rw [hb, e true ns, e false, bld_old k (by omega) f s _ G1 _ l1 t1 F1]
  exact mkN_same _ _ _
theorem bld_put {f : BF} (l : Nat) (b : Bool) : ∀ (k : Nat), k ≤ 12 → l < 12 - k → ∀ (s : Nat → Bool) (ns : List Nd), bld k (fun t => f (upd t l b)) s ns = bld k f (upd s l b) ns
  | 0, _, _, s, ns => rfl
  | k + 1, hk, hl, s, ns => by
    have e : ∀ c : Bool, upd (upd s l b) (11 - k) c = upd (upd s (11 - k) c) l b := fun c => by
      funext x
      by_cases h1 : x = l
      · subst h1; rw [upd_same, upd_other _ _ (by omega), upd_same]
      · by_cases h2 : x = 11 - k
        · rw [upd_other (upd s (11 - k) c) b h1, h2, upd_same, upd_same]
        · rw [upd_other _ _ h2, upd_other _ _ h1, upd_other _ _ h1, upd_other _ _ h2]
    simp only [bld]
    rw [e true, e false, bld_put l b k (by omega) (by omega), bld_put l b k (by omega) (by omega)]
/-- the nodes of f added behind ns, and its reference -/
def can (f : BF) (ns : List Nd) : List Nd × Nat := bld 12 f (fun _ => false) ns
theorem can_ok {f : BF} (hf : F12 f) {ns : List Nd} (hG : Good ns) : (∃ ms, (can f ns).1 = ns ++ ms) ∧ Good (can f ns).1 ∧ (can f ns).2 < (can f ns).1.length + 2 ∧ F (can f ns).1 (can f ns).2 = f := by
  obtain ⟨h1, h2, h3, _, h5⟩ := bld_ok 12 (Nat.le_refl _) f hf (fun _ => false) ns hG
  exact ⟨h1, h2, h3, by funext t; exact h5 t fun x hx => absurd hx (by omega)⟩
theorem can_old {f : BF} {ns : List Nd} (hG : Good ns) {r : Nat} (hr : r < ns.length + 2) (hF : F ns r = f) : can f ns = (ns, r) :=
  bld_old 12 (Nat.le_refl _) f _ ns hG r hr (by omega) fun t _ => by rw [hF]
theorem can_ff {ns : List Nd} (hG : Good ns) : can ffB ns = (ns, 0) := can_old hG (by omega) (F_zero ns)
theorem can_tt {ns : List Nd} (hG : Good ns) : can ttB ns = (ns, 1) := can_old hG (by omega) (F_one ns)
theorem bld_skips {f : BF} (hf : F12 f) (s : Nat → Bool) {ns : List Nd} (hG : Good ns) : ∀ (j : Nat), j ≤ 12 → (∀ x, x < j → Ind f x) → bld 12 f s ns = bld (12 - j) f s ns
  | 0, _, _ => rfl
  | j + 1, hj, h => by
    rw [bld_skips hf s hG j (by omega) fun x hx => h x (by omega)]
    have e : 12 - j = (12 - (j + 1)) + 1 := by omega
    rw [e]
    exact bld_skip hf (by omega) (by rw [show 11 - (12 - (j + 1)) = j by omega]; exact h j (by omega)) s hG
/-- the function with literal l fixed -/
def cut (f : BF) (l : Nat) (b : Bool) : BF := fun s => f (upd s l b)
theorem F12_cut {f : BF} (hf : F12 f) (l : Nat) (b : Bool) : F12 (cut f l b) := fun s t h => hf _ _ fun x hx => by
  by_cases e : x = l
  · rw [e, upd_same, upd_same]
  · rw [upd_other _ _ e, upd_other _ _ e]; exact h x hx
theorem upd_comm (s : Nat → Bool) {l m : Nat} (h : l ≠ m) (b c : Bool) : upd (upd s l b) m c = upd (upd s m c) l b := by
  funext x
  by_cases h1 : x = l
  · subst h1; rw [upd_same, upd_other _ _ h, upd_same]
  · by_cases h2 : x = m
    · rw [upd_other (upd s m c) b h1, h2, upd_same, upd_same]
    · rw [upd_other _ _ h2, upd_other _ _ h1, upd_other _ _ h1, upd_other _ _ h2]
theorem upd_upd (s : Nat → Bool) (l : Nat) (b c : Bool) : upd (upd s l b) l c = upd s l c := by
  funext x
  by_cases h : x = l
  · rw [h, upd_same, upd_same]
  · rw [upd_other _ _ h, upd_other _ _ h, upd_other _ _ h]
theorem ind_cut {f : BF} {l x : Nat} (b : Bool) (h : x = l ∨ Ind f x) : Ind (cut f l b) x := fun s c => by
  unfold cut
  by_cases e : x = l
  · rw [e, upd_upd]
  · rcases h with h | h
    · exact absurd h e
    · rw [upd_comm _ e, h]
/-- the diagram of f out of those of its two restrictions, for any literal before which f looks at none -/
theorem can_step {f : BF} (hf : F12 f) {l : Nat} (hl : l < 12) (h : ∀ x, x < l → Ind f x) {ns : List Nd} (hG : Good ns) :
    can f ns = mkN (can (cut f l false) (can (cut f l true) ns).1).1 l (can (cut f l true) ns).2 (can (cut f l false) (can (cut f l true) ns).1).2 := by
  have c : ∀ (b : Bool) (ms : List Nd), Good ms → can (cut f l b) ms = bld (11 - l) f (upd (fun _ => false) l b) ms := by
    intro b ms hm
    unfold can
    rw [bld_skips (F12_cut hf l b) _ hm (l + 1) (by omega) fun x hx => ind_cut b (by rcases Nat.lt_or_eq_of_le (Nat.le_of_lt_succ hx) with h1 | h1; exact .inr (h x h1); exact .inl h1), show 12 - (l + 1) = 11 - l by omega]
    exact bld_put l b (11 - l) (by omega) (by omega) _ ms
  have G1 : Good (can (cut f l true) ns).1 := (can_ok (F12_cut hf l true) hG).2.1
  rw [c false _ G1]
  rw [c true _ hG]
  unfold can
  rw [bld_skips hf _ hG l (by omega) h, show 12 - l = (11 - l) + 1 by omega]
  simp only [bld]
  rw [show 11 - (11 - l) = l by omega]
theorem mkN_len (ns : List Nd) (l h o : Nat) : (mkN ns l h o).1.length ≤ ns.length + 1 := by
  unfold mkN
  split
  · simp
  · split
    · simp
    · simp
theorem bld_len (f : BF) : ∀ (k : Nat) (s : Nat → Bool) (ns : List Nd), (bld k f s ns).1.length + 1 ≤ ns.length + 2 ^ k
  | 0, s, ns => by simp [bld]
  | k + 1, s, ns => by
    have h1 := bld_len f k (upd s (11 - k) true) ns
    have h2 := bld_len f k (upd s (11 - k) false) (bld k f (upd s (11 - k) true) ns).1
    simp only [bld]
    have h3 := mkN_len (bld k f (upd s (11 - k) false) (bld k f (upd s (11 - k) true) ns).1).1 (11 - k) (bld k f (upd s (11 - k) true) ns).2 (bld k f (upd s (11 - k) false) (bld k f (upd s (11 - k) true) ns).1).2
    rw [Nat.pow_succ]
    omega
theorem can_len {f : BF} (hf : F12 f) {l : Nat} (hl : l ≤ 12) (h : ∀ x, x < l → Ind f x) {ns : List Nd} (hG : Good ns) : (can f ns).1.length + 1 ≤ ns.length + 2 ^ (12 - l) := by
  unfold can
  rw [bld_skips hf _ hG l hl h]
  exact bld_len f _ _ _
theorem F12_F {ns : List Nd} (hO : Ord ns) {r : Nat} (hr : r < ns.length + 2) : F12 (F ns r) := fun s t h => F_dep hO _ _ (Nat.lt_succ_self _) hr s t fun x _ hx => h x hx
theorem ind_F {ns : List Nd} (hO : Ord ns) {r : Nat} (hr : r < ns.length + 2) {x : Nat} (hx : x < litR ns r) : Ind (F ns r) x := fun s b => F_dep hO _ _ (Nat.lt_succ_self _) hr _ _ fun y hy _ => upd_other _ _ (by omega)
end Go.Proofs.YtplmbmecjhmiiaaDoor
