/- Terms: two sets of literals as bits; the function of a list of terms. No program is named. -/
import Derived.Test.YtplmbmecjhmiiaaDoorHold6
import Derived.Test.YtplmbmecjhmiiaaDoorOfP6
import Derived.Lib.TrailingZeros
import Derived.Laws.Bits64b
namespace Go.Proofs.YtplmbmecjhmiiaaDoor
open Go Go.RowKit
abbrev Tm := Nat × Nat
/-- the function of a term -/
def tB (t : Tm) : BF := fun s => (List.range 12).all (fun k => (!t.1.testBit k || s k) && (!t.2.testBit k || !s k))
/-- .. of a list of terms -/
def gT (l : List Tm) : BF := fun s => l.any (fun t => tB t s)
theorem tB_iff {t : Tm} {s : Nat → Bool} : tB t s = true ↔ ∀ k, k < 12 → (t.1.testBit k = true → s k = true) ∧ (t.2.testBit k = true → s k = false) := by
  unfold tB
  rw [List.all_eq_true]
  constructor
  · intro h k hk
    have := h k (List.mem_range.2 hk)
    simp only [Bool.and_eq_true, Bool.or_eq_true, Bool.not_eq_true'] at this
    exact ⟨fun e => this.1.resolve_left (by rw [e]; simp), fun e => this.2.resolve_left (by rw [e]; simp)⟩
  · intro h k hk
    obtain ⟨h1, h2⟩ := h k (List.mem_range.1 hk)
    simp only [Bool.and_eq_true, Bool.or_eq_true, Bool.not_eq_true']
    constructor
    · cases e : t.1.testBit k
      · exact .inl rfl
      · exact .inr (h1 e)
    · cases e : t.2.testBit k
      · exact .inl rfl
      · exact .inr (h2 e)
theorem gT_iff {l : List Tm} {s : Nat → Bool} : gT l s = true ↔ ∃ t, t ∈ l ∧ tB t s = true := by
  unfold gT
  rw [List.any_eq_true]
theorem gT_12 (l : List Tm) : F12 (gT l) := fun s u h => by
  rw [Bool.eq_iff_iff, gT_iff, gT_iff]
  constructor
  · rintro ⟨t, ht, hs⟩
    exact ⟨t, ht, tB_iff.2 fun k hk => by rw [← h k hk]; exact tB_iff.1 hs k hk⟩
  · rintro ⟨t, ht, hs⟩
    exact ⟨t, ht, tB_iff.2 fun k hk => by rw [h k hk]; exact tB_iff.1 hs k hk⟩
theorem gT_nil : gT [] = ffB := rfl
theorem gT_zero {l : List Tm} (h : ((0, 0) : Tm) ∈ l) : gT l = ttB := by
  funext s
  exact gT_iff.2 ⟨_, h, tB_iff.2 fun k _ => by simp⟩
/-- a without the bits of b -/
def anb (a b : Nat) : Nat := (BitVec.ofNat 64 a &&& ~~~(BitVec.ofNat 64 b)).toNat
theorem anb_lt (a b : Nat) : anb a b < 18446744073709551616 := by unfold anb; exact (BitVec.ofNat 64 a &&& ~~~(BitVec.ofNat 64 b)).isLt
theorem anb_bit (a b k : Nat) (hk : k < 64) : (anb a b).testBit k = (a.testBit k && !b.testBit k) := by
  unfold anb
  rw [BitVec.testBit_toNat, BitVec.getLsbD_and, BitVec.getLsbD_not, BitVec.getLsbD_ofNat, BitVec.getLsbD_ofNat]
  simp [hk]
theorem anb_le {a b n : Nat} (ha : a < 2 ^ n) : anb a b < 2 ^ n := by
  apply Nat.lt_pow_two_of_testBit
  intro k hk
  by_cases h : k < 64
  · rw [anb_bit a b k h, Nat.testBit_lt_two_pow (Nat.lt_of_lt_of_le ha (Nat.pow_le_pow_right (by omega) hk))]
    rfl
  · exact Nat.testBit_lt_two_pow (Nat.lt_of_lt_of_le (anb_lt a b) (by
      rw [show (18446744073709551616 : Nat) = 2 ^ 64 from rfl]
      exact Nat.pow_le_pow_right (by omega) (by omega)))
theorem bits_anb (a b : Nat) : bits .andNot .u64 (a : Int) (b : Int) = ((anb a b : Nat) : Int) := by
  show IntKind.u64.wrap ((BitVec.ofInt 64 (a : Int) &&& ~~~(BitVec.ofInt 64 (b : Int))).toNat : Int) = _
  rw [BitVec.ofInt_natCast, BitVec.ofInt_natCast, IntKind.wrap_u64]
  have := anb_lt a b
  unfold anb at this ⊢
  omega
/-- what is left of the terms where literal n has this value -/
def fixL (l : List Tm) (n : Nat) (v : Bool) : List Tm := (l.filter (fun t => !((if v then t.2 else t.1).testBit n))).map (fun t => (anb t.1 (2 ^ n), anb t.2 (2 ^ n)))
theorem pow_bit (n k : Nat) : (2 ^ n).testBit k = decide (n = k) := Nat.testBit_two_pow
theorem gT_fix {l : List Tm} {n : Nat} (hn : n < 12) (v : Bool) : gT (fixL l n v) = cut (gT l) n v := by
  funext s
  unfold cut
  rw [Bool.eq_iff_iff, gT_iff, gT_iff]
  have key : ∀ t : Tm, (!((if v then t.2 else t.1).testBit n)) = true → (tB (anb t.1 (2 ^ n), anb t.2 (2 ^ n)) s = true ↔ tB t (upd s n v) = true) := by
    intro t ht
    rw [tB_iff, tB_iff]
    constructor
    · intro h k hk
      by_cases e : k = n
      · subst e
        rw [upd_same]
        cases v
        · simp only [Bool.false_eq_true, if_false, Bool.not_eq_true'] at ht
          exact ⟨fun h1 => (by rw [ht] at h1; cases h1), fun _ => rfl⟩
        · simp only [if_true, Bool.not_eq_true'] at ht
          exact ⟨fun _ => rfl, fun h1 => (by rw [ht] at h1; cases h1)⟩
      · rw [upd_other _ _ e]
        have := h k hk
        simp only at this
        rw [anb_bit _ _ k (by omega), anb_bit _ _ k (by omega), pow_bit, decide_eq_false (fun h => e h.symm)] at this
        simpa using this
    · intro h k hk
      simp only
      rw [anb_bit _ _ k (by omega), anb_bit _ _ k (by omega), pow_bit]
      by_cases e : k = n
      · subst e; simp
      · rw [decide_eq_false (fun h => e h.symm)]
        have := h k hk
        rw [upd_other _ _ e] at this
        simpa using this
  unfold fixL
  constructor
  · rintro ⟨t, ht, hs⟩
    obtain ⟨u, hu, rfl⟩ := List.mem_map.1 ht
    obtain ⟨h1, h2⟩ := List.mem_filter.1 hu
    exact ⟨u, h1, (key u h2).1 hs⟩
  · rintro ⟨t, ht, hs⟩
    have h2 : (!((if v then t.2 else t.1).testBit n)) = true := by
      obtain ⟨h1, h2⟩ := tB_iff.1 hs n hn
      rw [upd_same] at h1 h2
      cases v
      · cases e : t.1.testBit n
        · simp [e]
        · exact absurd (h1 e) (by simp)
      · cases e : t.2.testBit n
        · simp [e]
        · exact absurd (h2 e) (by simp)
    exact ⟨_, List.mem_map.2 ⟨t, List.mem_filter.2 ⟨ht, h2⟩, rfl⟩, (key t h2).2 hs⟩
/-- the terms have literals from m to 11 only -/
def Low (l : List Tm) (m : Nat) : Prop := ∀ t, t ∈ l → t.1 < 4096 ∧ t.2 < 4096 ∧ ∀ k, k < m → t.1.testBit k = false ∧ t.2.testBit k = false
theorem Low.ind {l : List Tm} {m x : Nat} (h : Low l m) (hx : x < m) : Ind (gT l) x := fun s b => by
  rw [Bool.eq_iff_iff, gT_iff, gT_iff]
  have key : ∀ t, t ∈ l → (tB t (upd s x b) = true ↔ tB t s = true) := fun t ht => by
    obtain ⟨_, _, h3⟩ := h t ht
    obtain ⟨h4, h5⟩ := h3 x hx
    rw [tB_iff, tB_iff]
    constructor
    · intro g k hk
      have := g k hk
      by_cases e : k = x
      · subst e; rw [h4, h5]; simp
      · rw [upd_other _ _ e] at this; exact this
    · intro g k hk
      have := g k hk
      by_cases e : k = x
      · subst e; rw [h4, h5]; simp
      · rw [upd_other _ _ e]; exact this
  constructor
  · rintro ⟨t, ht, hs⟩; exact ⟨t, ht, (key t ht).1 hs⟩
  · rintro ⟨t, ht, hs⟩; exact ⟨t, ht, (key t ht).2 hs⟩
theorem Low.fix {l : List Tm} {n : Nat} (h : Low l n) (hn : n < 12) (v : Bool) : Low (fixL l n v) (n + 1) := fun t ht => by
  obtain ⟨u, hu, rfl⟩ := List.mem_map.1 ht
  obtain ⟨h1, h2⟩ := List.mem_filter.1 hu
  obtain ⟨g1, g2, g3⟩ := h u h1
  refine ⟨anb_le (n := 12) g1, anb_le (n := 12) g2, fun k hk => ?_⟩
  simp only
  rw [anb_bit _ _ k (by omega), anb_bit _ _ k (by omega), pow_bit]
  by_cases e : k = n
  · subst e; simp
  · obtain ⟨g4, g5⟩ := g3 k (by omega)
    simp [g4, g5]
theorem fixL_len (l : List Tm) (n : Nat) (v : Bool) : (fixL l n v).length ≤ l.length := by
  unfold fixL
  rw [List.length_map]
  exact List.length_filter_le _ _
/-- all literals of the terms -/
def orT (l : List Tm) : Nat := l.foldl (fun a t => a ||| (t.1 ||| t.2)) 0
theorem orT_snoc (l : List Tm) (t : Tm) : orT (l ++ [t]) = orT l ||| (t.1 ||| t.2) := by unfold orT; rw [List.foldl_append]; rfl
theorem orT_bit (l : List Tm) (k : Nat) : (orT l).testBit k = true ↔ ∃ t, t ∈ l ∧ (t.1.testBit k = true ∨ t.2.testBit k = true) := by
  refine rev_ind (P := fun l => (orT l).testBit k = true ↔ ∃ t, t ∈ l ∧ (t.1.testBit k = true ∨ t.2.testBit k = true)) (by simp [orT]) (fun l t ih => ?_) l
  rw [orT_snoc, Nat.testBit_or, Nat.testBit_or, Bool.or_eq_true, Bool.or_eq_true, ih]
  constructor
  · rintro (⟨u, hu, h⟩ | h)
    · exact ⟨u, List.mem_append_left _ hu, h⟩
    · exact ⟨t, by simp, h⟩
  · rintro ⟨u, hu, h⟩
    rcases List.mem_append.1 hu with hu | hu
    · exact .inl ⟨u, hu, h⟩
    · rw [List.mem_singleton] at hu; subst hu; exact .inr h
theorem orT_lt {l : List Tm} {m : Nat} (h : Low l m) : orT l < 4096 := by
  refine Nat.lt_pow_two_of_testBit (n := 12) _ fun k hk => ?_
  cases e : (orT l).testBit k
  · rfl
  · obtain ⟨t, ht, h1⟩ := (orT_bit l k).1 e
    obtain ⟨g1, g2, _⟩ := h t ht
    have b : ∀ a, a < 4096 → a.testBit k = false := fun a ha => Nat.testBit_lt_two_pow (Nat.lt_of_lt_of_le ha (Nat.pow_le_pow_right (n := 2) (by omega) hk))
    rw [b _ g1, b _ g2] at h1
    simp at h1
/-- the first literal of terms that are neither none nor true -/
theorem first_ok {l : List Tm} {m : Nat} (h : Low l m) (hne : l ≠ []) (h0 : ((0, 0) : Tm) ∉ l) : Lib.ctz 64 (orT l) < 12 ∧ m ≤ Lib.ctz 64 (orT l) ∧ Low l (Lib.ctz 64 (orT l)) ∧ orT l ≠ 0 := by
  have hlt := orT_lt h
  have hpos : orT l ≠ 0 := fun e => by
    obtain ⟨t, ht⟩ := List.exists_mem_of_ne_nil l hne
    have hz : ∀ k, t.1.testBit k = false ∧ t.2.testBit k = false := fun k => by
      have : (orT l).testBit k = false := by rw [e]; simp
      constructor
      · cases e1 : t.1.testBit k
        · rfl
        · rw [(orT_bit l k).2 ⟨t, ht, .inl e1⟩] at this; cases this
      · cases e1 : t.2.testBit k
        · rfl
        · rw [(orT_bit l k).2 ⟨t, ht, .inr e1⟩] at this; cases this
    have e1 : t.1 = 0 := Nat.eq_of_testBit_eq fun k => by rw [(hz k).1]; simp
    have e2 : t.2 = 0 := Nat.eq_of_testBit_eq fun k => by rw [(hz k).2]; simp
    refine h0 ?_
    rw [show ((0, 0) : Tm) = t from Prod.ext e1.symm e2.symm]
    exact ht
  have hc : Lib.ctz 64 (orT l) = Lib.ctzFrom 64 (orT l) := by unfold Lib.ctz; rw [if_neg hpos]
  obtain ⟨q, hq, _⟩ := Lib.ctzFrom_spec 64 (orT l) (by omega) (by omega)
  rw [← hc] at hq
  generalize Lib.ctz 64 (orT l) = n at *
  have hb : ∀ k, (orT l).testBit k = (decide (k ≥ n) && (2 * q + 1).testBit (k - n)) := fun k => by rw [congrArg (fun z => z.testBit k) hq]; exact Nat.testBit_two_pow_mul ..
  have hn : (orT l).testBit n = true := by rw [hb]; simp
  have hlow : ∀ k, k < n → (orT l).testBit k = false := fun k hk => by rw [hb, decide_eq_false (by omega)]; rfl
  refine ⟨?_, ?_, fun t ht => ⟨(h t ht).1, (h t ht).2.1, fun k hk => ?_⟩, hpos⟩
  · apply Classical.byContradiction
    intro hge
    rw [Nat.testBit_lt_two_pow (Nat.lt_of_lt_of_le hlt (Nat.pow_le_pow_right (n := 2) (by omega) (show 12 ≤ n by omega)))] at hn
    cases hn
  · apply Classical.byContradiction
    intro hge
    obtain ⟨t, ht, h1⟩ := (orT_bit l n).1 hn
    obtain ⟨g4, g5⟩ := (h t ht).2.2 n (by omega)
    rw [g4, g5] at h1
    simp at h1
  · have := hlow k hk
    constructor
    · cases e1 : t.1.testBit k
      · rfl
      · rw [(orT_bit l k).2 ⟨t, ht, .inl e1⟩] at this; cases this
    · cases e1 : t.2.testBit k
      · rfl
      · rw [(orT_bit l k).2 ⟨t, ht, .inr e1⟩] at this; cases this
/-- a list of literals as a set -/
def setB (p : List Int) : Nat := p.foldl (fun a x => a ||| 2 ^ x.toNat) 0
theorem setB_snoc (p : List Int) (x : Int) : setB (p ++ [x]) = setB p ||| 2 ^ x.toNat := by unfold setB; rw [List.foldl_append]; rfl
theorem setB_bit (p : List Int) (k : Nat) : (setB p).testBit k = true ↔ ∃ x, x ∈ p ∧ x.toNat = k := by
  refine rev_ind (P := fun p => (setB p).testBit k = true ↔ ∃ x, x ∈ p ∧ x.toNat = k) (by simp [setB]) (fun l t ih => ?_) p
  rw [setB_snoc, Nat.testBit_or, Bool.or_eq_true, ih, pow_bit, decide_eq_true_eq]
  constructor
  · rintro (⟨u, hu, h⟩ | h)
    · exact ⟨u, List.mem_append_left _ hu, h⟩
    · exact ⟨t, by simp, h⟩
  · rintro ⟨u, hu, h⟩
    rcases List.mem_append.1 hu with hu | hu
    · exact .inl ⟨u, hu, h⟩
    · rw [List.mem_singleton] at hu; subst hu; exact .inr h
theorem setB_lt {p : List Int} (h : Lit12 p) : setB p < 4096 := by
  refine Nat.lt_pow_two_of_testBit (n := 12) _ fun k hk => ?_
  cases e : (setB p).testBit k
  · rfl
  · obtain ⟨x, hx, h1⟩ := (setB_bit p k).1 e
    have := h x hx
    omega
theorem tB_path {x : List Int × List Int} (h : Lit12 x.1 ∧ Lit12 x.2) (s : Nat → Bool) : tB (setB x.1, setB x.2) s = hB x s := by
  rw [Bool.eq_iff_iff, tB_iff]
  unfold hB
  rw [Bool.and_eq_true, List.all_eq_true, List.all_eq_true]
  constructor
  · intro g
    refine ⟨fun y hy => ?_, fun y hy => ?_⟩
    · have := h.1 y hy
      exact (g y.toNat (by omega)).1 ((setB_bit _ _).2 ⟨y, hy, rfl⟩)
    · have := h.2 y hy
      rw [(g y.toNat (by omega)).2 ((setB_bit _ _).2 ⟨y, hy, rfl⟩)]
      rfl
  · rintro ⟨g1, g2⟩ k hk
    refine ⟨fun e => ?_, fun e => ?_⟩
    · obtain ⟨y, hy, rfl⟩ := (setB_bit _ _).1 e
      exact g1 y hy
    · obtain ⟨y, hy, rfl⟩ := (setB_bit _ _).1 e
      have := g2 y hy
      simpa using this
/-- the terms of paths, each once -/
def addT (T : List Tm) (t : Tm) : List Tm := if t ∈ T then T else T ++ [t]
def termsL (l : List (List Int × List Int)) : List Tm := l.foldl (fun T x => addT T (setB x.1, setB x.2)) []
theorem termsL_snoc (l : List (List Int × List Int)) (x : List Int × List Int) : termsL (l ++ [x]) = addT (termsL l) (setB x.1, setB x.2) := by unfold termsL; rw [List.foldl_append]; rfl
theorem addT_mem (T : List Tm) (t u : Tm) : u ∈ addT T t ↔ u ∈ T ∨ u = t := by
  unfold addT
  split
  · rename_i h
    constructor
    · exact .inl
    · rintro (g | rfl)
      · exact g
      · exact h
  · rw [List.mem_append, List.mem_singleton]
theorem addT_len (T : List Tm) (t : Tm) : (addT T t).length ≤ T.length + 1 := by
  unfold addT
  split
  · omega
  · simp
theorem termsL_mem (l : List (List Int × List Int)) (t : Tm) : t ∈ termsL l ↔ ∃ x, x ∈ l ∧ t = (setB x.1, setB x.2) := by
  refine rev_ind (P := fun l => t ∈ termsL l ↔ ∃ x, x ∈ l ∧ t = (setB x.1, setB x.2)) (by simp [termsL]) (fun l y ih => ?_) l
  rw [termsL_snoc, addT_mem, ih]
  constructor
  · rintro (⟨x, hx, h⟩ | h)
    · exact ⟨x, List.mem_append_left _ hx, h⟩
    · exact ⟨y, by simp, h⟩
  · rintro ⟨x, hx, h⟩
    rcases List.mem_append.1 hx with hx | hx
    · exact .inl ⟨x, hx, h⟩
    · rw [List.mem_singleton] at hx; subst hx; exact .inr h
theorem termsL_len (l : List (List Int × List Int)) : (termsL l).length ≤ l.length := by
  refine rev_ind (P := fun l => (termsL l).length ≤ l.length) (by simp [termsL]) (fun l y ih => ?_) l
  rw [termsL_snoc, List.length_append, List.length_singleton]
  have := addT_len (termsL l) (setB y.1, setB y.2)
  omega
theorem termsL_low {l : List (List Int × List Int)} (h : OkP l) : Low (termsL l) 0 := fun t ht => by
  obtain ⟨x, hx, rfl⟩ := (termsL_mem l t).1 ht
  exact ⟨setB_lt (h x hx).1, setB_lt (h x hx).2, fun k hk => absurd hk (by omega)⟩
theorem termsL_fun {l : List (List Int × List Int)} (h : OkP l) : gT (termsL l) = fP l := by
  funext s
  rw [Bool.eq_iff_iff, gT_iff]
  unfold fP
  rw [List.any_eq_true]
  constructor
  · rintro ⟨t, ht, hs⟩
    obtain ⟨x, hx, rfl⟩ := (termsL_mem l t).1 ht
    exact ⟨x, hx, by rw [← tB_path (h x hx)]; exact hs⟩
  · rintro ⟨x, hx, hs⟩
    exact ⟨_, (termsL_mem l _).2 ⟨x, hx, rfl⟩, by rw [tB_path (h x hx)]; exact hs⟩
/-- one step of the disjunction -/
theorem gT_step {l : List Tm} {m : Nat} (h : Low l m) (hne : l ≠ []) (h0 : ((0, 0) : Tm) ∉ l) {ns : List Nd} (hG : Good ns) {n : Nat} (hn : n = Lib.ctz 64 (orT l)) :
    can (gT l) ns = mkN (can (gT (fixL l n false)) (can (gT (fixL l n true)) ns).1).1 n (can (gT (fixL l n true)) ns).2 (can (gT (fixL l n false)) (can (gT (fixL l n true)) ns).1).2 := by
  obtain ⟨h1, h2, h3, _⟩ := first_ok h hne h0
  rw [← hn] at h1 h2 h3
  rw [can_step (gT_12 l) h1 (fun x hx => h3.ind hx) hG, gT_fix h1 true, gT_fix h1 false]
end Go.Proofs.YtplmbmecjhmiiaaDoor
