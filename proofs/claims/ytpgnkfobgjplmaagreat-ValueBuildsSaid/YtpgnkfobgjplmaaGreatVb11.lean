/- Sets of names, finite and cofinite, as plain lists of strings; the order of strings. No program is imported. -/
import Derived.WalkKit
import Derived.Lib.Hide
import Derived.Sort.Walk0
import Derived.Lib.SlicesCompact
namespace Go.Proofs.YtpgnkfobgjplmaaGreat
open Go Go.RowKit Go.Lib Go.Sort
/-- a comes before b, bytewise -/
def bl (a b : List UInt8) : Bool := Op.bytesLess a b
theorem bl_irrefl : ∀ a, bl a a = false
  | [] => rfl
  | a :: x => by
    have := bl_irrefl x
    unfold bl at this ⊢
    simp [Op.bytesLess, this]
theorem bl_cons (a b : UInt8) (x y : List UInt8) : bl (a :: x) (b :: y) = true ↔ a < b ∨ a = b ∧ bl x y = true := by
  unfold bl; simp [Op.bytesLess]
theorem bl_nil (b : UInt8) (y : List UInt8) : bl [] (b :: y) = true := rfl
theorem bl_nil' (x : List UInt8) : bl x [] = false := by cases x <;> rfl
theorem bl_trans : ∀ {a b c : List UInt8}, bl a b = true → bl b c = true → bl a c = true
  | _, [], _, h, _ => by rw [bl_nil'] at h; cases h
  | _, _ :: _, [], _, h => by rw [bl_nil'] at h; cases h
  | [], _ :: _, _ :: _, _, _ => rfl
  | a :: x, b :: y, c :: z, h, k => by
    rw [bl_cons] at *
    simp only [UInt8.lt_iff_toNat_lt] at *
    rcases h with h | ⟨rfl, h⟩
    · rcases k with k | ⟨rfl, k⟩
      · exact .inl (by omega)
      · exact .inl h
    · rcases k with k | ⟨rfl, k⟩
      · exact .inl k
      · exact .inr ⟨rfl, bl_trans h k⟩
theorem bl_tri : ∀ (a b : List UInt8), bl a b = true ∨ a = b ∨ bl b a = true
  | [], [] => .inr (.inl rfl)
  | [], _ :: _ => .inl rfl
  | _ :: _, [] => .inr (.inr rfl)
  | a :: x, b :: y => by
    rw [bl_cons, bl_cons]
    simp only [UInt8.lt_iff_toNat_lt]
    by_cases h : a = b
    · subst h
      rcases bl_tri x y with h | rfl | h
      · exact .inl (.inr ⟨rfl, h⟩)
      · exact .inr (.inl rfl)
      · exact .inr (.inr (.inr ⟨rfl, h⟩))
    · have : a.toNat ≠ b.toNat := fun e => h (UInt8.toNat_inj.1 e)
      by_cases h2 : a.toNat < b.toNat
      · exact .inl (.inl h2)
      · exact .inr (.inr (.inl (by omega)))
theorem bl_asymm {a b : List UInt8} (h : bl a b = true) : bl b a = false := by
  cases k : bl b a
  · rfl
  · have := bl_trans h k
    rw [bl_irrefl] at this; cases this
theorem bl_ne {a b : List UInt8} (h : bl a b = true) : a ≠ b := by
  rintro rfl
  rw [bl_irrefl] at h; cases h
/-- not after, then before -/
theorem bl_le_lt {a b c : List UInt8} (h : bl b a = false) (k : bl b c = true) : bl a c = true := by
  rcases bl_tri a b with e | rfl | e
  · exact bl_trans e k
  · exact k
  · rw [e] at h; cases h
theorem bl_of_ne {a b : List UInt8} (h : bl b a = false) (k : a ≠ b) : bl a b = true := by
  rcases bl_tri a b with e | e | e
  · exact e
  · exact absurd e k
  · rw [e] at h; cases h
/-- strictly ascending -/
def Asc (l : List (List UInt8)) : Prop := l.Pairwise fun a b => bl a b = true
instance (l : List (List UInt8)) : Decidable (Asc l) := inferInstanceAs (Decidable (l.Pairwise _))
theorem asc_nil : Asc [] := List.Pairwise.nil
theorem asc_one (a : List UInt8) : Asc [a] := List.pairwise_singleton _ _
/-- only one ascending list has given members -/
theorem asc_unique : ∀ {a b : List (List UInt8)}, Asc a → Asc b → (∀ x, x ∈ a ↔ x ∈ b) → a = b
  | [], [], _, _, _ => rfl
  | [], y :: _, _, _, h => absurd ((h y).2 (by simp)) (by simp)
  | x :: _, [], _, _, h => absurd ((h x).1 (by simp)) (by simp)
  | x :: a, y :: b, ha, hb, h => by
    have ha' := List.pairwise_cons.1 ha
    have hb' := List.pairwise_cons.1 hb
    have e : x = y := by
      rcases List.mem_cons.1 ((h x).1 (by simp)) with e | e
      · exact e
      · rcases List.mem_cons.1 ((h y).2 (by simp)) with k | k
        · exact k.symm
        · have h1 := hb'.1 x e
          have h2 := ha'.1 y k
          rw [bl_asymm h1] at h2; cases h2
    subst e
    have ht : a = b := asc_unique ha'.2 hb'.2 fun z => by
      constructor
      · intro hz
        rcases List.mem_cons.1 ((h z).1 (by simp [hz])) with e | e
        · exact absurd e.symm (bl_ne (ha'.1 z hz))
        · exact e
      · intro hz
        rcases List.mem_cons.1 ((h z).2 (by simp [hz])) with e | e
        · exact absurd e.symm (bl_ne (hb'.1 z hz))
        · exact e
    rw [ht]
/-- neighbours ascend: all ascend -/
theorem asc_of_adj : ∀ (l : List (List UInt8)), (∀ j x y, l[j]? = some x → l[j + 1]? = some y → bl x y = true) → Asc l
  | [], _ => asc_nil
  | [a], _ => asc_one a
  | a :: b :: l, h => by
    have ih : Asc (b :: l) := asc_of_adj (b :: l) fun j x y hx hy => h (j + 1) x y (by simpa using hx) (by simpa using hy)
    refine List.pairwise_cons.2 ⟨fun z hz => ?_, ih⟩
    have hab := h 0 a b (by simp) (by simp)
    rcases List.mem_cons.1 hz with rfl | hz
    · exact hab
    · exact bl_trans hab ((List.pairwise_cons.1 ih).1 z hz)
theorem asc_adj {l : List (List UInt8)} (h : Asc l) {j : Nat} {x y : List UInt8} (hx : l[j]? = some x) (hy : l[j + 1]? = some y) : bl x y = true := by
  obtain ⟨h1, e1⟩ := List.getElem?_eq_some_iff.1 hx
  obtain ⟨h2, e2⟩ := List.getElem?_eq_some_iff.1 hy
  have := List.pairwise_iff_getElem.1 h j (j + 1) h1 h2 (by omega)
  rw [e1, e2] at this; exact this
theorem asc_at {l : List (List UInt8)} (h : Asc l) {i j : Nat} {x y : List UInt8} (hij : i < j) (hx : l[i]? = some x) (hy : l[j]? = some y) : bl x y = true := by
  obtain ⟨h1, e1⟩ := List.getElem?_eq_some_iff.1 hx
  obtain ⟨h2, e2⟩ := List.getElem?_eq_some_iff.1 hy
  have := List.pairwise_iff_getElem.1 h i j h1 h2 hij
  rw [e1, e2] at this; exact this
/-- what an insertion at the right place makes -/
theorem asc_insert {l : List (List UInt8)} {x : List UInt8} {k : Nat} (h : Asc l) (hlo : ∀ y ∈ l.take k, bl y x = true) (hhi : ∀ y, l[k]? = some y → bl x y = true) :
    Asc (l.take k ++ x :: l.drop k) := by
  have e : l.take k ++ l.drop k = l := List.take_append_drop k l
  have h' : Asc (l.take k ++ l.drop k) := by rw [e]; exact h
  have hp := List.pairwise_append.1 h'
  have hd : ∀ y ∈ l.drop k, bl x y = true := by
    intro y hy
    cases hdr : l.drop k with
    | nil => rw [hdr] at hy; cases hy
    | cons z r =>
      have hz : bl x z = true := hhi z (by have := congrArg (fun q => q[0]?) hdr; simpa using this)
      rw [hdr] at hy
      rcases List.mem_cons.1 hy with rfl | hy
      · exact hz
      · have h2 := hp.2.1
        rw [hdr] at h2
        exact bl_trans hz ((List.pairwise_cons.1 h2).1 y hy)
  refine List.pairwise_append.2 ⟨hp.1, List.pairwise_cons.2 ⟨hd, hp.2.1⟩, fun a ha b hb => ?_⟩
  rcases List.mem_cons.1 hb with rfl | hb
  · exact hlo a ha
  · exact hp.2.2 a ha b hb
theorem mem_insert {l : List (List UInt8)} {x y : List UInt8} (k : Nat) : y ∈ l.take k ++ x :: l.drop k ↔ y ∈ l ∨ y = x := by
  have e : y ∈ l ↔ y ∈ l.take k ++ l.drop k := by rw [List.take_append_drop]
  rw [e]
  simp only [List.mem_append, List.mem_cons]
  constructor
  · rintro (h | h | h)
    · exact .inl (.inl h)
    · exact .inr h
    · exact .inl (.inr h)
  · rintro ((h | h) | h)
    · exact .inl h
    · exact .inr (.inr h)
    · exact .inr (.inl h)
/-- whether a string is in the set of the list l, finite or cofinite -/
def inN (co : Bool) (l : List (List UInt8)) (x : List UInt8) : Bool := decide (x ∈ l) != co
/-- the valid set of the list m has exactly the members p -/
def IsSet (co : Bool) (m : List (List UInt8)) (p : List UInt8 → Bool) : Prop := Asc m ∧ ∀ x, inN co m x = p x
theorem inN_mem {co : Bool} {l l' : List (List UInt8)} (h : ∀ x, x ∈ l ↔ x ∈ l') (x : List UInt8) : inN co l x = inN co l' x := by
  unfold inN; rw [decide_eq_decide.2 (h x)]
theorem mem_of_inN {co : Bool} {l l' : List (List UInt8)} (h : ∀ x, inN co l x = inN co l' x) (x : List UInt8) : x ∈ l ↔ x ∈ l' := by
  have := h x
  unfold inN at this
  by_cases h1 : x ∈ l <;> by_cases h2 : x ∈ l' <;> cases co <;> simp_all
theorem isSet_unique {co : Bool} {m m' : List (List UInt8)} {p p' : List UInt8 → Bool} (h : IsSet co m p) (h' : IsSet co m' p') (e : ∀ x, p x = p' x) : m = m' :=
  asc_unique h.1 h'.1 (mem_of_inN fun x => (h.2 x).trans ((e x).trans (h'.2 x).symm))
theorem IsSet.congr {co co' : Bool} {m : List (List UInt8)} {p p' : List UInt8 → Bool} (h : IsSet co m p) (hc : co = co') (e : ∀ x, p x = p' x) : IsSet co' m p' := by
  subst hc
  exact ⟨h.1, fun x => (h.2 x).trans (e x)⟩
theorem isSet_self {co : Bool} {m : List (List UInt8)} (h : Asc m) : IsSet co m (inN co m) := ⟨h, fun _ => rfl⟩
theorem inN_out {co : Bool} {l : List (List UInt8)} {x : List UInt8} (h : x ∉ l) : inN co l x = co := by unfold inN; rw [decide_eq_false h]; cases co <;> rfl
theorem inN_not (co : Bool) (l : List (List UInt8)) (x : List UInt8) : inN (!co) l x = !inN co l x := by
  unfold inN; cases decide (x ∈ l) <;> cases co <;> rfl
/-- the strings of l for which a test differs from its value outside: the list of the set that a test on two sets describes -/
theorem isSet_combine (f : Bool → Bool → Bool) {c1 c2 : Bool} {l1 l2 m : List (List UInt8)} (h : Asc m)
    (hm : ∀ x, x ∈ m ↔ (x ∈ l1 ∨ x ∈ l2) ∧ (f (inN c1 l1 x) (inN c2 l2 x) != f c1 c2) = true) : IsSet (f c1 c2) m fun x => f (inN c1 l1 x) (inN c2 l2 x) := by
  refine ⟨h, fun x => ?_⟩
  show (decide (x ∈ m) != f c1 c2) = f (inN c1 l1 x) (inN c2 l2 x)
  by_cases hx : x ∈ l1 ∨ x ∈ l2
  · rw [show decide (x ∈ m) = (f (inN c1 l1 x) (inN c2 l2 x) != f c1 c2) by rw [Bool.eq_iff_iff, decide_eq_true_eq, hm x]; exact ⟨fun h => h.2, fun h => ⟨hx, h⟩⟩]
    show ((f (inN c1 l1 x) (inN c2 l2 x) != f c1 c2) != f c1 c2) = f (inN c1 l1 x) (inN c2 l2 x)
    cases f (inN c1 l1 x) (inN c2 l2 x) <;> cases f c1 c2 <;> rfl
  · have h1 : x ∉ l1 := fun k => hx (.inl k)
    have h2 : x ∉ l2 := fun k => hx (.inr k)
    rw [decide_eq_false (fun k => hx ((hm x).1 k).1), inN_out h1, inN_out h2]
    show (false != f c1 c2) = f c1 c2
    cases f c1 c2 <;> rfl
/-- what slices.Compact leaves of an ascending row with repetitions -/
theorem compactUpTo_asc (d : Array (List UInt8)) (hs : ∀ i j, i < j → j < d.size → bl d[j]! d[i]! = false) : ∀ m, m ≤ d.size → Asc (compactUpTo d m) ∧ ∀ x, x ∈ compactUpTo d m ↔ ∃ j, j < m ∧ d[j]! = x
  | 0, _ => ⟨by unfold compactUpTo; exact asc_nil, fun x => by simp [compactUpTo]⟩
  | m + 1, hm => by
    obtain ⟨ih1, ih2⟩ := compactUpTo_asc d hs m (by omega)
    rw [compactUpTo_succ]
    by_cases hk : keeps d m = true
    · rw [if_pos hk]
      refine ⟨List.pairwise_append.2 ⟨ih1, asc_one _, fun a ha b hb => ?_⟩, fun x => ?_⟩
      · obtain ⟨j, hj, rfl⟩ := (ih2 a).1 ha
        obtain rfl : b = d[m]! := by simpa using hb
        have hne : d[m]! ≠ d[m - 1]! := by
          have := hk
          unfold keeps at this
          rcases of_decide_eq_true this with h | h
          · omega
          · exact h
        have h1 : bl d[m - 1]! d[m]! = true := bl_of_ne (hs (m - 1) m (by omega) (by omega)) (fun e => hne e.symm)
        by_cases e : j = m - 1
        · rw [e]; exact h1
        · exact bl_le_lt (hs j (m - 1) (by omega) (by omega)) h1
      · rw [List.mem_append, ih2, List.mem_singleton]
        constructor
        · rintro (⟨j, hj, e⟩ | rfl)
          · exact ⟨j, by omega, e⟩
          · exact ⟨m, by omega, rfl⟩
        · rintro ⟨j, hj, e⟩
          by_cases h : j = m
          · subst h; exact .inr e.symm
          · exact .inl ⟨j, by omega, e⟩
    · rw [if_neg hk, List.append_nil]
      refine ⟨ih1, fun x => (ih2 x).trans ⟨fun ⟨j, hj, e⟩ => ⟨j, by omega, e⟩, fun ⟨j, hj, e⟩ => ?_⟩⟩
      by_cases h : j = m
      · subst h
        have hk' : j ≠ 0 ∧ d[j]! = d[j - 1]! := by
          have : ¬ (j = 0 ∨ d[j]! ≠ d[j - 1]!) := fun h => hk (by unfold keeps; exact decide_eq_true h)
          exact ⟨fun e => this (.inl e), Decidable.byContradiction fun e => this (.inr e)⟩
        exact ⟨j - 1, by omega, by rw [← hk'.2]; exact e⟩
      · exact ⟨j, by omega, e⟩
theorem compact_asc (zs : List (List UInt8)) (hs : zs.Pairwise fun a b => bl b a = false) : Asc (compact zs) ∧ (∀ x, x ∈ compact zs ↔ x ∈ zs) ∧ (compact zs).length ≤ zs.length := by
  have h := compactUpTo_asc zs.toArray (fun i j hij hj => by
    have hj' : j < zs.length := by simpa using hj
    have := List.pairwise_iff_getElem.1 hs i j (by omega) hj' hij
    rw [getElem!_pos zs.toArray j (by simpa using hj'), getElem!_pos zs.toArray i (by simp; omega)]
    simpa using this) zs.length (by simp)
  refine ⟨h.1, fun x => (h.2 x).trans ?_, ?_⟩
  · constructor
    · rintro ⟨j, hj, rfl⟩
      rw [getElem!_pos zs.toArray j (by simpa using hj)]
      simp
    · intro hx
      obtain ⟨j, hj, e⟩ := List.getElem_of_mem hx
      exact ⟨j, hj, by rw [getElem!_pos zs.toArray j (by simpa using hj)]; simpa using e⟩
  · unfold compact compactUpTo
    rw [List.length_map]
    have := List.length_filter_le (keeps zs.toArray) (List.range zs.length)
    simpa using this
/-- what slices.Sort makes: a row in which nothing comes before what stands ahead of it -/
theorem sort_pairwise (zs : List (List UInt8)) : (zs.mergeSort fun x y => decide (x ≤ y)).Pairwise fun a b => bl b a = false := by
  have key : ∀ a b : List UInt8, decide (a ≤ b) = !bl b a := fun a b => by
    unfold bl
    rw [bytesLess_eq]
    by_cases h : b < a
    · rw [decide_eq_true h, decide_eq_false (fun k : a ≤ b => k h)]; rfl
    · rw [decide_eq_false h, decide_eq_true (show a ≤ b from h)]; rfl
  have h := List.pairwise_mergeSort (le := fun x y : List UInt8 => decide (x ≤ y)) (by
    intro a b c h1 h2
    rw [key] at *
    cases k : bl c a
    · rfl
    · simp at h1 h2
      have := bl_le_lt h2 k
      rw [this] at h1; cases h1) (by
    intro a b
    rw [key, key]
    cases k : bl b a
    · simp
    · rw [bl_asymm k]; simp) zs
  refine h.imp fun {a b} hab => ?_
  rw [key] at hab
  simpa using hab
theorem sort_mem (zs : List (List UInt8)) (x : List UInt8) : x ∈ (zs.mergeSort fun x y => decide (x ≤ y)) ↔ x ∈ zs := (List.mergeSort_perm zs _).mem_iff
/-- the sorted strings of zs, each once -/
def srt (zs : List (List UInt8)) : List (List UInt8) := compact (zs.mergeSort fun x y => decide (x ≤ y))
theorem srt_asc (zs : List (List UInt8)) : Asc (srt zs) := (compact_asc _ (sort_pairwise zs)).1
theorem srt_mem (zs : List (List UInt8)) (x : List UInt8) : x ∈ srt zs ↔ x ∈ zs := ((compact_asc _ (sort_pairwise zs)).2.1 x).trans (sort_mem zs x)
theorem srt_len (zs : List (List UInt8)) : (srt zs).length ≤ zs.length := by
  have := (compact_asc _ (sort_pairwise zs)).2.2
  rwa [List.length_mergeSort] at this
theorem eq_srt {m zs : List (List UInt8)} (h : Asc m) (hm : ∀ x, x ∈ m ↔ x ∈ zs) : m = srt zs := asc_unique h (srt_asc zs) fun x => (hm x).trans (srt_mem zs x).symm
theorem ins_srt {ss : List (List UInt8)} {k p : Nat} {s : List UInt8} {out : List (List UInt8)} (h : out = srt (ss.take k)) (hs : ss[k]? = some s) (hlo : ∀ y ∈ out.take p, bl y s = true) (hhi : ∀ y, out[p]? = some y → bl s y = true) :
    out.take p ++ s :: out.drop p = srt (ss.take (k + 1)) := by
  have ha : Asc out := by rw [h]; exact srt_asc _
  refine eq_srt (asc_insert ha hlo hhi) fun x => ?_
  rw [mem_insert, h, srt_mem, List.take_add_one, hs]
  simp
theorem skip_srt {ss : List (List UInt8)} {k : Nat} {s : List UInt8} {out : List (List UInt8)} (h : out = srt (ss.take k)) (hs : ss[k]? = some s) (hm : s ∈ out) : out = srt (ss.take (k + 1)) := by
  have ha : Asc out := by rw [h]; exact srt_asc _
  refine eq_srt ha fun x => ?_
  have e : x ∈ out ↔ x ∈ ss.take k := by rw [h]; exact srt_mem _ x
  have es : s ∈ ss.take k := by rw [← srt_mem, ← h]; exact hm
  rw [e, List.take_add_one, hs]
  simp only [Option.toList_some, List.mem_append, List.mem_singleton]
  exact ⟨.inl, fun h => h.elim id fun e => by rw [e]; exact es⟩
/-- a halving finds a string exactly if it is one of an ascending list -/
theorem take_length_le' (l : List (List UInt8)) (k : Nat) : (l.take k).length ≤ l.length := by rw [List.length_take]; omega
end Go.Proofs.YtpgnkfobgjplmaaGreat
