/- Sets of names, finite and cofinite, as plain lists of strings; the order of strings. No program is imported. -/
import Derived.Test.YtjfknigiehggkaaGreatVv00
import Derived.Test.YtjfknigiehggkaaGreatVv01
import Derived.WalkKit
import Derived.Lib.Hide
import Derived.Sort.Walk0
import Derived.Lib.SlicesCompact
import Derived.Test.YtjfknigiehggkaaGreatShelf
import Derived.Lib.Walk
import Derived.Lib.SliceRun
import Derived.Lib.AppendZeros
import Derived.Deep.Onto
import Derived.Deep.AppendLies
import Derived.Test.YtjfknigiehggkaaGreatProg
import Derived.BigFrame
import Derived.BigQuiet
import Derived.Deep.LoopGhost
import Derived.Test.YtjfknigiehggkaaGreatRows
import Derived.ProofKit
import Derived.OpenShut
import Derived.ShutString
import Derived.SliceStrings
import Derived.Deep.DeepHandedRow
import Derived.Deep.Slices
import Derived.Lib.SmallJoins
namespace Go.Proofs.YtjfknigiehggkaaGreat
open Go Go.RowKit Go.Lib Go.Sort
/-- a comes before b, bytewise -/
def bl (a b : List UInt8) : Bool := Op.bytesLess a b
theorem bl_irrefl : ∀ a, bl a a = false
  | [] => rfl
  | a :: x => by
    have := bl_irrefl x
    unfold bl at this ⊢
    simp [Op.bytesLess, this]
theorem bl_cons (a b : UInt8) (x y : List UInt8) : bl (a :: x) (b :: y) = true ↔ a < b ∨ a = b ∧ bl x y = true := by
  unfold bl; simp [Op.bytesLess]
theorem bl_nil (b : UInt8) (y : List UInt8) : bl [] (b :: y) = true := rfl
theorem bl_nil' (x : List UInt8) : bl x [] = false := by cases x <;> rfl
theorem bl_trans : ∀ {a b c : List UInt8}, bl a b = true → bl b c = true → bl a c = true
  | _, [], _, h, _ => by rw [bl_nil'] at h; cases h
  | _, _ :: _, [], _, h => by rw [bl_nil'] at h; cases h
  | [], _ :: _, _ :: _, _, _ => rfl
  | a :: x, b :: y, c :: z, h, k => by
    rw [bl_cons] at *
    simp only [UInt8.lt_iff_toNat_lt] at *
    rcases h with h | ⟨rfl, h⟩
    · rcases k with k | ⟨rfl, k⟩
      · exact .inl (by omega)
      · exact .inl h
    · rcases k with k | ⟨rfl, k⟩
      · exact .inl k
      · exact .inr ⟨rfl, bl_trans h k⟩
theorem bl_tri : ∀ (a b : List UInt8), bl a b = true ∨ a = b ∨ bl b a = true
  | [], [] => .inr (.inl rfl)
  | [], _ :: _ => .inl rfl
  | _ :: _, [] => .inr (.inr rfl)
  | a :: x, b :: y => by
    rw [bl_cons, bl_cons]
    simp only [UInt8.lt_iff_toNat_lt]
    by_cases h : a = b
    · subst h
      rcases bl_tri x y with h | rfl | h
      · exact .inl (.inr ⟨rfl, h⟩)
      · exact .inr (.inl rfl)
      · exact .inr (.inr (.inr ⟨rfl, h⟩))
    · have : a.toNat ≠ b.toNat := fun e => h (UInt8.toNat_inj.1 e)
      by_cases h2 : a.toNat < b.toNat
      · exact .inl (.inl h2)
      · exact .inr (.inr (.inl (by omega)))
theorem bl_asymm {a b : List UInt8} (h : bl a b = true) : bl b a = false := by
  cases k : bl b a
  · rfl
  · have := bl_trans h k
    rw [bl_irrefl] at this; cases this
theorem bl_ne {a b : List UInt8} (h : bl a b = true) : a ≠ b := by
  rintro rfl
  rw [bl_irrefl] at h; cases h
/-- not after, then before -/
theorem bl_le_lt {a b c : List UInt8} (h : bl b a = false) (k : bl b c = true) : bl a c = true := by
  rcases bl_tri a b with e | rfl | e
  · exact bl_trans e k
  · exact k
  · rw [e] at h; cases h
theorem bl_of_ne {a b : List UInt8} (h : bl b a = false) (k : a ≠ b) : bl a b = true := by
  rcases bl_tri a b with e | e | e
  · exact e
  · exact absurd e k
  · rw [e] at h; cases h
/-- strictly ascending -/
def Asc (l : List (List UInt8)) : Prop := l.Pairwise fun a b => bl a b = true
instance (l : List (List UInt8)) : Decidable (Asc l) := inferInstanceAs (Decidable (l.Pairwise _))
theorem asc_nil : Asc [] := List.Pairwise.nil
theorem asc_one (a : List UInt8) : Asc [a] := List.pairwise_singleton _ _
/-- only one ascending list has given members -/
theorem asc_unique : ∀ {a b : List (List UInt8)}, Asc a → Asc b → (∀ x, x ∈ a ↔ x ∈ b) → a = b
  | [], [], _, _, _ => rfl
  | [], y :: _, _, _, h => absurd ((h y).2 (by simp)) (by simp)
  | x :: _, [], _, _, h => absurd ((h x).1 (by simp)) (by simp)
  | x :: a, y :: b, ha, hb, h => by
    have ha' := List.pairwise_cons.1 ha
    have hb' := List.pairwise_cons.1 hb
    have e : x = y := by
      rcases List.mem_cons.1 ((h x).1 (by simp)) with e | e
      · exact e
      · rcases List.mem_cons.1 ((h y).2 (by simp)) with k | k
        · exact k.symm
        · have h1 := hb'.1 x e
          have h2 := ha'.1 y k
          rw [bl_asymm h1] at h2; cases h2
    subst e
    have ht : a = b := asc_unique ha'.2 hb'.2 fun z => by
      constructor
      · intro hz
        rcases List.mem_cons.1 ((h z).1 (by simp [hz])) with e | e
        · exact absurd e.symm (bl_ne (ha'.1 z hz))
        · exact e
      · intro hz
        rcases List.mem_cons.1 ((h z).2 (by simp [hz])) with e | e
        · exact absurd e.symm (bl_ne (hb'.1 z hz))
        · exact e
    rw [ht]
/-- neighbours ascend: all ascend -/
theorem asc_of_adj : ∀ (l : List (List UInt8)), (∀ j x y, l[j]? = some x → l[j + 1]? = some y → bl x y = true) → Asc l
  | [], _ => asc_nil
  | [a], _ => asc_one a
  | a :: b :: l, h => by
    have ih : Asc (b :: l) := asc_of_adj (b :: l) fun j x y hx hy => h (j + 1) x y (by simpa using hx) (by simpa using hy)
    refine List.pairwise_cons.2 ⟨fun z hz => ?_, ih⟩
    have hab := h 0 a b (by simp) (by simp)
    rcases List.mem_cons.1 hz with rfl | hz
    · exact hab
    · exact bl_trans hab ((List.pairwise_cons.1 ih).1 z hz)
theorem asc_adj {l : List (List UInt8)} (h : Asc l) {j : Nat} {x y : List UInt8} (hx : l[j]? = some x) (hy : l[j + 1]? = some y) : bl x y = true := by
  obtain ⟨h1, e1⟩ := List.getElem?_eq_some_iff.1 hx
  obtain ⟨h2, e2⟩ := List.getElem?_eq_some_iff.1 hy
  have := List.pairwise_iff_getElem.1 h j (j + 1) h1 h2 (by omega)
  rw [e1, e2] at this; exact this
theorem asc_at {l : List (List UInt8)} (h : Asc l) {i j : Nat} {x y : List UInt8} (hij : i < j) (hx : l[i]? = some x) (hy : l[j]? = some y) : bl x y = true := by
  obtain ⟨h1, e1⟩ := List.getElem?_eq_some_iff.1 hx
  obtain ⟨h2, e2⟩ := List.getElem?_eq_some_iff.1 hy
  have := List.pairwise_iff_getElem.1 h i j h1 h2 hij
  rw [e1, e2] at this; exact this
/-- what an insertion at the right place makes -/
theorem asc_insert {l : List (List UInt8)} {x : List UInt8} {k : Nat} (h : Asc l) (hlo : ∀ y ∈ l.take k, bl y x = true) (hhi : ∀ y, l[k]? = some y → bl x y = true) :
    Asc (l.take k ++ x :: l.drop k) := by
  have e : l.take k ++ l.drop k = l := List.take_append_drop k l
  have h' : Asc (l.take k ++ l.drop k) := by rw [e]; exact h
  have hp := List.pairwise_append.1 h'
  have hd : ∀ y ∈ l.drop k, bl x y = true := by
    intro y hy
    cases hdr : l.drop k with
    | nil => rw [hdr] at hy; cases hy
    | cons z r =>
      have hz : bl x z = true := hhi z (by have := congrArg (fun q => q[0]?) hdr; simpa using this)
      rw [hdr] at hy
      rcases List.mem_cons.1 hy with rfl | hy
      · exact hz
      · have h2 := hp.2.1
        rw [hdr] at h2
        exact bl_trans hz ((List.pairwise_cons.1 h2).1 y hy)
  refine List.pairwise_append.2 ⟨hp.1, List.pairwise_cons.2 ⟨hd, hp.2.1⟩, fun a ha b hb => ?_⟩
  rcases List.mem_cons.1 hb with rfl | hb
  · exact hlo a ha
  · exact hp.2.2 a ha b hb
theorem mem_insert {l : List (List UInt8)} {x y : List UInt8} (k : Nat) : y ∈ l.take k ++ x :: l.drop k ↔ y ∈ l ∨ y = x := by
  have e : y ∈ l ↔ y ∈ l.take k ++ l.drop k := by rw [List.take_append_drop]
  rw [e]
  simp only [List.mem_append, List.mem_cons]
  constructor
  · rintro (h | h | h)
    · exact .inl (.inl h)
    · exact .inr h
    · exact .inl (.inr h)
  · rintro ((h | h) | h)
    · exact .inl h
    · exact .inr (.inr h)
    · exact .inr (.inl h)
/-- whether a string is in the set of the list l, finite or cofinite -/
def inN (co : Bool) (l : List (List UInt8)) (x : List UInt8) : Bool := decide (x ∈ l) != co
/-- the valid set of the list m has exactly the members p -/
def IsSet (co : Bool) (m : List (List UInt8)) (p : List UInt8 → Bool) : Prop := Asc m ∧ ∀ x, inN co m x = p x
theorem inN_mem {co : Bool} {l l' : List (List UInt8)} (h : ∀ x, x ∈ l ↔ x ∈ l') (x : List UInt8) : inN co l x = inN co l' x := by
  unfold inN; rw [decide_eq_decide.2 (h x)]
theorem mem_of_inN {co : Bool} {l l' : List (List UInt8)} (h : ∀ x, inN co l x = inN co l' x) (x : List UInt8) : x ∈ l ↔ x ∈ l' := by
  have := h x
  unfold inN at this
  by_cases h1 : x ∈ l <;> by_cases h2 : x ∈ l' <;> cases co <;> simp_all
theorem isSet_unique {co : Bool} {m m' : List (List UInt8)} {p p' : List UInt8 → Bool} (h : IsSet co m p) (h' : IsSet co m' p') (e : ∀ x, p x = p' x) : m = m' :=
  asc_unique h.1 h'.1 (mem_of_inN fun x => (h.2 x).trans ((e x).trans (h'.2 x).symm))
theorem IsSet.congr {co co' : Bool} {m : List (List UInt8)} {p p' : List UInt8 → Bool} (h : IsSet co m p) (hc : co = co') (e : ∀ x, p x = p' x) : IsSet co' m p' := by
  subst hc
  exact ⟨h.1, fun x => (h.2 x).trans (e x)⟩
theorem isSet_self {co : Bool} {m : List (List UInt8)} (h : Asc m) : IsSet co m (inN co m) := ⟨h, fun _ => rfl⟩
theorem inN_out {co : Bool} {l : List (List UInt8)} {x : List UInt8} (h : x ∉ l) : inN co l x = co := by unfold inN; rw [decide_eq_false h]; cases co <;> rfl
theorem inN_not (co : Bool) (l : List (List UInt8)) (x : List UInt8) : inN (!co) l x = !inN co l x := by
  unfold inN; cases decide (x ∈ l) <;> cases co <;> rfl
/-- the strings of l for which a test differs from its value outside: the list of the set that a test on two sets describes -/
theorem isSet_combine (f : Bool → Bool → Bool) {c1 c2 : Bool} {l1 l2 m : List (List UInt8)} (h : Asc m)
    (hm : ∀ x, x ∈ m ↔ (x ∈ l1 ∨ x ∈ l2) ∧ (f (inN c1 l1 x) (inN c2 l2 x) != f c1 c2) = true) : IsSet (f c1 c2) m fun x => f (inN c1 l1 x) (inN c2 l2 x) := by
  refine ⟨h, fun x => ?_⟩
  show (decide (x ∈ m) != f c1 c2) = f (inN c1 l1 x) (inN c2 l2 x)
  by_cases hx : x ∈ l1 ∨ x ∈ l2
  · rw [show decide (x ∈ m) = (f (inN c1 l1 x) (inN c2 l2 x) != f c1 c2) by rw [Bool.eq_iff_iff, decide_eq_true_eq, hm x]; exact ⟨fun h => h.2, fun h => ⟨hx, h⟩⟩]
    show ((f (inN c1 l1 x) (inN c2 l2 x) != f c1 c2) != f c1 c2) = f (inN c1 l1 x) (inN c2 l2 x)
    cases f (inN c1 l1 x) (inN c2 l2 x) <;> cases f c1 c2 <;> rfl
  · have h1 : x ∉ l1 := fun k => hx (.inl k)
    have h2 : x ∉ l2 := fun k => hx (.inr k)
    rw [decide_eq_false (fun k => hx ((hm x).1 k).1), inN_out h1, inN_out h2]
    show (false != f c1 c2) = f c1 c2
    cases f c1 c2 <;> rfl
/-- what slices.Compact leaves of an ascending row with repetitions -/
theorem compactUpTo_asc (d : Array (List UInt8)) (hs : ∀ i j, i < j → j < d.size → bl d[j]! d[i]! = false) : ∀ m, m ≤ d.size → Asc (compactUpTo d m) ∧ ∀ x, x ∈ compactUpTo d m ↔ ∃ j, j < m ∧ d[j]! = x
  | 0, _ => ⟨by unfold compactUpTo; exact asc_nil, fun x => by simp [compactUpTo]⟩
  | m + 1, hm => by
    obtain ⟨ih1, ih2⟩ := compactUpTo_asc d hs m (by omega)
    rw [compactUpTo_succ]
    by_cases hk : keeps d m = true
    · rw [if_pos hk]
      refine ⟨List.pairwise_append.2 ⟨ih1, asc_one _, fun a ha b hb => ?_⟩, fun x => ?_⟩
      · obtain ⟨j, hj, rfl⟩ := (ih2 a).1 ha
        obtain rfl : b = d[m]! := by simpa using hb
        have hne : d[m]! ≠ d[m - 1]! := by
          have := hk
          unfold keeps at this
          rcases of_decide_eq_true this with h | h
          · omega
          · exact h
        have h1 : bl d[m - 1]! d[m]! = true := bl_of_ne (hs (m - 1) m (by omega) (by omega)) (fun e => hne e.symm)
        by_cases e : j = m - 1
        · rw [e]; exact h1
        · exact bl_le_lt (hs j (m - 1) (by omega) (by omega)) h1
      · rw [List.mem_append, ih2, List.mem_singleton]
        constructor
        · rintro (⟨j, hj, e⟩ | rfl)
          · exact ⟨j, by omega, e⟩
          · exact ⟨m, by omega, rfl⟩
        · rintro ⟨j, hj, e⟩
          by_cases h : j = m
          · subst h; exact .inr e.symm
          · exact .inl ⟨j, by omega, e⟩
    · rw [if_neg hk, List.append_nil]
      refine ⟨ih1, fun x => (ih2 x).trans ⟨fun ⟨j, hj, e⟩ => ⟨j, by omega, e⟩, fun ⟨j, hj, e⟩ => ?_⟩⟩
      by_cases h : j = m
      · subst h
        have hk' : j ≠ 0 ∧ d[j]! = d[j - 1]! := by
          have : ¬ (j = 0 ∨ d[j]! ≠ d[j - 1]!) := fun h => hk (by unfold keeps; exact decide_eq_true h)
          exact ⟨fun e => this (.inl e), Decidable.byContradiction fun e => this (.inr e)⟩
        exact ⟨j - 1, by omega, by rw [← hk'.2]; exact e⟩
      · exact ⟨j, by omega, e⟩
theorem compact_asc (zs : List (List UInt8)) (hs : zs.Pairwise fun a b => bl b a = false) : Asc (compact zs) ∧ (∀ x, x ∈ compact zs ↔ x ∈ zs) ∧ (compact zs).length ≤ zs.length := by
  have h := compactUpTo_asc zs.toArray (fun i j hij hj => by
    have hj' : j < zs.length := by simpa using hj
    have := List.pairwise_iff_getElem.1 hs i j (by omega) hj' hij
    rw [getElem!_pos zs.toArray j (by simpa using hj'), getElem!_pos zs.toArray i (by simp; omega)]
    simpa using this) zs.length (by simp)
  refine ⟨h.1, fun x => (h.2 x).trans ?_, ?_⟩
  · constructor
    · rintro ⟨j, hj, rfl⟩
      rw [getElem!_pos zs.toArray j (by simpa using hj)]
      simp
    · intro hx
      obtain ⟨j, hj, e⟩ := List.getElem_of_mem hx
      exact ⟨j, hj, by rw [getElem!_pos zs.toArray j (by simpa using hj)]; simpa using e⟩
  · unfold compact compactUpTo
    rw [List.length_map]
    have := List.length_filter_le (keeps zs.toArray) (List.range zs.length)
    simpa using this
/-- what slices.Sort makes: a row in which nothing comes before what stands ahead of it -/
theorem sort_pairwise (zs : List (List UInt8)) : (zs.mergeSort fun x y => decide (x ≤ y)).Pairwise fun a b => bl b a = false := by
  have key : ∀ a b : List UInt8, decide (a ≤ b) = !bl b a := fun a b => by
    unfold bl
    rw [bytesLess_eq]
    by_cases h : b < a
    · rw [decide_eq_true h, decide_eq_false (fun k : a ≤ b => k h)]; rfl
    · rw [decide_eq_false h, decide_eq_true (show a ≤ b from h)]; rfl
  have h := List.pairwise_mergeSort (le := fun x y : List UInt8 => decide (x ≤ y)) (by
    intro a b c h1 h2
    rw [key] at *
    cases k : bl c a
    · rfl
    · simp at h1 h2
      have := bl_le_lt h2 k
      rw [this] at h1; cases h1) (by
    intro a b
    rw [key, key]
    cases k : bl b a
    · simp
    · rw [bl_asymm k]; simp) zs
  refine h.imp fun {a b} hab => ?_
  rw [key] at hab
  simpa using hab
theorem sort_mem (zs : List (List UInt8)) (x : List UInt8) : x ∈ (zs.mergeSort fun x y => decide (x ≤ y)) ↔ x ∈ zs := (List.mergeSort_perm zs _).mem_iff
/-- the sorted strings of zs, each once -/
def srt (zs : List (List UInt8)) : List (List UInt8) := compact (zs.mergeSort fun x y => decide (x ≤ y))
theorem srt_asc (zs : List (List UInt8)) : Asc (srt zs) := (compact_asc _ (sort_pairwise zs)).1
theorem srt_mem (zs : List (List UInt8)) (x : List UInt8) : x ∈ srt zs ↔ x ∈ zs := ((compact_asc _ (sort_pairwise zs)).2.1 x).trans (sort_mem zs x)
theorem srt_len (zs : List (List UInt8)) : (srt zs).length ≤ zs.length := by
  have := (compact_asc _ (sort_pairwise zs)).2.2
  rwa [List.length_mergeSort] at this
theorem eq_srt {m zs : List (List UInt8)} (h : Asc m) (hm : ∀ x, x ∈ m ↔ x ∈ zs) : m = srt zs := asc_unique h (srt_asc zs) fun x => (hm x).trans (srt_mem zs x).symm
theorem ins_srt {ss : List (List UInt8)} {k p : Nat} {s : List UInt8} {out : List (List UInt8)} (h : out = srt (ss.take k)) (hs : ss[k]? = some s) (hlo : ∀ y ∈ out.take p, bl y s = true) (hhi : ∀ y, out[p]? = some y → bl s y = true) :
    out.take p ++ s :: out.drop p = srt (ss.take (k + 1)) := by
  have ha : Asc out := by rw [h]; exact srt_asc _
  refine eq_srt (asc_insert ha hlo hhi) fun x => ?_
  rw [mem_insert, h, srt_mem, List.take_add_one, hs]
  simp
theorem skip_srt {ss : List (List UInt8)} {k : Nat} {s : List UInt8} {out : List (List UInt8)} (h : out = srt (ss.take k)) (hs : ss[k]? = some s) (hm : s ∈ out) : out = srt (ss.take (k + 1)) := by
  have ha : Asc out := by rw [h]; exact srt_asc _
  refine eq_srt ha fun x => ?_
  have e : x ∈ out ↔ x ∈ ss.take k := by rw [h]; exact srt_mem _ x
  have es : s ∈ ss.take k := by rw [← srt_mem, ← h]; exact hm
  rw [e, List.take_add_one, hs]
  simp only [Option.toList_some, List.mem_append, List.mem_singleton]
  exact ⟨.inl, fun h => h.elim id fun e => by rw [e]; exact es⟩
/-- a halving finds a string exactly if it is one of an ascending list -/
theorem take_length_le' (l : List (List UInt8)) (k : Nat) : (l.take k).length ≤ l.length := by rw [List.length_take]; omega
end Go.Proofs.YtjfknigiehggkaaGreat
namespace Go.Proofs.YtjfknigiehggkaaGreat
open Go.RowKit Go.Sort
abbrev Strg := List UInt8
def mkB (s : Strg) : ByteArray := ⟨s.toArray⟩
theorem mkB_list (s : Strg) : (mkB s).data.toList = s := by simp [mkB]
theorem mkB_size (s : Strg) : (mkB s).size = s.length := by simp [mkB, ByteArray.size]
theorem mkB_inj {s t : Strg} (h : mkB s = mkB t) : s = t := by rw [← mkB_list s, h, mkB_list]
theorem mkB_of (b : ByteArray) : mkB b.data.toList = b := by obtain ⟨⟨l⟩⟩ := b; rfl
theorem lists_map (ss : List Strg) : lists (ss.map mkB) = ss := by
  unfold lists
  rw [List.map_map]
  conv => rhs; rw [← List.map_id ss]
  exact List.map_congr_left fun s _ => mkB_list s
theorem map_lists (ss : List ByteArray) : (lists ss).map mkB = ss := by
  unfold lists
  rw [List.map_map]
  conv => rhs; rw [← List.map_id ss]
  exact List.map_congr_left fun s _ => mkB_of s
/-- no string is longer than a machine holds -/
def Short (ss : List Strg) : Prop := ∀ s ∈ ss, s.length ≤ maxLen
/-- the slice .slice A n cap reads as the strings ss, in blocks below B -/
def NmS (w : World) (B : Nat) (A : Option Addr) (n : Nat) (ss : List Strg) : Prop :=
  n = ss.length ∧ Short ss ∧ (0 < n → ∃ b off, A = some ⟨b, off, none⟩ ∧ b < B ∧ ∀ j s, ss[j]? = some s → w.cell? ⟨b, off + j, none⟩ = some (encStr s))
theorem NmS.strS {w : World} {B : Nat} {A : Option Addr} {n : Nat} {ss : List Strg} (h : NmS w B A n ss) : StrS w B A n (ss.map mkB) := by
  refine ⟨by rw [List.length_map]; exact h.1, fun s hs => ?_, fun hn => ?_⟩
  · obtain ⟨t, ht, rfl⟩ := List.mem_map.1 hs
    rw [mkB_size]; exact h.2.1 t ht
  · obtain ⟨b, off, hA, hb, hc⟩ := h.2.2 hn
    refine ⟨b, off, hA, hb, fun j s hs => ?_⟩
    rw [List.getElem?_map] at hs
    obtain ⟨t, ht, rfl⟩ := Option.map_eq_some_iff.1 hs
    exact hc j t ht
theorem StrS.nmS {w : World} {B : Nat} {A : Option Addr} {n : Nat} {ss : List ByteArray} (h : StrS w B A n ss) : NmS w B A n (lists ss) := by
  refine ⟨by unfold lists; rw [List.length_map]; exact h.1, fun s hs => ?_, fun hn => ?_⟩
  · obtain ⟨t, ht, rfl⟩ := List.mem_map.1 hs
    have := h.2.1 t ht
    show t.data.toList.length ≤ maxLen
    rw [Array.length_toList]; exact this
  · obtain ⟨b, off, hA, hb, hc⟩ := h.2.2 hn
    refine ⟨b, off, hA, hb, fun j s hs => ?_⟩
    unfold lists at hs
    rw [List.getElem?_map] at hs
    obtain ⟨t, ht, rfl⟩ := Option.map_eq_some_iff.1 hs
    rw [hc j t ht]
theorem NmS.below {w w' : World} {B : Nat} {A : Option Addr} {n : Nat} {ss : List Strg} (h : NmS w B A n ss) (hb : Below B w w') : NmS w' B A n ss :=
  ⟨h.1, h.2.1, fun hn => by
    obtain ⟨b, off, hA, hlt, hc⟩ := h.2.2 hn
    exact ⟨b, off, hA, hlt, fun j s hs => (hb.cell (p := ⟨b, off + j, none⟩) hlt).trans (hc j s hs)⟩⟩
theorem NmS.mono {w : World} {B B' : Nat} {A : Option Addr} {n : Nat} {ss : List Strg} (h : NmS w B A n ss) (hB : B ≤ B') : NmS w B' A n ss :=
  ⟨h.1, h.2.1, fun hn => by
    obtain ⟨b, off, hA, hlt, hc⟩ := h.2.2 hn
    exact ⟨b, off, hA, by omega, hc⟩⟩
theorem NmS.nil (w : World) (B : Nat) (A : Option Addr) : NmS w B A 0 [] := ⟨rfl, by simp [Short], fun h => by omega⟩
/-- kept by a later world -/
theorem NmS.kept {w w' : World} {B : Nat} {A : Option Addr} {n : Nat} {ss : List Strg} (h : NmS w B A n ss) (hb : Below B w w') (hB : B ≤ w'.heap.size) : NmS w' w'.heap.size A n ss := (h.below hb).mono hB
theorem NmS.on {w w' : World} {A : Option Addr} {n : Nat} {ss : List Strg} (h : NmS w w.heap.size A n ss) (hb : Below w.heap.size w w') : NmS w' w'.heap.size A n ss := h.kept hb hb.size
theorem NmS.drewN {w : World} {B : Nat} {A : Option Addr} {n : Nat} {ss : List Strg} (h : NmS w B A n ss) (q : Nat) : NmS (w.drewN q) B A n ss := h
/-- the string at an index, and its cell -/
theorem NmS.at {w : World} {B : Nat} {A : Option Addr} {n : Nat} {ss : List Strg} (h : NmS w B A n ss) {k : Nat} (hk : k < n) :
    ∃ b off s, A = some ⟨b, off, none⟩ ∧ b < B ∧ ss[k]? = some s ∧ s.length ≤ maxLen ∧ w.cell? ⟨b, off + k, none⟩ = some (.string ⟨s.toArray⟩) := by
  obtain ⟨b, off, hA, hb, hc⟩ := h.2.2 (by omega)
  have hx : ss[k]? = some (ss[k]'(by have := h.1; omega)) := List.getElem?_eq_getElem _
  exact ⟨b, off, _, hA, hb, hx, h.2.1 _ (List.mem_of_getElem? hx), hc k _ hx⟩
theorem NmS.take {w : World} {B n g o : Nat} {ss : List Strg} (h : NmS w B (some ⟨g, o, none⟩) n ss) {p : Nat} (hp : p ≤ n) : NmS w B (some ⟨g, o, none⟩) p (ss.take p) := by
  refine ⟨by rw [List.length_take, ← h.1]; omega, fun s hs => h.2.1 s (List.mem_of_mem_take hs), fun hn => ?_⟩
  obtain ⟨b, off, hA, hb, hc⟩ := h.2.2 (by omega)
  refine ⟨b, off, hA, hb, fun j s hs => hc j s ?_⟩
  rw [List.getElem?_take] at hs
  split at hs
  · exact hs
  · cases hs
theorem NmS.drop {w : World} {B n g o : Nat} {ss : List Strg} (h : NmS w B (some ⟨g, o, none⟩) n ss) {p : Nat} (hp : p < n) : NmS w B (some ⟨g, o + p, none⟩) (n - p) (ss.drop p) := by
  refine ⟨by rw [List.length_drop, ← h.1], fun s hs => h.2.1 s (List.mem_of_mem_drop hs), fun hn => ?_⟩
  obtain ⟨b, off, hA, hb, hc⟩ := h.2.2 (by omega)
  injection hA with hA
  injection hA with e1 e2 _
  subst e1 e2
  refine ⟨g, o + p, rfl, hb, fun j s hs => ?_⟩
  rw [List.getElem?_drop] at hs
  rw [Nat.add_assoc]
  exact hc (p + j) s hs
/-- v is a slice of the call's own that holds the strings ss -/
def OwnN (w : World) (B : Nat) (v : Value) (ss : List Strg) : Prop := w.ownsRow B 9 1 v ss.length (ss.map encStr)
theorem map_one (ss : List Strg) : ∀ u ∈ ss.map encStr, u.oneCell' = true := by
  intro u hu
  obtain ⟨s, _, rfl⟩ := List.mem_map.1 hu
  rfl
theorem OwnN.nil (w : World) (B : Nat) : OwnN w B (.slice none 0 0) [] := World.ownsRow_nil _ _ _ _
theorem OwnN.form {w : World} {B : Nat} {v : Value} {ss : List Strg} (h : OwnN w B v ss) : ∃ A c, v = .slice A ss.length c := by
  rcases h.2 with ⟨rfl, h0⟩ | ⟨g, cap, cur, rfl, _⟩
  · rw [h0]; exact ⟨_, _, rfl⟩
  · exact ⟨_, _, rfl⟩
theorem OwnN.formG {w : World} {B : Nat} {v : Value} {ss : List Strg} (h : OwnN w B v ss) (hl : 0 < ss.length) :
    ∃ g cap, v = .slice (some ⟨g, 0, none⟩) ss.length cap ∧ B ≤ g ∧ g < w.heap.size ∧ ss.length ≤ cap := by
  have hlt := h.lt
  rcases h.2 with ⟨_, h0⟩ | ⟨g, cap, cur, rfl, hB, hg, hnc, _⟩
  · omega
  · exact ⟨g, cap, rfl, hB, (hlt g rfl).2, hnc⟩
theorem OwnN.rng {w : World} {B : Nat} {A : Option Addr} {n c : Nat} {ss : List Strg} (h : OwnN w B (.slice A n c) ss) (hf : Short ss) : NmS w w.heap.size A n ss := by
  have hl := h.lt
  rcases h.2 with ⟨hv, h0⟩ | ⟨g, cap, cur, hv, hB, hg, hnc, hcm, hcz, htk⟩
  · injection hv with e1 e2 e3
    subst e1 e2
    exact ⟨h0.symm, hf, fun h => by omega⟩
  · injection hv with e1 e2 e3
    subst e1 e2
    refine ⟨rfl, hf, fun _ => ⟨g, 0, rfl, (hl g rfl).2, fun j s hj => ?_⟩⟩
    have hlt : j < ss.length := (List.getElem?_eq_some_iff.1 hj).1
    have := World.ownsRow.cellAt h j (by omega)
    rw [Nat.zero_add, this, List.getElem?_map, hj]; rfl
theorem OwnN.holds {w : World} {B g n cap : Nat} {ss : List Strg} (h : OwnN w B (.slice (some ⟨g, 0, none⟩) n cap) ss) (hn : ss.length = n) : Holds encStr w g 0 ss.toArray := by
  subst hn
  intro j hj
  have hj' : j < ss.length := by simpa using hj
  refine ⟨?_, by rw [Nat.zero_add]; exact World.ownsRow.frozenAt h j⟩
  rw [Nat.zero_add, World.ownsRow.cellAt h j (by omega), List.getElem?_map, getElem!_pos ss.toArray j hj, List.getElem?_eq_getElem hj']
  simp
theorem OwnN.old {w w' : World} {B : Nat} {v : Value} {ss : List Strg} (h : OwnN w B v ss) (hb : Below w.heap.size w w') : OwnN w' B v ss := by
  have hl := h.lt
  refine ⟨h.1, ?_⟩
  rcases h.2 with hn | ⟨g, cap, cur, rfl, hB, hg, rest⟩
  · exact .inl hn
  · exact .inr ⟨g, cap, cur, rfl, hB, by rw [hb.block g (hl g rfl).2]; exact hg, rest⟩
theorem OwnN.drewN {w : World} {B : Nat} {v : Value} {ss : List Strg} (h : OwnN w B v ss) (n : Nat) : OwnN (w.drewN n) B v ss := h
theorem below_drewN {B : Nat} {a w : World} (h : Below B a w) (n : Nat) : Below B a (w.drewN n) := ⟨h.os, h.tape, h.output, h.size, h.block⟩
theorem OwnN.mono {w : World} {B B' : Nat} {v : Value} {ss : List Strg} (h : OwnN w B v ss) (hB : B' ≤ B) : OwnN w B' v ss := by
  refine ⟨h.1, ?_⟩
  rcases h.2 with hn | ⟨g, cap, cur, hv, hg, rest⟩
  · exact .inl hn
  · exact .inr ⟨g, cap, cur, hv, by omega, rest⟩
theorem OwnN.below {w0 w1 : World} {B : Nat} {v : Value} {ss : List Strg} {o : Obj} (h : OwnN w0 B v ss) (hb : B ≤ w0.heap.size) (hg : (w0.alloc o).grownBy w1 v.ownBlock) : Below B w0 w1 :=
  ((Below.refl B w0).alloc hb o).grown hg (by simp; omega) (fun j hj => (h.lt j hj).1)
theorem OwnN.lit (w : World) (B : Nat) (hB : B ≤ w.heap.size) (ss : List Strg) (cells : Array Value) (n : Nat) (hn : ss.length = n) (hc : cells.toList = ss.map encStr) (hl : ss.length ≤ maxLen) :
    OwnN (w.alloc (.cells cells 9)) B (.slice (some ⟨w.heap.size, 0, none⟩) n n) ss := by
  subst hn
  have hsz : cells.size = ss.length := by rw [← Array.length_toList, hc, List.length_map]
  exact ⟨by simp, .inr ⟨w.heap.size, ss.length, cells, rfl, hB, heap_alloc_new w _, Nat.le_refl _, hl, by omega, by rw [hc]; rw [List.take_of_length_le]; simp⟩⟩
theorem wp_app_n {ops : Array Oper} {rest : List Oper} {o : Oper} {a : Act} {Q : Exit → Act → World → Prop} {w0 : World} (hgd : o.guard = none) (s x : Operand)
    (ho : o.op = .call { callee := .builtin .append, args := #[s, x], argTypes := #[25, 25] }) (B : Nat) (v : Value) (l : List Strg) (hs : a.eval s = v) (hown : OwnN w0 B v l)
    (l' : List Strg) (m c : Nat) (hm : l'.length = m) (cells : Array Value) (hc : cells.toList = l'.map encStr) (H : Nat) (hH : w0.heap.size = H) (hx : a.eval x = .slice (some ⟨H, 0, none⟩) m c)
    (hbytes : l.length + m ≤ 1000000000) (hbase : B ≤ w0.heap.size)
    (h : ∀ v' w', OwnN w' B v' (l ++ l') → Below B w0 w' → wpList Tryz.prog ops Q rest (a.put o.dst v') w') :
    wpList Tryz.prog ops Q (o :: rest) a (w0.alloc (.cells cells 9)) := by
  obtain ⟨i0, hi, hz0, hz1, hz2⟩ := info_parts Tryz.infoStr
  subst hm
  subst hH
  refine wpList_append_own _ hgd s x 25 ho B 9 i0 (.string ⟨#[]⟩) 1 16 Tryz.underlying25 hi hz0 hz1 hz2 rfl (by decide) v l.length (l.map encStr) hs (World.ownsRow.alloc hown _)
    ⟨w0.heap.size, 0, none⟩ l'.length c (l'.map encStr) hx (by simp) ?_ (map_one l') (by unfold maxLen; omega) (by omega) (by simp; omega) ?_
  · rw [← hc]; exact World.news_of_block (heap_alloc_new w0 _)
  · intro v' w' h1 h2 _
    exact h v' w' (by unfold OwnN; rw [List.length_append, List.map_append]; exact h1) (hown.below hbase h2)
theorem run_app_none {w : World} {B : Nat} {v : Value} {l : List Strg} (h : OwnN w B v l) (c : Nat) (ty : TypeId) : (Builtin.append_ #[25, 25] ty #[v, .slice none 0 c]).run Tryz.prog w = .ok v w := by
  obtain ⟨i, hi, hz0, hz1, hz2⟩ := info_parts Tryz.infoStr
  rcases h.2 with ⟨rfl, _⟩ | ⟨g, cap, cur, rfl, _, _, hnc, _⟩
  · simp [Builtin.append_, run_underlying Tryz.underlying25, sizeOf, typeInfo, hi, Builtin.lenOf, Builtin.firstCells]
  · simp [Builtin.append_, run_underlying Tryz.underlying25, sizeOf, typeInfo, hi, Builtin.lenOf, Builtin.firstCells, hnc, storeCells]
theorem addr_add (b off q : Nat) : (⟨b, off, none⟩ : Addr).add q = ⟨b, off + q, none⟩ := by
  unfold Addr.add; rcases Nat.eq_zero_or_pos q with h | h
  · subst h; simp
  · simp [Nat.ne_of_gt h]
theorem run_app_src {w : World} {B B' : Nat} {v : Value} {l : List Strg} (h : OwnN w B v l) (hB : B ≤ w.heap.size) (A : Option Addr) (m c : Nat) (ss : List Strg) (hR : NmS w B' A m ss) (hbytes : l.length + m ≤ 1000000000) (ty : TypeId) :
    ∃ v' w', (Builtin.append_ #[25, 25] ty #[v, .slice A m c]).run Tryz.prog w = .ok v' w' ∧ OwnN w' B v' (l ++ ss) ∧ w.grownBy w' v.ownBlock := by
  obtain ⟨i0, hi, hz0, hz1, hz2⟩ := info_parts Tryz.infoStr
  rcases Nat.eq_zero_or_pos m with h0 | h0
  · have hr : ss = [] := List.eq_nil_of_length_eq_zero (hR.1.symm.trans h0)
    subst hr
    subst h0
    rcases A with _ | a
    · exact ⟨v, w, run_app_none h c ty, by rw [List.append_nil]; exact h, ⟨rfl, rfl, rfl, Nat.le_refl _, fun _ _ _ => rfl⟩⟩
    · obtain ⟨v', w', h1, h2, h3, _⟩ := run_append_own w B 25 ty 9 i0 (.string ⟨#[]⟩) 1 16 Tryz.underlying25 hi hz0 hz1 hz2 rfl (by decide) v l.length (l.map encStr) h a 0 c [] rfl (by intro j u hj; simp at hj) (by intro u hu; cases hu) (by unfold maxLen; omega) (by omega) hB
      exact ⟨v', w', h1, by unfold OwnN; rw [List.append_nil]; simpa using h2, h3⟩
  · obtain ⟨b, off, rfl, hb, hc⟩ := hR.2.2 h0
    have hm := hR.1
    obtain ⟨v', w', h1, h2, h3, _⟩ := run_append_own w B 25 ty 9 i0 (.string ⟨#[]⟩) 1 16 Tryz.underlying25 hi hz0 hz1 hz2 rfl (by decide) v l.length (l.map encStr) h ⟨b, off, none⟩ m c (ss.map encStr) (by rw [List.length_map, hm]; omega) (by
      intro j u hj
      rw [addr_add]
      rw [List.getElem?_map] at hj
      obtain ⟨s, hs, rfl⟩ := Option.map_eq_some_iff.1 hj
      exact hc j s hs) (map_one ss) (by unfold maxLen; omega) (by omega) hB
    exact ⟨v', w', h1, by unfold OwnN; rw [List.length_append, List.map_append, ← hm]; exact h2, h3⟩
theorem wp_app_src {ops : Array Oper} {rest : List Oper} {o : Oper} {a : Act} {Q : Exit → Act → World → Prop} {w : World} (hgd : o.guard = none) (s x : Operand)
    (ho : o.op = .call { callee := .builtin .append, args := #[s, x], argTypes := #[25, 25] }) (B B' : Nat) (v : Value) (l : List Strg) (hs : a.eval s = v) (hown : OwnN w B v l)
    (A : Option Addr) (m c : Nat) (ss : List Strg) (hx : a.eval x = .slice A m c) (hR : NmS w B' A m ss) (hbytes : l.length + m ≤ 1000000000) (hbase : B ≤ w.heap.size)
    (h : ∀ v' w', OwnN w' B v' (l ++ ss) → Below B w w' → wpList Tryz.prog ops Q rest (a.put o.dst v') w') :
    wpList Tryz.prog ops Q (o :: rest) a w := by
  obtain ⟨v', w', h1, h2, h3⟩ := run_app_src hown hbase A m c ss hR hbytes o.type
  exact Lib.wpList_append_run w hgd s x 25 25 ho v (.slice A m c) hs hx v' w' h1 (h v' w' h2 ((Below.refl B w).grown h3 hbase (fun j hj => (hown.lt j hj).1)))
/-- a store into a block below leaves a slice of the call's own as it was -/
theorem OwnN.setLow {w : World} {B : Nat} {v : Value} {ss : List Strg} (h : OwnN w B v ss) {r off : Nat} (hr : r < B) (x : Value) : OwnN (w.setCell ⟨r, off, none⟩ x) B v ss := by
  refine ⟨h.1, ?_⟩
  rcases h.2 with hn | ⟨g, cap, cur, rfl, hB, hg, rest⟩
  · exact .inl hn
  · exact .inr ⟨g, cap, cur, rfl, hB, by rw [Below.heap_setCell _ _ _ _ (by show g ≠ r; omega)]; exact hg, rest⟩
/-- a call hands back the valid set of names with the members p, finite or cofinite as said, with at most k strings, in memory of its own -/
def RetN (co : Bool) (p : Strg → Bool) (k : Nat) (w : World) (e : Ending) (w' : World) : Prop :=
  ∃ m A c, e = .returned (.agg #[.bool co, .slice A m.length c]) ∧ OwnN w' w.heap.size (.slice A m.length c) m ∧ Short m ∧ IsSet co m p ∧ m.length ≤ k ∧ Below w.heap.size w w'
theorem RetN.congr {co co' : Bool} {p p' : Strg → Bool} {k k' : Nat} {w w' : World} {e : Ending} (h : RetN co p k w e w') (hc : co = co') (hp : ∀ x, p x = p' x) (hk : k ≤ k') : RetN co' p' k' w e w' := by
  subst hc
  obtain ⟨m, A, c, h1, h2, h6, h3, h4, h5⟩ := h
  exact ⟨m, A, c, h1, h2, h6, h3.congr rfl hp, by omega, h5⟩
/-- the last step of a function that keeps its result in a block of its own -/
theorem RetN.stored {co : Bool} {p : Strg → Bool} {k r : Nat} {w w2 : World} {m : List Strg} {A : Option Addr} {c n : Nat} (hn : n = m.length) (ho : OwnN w2 (r + 1) (.slice A n c) m) (hr : w.heap.size ≤ r) (hs : Short m) (hp : IsSet co m p) (hk : m.length ≤ k) (hb : Below w.heap.size w w2) (x y : Value) :
    RetN co p k w (.returned (.agg #[.bool co, .slice A n c])) ((w2.setCell ⟨r, 0, none⟩ x).setCell ⟨r, 1, none⟩ y) := by
  subst hn
  exact ⟨m, A, c, rfl, ((ho.setLow (by omega) x).setLow (by omega) y).mono (by omega), hs, hp, hk, (hb.setCell (p := ⟨r, 0, none⟩) hr x).setCell (p := ⟨r, 1, none⟩) hr y⟩
/-- the two cells of a set of names that lies in a block -/
theorem names_cells {w : World} {r : Nat} {a b : Value} {t : TypeId} {fz : Nat × Nat} (h : w.heap[r]? = some (.cells #[a, b] t fz)) : w.cell? ⟨r, 0, none⟩ = some a ∧ w.cell? ⟨r, 1, none⟩ = some b := by
  have e0 : w.cell? ⟨r, 0, none⟩ = (#[a, b] : Array Value)[0]? := by simp [World.cell?, h]
  have e1 : w.cell? ⟨r, 1, none⟩ = (#[a, b] : Array Value)[1]? := by simp [World.cell?, h]
  exact ⟨e0, e1⟩
end Go.Proofs.YtjfknigiehggkaaGreat
namespace Go.Proofs.YtjfknigiehggkaaGreat
open Go Go.RowKit
theorem nodesVs_app : ∀ l m : List Vl, nodesVs (l ++ m) = nodesVs l + nodesVs m
  | [], m => by simp [nodesVs]
  | a :: s, m => by simp only [List.cons_append, nodesVs, nodesVs_app s m]; omega
theorem nodesEs_app : ∀ l m : List En, nodesEs (l ++ m) = nodesEs l + nodesEs m
  | [], m => by simp [nodesEs]
  | a :: s, m => by simp only [List.cons_append, nodesEs, nodesEs_app s m]; omega
theorem nodesVs_step {l : List Vl} {j : Nat} {x : Vl} (h : l[j]? = some x) : nodesVs (l.take (j + 1)) = nodesVs (l.take j) + nodes x ∧ nodesVs (l.take j) + nodes x ≤ nodesVs l := by
  have h1 : l.take (j + 1) = l.take j ++ [x] := by rw [List.take_add_one, h]; rfl
  have h2 := nodesVs_app (l.take (j + 1)) (l.drop (j + 1))
  rw [List.take_append_drop, h1, nodesVs_snoc] at h2
  exact ⟨by rw [h1, nodesVs_snoc], by omega⟩
theorem nodesEs_step {l : List En} {j : Nat} {x : En} (h : l[j]? = some x) : nodesEs (l.take (j + 1)) = nodesEs (l.take j) + nodesE x ∧ nodesEs (l.take j) + nodesE x ≤ nodesEs l := by
  have h1 : l.take (j + 1) = l.take j ++ [x] := by rw [List.take_add_one, h]; rfl
  have h2 := nodesEs_app (l.take (j + 1)) (l.drop (j + 1))
  rw [List.take_append_drop, h1, nodesEs_snoc] at h2
  exact ⟨by rw [h1, nodesEs_snoc], by omega⟩
theorem wrap_add {a b c : Int} (h : a + b = c) : wrap64 (wrap64 a + wrap64 b) = wrap64 c := by subst h; unfold wrap64; omega
theorem intI {n : Nat} {m : Int} (h : (n : Int) = m) : Value.int .i64 n = .int .i64 m := by rw [h]
set_option maxRecDepth 100000 in
set_option maxHeartbeats 3200000 in
theorem nodes_any : ∀ (k : Nat) (v : Vl) (cs : List Value) (w : World), VS k w w.heap.size v cs →
    Calls Tryz.prog 37 #[.agg cs.toArray] w fun e w' => e = .returned (.int .i64 (wrap64 (nodes v))) ∧ Below w.heap.size w w' := by
  intro k
  induction k with
  | zero => intro v cs w h; exact h.elim
  | succ k ih =>
    intro v cs w h
    obtain ⟨kind, int, text, kids, keys, ents, labels⟩ := v
    obtain ⟨uk, uy, ue, ul, rfl, _, _, _, hk, hyy, he, hll⟩ := h
    obtain ⟨A, cap, rfl, hkl⟩ := hk.form
    obtain ⟨A', cap', rfl, hel⟩ := he.form
    unfold maxLen at hkl hel
    have HKI := Lib.hid hk
    have HEN := Lib.hid he
    clear hk he hyy hll
    have IH := Lib.hid ih
    clear ih
    unfold nodes
    go_enter Tryz.func37, Tryz.ntmps37
    go_wp2_with fail
    obtain ⟨W, hW⟩ : ∃ W, W = w.alloc (.cells #[.int .i64 kind, .int .i64 int, .string ⟨text.toArray⟩, .slice A kids.length cap, uy, .slice A' ents.length cap', ul] 27) := ⟨_, rfl⟩
    have hbl : Below w.heap.size w W := by rw [hW]; exact (Below.refl _ _).alloc (Nat.le_refl _) _
    have d3 : W.cell? ⟨w.heap.size, 3, none⟩ = some (.slice A kids.length cap) := by rw [hW]; simp
    have d5 : W.cell? ⟨w.heap.size, 5, none⟩ = some (.slice A' ents.length cap') := by rw [hW]; simp
    have hlt : w.heap.size < W.heap.size := by rw [hW]; simp
    rw [← hW]
    clear hW
    have HB := Lib.hid hbl
    clear hbl
    go_loopw [3, 4] (fun n i wr => ∃ j : Nat, i = .int .i64 j ∧ j ≤ kids.length ∧ n = .int .i64 (wrap64 ((1 + nodesVs (kids.take j) : Nat) : Int)) ∧ Below W.heap.size W wr) (fun _ i _ => kids.length - (intOf i).toNat)
    case atStart => exact ⟨0, rfl, by omega, by simp [nodesVs, wrap64], Below.refl _ _⟩
    case round =>
      obtain ⟨j, rfl, hj, rfl, hb⟩ := hrel
      have e3 : wr.cell? ⟨w.heap.size, 3, none⟩ = some (.slice A kids.length cap) := (hb.cell (p := ⟨w.heap.size, 3, none⟩) hlt).trans d3
      have e5 : wr.cell? ⟨w.heap.size, 5, none⟩ = some (.slice A' ents.length cap') := (hb.cell (p := ⟨w.heap.size, 5, none⟩) hlt).trans d5
      by_cases hjn : j < kids.length
      · have hbw : Below w.heap.size w wr := HB.out.trans (hb.mono HB.out.size)
        obtain ⟨b, off, cap0, x0, x1, x2, x3, x4, x5, x6, hu, hbH, ⟨x, hx, hv⟩, c0, c1, c2, c3, c4, c5, c6⟩ := (HKI.out.on hbw (fun _ _ h => h)).at7 hjn
        injection hu with hA _ hcap
        subst hA hcap
        have hst := (nodesVs_step hx).1
        have hc := IH.out x _ wr (VS.up hbw.size (Nat.le_refl _) (VS.on hbw hv))
        have kn : (j : Int) < (kids.length : Int) := by omega
        have k0 : (0 : Int) ≤ (j : Int) := by omega
        have HX : Hid (wrap64 (wrap64 ((1 + nodesVs (kids.take j) : Nat) : Int) + wrap64 (nodes x : Int)) = wrap64 ((1 + nodesVs (kids.take (j + 1)) : Nat) : Int)) := Lib.hid (wrap_add (by rw [hst]; omega))
        have HV := Lib.hid hb
        clear hx hv hst hb hbw
        generalize wrap64 (nodes x : Int) = nx at hc HX
        generalize wrap64 ((1 + nodesVs (kids.take j) : Nat) : Int) = q at HX ⊢
        go_wp2_with (go_at_call 37; refine hc.mono ?_; rintro e w1 ⟨rfl, hb1⟩; refine Hid.out ?_)
        refine Lib.hid ?_
        clear hc
        go_wp2
        go_roundw
        case rel => exact ⟨j + 1, by go_num, by omega, by rw [← HX.out], HV.out.trans (hb1.mono HV.out.size)⟩
        case measure => simp [intOf]; omega
      · have hke : kids.take j = kids := List.take_of_length_le (by omega)
        rw [hke]
        go_wp2_with fail
        rename World => V
        have HBW := Lib.hid (HB.out.trans (hb.mono HB.out.size))
        have hlt1 : w.heap.size < V.heap.size := Nat.lt_of_lt_of_le hlt hb.size
        clear d3 d5 e3 hke hb hj hjn hlt
        go_loopw [3, 5] (fun n i w2 => ∃ j : Nat, i = .int .i64 j ∧ j ≤ ents.length ∧ n = .int .i64 (wrap64 ((1 + nodesVs kids + nodesEs (ents.take j) : Nat) : Int)) ∧ Below V.heap.size V w2) (fun _ i _ => ents.length - (intOf i).toNat)
        case atStart => exact ⟨0, rfl, by omega, by simp [nodesEs], Below.refl _ _⟩
        case round =>
          obtain ⟨j, rfl, hj, rfl, hb⟩ := hrel
          have f5 : wr.cell? ⟨w.heap.size, 5, none⟩ = some (.slice A' ents.length cap') := (hb.cell (p := ⟨w.heap.size, 5, none⟩) hlt1).trans e5
          by_cases hjn : j < ents.length
          · have hbw : Below w.heap.size w wr := HBW.out.trans (hb.mono HBW.out.size)
            obtain ⟨b, off, cap0, ya, yb, x0, x1, x2, x3, x4, x5, x6, hu, hbH, ⟨args, fails, result, hx, ua, rs, hcs, ha, hr⟩, c0, c1, c2, c3, c4, c5, c6, c7, c8⟩ := (HEN.out.on hbw (fun _ _ h => h)).at9 hjn
            injection hu with hA _ hcap
            subst hA hcap
            simp only [List.cons.injEq] at hcs
            obtain ⟨rfl, rfl, rfl⟩ := hcs
            obtain ⟨A2, cap2, rfl, hal⟩ := ha.form
            unfold maxLen at hal
            obtain ⟨a, i, st, A3, n3, c3', A4, n4, c4', A5, n5, c5', A6, n6, c6', he7⟩ := hr.form7
            simp only [List.cons.injEq, and_true] at he7
            obtain ⟨rfl, rfl, rfl, rfl, rfl, rfl, rfl⟩ := he7
            have hst := nodesEs_step hx
            have kn : (j : Int) < (ents.length : Int) := by omega
            have k0 : (0 : Int) ≤ (j : Int) := by omega
            have HX := Lib.hid hst
            have HV := Lib.hid hb
            have HAR := Lib.hid ha
            have HRS := Lib.hid hr
            have HBW2 := Lib.hid hbw
            have HJN := Lib.hid hjn
            clear hx hst ha hr hbw hb hj hjn
            go_wp2_with fail
            rename World => U
            obtain ⟨W2, hW2⟩ : ∃ W2, W2 = U.alloc (.cells #[.slice A2 args.length cap2, .bool fails, .int .i64 a, .int .i64 i, .string st, .slice A3 n3 c3', .slice A4 n4 c4', .slice A5 n5 c5', .slice A6 n6 c6'] 55) := ⟨_, rfl⟩
            have hb2 : Below U.heap.size U W2 := by rw [hW2]; exact (Below.refl _ _).alloc (Nat.le_refl _) _
            have q0 : W2.cell? ⟨U.heap.size, 0, none⟩ = some (.slice A2 args.length cap2) := by rw [hW2]; simp
            have q1 : W2.cell? ⟨U.heap.size, 1, none⟩ = some (.bool fails) := by rw [hW2]; simp
            have HQ : Hid (W2.cell? ⟨U.heap.size, 2, none⟩ = some (.int .i64 a) ∧ W2.cell? ⟨U.heap.size, 3, none⟩ = some (.int .i64 i) ∧ W2.cell? ⟨U.heap.size, 4, none⟩ = some (.string st) ∧ W2.cell? ⟨U.heap.size, 5, none⟩ = some (.slice A3 n3 c3') ∧ W2.cell? ⟨U.heap.size, 6, none⟩ = some (.slice A4 n4 c4') ∧ W2.cell? ⟨U.heap.size, 7, none⟩ = some (.slice A5 n5 c5') ∧ W2.cell? ⟨U.heap.size, 8, none⟩ = some (.slice A6 n6 c6')) := Lib.hid (by rw [hW2]; simp)
            have hlt2 : U.heap.size < W2.heap.size := by rw [hW2]; simp
            rw [← hW2]
            clear hW2
            have HB2 := Lib.hid hb2
            have HBU := Lib.hid (HBW2.out.trans (hb2.mono HBW2.out.size))
            have HVU := Lib.hid (HV.out.trans (hb2.mono HV.out.size))
            clear hb2 c0 c1 c2 c3 c4 c5 c6 c7 c8 f5
            rename ((j : Int) < (ents.length : Int)) => kj
            rename ((0 : Int) ≤ (j : Int)) => kj0
            generalize nodesEs (ents.take j) = NE at HX ⊢
            go_loopw [3, 7] (fun n i w3 => ∃ q : Nat, i = .int .i64 q ∧ q ≤ args.length ∧ n = .int .i64 (wrap64 ((1 + nodesVs kids + NE + nodesVs (args.take q) : Nat) : Int)) ∧ Below W2.heap.size W2 w3) (fun _ i _ => args.length - (intOf i).toNat)
            case atStart => exact ⟨0, rfl, by omega, by simp [nodesVs], Below.refl _ _⟩
            case round =>
              obtain ⟨q, rfl, hq, rfl, hb⟩ := hrel
              have r0 : wr.cell? ⟨U.heap.size, 0, none⟩ = some (.slice A2 args.length cap2) := (hb.cell (p := ⟨U.heap.size, 0, none⟩) hlt2).trans q0
              by_cases hqn : q < args.length
              · have hbw : Below w.heap.size w wr := HBU.out.trans (hb.mono HBU.out.size)
                have hbu : Below U.heap.size U wr := HB2.out.trans (hb.mono HB2.out.size)
                obtain ⟨b2, off2, cap3, x0, x1, x2, x3, x4, x5, x6, hu, hbH, ⟨x, hx, hv⟩, c0, c1, c2, c3, c4, c5, c6⟩ := (HAR.out.on hbw (fun _ _ h => h)).at7 hqn
                injection hu with hA _ hcap
                subst hA hcap
                have hst := (nodesVs_step hx).1
                have hc := IH.out x _ wr (VS.up hbw.size (Nat.le_refl _) (VS.on hbw hv))
                have kn : (q : Int) < (args.length : Int) := by omega
                have k0 : (0 : Int) ≤ (q : Int) := by omega
                have HY : Hid (wrap64 (wrap64 ((1 + nodesVs kids + NE + nodesVs (args.take q) : Nat) : Int) + wrap64 (nodes x : Int)) = wrap64 ((1 + nodesVs kids + NE + nodesVs (args.take (q + 1)) : Nat) : Int)) := Lib.hid (wrap_add (by rw [hst]; omega))
                have HV := Lib.hid hb
                clear hx hv hst hb hbw hbu
                generalize wrap64 (nodes x : Int) = nx at hc HY
                generalize wrap64 ((1 + nodesVs kids + NE + nodesVs (args.take q) : Nat) : Int) = p at HY ⊢
                go_wp2_with (go_at_call 37; refine hc.mono ?_; rintro e w1 ⟨rfl, hb1⟩; refine Hid.out ?_)
                refine Lib.hid ?_
                clear hc
                go_wp2
                go_roundw
                case rel => exact ⟨q + 1, by go_num, by omega, by rw [← HY.out], HV.out.trans (hb1.mono HV.out.size)⟩
                case measure => simp [intOf]; omega
              · have hke : args.take q = args := List.take_of_length_le (by omega)
                have hbu : Below U.heap.size U wr := HB2.out.trans (hb.mono HB2.out.size)
                have r1 : wr.cell? ⟨U.heap.size, 1, none⟩ = some (.bool fails) := (hb.cell (p := ⟨U.heap.size, 1, none⟩) hlt2).trans q1
                have HVW := Lib.hid (HVU.out.trans (hb.mono HVU.out.size))
                rw [hke]
                cases fails
                · obtain ⟨s2, s3, s4, s5, s6, s7, s8⟩ := HQ.out
                  have r2 := (hb.cell (p := ⟨U.heap.size, 2, none⟩) hlt2).trans s2
                  have r3 := (hb.cell (p := ⟨U.heap.size, 3, none⟩) hlt2).trans s3
                  have r4 := (hb.cell (p := ⟨U.heap.size, 4, none⟩) hlt2).trans s4
                  have r5 := (hb.cell (p := ⟨U.heap.size, 5, none⟩) hlt2).trans s5
                  have r6 := (hb.cell (p := ⟨U.heap.size, 6, none⟩) hlt2).trans s6
                  have r7 := (hb.cell (p := ⟨U.heap.size, 7, none⟩) hlt2).trans s7
                  have r8 := (hb.cell (p := ⟨U.heap.size, 8, none⟩) hlt2).trans s8
                  have hbw : Below w.heap.size w wr := HBU.out.trans (hb.mono HBU.out.size)
                  have hc := IH.out result _ wr (VS.up hbw.size (Nat.le_refl _) (VS.on hbw HRS.out))
                  have HX2 : Hid (wrap64 (wrap64 ((1 + nodesVs kids + NE + nodesVs args : Nat) : Int) + wrap64 (nodes result : Int)) = wrap64 ((1 + nodesVs kids + nodesEs (ents.take (j + 1)) : Nat) : Int)) := Lib.hid (wrap_add (by rw [HX.out.1, nodesE]; simp; omega))
                  clear s2 s3 s4 s5 s6 s7 s8 q0 q1 hb hbu hbw hke HX
                  generalize wrap64 (nodes result : Int) = nr at hc HX2
                  generalize wrap64 ((1 + nodesVs kids + NE + nodesVs args : Nat) : Int) = na at HX2 ⊢
                  go_wp2_with (go_at_call 37; refine hc.mono ?_; rintro e w1 ⟨rfl, hb1⟩; refine Hid.out ?_)
                  refine Lib.hid ?_
                  clear hc
                  go_wp2
                  go_roundw
                  case rel => exact ⟨j + 1, by go_num, HJN.out, by rw [← HX2.out], HVW.out.trans (hb1.mono HVW.out.size)⟩
                  case measure => have := HJN.out; simp [intOf]; omega
                · have HX2 : Hid (1 + nodesVs kids + nodesEs (ents.take (j + 1)) = 1 + nodesVs kids + NE + nodesVs args) := Lib.hid (by rw [HX.out.1, nodesE]; simp; omega)
                  clear q0 q1 hb hbu hke HX
                  go_wp2
                  go_roundw
                  case rel => exact ⟨j + 1, by go_num, HJN.out, by rw [HX2.out], HVW.out⟩
                  case measure => have := HJN.out; simp [intOf]; omega
          · have hke : ents.take j = ents := List.take_of_length_le (by omega)
            rw [hke]
            go_wp2
            go_ret
            exact ⟨by simp, HBW.out.trans (hb.mono HBW.out.size)⟩
end Go.Proofs.YtjfknigiehggkaaGreat
namespace Go.Proofs.YtjfknigiehggkaaGreat
open Go.ChangeShapes Go.WideShapes Go.ChangeAt Go.RowKit Go.Joins Go.Deep
theorem own : ownKnob Tryz.prog.godebug = none := by kernel_rfl
theorem laidOut : laidOutB Tryz.prog = true := by kernel_rfl
set_option maxRecDepth 100000 in
theorem valT : ValT Tryz.prog 27 3 2 9 22 74 23 55 24 4 25 where
  v := by kernel_rfl
  e := by kernel_rfl
  k := by kernel_rfl
  i := by kernel_rfl
  l := by kernel_rfl
  s := by kernel_rfl
  b := by kernel_rfl
  vs := by kernel_rfl
  ks := by kernel_rfl
  es := by kernel_rfl
  ss := by kernel_rfl
  cells := by kernel_rfl
set_option maxRecDepth 100000 in
theorem value_of_trod {H : Type} {enc : TypeId × Value → H} {W : World} {base : Nat} {v : Value} {d : DataW H} {p : List MemPlace} (hval : Value.okWide Tryz.prog W .any base 27 v) (h : DataW.Trod enc Tryz.prog W 0 (fun _ => true) true 27 v d p) :
    ∃ k u cs, v = .agg cs.toArray ∧ VS k W W.heap.size u cs := by
  obtain ⟨fs, hfs, _⟩ := fields_struct valT.v
  obtain ⟨cs, rfl, hsz⟩ := okWide_struct hfs hval
  obtain ⟨fuel, hf⟩ := h
  have hc : (Value.agg cs).cells.toList = cs.toList := rfl
  rw [hc] at hf
  obtain ⟨u, hu⟩ := val_of_trod valT fuel cs.toList _ hf
  exact ⟨fuel, u, cs.toList, by simp, hu⟩
end Go.Proofs.YtjfknigiehggkaaGreat
