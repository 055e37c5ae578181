/- Lists that ascend under a total order: insertion, uniqueness; entries and keys in order; values without labels. No program is named. -/
import Derived.Test.YtplmbmecjhmiiaaDoorValOrd
namespace Go.Proofs.YtplmbmecjhmiiaaDoor
open Go Go.RowKit
/-- c is a total order -/
structure Tot {α : Type} (c : α → α → Int) : Prop where
  zero : ∀ a b, c a b = 0 ↔ a = b
  swap : ∀ a b, c b a = - c a b
  trans : ∀ a b d, c a b < 0 → c b d < 0 → c a d < 0
theorem tot_of_lex {α : Type} {c : α → α → Int} {e : α → List Int} (h : ∀ a b, c a b = lex (e a) (e b)) (hz : ∀ a b, c a b = 0 → a = b) : Tot c where
  zero a b := ⟨hz a b, fun h' => by rw [h', h, lex_zero]⟩
  swap a b := by rw [h, h, lex_swap]
  trans a b d h1 h2 := by
    rw [h] at h1 h2 ⊢
    exact (lex_trans _ _ _ (by omega) (by omega)).2 (.inl h1)
theorem cmpE_lex (a b : En) : cmpE a b = lex (encE a) (encE b) := by
  have := lexE a b [] []
  simp only [List.append_nil] at this
  rw [this, show lex [] [] = 0 from rfl, thn_zero_right]
theorem cmpK_lex (a b : Int × List UInt8) : cmpK a b = lex (encK a) (encK b) := by
  have := lexK a b [] []
  simp only [List.append_nil] at this
  rw [this, show lex [] [] = 0 from rfl, thn_zero_right]
theorem cmpT_lex (a b : List UInt8) : cmpT a b = lex (encT a) (encT b) := by
  have := lexT a b [] []
  simp only [List.append_nil] at this
  rw [this, show lex [] [] = 0 from rfl, thn_zero_right]
theorem cmpK_zero {a b : Int × List UInt8} (h : cmpK a b = 0) : a = b := by
  unfold cmpK at h
  rw [thn_zero, cmpI_zero, cmpT_zero] at h
  exact Prod.ext h.1 h.2
theorem totV : Tot cmpV := tot_of_lex cmpV_lex cmpV_eq
theorem totE : Tot cmpE := tot_of_lex cmpE_lex cmpE_eq
theorem totK : Tot cmpK := tot_of_lex cmpK_lex fun _ _ => cmpK_zero
theorem totT : Tot cmpT := tot_of_lex cmpT_lex fun _ _ => cmpT_zero.1
def AscC {α : Type} (c : α → α → Int) (l : List α) : Prop := l.Pairwise fun a b => c a b < 0
def ins {α : Type} (c : α → α → Int) (x : α) : List α → List α
  | [] => [x]
  | a :: l => if c a x < 0 then a :: ins c x l else if c a x = 0 then a :: l else x :: a :: l
def srtC {α : Type} (c : α → α → Int) (l : List α) : List α := l.foldl (fun acc x => ins c x acc) []
section
variable {α : Type} {c : α → α → Int} (T : Tot c)
include T
theorem mem_ins (x : α) : ∀ (l : List α) (y : α), y ∈ ins c x l ↔ y = x ∨ y ∈ l
  | [], y => by simp [ins]
  | a :: l, y => by
    unfold ins
    split
    · rw [List.mem_cons, mem_ins x l y, List.mem_cons]
      constructor
      · rintro (h | h | h)
        · exact .inr (.inl h)
        · exact .inl h
        · exact .inr (.inr h)
      · rintro (h | h | h)
        · exact .inr (.inl h)
        · exact .inl h
        · exact .inr (.inr h)
    · split
      · rename_i h0
        rw [(T.zero a x).1 h0]
        simp
      · simp
theorem asc_ins (x : α) : ∀ (l : List α), AscC c l → AscC c (ins c x l)
  | [], _ => by simp [ins, AscC]
  | a :: l, h => by
    have h1 := List.pairwise_cons.1 h
    unfold ins
    split
    · rename_i hlt
      refine List.pairwise_cons.2 ⟨fun y hy => ?_, asc_ins x l h1.2⟩
      rcases (mem_ins T x l y).1 hy with rfl | hy
      · exact hlt
      · exact h1.1 y hy
    · split
      · exact h
      · rename_i hnlt hn0
        have hxa : c x a < 0 := by rw [T.swap]; omega
        refine List.pairwise_cons.2 ⟨fun y hy => ?_, h⟩
        rcases List.mem_cons.1 hy with rfl | hy
        · exact hxa
        · exact T.trans x a y hxa (h1.1 y hy)
theorem srt_props : ∀ (l acc : List α), AscC c acc → AscC c (l.foldl (fun acc x => ins c x acc) acc) ∧ ∀ y, y ∈ l.foldl (fun acc x => ins c x acc) acc ↔ y ∈ l ∨ y ∈ acc
  | [], acc, h => ⟨h, fun y => by simp⟩
  | x :: l, acc, h => by
    obtain ⟨h1, h2⟩ := srt_props l (ins c x acc) (asc_ins T x acc h)
    refine ⟨h1, fun y => ?_⟩
    rw [List.foldl_cons, h2 y, mem_ins T, List.mem_cons]
    constructor
    · rintro (h | h | h)
      · exact .inl (.inr h)
      · exact .inl (.inl h)
      · exact .inr h
    · rintro ((h | h) | h)
      · exact .inr (.inl h)
      · exact .inl h
      · exact .inr (.inr h)
theorem asc_srtC (l : List α) : AscC c (srtC c l) := (srt_props T l [] List.Pairwise.nil).1
theorem mem_srtC (l : List α) (y : α) : y ∈ srtC c l ↔ y ∈ l := by
  have := (srt_props T l [] List.Pairwise.nil).2 y
  simpa [srtC] using this
theorem ascC_unique : ∀ {l m : List α}, AscC c l → AscC c m → (∀ y, y ∈ l ↔ y ∈ m) → l = m
  | [], [], _, _, _ => rfl
  | [], b :: q, _, _, h => absurd ((h b).2 (by simp)) (by simp)
  | a :: p, [], _, _, h => absurd ((h a).1 (by simp)) (by simp)
  | a :: p, b :: q, hl, hm, h => by
    have h1 := List.pairwise_cons.1 hl
    have h2 := List.pairwise_cons.1 hm
    have irr : ∀ x, ¬ c x x < 0 := fun x hx => by have := (T.zero x x).2 rfl; omega
    have hab : a = b := by
      rcases List.mem_cons.1 ((h a).1 (by simp)) with e | e
      · exact e
      rcases List.mem_cons.1 ((h b).2 (by simp)) with e' | e'
      · exact e'.symm
      exact absurd (T.trans a b a (h1.1 b e') (h2.1 a e)) (irr a)
    subst hab
    rw [ascC_unique h1.2 h2.2 fun y => ?_]
    constructor
    · intro hy
      rcases List.mem_cons.1 ((h y).1 (by simp [hy])) with rfl | e
      · exact absurd (h1.1 _ hy) (irr _)
      · exact e
    · intro hy
      rcases List.mem_cons.1 ((h y).2 (by simp [hy])) with rfl | e
      · exact absurd (h2.1 _ hy) (irr _)
      · exact e
theorem srtC_congr {l m : List α} (h : ∀ y, y ∈ l ↔ y ∈ m) : srtC c l = srtC c m :=
  ascC_unique T (asc_srtC T l) (asc_srtC T m) fun y => by rw [mem_srtC T, mem_srtC T, h y]
theorem srtC_asc {l : List α} (h : AscC c l) : srtC c l = l := ascC_unique T (asc_srtC T l) h fun y => mem_srtC T l y
end
mutual
/-- a value without labels: entries that become equal are merged -/
def unl : Vl → Vl
  | .mk k i t v y e _ => .mk k i t (unlVs v) y (srtC cmpE (unlEs e)) []
def unlVs : List Vl → List Vl
  | [] => []
  | a :: s => unl a :: unlVs s
def unlE : En → En
  | .mk a f r => .mk (unlVs a) f (unl r)
def unlEs : List En → List En
  | [] => []
  | a :: s => unlE a :: unlEs s
end
theorem unlVs_map : ∀ l : List Vl, unlVs l = l.map unl
  | [] => rfl
  | a :: s => by rw [unlVs, unlVs_map s, List.map_cons]
theorem unlEs_map : ∀ l : List En, unlEs l = l.map unlE
  | [] => rfl
  | a :: s => by rw [unlEs, unlEs_map s, List.map_cons]
mutual
theorem unl_idem : ∀ v : Vl, unl (unl v) = unl v
  | .mk k i t v y e l => by
    rw [unl, unl, unlVs_idem v]
    congr 1
    apply srtC_congr totE
    intro x
    rw [unlEs_map, List.mem_map]
    constructor
    · rintro ⟨z, hz, rfl⟩
      rw [mem_srtC totE, unlEs_map, List.mem_map] at hz
      obtain ⟨u, hu, rfl⟩ := hz
      rw [unlEs_idem e u hu, unlEs_map]
      exact List.mem_map_of_mem hu
    · intro hx
      refine ⟨x, (mem_srtC totE _ _).2 hx, ?_⟩
      rw [unlEs_map, List.mem_map] at hx
      obtain ⟨u, hu, rfl⟩ := hx
      exact unlEs_idem e u hu
theorem unlVs_idem : ∀ l : List Vl, unlVs (unlVs l) = unlVs l
  | [] => rfl
  | a :: s => by rw [unlVs, unlVs, unl_idem a, unlVs_idem s]
theorem unlE_idem : ∀ e : En, unlE (unlE e) = unlE e
  | .mk a f r => by rw [unlE, unlE, unlVs_idem a, unl_idem r]
theorem unlEs_idem : ∀ (l : List En) (e : En), e ∈ l → unlE (unlE e) = unlE e
  | [], _, h => absurd h (by simp)
  | a :: s, e, h => by
    rcases List.mem_cons.1 h with he | h
    · rw [he]; exact unlE_idem a
    · exact unlEs_idem s e h
end
end Go.Proofs.YtplmbmecjhmiiaaDoor
