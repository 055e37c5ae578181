/- The order of values: that it is total, by a row of numbers for each value whose lexicographic order it is. No program is named. -/
import Derived.Test.YtplmbmecjhmiiaaDoorVal
namespace Go.Proofs.YtplmbmecjhmiiaaDoor
open Go Go.RowKit
def thn (a b : Int) : Int := if a = 0 then b else a
theorem thn_zero {a b : Int} : thn a b = 0 ↔ a = 0 ∧ b = 0 := by
  unfold thn; split <;> omega
theorem thn_assoc (a b c : Int) : thn (thn a b) c = thn a (thn b c) := by
  unfold thn; split <;> simp_all
theorem thn_zero_right (a : Int) : thn a 0 = a := by
  unfold thn; split <;> omega
theorem thn_of {a : Int} (h : a ≠ 0) (b : Int) : thn a b = a := if_neg h
def cmpI (a b : Int) : Int := if a < b then -1 else if b < a then 1 else 0
theorem cmpI_zero {a b : Int} : cmpI a b = 0 ↔ a = b := by
  unfold cmpI; split
  · omega
  · split <;> omega
def lex : List Int → List Int → Int
  | [], [] => 0
  | [], _ :: _ => -1
  | _ :: _, [] => 1
  | a :: s, b :: t => thn (cmpI a b) (lex s t)
theorem lex_swap : ∀ s t : List Int, lex t s = - lex s t
  | [], [] => rfl
  | [], _ :: _ => rfl
  | _ :: _, [] => rfl
  | a :: s, b :: t => by
    simp only [lex]
    have := lex_swap s t
    unfold thn cmpI
    repeat (first | split | omega)
theorem lex_zero : ∀ s t : List Int, lex s t = 0 ↔ s = t
  | [], [] => by simp [lex]
  | [], _ :: _ => by simp [lex]
  | _ :: _, [] => by simp [lex]
  | a :: s, b :: t => by
    simp only [lex, thn_zero, cmpI_zero, lex_zero s t, List.cons.injEq]
theorem lex_trans : ∀ s t u : List Int, lex s t ≤ 0 → lex t u ≤ 0 → lex s u ≤ 0 ∧ (lex s t < 0 ∨ lex t u < 0 → lex s u < 0)
  | [], [], u, _, h2 => ⟨h2, fun h => by rcases h with h | h; exact absurd h (by simp [lex]); exact h⟩
  | [], _ :: _, [], _, h2 => absurd h2 (by simp [lex])
  | [], _ :: _, _ :: _, _, _ => by simp [lex]
  | _ :: _, [], _, h1, _ => absurd h1 (by simp [lex])
  | _ :: _, _ :: _, [], _, h2 => absurd h2 (by simp [lex])
  | a :: s, b :: t, c :: u, h1, h2 => by
    simp only [lex] at h1 h2 ⊢
    have h3 := lex_trans s t u
    revert h1 h2
    unfold thn cmpI
    repeat' split
    all_goals intros
    all_goals first | omega | (constructor <;> omega) | skip
theorem lex_range : ∀ s t : List Int, lex s t = -1 ∨ lex s t = 0 ∨ lex s t = 1
  | [], [] => by simp [lex]
  | [], _ :: _ => by simp [lex]
  | _ :: _, [] => by simp [lex]
  | a :: s, b :: t => by
    simp only [lex]
    have := lex_range s t
    unfold thn cmpI
    repeat' split
    all_goals omega
/-- texts, bytewise -/
def cmpT : List UInt8 → List UInt8 → Int
  | [], [] => 0
  | [], _ :: _ => -1
  | _ :: _, [] => 1
  | a :: s, b :: t => thn (cmpI a.toNat b.toNat) (cmpT s t)
def encT (s : List UInt8) : List Int := s.map (fun c => (c.toNat : Int) + 1) ++ [0]
theorem lexT : ∀ (a b : List UInt8) (s t : List Int), lex (encT a ++ s) (encT b ++ t) = thn (cmpT a b) (lex s t)
  | [], [], s, t => by simp [encT, lex, cmpT, cmpI]
  | [], b :: q, s, t => by
    have h : ∀ x : Int, cmpI 0 ((b.toNat : Int) + 1) = -1 := fun _ => if_pos (by omega)
    simp [encT, lex, cmpT, h 0, thn]
  | a :: p, [], s, t => by
    have h : cmpI ((a.toNat : Int) + 1) 0 = 1 := by unfold cmpI; rw [if_neg (by omega), if_pos (by omega)]
    simp [encT, lex, cmpT, h, thn]
  | a :: p, b :: q, s, t => by
    have h : cmpI ((a.toNat : Int) + 1) ((b.toNat : Int) + 1) = cmpI a.toNat b.toNat := by
      unfold cmpI
      simp only [show ((a.toNat : Int) + 1 < (b.toNat : Int) + 1) = ((a.toNat : Int) < b.toNat) from propext (by omega), show ((b.toNat : Int) + 1 < (a.toNat : Int) + 1) = ((b.toNat : Int) < a.toNat) from propext (by omega)]
    have e : ∀ (c : UInt8) (l : List UInt8), encT (c :: l) = ((c.toNat : Int) + 1) :: encT l := fun _ _ => rfl
    rw [e, e, List.cons_append, List.cons_append, lex, h, lexT p q s t, cmpT, thn_assoc]
theorem cmpT_zero : ∀ {a b : List UInt8}, cmpT a b = 0 ↔ a = b
  | [], [] => by simp [cmpT]
  | [], _ :: _ => by simp [cmpT]
  | _ :: _, [] => by simp [cmpT]
  | a :: s, b :: t => by
    simp only [cmpT, thn_zero, cmpI_zero, cmpT_zero (a := s) (b := t), List.cons.injEq]
    constructor
    · rintro ⟨h, rfl⟩
      exact ⟨UInt8.toNat_inj.1 (by omega), rfl⟩
    · rintro ⟨rfl, rfl⟩
      exact ⟨rfl, rfl⟩
def cmpK (a b : Int × List UInt8) : Int := thn (cmpI a.1 b.1) (cmpT a.2 b.2)
/-- lists without a look at their lengths -/
def cmpL {α : Type} (c : α → α → Int) : List α → List α → Int
  | a :: s, b :: t => thn (c a b) (cmpL c s t)
  | _, _ => 0
theorem cmpL_zero {α : Type} {c : α → α → Int} (hc : ∀ a b, c a b = 0 ↔ a = b) : ∀ {l m : List α}, l.length = m.length → (cmpL c l m = 0 ↔ l = m)
  | [], [], _ => by simp [cmpL]
  | a :: s, b :: t, h => by
    simp only [cmpL, thn_zero, hc, cmpL_zero hc (l := s) (m := t) (by simpa using h), List.cons.injEq]
def encK (a : Int × List UInt8) : List Int := a.1 :: encT a.2
theorem lexK (a b : Int × List UInt8) (s t : List Int) : lex (encK a ++ s) (encK b ++ t) = thn (cmpK a b) (lex s t) := by
  simp only [encK, List.cons_append, lex, cmpK, thn_assoc, lexT]
def encL {α : Type} (e : α → List Int) (l : List α) : List Int := l.flatMap e
theorem lexL {α : Type} {c : α → α → Int} {e : α → List Int} (h : ∀ a b s t, lex (e a ++ s) (e b ++ t) = thn (c a b) (lex s t)) : ∀ (l m : List α) (s t : List Int), l.length = m.length → lex (encL e l ++ s) (encL e m ++ t) = thn (cmpL c l m) (lex s t)
  | [], [], s, t, _ => by simp [encL, cmpL, thn]
  | a :: p, b :: q, s, t, hl => by
    have := lexL h p q s t (by simpa using hl)
    simp only [encL] at this ⊢
    simp only [List.flatMap_cons, List.append_assoc, h, cmpL, thn_assoc, this]
/-- a number of elements, then the elements -/
theorem lexN {n m : Nat} {x y s t : List Int} {c : Int} (h : n = m → lex (x ++ s) (y ++ t) = thn c (lex s t)) : lex ((n : Int) :: (x ++ s)) ((m : Int) :: (y ++ t)) = thn (cmpI n m) (thn c (lex s t)) := by
  simp only [lex]
  by_cases hn : n = m
  · rw [h hn]
  · have : cmpI n m ≠ 0 := fun h0 => hn (by have := cmpI_zero.1 h0; omega)
    rw [thn_of this, thn_of this]
def cmpF (a b : Bool) : Int := if a = b then 0 else if a then -1 else 1
def encF (a : Bool) : Int := if a then 0 else 1
theorem lexF (a b : Bool) : cmpI (encF a) (encF b) = cmpF a b := by cases a <;> cases b <;> rfl
mutual
def cmpV : Vl → Vl → Int
  | .mk k1 i1 t1 v1 y1 e1 l1, .mk k2 i2 t2 v2 y2 e2 l2 =>
    thn (cmpI k1 k2) (thn (cmpI i1 i2) (thn (cmpT t1 t2) (thn (cmpI y1.length y2.length) (thn (cmpL cmpK y1 y2) (thn (cmpI v1.length v2.length) (thn (cmpVs v1 v2) (thn (cmpI e1.length e2.length) (thn (cmpEs e1 e2) (thn (cmpI l1.length l2.length) (cmpL cmpT l1 l2))))))))))
def cmpVs : List Vl → List Vl → Int
  | a :: s, b :: t => thn (cmpV a b) (cmpVs s t)
  | [], _ => 0
  | _, [] => 0
def cmpE : En → En → Int
  | .mk a1 f1 r1, .mk a2 f2 r2 => thn (cmpI a1.length a2.length) (thn (cmpVs a1 a2) (thn (cmpF f1 f2) (cmpV r1 r2)))
def cmpEs : List En → List En → Int
  | a :: s, b :: t => thn (cmpE a b) (cmpEs s t)
  | [], _ => 0
  | _, [] => 0
end
mutual
def encV : Vl → List Int
  | .mk k i t v y e l => k :: i :: (encT t ++ ((y.length : Int) :: (encL encK y ++ ((v.length : Int) :: (encVs v ++ ((e.length : Int) :: (encEs e ++ ((l.length : Int) :: (encL encT l ++ [])))))))))
def encVs : List Vl → List Int
  | [] => []
  | a :: s => encV a ++ encVs s
def encE : En → List Int
  | .mk a f r => (a.length : Int) :: (encVs a ++ (encF f :: encV r))
def encEs : List En → List Int
  | [] => []
  | a :: s => encE a ++ encEs s
end
mutual
theorem lexV : ∀ (a b : Vl) (s t : List Int), lex (encV a ++ s) (encV b ++ t) = thn (cmpV a b) (lex s t)
  | .mk k1 i1 t1 v1 y1 e1 l1, .mk k2 i2 t2 v2 y2 e2 l2, s, t => by
    simp only [encV, cmpV, List.cons_append, List.append_assoc, List.nil_append, thn_assoc]
    rw [lex, lex, lexT, lexN (fun h => lexL lexK _ _ _ _ h), lexN (fun h => lexVs v1 v2 _ _ h), lexN (fun h => lexEs e1 e2 _ _ h), lexN (fun h => lexL lexT _ _ _ _ h)]
theorem lexVs : ∀ (l m : List Vl) (s t : List Int), l.length = m.length → lex (encVs l ++ s) (encVs m ++ t) = thn (cmpVs l m) (lex s t)
  | [], [], s, t, _ => by simp [encVs, cmpVs, thn]
  | a :: p, b :: q, s, t, h => by
    simp only [encVs, List.append_assoc, cmpVs, thn_assoc]
    rw [lexV a b, lexVs p q s t (by simpa using h)]
theorem lexE : ∀ (a b : En) (s t : List Int), lex (encE a ++ s) (encE b ++ t) = thn (cmpE a b) (lex s t)
  | .mk a1 f1 r1, .mk a2 f2 r2, s, t => by
    simp only [encE, cmpE, List.cons_append, List.append_assoc, thn_assoc]
    rw [lexN (fun h => lexVs a1 a2 _ _ h), lex, lexF, lexV r1 r2]
theorem lexEs : ∀ (l m : List En) (s t : List Int), l.length = m.length → lex (encEs l ++ s) (encEs m ++ t) = thn (cmpEs l m) (lex s t)
  | [], [], s, t, _ => by simp [encEs, cmpEs, thn]
  | a :: p, b :: q, s, t, h => by
    simp only [encEs, List.append_assoc, cmpEs, thn_assoc]
    rw [lexE a b, lexEs p q s t (by simpa using h)]
end
theorem cmpV_lex (a b : Vl) : cmpV a b = lex (encV a) (encV b) := by
  have := lexV a b [] []
  simp only [List.append_nil] at this
  rw [this, show lex [] [] = 0 from rfl, thn_zero_right]
mutual
theorem cmpV_eq : ∀ a b : Vl, cmpV a b = 0 → a = b
  | .mk k1 i1 t1 v1 y1 e1 l1, .mk k2 i2 t2 v2 y2 e2 l2, h => by
    simp only [cmpV, thn_zero, cmpI_zero] at h
    obtain ⟨rfl, rfl, ht, hy, hy', hv, hv', he, he', hl, hl'⟩ := h
    have ek : ∀ a b : Int × List UInt8, cmpK a b = 0 ↔ a = b := fun a b => by
      unfold cmpK
      rw [thn_zero, cmpI_zero, cmpT_zero]
      exact ⟨fun ⟨h1, h2⟩ => Prod.ext h1 h2, fun h => by rw [h]; exact ⟨rfl, rfl⟩⟩
    rw [cmpT_zero.1 ht, (cmpL_zero ek (by omega)).1 hy', (cmpL_zero (fun _ _ => cmpT_zero) (by omega)).1 hl', cmpVs_eq v1 v2 (by omega) hv', cmpEs_eq e1 e2 (by omega) he']
theorem cmpVs_eq : ∀ l m : List Vl, l.length = m.length → cmpVs l m = 0 → l = m
  | [], [], _, _ => rfl
  | a :: p, b :: q, hl, h => by
    simp only [cmpVs, thn_zero] at h
    rw [cmpV_eq a b h.1, cmpVs_eq p q (by simpa using hl) h.2]
theorem cmpE_eq : ∀ a b : En, cmpE a b = 0 → a = b
  | .mk a1 f1 r1, .mk a2 f2 r2, h => by
    simp only [cmpE, thn_zero, cmpI_zero] at h
    obtain ⟨hl, ha, hf, hr⟩ := h
    have : f1 = f2 := by revert hf; cases f1 <;> cases f2 <;> simp [cmpF]
    rw [cmpVs_eq a1 a2 (by omega) ha, this, cmpV_eq r1 r2 hr]
theorem cmpEs_eq : ∀ l m : List En, l.length = m.length → cmpEs l m = 0 → l = m
  | [], [], _, _ => rfl
  | a :: p, b :: q, hl, h => by
    simp only [cmpEs, thn_zero] at h
    rw [cmpE_eq a b h.1, cmpEs_eq p q (by simpa using hl) h.2]
end
theorem cmpV_zero {a b : Vl} : cmpV a b = 0 ↔ a = b := by
  constructor
  · exact cmpV_eq a b
  · rintro rfl
    rw [cmpV_lex, lex_zero]
theorem cmpV_swap (a b : Vl) : cmpV b a = - cmpV a b := by rw [cmpV_lex, cmpV_lex, lex_swap]
theorem cmpV_trans {a b c : Vl} (h1 : cmpV a b ≤ 0) (h2 : cmpV b c ≤ 0) : cmpV a c ≤ 0 ∧ (cmpV a b < 0 ∨ cmpV b c < 0 → cmpV a c < 0) := by
  rw [cmpV_lex] at h1 h2
  simp only [cmpV_lex]
  exact lex_trans _ _ _ h1 h2
theorem cmpV_range (a b : Vl) : cmpV a b = -1 ∨ cmpV a b = 0 ∨ cmpV a b = 1 := by rw [cmpV_lex]; exact lex_range _ _
end Go.Proofs.YtplmbmecjhmiiaaDoor
