/- Values of the document as trees, and how such a tree lies in the heap. -/
import Derived.WalkKit
import Derived.Below
import Derived.ChangeArms
import Derived.DataReads
import Derived.WideShapes
import Derived.Deep.Slices
import Derived.Lib.Builder
import Derived.Lib.Hide
import Derived.Deep.RegionHeld3
import Derived.OwnWalk
import Derived.Laws.OwnMore
import Derived.Test.YtjfknigiehggkaaGreatProg
import Derived.Deep.AppendLies
import Derived.Deep.RegionLaw
import Derived.Lib.BufferWrite
import Derived.WalkSpells
import Derived.WalkLawsBesides
import Derived.Outline
import Derived.BigFrame
import Derived.BigQuiet
import Derived.Deep.LoopGhost
namespace Go.Proofs.YtjfknigiehggkaaGreat
open Go Go.RowKit Go.WideShapes Go.Deep
mutual
/-- a value: kind, integer, text, kids, keys, entries, labels -/
inductive Vl where
  | mk (kind int : Int) (text : List UInt8) (kids : List Vl) (keys : List (Int × List UInt8)) (ents : List En) (labels : List (List UInt8))
/-- an entry: arguments, whether it fails, result -/
inductive En where
  | mk (args : List Vl) (fails : Bool) (result : Vl)
end
/-- u is a slice of n elements of c cells each, all in blocks of B, and the cells of element j are as R says -/
def RowB (w : World) (B : Nat → Prop) (c : Nat) (u : Value) (n : Nat) (R : Nat → List Value → Prop) : Prop :=
  ∃ A cap, u = .slice A n cap ∧ (n ≤ maxLen ∧ n ≤ cap) ∧ (0 < n → ∃ b off, A = some ⟨b, off, none⟩ ∧ B b ∧ b < w.heap.size ∧ ∀ j, j < n → ∃ cs : List Value, cs.length = c ∧ (∀ i, i < c → w.cell? ⟨b, off + j * c + i, none⟩ = cs[i]?) ∧ R j cs)
/-- .. all below block H -/
abbrev RowP (w : World) (H c : Nat) (u : Value) (n : Nat) (R : Nat → List Value → Prop) : Prop := RowB w (fun b => b < H) c u n R
/-- the tree v lies in the world w in blocks of B, its root in the seven cells cs; k bounds its height -/
def VB : Nat → World → (Nat → Prop) → Vl → List Value → Prop
  | 0, _, _, _, _ => False
  | k + 1, w, B, .mk kind int text kids keys ents labels, cs =>
    ∃ uk uy ue ul, cs = [.int .i64 kind, .int .i64 int, .string ⟨text.toArray⟩, uk, uy, ue, ul] ∧
      (Lit.int .i64 kind).wf = true ∧ (Lit.int .i64 int).wf = true ∧ text.length ≤ maxLen ∧
      RowB w B 7 uk kids.length (fun j cs => ∃ x, kids[j]? = some x ∧ VB k w B x cs) ∧
      RowB w B 2 uy keys.length (fun j cs => ∃ x, keys[j]? = some x ∧ cs = [.int .i64 x.1, .string ⟨x.2.toArray⟩] ∧ (Lit.int .i64 x.1).wf = true ∧ x.2.length ≤ maxLen) ∧
      RowB w B 9 ue ents.length (fun j cs => ∃ args fails result, ents[j]? = some (.mk args fails result) ∧ ∃ ua rs, cs = ua :: .bool fails :: rs ∧ RowB w B 7 ua args.length (fun j cs => ∃ x, args[j]? = some x ∧ VB k w B x cs) ∧ VB k w B result rs) ∧
      RowB w B 1 ul labels.length (fun j cs => ∃ x, labels[j]? = some x ∧ cs = [.string ⟨x.toArray⟩] ∧ x.length ≤ maxLen)
abbrev VS (k : Nat) (w : World) (H : Nat) (v : Vl) (cs : List Value) : Prop := VB k w (fun b => b < H) v cs
theorem RowB.sub {w : World} {B B' : Nat → Prop} {c n : Nat} {u : Value} {R R' : Nat → List Value → Prop} (h : RowB w B c u n R) (hB : ∀ b, B b → B' b) (hR : ∀ j cs, R j cs → R' j cs) : RowB w B' c u n R' := by
  obtain ⟨A, cap, h1, h2, h3⟩ := h
  refine ⟨A, cap, h1, h2, fun hn => ?_⟩
  obtain ⟨b, off, h4, h5, h6, h7⟩ := h3 hn
  refine ⟨b, off, h4, hB b h5, h6, fun j hj => ?_⟩
  obtain ⟨cs, h8, h9, h10⟩ := h7 j hj
  exact ⟨cs, h8, h9, hR j cs h10⟩
/-- what lies in blocks of B is in w' as in w -/
structure Same (B : Nat → Prop) (w w' : World) : Prop where
  size : w.heap.size ≤ w'.heap.size
  cell : ∀ b i, B b → b < w.heap.size → w'.cell? ⟨b, i, none⟩ = w.cell? ⟨b, i, none⟩
theorem Same.of_below {w w' : World} {H : Nat} {B : Nat → Prop} (hb : Below H w w') (hB : ∀ b, B b → b < H) : Same B w w' :=
  ⟨hb.size, fun _ _ h _ => hb.cell (p := ⟨_, _, none⟩) (hB _ h)⟩
theorem Same.refl (B : Nat → Prop) (w : World) : Same B w w := ⟨Nat.le_refl _, fun _ _ _ _ => rfl⟩
theorem Same.trans {B : Nat → Prop} {w w' w'' : World} (h : Same B w w') (h' : Same B w' w'') : Same B w w'' :=
  ⟨Nat.le_trans h.size h'.size, fun b i hB hb => (h'.cell b i hB (Nat.lt_of_lt_of_le hb h.size)).trans (h.cell b i hB hb)⟩
theorem RowB.keep {w w' : World} {B : Nat → Prop} {c n : Nat} {u : Value} {R R' : Nat → List Value → Prop} (h : RowB w B c u n R) (hw : Same B w w') (hR : ∀ j cs, R j cs → R' j cs) : RowB w' B c u n R' := by
  obtain ⟨A, cap, h1, h2, h3⟩ := h
  refine ⟨A, cap, h1, h2, fun hn => ?_⟩
  obtain ⟨b, off, h4, h5, h6, h7⟩ := h3 hn
  refine ⟨b, off, h4, h5, Nat.lt_of_lt_of_le h6 hw.size, fun j hj => ?_⟩
  obtain ⟨cs, h8, h9, h10⟩ := h7 j hj
  exact ⟨cs, h8, fun i hi => (hw.cell b _ h5 h6).trans (h9 i hi), hR j cs h10⟩
theorem VB.keep {w w' : World} {B : Nat → Prop} (hw : Same B w w') : ∀ {k : Nat} {v : Vl} {cs : List Value}, VB k w B v cs → VB k w' B v cs
  | 0, _, _, h => h.elim
  | k + 1, .mk kind int text kids keys ents labels, cs, h => by
    obtain ⟨uk, uy, ue, ul, h1, h2, h3, h4, h5, h6, h7, h8⟩ := h
    refine ⟨uk, uy, ue, ul, h1, h2, h3, h4, h5.keep hw ?_, h6.keep hw fun _ _ h => h, h7.keep hw ?_, h8.keep hw fun _ _ h => h⟩
    · rintro j cs ⟨x, hx, hv⟩
      exact ⟨x, hx, VB.keep hw hv⟩
    · rintro j cs ⟨args, fails, result, hx, ua, rs, hc, ha, hr⟩
      refine ⟨args, fails, result, hx, ua, rs, hc, ha.keep hw ?_, VB.keep hw hr⟩
      rintro j cs ⟨x, hx, hv⟩
      exact ⟨x, hx, VB.keep hw hv⟩
theorem VB.sub {w : World} {B B' : Nat → Prop} (hB : ∀ b, B b → B' b) : ∀ {k k' : Nat} {v : Vl} {cs : List Value}, k ≤ k' → VB k w B v cs → VB k' w B' v cs
  | 0, _, _, _, _, h => h.elim
  | k + 1, 0, _, _, hk, _ => absurd hk (by omega)
  | k + 1, k' + 1, .mk kind int text kids keys ents labels, cs, hk, h => by
    have hk' : k ≤ k' := by omega
    obtain ⟨uk, uy, ue, ul, h1, h2, h3, h4, h5, h6, h7, h8⟩ := h
    refine ⟨uk, uy, ue, ul, h1, h2, h3, h4, h5.sub hB ?_, h6.sub hB fun _ _ h => h, h7.sub hB ?_, h8.sub hB fun _ _ h => h⟩
    · rintro j cs ⟨x, hx, hv⟩
      exact ⟨x, hx, VB.sub hB hk' hv⟩
    · rintro j cs ⟨args, fails, result, hx, ua, rs, hc, ha, hr⟩
      refine ⟨args, fails, result, hx, ua, rs, hc, ha.sub hB ?_, VB.sub hB hk' hr⟩
      rintro j cs ⟨x, hx, hv⟩
      exact ⟨x, hx, VB.sub hB hk' hv⟩
theorem RowB.mono {w : World} {H H' c n : Nat} {u : Value} {R R' : Nat → List Value → Prop} (h : RowP w H c u n R) (hH : H ≤ H') (hR : ∀ j cs, R j cs → R' j cs) : RowP w H' c u n R' :=
  RowB.sub h (fun _ hb => Nat.lt_of_lt_of_le hb hH) hR
/-- in a later world that is the same below H -/
theorem RowB.on {w w' : World} {H c n : Nat} {u : Value} {R R' : Nat → List Value → Prop} (h : RowP w H c u n R) (hb : Below H w w') (hR : ∀ j cs, R j cs → R' j cs) : RowP w' H c u n R' :=
  RowB.keep h (.of_below hb fun _ h => h) hR
theorem VS.on {w w' : World} {H : Nat} (hb : Below H w w') {k : Nat} {v : Vl} {cs : List Value} (h : VS k w H v cs) : VS k w' H v cs :=
  VB.keep (.of_below hb fun _ h => h) h
theorem VS.up {w : World} {H H' : Nat} (hH : H ≤ H') {k k' : Nat} {v : Vl} {cs : List Value} (hk : k ≤ k') (h : VS k w H v cs) : VS k' w H' v cs :=
  VB.sub (fun _ hb => Nat.lt_of_lt_of_le hb hH) hk h
/-- element j of a row of seven cells, in the walk's forms -/
theorem RowB.at7 {w : World} {H n j : Nat} {u : Value} {R : Nat → List Value → Prop} (h : RowP w H 7 u n R) (hj : j < n) :
    ∃ b off cap x0 x1 x2 x3 x4 x5 x6, u = .slice (some ⟨b, off, none⟩) n cap ∧ b < H ∧ R j [x0, x1, x2, x3, x4, x5, x6] ∧ w.cell? ⟨b, off + j * 7, none⟩ = some x0 ∧ w.cell? ⟨b, off + j * 7 + 1, none⟩ = some x1 ∧ w.cell? ⟨b, off + j * 7 + 2, none⟩ = some x2 ∧ w.cell? ⟨b, off + j * 7 + 3, none⟩ = some x3 ∧ w.cell? ⟨b, off + j * 7 + 4, none⟩ = some x4 ∧ w.cell? ⟨b, off + j * 7 + 5, none⟩ = some x5 ∧ w.cell? ⟨b, off + j * 7 + 6, none⟩ = some x6 := by
  obtain ⟨A, cap, h1, _, h3⟩ := h
  obtain ⟨b, off, rfl, h5, _, h7⟩ := h3 (by omega)
  obtain ⟨cs, h8, h9, h10⟩ := h7 j hj
  match cs, h8 with
  | [x0, x1, x2, x3, x4, x5, x6], _ =>
    exact ⟨b, off, cap, x0, x1, x2, x3, x4, x5, x6, h1, h5, h10, h9 0 (by omega), h9 1 (by omega), h9 2 (by omega), h9 3 (by omega), h9 4 (by omega), h9 5 (by omega), h9 6 (by omega)⟩
/-- element j of a row of nine cells -/
theorem RowB.at9 {w : World} {H n j : Nat} {u : Value} {R : Nat → List Value → Prop} (h : RowP w H 9 u n R) (hj : j < n) :
    ∃ b off cap y0 y1 x0 x1 x2 x3 x4 x5 x6, u = .slice (some ⟨b, off, none⟩) n cap ∧ b < H ∧ R j [y0, y1, x0, x1, x2, x3, x4, x5, x6] ∧ w.cell? ⟨b, off + j * 9, none⟩ = some y0 ∧ w.cell? ⟨b, off + j * 9 + 1, none⟩ = some y1 ∧ w.cell? ⟨b, off + j * 9 + 2, none⟩ = some x0 ∧ w.cell? ⟨b, off + j * 9 + 3, none⟩ = some x1 ∧ w.cell? ⟨b, off + j * 9 + 4, none⟩ = some x2 ∧ w.cell? ⟨b, off + j * 9 + 5, none⟩ = some x3 ∧ w.cell? ⟨b, off + j * 9 + 6, none⟩ = some x4 ∧ w.cell? ⟨b, off + j * 9 + 7, none⟩ = some x5 ∧ w.cell? ⟨b, off + j * 9 + 8, none⟩ = some x6 := by
  obtain ⟨A, cap, h1, _, h3⟩ := h
  obtain ⟨b, off, rfl, h5, _, h7⟩ := h3 (by omega)
  obtain ⟨cs, h8, h9, h10⟩ := h7 j hj
  match cs, h8 with
  | [y0, y1, x0, x1, x2, x3, x4, x5, x6], _ =>
    exact ⟨b, off, cap, y0, y1, x0, x1, x2, x3, x4, x5, x6, h1, h5, h10, h9 0 (by omega), h9 1 (by omega), h9 2 (by omega), h9 3 (by omega), h9 4 (by omega), h9 5 (by omega), h9 6 (by omega), h9 7 (by omega), h9 8 (by omega)⟩
theorem RowB.form {w : World} {B : Nat → Prop} {c n : Nat} {u : Value} {R : Nat → List Value → Prop} (h : RowB w B c u n R) : ∃ A cap, u = .slice A n cap ∧ n ≤ maxLen := by
  obtain ⟨A, cap, h1, h2, _⟩ := h
  exact ⟨A, cap, h1, h2.1⟩
theorem RowB.cap {w : World} {B : Nat → Prop} {c m n cap : Nat} {A : Option Addr} {R : Nat → List Value → Prop} (h : RowB w B c (.slice A m cap) n R) : n ≤ cap := by
  obtain ⟨A', cap', h1, h2, _⟩ := h
  injection h1 with _ _ e3
  subst e3
  exact h2.2
theorem RowB.take {w : World} {B : Nat → Prop} {c n cap p : Nat} {A : Option Addr} {R : Nat → List Value → Prop} (h : RowB w B c (.slice A n cap) n R) (hp : p ≤ n) (cap2 : Nat) (hc2 : cap2 = cap := by rfl) : RowB w B c (.slice A p cap2) p (fun j cs => j < p ∧ R j cs) := by
  subst hc2
  obtain ⟨A', cap', h1, h2, h3⟩ := h
  injection h1 with e1 _ e3
  subst e1 e3
  refine ⟨A, cap2, rfl, by omega, fun hn => ?_⟩
  obtain ⟨b, off, h4, h5, h6, h7⟩ := h3 (by omega)
  exact ⟨b, off, h4, h5, h6, fun j hj => by
    obtain ⟨cs, h8, h9, h10⟩ := h7 j (by omega)
    exact ⟨cs, h8, h9, hj, h10⟩⟩
/-- the forms of the seven cells -/
theorem VB.form7 {k : Nat} {w : World} {B : Nat → Prop} {v : Vl} {cs : List Value} (h : VB k w B v cs) :
    ∃ a i s A1 n1 c1 A2 n2 c2 A3 n3 c3 A4 n4 c4, cs = [.int .i64 a, .int .i64 i, .string s, .slice A1 n1 c1, .slice A2 n2 c2, .slice A3 n3 c3, .slice A4 n4 c4] := by
  cases k with
  | zero => exact h.elim
  | succ k =>
    obtain ⟨kind, int, text, kids, keys, ents, labels⟩ := v
    obtain ⟨uk, uy, ue, ul, rfl, _, _, _, h1, h2, h3, h4⟩ := h
    obtain ⟨A1, c1, rfl, _⟩ := h1.form
    obtain ⟨A2, c2, rfl, _⟩ := h2.form
    obtain ⟨A3, c3, rfl, _⟩ := h3.form
    obtain ⟨A4, c4, rfl, _⟩ := h4.form
    exact ⟨_, _, _, _, _, _, _, _, _, _, _, _, _, _, _, rfl⟩
/-- the cells of a box -/
theorem cells7 {w : World} {g : Nat} {e : TypeId} {z0 z1 z2 z3 z4 z5 z6 : Value} (h : w.heap[g]? = some (.cells #[z0, z1, z2, z3, z4, z5, z6] e (0, 0))) : w.cell? ⟨g, 0, none⟩ = some z0 ∧ w.cell? ⟨g, 1, none⟩ = some z1 ∧ w.cell? ⟨g, 2, none⟩ = some z2 ∧ w.cell? ⟨g, 3, none⟩ = some z3 ∧ w.cell? ⟨g, 4, none⟩ = some z4 ∧ w.cell? ⟨g, 5, none⟩ = some z5 ∧ w.cell? ⟨g, 6, none⟩ = some z6 :=
  ⟨(Lib.cell_of_heap h 0).trans rfl, (Lib.cell_of_heap h 1).trans rfl, (Lib.cell_of_heap h 2).trans rfl, (Lib.cell_of_heap h 3).trans rfl, (Lib.cell_of_heap h 4).trans rfl, (Lib.cell_of_heap h 5).trans rfl, (Lib.cell_of_heap h 6).trans rfl⟩
theorem frozen7 {w : World} {g : Nat} {e : TypeId} {z0 z1 z2 z3 z4 z5 z6 : Value} (h : w.heap[g]? = some (.cells #[z0, z1, z2, z3, z4, z5, z6] e (0, 0))) : w.frozen? ⟨g, 0, none⟩ = false ∧ w.frozen? ⟨g, 1, none⟩ = false ∧ w.frozen? ⟨g, 2, none⟩ = false ∧ w.frozen? ⟨g, 3, none⟩ = false ∧ w.frozen? ⟨g, 4, none⟩ = false ∧ w.frozen? ⟨g, 5, none⟩ = false ∧ w.frozen? ⟨g, 6, none⟩ = false :=
  ⟨Lib.frozen_of_heap h 0, Lib.frozen_of_heap h 1, Lib.frozen_of_heap h 2, Lib.frozen_of_heap h 3, Lib.frozen_of_heap h 4, Lib.frozen_of_heap h 5, Lib.frozen_of_heap h 6⟩
end Go.Proofs.YtjfknigiehggkaaGreat
namespace Go.Proofs.YtjfknigiehggkaaGreat
open Go Go.RowKit
def thn (a b : Int) : Int := if a = 0 then b else a
theorem thn_zero {a b : Int} : thn a b = 0 ↔ a = 0 ∧ b = 0 := by
  unfold thn; split <;> omega
theorem thn_assoc (a b c : Int) : thn (thn a b) c = thn a (thn b c) := by
  unfold thn; split <;> simp_all
theorem thn_zero_right (a : Int) : thn a 0 = a := by
  unfold thn; split <;> omega
theorem thn_of {a : Int} (h : a ≠ 0) (b : Int) : thn a b = a := if_neg h
def cmpI (a b : Int) : Int := if a < b then -1 else if b < a then 1 else 0
theorem cmpI_zero {a b : Int} : cmpI a b = 0 ↔ a = b := by
  unfold cmpI; split
  · omega
  · split <;> omega
def lex : List Int → List Int → Int
  | [], [] => 0
  | [], _ :: _ => -1
  | _ :: _, [] => 1
  | a :: s, b :: t => thn (cmpI a b) (lex s t)
theorem lex_swap : ∀ s t : List Int, lex t s = - lex s t
  | [], [] => rfl
  | [], _ :: _ => rfl
  | _ :: _, [] => rfl
  | a :: s, b :: t => by
    simp only [lex]
    have := lex_swap s t
    unfold thn cmpI
    repeat (first | split | omega)
theorem lex_zero : ∀ s t : List Int, lex s t = 0 ↔ s = t
  | [], [] => by simp [lex]
  | [], _ :: _ => by simp [lex]
  | _ :: _, [] => by simp [lex]
  | a :: s, b :: t => by
    simp only [lex, thn_zero, cmpI_zero, lex_zero s t, List.cons.injEq]
theorem lex_trans : ∀ s t u : List Int, lex s t ≤ 0 → lex t u ≤ 0 → lex s u ≤ 0 ∧ (lex s t < 0 ∨ lex t u < 0 → lex s u < 0)
  | [], [], u, _, h2 => ⟨h2, fun h => by rcases h with h | h; exact absurd h (by simp [lex]); exact h⟩
  | [], _ :: _, [], _, h2 => absurd h2 (by simp [lex])
  | [], _ :: _, _ :: _, _, _ => by simp [lex]
  | _ :: _, [], _, h1, _ => absurd h1 (by simp [lex])
  | _ :: _, _ :: _, [], _, h2 => absurd h2 (by simp [lex])
  | a :: s, b :: t, c :: u, h1, h2 => by
    simp only [lex] at h1 h2 ⊢
    have h3 := lex_trans s t u
    revert h1 h2
    unfold thn cmpI
    repeat' split
    all_goals intros
    all_goals first | omega | (constructor <;> omega) | skip
/-- texts, bytewise -/
def cmpT : List UInt8 → List UInt8 → Int
  | [], [] => 0
  | [], _ :: _ => -1
  | _ :: _, [] => 1
  | a :: s, b :: t => thn (cmpI a.toNat b.toNat) (cmpT s t)
def encT (s : List UInt8) : List Int := s.map (fun c => (c.toNat : Int) + 1) ++ [0]
theorem lexT : ∀ (a b : List UInt8) (s t : List Int), lex (encT a ++ s) (encT b ++ t) = thn (cmpT a b) (lex s t)
  | [], [], s, t => by simp [encT, lex, cmpT, cmpI]
  | [], b :: q, s, t => by
    have h : ∀ x : Int, cmpI 0 ((b.toNat : Int) + 1) = -1 := fun _ => if_pos (by omega)
    simp [encT, lex, cmpT, h 0, thn]
  | a :: p, [], s, t => by
    have h : cmpI ((a.toNat : Int) + 1) 0 = 1 := by unfold cmpI; rw [if_neg (by omega), if_pos (by omega)]
    simp [encT, lex, cmpT, h, thn]
  | a :: p, b :: q, s, t => by
    have h : cmpI ((a.toNat : Int) + 1) ((b.toNat : Int) + 1) = cmpI a.toNat b.toNat := by
      unfold cmpI
      simp only [show ((a.toNat : Int) + 1 < (b.toNat : Int) + 1) = ((a.toNat : Int) < b.toNat) from propext (by omega), show ((b.toNat : Int) + 1 < (a.toNat : Int) + 1) = ((b.toNat : Int) < a.toNat) from propext (by omega)]
    have e : ∀ (c : UInt8) (l : List UInt8), encT (c :: l) = ((c.toNat : Int) + 1) :: encT l := fun _ _ => rfl
    rw [e, e, List.cons_append, List.cons_append, lex, h, lexT p q s t, cmpT, thn_assoc]
theorem cmpT_zero : ∀ {a b : List UInt8}, cmpT a b = 0 ↔ a = b
  | [], [] => by simp [cmpT]
  | [], _ :: _ => by simp [cmpT]
  | _ :: _, [] => by simp [cmpT]
  | a :: s, b :: t => by
    simp only [cmpT, thn_zero, cmpI_zero, cmpT_zero (a := s) (b := t), List.cons.injEq]
    constructor
    · rintro ⟨h, rfl⟩
      exact ⟨UInt8.toNat_inj.1 (by omega), rfl⟩
    · rintro ⟨rfl, rfl⟩
      exact ⟨rfl, rfl⟩
def cmpK (a b : Int × List UInt8) : Int := thn (cmpI a.1 b.1) (cmpT a.2 b.2)
/-- lists without a look at their lengths -/
def cmpL {α : Type} (c : α → α → Int) : List α → List α → Int
  | a :: s, b :: t => thn (c a b) (cmpL c s t)
  | _, _ => 0
theorem cmpL_zero {α : Type} {c : α → α → Int} (hc : ∀ a b, c a b = 0 ↔ a = b) : ∀ {l m : List α}, l.length = m.length → (cmpL c l m = 0 ↔ l = m)
  | [], [], _ => by simp [cmpL]
  | a :: s, b :: t, h => by
    simp only [cmpL, thn_zero, hc, cmpL_zero hc (l := s) (m := t) (by simpa using h), List.cons.injEq]
def encK (a : Int × List UInt8) : List Int := a.1 :: encT a.2
theorem lexK (a b : Int × List UInt8) (s t : List Int) : lex (encK a ++ s) (encK b ++ t) = thn (cmpK a b) (lex s t) := by
  simp only [encK, List.cons_append, lex, cmpK, thn_assoc, lexT]
def encL {α : Type} (e : α → List Int) (l : List α) : List Int := l.flatMap e
theorem lexL {α : Type} {c : α → α → Int} {e : α → List Int} (h : ∀ a b s t, lex (e a ++ s) (e b ++ t) = thn (c a b) (lex s t)) : ∀ (l m : List α) (s t : List Int), l.length = m.length → lex (encL e l ++ s) (encL e m ++ t) = thn (cmpL c l m) (lex s t)
  | [], [], s, t, _ => by simp [encL, cmpL, thn]
  | a :: p, b :: q, s, t, hl => by
    have := lexL h p q s t (by simpa using hl)
    simp only [encL] at this ⊢
    simp only [List.flatMap_cons, List.append_assoc, h, cmpL, thn_assoc, this]
/-- a number of elements, then the elements -/
theorem lexN {n m : Nat} {x y s t : List Int} {c : Int} (h : n = m → lex (x ++ s) (y ++ t) = thn c (lex s t)) : lex ((n : Int) :: (x ++ s)) ((m : Int) :: (y ++ t)) = thn (cmpI n m) (thn c (lex s t)) := by
  simp only [lex]
  by_cases hn : n = m
  · rw [h hn]
  · have : cmpI n m ≠ 0 := fun h0 => hn (by have := cmpI_zero.1 h0; omega)
    rw [thn_of this, thn_of this]
def cmpF (a b : Bool) : Int := if a = b then 0 else if a then -1 else 1
def encF (a : Bool) : Int := if a then 0 else 1
theorem lexF (a b : Bool) : cmpI (encF a) (encF b) = cmpF a b := by cases a <;> cases b <;> rfl
mutual
def cmpV : Vl → Vl → Int
  | .mk k1 i1 t1 v1 y1 e1 l1, .mk k2 i2 t2 v2 y2 e2 l2 =>
    thn (cmpI k1 k2) (thn (cmpI i1 i2) (thn (cmpT t1 t2) (thn (cmpI y1.length y2.length) (thn (cmpL cmpK y1 y2) (thn (cmpI v1.length v2.length) (thn (cmpVs v1 v2) (thn (cmpI e1.length e2.length) (thn (cmpEs e1 e2) (thn (cmpI l1.length l2.length) (cmpL cmpT l1 l2))))))))))
def cmpVs : List Vl → List Vl → Int
  | a :: s, b :: t => thn (cmpV a b) (cmpVs s t)
  | [], _ => 0
  | _, [] => 0
def cmpE : En → En → Int
  | .mk a1 f1 r1, .mk a2 f2 r2 => thn (cmpI a1.length a2.length) (thn (cmpVs a1 a2) (thn (cmpF f1 f2) (cmpV r1 r2)))
def cmpEs : List En → List En → Int
  | a :: s, b :: t => thn (cmpE a b) (cmpEs s t)
  | [], _ => 0
  | _, [] => 0
end
mutual
def encV : Vl → List Int
  | .mk k i t v y e l => k :: i :: (encT t ++ ((y.length : Int) :: (encL encK y ++ ((v.length : Int) :: (encVs v ++ ((e.length : Int) :: (encEs e ++ ((l.length : Int) :: (encL encT l ++ [])))))))))
def encVs : List Vl → List Int
  | [] => []
  | a :: s => encV a ++ encVs s
def encE : En → List Int
  | .mk a f r => (a.length : Int) :: (encVs a ++ (encF f :: encV r))
def encEs : List En → List Int
  | [] => []
  | a :: s => encE a ++ encEs s
end
mutual
theorem lexV : ∀ (a b : Vl) (s t : List Int), lex (encV a ++ s) (encV b ++ t) = thn (cmpV a b) (lex s t)
  | .mk k1 i1 t1 v1 y1 e1 l1, .mk k2 i2 t2 v2 y2 e2 l2, s, t => by
    simp only [encV, cmpV, List.cons_append, List.append_assoc, List.nil_append, thn_assoc]
    rw [lex, lex, lexT, lexN (fun h => lexL lexK _ _ _ _ h), lexN (fun h => lexVs v1 v2 _ _ h), lexN (fun h => lexEs e1 e2 _ _ h), lexN (fun h => lexL lexT _ _ _ _ h)]
theorem lexVs : ∀ (l m : List Vl) (s t : List Int), l.length = m.length → lex (encVs l ++ s) (encVs m ++ t) = thn (cmpVs l m) (lex s t)
  | [], [], s, t, _ => by simp [encVs, cmpVs, thn]
  | a :: p, b :: q, s, t, h => by
    simp only [encVs, List.append_assoc, cmpVs, thn_assoc]
    rw [lexV a b, lexVs p q s t (by simpa using h)]
theorem lexE : ∀ (a b : En) (s t : List Int), lex (encE a ++ s) (encE b ++ t) = thn (cmpE a b) (lex s t)
  | .mk a1 f1 r1, .mk a2 f2 r2, s, t => by
    simp only [encE, cmpE, List.cons_append, List.append_assoc, thn_assoc]
    rw [lexN (fun h => lexVs a1 a2 _ _ h), lex, lexF, lexV r1 r2]
theorem lexEs : ∀ (l m : List En) (s t : List Int), l.length = m.length → lex (encEs l ++ s) (encEs m ++ t) = thn (cmpEs l m) (lex s t)
  | [], [], s, t, _ => by simp [encEs, cmpEs, thn]
  | a :: p, b :: q, s, t, h => by
    simp only [encEs, List.append_assoc, cmpEs, thn_assoc]
    rw [lexE a b, lexEs p q s t (by simpa using h)]
end
theorem cmpV_lex (a b : Vl) : cmpV a b = lex (encV a) (encV b) := by
  have := lexV a b [] []
  simp only [List.append_nil] at this
  rw [this, show lex [] [] = 0 from rfl, thn_zero_right]
mutual
theorem cmpV_eq : ∀ a b : Vl, cmpV a b = 0 → a = b
  | .mk k1 i1 t1 v1 y1 e1 l1, .mk k2 i2 t2 v2 y2 e2 l2, h => by
    simp only [cmpV, thn_zero, cmpI_zero] at h
    obtain ⟨rfl, rfl, ht, hy, hy', hv, hv', he, he', hl, hl'⟩ := h
    have ek : ∀ a b : Int × List UInt8, cmpK a b = 0 ↔ a = b := fun a b => by
      unfold cmpK
      rw [thn_zero, cmpI_zero, cmpT_zero]
      exact ⟨fun ⟨h1, h2⟩ => Prod.ext h1 h2, fun h => by rw [h]; exact ⟨rfl, rfl⟩⟩
    rw [cmpT_zero.1 ht, (cmpL_zero ek (by omega)).1 hy', (cmpL_zero (fun _ _ => cmpT_zero) (by omega)).1 hl', cmpVs_eq v1 v2 (by omega) hv', cmpEs_eq e1 e2 (by omega) he']
theorem cmpVs_eq : ∀ l m : List Vl, l.length = m.length → cmpVs l m = 0 → l = m
  | [], [], _, _ => rfl
  | a :: p, b :: q, hl, h => by
    simp only [cmpVs, thn_zero] at h
    rw [cmpV_eq a b h.1, cmpVs_eq p q (by simpa using hl) h.2]
theorem cmpE_eq : ∀ a b : En, cmpE a b = 0 → a = b
  | .mk a1 f1 r1, .mk a2 f2 r2, h => by
    simp only [cmpE, thn_zero, cmpI_zero] at h
    obtain ⟨hl, ha, hf, hr⟩ := h
    have : f1 = f2 := by revert hf; cases f1 <;> cases f2 <;> simp [cmpF]
    rw [cmpVs_eq a1 a2 (by omega) ha, this, cmpV_eq r1 r2 hr]
theorem cmpEs_eq : ∀ l m : List En, l.length = m.length → cmpEs l m = 0 → l = m
  | [], [], _, _ => rfl
  | a :: p, b :: q, hl, h => by
    simp only [cmpEs, thn_zero] at h
    rw [cmpE_eq a b h.1, cmpEs_eq p q (by simpa using hl) h.2]
end
theorem cmpV_zero {a b : Vl} : cmpV a b = 0 ↔ a = b := by
  constructor
  · exact cmpV_eq a b
  · rintro rfl
    rw [cmpV_lex, lex_zero]
end Go.Proofs.YtjfknigiehggkaaGreat
namespace Go.Proofs.YtjfknigiehggkaaGreat
open Go Go.RowKit
/-- c is a total order -/
structure Tot {α : Type} (c : α → α → Int) : Prop where
  zero : ∀ a b, c a b = 0 ↔ a = b
  swap : ∀ a b, c b a = - c a b
  trans : ∀ a b d, c a b < 0 → c b d < 0 → c a d < 0
theorem tot_of_lex {α : Type} {c : α → α → Int} {e : α → List Int} (h : ∀ a b, c a b = lex (e a) (e b)) (hz : ∀ a b, c a b = 0 → a = b) : Tot c where
  zero a b := ⟨hz a b, fun h' => by rw [h', h, lex_zero]⟩
  swap a b := by rw [h, h, lex_swap]
  trans a b d h1 h2 := by
    rw [h] at h1 h2 ⊢
    exact (lex_trans _ _ _ (by omega) (by omega)).2 (.inl h1)
theorem cmpE_lex (a b : En) : cmpE a b = lex (encE a) (encE b) := by
  have := lexE a b [] []
  simp only [List.append_nil] at this
  rw [this, show lex [] [] = 0 from rfl, thn_zero_right]
theorem cmpK_lex (a b : Int × List UInt8) : cmpK a b = lex (encK a) (encK b) := by
  have := lexK a b [] []
  simp only [List.append_nil] at this
  rw [this, show lex [] [] = 0 from rfl, thn_zero_right]
theorem cmpT_lex (a b : List UInt8) : cmpT a b = lex (encT a) (encT b) := by
  have := lexT a b [] []
  simp only [List.append_nil] at this
  rw [this, show lex [] [] = 0 from rfl, thn_zero_right]
theorem cmpK_zero {a b : Int × List UInt8} (h : cmpK a b = 0) : a = b := by
  unfold cmpK at h
  rw [thn_zero, cmpI_zero, cmpT_zero] at h
  exact Prod.ext h.1 h.2
theorem totE : Tot cmpE := tot_of_lex cmpE_lex cmpE_eq
theorem totK : Tot cmpK := tot_of_lex cmpK_lex fun _ _ => cmpK_zero
theorem totT : Tot cmpT := tot_of_lex cmpT_lex fun _ _ => cmpT_zero.1
def AscC {α : Type} (c : α → α → Int) (l : List α) : Prop := l.Pairwise fun a b => c a b < 0
def ins {α : Type} (c : α → α → Int) (x : α) : List α → List α
  | [] => [x]
  | a :: l => if c a x < 0 then a :: ins c x l else if c a x = 0 then a :: l else x :: a :: l
def srtC {α : Type} (c : α → α → Int) (l : List α) : List α := l.foldl (fun acc x => ins c x acc) []
section
variable {α : Type} {c : α → α → Int} (T : Tot c)
include T
theorem mem_ins (x : α) : ∀ (l : List α) (y : α), y ∈ ins c x l ↔ y = x ∨ y ∈ l
  | [], y => by simp [ins]
  | a :: l, y => by
    unfold ins
    split
    · rw [List.mem_cons, mem_ins x l y, List.mem_cons]
      constructor
      · rintro (h | h | h)
        · exact .inr (.inl h)
        · exact .inl h
        · exact .inr (.inr h)
      · rintro (h | h | h)
        · exact .inr (.inl h)
        · exact .inl h
        · exact .inr (.inr h)
    · split
      · rename_i h0
        rw [(T.zero a x).1 h0]
        simp
      · simp
theorem asc_ins (x : α) : ∀ (l : List α), AscC c l → AscC c (ins c x l)
  | [], _ => by simp [ins, AscC]
  | a :: l, h => by
    have h1 := List.pairwise_cons.1 h
    unfold ins
    split
    · rename_i hlt
      refine List.pairwise_cons.2 ⟨fun y hy => ?_, asc_ins x l h1.2⟩
      rcases (mem_ins T x l y).1 hy with rfl | hy
      · exact hlt
      · exact h1.1 y hy
    · split
      · exact h
      · rename_i hnlt hn0
        have hxa : c x a < 0 := by rw [T.swap]; omega
        refine List.pairwise_cons.2 ⟨fun y hy => ?_, h⟩
        rcases List.mem_cons.1 hy with rfl | hy
        · exact hxa
        · exact T.trans x a y hxa (h1.1 y hy)
theorem srt_props : ∀ (l acc : List α), AscC c acc → AscC c (l.foldl (fun acc x => ins c x acc) acc) ∧ ∀ y, y ∈ l.foldl (fun acc x => ins c x acc) acc ↔ y ∈ l ∨ y ∈ acc
  | [], acc, h => ⟨h, fun y => by simp⟩
  | x :: l, acc, h => by
    obtain ⟨h1, h2⟩ := srt_props l (ins c x acc) (asc_ins T x acc h)
    refine ⟨h1, fun y => ?_⟩
    rw [List.foldl_cons, h2 y, mem_ins T, List.mem_cons]
    constructor
    · rintro (h | h | h)
      · exact .inl (.inr h)
      · exact .inl (.inl h)
      · exact .inr h
    · rintro ((h | h) | h)
      · exact .inr (.inl h)
      · exact .inl h
      · exact .inr (.inr h)
theorem asc_srtC (l : List α) : AscC c (srtC c l) := (srt_props T l [] List.Pairwise.nil).1
theorem mem_srtC (l : List α) (y : α) : y ∈ srtC c l ↔ y ∈ l := by
  have := (srt_props T l [] List.Pairwise.nil).2 y
  simpa [srtC] using this
theorem ascC_unique : ∀ {l m : List α}, AscC c l → AscC c m → (∀ y, y ∈ l ↔ y ∈ m) → l = m
  | [], [], _, _, _ => rfl
  | [], b :: q, _, _, h => absurd ((h b).2 (by simp)) (by simp)
  | a :: p, [], _, _, h => absurd ((h a).1 (by simp)) (by simp)
  | a :: p, b :: q, hl, hm, h => by
    have h1 := List.pairwise_cons.1 hl
    have h2 := List.pairwise_cons.1 hm
    have irr : ∀ x, ¬ c x x < 0 := fun x hx => by have := (T.zero x x).2 rfl; omega
    have hab : a = b := by
      rcases List.mem_cons.1 ((h a).1 (by simp)) with e | e
      · exact e
      rcases List.mem_cons.1 ((h b).2 (by simp)) with e' | e'
      · exact e'.symm
      exact absurd (T.trans a b a (h1.1 b e') (h2.1 a e)) (irr a)
    subst hab
    rw [ascC_unique h1.2 h2.2 fun y => ?_]
    constructor
    · intro hy
      rcases List.mem_cons.1 ((h y).1 (by simp [hy])) with rfl | e
      · exact absurd (h1.1 _ hy) (irr _)
      · exact e
    · intro hy
      rcases List.mem_cons.1 ((h y).2 (by simp [hy])) with rfl | e
      · exact absurd (h2.1 _ hy) (irr _)
      · exact e
theorem srtC_congr {l m : List α} (h : ∀ y, y ∈ l ↔ y ∈ m) : srtC c l = srtC c m :=
  ascC_unique T (asc_srtC T l) (asc_srtC T m) fun y => by rw [mem_srtC T, mem_srtC T, h y]
end
mutual
/-- a value without labels: entries that become equal are merged -/
def unl : Vl → Vl
  | .mk k i t v y e _ => .mk k i t (unlVs v) y (srtC cmpE (unlEs e)) []
def unlVs : List Vl → List Vl
  | [] => []
  | a :: s => unl a :: unlVs s
def unlE : En → En
  | .mk a f r => .mk (unlVs a) f (unl r)
def unlEs : List En → List En
  | [] => []
  | a :: s => unlE a :: unlEs s
end
theorem unlVs_map : ∀ l : List Vl, unlVs l = l.map unl
  | [] => rfl
  | a :: s => by rw [unlVs, unlVs_map s, List.map_cons]
theorem unlEs_map : ∀ l : List En, unlEs l = l.map unlE
  | [] => rfl
  | a :: s => by rw [unlEs, unlEs_map s, List.map_cons]
mutual
theorem unl_idem : ∀ v : Vl, unl (unl v) = unl v
  | .mk k i t v y e l => by
    rw [unl, unl, unlVs_idem v]
    congr 1
    apply srtC_congr totE
    intro x
    rw [unlEs_map, List.mem_map]
    constructor
    · rintro ⟨z, hz, rfl⟩
      rw [mem_srtC totE, unlEs_map, List.mem_map] at hz
      obtain ⟨u, hu, rfl⟩ := hz
      rw [unlEs_idem e u hu, unlEs_map]
      exact List.mem_map_of_mem hu
    · intro hx
      refine ⟨x, (mem_srtC totE _ _).2 hx, ?_⟩
      rw [unlEs_map, List.mem_map] at hx
      obtain ⟨u, hu, rfl⟩ := hx
      exact unlEs_idem e u hu
theorem unlVs_idem : ∀ l : List Vl, unlVs (unlVs l) = unlVs l
  | [] => rfl
  | a :: s => by rw [unlVs, unlVs, unl_idem a, unlVs_idem s]
theorem unlE_idem : ∀ e : En, unlE (unlE e) = unlE e
  | .mk a f r => by rw [unlE, unlE, unlVs_idem a, unl_idem r]
theorem unlEs_idem : ∀ (l : List En) (e : En), e ∈ l → unlE (unlE e) = unlE e
  | [], _, h => absurd h (by simp)
  | a :: s, e, h => by
    rcases List.mem_cons.1 h with he | h
    · rw [he]; exact unlE_idem a
    · exact unlEs_idem s e h
end
end Go.Proofs.YtjfknigiehggkaaGreat
namespace Go.Proofs.YtjfknigiehggkaaGreat
open Go Go.RowKit
def lowB (c : Int) : Bool := decide (97 ≤ c) && decide (c ≤ 122)
def digB (c : Int) : Bool := decide (48 ≤ c) && decide (c ≤ 57)
def upB (c : Int) : Bool := decide (65 ≤ c) && decide (c ≤ 90)
def atomT (c : Int) : Bool := lowB c || digB c || c == 95
def varT (c : Int) : Bool := lowB c || upB c || digB c || c == 95
def nameB (first tail : Int → Bool) (l : List UInt8) : Bool :=
  decide (1 ≤ l.length) && decide (l.length ≤ 16) && first (l.headD 0).toNat && (l.drop 1).all (fun c => tail c.toNat)
def atomB (l : List UInt8) : Bool := nameB lowB atomT l
def varB (l : List UInt8) : Bool := nameB upB varT l
/-- a key is valid: kind 0 with the name of an atom, kind 1 with at most 65535 bytes -/
def keyB (k : Int) (l : List UInt8) : Bool := if k = 0 then atomB l else if k = 1 then decide (l.length ≤ 64) else false
theorem ret_bool {a b : Bool} (h : a = b) : Ending.returned (.bool a) = .returned (.bool b) := by rw [h]
theorem all_drop1 (p : UInt8 → Bool) (l : List UInt8) : (l.drop 1).all p = true ↔ ∀ j (h : j < l.length), 1 ≤ j → p l[j] = true := by
  cases l with
  | nil => simp
  | cons a r =>
    simp only [List.drop_succ_cons, List.drop_zero, List.all_eq_true]
    constructor
    · intro h j hj h1
      obtain ⟨j', rfl⟩ : ∃ j', j = j' + 1 := ⟨j - 1, by omega⟩
      simp only [List.getElem_cons_succ]
      exact h _ (List.getElem_mem _)
    · intro h x hx
      obtain ⟨i, hi, rfl⟩ := List.getElem_of_mem hx
      have := h (i + 1) (by simp; omega) (by omega)
      simpa using this
theorem nameB_true (f t : Int → Bool) (s : ByteArray) (h1 : 0 < s.size) (h2 : s.size ≤ 16) (hf : f (s[0]'h1).toNat = true)
    (ht : ∀ j (h : j < s.size), 1 ≤ j → t (s[j]'h).toNat = true) : nameB f t s.data.toList = true := by
  obtain ⟨⟨l⟩⟩ := s
  have e : (⟨⟨l⟩⟩ : ByteArray).size = l.length := rfl
  simp only [e] at h1 h2
  have ht' : ∀ j (h : j < l.length), 1 ≤ j → t (l[j]'h).toNat = true := fun j h h1 => ht j h h1
  have hf' : f (l[0]'h1).toNat = true := hf
  have hd : l.headD 0 = l[0]'h1 := by cases l with | nil => simp at h1 | cons a r => rfl
  unfold nameB
  simp only [Bool.and_eq_true, decide_eq_true_eq]
  exact ⟨⟨⟨h1, h2⟩, by rw [hd]; exact hf'⟩, (all_drop1 _ _).2 ht'⟩
theorem nameStep {t : Int → Bool} {s : ByteArray} {k : Nat} (hall : Hid (∀ j (h : j < s.size), 1 ≤ j → j < k → t (s[j]'h).toNat = true)) (hk : k < s.size) (hx : t (s[k]'hk).toNat = true) :
    ∀ j (h : j < s.size), 1 ≤ j → j < k + 1 → t (s[j]'h).toNat = true := by
  intro j h h1 h2
  by_cases e : j = k
  · subst e; exact hx
  · exact hall.out j h h1 (by omega)
theorem nameB_false (f t : Int → Bool) (s : ByteArray)
    (h : s.size < 1 ∨ 16 < s.size ∨ (∃ h : 0 < s.size, f (s[0]'h).toNat = false) ∨ (∃ j, ∃ h : j < s.size, 1 ≤ j ∧ t (s[j]'h).toNat = false)) : nameB f t s.data.toList = false := by
  obtain ⟨⟨l⟩⟩ := s
  rw [← Bool.not_eq_true]
  intro hn
  unfold nameB at hn
  simp only [Bool.and_eq_true, decide_eq_true_eq] at hn
  obtain ⟨⟨⟨h1, h2⟩, h3⟩, h4⟩ := hn
  rw [all_drop1] at h4
  have e : (⟨⟨l⟩⟩ : ByteArray).size = l.length := rfl
  rcases h with h | h | ⟨h, hf⟩ | ⟨j, h, hj, hf⟩
  · rw [e] at h; omega
  · rw [e] at h; omega
  · have hd : l.headD 0 = l[0]'h := by cases l with | nil => simp at h1 | cons a r => rfl
    rw [hd] at h3
    have : f (l[0]'h).toNat = false := hf
    rw [this] at h3; cases h3
  · have : t (l[j]'h).toNat = false := hf
    have h5 := h4 j h hj
    rw [this] at h5; cases h5
end Go.Proofs.YtjfknigiehggkaaGreat
namespace Go.Proofs.YtjfknigiehggkaaGreat
open Go Go.RowKit
instance {α : Type} (c : α → α → Int) (l : List α) : Decidable (AscC c l) := inferInstanceAs (Decidable (l.Pairwise fun a b => c a b < 0))
def kindOf : Vl → Int | .mk k _ _ _ _ _ _ => k
def zeroV : Vl := .mk 0 0 [] [] [] [] []
def argsOf : En → List Vl | .mk a _ _ => a
def failsOf : En → Bool | .mk _ f _ => f
def resOf : En → Vl | .mk _ _ r => r
def isZ (v : Vl) : Bool := decide (cmpV v zeroV = 0)
theorem isZ_iff {v : Vl} : isZ v = true ↔ v = zeroV := by unfold isZ; rw [decide_eq_true_iff, cmpV_zero]
def consB : List Vl → Bool
  | [_, b] => decide (kindOf b = 5) || decide (kindOf b = 7)
  | _ => false
def entB (i : Int) (e : En) : Bool := decide (((argsOf e).length : Int) = i) && (!failsOf e || isZ (resOf e))
/-- what the kind asks of the fields that it uses -/
def kindB (k i : Int) (t : List UInt8) (v : List Vl) (y : List (Int × List UInt8)) (e : List En) : Bool :=
  if k = 1 ∨ k = 5 then true
  else if k = 2 then decide (t.length ≤ 64)
  else if k = 3 then atomB t
  else if k = 4 then decide (0 ≤ i)
  else if k = 6 then decide (v.length ≤ 4)
  else if k = 7 then consB v
  else if k = 8 then y.all (fun x => keyB x.1 x.2) && decide (AscC cmpK y) && decide (y.length = v.length)
  else if k = 9 then decide (0 ≤ i ∧ i ≤ 4) && e.all (entB i) && decide (AscC cmpE e)
  else false
/-- the fields that the kind does not use are empty -/
def usesB (k i : Int) (t : List UInt8) (v : List Vl) (y : List (Int × List UInt8)) (e : List En) : Bool :=
  (decide (k = 1 ∨ k = 4 ∨ k = 9) || decide (i = 0)) && (decide (k = 2 ∨ k = 3) || t.isEmpty) && (decide (k = 6 ∨ k = 7 ∨ k = 8) || v.isEmpty) && (decide (k = 8) || y.isEmpty) && (decide (k = 9) || e.isEmpty)
def labelsB (l : List (List UInt8)) : Bool := l.all varB && decide (AscC cmpT l)
mutual
def okV : Vl → Bool
  | .mk k i t v y e l => labelsB l && usesB k i t v y e && kindB k i t v y e && okVs v && okEs e
def okVs : List Vl → Bool
  | [] => true
  | a :: s => okV a && okVs s
def okE : En → Bool
  | .mk a f r => okVs a && (f || okV r)
def okEs : List En → Bool
  | [] => true
  | a :: s => okE a && okEs s
end
theorem okVs_all : ∀ l : List Vl, okVs l = l.all okV
  | [] => rfl
  | a :: s => by rw [okVs, okVs_all s, List.all_cons]
theorem okEs_all : ∀ l : List En, okEs l = l.all okE
  | [] => rfl
  | a :: s => by rw [okEs, okEs_all s, List.all_cons]
theorem kindOf_unl (v : Vl) : kindOf (unl v) = kindOf v := by cases v; rfl
theorem unl_zero : unl zeroV = zeroV := rfl
theorem consB_unl {v : List Vl} (h : consB v = true) : consB (unlVs v) = true := by
  rw [unlVs_map]
  match v, h with
  | [_, b], h => simpa [consB, kindOf_unl] using h
theorem entB_unl {i : Int} {e : En} (h : entB i e = true) : entB i (unlE e) = true := by
  obtain ⟨a, f, r⟩ := e
  unfold entB at h ⊢
  simp only [unlE, argsOf, failsOf, resOf, unlVs_map, List.length_map] at h ⊢
  cases f
  · exact h
  · simp only [Bool.not_true, Bool.false_or, Bool.and_eq_true] at h ⊢
    refine ⟨h.1, ?_⟩
    rw [isZ_iff] at h ⊢
    rw [h.2, unl_zero]
theorem unlEs_mem {e : List En} {x : En} (h : x ∈ srtC cmpE (unlEs e)) : ∃ u, u ∈ e ∧ x = unlE u := by
  rw [mem_srtC totE, unlEs_map, List.mem_map] at h
  obtain ⟨u, hu, rfl⟩ := h
  exact ⟨u, hu, rfl⟩
theorem usesB_unl {k i : Int} {t : List UInt8} {v : List Vl} {y : List (Int × List UInt8)} {e : List En} (h : usesB k i t v y e = true) : usesB k i t (unlVs v) y (srtC cmpE (unlEs e)) = true := by
  unfold usesB at h ⊢
  simp only [Bool.and_eq_true, Bool.or_eq_true, List.isEmpty_iff] at h ⊢
  obtain ⟨⟨⟨⟨h1, h2⟩, h3⟩, h4⟩, h5⟩ := h
  refine ⟨⟨⟨⟨h1, h2⟩, ?_⟩, h4⟩, ?_⟩
  · rcases h3 with h | rfl
    · exact .inl h
    · exact .inr rfl
  · rcases h5 with h | rfl
    · exact .inl h
    · exact .inr rfl
theorem kindB_unl {k i : Int} {t : List UInt8} {v : List Vl} {y : List (Int × List UInt8)} {e : List En} (h : kindB k i t v y e = true) : kindB k i t (unlVs v) y (srtC cmpE (unlEs e)) = true := by
  unfold kindB at h ⊢
  split
  · rfl
  rename_i h1
  rw [if_neg h1] at h
  split
  · rename_i h2; rwa [if_pos h2] at h
  rename_i h2
  rw [if_neg h2] at h
  split
  · rename_i h3; rwa [if_pos h3] at h
  rename_i h3
  rw [if_neg h3] at h
  split
  · rename_i h4; rwa [if_pos h4] at h
  rename_i h4
  rw [if_neg h4] at h
  split
  · rename_i h5; rw [if_pos h5] at h
    rwa [unlVs_map, List.length_map]
  rename_i h5
  rw [if_neg h5] at h
  split
  · rename_i h6; rw [if_pos h6] at h
    exact consB_unl h
  rename_i h6
  rw [if_neg h6] at h
  split
  · rename_i h7; rw [if_pos h7] at h
    rwa [unlVs_map, List.length_map]
  rename_i h7
  rw [if_neg h7] at h
  split
  · rename_i h8; rw [if_pos h8] at h
    simp only [Bool.and_eq_true, List.all_eq_true, decide_eq_true_eq] at h ⊢
    refine ⟨⟨h.1.1, fun x hx => ?_⟩, asc_srtC totE _⟩
    obtain ⟨u, hu, rfl⟩ := unlEs_mem hx
    exact entB_unl (h.1.2 u hu)
  · rename_i h8; rwa [if_neg h8] at h
mutual
theorem okV_unl : ∀ v : Vl, okV v = true → okV (unl v) = true
  | .mk k i t v y e l, h => by
    unfold okV at h
    simp only [Bool.and_eq_true] at h
    obtain ⟨⟨⟨⟨_, h2⟩, h3⟩, h4⟩, h5⟩ := h
    unfold unl okV
    simp only [Bool.and_eq_true]
    refine ⟨⟨⟨⟨rfl, usesB_unl h2⟩, kindB_unl h3⟩, okVs_unl v h4⟩, ?_⟩
    rw [okEs_all, List.all_eq_true]
    intro x hx
    obtain ⟨u, hu, rfl⟩ := unlEs_mem hx
    exact okEs_unl e h5 u hu
theorem okVs_unl : ∀ l : List Vl, okVs l = true → okVs (unlVs l) = true
  | [], _ => rfl
  | a :: s, h => by
    unfold okVs at h
    simp only [Bool.and_eq_true] at h
    unfold unlVs okVs
    simp only [Bool.and_eq_true]
    exact ⟨okV_unl a h.1, okVs_unl s h.2⟩
theorem okE_unl : ∀ e : En, okE e = true → okE (unlE e) = true
  | .mk a f r, h => by
    unfold okE at h
    simp only [Bool.and_eq_true, Bool.or_eq_true] at h
    unfold unlE okE
    simp only [Bool.and_eq_true, Bool.or_eq_true]
    refine ⟨okVs_unl a h.1, ?_⟩
    rcases h.2 with h | h
    · exact .inl h
    · exact .inr (okV_unl r h)
theorem okEs_unl : ∀ l : List En, okEs l = true → ∀ u, u ∈ l → okE (unlE u) = true
  | [], _, _, hu => absurd hu (by simp)
  | a :: s, h, u, hu => by
    unfold okEs at h
    simp only [Bool.and_eq_true] at h
    rcases List.mem_cons.1 hu with e | hu
    · rw [e]; exact okE_unl a h.1
    · exact okEs_unl s h.2 u hu
end
mutual
/-- the number of nodes -/
def nodes : Vl → Nat
  | .mk _ _ _ v _ e _ => 1 + nodesVs v + nodesEs e
def nodesVs : List Vl → Nat
  | [] => 0
  | a :: s => nodes a + nodesVs s
def nodesE : En → Nat
  | .mk a f r => nodesVs a + if f then 0 else nodes r
def nodesEs : List En → Nat
  | [] => 0
  | a :: s => nodesE a + nodesEs s
end
mutual
def high : Vl → Nat
  | .mk _ _ _ v _ e _ => max (highVs v) (highEs e) + 1
def highVs : List Vl → Nat
  | [] => 0
  | a :: s => max (high a) (highVs s)
def highE : En → Nat
  | .mk a f r => max (highVs a) (if f then 0 else high r)
def highEs : List En → Nat
  | [] => 0
  | a :: s => max (highE a) (highEs s)
end
theorem nodesVs_snoc (l : List Vl) (x : Vl) : nodesVs (l ++ [x]) = nodesVs l + nodes x := by
  induction l with
  | nil => simp [nodesVs]
  | cons a s ih => simp only [List.cons_append, nodesVs, ih]; omega
theorem nodesEs_snoc (l : List En) (x : En) : nodesEs (l ++ [x]) = nodesEs l + nodesE x := by
  induction l with
  | nil => simp [nodesEs]
  | cons a s ih => simp only [List.cons_append, nodesEs, ih]; omega
theorem highVs_snoc (l : List Vl) (x : Vl) : highVs (l ++ [x]) = max (highVs l) (high x) := by
  induction l with
  | nil => simp [highVs]
  | cons a s ih => simp only [List.cons_append, highVs, ih]; omega
theorem highEs_snoc (l : List En) (x : En) : highEs (l ++ [x]) = max (highEs l) (highE x) := by
  induction l with
  | nil => simp [highEs]
  | cons a s ih => simp only [List.cons_append, highEs, ih]; omega
end Go.Proofs.YtjfknigiehggkaaGreat
namespace Go.Proofs.YtjfknigiehggkaaGreat
open Go
/-- operation number i of a list that is written out -/
def nthOp : List Oper → Nat → Option Oper
  | [], _ => none
  | o :: _, 0 => some o
  | _ :: l, n + 1 => nthOp l n
theorem nthOp_eq : ∀ (l : List Oper) (i : Nat), l[i]? = nthOp l i
  | [], _ => by simp [nthOp]
  | _ :: _, 0 => by simp [nthOp]
  | _ :: l, n + 1 => by simpa [nthOp] using nthOp_eq l n
theorem op_at {l : List Oper} {i : Nat} {o : Oper} (h : nthOp l i = some o) : l.toArray[i]? = some o := by
  rw [List.getElem?_toArray, nthOp_eq]; exact h
theorem take_op {P : Program} {md : Region.Mode} {l : List Oper} {Q : Exit → Act → World → Prop} {S : World → Prop} {i : Nat} {oi : Oper} {v : Value} {fuel : Nat} {listed : Array Bool} {a : Act} {w : World} (hi : nthOp l i = some oi)
    (hs : Region.noSelect l.toArray = true) (hf : Region.free md l.toArray listed i = true) (hr : (Region.ready md l.toArray listed).contains i = true)
    (hQ : ∀ c a w, Q (.panic c) (a.put oi.dst v) w → Q (.panic c) a w) (hy : YieldsIf P l.toArray S oi v a) (hS : S w)
    (h : wpAnyH P md l.toArray Q S fuel (listed.setIfInBounds i true) (a.put oi.dst v) w) : wpAnyH P md l.toArray Q S (fuel + 1) listed a w :=
  wpAnyH_take (op_at hi) hs hf hr hQ hy hS h
/-- take_op, its side goals closed by the usual tactics -/
theorem tk {P : Program} {md : Region.Mode} {l : List Oper} {Q : Exit → Act → World → Prop} {S : World → Prop} (i : Nat) {oi : Oper} {v : Value} {fuel : Nat} {listed : Array Bool} {a : Act} {w : World} (hS : S w)
    (h : wpAnyH P md l.toArray Q S fuel (listed.setIfInBounds i true) (a.put oi.dst v) w)
    (hi : nthOp l i = some oi := by exact rfl) (hs : Region.noSelect l.toArray = true := by kernel_rfl) (hf : Region.free md l.toArray listed i = true := by kernel_rfl) (hr : (Region.ready md l.toArray listed).contains i = true := by kernel_rfl)
    (hQ : ∀ c a w, Q (.panic c) (a.put oi.dst v) w → Q (.panic c) a w := by exact fun _ _ _ h => h) (hy : YieldsIf P l.toArray S oi v a := by exact Or.inl ⟨by rfl, (by intro w hSw; (try dsimp only at hSw); go_simp; try with_reducible rfl)⟩) : wpAnyH P md l.toArray Q S (fuel + 1) listed a w :=
  take_op hi hs hf hr hQ hy hS h
/-- .. where the operation is skipped -/
theorem tu {P : Program} {md : Region.Mode} {l : List Oper} {Q : Exit → Act → World → Prop} {S : World → Prop} (i : Nat) {oi : Oper} {fuel : Nat} {listed : Array Bool} {a : Act} {w : World} (hS : S w)
    (h : wpAnyH P md l.toArray Q S fuel (listed.setIfInBounds i true) (a.put oi.dst undef) w)
    (hi : nthOp l i = some oi := by exact rfl) (hs : Region.noSelect l.toArray = true := by kernel_rfl) (hf : Region.free md l.toArray listed i = true := by kernel_rfl) (hr : (Region.ready md l.toArray listed).contains i = true := by kernel_rfl)
    (hQ : ∀ c a w, Q (.panic c) (a.put oi.dst undef) w → Q (.panic c) a w := by exact fun _ _ _ h => h) (hy : YieldsIf P l.toArray S oi undef a := by exact Or.inr ⟨by rfl, rfl⟩) : wpAnyH P md l.toArray Q S (fuel + 1) listed a w :=
  take_op hi hs hf hr hQ hy hS h
theorem pA {α : Type} (l : List α) (i : Nat) (a : α) : l.toArray.setIfInBounds i a = (l.set i a).toArray := List.setIfInBounds_toArray ..
theorem pB {α : Type} (x : α) (l : List α) (a : α) : (x :: l).set 0 a = a :: l := rfl
theorem pC {α : Type} (x : α) (l : List α) (n : Nat) (a : α) : (x :: l).set (n + 1) a = x :: l.set n a := rfl
theorem step_op {P : Program} {l : List Oper} {Q : Exit → Act → World → Prop} {i : Nat} {o : Oper} {K : Act → World → Prop} {a : Act} {w : World} (ho : nthOp l i = some o) (hw : Region.wanted o (yielded l.toArray a.tmps) = true)
    (h : ∀ K' : Act → World → Prop, (∀ a w, K a w → K' a w) → Oper.wp P o a w K' Q) : wpOp P l.toArray Q i K a w :=
  wpOp_step (op_at ho) fun K' hK => by rw [if_pos hw]; exact h K' hK
/-- one operation alone may come up -/
theorem one_op {P : Program} {md : Region.Mode} {l : List Oper} {Q : Exit → Act → World → Prop} {S : World → Prop} (i : Nat) {o : Oper} {fuel : Nat} {listed : Array Bool} {a : Act} {w : World} (hr : Region.ready md l.toArray listed = [i]) (ho : nthOp l i = some o)
    (hw : Region.wanted o (yielded l.toArray a.tmps) = true) (h : ∀ K' : Act → World → Prop, (∀ a' w', S w' → wpAnyH P md l.toArray Q S fuel (listed.setIfInBounds i true) a' w' → K' a' w') → Oper.wp P o a w K' Q) : wpAnyH P md l.toArray Q S (fuel + 1) listed a w := by
  refine wpAnyH_all (rs := [i]) hr (by simp) fun j hj => ?_
  obtain rfl : j = i := by simpa using hj
  exact step_op ho hw fun K' hK => h K' fun a w hS hW => hK a w ⟨hS, hW⟩
end Go.Proofs.YtjfknigiehggkaaGreat
namespace Go.Proofs.YtjfknigiehggkaaGreat
open Go Go.RowKit
theorem obj7 {w : World} {g : Nat} {e : TypeId} {z0 z1 z2 z3 z4 z5 z6 : Value} (h : w.heap[g]? = some (.cells #[z0, z1, z2, z3, z4, z5, z6] e (0, 0))) (v0 v1 v2 v3 v4 v5 v6 : Value) : (((((((w.setCell ⟨g, 0, none⟩ (v0)).setCell ⟨g, 1, none⟩ (v1)).setCell ⟨g, 2, none⟩ (v2)).setCell ⟨g, 3, none⟩ (v3)).setCell ⟨g, 4, none⟩ (v4)).setCell ⟨g, 5, none⟩ (v5)).setCell ⟨g, 6, none⟩ (v6)).heap[g]? = some (.cells #[v0, v1, v2, v3, v4, v5, v6] e (0, 0)) := by
  have h0 := heap_setCell_same _ g 0 _ e v0 h
  have h1 := heap_setCell_same _ g 1 _ e v1 h0
  have h2 := heap_setCell_same _ g 2 _ e v2 h1
  have h3 := heap_setCell_same _ g 3 _ e v3 h2
  have h4 := heap_setCell_same _ g 4 _ e v4 h3
  have h5 := heap_setCell_same _ g 5 _ e v5 h4
  have h6 := heap_setCell_same _ g 6 _ e v6 h5
  simpa using h6
theorem obj9 {w : World} {g : Nat} {e : TypeId} {z0 z1 z2 z3 z4 z5 z6 z7 z8 : Value} (h : w.heap[g]? = some (.cells #[z0, z1, z2, z3, z4, z5, z6, z7, z8] e (0, 0))) (v0 v1 v2 v3 v4 v5 v6 v7 v8 : Value) : (((((((((w.setCell ⟨g, 0, none⟩ (v0)).setCell ⟨g, 1, none⟩ (v1)).setCell ⟨g, 2, none⟩ (v2)).setCell ⟨g, 3, none⟩ (v3)).setCell ⟨g, 4, none⟩ (v4)).setCell ⟨g, 5, none⟩ (v5)).setCell ⟨g, 6, none⟩ (v6)).setCell ⟨g, 7, none⟩ (v7)).setCell ⟨g, 8, none⟩ (v8)).heap[g]? = some (.cells #[v0, v1, v2, v3, v4, v5, v6, v7, v8] e (0, 0)) := by
  have h0 := heap_setCell_same _ g 0 _ e v0 h
  have h1 := heap_setCell_same _ g 1 _ e v1 h0
  have h2 := heap_setCell_same _ g 2 _ e v2 h1
  have h3 := heap_setCell_same _ g 3 _ e v3 h2
  have h4 := heap_setCell_same _ g 4 _ e v4 h3
  have h5 := heap_setCell_same _ g 5 _ e v5 h4
  have h6 := heap_setCell_same _ g 6 _ e v6 h5
  have h7 := heap_setCell_same _ g 7 _ e v7 h6
  have h8 := heap_setCell_same _ g 8 _ e v8 h7
  simpa using h8
theorem row_of_owns {w : World} {base : Nat} {e : TypeId} {c : Nat} {v : Value} {n : Nat} {xs : List Value} {B : Nat → Prop} {R : Nat → List Value → Prop} (h : w.ownsRow base e c v n xs) (hn : n ≤ maxLen)
    (hB : ∀ g, v.ownBlock = some g → base ≤ g → g < w.heap.size → B g) (hR : ∀ j, j < n → R j ((xs.drop (j * c)).take c)) (hc : 0 < c) : RowB w B c v n R := by
  obtain ⟨hl, hcase⟩ := h
  rcases hcase with ⟨rfl, rfl⟩ | ⟨g, cap, cur, rfl, hb, hg, h1, h2, h3, h4⟩
  · exact ⟨none, 0, rfl, ⟨Nat.zero_le _, Nat.le_refl _⟩, fun h => absurd h (by omega)⟩
  · have hlt : g < w.heap.size := (Array.getElem?_eq_some_iff.1 hg).1
    refine ⟨_, cap, rfl, ⟨hn, h1⟩, fun _ => ⟨g, 0, rfl, hB g rfl hb hlt, hlt, fun j hj => ?_⟩⟩
    have hle : (j + 1) * c ≤ n * c := Nat.mul_le_mul_right c hj
    have hle2 : n * c ≤ cap * c := Nat.mul_le_mul_right c h1
    rw [Nat.add_mul, Nat.one_mul] at hle
    refine ⟨(xs.drop (j * c)).take c, by simp; omega, fun i hi => ?_, hR j hj⟩
    rw [List.getElem?_take_of_lt hi, List.getElem?_drop, ← h4, List.getElem?_take_of_lt (by omega), Nat.zero_add]
    rw [Lib.cell_of_heap hg]
    simp
theorem sub_set {α : Type} {xs : List α} {p c a : Nat} {v : α} (h : a < p ∨ p + c ≤ a) : ((xs.set a v).drop p).take c = (xs.drop p).take c := by
  apply List.ext_getElem?
  intro i
  by_cases hi : i < c
  · rw [List.getElem?_take_of_lt hi, List.getElem?_take_of_lt hi, List.getElem?_drop, List.getElem?_drop, List.getElem?_set_ne (by omega)]
  · rw [List.getElem?_take_eq_none (by omega), List.getElem?_take_eq_none (by omega)]
theorem sub_set7 {α : Type} {xs : List α} {p : Nat} (v0 v1 v2 v3 v4 v5 v6 : α) (h : p + 7 ≤ xs.length) :
    ((((((((((xs.set p v0).set (p + 1) v1).set (p + 2) v2).set (p + 3) v3).set (p + 4) v4).set (p + 5) v5).set (p + 6) v6).drop p)).take 7) = [v0, v1, v2, v3, v4, v5, v6] := by
  apply List.ext_getElem?
  intro i
  by_cases hi : i < 7
  · rw [List.getElem?_take_of_lt hi, List.getElem?_drop]
    match i, hi with
    | 0, _ => simp [List.getElem?_set]; omega
    | 1, _ => simp [List.getElem?_set]; omega
    | 2, _ => simp [List.getElem?_set]; omega
    | 3, _ => simp [List.getElem?_set]; omega
    | 4, _ => simp [List.getElem?_set]; omega
    | 5, _ => simp [List.getElem?_set]; omega
    | 6, _ => simp [List.getElem?_set]; omega
  · rw [List.getElem?_take_eq_none (by omega), List.getElem?_eq_none (by simp; omega)]
theorem sub_set9 {α : Type} {xs : List α} {p : Nat} (v0 v1 v2 v3 v4 v5 v6 v7 v8 : α) (h : p + 9 ≤ xs.length) :
    ((((((((((((xs.set p v0).set (p + 1) v1).set (p + 2) v2).set (p + 3) v3).set (p + 4) v4).set (p + 5) v5).set (p + 6) v6).set (p + 7) v7).set (p + 8) v8).drop p)).take 9) = [v0, v1, v2, v3, v4, v5, v6, v7, v8] := by
  apply List.ext_getElem?
  intro i
  by_cases hi : i < 9
  · rw [List.getElem?_take_of_lt hi, List.getElem?_drop]
    match i, hi with
    | 0, _ => simp [List.getElem?_set]; omega
    | 1, _ => simp [List.getElem?_set]; omega
    | 2, _ => simp [List.getElem?_set]; omega
    | 3, _ => simp [List.getElem?_set]; omega
    | 4, _ => simp [List.getElem?_set]; omega
    | 5, _ => simp [List.getElem?_set]; omega
    | 6, _ => simp [List.getElem?_set]; omega
    | 7, _ => simp [List.getElem?_set]; omega
    | 8, _ => simp [List.getElem?_set]; omega
  · rw [List.getElem?_take_eq_none (by omega), List.getElem?_eq_none (by simp; omega)]
/-- the world differs from the elder one in cells of block g alone (and has no less blocks) -/
theorem same_setCell {B : Nat → Prop} {w w' : World} {g i : Nat} {v : Value} (h : Same B w w') (hg : ¬ B g) : Same B w (w'.setCell ⟨g, i, none⟩ v) := by
  refine ⟨by simpa using h.size, fun b j hB hb => ?_⟩
  rw [World.cell?_setCell_other _ _ _ _ (by intro e; simp only [Addr.mk.injEq] at e; exact hg (e.1 ▸ hB))]
  exact h.cell b j hB hb
mutual
/-- all lists in v are short -/
def sml : Vl → Prop
  | .mk _ _ _ v y e l => v.length ≤ 1048576 ∧ y.length ≤ 1048576 ∧ e.length ≤ 1048576 ∧ l.length ≤ 1048576 ∧ smlVs v ∧ smlEs e
def smlVs : List Vl → Prop
  | [] => True
  | a :: s => sml a ∧ smlVs s
def smlE : En → Prop
  | .mk a _ r => a.length ≤ 1048576 ∧ smlVs a ∧ sml r
def smlEs : List En → Prop
  | [] => True
  | a :: s => smlE a ∧ smlEs s
end
theorem smlVs_iff : ∀ {l : List Vl}, smlVs l ↔ ∀ x, x ∈ l → sml x
  | [] => by simp [smlVs]
  | a :: s => by simp [smlVs, smlVs_iff (l := s)]
theorem smlEs_iff : ∀ {l : List En}, smlEs l ↔ ∀ x, x ∈ l → smlE x
  | [] => by simp [smlEs]
  | a :: s => by simp [smlEs, smlEs_iff (l := s)]
end Go.Proofs.YtjfknigiehggkaaGreat
namespace Go.Proofs.YtjfknigiehggkaaGreat
open Go.RowKit
/-- the slice of strings .slice A n cap reads as the strings ss, in blocks below B -/
def StrS (w : World) (B : Nat) (A : Option Addr) (n : Nat) (ss : List ByteArray) : Prop :=
  n = ss.length ∧ (∀ s ∈ ss, s.size ≤ maxLen) ∧ (0 < n → ∃ b off, A = some ⟨b, off, none⟩ ∧ b < B ∧ ∀ j s, ss[j]? = some s → w.cell? ⟨b, off + j, none⟩ = some (.string s))
theorem StrS.below {w w' : World} {B : Nat} {A : Option Addr} {n : Nat} {ss : List ByteArray} (h : StrS w B A n ss) (hb : Below B w w') : StrS w' B A n ss :=
  ⟨h.1, h.2.1, fun hn => by
    obtain ⟨b, off, hA, hlt, hc⟩ := h.2.2 hn
    exact ⟨b, off, hA, hlt, fun j s hs => (hb.cell (p := ⟨b, off + j, none⟩) hlt).trans (hc j s hs)⟩⟩
theorem Tryz.infoStr : (Tryz.prog.info? 9).map (fun i => (i.zero, i.size, i.bytes)) = some (some (.string ⟨#[]⟩), 1, 16) := by kernel_rfl
end Go.Proofs.YtjfknigiehggkaaGreat
namespace Go.Proofs.YtjfknigiehggkaaGreat
open Go Go.RowKit
theorem nodesVs_app : ∀ l m : List Vl, nodesVs (l ++ m) = nodesVs l + nodesVs m
  | [], m => by simp [nodesVs]
  | a :: s, m => by simp only [List.cons_append, nodesVs, nodesVs_app s m]; omega
theorem nodesEs_app : ∀ l m : List En, nodesEs (l ++ m) = nodesEs l + nodesEs m
  | [], m => by simp [nodesEs]
  | a :: s, m => by simp only [List.cons_append, nodesEs, nodesEs_app s m]; omega
theorem nodesVs_step {l : List Vl} {j : Nat} {x : Vl} (h : l[j]? = some x) : nodesVs (l.take (j + 1)) = nodesVs (l.take j) + nodes x ∧ nodesVs (l.take j) + nodes x ≤ nodesVs l := by
  have h1 : l.take (j + 1) = l.take j ++ [x] := by rw [List.take_add_one, h]; rfl
  have h2 := nodesVs_app (l.take (j + 1)) (l.drop (j + 1))
  rw [List.take_append_drop, h1, nodesVs_snoc] at h2
  exact ⟨by rw [h1, nodesVs_snoc], by omega⟩
theorem nodesEs_step {l : List En} {j : Nat} {x : En} (h : l[j]? = some x) : nodesEs (l.take (j + 1)) = nodesEs (l.take j) + nodesE x ∧ nodesEs (l.take j) + nodesE x ≤ nodesEs l := by
  have h1 : l.take (j + 1) = l.take j ++ [x] := by rw [List.take_add_one, h]; rfl
  have h2 := nodesEs_app (l.take (j + 1)) (l.drop (j + 1))
  rw [List.take_append_drop, h1, nodesEs_snoc] at h2
  exact ⟨by rw [h1, nodesEs_snoc], by omega⟩
theorem wrap_add {a b c : Int} (h : a + b = c) : wrap64 (wrap64 a + wrap64 b) = wrap64 c := by subst h; unfold wrap64; omega
end Go.Proofs.YtjfknigiehggkaaGreat
