/- Values of the document as trees, and how such a tree lies in the heap. -/
import Derived.WalkKit
import Derived.Below
import Derived.ChangeArms
import Derived.DataReads
import Derived.WideShapes
import Derived.Deep.Slices
import Derived.Lib.Builder
namespace Go.Proofs.YtplmbmecjhmiiaaDoor
open Go Go.RowKit Go.WideShapes Go.Deep
mutual
/-- a value: kind, integer, text, kids, keys, entries, labels -/
inductive Vl where
  | mk (kind int : Int) (text : List UInt8) (kids : List Vl) (keys : List (Int × List UInt8)) (ents : List En) (labels : List (List UInt8))
/-- an entry: arguments, whether it fails, result -/
inductive En where
  | mk (args : List Vl) (fails : Bool) (result : Vl)
end
/-- u is a slice of n elements of c cells each, all in blocks of B, and the cells of element j are as R says -/
def RowB (w : World) (B : Nat → Prop) (c : Nat) (u : Value) (n : Nat) (R : Nat → List Value → Prop) : Prop :=
  ∃ A cap, u = .slice A n cap ∧ (n ≤ maxLen ∧ n ≤ cap) ∧ (0 < n → ∃ b off, A = some ⟨b, off, none⟩ ∧ B b ∧ b < w.heap.size ∧ ∀ j, j < n → ∃ cs : List Value, cs.length = c ∧ (∀ i, i < c → w.cell? ⟨b, off + j * c + i, none⟩ = cs[i]?) ∧ R j cs)
/-- .. all below block H -/
abbrev RowP (w : World) (H c : Nat) (u : Value) (n : Nat) (R : Nat → List Value → Prop) : Prop := RowB w (fun b => b < H) c u n R
/-- the tree v lies in the world w in blocks of B, its root in the seven cells cs; k bounds its height -/
def VB : Nat → World → (Nat → Prop) → Vl → List Value → Prop
  | 0, _, _, _, _ => False
  | k + 1, w, B, .mk kind int text kids keys ents labels, cs =>
    ∃ uk uy ue ul, cs = [.int .i64 kind, .int .i64 int, .string ⟨text.toArray⟩, uk, uy, ue, ul] ∧
      (Lit.int .i64 kind).wf = true ∧ (Lit.int .i64 int).wf = true ∧ text.length ≤ maxLen ∧
      RowB w B 7 uk kids.length (fun j cs => ∃ x, kids[j]? = some x ∧ VB k w B x cs) ∧
      RowB w B 2 uy keys.length (fun j cs => ∃ x, keys[j]? = some x ∧ cs = [.int .i64 x.1, .string ⟨x.2.toArray⟩] ∧ (Lit.int .i64 x.1).wf = true ∧ x.2.length ≤ maxLen) ∧
      RowB w B 9 ue ents.length (fun j cs => ∃ args fails result, ents[j]? = some (.mk args fails result) ∧ ∃ ua rs, cs = ua :: .bool fails :: rs ∧ RowB w B 7 ua args.length (fun j cs => ∃ x, args[j]? = some x ∧ VB k w B x cs) ∧ VB k w B result rs) ∧
      RowB w B 1 ul labels.length (fun j cs => ∃ x, labels[j]? = some x ∧ cs = [.string ⟨x.toArray⟩] ∧ x.length ≤ maxLen)
abbrev VS (k : Nat) (w : World) (H : Nat) (v : Vl) (cs : List Value) : Prop := VB k w (fun b => b < H) v cs
theorem RowB.sub {w : World} {B B' : Nat → Prop} {c n : Nat} {u : Value} {R R' : Nat → List Value → Prop} (h : RowB w B c u n R) (hB : ∀ b, B b → B' b) (hR : ∀ j cs, R j cs → R' j cs) : RowB w B' c u n R' := by
  obtain ⟨A, cap, h1, h2, h3⟩ := h
  refine ⟨A, cap, h1, h2, fun hn => ?_⟩
  obtain ⟨b, off, h4, h5, h6, h7⟩ := h3 hn
  refine ⟨b, off, h4, hB b h5, h6, fun j hj => ?_⟩
  obtain ⟨cs, h8, h9, h10⟩ := h7 j hj
  exact ⟨cs, h8, h9, hR j cs h10⟩
/-- what lies in blocks of B is in w' as in w -/
structure Same (B : Nat → Prop) (w w' : World) : Prop where
  size : w.heap.size ≤ w'.heap.size
  cell : ∀ b i, B b → b < w.heap.size → w'.cell? ⟨b, i, none⟩ = w.cell? ⟨b, i, none⟩
theorem Same.of_below {w w' : World} {H : Nat} {B : Nat → Prop} (hb : Below H w w') (hB : ∀ b, B b → b < H) : Same B w w' :=
  ⟨hb.size, fun _ _ h _ => hb.cell (p := ⟨_, _, none⟩) (hB _ h)⟩
theorem Same.refl (B : Nat → Prop) (w : World) : Same B w w := ⟨Nat.le_refl _, fun _ _ _ _ => rfl⟩
theorem Same.trans {B : Nat → Prop} {w w' w'' : World} (h : Same B w w') (h' : Same B w' w'') : Same B w w'' :=
  ⟨Nat.le_trans h.size h'.size, fun b i hB hb => (h'.cell b i hB (Nat.lt_of_lt_of_le hb h.size)).trans (h.cell b i hB hb)⟩
theorem RowB.keep {w w' : World} {B : Nat → Prop} {c n : Nat} {u : Value} {R R' : Nat → List Value → Prop} (h : RowB w B c u n R) (hw : Same B w w') (hR : ∀ j cs, R j cs → R' j cs) : RowB w' B c u n R' := by
  obtain ⟨A, cap, h1, h2, h3⟩ := h
  refine ⟨A, cap, h1, h2, fun hn => ?_⟩
  obtain ⟨b, off, h4, h5, h6, h7⟩ := h3 hn
  refine ⟨b, off, h4, h5, Nat.lt_of_lt_of_le h6 hw.size, fun j hj => ?_⟩
  obtain ⟨cs, h8, h9, h10⟩ := h7 j hj
  exact ⟨cs, h8, fun i hi => (hw.cell b _ h5 h6).trans (h9 i hi), hR j cs h10⟩
theorem VB.keep {w w' : World} {B : Nat → Prop} (hw : Same B w w') : ∀ {k : Nat} {v : Vl} {cs : List Value}, VB k w B v cs → VB k w' B v cs
  | 0, _, _, h => h.elim
  | k + 1, .mk kind int text kids keys ents labels, cs, h => by
    obtain ⟨uk, uy, ue, ul, h1, h2, h3, h4, h5, h6, h7, h8⟩ := h
    refine ⟨uk, uy, ue, ul, h1, h2, h3, h4, h5.keep hw ?_, h6.keep hw fun _ _ h => h, h7.keep hw ?_, h8.keep hw fun _ _ h => h⟩
    · rintro j cs ⟨x, hx, hv⟩
      exact ⟨x, hx, VB.keep hw hv⟩
    · rintro j cs ⟨args, fails, result, hx, ua, rs, hc, ha, hr⟩
      refine ⟨args, fails, result, hx, ua, rs, hc, ha.keep hw ?_, VB.keep hw hr⟩
      rintro j cs ⟨x, hx, hv⟩
      exact ⟨x, hx, VB.keep hw hv⟩
theorem VB.sub {w : World} {B B' : Nat → Prop} (hB : ∀ b, B b → B' b) : ∀ {k k' : Nat} {v : Vl} {cs : List Value}, k ≤ k' → VB k w B v cs → VB k' w B' v cs
  | 0, _, _, _, _, h => h.elim
  | k + 1, 0, _, _, hk, _ => absurd hk (by omega)
  | k + 1, k' + 1, .mk kind int text kids keys ents labels, cs, hk, h => by
    have hk' : k ≤ k' := by omega
    obtain ⟨uk, uy, ue, ul, h1, h2, h3, h4, h5, h6, h7, h8⟩ := h
    refine ⟨uk, uy, ue, ul, h1, h2, h3, h4, h5.sub hB ?_, h6.sub hB fun _ _ h => h, h7.sub hB ?_, h8.sub hB fun _ _ h => h⟩
    · rintro j cs ⟨x, hx, hv⟩
      exact ⟨x, hx, VB.sub hB hk' hv⟩
    · rintro j cs ⟨args, fails, result, hx, ua, rs, hc, ha, hr⟩
      refine ⟨args, fails, result, hx, ua, rs, hc, ha.sub hB ?_, VB.sub hB hk' hr⟩
      rintro j cs ⟨x, hx, hv⟩
      exact ⟨x, hx, VB.sub hB hk' hv⟩
theorem RowB.mono {w : World} {H H' c n : Nat} {u : Value} {R R' : Nat → List Value → Prop} (h : RowP w H c u n R) (hH : H ≤ H') (hR : ∀ j cs, R j cs → R' j cs) : RowP w H' c u n R' :=
  RowB.sub h (fun _ hb => Nat.lt_of_lt_of_le hb hH) hR
/-- in a later world that is the same below H -/
theorem RowB.on {w w' : World} {H c n : Nat} {u : Value} {R R' : Nat → List Value → Prop} (h : RowP w H c u n R) (hb : Below H w w') (hR : ∀ j cs, R j cs → R' j cs) : RowP w' H c u n R' :=
  RowB.keep h (.of_below hb fun _ h => h) hR
theorem VS.on {w w' : World} {H : Nat} (hb : Below H w w') {k : Nat} {v : Vl} {cs : List Value} (h : VS k w H v cs) : VS k w' H v cs :=
  VB.keep (.of_below hb fun _ h => h) h
theorem VS.up {w : World} {H H' : Nat} (hH : H ≤ H') {k k' : Nat} {v : Vl} {cs : List Value} (hk : k ≤ k') (h : VS k w H v cs) : VS k' w H' v cs :=
  VB.sub (fun _ hb => Nat.lt_of_lt_of_le hb hH) hk h
/-- element j of a row of seven cells, in the walk's forms -/
theorem RowB.at7 {w : World} {H n j : Nat} {u : Value} {R : Nat → List Value → Prop} (h : RowP w H 7 u n R) (hj : j < n) :
    ∃ b off cap x0 x1 x2 x3 x4 x5 x6, u = .slice (some ⟨b, off, none⟩) n cap ∧ b < H ∧ R j [x0, x1, x2, x3, x4, x5, x6] ∧ w.cell? ⟨b, off + j * 7, none⟩ = some x0 ∧ w.cell? ⟨b, off + j * 7 + 1, none⟩ = some x1 ∧ w.cell? ⟨b, off + j * 7 + 2, none⟩ = some x2 ∧ w.cell? ⟨b, off + j * 7 + 3, none⟩ = some x3 ∧ w.cell? ⟨b, off + j * 7 + 4, none⟩ = some x4 ∧ w.cell? ⟨b, off + j * 7 + 5, none⟩ = some x5 ∧ w.cell? ⟨b, off + j * 7 + 6, none⟩ = some x6 := by
  obtain ⟨A, cap, h1, _, h3⟩ := h
  obtain ⟨b, off, rfl, h5, _, h7⟩ := h3 (by omega)
  obtain ⟨cs, h8, h9, h10⟩ := h7 j hj
  match cs, h8 with
  | [x0, x1, x2, x3, x4, x5, x6], _ =>
    exact ⟨b, off, cap, x0, x1, x2, x3, x4, x5, x6, h1, h5, h10, h9 0 (by omega), h9 1 (by omega), h9 2 (by omega), h9 3 (by omega), h9 4 (by omega), h9 5 (by omega), h9 6 (by omega)⟩
/-- element j of a row of nine cells -/
theorem RowB.at9 {w : World} {H n j : Nat} {u : Value} {R : Nat → List Value → Prop} (h : RowP w H 9 u n R) (hj : j < n) :
    ∃ b off cap y0 y1 x0 x1 x2 x3 x4 x5 x6, u = .slice (some ⟨b, off, none⟩) n cap ∧ b < H ∧ R j [y0, y1, x0, x1, x2, x3, x4, x5, x6] ∧ w.cell? ⟨b, off + j * 9, none⟩ = some y0 ∧ w.cell? ⟨b, off + j * 9 + 1, none⟩ = some y1 ∧ w.cell? ⟨b, off + j * 9 + 2, none⟩ = some x0 ∧ w.cell? ⟨b, off + j * 9 + 3, none⟩ = some x1 ∧ w.cell? ⟨b, off + j * 9 + 4, none⟩ = some x2 ∧ w.cell? ⟨b, off + j * 9 + 5, none⟩ = some x3 ∧ w.cell? ⟨b, off + j * 9 + 6, none⟩ = some x4 ∧ w.cell? ⟨b, off + j * 9 + 7, none⟩ = some x5 ∧ w.cell? ⟨b, off + j * 9 + 8, none⟩ = some x6 := by
  obtain ⟨A, cap, h1, _, h3⟩ := h
  obtain ⟨b, off, rfl, h5, _, h7⟩ := h3 (by omega)
  obtain ⟨cs, h8, h9, h10⟩ := h7 j hj
  match cs, h8 with
  | [y0, y1, x0, x1, x2, x3, x4, x5, x6], _ =>
    exact ⟨b, off, cap, y0, y1, x0, x1, x2, x3, x4, x5, x6, h1, h5, h10, h9 0 (by omega), h9 1 (by omega), h9 2 (by omega), h9 3 (by omega), h9 4 (by omega), h9 5 (by omega), h9 6 (by omega), h9 7 (by omega), h9 8 (by omega)⟩
theorem RowB.form {w : World} {B : Nat → Prop} {c n : Nat} {u : Value} {R : Nat → List Value → Prop} (h : RowB w B c u n R) : ∃ A cap, u = .slice A n cap ∧ n ≤ maxLen := by
  obtain ⟨A, cap, h1, h2, _⟩ := h
  exact ⟨A, cap, h1, h2.1⟩
theorem RowB.cap {w : World} {B : Nat → Prop} {c m n cap : Nat} {A : Option Addr} {R : Nat → List Value → Prop} (h : RowB w B c (.slice A m cap) n R) : n ≤ cap := by
  obtain ⟨A', cap', h1, h2, _⟩ := h
  injection h1 with _ _ e3
  subst e3
  exact h2.2
theorem RowB.take {w : World} {B : Nat → Prop} {c n cap p : Nat} {A : Option Addr} {R : Nat → List Value → Prop} (h : RowB w B c (.slice A n cap) n R) (hp : p ≤ n) (cap2 : Nat) (hc2 : cap2 = cap := by rfl) : RowB w B c (.slice A p cap2) p (fun j cs => j < p ∧ R j cs) := by
  subst hc2
  obtain ⟨A', cap', h1, h2, h3⟩ := h
  injection h1 with e1 _ e3
  subst e1 e3
  refine ⟨A, cap2, rfl, by omega, fun hn => ?_⟩
  obtain ⟨b, off, h4, h5, h6, h7⟩ := h3 (by omega)
  exact ⟨b, off, h4, h5, h6, fun j hj => by
    obtain ⟨cs, h8, h9, h10⟩ := h7 j (by omega)
    exact ⟨cs, h8, h9, hj, h10⟩⟩
/-- the forms of the seven cells -/
theorem VB.form7 {k : Nat} {w : World} {B : Nat → Prop} {v : Vl} {cs : List Value} (h : VB k w B v cs) :
    ∃ a i s A1 n1 c1 A2 n2 c2 A3 n3 c3 A4 n4 c4, cs = [.int .i64 a, .int .i64 i, .string s, .slice A1 n1 c1, .slice A2 n2 c2, .slice A3 n3 c3, .slice A4 n4 c4] := by
  cases k with
  | zero => exact h.elim
  | succ k =>
    obtain ⟨kind, int, text, kids, keys, ents, labels⟩ := v
    obtain ⟨uk, uy, ue, ul, rfl, _, _, _, h1, h2, h3, h4⟩ := h
    obtain ⟨A1, c1, rfl, _⟩ := h1.form
    obtain ⟨A2, c2, rfl, _⟩ := h2.form
    obtain ⟨A3, c3, rfl, _⟩ := h3.form
    obtain ⟨A4, c4, rfl, _⟩ := h4.form
    exact ⟨_, _, _, _, _, _, _, _, _, _, _, _, _, _, _, rfl⟩
/-- the cells of a box -/
theorem cells7 {w : World} {g : Nat} {e : TypeId} {z0 z1 z2 z3 z4 z5 z6 : Value} (h : w.heap[g]? = some (.cells #[z0, z1, z2, z3, z4, z5, z6] e (0, 0))) : w.cell? ⟨g, 0, none⟩ = some z0 ∧ w.cell? ⟨g, 1, none⟩ = some z1 ∧ w.cell? ⟨g, 2, none⟩ = some z2 ∧ w.cell? ⟨g, 3, none⟩ = some z3 ∧ w.cell? ⟨g, 4, none⟩ = some z4 ∧ w.cell? ⟨g, 5, none⟩ = some z5 ∧ w.cell? ⟨g, 6, none⟩ = some z6 :=
  ⟨(Lib.cell_of_heap h 0).trans rfl, (Lib.cell_of_heap h 1).trans rfl, (Lib.cell_of_heap h 2).trans rfl, (Lib.cell_of_heap h 3).trans rfl, (Lib.cell_of_heap h 4).trans rfl, (Lib.cell_of_heap h 5).trans rfl, (Lib.cell_of_heap h 6).trans rfl⟩
theorem frozen7 {w : World} {g : Nat} {e : TypeId} {z0 z1 z2 z3 z4 z5 z6 : Value} (h : w.heap[g]? = some (.cells #[z0, z1, z2, z3, z4, z5, z6] e (0, 0))) : w.frozen? ⟨g, 0, none⟩ = false ∧ w.frozen? ⟨g, 1, none⟩ = false ∧ w.frozen? ⟨g, 2, none⟩ = false ∧ w.frozen? ⟨g, 3, none⟩ = false ∧ w.frozen? ⟨g, 4, none⟩ = false ∧ w.frozen? ⟨g, 5, none⟩ = false ∧ w.frozen? ⟨g, 6, none⟩ = false :=
  ⟨Lib.frozen_of_heap h 0, Lib.frozen_of_heap h 1, Lib.frozen_of_heap h 2, Lib.frozen_of_heap h 3, Lib.frozen_of_heap h 4, Lib.frozen_of_heap h 5, Lib.frozen_of_heap h 6⟩
end Go.Proofs.YtplmbmecjhmiiaaDoor
