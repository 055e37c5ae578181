/- Boxes of a call's own that are filled at its end, and how what the readers give is shown. -/
import Derived.Test.YtcjgaohblaidjaaGreatDoorVb03
import Derived.Test.YtcjgaohblaidjaaGreatDoorVb16
namespace Go.Proofs.YtcjgaohblaidjaaGreatDoor
open Go Go.RowKit
theorem same_set {B : Nat → Prop} {w V : World} {g i : Nat} {v : Value} (h : Same B w V) (hg : ¬ B g) : Same B w (V.setCell ⟨g, i, none⟩ v) :=
 ⟨by simpa using h.size, fun b j hB hl => (World.cell?_of_block (heap_setCell_other _ _ _ _ (show b ≠ g from fun e => hg (e ▸ hB)))).trans (h.cell b j hB hl)⟩
theorem Left.set {p g i : Nat} {q r : Bs} {d : Int} {w w3 : World} {v : Value} (h : Left p q r d w w3) (hp : p < w.heap.size) (hg : w.heap.size ≤ g) : Left p q r d w (w3.setCell ⟨g, i, none⟩ v) :=
 ⟨h.1.grow ((Below.refl _ _).setCell (p := ⟨g, i, none⟩) hg v) hp, (heap_setCell_other _ _ _ _ (show p ≠ g by omega)).trans h.2.1, h.2.2⟩
theorem cellz2 {w : World} {g : Nat} {e : TypeId} {z0 z1 : Value} (h : w.heap[g]? = some (.cells #[z0, z1] e (0, 0))) : w.cell? ⟨g, 0, none⟩ = some z0 ∧ w.cell? ⟨g, 1, none⟩ = some z1 :=
 ⟨(Lib.cell_of_heap h 0).trans rfl, (Lib.cell_of_heap h 1).trans rfl⟩
theorem frozenz2 {w : World} {g : Nat} {e : TypeId} {z0 z1 : Value} (h : w.heap[g]? = some (.cells #[z0, z1] e (0, 0))) : w.frozen? ⟨g, 0, none⟩ = false ∧ w.frozen? ⟨g, 1, none⟩ = false :=
 ⟨Lib.frozen_of_heap h 0, Lib.frozen_of_heap h 1⟩
theorem boxR2 {p g : Nat} {q r : Bs} {d : Int} {w w3 : World} {e : TypeId} {z0 z1 : Value} (hk : w3.heap[g]? = some (.cells #[z0, z1] e (0, 0))) (hg : w.heap.size ≤ g) (hp : p < w.heap.size) (hL : Left p q r d w w3) (v0 v1 : Value) (V : World) (hV : V = ((w3.setCell ⟨g, 0, none⟩ v0).setCell ⟨g, 1, none⟩ v1)) :
  Left p q r d w V ∧ V.heap[g]? = some (.cells #[v0, v1] e (0, 0)) ∧ V.heap.size = w3.heap.size ∧ (∀ B : Nat → Prop, ¬ B g → Same B w3 V) ∧ (∀ b, b ≠ g → V.heap[b]? = w3.heap[b]?) := by
 subst hV
 refine ⟨((hL.set hp hg).set hp hg), (heap_setCell_same _ g 1 _ _ v1 (heap_setCell_same _ g 0 _ _ v0 hk)), by simp, fun B h => same_set (same_set (Same.refl _ _) h) h, fun b hb => ?_⟩
 rw [heap_setCell_other _ _ _ _ hb]; rw [heap_setCell_other _ _ _ _ hb]
theorem boxR7 {p g : Nat} {q r : Bs} {d : Int} {w w3 : World} {e : TypeId} {z0 z1 z2 z3 z4 z5 z6 : Value} (hk : w3.heap[g]? = some (.cells #[z0, z1, z2, z3, z4, z5, z6] e (0, 0))) (hg : w.heap.size ≤ g) (hp : p < w.heap.size) (hL : Left p q r d w w3) (v0 v1 v2 v3 v4 v5 v6 : Value) (V : World) (hV : V = (((((((w3.setCell ⟨g, 0, none⟩ v0).setCell ⟨g, 1, none⟩ v1).setCell ⟨g, 2, none⟩ v2).setCell ⟨g, 3, none⟩ v3).setCell ⟨g, 4, none⟩ v4).setCell ⟨g, 5, none⟩ v5).setCell ⟨g, 6, none⟩ v6)) :
  Left p q r d w V ∧ V.heap[g]? = some (.cells #[v0, v1, v2, v3, v4, v5, v6] e (0, 0)) ∧ V.heap.size = w3.heap.size ∧ (∀ B : Nat → Prop, ¬ B g → Same B w3 V) ∧ (∀ b, b ≠ g → V.heap[b]? = w3.heap[b]?) := by
 subst hV
 refine ⟨(((((((hL.set hp hg).set hp hg).set hp hg).set hp hg).set hp hg).set hp hg).set hp hg), obj7 hk v0 v1 v2 v3 v4 v5 v6, by simp, fun B h => same_set (same_set (same_set (same_set (same_set (same_set (same_set (Same.refl _ _) h) h) h) h) h) h) h, fun b hb => ?_⟩
 rw [heap_setCell_other _ _ _ _ hb]; rw [heap_setCell_other _ _ _ _ hb]; rw [heap_setCell_other _ _ _ _ hb]; rw [heap_setCell_other _ _ _ _ hb]; rw [heap_setCell_other _ _ _ _ hb]; rw [heap_setCell_other _ _ _ _ hb]; rw [heap_setCell_other _ _ _ _ hb]
theorem cellz9 {w : World} {g : Nat} {e : TypeId} {z0 z1 z2 z3 z4 z5 z6 z7 z8 : Value} (h : w.heap[g]? = some (.cells #[z0, z1, z2, z3, z4, z5, z6, z7, z8] e (0, 0))) : w.cell? ⟨g, 0, none⟩ = some z0 ∧ w.cell? ⟨g, 1, none⟩ = some z1 ∧ w.cell? ⟨g, 2, none⟩ = some z2 ∧ w.cell? ⟨g, 3, none⟩ = some z3 ∧ w.cell? ⟨g, 4, none⟩ = some z4 ∧ w.cell? ⟨g, 5, none⟩ = some z5 ∧ w.cell? ⟨g, 6, none⟩ = some z6 ∧ w.cell? ⟨g, 7, none⟩ = some z7 ∧ w.cell? ⟨g, 8, none⟩ = some z8 :=
 ⟨(Lib.cell_of_heap h 0).trans rfl, (Lib.cell_of_heap h 1).trans rfl, (Lib.cell_of_heap h 2).trans rfl, (Lib.cell_of_heap h 3).trans rfl, (Lib.cell_of_heap h 4).trans rfl, (Lib.cell_of_heap h 5).trans rfl, (Lib.cell_of_heap h 6).trans rfl, (Lib.cell_of_heap h 7).trans rfl, (Lib.cell_of_heap h 8).trans rfl⟩
theorem frozenz9 {w : World} {g : Nat} {e : TypeId} {z0 z1 z2 z3 z4 z5 z6 z7 z8 : Value} (h : w.heap[g]? = some (.cells #[z0, z1, z2, z3, z4, z5, z6, z7, z8] e (0, 0))) : w.frozen? ⟨g, 0, none⟩ = false ∧ w.frozen? ⟨g, 1, none⟩ = false ∧ w.frozen? ⟨g, 2, none⟩ = false ∧ w.frozen? ⟨g, 3, none⟩ = false ∧ w.frozen? ⟨g, 4, none⟩ = false ∧ w.frozen? ⟨g, 5, none⟩ = false ∧ w.frozen? ⟨g, 6, none⟩ = false ∧ w.frozen? ⟨g, 7, none⟩ = false ∧ w.frozen? ⟨g, 8, none⟩ = false :=
 ⟨Lib.frozen_of_heap h 0, Lib.frozen_of_heap h 1, Lib.frozen_of_heap h 2, Lib.frozen_of_heap h 3, Lib.frozen_of_heap h 4, Lib.frozen_of_heap h 5, Lib.frozen_of_heap h 6, Lib.frozen_of_heap h 7, Lib.frozen_of_heap h 8⟩
theorem boxR9 {p g : Nat} {q r : Bs} {d : Int} {w w3 : World} {e : TypeId} {z0 z1 z2 z3 z4 z5 z6 z7 z8 : Value} (hk : w3.heap[g]? = some (.cells #[z0, z1, z2, z3, z4, z5, z6, z7, z8] e (0, 0))) (hg : w.heap.size ≤ g) (hp : p < w.heap.size) (hL : Left p q r d w w3) (v0 v1 v2 v3 v4 v5 v6 v7 v8 : Value) (V : World) (hV : V = (((((((((w3.setCell ⟨g, 0, none⟩ v0).setCell ⟨g, 1, none⟩ v1).setCell ⟨g, 2, none⟩ v2).setCell ⟨g, 3, none⟩ v3).setCell ⟨g, 4, none⟩ v4).setCell ⟨g, 5, none⟩ v5).setCell ⟨g, 6, none⟩ v6).setCell ⟨g, 7, none⟩ v7).setCell ⟨g, 8, none⟩ v8)) :
  Left p q r d w V ∧ V.heap[g]? = some (.cells #[v0, v1, v2, v3, v4, v5, v6, v7, v8] e (0, 0)) ∧ V.heap.size = w3.heap.size ∧ (∀ B : Nat → Prop, ¬ B g → Same B w3 V) ∧ (∀ b, b ≠ g → V.heap[b]? = w3.heap[b]?) := by
 subst hV
 refine ⟨(((((((((hL.set hp hg).set hp hg).set hp hg).set hp hg).set hp hg).set hp hg).set hp hg).set hp hg).set hp hg), obj9 hk v0 v1 v2 v3 v4 v5 v6 v7 v8, by simp, fun B h => same_set (same_set (same_set (same_set (same_set (same_set (same_set (same_set (same_set (Same.refl _ _) h) h) h) h) h) h) h) h) h, fun b hb => ?_⟩
 rw [heap_setCell_other _ _ _ _ hb]; rw [heap_setCell_other _ _ _ _ hb]; rw [heap_setCell_other _ _ _ _ hb]; rw [heap_setCell_other _ _ _ _ hb]; rw [heap_setCell_other _ _ _ _ hb]; rw [heap_setCell_other _ _ _ _ hb]; rw [heap_setCell_other _ _ _ _ hb]; rw [heap_setCell_other _ _ _ _ hb]; rw [heap_setCell_other _ _ _ _ hb]
theorem valPost_no {k p : Nat} {d : Int} {o : Option (Vl × Bs)} {q r : Bs} {w w' : World} {a i : Int} {s : ByteArray} {A1 A2 A3 A4 : Option Addr} {n1 c1 n2 c2 n3 c3 n4 c4 : Nat} (ho : o = none) (hL : Left p q r d w w') : ValPost k p d o r w (.returned (.tuple #[.agg #[.int .i64 a, .int .i64 i, .string s, .slice A1 n1 c1, .slice A2 n2 c2, .slice A3 n3 c3, .slice A4 n4 c4], .bool false])) w' :=
 ⟨_, _, _, _, _, _, _, _, _, _, _, _, _, _, _, q, by rw [ho]; rfl, hL, fun v t h => by rw [ho] at h; cases h⟩
theorem valPost_yes {k p : Nat} {d : Int} {v : Vl} {o : Option (Vl × Bs)} {q r : Bs} {w w' : World} {a i : Int} {s : ByteArray} {A1 A2 A3 A4 : Option Addr} {n1 c1 n2 c2 n3 c3 n4 c4 : Nat} (ho : o = some (v, q)) (hL : Left p q r d w w') (hv : VB k w' (Btw w.heap.size w'.heap.size) v [.int .i64 a, .int .i64 i, .string s, .slice A1 n1 c1, .slice A2 n2 c2, .slice A3 n3 c3, .slice A4 n4 c4]) : ValPost k p d o r w (.returned (.tuple #[.agg #[.int .i64 a, .int .i64 i, .string s, .slice A1 n1 c1, .slice A2 n2 c2, .slice A3 n3 c3, .slice A4 n4 c4], .bool true])) w' :=
 ⟨_, _, _, _, _, _, _, _, _, _, _, _, _, _, _, q, by rw [ho]; rfl, hL, fun v' t h => by rw [ho] at h; injection h with h; injection h with h1 h2; subst h1 h2; exact ⟨rfl, hv⟩⟩
theorem fldPost_no {k p : Nat} {d : Int} {o : Option (((Int × Bs) × Vl) × Bs)} {q r : Bs} {w w' : World} {y : Int} {z : ByteArray} {a i : Int} {s : ByteArray} {A1 A2 A3 A4 : Option Addr} {n1 c1 n2 c2 n3 c3 n4 c4 : Nat} (ho : o = none) (hL : Left p q r d w w') : FldPost k p d o r w (.returned (.tuple #[.agg #[.int .i64 y, .string z, .int .i64 a, .int .i64 i, .string s, .slice A1 n1 c1, .slice A2 n2 c2, .slice A3 n3 c3, .slice A4 n4 c4], .bool false])) w' :=
 ⟨_, _, _, _, _, _, _, _, _, _, _, _, _, _, _, _, _, q, by rw [ho]; rfl, hL, fun v t h => by rw [ho] at h; cases h⟩
theorem fldPost_yes {k p : Nat} {d : Int} {v : (Int × Bs) × Vl} {o : Option (((Int × Bs) × Vl) × Bs)} {q r : Bs} {w w' : World} {y : Int} {z : ByteArray} {a i : Int} {s : ByteArray} {A1 A2 A3 A4 : Option Addr} {n1 c1 n2 c2 n3 c3 n4 c4 : Nat} (ho : o = some (v, q)) (hL : Left p q r d w w') (hv : FlB k v w' (Btw w.heap.size w'.heap.size) [.int .i64 y, .string z, .int .i64 a, .int .i64 i, .string s, .slice A1 n1 c1, .slice A2 n2 c2, .slice A3 n3 c3, .slice A4 n4 c4]) : FldPost k p d o r w (.returned (.tuple #[.agg #[.int .i64 y, .string z, .int .i64 a, .int .i64 i, .string s, .slice A1 n1 c1, .slice A2 n2 c2, .slice A3 n3 c3, .slice A4 n4 c4], .bool true])) w' :=
 ⟨_, _, _, _, _, _, _, _, _, _, _, _, _, _, _, _, _, q, by rw [ho]; rfl, hL, fun v' t h => by rw [ho] at h; injection h with h; injection h with h1 h2; subst h1 h2; exact ⟨rfl, hv⟩⟩
theorem entPost_no {k p : Nat} {d : Int} {o : Option (En × Bs)} {q r : Bs} {w w' : World} {A0 : Option Addr} {n0 c0 : Nat} {f : Bool} {a i : Int} {s : ByteArray} {A1 A2 A3 A4 : Option Addr} {n1 c1 n2 c2 n3 c3 n4 c4 : Nat} (ho : o = none) (hL : Left p q r d w w') : EntPost k p d o r w (.returned (.tuple #[.agg #[.slice A0 n0 c0, .bool f, .int .i64 a, .int .i64 i, .string s, .slice A1 n1 c1, .slice A2 n2 c2, .slice A3 n3 c3, .slice A4 n4 c4], .bool false])) w' :=
 ⟨_, _, _, _, _, _, _, _, _, _, _, _, _, _, _, _, _, _, _, q, by rw [ho]; rfl, hL, fun v t h => by rw [ho] at h; cases h⟩
theorem entPost_yes {k p : Nat} {d : Int} {v : En} {o : Option (En × Bs)} {q r : Bs} {w w' : World} {A0 : Option Addr} {n0 c0 : Nat} {f : Bool} {a i : Int} {s : ByteArray} {A1 A2 A3 A4 : Option Addr} {n1 c1 n2 c2 n3 c3 n4 c4 : Nat} (ho : o = some (v, q)) (hL : Left p q r d w w') (hv : EnB k v w' (Btw w.heap.size w'.heap.size) [.slice A0 n0 c0, .bool f, .int .i64 a, .int .i64 i, .string s, .slice A1 n1 c1, .slice A2 n2 c2, .slice A3 n3 c3, .slice A4 n4 c4]) : EntPost k p d o r w (.returned (.tuple #[.agg #[.slice A0 n0 c0, .bool f, .int .i64 a, .int .i64 i, .string s, .slice A1 n1 c1, .slice A2 n2 c2, .slice A3 n3 c3, .slice A4 n4 c4], .bool true])) w' :=
 ⟨_, _, _, _, _, _, _, _, _, _, _, _, _, _, _, _, _, _, _, q, by rw [ho]; rfl, hL, fun v' t h => by rw [ho] at h; injection h with h; injection h with h1 h2; subst h1 h2; exact ⟨rfl, hv⟩⟩
def NumPost (p : Nat) (d : Int) (o : Option (Int × Bs)) (r : Bs) (w : World) (e : Ending) (w' : World) : Prop :=
 ∃ n q, e = .returned (.tuple #[.int .i64 n, .bool o.isSome]) ∧ (Lit.int .i64 n).wf = true ∧ Left p q r d w w' ∧ ∀ m t, o = some (m, t) → q = t ∧ n = m
def KeyPost (p : Nat) (d : Int) (o : Option ((Int × Bs) × Bs)) (r : Bs) (w : World) (e : Ending) (w' : World) : Prop :=
 ∃ y z q, e = .returned (.tuple #[.agg #[.int .i64 y, .string z], .bool o.isSome]) ∧ Left p q r d w w' ∧ ∀ x t, o = some (x, t) → q = t ∧ y = x.1 ∧ z = ⟨x.2.toArray⟩ ∧ (y = 0 ∨ y = 1) ∧ x.2.length ≤ maxLen
theorem Left.alloc {p : Nat} {q r : Bs} {d : Int} {w w' : World} (h : Left p q r d w w') (o : Obj) : Left p q r d w (w'.alloc o) := h.below ((Below.refl _ _).alloc (Nat.le_refl _) o)
theorem Left.box {p g : Nat} {q r : Bs} {d : Int} {w w' : World} {o : Obj} (h : Left p q r d w w') (hk : w.heap[g]? = some o) (hg : g ≠ p) : w'.heap[g]? = some o :=
 (h.1.other g hg (Array.getElem?_eq_some_iff.1 hk).1).trans hk
theorem Left.size {p : Nat} {q r : Bs} {d : Int} {w w' : World} (h : Left p q r d w w') : w.heap.size ≤ w'.heap.size := h.1.size
end Go.Proofs.YtcjgaohblaidjaaGreatDoor
namespace Go.Proofs.YtcjgaohblaidjaaGreatDoor
open Go Go.RowKit
set_option maxRecDepth 100000 in
set_option maxHeartbeats 1600000 in
theorem encV_any (B k p : Nat) (hBp : B ≤ p) (d : Int) (item : Rd Vl) (hI : Hid (ValI B k p d item)) (en : Bs) (r : Bs) (w : World) (h : PrsW p r d w) (hr : r.length ≤ limP) (hE : EnvH B w) :
  Calls Tryz.prog 79 #[.pointer (some ⟨p, 0, none⟩), .func (.func 21) #[.pointer (some ⟨p, 0, none⟩)] #[], .string ⟨en.toArray⟩] w (ListPost (elV k) 27 7 p d (manyP item en r) r w) := by
 have hlp := h.lt
 unfold limP at hr
 cases hc : cutP en r with
 | some q =>
  have hac := accept_yes p r en q d w h hc
  have HQ := Lib.hid (manyP_some (item := item) hc)
  clear hc h hE
  go_enter Tryz.func79, Tryz.ntmps79
  go_wp2_with fail
  refine hac.mono ?_
  rintro e w1 ⟨rfl, hL1, hs1⟩
  clear hac
  have HL1 := Lib.hid hL1
  clear hL1 hs1
  go_wp2
  refine bodyPost_ret (v := .tuple #[.slice none 0 0, .bool true]) (by simp [results, Tryz.results79, go_sem]) rfl ?_
  refine ⟨none, 0, 0, q, [], by rw [HQ.out]; rfl, HL1.out, ⟨rfl, by omega, OwnE.nil _ _ _ _ _⟩, fun l t hx => ?_⟩
  rw [HQ.out] at hx
  simp only [Option.some.injEq, Prod.mk.injEq] at hx
  obtain ⟨rfl, rfl⟩ := hx
  exact ⟨rfl, rfl⟩
 | none =>
  have hac := accept_no p r en d w h hc
  have HC := Lib.hid hc
  have HE := Lib.hid hE
  clear hc h hE
  go_enter Tryz.func79, Tryz.ntmps79
  go_wp2_with fail
  refine hac.mono ?_
  rintro e w1 ⟨rfl, hL1, hs1⟩
  clear hac
  have hsq := seqV_any B k p hBp d item hI commaL (by decide) r w1 hL1.2.1 (by unfold limP; omega) (HE.out.eff hL1.1 hBp)
  have HL1 := Lib.hid hL1
  have HS1 := Lib.hid hs1
  clear hL1 hs1
  cases ho : seqL item commaL r with
  | none =>
   rw [ho] at hsq
   have HQ := Lib.hid (manyP_none HC.out ho)
   clear ho
   go_wp2_with fail
   refine hsq.mono ?_
   rintro e w2 ⟨A, n, cap, q, l0, rfl, hL2, ⟨hn, hn2, hown⟩, hres⟩
   clear hsq hres
   rw [HS1.out] at hown
   have HOW := Lib.hid (And.intro hn (And.intro hn2 hown))
   clear hn hn2 hown
   have HL2 := Lib.hid (HL1.out.trans hL2)
   clear hL2
   go_wp2
   refine bodyPost_ret (v := .tuple #[.slice A n cap, .bool false]) (by simp [results, Tryz.results79, go_sem]) rfl ?_
   exact ⟨A, n, cap, q, l0, by rw [HQ.out]; rfl, HL2.out, HOW.out, fun l t hx => by rw [HQ.out] at hx; cases hx⟩
  | some lt =>
   obtain ⟨l, t⟩ := lt
   rw [ho] at hsq
   have HO := Lib.hid ho
   clear ho
   go_wp2_with fail
   refine hsq.mono ?_
   rintro e w2 ⟨A, n, cap, q, l0, rfl, hL2, ⟨hn, hn2, hown⟩, hres⟩
   clear hsq
   obtain ⟨rfl, rfl⟩ := hres _ _ rfl
   clear hres
   have HN := Lib.hid (And.intro hn hn2)
   rw [HS1.out] at hown
   have HOW := Lib.hid hown
   have HL2 := Lib.hid (HL1.out.trans hL2)
   have hPq := hL2.2.1
   clear hn hn2 hown hL2
   cases hd : cutP en q with
   | none =>
    have hac := accept_no p q en d w2 hPq hd
    have HQ : Hid (manyP item en r = none) := Lib.hid ((manyP_seq HC.out HO.out).trans (by rw [hd]; rfl))
    clear hd hPq
    go_wp2_with fail
    refine hac.mono ?_
    rintro e w3 ⟨rfl, hL3, hs3⟩
    clear hac
    have HL3 := Lib.hid (HL2.out.trans hL3)
    have HOW3 := Lib.hid (HOW.out.eff hL3.1 hlp)
    clear hL3 hs3
    go_wp2
    refine bodyPost_ret (v := .tuple #[.slice A n cap, .bool false]) (by simp [results, Tryz.results79, go_sem]) rfl ?_
    exact ⟨A, n, cap, q, l0, by rw [HQ.out]; rfl, HL3.out, ⟨HN.out.1, HN.out.2, HOW3.out⟩, fun l t hx => by rw [HQ.out] at hx; cases hx⟩
   | some u =>
    have hac := accept_yes p q en u d w2 hPq hd
    have HQ : Hid (manyP item en r = some (l0, u)) := Lib.hid ((manyP_seq HC.out HO.out).trans (by rw [hd]; rfl))
    clear hd hPq
    go_wp2_with fail
    refine hac.mono ?_
    rintro e w3 ⟨rfl, hL3, hs3⟩
    clear hac
    have HL3 := Lib.hid (HL2.out.trans hL3)
    have HOW3 := Lib.hid (HOW.out.eff hL3.1 hlp)
    clear hL3 hs3
    go_wp2
    refine bodyPost_ret (v := .tuple #[.slice A n cap, .bool true]) (by simp [results, Tryz.results79, go_sem]) rfl ?_
    refine ⟨A, n, cap, u, l0, by rw [HQ.out]; rfl, HL3.out, ⟨HN.out.1, HN.out.2, HOW3.out⟩, fun l' t hx => ?_⟩
    rw [HQ.out] at hx
    simp only [Option.some.injEq, Prod.mk.injEq] at hx
    obtain ⟨rfl, rfl⟩ := hx
    exact ⟨rfl, rfl⟩
end Go.Proofs.YtcjgaohblaidjaaGreatDoor
namespace Go.Proofs.YtcjgaohblaidjaaGreatDoor
open Go Go.RowKit
theorem quoT_nil : quoT [] = 0 := by unfold quoT; rfl
theorem quoT_one (c : UInt8) : quoT [c] = 1 := by unfold quoT; rfl
theorem quoT_two (c d : UInt8) (r : Bs) : quoT (c :: d :: r) = if c = 92 then 2 + quoT r else if c = 34 then 1 else 1 + quoT (d :: r) := by rw [quoT]
theorem quoT_le : ∀ (n : Nat) (s : Bs), s.length ≤ n → quoT s ≤ s.length
 | 0, s, h => by rw [List.length_eq_zero_iff.1 (Nat.le_zero.1 h), quoT_nil]; exact Nat.zero_le _
 | n + 1, [], _ => by rw [quoT_nil]; exact Nat.zero_le _
 | n + 1, [c], _ => by rw [quoT_one]; exact Nat.le_refl _
 | n + 1, c :: d :: r, h => by
  simp only [List.length_cons] at h
  have h1 := quoT_le n r (by omega)
  have h2 := quoT_le n (d :: r) (by simp only [List.length_cons]; omega)
  simp only [List.length_cons] at h2
  rw [quoT_two]
  simp only [List.length_cons]
  split
  · omega
  · split <;> omega
def QAt (s : Bs) (i : Nat) : Prop := (i ≤ s.length ∧ quoN s = i + quoT (s.drop i)) ∨ (i = s.length + 1 ∧ quoN s = s.length)
theorem QAt.start {s : Bs} (h : 1 ≤ s.length) : QAt s 1 := .inl ⟨h, rfl⟩
theorem QAt.stop {s : Bs} {i : Nat} (h : QAt s i) (hi : ¬ i < s.length) : quoN s = s.length := by
 rcases h with ⟨h1, h2⟩ | ⟨_, h2⟩
 · rw [h2, List.drop_eq_nil_of_le (by omega), quoT_nil]; omega
 · exact h2
theorem QAt.slash {s : Bs} {i : Nat} (h : QAt s i) (hi : i < s.length) (hc : s[i]? = some 92) : QAt s (i + 2) := by
 rcases h with ⟨h1, h2⟩ | ⟨h1, _⟩
 ·
  have hd : s.drop i = 92 :: s.drop (i + 1) := by
   rw [List.drop_eq_getElem_cons hi]
   rw [List.getElem?_eq_getElem hi] at hc
   injection hc with hc
   rw [hc]
  by_cases hl : i + 1 < s.length
  ·
   refine .inl ⟨by omega, ?_⟩
   rw [h2, hd, List.drop_eq_getElem_cons hl, quoT_two, if_pos rfl, show i + 1 + 1 = i + 2 from rfl]; omega
  ·
   refine .inr ⟨by omega, ?_⟩
   rw [h2, hd, List.drop_eq_nil_of_le (by omega), quoT_one]; omega
 · omega
theorem QAt.quote {s : Bs} {i : Nat} (h : QAt s i) (hi : i < s.length) (hc : s[i]? = some 34) : quoN s = i + 1 := by
 rcases h with ⟨h1, h2⟩ | ⟨h1, _⟩
 ·
  have hd : s.drop i = 34 :: s.drop (i + 1) := by
   rw [List.drop_eq_getElem_cons hi]
   rw [List.getElem?_eq_getElem hi] at hc
   injection hc with hc
   rw [hc]
  rw [h2, hd]
  cases hq : s.drop (i + 1) with
  | nil => rw [quoT_one]
  | cons d r => rw [quoT_two, if_neg (by decide), if_pos rfl]
 · omega
theorem QAt.other {s : Bs} {i : Nat} {c : UInt8} (h : QAt s i) (hi : i < s.length) (hc : s[i]? = some c) (h1 : c ≠ 92) (h3 : c ≠ 34) : QAt s (i + 1) := by
 rcases h with ⟨_, h2⟩ | ⟨h1, _⟩
 ·
  have hd : s.drop i = c :: s.drop (i + 1) := by
   rw [List.drop_eq_getElem_cons hi]
   rw [List.getElem?_eq_getElem hi] at hc
   injection hc with hc
   rw [hc]
  refine .inl ⟨by omega, ?_⟩
  rw [h2, hd]
  cases hq : s.drop (i + 1) with
  | nil => rw [quoT_one, quoT_nil]
  | cons d r => rw [quoT_two, if_neg h1, if_neg h3]; omega
 · omega
set_option maxRecDepth 100000 in
set_option maxHeartbeats 1600000 in
theorem quotedSize_any (s : Bs) (w : World) (hs : s.length ≤ limP) (h1 : 1 ≤ s.length) :
  Calls Tryz.prog 162 #[.string ⟨s.toArray⟩] w fun e w' => e = .returned (.int .i64 (quoN s : Nat)) ∧ w = w' := by
 have hsz : (⟨s.toArray⟩ : ByteArray).size = s.length := rfl
 unfold limP at hs
 go_enter Tryz.func162, Tryz.ntmps162
 go_wp2_with fail
 go_loopw [3] (fun nv wr => ∃ i : Nat, nv = .int .i64 i ∧ 1 ≤ i ∧ i ≤ s.length + 1 ∧ QAt s i ∧ wr = w) (fun nv _ => s.length + 1 - (intOf nv).toNat)
 case atStart => exact ⟨1, rfl, by omega, by omega, QAt.start h1, rfl⟩
 case round =>
  obtain ⟨i, rfl, hi1, hi2, hq, rfl⟩ := hrel
  have HQ := Lib.hid hq
  clear hq
  by_cases hlt : i < s.length
  ·
   have hget : s[i]? = some s[i] := List.getElem?_eq_getElem hlt
   have kn : (i : Int) < (s.length : Int) := by omega
   have k0 : (0 : Int) ≤ (i : Int) := by omega
   have hgb : (⟨s.toArray⟩ : ByteArray)[i]'(by rw [hsz]; exact hlt) = s[i] := rfl
   have HG := Lib.hid hget
   generalize s[i] = c at hget HG hgb
   clear hget
   by_cases hc92 : c = 92
   ·
    subst hc92
    have HS := Lib.hid (HQ.out.slash hlt HG.out)
    go_wp2
    go_roundw
    case rel => exact ⟨i + 2, by go_num, by omega, by omega, HS.out, trivial⟩
    case measure => simp [intOf]; omega
   ·
    have k92 : ¬ ((c.toNat : Int) = 92) := fun e => hc92 (UInt8.toNat_inj.1 (by have h9 : c.toNat = 92 := (by omega); rw [h9]; rfl))
    by_cases hc34 : c = 34
    ·
     subst hc34
     have HS := Lib.hid (HQ.out.quote hlt HG.out)
     go_wp2
     go_ret
     exact ⟨by rw [HS.out]; go_num, rfl⟩
    ·
     have k34 : ¬ ((c.toNat : Int) = 34) := fun e => hc34 (UInt8.toNat_inj.1 (by have h9 : c.toNat = 34 := (by omega); rw [h9]; rfl))
     have HS := Lib.hid (HQ.out.other hlt HG.out hc92 hc34)
     go_wp2
     go_roundw
     case rel => exact ⟨i + 1, by go_num, by omega, by omega, HS.out, trivial⟩
     case measure => simp [intOf]; omega
  ·
   have kn : ¬ (i : Int) < (s.length : Int) := by omega
   have HS := Lib.hid (HQ.out.stop hlt)
   go_wp2
   go_ret
   exact ⟨by rw [HS.out]; rfl, rfl⟩
theorem pKey_keyV {l : Bs} {w w' : World} {e : Ending} (h : PKey l w e w') : Below w.heap.size w w' ∧ ((∃ x, keyV l = some x ∧ (x.1 = 0 ∨ x.1 = 1) ∧ x.2.length ≤ 64 ∧ e = .returned (.tuple #[.agg #[.int .i64 x.1, .string ⟨x.2.toArray⟩], .int .i64 0])) ∨ (keyV l = none ∧ e = .returned (.tuple #[.agg #[.int .i64 0, .string ⟨#[]⟩], .int .i64 5]))) := by
 obtain ⟨hb, h⟩ := h
 refine ⟨hb, ?_⟩
 rcases h with ⟨k, t, ⟨hk, hn⟩, rfl⟩ | ⟨hn, rfl⟩
 ·
  have h01 : k = 0 ∨ k = 1 := by
   rcases hn with ⟨rfl, _⟩ | ⟨rfl, _⟩
   · exact .inl rfl
   · exact .inr rfl
  have hl : keyL k t = l := by
   rcases hn with ⟨rfl, rfl⟩ | ⟨rfl, rfl⟩ <;> rfl
  have ht : t.length ≤ 64 := by
   unfold keyB at hk
   split at hk
   ·
    have h2 : nameB lowB atomT t = true := hk
    unfold nameB at h2
    simp only [Bool.and_eq_true, decide_eq_true_eq] at h2
    omega
   ·
    split at hk
    · simpa using hk
    · cases hk
  exact .inl ⟨(k, t), by rw [← hl]; exact keyV_full hk h01, h01, ht, rfl⟩
 ·
  refine .inr ⟨?_, rfl⟩
  cases hv : keyV l with
  | none => rfl
  | some x =>
   obtain ⟨h1, h2, h3⟩ := keyV_some hv
   refine absurd ⟨h1, ?_⟩ (hn x.1 x.2)
   rcases h2 with h2 | h2
   · exact .inl ⟨h2, by rw [← h3, h2]; rfl⟩
   · exact .inr ⟨h2, by rw [← h3, h2]; rfl⟩
set_option maxRecDepth 100000 in
set_option maxHeartbeats 1600000 in
theorem keyP_any (p : Nat) (r : Bs) (d : Int) (w : World) (h : PrsW p r d w) (hr : r.length ≤ limP) :
  Calls Tryz.prog 132 #[.pointer (some ⟨p, 0, none⟩)] w (KeyPost p d (keyP r) r w) := by
 have hlp := h.lt
 unfold limP at hr
 obtain ⟨W, hW⟩ : ∃ W, W = w.alloc (.cells #[.int .i64 0, .string ⟨#[]⟩] 80) := ⟨_, rfl⟩
 have kW : W.heap[w.heap.size]? = some (.cells #[.int .i64 0, .string ⟨#[]⟩] 80 (0, 0)) := by rw [hW]; exact heap_alloc_new w _
 have hLW : Left p r r d w W := by rw [hW]; exact (Left.refl h).alloc _
 have hPW := hLW.2.1
 obtain ⟨c0, _, _, _⟩ := hPW.cells
 rw [hW] at c0
 have hsz : (⟨r.toArray⟩ : ByteArray).size = r.length := rfl
 have hpre := Tryz.strings_HasPrefix ⟨r.toArray⟩ ⟨#[34]⟩ W
 rw [show (⟨r.toArray⟩ : ByteArray).data.toList = r from rfl, show (⟨#[34]⟩ : ByteArray).data.toList = [34] from rfl] at hpre
 have hne : w.heap.size ≠ p := by omega
 cases hp : Lib.hasPrefix r [34]
 ·
  -- a name
  have HQ := Lib.hid (show keyP r = (keyV (r.takeWhile nameC)).map fun x => (x, r.dropWhile nameC) from by unfold keyP; rw [hp]; rfl)
  have ht := takeName_any p r d W hPW (by unfold maxLen; omega)
  have hld := (List.dropWhile_sublist nameC (l := r)).length_le
  have hlt := (List.takeWhile_sublist nameC (l := r)).length_le
  have hL1 : Left p (r.dropWhile nameC) r d W (W.setCell ⟨p, 0, none⟩ (.string ⟨(r.dropWhile nameC).toArray⟩)) := ⟨Eff.set _ _ _ _, hPW.set _, hld⟩
  generalize keyP r = o at HQ ⊢
  generalize r.takeWhile nameC = t at ht HQ hlt
  generalize r.dropWhile nameC = u at ht HQ hL1
  generalize W.setCell ⟨p, 0, none⟩ (.string ⟨u.toArray⟩) = w1 at ht hL1
  rw [hp] at hpre
  have hpk := parseKey_any ⟨t.toArray⟩ w1 (by show t.length ≤ _; omega)
  rw [show (⟨t.toArray⟩ : ByteArray).data.toList = t from rfl] at hpk
  have k1 := hL1.box kW hne
  have HL1 := Lib.hid (hLW.trans hL1)
  clear h hLW hPW hL1 kW hld hlt hp
  go_enter Tryz.func132, Tryz.ntmps132
  go_wp2_with fail
  rw [← hW]
  rw [← hW] at c0
  clear hW
  refine hpre.mono ?_
  rintro e w0 ⟨rfl, rfl⟩
  clear hpre
  go_wp2_with fail
  refine ht.mono ?_
  rintro e w0 ⟨rfl, rfl⟩
  clear ht
  clear c0 hsz
  go_wp2_with fail
  refine hpk.mono ?_
  intro e w2 hpost
  clear hpk
  obtain ⟨hb2, hpost⟩ := pKey_keyV hpost
  have k2 := (hb2.block _ (Array.getElem?_eq_some_iff.1 k1).1).trans k1
  have hL2 := HL1.out.below hb2
  clear k1 hb2
  rcases hpost with ⟨⟨y, z⟩, hk, h01, hz, rfl⟩ | ⟨hk, rfl⟩
  ·
   have HO : Hid (o = some ((y, z), u)) := Lib.hid (HQ.out.trans (by rw [hk]; rfl))
   clear hk
   obtain ⟨w3, hw3⟩ : ∃ w3, w3 = w2.alloc (.cells #[.int .i64 y, .string ⟨z.toArray⟩] 80) := ⟨_, rfl⟩
   have k3 : w3.heap[w.heap.size]? = some (.cells #[.int .i64 0, .string ⟨#[]⟩] 80 (0, 0)) := by rw [hw3]; exact (Below.heap_alloc _ _ _ (Array.getElem?_eq_some_iff.1 k2).1).trans k2
   have hL3 : Left p u r d w w3 := by rw [hw3]; exact hL2.alloc _
   obtain ⟨e0, e1⟩ := cellz2 k3
   obtain ⟨z0, z1⟩ := frozenz2 k3
   rw [hw3] at e0 e1 z0 z1
   have HL3 := Lib.hid hL3
   have HK3 := Lib.hid k3
   have h01' := Lib.hid h01
   clear k2 hL2 k3 hL3 h01
   go_wp2
   rw [← hw3]
   clear e0 e1 z0 z1 hw3
   obtain ⟨V, hV⟩ : ∃ V, V = ((w3.setCell ⟨w.heap.size, 0, none⟩ (.int .i64 y)).setCell ⟨w.heap.size, 1, none⟩ (.string ⟨z.toArray⟩)) := ⟨_, rfl⟩
   rw [← hV]
   obtain ⟨hLV, hob, _, _, _⟩ := boxR2 HK3.out (Nat.le_refl _) hlp HL3.out _ _ V hV
   clear hV
   obtain ⟨ps0, ps1⟩ := cellz2 hob
   refine bodyPost_ret (v := .tuple #[.agg #[.int .i64 y, .string ⟨z.toArray⟩], .bool true]) (by simp [results, Tryz.results132, go_sem, ps0, ps1]) rfl ?_
   refine ⟨y, ⟨z.toArray⟩, u, by rw [HO.out]; rfl, hLV, fun x t' hx => ?_⟩
   rw [HO.out] at hx
   simp only [Option.some.injEq, Prod.mk.injEq] at hx
   obtain ⟨rfl, rfl⟩ := hx
   exact ⟨rfl, rfl, rfl, h01'.out, by have h64 : z.length ≤ 64 := hz; unfold maxLen; show z.length ≤ _; omega⟩
  ·
   have HO : Hid (o = none) := Lib.hid (HQ.out.trans (by rw [hk]; rfl))
   clear hk
   obtain ⟨w3, hw3⟩ : ∃ w3, w3 = w2.alloc (.cells #[.int .i64 0, .string ⟨#[]⟩] 80) := ⟨_, rfl⟩
   have k3 : w3.heap[w.heap.size]? = some (.cells #[.int .i64 0, .string ⟨#[]⟩] 80 (0, 0)) := by rw [hw3]; exact (Below.heap_alloc _ _ _ (Array.getElem?_eq_some_iff.1 k2).1).trans k2
   have hL3 : Left p u r d w w3 := by rw [hw3]; exact hL2.alloc _
   obtain ⟨e0, e1⟩ := cellz2 k3
   obtain ⟨z0, z1⟩ := frozenz2 k3
   rw [hw3] at e0 e1 z0 z1
   have HL3 := Lib.hid hL3
   have HK3 := Lib.hid k3
   clear k2 hL2 k3 hL3
   go_wp2
   rw [← hw3]
   clear e0 e1 z0 z1 hw3
   obtain ⟨V, hV⟩ : ∃ V, V = ((w3.setCell ⟨w.heap.size, 0, none⟩ (.int .i64 0)).setCell ⟨w.heap.size, 1, none⟩ (.string ⟨#[]⟩)) := ⟨_, rfl⟩
   rw [← hV]
   obtain ⟨hLV, hob, _, _, _⟩ := boxR2 HK3.out (Nat.le_refl _) hlp HL3.out _ _ V hV
   clear hV
   obtain ⟨ps0, ps1⟩ := cellz2 hob
   refine bodyPost_ret (v := .tuple #[.agg #[.int .i64 0, .string ⟨#[]⟩], .bool false]) (by simp [results, Tryz.results132, go_sem, ps0, ps1]) rfl ?_
   exact ⟨0, ⟨#[]⟩, u, by rw [HO.out]; rfl, hLV, fun x t' hx => by rw [HO.out] at hx; cases hx⟩
 ·
  -- a quoted text
  have hl1 : 1 ≤ r.length := by
   cases r with
   | nil => simp [Lib.hasPrefix] at hp
   | cons c q => simp
  have hqn : quoN r ≤ r.length := by
   have := quoT_le _ (r.drop 1) (Nat.le_refl _)
   rw [List.length_drop] at this
   unfold quoN
   omega
  have HQ := Lib.hid (show keyP r = (keyV (r.take (quoN r))).map fun x => (x, r.drop (quoN r)) from by unfold keyP; rw [hp]; rfl)
  have hqs := quotedSize_any r W (by unfold limP; omega) hl1
  have ht := cut_any p r (quoN r) d W hPW hqn (by unfold maxLen; omega)
  have hL1 : Left p (r.drop (quoN r)) r d W (W.setCell ⟨p, 0, none⟩ (.string ⟨(r.drop (quoN r)).toArray⟩)) := ⟨Eff.set _ _ _ _, hPW.set _, by rw [List.length_drop]; omega⟩
  have hlt : (r.take (quoN r)).length ≤ r.length := by rw [List.length_take]; omega
  generalize keyP r = o at HQ ⊢
  generalize r.take (quoN r) = t at ht HQ hlt
  generalize r.drop (quoN r) = u at ht HQ hL1
  generalize quoN r = qn at hqs ht
  generalize W.setCell ⟨p, 0, none⟩ (.string ⟨u.toArray⟩) = w1 at ht hL1
  rw [hp] at hpre
  have hpk := parseKey_any ⟨t.toArray⟩ w1 (by show t.length ≤ _; omega)
  rw [show (⟨t.toArray⟩ : ByteArray).data.toList = t from rfl] at hpk
  have k1 := hL1.box kW hne
  have HL1 := Lib.hid (hLW.trans hL1)
  clear h hLW hPW hL1 kW hlt hp hl1 hqn
  go_enter Tryz.func132, Tryz.ntmps132
  go_wp2_with fail
  rw [← hW]
  rw [← hW] at c0
  clear hW
  refine hpre.mono ?_
  rintro e w0 ⟨rfl, rfl⟩
  clear hpre
  go_wp2_with fail
  refine hqs.mono ?_
  rintro e w0 ⟨rfl, rfl⟩
  clear hqs
  go_wp2_with fail
  refine ht.mono ?_
  rintro e w0 ⟨rfl, rfl⟩
  clear ht
  clear c0 hsz
  go_wp2_with fail
  refine hpk.mono ?_
  intro e w2 hpost
  clear hpk
  obtain ⟨hb2, hpost⟩ := pKey_keyV hpost
  have k2 := (hb2.block _ (Array.getElem?_eq_some_iff.1 k1).1).trans k1
  have hL2 := HL1.out.below hb2
  clear k1 hb2
  rcases hpost with ⟨⟨y, z⟩, hk, h01, hz, rfl⟩ | ⟨hk, rfl⟩
  ·
   have HO : Hid (o = some ((y, z), u)) := Lib.hid (HQ.out.trans (by rw [hk]; rfl))
   clear hk
   obtain ⟨w3, hw3⟩ : ∃ w3, w3 = w2.alloc (.cells #[.int .i64 y, .string ⟨z.toArray⟩] 80) := ⟨_, rfl⟩
   have k3 : w3.heap[w.heap.size]? = some (.cells #[.int .i64 0, .string ⟨#[]⟩] 80 (0, 0)) := by rw [hw3]; exact (Below.heap_alloc _ _ _ (Array.getElem?_eq_some_iff.1 k2).1).trans k2
   have hL3 : Left p u r d w w3 := by rw [hw3]; exact hL2.alloc _
   obtain ⟨e0, e1⟩ := cellz2 k3
   obtain ⟨z0, z1⟩ := frozenz2 k3
   rw [hw3] at e0 e1 z0 z1
   have HL3 := Lib.hid hL3
   have HK3 := Lib.hid k3
   have h01' := Lib.hid h01
   clear k2 hL2 k3 hL3 h01
   go_wp2
   rw [← hw3]
   clear e0 e1 z0 z1 hw3
   obtain ⟨V, hV⟩ : ∃ V, V = ((w3.setCell ⟨w.heap.size, 0, none⟩ (.int .i64 y)).setCell ⟨w.heap.size, 1, none⟩ (.string ⟨z.toArray⟩)) := ⟨_, rfl⟩
   rw [← hV]
   obtain ⟨hLV, hob, _, _, _⟩ := boxR2 HK3.out (Nat.le_refl _) hlp HL3.out _ _ V hV
   clear hV
   obtain ⟨ps0, ps1⟩ := cellz2 hob
   refine bodyPost_ret (v := .tuple #[.agg #[.int .i64 y, .string ⟨z.toArray⟩], .bool true]) (by simp [results, Tryz.results132, go_sem, ps0, ps1]) rfl ?_
   refine ⟨y, ⟨z.toArray⟩, u, by rw [HO.out]; rfl, hLV, fun x t' hx => ?_⟩
   rw [HO.out] at hx
   simp only [Option.some.injEq, Prod.mk.injEq] at hx
   obtain ⟨rfl, rfl⟩ := hx
   exact ⟨rfl, rfl, rfl, h01'.out, by have h64 : z.length ≤ 64 := hz; unfold maxLen; show z.length ≤ _; omega⟩
  ·
   have HO : Hid (o = none) := Lib.hid (HQ.out.trans (by rw [hk]; rfl))
   clear hk
   obtain ⟨w3, hw3⟩ : ∃ w3, w3 = w2.alloc (.cells #[.int .i64 0, .string ⟨#[]⟩] 80) := ⟨_, rfl⟩
   have k3 : w3.heap[w.heap.size]? = some (.cells #[.int .i64 0, .string ⟨#[]⟩] 80 (0, 0)) := by rw [hw3]; exact (Below.heap_alloc _ _ _ (Array.getElem?_eq_some_iff.1 k2).1).trans k2
   have hL3 : Left p u r d w w3 := by rw [hw3]; exact hL2.alloc _
   obtain ⟨e0, e1⟩ := cellz2 k3
   obtain ⟨z0, z1⟩ := frozenz2 k3
   rw [hw3] at e0 e1 z0 z1
   have HL3 := Lib.hid hL3
   have HK3 := Lib.hid k3
   clear k2 hL2 k3 hL3
   go_wp2
   rw [← hw3]
   clear e0 e1 z0 z1 hw3
   obtain ⟨V, hV⟩ : ∃ V, V = ((w3.setCell ⟨w.heap.size, 0, none⟩ (.int .i64 0)).setCell ⟨w.heap.size, 1, none⟩ (.string ⟨#[]⟩)) := ⟨_, rfl⟩
   rw [← hV]
   obtain ⟨hLV, hob, _, _, _⟩ := boxR2 HK3.out (Nat.le_refl _) hlp HL3.out _ _ V hV
   clear hV
   obtain ⟨ps0, ps1⟩ := cellz2 hob
   refine bodyPost_ret (v := .tuple #[.agg #[.int .i64 0, .string ⟨#[]⟩], .bool false]) (by simp [results, Tryz.results132, go_sem, ps0, ps1]) rfl ?_
   exact ⟨0, ⟨#[]⟩, u, by rw [HO.out]; rfl, hLV, fun x t' hx => by rw [HO.out] at hx; cases hx⟩
end Go.Proofs.YtcjgaohblaidjaaGreatDoor
namespace Go.Proofs.YtcjgaohblaidjaaGreatDoor
open Go Go.RowKit
def atomV (x : Int × Bs) : Vl := .mk (if x.1 = 1 then 2 else 3) 0 x.2 [] [] [] []
theorem vb_leaf (k : Nat) (w : World) (B : Nat → Prop) (kd i : Int) (t : Bs) (h1 : (Lit.int .i64 kd).wf = true) (h2 : (Lit.int .i64 i).wf = true) (h3 : t.length ≤ maxLen) : VB (k + 1) w B (.mk kd i t [] [] [] []) [.int .i64 kd, .int .i64 i, .string ⟨t.toArray⟩, .slice none 0 0, .slice none 0 0, .slice none 0 0, .slice none 0 0] := by
 have hn : ∀ (c : Nat) (R : Nat → List Value → Prop), RowB w B c (.slice none 0 0) 0 R := fun c R => ⟨none, 0, rfl, ⟨Nat.zero_le _, Nat.le_refl _⟩, fun h => absurd h (Nat.lt_irrefl _)⟩
 exact ⟨_, _, _, _, rfl, h1, h2, h3, hn _ _, hn _ _, hn _ _, hn _ _⟩
set_option maxRecDepth 100000 in
set_option maxHeartbeats 1600000 in
theorem atomP_any5 (k p : Nat) (r : Bs) (d : Int) (w : World) (h : PrsW p r d w) (hr : r.length ≤ limP) :
  Calls Tryz.prog 85 #[.pointer (some ⟨p, 0, none⟩)] w (ValPost (k + 1) p d ((keyP r).map fun x => (atomV x.1, x.2)) r w) := by
 have hlp := h.lt
 unfold limP at hr
 obtain ⟨W, hW⟩ : ∃ W, W = w.alloc (.cells #[.int .i64 0, .int .i64 0, .string ⟨#[]⟩, .slice none 0 0, .slice none 0 0, .slice none 0 0, .slice none 0 0] 27) := ⟨_, rfl⟩
 have kW : W.heap[w.heap.size]? = some (.cells #[.int .i64 0, .int .i64 0, .string ⟨#[]⟩, .slice none 0 0, .slice none 0 0, .slice none 0 0, .slice none 0 0] 27 (0, 0)) := by rw [hW]; exact heap_alloc_new w _
 have hLW : Left p r r d w W := by rw [hW]; exact (Left.refl h).alloc _
 have hsW : W.heap.size = w.heap.size + 1 := by rw [hW]; simp
 have hne : w.heap.size ≠ p := by omega
 clear h
 have hk := keyP_any p r d W hLW.2.1 (by unfold limP; omega)
 have HLW := Lib.hid hLW
 clear hLW
 generalize keyP r = o at hk ⊢
 have HKW := Lib.hid kW
 clear kW
 go_enter Tryz.func85, Tryz.ntmps85
 go_wp2_with fail
 rw [← hW]
 clear hW
 refine hk.mono ?_
 rintro e w2 ⟨y, z, q, rfl, hL2', hres⟩
 clear hk
 have k2 := hL2'.box HKW.out hne
 have hL2 := HLW.out.trans hL2'
 have k3 := (Below.heap_alloc w2 (.cells #[.int .i64 y, .string z] 80) _ (Array.getElem?_eq_some_iff.1 k2).1).trans k2
 have hL3 := hL2.alloc (.cells #[.int .i64 y, .string z] 80)
 have HR := Lib.hid hres
 have HS2 := Lib.hid hL2.size
 clear k2 hL2 hL2' hres
 generalize hob0 : o.isSome = ob
 have HO := Lib.hid hob0
 clear hob0
 by_cases hy : y = 1
 ·
  subst hy
  obtain ⟨e0, e1, e2, e3, e4, e5, e6⟩ := cells7 k3
  obtain ⟨z0, z1, z2, z3, z4, z5, z6⟩ := frozen7 k3
  have HK3 := Lib.hid k3
  have HL3 := Lib.hid hL3
  clear k3 hL3
  go_wp2
  obtain ⟨V, hV⟩ : ∃ V, V = ((((((((w2.alloc (.cells #[.int .i64 1, .string z] 80)).setCell ⟨w.heap.size, 0, none⟩ (.int .i64 2)).setCell ⟨w.heap.size, 1, none⟩ (.int .i64 0)).setCell ⟨w.heap.size, 2, none⟩ (.string z)).setCell ⟨w.heap.size, 3, none⟩ (.slice none 0 0)).setCell ⟨w.heap.size, 4, none⟩ (.slice none 0 0)).setCell ⟨w.heap.size, 5, none⟩ (.slice none 0 0)).setCell ⟨w.heap.size, 6, none⟩ (.slice none 0 0)) := ⟨_, rfl⟩
  rw [← hV]
  obtain ⟨hLV, hob, hszV, hsm, hoth⟩ := boxR7 HK3.out (Nat.le_refl _) hlp HL3.out (.int .i64 2) (.int .i64 0) (.string z) (.slice none 0 0) (.slice none 0 0) (.slice none 0 0) (.slice none 0 0) V hV
  clear hV e0 e1 e2 e3 e4 e5 e6 z0 z1 z2 z3 z4 z5 z6
  obtain ⟨ps0, ps1, ps2, ps3, ps4, ps5, ps6⟩ := cells7 hob
  refine bodyPost_ret (v := .tuple #[.agg #[.int .i64 2, .int .i64 0, .string z, .slice none 0 0, .slice none 0 0, .slice none 0 0, .slice none 0 0], .bool ob]) (by simp [results, Tryz.results85, go_sem, ps0, ps1, ps2, ps3, ps4, ps5, ps6]) rfl ?_
  cases o with
  | none => have hob1 : false = ob := HO.out; subst hob1; exact valPost_no rfl hLV
  | some xt =>
   obtain ⟨x, t⟩ := xt
   obtain ⟨rfl, e1, rfl, h01, hxl⟩ := HR.out _ _ rfl
   have hob1 : true = ob := HO.out
   subst hob1
   refine valPost_yes (v := atomV x) rfl hLV ?_
   have e2 : atomV x = .mk 2 0 x.2 [] [] [] [] := by
    unfold atomV
    rw [if_pos e1.symm]
   rw [e2]
   exact vb_leaf k V _ 2 0 x.2 (by decide) (by decide) hxl
 ·
  have HY := Lib.hid hy
  obtain ⟨e0, e1, e2, e3, e4, e5, e6⟩ := cells7 k3
  obtain ⟨z0, z1, z2, z3, z4, z5, z6⟩ := frozen7 k3
  have HK3 := Lib.hid k3
  have HL3 := Lib.hid hL3
  clear k3 hL3
  go_wp2
  obtain ⟨V, hV⟩ : ∃ V, V = ((((((((w2.alloc (.cells #[.int .i64 y, .string z] 80)).setCell ⟨w.heap.size, 0, none⟩ (.int .i64 3)).setCell ⟨w.heap.size, 1, none⟩ (.int .i64 0)).setCell ⟨w.heap.size, 2, none⟩ (.string z)).setCell ⟨w.heap.size, 3, none⟩ (.slice none 0 0)).setCell ⟨w.heap.size, 4, none⟩ (.slice none 0 0)).setCell ⟨w.heap.size, 5, none⟩ (.slice none 0 0)).setCell ⟨w.heap.size, 6, none⟩ (.slice none 0 0)) := ⟨_, rfl⟩
  rw [← hV]
  obtain ⟨hLV, hob, hszV, hsm, hoth⟩ := boxR7 HK3.out (Nat.le_refl _) hlp HL3.out (.int .i64 3) (.int .i64 0) (.string z) (.slice none 0 0) (.slice none 0 0) (.slice none 0 0) (.slice none 0 0) V hV
  clear hV e0 e1 e2 e3 e4 e5 e6 z0 z1 z2 z3 z4 z5 z6
  obtain ⟨ps0, ps1, ps2, ps3, ps4, ps5, ps6⟩ := cells7 hob
  refine bodyPost_ret (v := .tuple #[.agg #[.int .i64 3, .int .i64 0, .string z, .slice none 0 0, .slice none 0 0, .slice none 0 0, .slice none 0 0], .bool ob]) (by simp [results, Tryz.results85, go_sem, ps0, ps1, ps2, ps3, ps4, ps5, ps6]) rfl ?_
  cases o with
  | none => have hob1 : false = ob := HO.out; subst hob1; exact valPost_no rfl hLV
  | some xt =>
   obtain ⟨x, t⟩ := xt
   obtain ⟨rfl, e1, rfl, h01, hxl⟩ := HR.out _ _ rfl
   have hob1 : true = ob := HO.out
   subst hob1
   refine valPost_yes (v := atomV x) rfl hLV ?_
   have e2 : atomV x = .mk 3 0 x.2 [] [] [] [] := by
    unfold atomV
    rw [if_neg (fun h => HY.out (e1.trans h))]
   rw [e2]
   exact vb_leaf k V _ 3 0 x.2 (by decide) (by decide) hxl
end Go.Proofs.YtcjgaohblaidjaaGreatDoor
namespace Go.Proofs.YtcjgaohblaidjaaGreatDoor
open Go Go.RowKit
theorem Tryz.infoF5 : (Tryz.prog.info? 143).map (fun i => (i.zero, i.size, i.bytes)) = some (some (.agg #[.int .i64 0, .string ⟨#[]⟩, .int .i64 0, .int .i64 0, .string ⟨#[]⟩, .slice none 0 0, .slice none 0 0, .slice none 0 0, .slice none 0 0]), 9, 152) := by kernel_rfl
theorem wp_app_F5 {ops : Array Oper} {rest : List Oper} {o : Oper} {a : Act} {Q : Exit → Act → World → Prop} {w0 : World} (hgd : o.guard = none) (s x : Operand)
  (ho : o.op = .call { callee := .builtin .append, args := #[s, x], argTypes := #[139, 139] }) (k : Nat) (base : Nat) (v : Value) (l : List ((Int × Bs) × Vl)) (hs : a.eval s = v) (hown : OwnE (elF k) 143 9 w0 base v l)
  (y : ((Int × Bs) × Vl)) (cs : List Value) (cap1 : Nat) (H : Nat) (hH : w0.heap.size = H) (hx : a.eval x = .slice (some ⟨H, 0, none⟩) 1 cap1) (cells : Array Value) (hcells : cells = cs.toArray)
  (hy : (elF k).E y w0 (fun b => base ≤ b ∧ b < w0.heap.size ∧ some b ≠ v.ownBlock) cs) (hcs : cs.length = 9) (h1c : ∀ u ∈ cs, u.oneCell' = true) (hn : l.length ≤ 300000000) (hbase : base ≤ w0.heap.size)
  (h : ∀ g cap w', OwnE (elF k) 143 9 w' base (.slice (some ⟨g, 0, none⟩) (l.length + 1) cap) (l ++ [y]) → Below base w0 w' → wpList Tryz.prog ops Q rest (a.put o.dst (.slice (some ⟨g, 0, none⟩) (l.length + 1) cap)) w') :
  wpList Tryz.prog ops Q (o :: rest) a (w0.alloc (.cells cells 143)) := by
 subst hcells
 obtain ⟨i0, hi, hz0, hz1, hz2⟩ := info_parts Tryz.infoF5
 obtain ⟨g, cap, w', h1, h2, h3, _, _⟩ := app_one (elF k) 139 o.type 143 i0 (.agg #[.int .i64 0, .string ⟨#[]⟩, .int .i64 0, .int .i64 0, .string ⟨#[]⟩, .slice none 0 0, .slice none 0 0, .slice none 0 0, .slice none 0 0]) 9 152 Tryz.underlying139 hi hz0 hz1 hz2 rfl (by decide) (by decide) w0 base v l hown y cs hy hcs h1c hn hbase H hH cap1
 exact Lib.wpList_append_run _ hgd s x 139 139 ho v _ hs hx _ w' h1 (h g cap w' h2 h3)
set_option maxRecDepth 100000 in
set_option maxHeartbeats 3200000 in
theorem seqF_any (B k p : Nat) (hBp : B ≤ p) (d : Int) (item : Rd ((Int × Bs) × Vl)) (hI : Hid (FldI B k p d item)) (sep : Bs) (hsep : sep ≠ []) (r : Bs) (w : World) (h : PrsW p r d w) (hr : r.length ≤ limP) (hE : EnvH B w) :
  Calls Tryz.prog 157 #[.pointer (some ⟨p, 0, none⟩), .func (.func 128) #[.pointer (some ⟨p, 0, none⟩)] #[], .string ⟨sep.toArray⟩] w (ListPost (elF k) 143 9 p d (seqL item sep r) r w) := by
 have hp0 := h.lt
 have H0 := Lib.hid (Left.refl h)
 have HE := Lib.hid hE
 unfold limP at hr
 clear h hE
 go_enter Tryz.func157, Tryz.ntmps157
 go_wp2_with fail
 go_loopg [8] (r.length + 2) (fun gk lv wr => ∃ A cap ls rc, lv = .slice A (List.length (α := ((Int × Bs) × Vl)) ls) cap ∧ Left p rc r d w wr ∧ OwnE (elF k) 143 9 wr w.heap.size (.slice A ls.length cap) ls ∧ rc.length + ls.length ≤ r.length + 1 ∧ ((ls = [] ∧ r = rc ∧ rc.length + 1 < gk) ∨ (ls ≠ [] ∧ rc.length < gk ∧ seqL item sep r = contL item sep ls rc)))
 case atStart => exact ⟨none, 0, [], r, rfl, H0.out, OwnE.nil _ _ _ _ _, by simp, .inl ⟨rfl, rfl, by omega⟩⟩
 case round =>
  obtain ⟨A, cap, ls, rc, rfl, hL, hO, hlen, hcase0⟩ := hrel
  have hrc := hL.2.2
  rcases id hcase0 with ⟨rfl, rfl, hg⟩ | ⟨hne, hg, heq⟩
  ·
   have hvc := hI.out r wr hL.2.1 (by unfold limP; omega) (HE.out.eff hL.1 hBp)
   have hzW := hL.1.size
   cases ho : item r with
   | none =>
    rw [ho] at hvc
    have HQ := Lib.hid (show seqL item sep r = none from seqL_none ho)
    have HL := Lib.hid hL
    clear hO hL hcase0
    go_wp2_with fail
    refine hvc.mono ?_
    rintro e w3 ⟨y, z, a, i, s, A1, n1, c1, A2, n2, c2, A3, n3, c3, A4, n4, c4, q, rfl, hL3, hres⟩
    clear hvc hres
    have HX := Lib.hid ((HL.out.trans hL3).below ((Below.refl _ _).alloc (Nat.le_refl _) (.cells #[.int .i64 y, .string z, .int .i64 a, .int .i64 i, .string s, .slice A1 n1 c1, .slice A2 n2 c2, .slice A3 n3 c3, .slice A4 n4 c4] 143)))
    clear hL3
    go_wp2
    refine bodyPost_ret (v := .tuple #[.slice none 0 0, .bool false]) (by simp [results, Tryz.results157, go_sem]) rfl ?_
    exact ⟨none, 0, 0, q, [], by rw [HQ.out]; rfl, HX.out, ⟨rfl, by omega, OwnE.nil _ _ _ _ _⟩, fun l t h => by rw [HQ.out] at h; cases h⟩
   | some vt =>
    obtain ⟨v, t⟩ := vt
    rw [ho] at hvc
    have HL := Lib.hid hL
    have HO := Lib.hid hO
    have HLL := Lib.hid hlen
    clear hO hL hcase0 hlen
    go_wp2_with fail
    refine hvc.mono ?_
    rintro e w3 ⟨y, z, a, i, s, A1, n1, c1, A2, n2, c2, A3, n3, c3, A4, n4, c4, q, rfl, hL3, hres⟩
    obtain ⟨rfl, hvb⟩ := hres _ _ rfl
    clear hvc hres
    have hl3 := hL3.2.2
    have HQ := Lib.hid (show seqL item sep r = contL item sep ([] ++ [v]) q from seqL_step ho hl3 hsep)
    have hO3 := HO.out.eff hL3.1 hp0
    have hblk := HO.out.blk5
    have hz3 := hL3.1.size
    have hLa := HL.out.trans hL3
    have hbx : Below w3.heap.size w3 (w3.alloc (.cells #[.int .i64 y, .string z, .int .i64 a, .int .i64 i, .string s, .slice A1 n1 c1, .slice A2 n2 c2, .slice A3 n3 c3, .slice A4 n4 c4] 143)) := (Below.refl _ _).alloc (Nat.le_refl _) _
    have hO4 := hO3.old hbx
    have hLb := hLa.below hbx
    have hvb4 : (elF k).E v (w3.alloc (.cells #[.int .i64 y, .string z, .int .i64 a, .int .i64 i, .string s, .slice A1 n1 c1, .slice A2 n2 c2, .slice A3 n3 c3, .slice A4 n4 c4] 143)) (fun b => w.heap.size ≤ b ∧ b < (w3.alloc (.cells #[.int .i64 y, .string z, .int .i64 a, .int .i64 i, .string s, .slice A1 n1 c1, .slice A2 n2 c2, .slice A3 n3 c3, .slice A4 n4 c4] 143)).heap.size ∧ some b ≠ (Value.slice A ([] : List ((Int × Bs) × Vl)).length cap).ownBlock) [.int .i64 y, .string z, .int .i64 a, .int .i64 i, .string s, .slice A1 n1 c1, .slice A2 n2 c2, .slice A3 n3 c3, .slice A4 n4 c4] := ((elF k).sub (fun b hb => ⟨by have := hb.1; omega, by have := hb.2; simp; omega, fun e => by have := hblk b e.symm; have := hb.1; omega⟩) ((elF k).keep (Same.of_below hbx fun b hb => hb.2) hvb))
    have hll := HLL.out
    have hz4 : w.heap.size ≤ (w3.alloc (.cells #[.int .i64 y, .string z, .int .i64 a, .int .i64 i, .string s, .slice A1 n1 c1, .slice A2 n2 c2, .slice A3 n3 c3, .slice A4 n4 c4] 143)).heap.size := by simp; omega
    have HLB := Lib.hid hLb
    have HG := Lib.hid (And.intro hg hl3)
    clear hLb hLa hL3 hO3 hbx hvb hg ho
    obtain ⟨V, hV⟩ : ∃ V, V = w3.alloc (.cells #[.int .i64 y, .string z, .int .i64 a, .int .i64 i, .string s, .slice A1 n1 c1, .slice A2 n2 c2, .slice A3 n3 c3, .slice A4 n4 c4] 143) := ⟨_, rfl⟩
    go_wp2_with (at_builtin; refine wp_app_F5 rfl _ _ rfl k w.heap.size (.slice A ([] : List ((Int × Bs) × Vl)).length cap) [] rfl hO4 v _ 1 (w3.heap.size + 1) (by simp) rfl _ rfl hvb4 rfl (elF_one k v _ _ _ hvb4) (by omega) hz4 ?_; intro g2 cap2 w4 ho4 hb4; refine Hid.out ?_)
    refine Lib.hid ?_
    have HO4 := Lib.hid ho4
    have HL4 := Lib.hid (show Left p q r d w w4 from ⟨HLB.out.1.grow hb4 hp0, HLB.out.2.1.below hb4 hp0, HLB.out.2.2⟩)
    clear ho4 hb4 hvb4 hO4
    go_wp2_with fail
    go_roundg (q.length + 1)
    case measure => have := HG.out.1; have := HG.out.2; omega
    case rel =>
     have := HG.out.2
     have hll := HLL.out
     exact ⟨some ⟨g2, 0, none⟩, cap2, [] ++ [v], q, by rw [List.length_append]; rfl, HL4.out, by rw [List.length_append]; exact HO4.out, by rw [List.length_append]; simp only [List.length_singleton, List.length_nil]; simp at hll; omega, .inr ⟨by simp, by omega, HQ.out⟩⟩
  ·
   have hpos := List.length_pos_iff.2 hne
   cases hcut : cutP sep rc with
   | none =>
    have hac := accept_no p rc sep d wr hL.2.1 hcut
    have HQ := Lib.hid (heq.trans (contL_end ls hcut))
    have HL := Lib.hid hL
    have HO := Lib.hid hO
    clear hL hO hcase0 heq
    generalize hln : ls.length = m at *
    have HLN := Lib.hid hln
    have HGS := Lib.hid hg
    clear hln hg
    have k1 : ¬ (m : Int) = 0 := by omega
    go_wp2_with fail
    refine hac.mono ?_
    rintro e w1 ⟨rfl, hL1, hs1⟩
    clear hac
    have HL1 := Lib.hid hL1
    have HS1 := Lib.hid hs1
    clear hL1 hs1
    go_wp2
    refine bodyPost_ret (v := .tuple #[.slice A m cap, .bool true]) (by simp [results, Tryz.results157, go_sem]) rfl ?_
    refine ⟨A, m, cap, rc, ls, by rw [HQ.out]; rfl, HL.out.trans HL1.out, ⟨HLN.out.symm, by omega, HO.out.eff HL1.out.1 hp0⟩, fun l t h => ?_⟩
    rw [HQ.out] at h
    simp only [Option.some.injEq, Prod.mk.injEq] at h
    obtain ⟨rfl, rfl⟩ := h
    exact ⟨rfl, rfl⟩
   | some r' =>
    have hac := accept_yes p rc sep r' d wr hL.2.1 hcut
    have hcl := cutP_len hcut
    have k1 : ¬ (ls.length : Int) = 0 := by omega
    have HL0 := Lib.hid hL
    have HO0 := Lib.hid hO
    have HQ0 := Lib.hid (And.intro heq (And.intro hcut hlen))
    have HG0 := Lib.hid hg
    clear hL hO hcase0 heq hcut hlen hg
    go_wp2_with fail
    refine hac.mono ?_
    rintro e w1 ⟨rfl, hL1, hs1⟩
    clear hac hs1
    have hL := HL0.out.trans hL1
    have hO := HO0.out.eff hL1.1 hp0
    obtain ⟨heq, hcut, hlen⟩ := HQ0.out
    have hg := HG0.out
    have hvc := hI.out r' w1 hL.2.1 (by unfold limP; omega) (HE.out.eff hL.1 hBp)
    clear hL1
    have hcase0 := True.intro
    have hzW := hL.1.size
    cases ho : item r' with
    | none =>
     rw [ho] at hvc
     have HQ := Lib.hid (show seqL item sep r = none from (heq.trans (contL_fail ls hcut ho)))
     have HL := Lib.hid hL
     clear hO hL hcase0
     go_wp2_with fail
     refine hvc.mono ?_
     rintro e w3 ⟨y, z, a, i, s, A1, n1, c1, A2, n2, c2, A3, n3, c3, A4, n4, c4, q, rfl, hL3, hres⟩
     clear hvc hres
     have HX := Lib.hid ((HL.out.trans hL3).below ((Below.refl _ _).alloc (Nat.le_refl _) (.cells #[.int .i64 y, .string z, .int .i64 a, .int .i64 i, .string s, .slice A1 n1 c1, .slice A2 n2 c2, .slice A3 n3 c3, .slice A4 n4 c4] 143)))
     clear hL3
     go_wp2
     refine bodyPost_ret (v := .tuple #[.slice none 0 0, .bool false]) (by simp [results, Tryz.results157, go_sem]) rfl ?_
     exact ⟨none, 0, 0, q, [], by rw [HQ.out]; rfl, HX.out, ⟨rfl, by omega, OwnE.nil _ _ _ _ _⟩, fun l t h => by rw [HQ.out] at h; cases h⟩
    | some vt =>
     obtain ⟨v, t⟩ := vt
     rw [ho] at hvc
     have HL := Lib.hid hL
     have HO := Lib.hid hO
     have HLL := Lib.hid hlen
     clear hO hL hcase0 hlen
     go_wp2_with fail
     refine hvc.mono ?_
     rintro e w3 ⟨y, z, a, i, s, A1, n1, c1, A2, n2, c2, A3, n3, c3, A4, n4, c4, q, rfl, hL3, hres⟩
     obtain ⟨rfl, hvb⟩ := hres _ _ rfl
     clear hvc hres
     have hl3 := hL3.2.2
     have HQ := Lib.hid (show seqL item sep r = contL item sep (ls ++ [v]) q from (heq.trans (contL_more ls hcut ho hl3 hsep)))
     have hO3 := HO.out.eff hL3.1 hp0
     have hblk := HO.out.blk5
     have hz3 := hL3.1.size
     have hLa := HL.out.trans hL3
     have hbx : Below w3.heap.size w3 (w3.alloc (.cells #[.int .i64 y, .string z, .int .i64 a, .int .i64 i, .string s, .slice A1 n1 c1, .slice A2 n2 c2, .slice A3 n3 c3, .slice A4 n4 c4] 143)) := (Below.refl _ _).alloc (Nat.le_refl _) _
     have hO4 := hO3.old hbx
     have hLb := hLa.below hbx
     have hvb4 : (elF k).E v (w3.alloc (.cells #[.int .i64 y, .string z, .int .i64 a, .int .i64 i, .string s, .slice A1 n1 c1, .slice A2 n2 c2, .slice A3 n3 c3, .slice A4 n4 c4] 143)) (fun b => w.heap.size ≤ b ∧ b < (w3.alloc (.cells #[.int .i64 y, .string z, .int .i64 a, .int .i64 i, .string s, .slice A1 n1 c1, .slice A2 n2 c2, .slice A3 n3 c3, .slice A4 n4 c4] 143)).heap.size ∧ some b ≠ (Value.slice A ls.length cap).ownBlock) [.int .i64 y, .string z, .int .i64 a, .int .i64 i, .string s, .slice A1 n1 c1, .slice A2 n2 c2, .slice A3 n3 c3, .slice A4 n4 c4] := ((elF k).sub (fun b hb => ⟨by have := hb.1; omega, by have := hb.2; simp; omega, fun e => by have := hblk b e.symm; have := hb.1; omega⟩) ((elF k).keep (Same.of_below hbx fun b hb => hb.2) hvb))
     have hll := HLL.out
     have hz4 : w.heap.size ≤ (w3.alloc (.cells #[.int .i64 y, .string z, .int .i64 a, .int .i64 i, .string s, .slice A1 n1 c1, .slice A2 n2 c2, .slice A3 n3 c3, .slice A4 n4 c4] 143)).heap.size := by simp; omega
     have HLB := Lib.hid hLb
     have HG := Lib.hid (And.intro hg hl3)
     clear hLb hLa hL3 hO3 hbx hvb hg ho
     obtain ⟨V, hV⟩ : ∃ V, V = w3.alloc (.cells #[.int .i64 y, .string z, .int .i64 a, .int .i64 i, .string s, .slice A1 n1 c1, .slice A2 n2 c2, .slice A3 n3 c3, .slice A4 n4 c4] 143) := ⟨_, rfl⟩
     go_wp2_with (at_builtin; refine wp_app_F5 rfl _ _ rfl k w.heap.size (.slice A ls.length cap) ls rfl hO4 v _ 1 (w3.heap.size + 1) (by simp) rfl _ rfl hvb4 rfl (elF_one k v _ _ _ hvb4) (by omega) hz4 ?_; intro g2 cap2 w4 ho4 hb4; refine Hid.out ?_)
     refine Lib.hid ?_
     have HO4 := Lib.hid ho4
     have HL4 := Lib.hid (show Left p q r d w w4 from ⟨HLB.out.1.grow hb4 hp0, HLB.out.2.1.below hb4 hp0, HLB.out.2.2⟩)
     clear ho4 hb4 hvb4 hO4
     go_wp2_with fail
     go_roundg (q.length + 1)
     case measure => have := HG.out.1; have := HG.out.2; have := cutP_len hcut; have := List.length_pos_iff.2 hsep; omega
     case rel =>
      have := HG.out.2
      have hll := HLL.out
      exact ⟨some ⟨g2, 0, none⟩, cap2, ls ++ [v], q, by rw [List.length_append]; rfl, HL4.out, by rw [List.length_append]; exact HO4.out, by rw [List.length_append]; simp only [List.length_singleton]; have := cutP_len hcut; have := List.length_pos_iff.2 hsep; omega, .inr ⟨by simp, by omega, HQ.out⟩⟩
end Go.Proofs.YtcjgaohblaidjaaGreatDoor
