/- The leaves of the source: what Int, String, Atom, Pid, Nil, Tuple of nothing return; Source.Key and Source.leaf. -/
import Derived.Test.YtcjgaohblaidjaaGreatDoorVb07
import Derived.Test.YtcjgaohblaidjaaGreatDoorVb14
namespace Go.Proofs.YtcjgaohblaidjaaGreatDoor
open Go Go.RowKit
def lfV (k i : Int) (t : List UInt8) : Vl := .mk k i t [] [] [] []
theorem zeroRw2 (w : World) (B : Nat → Prop) (c : Nat) (R : Nat → List Value → Prop) : RowB w B c (.slice none 0 0) 0 R := ⟨none, 0, rfl, ⟨Nat.zero_le _, Nat.le_refl _⟩, fun h => absurd h (by omega)⟩
def lfC (k i : Int) (t : List UInt8) : List Value := [.int .i64 k, .int .i64 i, .string ⟨t.toArray⟩, .slice none 0 0, .slice none 0 0, .slice none 0 0, .slice none 0 0]
theorem lfVB {k i : Int} {t : List UInt8} (hk : (Lit.int .i64 k).wf = true) (hi : (Lit.int .i64 i).wf = true) (ht : t.length ≤ maxLen) (n : Nat) (V : World) (B : Nat → Prop) : VB (n + 1) V B (lfV k i t) (lfC k i t) :=
 ⟨_, _, _, _, rfl, hk, hi, ht, zeroRw2 _ _ _ _, zeroRw2 _ _ _ _, zeroRw2 _ _ _ _, zeroRw2 _ _ _ _⟩
set_option maxHeartbeats 400000 in
theorem refInt_any (n : Int) (w : World) : Calls Tryz.prog 95 #[.int .i64 n] w fun e w' => e = .returned (.agg #[.int .i64 1, .int .i64 n, .string ⟨#[]⟩, .slice none 0 0, .slice none 0 0, .slice none 0 0, .slice none 0 0]) ∧ Below w.heap.size w w' := by
 go_enter Tryz.func95, Tryz.ntmps95
 go_wp2
 refine bodyPost_ret (v := .agg #[.int .i64 1, .int .i64 n, .string ⟨#[]⟩, .slice none 0 0, .slice none 0 0, .slice none 0 0, .slice none 0 0]) (by simp [results, Tryz.results95, go_sem]) rfl ?_
 exact ⟨rfl, (Below.refl _ _).alloc (Nat.le_refl _) _⟩
set_option maxHeartbeats 400000 in
theorem refString_any (s : List UInt8) (w : World) : Calls Tryz.prog 90 #[.string ⟨s.toArray⟩] w fun e w' => e = .returned (.agg #[.int .i64 2, .int .i64 0, .string ⟨s.toArray⟩, .slice none 0 0, .slice none 0 0, .slice none 0 0, .slice none 0 0]) ∧ Below w.heap.size w w' := by
 go_enter Tryz.func90, Tryz.ntmps90
 go_wp2
 refine bodyPost_ret (v := .agg #[.int .i64 2, .int .i64 0, .string ⟨s.toArray⟩, .slice none 0 0, .slice none 0 0, .slice none 0 0, .slice none 0 0]) (by simp [results, Tryz.results90, go_sem]) rfl ?_
 exact ⟨rfl, (Below.refl _ _).alloc (Nat.le_refl _) _⟩
set_option maxHeartbeats 400000 in
theorem refAtom_any (s : List UInt8) (w : World) : Calls Tryz.prog 101 #[.string ⟨s.toArray⟩] w fun e w' => e = .returned (.agg #[.int .i64 3, .int .i64 0, .string ⟨s.toArray⟩, .slice none 0 0, .slice none 0 0, .slice none 0 0, .slice none 0 0]) ∧ Below w.heap.size w w' := by
 go_enter Tryz.func101, Tryz.ntmps101
 go_wp2
 refine bodyPost_ret (v := .agg #[.int .i64 3, .int .i64 0, .string ⟨s.toArray⟩, .slice none 0 0, .slice none 0 0, .slice none 0 0, .slice none 0 0]) (by simp [results, Tryz.results101, go_sem]) rfl ?_
 exact ⟨rfl, (Below.refl _ _).alloc (Nat.le_refl _) _⟩
set_option maxHeartbeats 400000 in
theorem refPid_any (n : Int) (w : World) : Calls Tryz.prog 92 #[.int .i64 n] w fun e w' => e = .returned (.agg #[.int .i64 4, .int .i64 n, .string ⟨#[]⟩, .slice none 0 0, .slice none 0 0, .slice none 0 0, .slice none 0 0]) ∧ Below w.heap.size w w' := by
 go_enter Tryz.func92, Tryz.ntmps92
 go_wp2
 refine bodyPost_ret (v := .agg #[.int .i64 4, .int .i64 n, .string ⟨#[]⟩, .slice none 0 0, .slice none 0 0, .slice none 0 0, .slice none 0 0]) (by simp [results, Tryz.results92, go_sem]) rfl ?_
 exact ⟨rfl, (Below.refl _ _).alloc (Nat.le_refl _) _⟩
set_option maxHeartbeats 400000 in
theorem refNil_any (w : World) : Calls Tryz.prog 56 #[] w fun e w' => e = .returned (.agg #[.int .i64 5, .int .i64 0, .string ⟨#[]⟩, .slice none 0 0, .slice none 0 0, .slice none 0 0, .slice none 0 0]) ∧ Below w.heap.size w w' := by
 go_enter Tryz.func56, Tryz.ntmps56
 go_wp2
 refine bodyPost_ret (v := .agg #[.int .i64 5, .int .i64 0, .string ⟨#[]⟩, .slice none 0 0, .slice none 0 0, .slice none 0 0, .slice none 0 0]) (by simp [results, Tryz.results56, go_sem]) rfl ?_
 exact ⟨rfl, (Below.refl _ _).alloc (Nat.le_refl _) _⟩
theorem Tryz.infoV : (Tryz.prog.info? 27).map (fun i => (i.zero, i.size, i.bytes)) = some (some (.agg #[.int .i64 0, .int .i64 0, .string ⟨#[]⟩, .slice none 0 0, .slice none 0 0, .slice none 0 0, .slice none 0 0]), 7, 128) := by kernel_rfl
theorem run_app_nn (ty : TypeId) (w : World) : (Builtin.append_ #[22, 22] ty #[.slice none 0 0, .slice none 0 0]).run Tryz.prog w = .ok (.slice none 0 0) w := by
 obtain ⟨i, hi, hz0, hz1, hz2⟩ := info_parts Tryz.infoV
 simp [Builtin.append_, run_underlying Tryz.underlying22, sizeOf, typeInfo, hi, Builtin.lenOf, Builtin.firstCells]
set_option maxHeartbeats 400000 in
theorem copies_nil (w : World) : Calls Tryz.prog 107 #[.slice none 0 0] w fun e w' => e = .returned (.slice none 0 0) ∧ Below w.heap.size w w' := by
 go_enter Tryz.func107, Tryz.ntmps107
 go_wp2_with (refine Lib.wpList_append_run _ rfl _ _ 22 22 rfl (.slice none 0 0) (.slice none 0 0) rfl rfl (.slice none 0 0) _ (run_app_nn _ _) ?_)
 go_ret
 exact ⟨rfl, Below.refl _ _⟩
set_option maxHeartbeats 800000 in
theorem refTuple_nil (w : World) : Calls Tryz.prog 55 #[.slice none 0 0] w fun e w' => e = .returned (.agg #[.int .i64 6, .int .i64 0, .string ⟨#[]⟩, .slice none 0 0, .slice none 0 0, .slice none 0 0, .slice none 0 0]) ∧ Below w.heap.size w w' := by
 have hc := copies_nil (w.alloc (.cells #[.int .i64 0, .int .i64 0, .string ⟨#[]⟩, .slice none 0 0, .slice none 0 0, .slice none 0 0, .slice none 0 0] 27))
 have k0 := heap_alloc_new w (.cells #[.int .i64 0, .int .i64 0, .string ⟨#[]⟩, .slice none 0 0, .slice none 0 0, .slice none 0 0, .slice none 0 0] 27)
 have hba : Below w.heap.size w (w.alloc (.cells #[.int .i64 0, .int .i64 0, .string ⟨#[]⟩, .slice none 0 0, .slice none 0 0, .slice none 0 0, .slice none 0 0] 27)) := (Below.refl _ _).alloc (Nat.le_refl _) _
 go_enter Tryz.func55, Tryz.ntmps55
 go_wp2_with fail
 refine hc.mono ?_
 rintro e w1 ⟨rfl, hb1⟩
 clear hc
 have k1 : w1.heap[w.heap.size]? = some (.cells #[.int .i64 0, .int .i64 0, .string ⟨#[]⟩, .slice none 0 0, .slice none 0 0, .slice none 0 0, .slice none 0 0] 27 (0, 0)) := (hb1.block _ (by simp)).trans k0
 have hbb : Below w.heap.size w w1 := hba.trans (hb1.mono (by simp))
 clear k0 hba hb1
 obtain ⟨e0, e1, e2, e3, e4, e5, e6⟩ := cells7 k1
 obtain ⟨z0, z1, z2, z3, z4, z5, z6⟩ := frozen7 k1
 go_wp2
 obtain ⟨V, hV⟩ : ∃ V, V = (((((((w1.setCell ⟨w.heap.size, 0, none⟩ (Value.int .i64 6)).setCell ⟨w.heap.size, 1, none⟩ (Value.int .i64 0)).setCell ⟨w.heap.size, 2, none⟩ (Value.string ⟨#[]⟩)).setCell ⟨w.heap.size, 3, none⟩ (Value.slice none 0 0)).setCell ⟨w.heap.size, 4, none⟩ (Value.slice none 0 0)).setCell ⟨w.heap.size, 5, none⟩ (Value.slice none 0 0)).setCell ⟨w.heap.size, 6, none⟩ (Value.slice none 0 0)) := ⟨_, rfl⟩
 rw [← hV]
 have hob : V.heap[w.heap.size]? = some (.cells #[Value.int .i64 6, Value.int .i64 0, Value.string ⟨#[]⟩, Value.slice none 0 0, Value.slice none 0 0, Value.slice none 0 0, Value.slice none 0 0] 27 (0, 0)) := by rw [hV]; exact obj7 k1 (Value.int .i64 6) (Value.int .i64 0) (Value.string ⟨#[]⟩) (Value.slice none 0 0) (Value.slice none 0 0) (Value.slice none 0 0) (Value.slice none 0 0)
 have hBV : Below w.heap.size w V := by rw [hV]; exact Below.setCell (Below.setCell (Below.setCell (Below.setCell (Below.setCell (Below.setCell (Below.setCell (hbb) (p := ⟨w.heap.size, 0, none⟩) (Nat.le_refl _) _) (p := ⟨w.heap.size, 1, none⟩) (Nat.le_refl _) _) (p := ⟨w.heap.size, 2, none⟩) (Nat.le_refl _) _) (p := ⟨w.heap.size, 3, none⟩) (Nat.le_refl _) _) (p := ⟨w.heap.size, 4, none⟩) (Nat.le_refl _) _) (p := ⟨w.heap.size, 5, none⟩) (Nat.le_refl _) _) (p := ⟨w.heap.size, 6, none⟩) (Nat.le_refl _) _
 clear hV e0 z0 e1 z1 e2 z2 e3 z3 e4 z4 e5 z5 e6 z6
 obtain ⟨ps0, ps1, ps2, ps3, ps4, ps5, ps6⟩ := cells7 hob
 refine bodyPost_ret (v := .agg #[Value.int .i64 6, Value.int .i64 0, Value.string ⟨#[]⟩, Value.slice none 0 0, Value.slice none 0 0, Value.slice none 0 0, Value.slice none 0 0]) (by simp [results, Tryz.results55, go_sem, ps0, ps1, ps2, ps3, ps4, ps5, ps6]) rfl ?_
 exact ⟨rfl, hBV⟩
theorem obj2 {w : World} {g : Nat} {a b : Value} {t : TypeId} (hg : w.heap[g]? = some (.cells #[a, b] t (0, 0))) (x y : Value) : ((w.setCell ⟨g, 0, none⟩ x).setCell ⟨g, 1, none⟩ y).heap[g]? = some (.cells #[x, y] t (0, 0)) := by
 have h1 := heap_setCell_same w g 0 _ _ x hg
 have h2 := heap_setCell_same _ g 1 _ _ y h1
 simpa using h2
theorem src_set {h p g i : Nat} {w0 w : World} {x : Value} (hS : SrcOk h p w) (hE : Eff p w0 w) (hg : w0.heap.size ≤ g) (hp : p < g) : SrcOk h p (w.setCell ⟨g, i, none⟩ x) ∧ Eff p w0 (w.setCell ⟨g, i, none⟩ x) := by
 have hb : Below (p + 1) w (w.setCell ⟨g, i, none⟩ x) := (Below.refl (p + 1) w).setCell (p := ⟨g, i, none⟩) hp _
 refine ⟨?_, hE.below.trans (hb.mono (by omega)), fun b hb' hl => ?_⟩
 ·
  obtain ⟨A, n, c, q, h1, h2, h3, h4, h5⟩ := hS
  exact ⟨A, n, c, q, (hb.block p (by omega)).trans h1, h2, h3, h4, h5.on (hb.mono (by omega)) fun _ _ h => h⟩
 ·
  rw [heap_setCell_other _ _ _ _ (show b ≠ g by omega)]
  exact hE.other b hb' hl
theorem src_set2 {h p g : Nat} {w0 w : World} (hS : SrcOk h p w) (hE : Eff p w0 w) (hg : w0.heap.size ≤ g) (hp : p < g) (x y : Value) : SrcOk h p ((w.setCell ⟨g, 0, none⟩ x).setCell ⟨g, 1, none⟩ y) ∧ Eff p w0 ((w.setCell ⟨g, 0, none⟩ x).setCell ⟨g, 1, none⟩ y) := by
 obtain ⟨h1, h2⟩ := src_set (i := 0) (x := x) hS hE hg hp
 exact src_set h1 h2 hg hp
theorem src_set7 {h p g : Nat} {w0 w : World} (hS : SrcOk h p w) (hE : Eff p w0 w) (hg : w0.heap.size ≤ g) (hp : p < g) (x0 x1 x2 x3 x4 x5 x6 : Value) :
  SrcOk h p (((((((w.setCell ⟨g, 0, none⟩ x0).setCell ⟨g, 1, none⟩ x1).setCell ⟨g, 2, none⟩ x2).setCell ⟨g, 3, none⟩ x3).setCell ⟨g, 4, none⟩ x4).setCell ⟨g, 5, none⟩ x5).setCell ⟨g, 6, none⟩ x6) ∧ Eff p w0 (((((((w.setCell ⟨g, 0, none⟩ x0).setCell ⟨g, 1, none⟩ x1).setCell ⟨g, 2, none⟩ x2).setCell ⟨g, 3, none⟩ x3).setCell ⟨g, 4, none⟩ x4).setCell ⟨g, 5, none⟩ x5).setCell ⟨g, 6, none⟩ x6) := by
 obtain ⟨a0, b0⟩ := src_set (i := 0) (x := x0) hS hE hg hp
 obtain ⟨a1, b1⟩ := src_set (i := 1) (x := x1) a0 b0 hg hp
 obtain ⟨a2, b2⟩ := src_set (i := 2) (x := x2) a1 b1 hg hp
 obtain ⟨a3, b3⟩ := src_set (i := 3) (x := x3) a2 b2 hg hp
 obtain ⟨a4, b4⟩ := src_set (i := 4) (x := x4) a3 b3 hg hp
 obtain ⟨a5, b5⟩ := src_set (i := 5) (x := x5) a4 b4 hg hp
 exact src_set a5 b5 hg hp
def KeyN (x : Int × List UInt8) : Prop := (x.1 = 0 ∧ AtomN x.2) ∨ (x.1 = 1 ∧ WordN x.2)
theorem KeyN.ok {x : Int × List UInt8} (h : KeyN x) : keyB x.1 x.2 = true := by
 obtain ⟨k, s⟩ := x
 rcases h with ⟨rfl, h⟩ | ⟨rfl, h⟩
 · rcases h with rfl | rfl | rfl | rfl <;> decide
 · rcases h with rfl | rfl | rfl | rfl <;> decide
theorem AtomN.ok {s : List UInt8} (h : AtomN s) : atomB s = true := by rcases h with rfl | rfl | rfl | rfl <;> decide
theorem AtomN.len {s : List UInt8} (h : AtomN s) : s.length ≤ 5 := by rcases h with rfl | rfl | rfl | rfl <;> decide
theorem WordN.len {s : List UInt8} (h : WordN s) : s.length ≤ 5 := by rcases h with rfl | rfl | rfl | rfl <;> decide
theorem LabN.len {s : List UInt8} (h : LabN s) : s.length ≤ 5 := by rcases h with rfl | rfl | rfl <;> decide
theorem LabN.ok {s : List UInt8} (h : LabN s) : varB s = true := by rcases h with rfl | rfl | rfl <;> decide
set_option maxRecDepth 100000 in
set_option maxHeartbeats 3200000 in
theorem key_src (h p : Nat) (w : World) (hS : SrcOk h p w) : Calls Tryz.prog 58 #[.pointer (some ⟨p, 0, none⟩)] w fun e w' => (∃ x : Int × List UInt8, e = .returned (.agg #[.int .i64 x.1, .string ⟨x.2.toArray⟩]) ∧ KeyN x) ∧ SrcOk h p w' ∧ Eff p w w' := by
 have hlp := hS.lt
 have hba : Below w.heap.size w (w.alloc (.cells #[.int .i64 0, .string ⟨#[]⟩] 80)) := (Below.refl _ _).alloc (Nat.le_refl _) _
 have hc := next_any h p 2 _ (hS.below hba) (by omega) (by omega)
 have k0 := heap_alloc_new w (.cells #[.int .i64 0, .string ⟨#[]⟩] 80)
 have hE0 := Eff.of_below hba (Nat.le_of_lt hlp)
 go_enter Tryz.func58, Tryz.ntmps58
 go_wp2_with fail
 refine hc.mono ?_
 rintro e w1 ⟨j, rfl, j0, j1, hS1, hE⟩
 have k1 : w1.heap[w.heap.size]? = some (.cells #[.int .i64 0, .string ⟨#[]⟩] 80 (0, 0)) := (hE.other _ (by omega) (by simp)).trans k0
 have hE1 := hE0.trans hE
 clear hc hE hba hE0 k0 hS
 have hA := atomName_any h p w1 hS1
 have hW := word_any h p w1 hS1
 have hz1 := hE1.size
 have hl1 := (Array.getElem?_eq_some_iff.1 k1).1
 have hj : j = 0 ∨ j = 1 := by omega
 rcases hj with rfl | rfl
 ·
  go_wp2_with fail
  refine hA.mono ?_
  rintro e w2 ⟨⟨s, rfl, hs⟩, hS2, hE2⟩
  have k2 : w2.heap[w.heap.size]? = some (.cells #[.int .i64 0, .string ⟨#[]⟩] 80 (0, 0)) := (hE2.other _ (by omega) hl1).trans k1
  have HF := Lib.hid (And.intro hS2 (hE1.trans hE2))
  have HK := Lib.hid k2
  have e0 : w2.cell? ⟨w.heap.size, 0, none⟩ = some (.int .i64 0) := (Lib.cell_of_heap k2 0).trans rfl
  have e1 : w2.cell? ⟨w.heap.size, 1, none⟩ = some (.string ⟨#[]⟩) := (Lib.cell_of_heap k2 1).trans rfl
  have z0 := Lib.frozen_of_heap k2 0
  have z1 := Lib.frozen_of_heap k2 1
  clear hA hW k1 k2 hS1 hS2 hE1 hE2
  go_wp2
  obtain ⟨V, hV⟩ : ∃ V, V = (w2.setCell ⟨w.heap.size, 0, none⟩ (.int .i64 0)).setCell ⟨w.heap.size, 1, none⟩ (.string ⟨s.toArray⟩) := ⟨_, rfl⟩
  rw [← hV]
  have hob : V.heap[w.heap.size]? = some (.cells #[.int .i64 0, .string ⟨s.toArray⟩] 80 (0, 0)) := by rw [hV]; exact obj2 HK.out (.int .i64 0) (.string ⟨s.toArray⟩)
  have hfin : SrcOk h p V ∧ Eff p w V := by rw [hV]; exact src_set2 HF.out.1 HF.out.2 (Nat.le_refl _) hlp _ _
  clear hV e0 e1 z0 z1
  have e0 : V.cell? ⟨w.heap.size, 0, none⟩ = some (.int .i64 0) := (Lib.cell_of_heap hob 0).trans rfl
  have e1 : V.cell? ⟨w.heap.size, 1, none⟩ = some (.string ⟨s.toArray⟩) := (Lib.cell_of_heap hob 1).trans rfl
  refine bodyPost_ret (v := .agg #[.int .i64 0, .string ⟨s.toArray⟩]) (by simp [results, Tryz.results58, go_sem, e0, e1]) rfl ?_
  exact ⟨⟨(0, s), rfl, .inl ⟨rfl, hs⟩⟩, hfin⟩
 ·
  go_wp2_with fail
  refine hW.mono ?_
  rintro e w2 ⟨⟨s, rfl, hs⟩, hS2, hE2⟩
  have k2 : w2.heap[w.heap.size]? = some (.cells #[.int .i64 0, .string ⟨#[]⟩] 80 (0, 0)) := (hE2.other _ (by omega) hl1).trans k1
  have HF := Lib.hid (And.intro hS2 (hE1.trans hE2))
  have HK := Lib.hid k2
  have e0 : w2.cell? ⟨w.heap.size, 0, none⟩ = some (.int .i64 0) := (Lib.cell_of_heap k2 0).trans rfl
  have e1 : w2.cell? ⟨w.heap.size, 1, none⟩ = some (.string ⟨#[]⟩) := (Lib.cell_of_heap k2 1).trans rfl
  have z0 := Lib.frozen_of_heap k2 0
  have z1 := Lib.frozen_of_heap k2 1
  clear hA hW k1 k2 hS1 hS2 hE1 hE2
  go_wp2
  obtain ⟨V, hV⟩ : ∃ V, V = (w2.setCell ⟨w.heap.size, 0, none⟩ (.int .i64 1)).setCell ⟨w.heap.size, 1, none⟩ (.string ⟨s.toArray⟩) := ⟨_, rfl⟩
  rw [← hV]
  have hob : V.heap[w.heap.size]? = some (.cells #[.int .i64 1, .string ⟨s.toArray⟩] 80 (0, 0)) := by rw [hV]; exact obj2 HK.out (.int .i64 1) (.string ⟨s.toArray⟩)
  have hfin : SrcOk h p V ∧ Eff p w V := by rw [hV]; exact src_set2 HF.out.1 HF.out.2 (Nat.le_refl _) hlp _ _
  clear hV e0 e1 z0 z1
  have e0 : V.cell? ⟨w.heap.size, 0, none⟩ = some (.int .i64 1) := (Lib.cell_of_heap hob 0).trans rfl
  have e1 : V.cell? ⟨w.heap.size, 1, none⟩ = some (.string ⟨s.toArray⟩) := (Lib.cell_of_heap hob 1).trans rfl
  refine bodyPost_ret (v := .agg #[.int .i64 1, .string ⟨s.toArray⟩]) (by simp [results, Tryz.results58, go_sem, e0, e1]) rfl ?_
  exact ⟨⟨(1, s), rfl, .inr ⟨rfl, hs⟩⟩, hfin⟩
def LeafN (k i : Int) (t : List UInt8) : Prop := k = 1 ∧ NumN i ∧ t = [] ∨ k = 3 ∧ i = 0 ∧ AtomN t ∨ k = 2 ∧ i = 0 ∧ WordN t ∨ k = 4 ∧ (0 ≤ i ∧ i ≤ 2) ∧ t = [] ∨ k = 5 ∧ i = 0 ∧ t = [] ∨ k = 6 ∧ i = 0 ∧ t = []
set_option maxRecDepth 100000 in
set_option maxHeartbeats 3200000 in
theorem leaf_src (h p : Nat) (w : World) (hS : SrcOk h p w) : Calls Tryz.prog 53 #[.pointer (some ⟨p, 0, none⟩)] w fun e w' => (∃ (k i : Int) (t : List UInt8), e = .returned (.agg (lfC k i t).toArray) ∧ LeafN k i t) ∧ SrcOk h p w' ∧ Eff p w w' := by
 have hlp := hS.lt
 have hba : Below w.heap.size w (w.alloc (.cells #[.int .i64 0, .int .i64 0, .string ⟨#[]⟩, .slice none 0 0, .slice none 0 0, .slice none 0 0, .slice none 0 0] 27)) := (Below.refl _ _).alloc (Nat.le_refl _) _
 have hc := next_any h p 6 _ (hS.below hba) (by omega) (by omega)
 have k0 := heap_alloc_new w (.cells #[.int .i64 0, .int .i64 0, .string ⟨#[]⟩, .slice none 0 0, .slice none 0 0, .slice none 0 0, .slice none 0 0] 27)
 have hE0 := Eff.of_below hba (Nat.le_of_lt hlp)
 go_enter Tryz.func53, Tryz.ntmps53
 go_wp2_with fail
 refine hc.mono ?_
 rintro e w1 ⟨j, rfl, j0, j1, hS1, hE⟩
 have k1 : w1.heap[w.heap.size]? = some (.cells #[.int .i64 0, .int .i64 0, .string ⟨#[]⟩, .slice none 0 0, .slice none 0 0, .slice none 0 0, .slice none 0 0] 27 (0, 0)) := (hE.other _ (by omega) (by simp)).trans k0
 have hE1 := hE0.trans hE
 clear hc hE hba hE0 k0 hS
 have hz1 := hE1.size
 have hl1 := (Array.getElem?_eq_some_iff.1 k1).1
 have HA := Lib.hid (And.intro k1 (And.intro hS1 hE1))
 clear k1 hE1
 have hj : j = 0 ∨ j = 1 ∨ j = 2 ∨ j = 3 ∨ j = 4 ∨ j = 5 := by omega
 rcases hj with rfl | rfl | rfl | rfl | rfl | rfl
 ·
  have hN := number_any h p w1 HA.out.2.1
  go_wp2_with fail
  refine hN.mono ?_
  rintro e w2 ⟨⟨x, rfl, hv⟩, hS2, hE2⟩
  have HB2 := Lib.hid (And.intro ((hE2.other _ (by omega) hl1).trans HA.out.1) (And.intro hS2 (HA.out.2.2.trans hE2)))
  clear hN
  have hR := refInt_any x w2
  have hl2 := Nat.lt_of_lt_of_le hl1 hE2.size
  clear hS2 hE2
  go_wp2_with fail
  refine hR.mono ?_
  rintro e w3 ⟨rfl, hb3⟩
  have HB : Hid (w3.heap[w.heap.size]? = some (.cells #[.int .i64 0, .int .i64 0, .string ⟨#[]⟩, .slice none 0 0, .slice none 0 0, .slice none 0 0, .slice none 0 0] 27 (0, 0)) ∧ SrcOk h p w3 ∧ Eff p w w3) := Lib.hid ⟨(hb3.block _ hl2).trans HB2.out.1, HB2.out.2.1.below hb3, HB2.out.2.2.trans (Eff.of_below hb3 (by omega))⟩
  clear hR hb3
  have k1 : w3.heap[w.heap.size]? = some (.cells #[.int .i64 0, .int .i64 0, .string ⟨#[]⟩, .slice none 0 0, .slice none 0 0, .slice none 0 0, .slice none 0 0] 27 (0, 0)) := HB.out.1
  obtain ⟨e0, e1, e2, e3, e4, e5, e6⟩ := cells7 k1
  obtain ⟨z0, z1, z2, z3, z4, z5, z6⟩ := frozen7 k1
  clear k1
  go_wp2
  obtain ⟨V, hV⟩ : ∃ V, V = (((((((w3.setCell ⟨w.heap.size, 0, none⟩ (Value.int .i64 1)).setCell ⟨w.heap.size, 1, none⟩ (Value.int .i64 x)).setCell ⟨w.heap.size, 2, none⟩ (Value.string ⟨#[]⟩)).setCell ⟨w.heap.size, 3, none⟩ (Value.slice none 0 0)).setCell ⟨w.heap.size, 4, none⟩ (Value.slice none 0 0)).setCell ⟨w.heap.size, 5, none⟩ (Value.slice none 0 0)).setCell ⟨w.heap.size, 6, none⟩ (Value.slice none 0 0)) := ⟨_, rfl⟩
  rw [← hV]
  have hob : V.heap[w.heap.size]? = some (.cells #[Value.int .i64 1, Value.int .i64 x, Value.string ⟨#[]⟩, Value.slice none 0 0, Value.slice none 0 0, Value.slice none 0 0, Value.slice none 0 0] 27 (0, 0)) := by rw [hV]; exact obj7 HB.out.1 (Value.int .i64 1) (Value.int .i64 x) (Value.string ⟨#[]⟩) (Value.slice none 0 0) (Value.slice none 0 0) (Value.slice none 0 0) (Value.slice none 0 0)
  have hfin : SrcOk h p V ∧ Eff p w V := by rw [hV]; exact src_set7 HB.out.2.1 HB.out.2.2 (Nat.le_refl _) hlp _ _ _ _ _ _ _
  clear hV e0 z0 e1 z1 e2 z2 e3 z3 e4 z4 e5 z5 e6 z6
  obtain ⟨ps0, ps1, ps2, ps3, ps4, ps5, ps6⟩ := cells7 hob
  refine bodyPost_ret (v := .agg #[Value.int .i64 1, Value.int .i64 x, Value.string ⟨#[]⟩, Value.slice none 0 0, Value.slice none 0 0, Value.slice none 0 0, Value.slice none 0 0]) (by simp [results, Tryz.results53, go_sem, ps0, ps1, ps2, ps3, ps4, ps5, ps6]) rfl ?_
  exact ⟨⟨1, x, [], rfl, by unfold LeafN; simp [hv]⟩, hfin⟩
 ·
  have hN := atomName_any h p w1 HA.out.2.1
  go_wp2_with fail
  refine hN.mono ?_
  rintro e w2 ⟨⟨s, rfl, hv⟩, hS2, hE2⟩
  have HB2 := Lib.hid (And.intro ((hE2.other _ (by omega) hl1).trans HA.out.1) (And.intro hS2 (HA.out.2.2.trans hE2)))
  clear hN
  have hR := refAtom_any s w2
  have hl2 := Nat.lt_of_lt_of_le hl1 hE2.size
  clear hS2 hE2
  go_wp2_with fail
  refine hR.mono ?_
  rintro e w3 ⟨rfl, hb3⟩
  have HB : Hid (w3.heap[w.heap.size]? = some (.cells #[.int .i64 0, .int .i64 0, .string ⟨#[]⟩, .slice none 0 0, .slice none 0 0, .slice none 0 0, .slice none 0 0] 27 (0, 0)) ∧ SrcOk h p w3 ∧ Eff p w w3) := Lib.hid ⟨(hb3.block _ hl2).trans HB2.out.1, HB2.out.2.1.below hb3, HB2.out.2.2.trans (Eff.of_below hb3 (by omega))⟩
  clear hR hb3
  have k1 : w3.heap[w.heap.size]? = some (.cells #[.int .i64 0, .int .i64 0, .string ⟨#[]⟩, .slice none 0 0, .slice none 0 0, .slice none 0 0, .slice none 0 0] 27 (0, 0)) := HB.out.1
  obtain ⟨e0, e1, e2, e3, e4, e5, e6⟩ := cells7 k1
  obtain ⟨z0, z1, z2, z3, z4, z5, z6⟩ := frozen7 k1
  clear k1
  go_wp2
  obtain ⟨V, hV⟩ : ∃ V, V = (((((((w3.setCell ⟨w.heap.size, 0, none⟩ (Value.int .i64 3)).setCell ⟨w.heap.size, 1, none⟩ (Value.int .i64 0)).setCell ⟨w.heap.size, 2, none⟩ (Value.string ⟨s.toArray⟩)).setCell ⟨w.heap.size, 3, none⟩ (Value.slice none 0 0)).setCell ⟨w.heap.size, 4, none⟩ (Value.slice none 0 0)).setCell ⟨w.heap.size, 5, none⟩ (Value.slice none 0 0)).setCell ⟨w.heap.size, 6, none⟩ (Value.slice none 0 0)) := ⟨_, rfl⟩
  rw [← hV]
  have hob : V.heap[w.heap.size]? = some (.cells #[Value.int .i64 3, Value.int .i64 0, Value.string ⟨s.toArray⟩, Value.slice none 0 0, Value.slice none 0 0, Value.slice none 0 0, Value.slice none 0 0] 27 (0, 0)) := by rw [hV]; exact obj7 HB.out.1 (Value.int .i64 3) (Value.int .i64 0) (Value.string ⟨s.toArray⟩) (Value.slice none 0 0) (Value.slice none 0 0) (Value.slice none 0 0) (Value.slice none 0 0)
  have hfin : SrcOk h p V ∧ Eff p w V := by rw [hV]; exact src_set7 HB.out.2.1 HB.out.2.2 (Nat.le_refl _) hlp _ _ _ _ _ _ _
  clear hV e0 z0 e1 z1 e2 z2 e3 z3 e4 z4 e5 z5 e6 z6
  obtain ⟨ps0, ps1, ps2, ps3, ps4, ps5, ps6⟩ := cells7 hob
  refine bodyPost_ret (v := .agg #[Value.int .i64 3, Value.int .i64 0, Value.string ⟨s.toArray⟩, Value.slice none 0 0, Value.slice none 0 0, Value.slice none 0 0, Value.slice none 0 0]) (by simp [results, Tryz.results53, go_sem, ps0, ps1, ps2, ps3, ps4, ps5, ps6]) rfl ?_
  exact ⟨⟨3, 0, s, rfl, by unfold LeafN; simp [hv]⟩, hfin⟩
 ·
  have hN := word_any h p w1 HA.out.2.1
  go_wp2_with fail
  refine hN.mono ?_
  rintro e w2 ⟨⟨s, rfl, hv⟩, hS2, hE2⟩
  have HB2 := Lib.hid (And.intro ((hE2.other _ (by omega) hl1).trans HA.out.1) (And.intro hS2 (HA.out.2.2.trans hE2)))
  clear hN
  have hR := refString_any s w2
  have hl2 := Nat.lt_of_lt_of_le hl1 hE2.size
  clear hS2 hE2
  go_wp2_with fail
  refine hR.mono ?_
  rintro e w3 ⟨rfl, hb3⟩
  have HB : Hid (w3.heap[w.heap.size]? = some (.cells #[.int .i64 0, .int .i64 0, .string ⟨#[]⟩, .slice none 0 0, .slice none 0 0, .slice none 0 0, .slice none 0 0] 27 (0, 0)) ∧ SrcOk h p w3 ∧ Eff p w w3) := Lib.hid ⟨(hb3.block _ hl2).trans HB2.out.1, HB2.out.2.1.below hb3, HB2.out.2.2.trans (Eff.of_below hb3 (by omega))⟩
  clear hR hb3
  have k1 : w3.heap[w.heap.size]? = some (.cells #[.int .i64 0, .int .i64 0, .string ⟨#[]⟩, .slice none 0 0, .slice none 0 0, .slice none 0 0, .slice none 0 0] 27 (0, 0)) := HB.out.1
  obtain ⟨e0, e1, e2, e3, e4, e5, e6⟩ := cells7 k1
  obtain ⟨z0, z1, z2, z3, z4, z5, z6⟩ := frozen7 k1
  clear k1
  go_wp2
  obtain ⟨V, hV⟩ : ∃ V, V = (((((((w3.setCell ⟨w.heap.size, 0, none⟩ (Value.int .i64 2)).setCell ⟨w.heap.size, 1, none⟩ (Value.int .i64 0)).setCell ⟨w.heap.size, 2, none⟩ (Value.string ⟨s.toArray⟩)).setCell ⟨w.heap.size, 3, none⟩ (Value.slice none 0 0)).setCell ⟨w.heap.size, 4, none⟩ (Value.slice none 0 0)).setCell ⟨w.heap.size, 5, none⟩ (Value.slice none 0 0)).setCell ⟨w.heap.size, 6, none⟩ (Value.slice none 0 0)) := ⟨_, rfl⟩
  rw [← hV]
  have hob : V.heap[w.heap.size]? = some (.cells #[Value.int .i64 2, Value.int .i64 0, Value.string ⟨s.toArray⟩, Value.slice none 0 0, Value.slice none 0 0, Value.slice none 0 0, Value.slice none 0 0] 27 (0, 0)) := by rw [hV]; exact obj7 HB.out.1 (Value.int .i64 2) (Value.int .i64 0) (Value.string ⟨s.toArray⟩) (Value.slice none 0 0) (Value.slice none 0 0) (Value.slice none 0 0) (Value.slice none 0 0)
  have hfin : SrcOk h p V ∧ Eff p w V := by rw [hV]; exact src_set7 HB.out.2.1 HB.out.2.2 (Nat.le_refl _) hlp _ _ _ _ _ _ _
  clear hV e0 z0 e1 z1 e2 z2 e3 z3 e4 z4 e5 z5 e6 z6
  obtain ⟨ps0, ps1, ps2, ps3, ps4, ps5, ps6⟩ := cells7 hob
  refine bodyPost_ret (v := .agg #[Value.int .i64 2, Value.int .i64 0, Value.string ⟨s.toArray⟩, Value.slice none 0 0, Value.slice none 0 0, Value.slice none 0 0, Value.slice none 0 0]) (by simp [results, Tryz.results53, go_sem, ps0, ps1, ps2, ps3, ps4, ps5, ps6]) rfl ?_
  exact ⟨⟨2, 0, s, rfl, by unfold LeafN; simp [hv]⟩, hfin⟩
 ·
  have hN := next_any h p 3 w1 HA.out.2.1 (by omega) (by omega)
  go_wp2_with fail
  refine hN.mono ?_
  rintro e w2 ⟨x, rfl, x0, x1, hS2, hE2⟩
  have HB2 := Lib.hid (And.intro ((hE2.other _ (by omega) hl1).trans HA.out.1) (And.intro hS2 (HA.out.2.2.trans hE2)))
  have hR := refPid_any x w2
  have hl2 := Nat.lt_of_lt_of_le hl1 hE2.size
  clear hN hS2 hE2
  go_wp2_with fail
  refine hR.mono ?_
  rintro e w3 ⟨rfl, hb3⟩
  have HB : Hid (w3.heap[w.heap.size]? = some (.cells #[.int .i64 0, .int .i64 0, .string ⟨#[]⟩, .slice none 0 0, .slice none 0 0, .slice none 0 0, .slice none 0 0] 27 (0, 0)) ∧ SrcOk h p w3 ∧ Eff p w w3) := Lib.hid ⟨(hb3.block _ hl2).trans HB2.out.1, HB2.out.2.1.below hb3, HB2.out.2.2.trans (Eff.of_below hb3 (by omega))⟩
  clear hR hb3
  have k1 : w3.heap[w.heap.size]? = some (.cells #[.int .i64 0, .int .i64 0, .string ⟨#[]⟩, .slice none 0 0, .slice none 0 0, .slice none 0 0, .slice none 0 0] 27 (0, 0)) := HB.out.1
  obtain ⟨e0, e1, e2, e3, e4, e5, e6⟩ := cells7 k1
  obtain ⟨z0, z1, z2, z3, z4, z5, z6⟩ := frozen7 k1
  clear k1
  go_wp2
  obtain ⟨V, hV⟩ : ∃ V, V = (((((((w3.setCell ⟨w.heap.size, 0, none⟩ (Value.int .i64 4)).setCell ⟨w.heap.size, 1, none⟩ (Value.int .i64 x)).setCell ⟨w.heap.size, 2, none⟩ (Value.string ⟨#[]⟩)).setCell ⟨w.heap.size, 3, none⟩ (Value.slice none 0 0)).setCell ⟨w.heap.size, 4, none⟩ (Value.slice none 0 0)).setCell ⟨w.heap.size, 5, none⟩ (Value.slice none 0 0)).setCell ⟨w.heap.size, 6, none⟩ (Value.slice none 0 0)) := ⟨_, rfl⟩
  rw [← hV]
  have hob : V.heap[w.heap.size]? = some (.cells #[Value.int .i64 4, Value.int .i64 x, Value.string ⟨#[]⟩, Value.slice none 0 0, Value.slice none 0 0, Value.slice none 0 0, Value.slice none 0 0] 27 (0, 0)) := by rw [hV]; exact obj7 HB.out.1 (Value.int .i64 4) (Value.int .i64 x) (Value.string ⟨#[]⟩) (Value.slice none 0 0) (Value.slice none 0 0) (Value.slice none 0 0) (Value.slice none 0 0)
  have hfin : SrcOk h p V ∧ Eff p w V := by rw [hV]; exact src_set7 HB.out.2.1 HB.out.2.2 (Nat.le_refl _) hlp _ _ _ _ _ _ _
  clear hV e0 z0 e1 z1 e2 z2 e3 z3 e4 z4 e5 z5 e6 z6
  obtain ⟨ps0, ps1, ps2, ps3, ps4, ps5, ps6⟩ := cells7 hob
  refine bodyPost_ret (v := .agg #[Value.int .i64 4, Value.int .i64 x, Value.string ⟨#[]⟩, Value.slice none 0 0, Value.slice none 0 0, Value.slice none 0 0, Value.slice none 0 0]) (by simp [results, Tryz.results53, go_sem, ps0, ps1, ps2, ps3, ps4, ps5, ps6]) rfl ?_
  exact ⟨⟨4, x, [], rfl, by unfold LeafN; have := x0; have := x1; simp; omega⟩, hfin⟩
 ·
  have hR := refNil_any w1
  have hl2 := hl1
  have HB2 := HA
  go_wp2_with fail
  refine hR.mono ?_
  rintro e w3 ⟨rfl, hb3⟩
  have HB : Hid (w3.heap[w.heap.size]? = some (.cells #[.int .i64 0, .int .i64 0, .string ⟨#[]⟩, .slice none 0 0, .slice none 0 0, .slice none 0 0, .slice none 0 0] 27 (0, 0)) ∧ SrcOk h p w3 ∧ Eff p w w3) := Lib.hid ⟨(hb3.block _ hl2).trans HB2.out.1, HB2.out.2.1.below hb3, HB2.out.2.2.trans (Eff.of_below hb3 (by omega))⟩
  clear hR hb3
  have k1 : w3.heap[w.heap.size]? = some (.cells #[.int .i64 0, .int .i64 0, .string ⟨#[]⟩, .slice none 0 0, .slice none 0 0, .slice none 0 0, .slice none 0 0] 27 (0, 0)) := HB.out.1
  obtain ⟨e0, e1, e2, e3, e4, e5, e6⟩ := cells7 k1
  obtain ⟨z0, z1, z2, z3, z4, z5, z6⟩ := frozen7 k1
  clear k1
  go_wp2
  obtain ⟨V, hV⟩ : ∃ V, V = (((((((w3.setCell ⟨w.heap.size, 0, none⟩ (Value.int .i64 5)).setCell ⟨w.heap.size, 1, none⟩ (Value.int .i64 0)).setCell ⟨w.heap.size, 2, none⟩ (Value.string ⟨#[]⟩)).setCell ⟨w.heap.size, 3, none⟩ (Value.slice none 0 0)).setCell ⟨w.heap.size, 4, none⟩ (Value.slice none 0 0)).setCell ⟨w.heap.size, 5, none⟩ (Value.slice none 0 0)).setCell ⟨w.heap.size, 6, none⟩ (Value.slice none 0 0)) := ⟨_, rfl⟩
  rw [← hV]
  have hob : V.heap[w.heap.size]? = some (.cells #[Value.int .i64 5, Value.int .i64 0, Value.string ⟨#[]⟩, Value.slice none 0 0, Value.slice none 0 0, Value.slice none 0 0, Value.slice none 0 0] 27 (0, 0)) := by rw [hV]; exact obj7 HB.out.1 (Value.int .i64 5) (Value.int .i64 0) (Value.string ⟨#[]⟩) (Value.slice none 0 0) (Value.slice none 0 0) (Value.slice none 0 0) (Value.slice none 0 0)
  have hfin : SrcOk h p V ∧ Eff p w V := by rw [hV]; exact src_set7 HB.out.2.1 HB.out.2.2 (Nat.le_refl _) hlp _ _ _ _ _ _ _
  clear hV e0 z0 e1 z1 e2 z2 e3 z3 e4 z4 e5 z5 e6 z6
  obtain ⟨ps0, ps1, ps2, ps3, ps4, ps5, ps6⟩ := cells7 hob
  refine bodyPost_ret (v := .agg #[Value.int .i64 5, Value.int .i64 0, Value.string ⟨#[]⟩, Value.slice none 0 0, Value.slice none 0 0, Value.slice none 0 0, Value.slice none 0 0]) (by simp [results, Tryz.results53, go_sem, ps0, ps1, ps2, ps3, ps4, ps5, ps6]) rfl ?_
  exact ⟨⟨5, 0, [], rfl, by unfold LeafN; simp⟩, hfin⟩
 ·
  have hR := refTuple_nil w1
  have hl2 := hl1
  have HB2 := HA
  go_wp2_with fail
  refine hR.mono ?_
  rintro e w3 ⟨rfl, hb3⟩
  have HB : Hid (w3.heap[w.heap.size]? = some (.cells #[.int .i64 0, .int .i64 0, .string ⟨#[]⟩, .slice none 0 0, .slice none 0 0, .slice none 0 0, .slice none 0 0] 27 (0, 0)) ∧ SrcOk h p w3 ∧ Eff p w w3) := Lib.hid ⟨(hb3.block _ hl2).trans HB2.out.1, HB2.out.2.1.below hb3, HB2.out.2.2.trans (Eff.of_below hb3 (by omega))⟩
  clear hR hb3
  have k1 : w3.heap[w.heap.size]? = some (.cells #[.int .i64 0, .int .i64 0, .string ⟨#[]⟩, .slice none 0 0, .slice none 0 0, .slice none 0 0, .slice none 0 0] 27 (0, 0)) := HB.out.1
  obtain ⟨e0, e1, e2, e3, e4, e5, e6⟩ := cells7 k1
  obtain ⟨z0, z1, z2, z3, z4, z5, z6⟩ := frozen7 k1
  clear k1
  go_wp2
  obtain ⟨V, hV⟩ : ∃ V, V = (((((((w3.setCell ⟨w.heap.size, 0, none⟩ (Value.int .i64 6)).setCell ⟨w.heap.size, 1, none⟩ (Value.int .i64 0)).setCell ⟨w.heap.size, 2, none⟩ (Value.string ⟨#[]⟩)).setCell ⟨w.heap.size, 3, none⟩ (Value.slice none 0 0)).setCell ⟨w.heap.size, 4, none⟩ (Value.slice none 0 0)).setCell ⟨w.heap.size, 5, none⟩ (Value.slice none 0 0)).setCell ⟨w.heap.size, 6, none⟩ (Value.slice none 0 0)) := ⟨_, rfl⟩
  rw [← hV]
  have hob : V.heap[w.heap.size]? = some (.cells #[Value.int .i64 6, Value.int .i64 0, Value.string ⟨#[]⟩, Value.slice none 0 0, Value.slice none 0 0, Value.slice none 0 0, Value.slice none 0 0] 27 (0, 0)) := by rw [hV]; exact obj7 HB.out.1 (Value.int .i64 6) (Value.int .i64 0) (Value.string ⟨#[]⟩) (Value.slice none 0 0) (Value.slice none 0 0) (Value.slice none 0 0) (Value.slice none 0 0)
  have hfin : SrcOk h p V ∧ Eff p w V := by rw [hV]; exact src_set7 HB.out.2.1 HB.out.2.2 (Nat.le_refl _) hlp _ _ _ _ _ _ _
  clear hV e0 z0 e1 z1 e2 z2 e3 z3 e4 z4 e5 z5 e6 z6
  obtain ⟨ps0, ps1, ps2, ps3, ps4, ps5, ps6⟩ := cells7 hob
  refine bodyPost_ret (v := .agg #[Value.int .i64 6, Value.int .i64 0, Value.string ⟨#[]⟩, Value.slice none 0 0, Value.slice none 0 0, Value.slice none 0 0, Value.slice none 0 0]) (by simp [results, Tryz.results53, go_sem, ps0, ps1, ps2, ps3, ps4, ps5, ps6]) rfl ?_
  exact ⟨⟨6, 0, [], rfl, by unfold LeafN; simp⟩, hfin⟩
end Go.Proofs.YtcjgaohblaidjaaGreatDoor
