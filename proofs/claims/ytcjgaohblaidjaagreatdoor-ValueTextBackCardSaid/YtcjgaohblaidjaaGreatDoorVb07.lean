/- What the program's Compare returns: the order of P4.2. -/
import Derived.Test.YtcjgaohblaidjaaGreatDoorVb01
import Derived.Test.YtcjgaohblaidjaaGreatDoorVb02
import Derived.Test.YtcjgaohblaidjaaGreatDoorVb06
import Derived.Deep.LoopGhost
import Derived.Deep.CutRange
import Derived.Shelf.Bytes.WriteStringKept
import Derived.Lib.ItoaLen
import Derived.Lib.BufferOld
import Derived.RangeFuncNested
import Derived.RangeFuncBound
import Derived.RangeFuncCalls
import Derived.RangeFuncLeaves
import Derived.RangeFuncBox
import Derived.Shelf.Abstract
import Derived.Shelf.RegionOpen
import Derived.OwnWalkIn
import Derived.TacticsInMore
import Derived.RegionIn
import Derived.LoopNIn
import Derived.LoopIn
namespace Go.Proofs.YtcjgaohblaidjaaGreatDoor
open Go Go.RowKit
theorem share {G F : Prop} (h : F → G) (hF : F) : G := h hF
theorem kids_open {k : Nat} {w : World} {H : Nat} {a : Vl} {t0 t1 : Int} {t2 : ByteArray} {E1 : Option Addr} {n1 d1 : Nat} {u4 u5 u6 : Value} (h : VS (k + 1) w H a [.int .i64 t0, .int .i64 t1, .string t2, .slice E1 n1 d1, u4, u5, u6]) :
  (kidsV a).length = n1 ∧ n1 ≤ maxLen ∧ RowP w H 7 (.slice E1 n1 d1) n1 (fun j cs => ∃ x, (kidsV a)[j]? = some x ∧ VS k w H x cs) := by
 obtain ⟨kd, it, tx, kids, keys, ents, labs⟩ := a
 obtain ⟨uk, uy, ue, ul, hcs, _, _, _, hk, _, _, _⟩ := h
 simp only [List.cons.injEq, and_true] at hcs
 obtain ⟨_, _, _, rfl, _, _, _⟩ := hcs
 obtain ⟨A, c, hf, hl⟩ := hk.form
 injection hf with e1 e2 e3
 subst e1 e2 e3
 exact ⟨rfl, hl, hk⟩
theorem drew_heap (w : World) : w.drew.heap = w.heap := rfl
theorem oth7 (w : World) (g b : Nat) (hb : b ≠ g) (v0 v1 v2 v3 v4 v5 v6 : Value) : (((((((w.setCell ⟨g, 0, none⟩ v0).setCell ⟨g, 1, none⟩ v1).setCell ⟨g, 2, none⟩ v2).setCell ⟨g, 3, none⟩ v3).setCell ⟨g, 4, none⟩ v4).setCell ⟨g, 5, none⟩ v5).setCell ⟨g, 6, none⟩ v6).heap[b]? = w.heap[b]? :=
 (heap_setCell_other _ ⟨g, 6, none⟩ b v6 hb).trans ((heap_setCell_other _ ⟨g, 5, none⟩ b v5 hb).trans ((heap_setCell_other _ ⟨g, 4, none⟩ b v4 hb).trans ((heap_setCell_other _ ⟨g, 3, none⟩ b v3 hb).trans ((heap_setCell_other _ ⟨g, 2, none⟩ b v2 hb).trans ((heap_setCell_other _ ⟨g, 1, none⟩ b v1 hb).trans (heap_setCell_other _ ⟨g, 0, none⟩ b v0 hb))))))
theorem bel7 {w V : World} {H g : Nat} (h : Below H w V) (v0 v1 v2 v3 v4 v5 v6 : Value) (hg : H ≤ g := by omega) : Below H w (((((((V.setCell ⟨g, 0, none⟩ v0).setCell ⟨g, 1, none⟩ v1).setCell ⟨g, 2, none⟩ v2).setCell ⟨g, 3, none⟩ v3).setCell ⟨g, 4, none⟩ v4).setCell ⟨g, 5, none⟩ v5).setCell ⟨g, 6, none⟩ v6) :=
 Below.setCell (Below.setCell (Below.setCell (Below.setCell (Below.setCell (Below.setCell (Below.setCell h (p := ⟨g, 0, none⟩) hg _) (p := ⟨g, 1, none⟩) hg _) (p := ⟨g, 2, none⟩) hg _) (p := ⟨g, 3, none⟩) hg _) (p := ⟨g, 4, none⟩) hg _) (p := ⟨g, 5, none⟩) hg _) (p := ⟨g, 6, none⟩) hg _
set_option maxRecDepth 100000 in
set_option maxHeartbeats 6400000 in
theorem compareP_any : ∀ (k : Nat) (a b : Vl) (ca cb : List Value) (w : World), VS k w w.heap.size a ca → VS k w w.heap.size b cb → Calls Tryz.prog 170 #[.agg ca.toArray, .agg cb.toArray] w fun e w' => e = .returned (.int .i64 (cmpV a b)) ∧ Below w.heap.size w w' := by
 intro k
 induction k with
 | zero => intro a b ca cb w h; exact h.elim
 | succ k ih =>
  intro a b ca cb w h h'
  have IH := Lib.hid ih
  clear ih
  obtain ⟨t0, t1, t2, E1, n1, d1, E2, n2, d2, E3, n3, d3, E4, n4, d4, rfl⟩ := h.form7
  obtain ⟨t0', t1', t2', E1', n1', d1', E2', n2', d2', E3', n3', d3', E4', n4', d4', rfl⟩ := h'.form7
  obtain ⟨W, hW⟩ : ∃ W, W = (w.alloc (.cells #[.int .i64 t0, .int .i64 t1, .string t2, .slice E1 n1 d1, .slice E2 n2 d2, .slice E3 n3 d3, .slice E4 n4 d4] 27)).alloc (.cells #[.int .i64 t0', .int .i64 t1', .string t2', .slice E1' n1' d1', .slice E2' n2' d2', .slice E3' n3' d3', .slice E4' n4' d4'] 27) := ⟨_, rfl⟩
  have hb : Below w.heap.size w W := by rw [hW]; exact ((Below.refl _ _).alloc (Nat.le_refl _) _).alloc (by simp) _
  have hz : W.heap.size = w.heap.size + 2 := by rw [hW]; simp
  have k1 : W.heap[w.heap.size]? = some (.cells #[.int .i64 t0, .int .i64 t1, .string t2, .slice E1 n1 d1, .slice E2 n2 d2, .slice E3 n3 d3, .slice E4 n4 d4] 27 (0, 0)) := by
   rw [hW, Below.heap_alloc _ _ _ (by simp)]
   exact heap_alloc_new w _
  have k2 : W.heap[w.heap.size + 1]? = some (.cells #[.int .i64 t0', .int .i64 t1', .string t2', .slice E1' n1' d1', .slice E2' n2' d2', .slice E3' n3' d3', .slice E4' n4' d4'] 27 (0, 0)) := by
   rw [hW]
   exact new_at' _ (by simp)
  generalize hy : cmpV a b = y
  have HB := Lib.hid hb
  go_enter Tryz.func170, Tryz.ntmps170
  go_wp2_with fail
  rw [← hW]
  clear hW
  go_loopg [5] (k + 1) (fun q v wr => ∃ (bh : Int) (a b : Vl) (t0 t1 : Int) (t2 : ByteArray) (E1 : Option Addr) (n1 d1 : Nat) (E2 : Option Addr) (n2 d2 : Nat) (E3 : Option Addr) (n3 d3 : Nat) (E4 : Option Addr) (n4 d4 : Nat) (t0' t1' : Int) (t2' : ByteArray) (E1' : Option Addr) (n1' d1' : Nat) (E2' : Option Addr) (n2' d2' : Nat) (E3' : Option Addr) (n3' d3' : Nat) (E4' : Option Addr) (n4' d4' : Nat), v = .int .i64 bh ∧ q ≤ k + 1 ∧ wr.heap[w.heap.size]? = some (.cells #[.int .i64 t0, .int .i64 t1, .string t2, .slice E1 n1 d1, .slice E2 n2 d2, .slice E3 n3 d3, .slice E4 n4 d4] 27 (0, 0)) ∧ wr.heap[w.heap.size + 1]? = some (.cells #[.int .i64 t0', .int .i64 t1', .string t2', .slice E1' n1' d1', .slice E2' n2' d2', .slice E3' n3' d3', .slice E4' n4' d4'] 27 (0, 0)) ∧ VS q w w.heap.size a [.int .i64 t0, .int .i64 t1, .string t2, .slice E1 n1 d1, .slice E2 n2 d2, .slice E3 n3 d3, .slice E4 n4 d4] ∧ VS q w w.heap.size b [.int .i64 t0', .int .i64 t1', .string t2', .slice E1' n1' d1', .slice E2' n2' d2', .slice E3' n3' d3', .slice E4' n4' d4'] ∧ y = thn (cmpV a b) bh ∧ Below w.heap.size w wr ∧ w.heap.size + 2 ≤ wr.heap.size)
  case atStart => exact ⟨0, a, b, t0, t1, t2, E1, n1, d1, E2, n2, d2, E3, n3, d3, E4, n4, d4, t0', t1', t2', E1', n1', d1', E2', n2', d2', E3', n3', d3', E4', n4', d4', rfl, Nat.le_refl _, k1, k2, h, h', by rw [thn_zero_right]; exact hy.symm, hb, by omega⟩
  case round =>
   clear hy h h' k1 k2 hb hz HB
   obtain ⟨bh, a, b, t0, t1, t2, E1, n1, d1, E2, n2, d2, E3, n3, d3, E4, n4, d4, t0', t1', t2', E1', n1', d1', E2', n2', d2', E3', n3', d3', E4', n4', d4', rfl, hq, k1, k2, h, h', hy, hb, hz⟩ := hrel
   obtain ⟨q, rfl⟩ : ∃ q, gk = q + 1 := by
    cases gk with
    | zero => exact h.elim
    | succ q => exact ⟨q, rfl⟩
   have hF := front_any k IH a b _ _ wr (VS.up hb.size hq (VS.on hb h)) (VS.up hb.size hq (VS.on hb h'))
   have HG : Hid (∀ V, Below w.heap.size w V → Calls Tryz.prog 182 #[.agg #[.int .i64 t0, .int .i64 t1, .string t2, .slice E1 n1 d1, .slice E2 n2 d2, .slice E3 n3 d3, .slice E4 n4 d4], .agg #[.int .i64 t0', .int .i64 t1', .string t2', .slice E1' n1' d1', .slice E2' n2' d2', .slice E3' n3' d3', .slice E4' n4' d4']] V fun e w' => e = .returned (.int .i64 (tailV a b)) ∧ Below V.heap.size V w') := Lib.hid fun V hV => behind_any k IH a b _ _ V (VS.up hV.size hq (VS.on hV h)) (VS.up hV.size hq (VS.on hV h'))
   have HV := Lib.hid (And.intro h h')
   have HY := Lib.hid hy
   have HB := Lib.hid hb
   have HQ := Lib.hid hq
   have HFZ := Lib.hid (@cmpV_front_zero a b)
   have HFN := Lib.hid (@cmpV_front_ne a b)
   generalize frontV a b = z0 at hF HFZ HFN
   generalize tailV a b = z1 at HG HFZ
   clear h h' hy hq
   have K1 := Lib.hid k1
   have K2 := Lib.hid k2
   obtain ⟨q0, q1, q2, q3, q4, q5, q6⟩ := cells7 k1
   obtain ⟨r0, r1, r2, r3, r4, r5, r6⟩ := cells7 k2
   clear k1 k2 hb
   go_wp2_with (go_at_call 181; refine hF.mono ?_; rintro e w1 ⟨rfl, hb1⟩; refine Hid.out ?_)
   refine Lib.hid ?_
   have HB1 := Lib.hid (HB.out.trans (hb1.mono HB.out.size))
   have KA1 : Hid (w1.heap[w.heap.size]? = some (.cells #[.int .i64 t0, .int .i64 t1, .string t2, .slice E1 n1 d1, .slice E2 n2 d2, .slice E3 n3 d3, .slice E4 n4 d4] 27 (0, 0))) := Lib.hid ((hb1.block _ (by omega)).trans K1.out)
   have KB1 : Hid (w1.heap[w.heap.size + 1]? = some (.cells #[.int .i64 t0', .int .i64 t1', .string t2', .slice E1' n1' d1', .slice E2' n2' d2', .slice E3' n3' d3', .slice E4' n4' d4'] 27 (0, 0))) := Lib.hid ((hb1.block _ (by omega)).trans K2.out)
   have hz1 : w.heap.size + 2 ≤ w1.heap.size := by have := hb1.size; omega
   clear hb1 hF q0 q1 q2 q3 q4 q5 q6 r0 r1 r2 r3 r4 r5 r6 hz
   by_cases h0 : z0 = 0
   case neg =>
    have hq : (z0 != 0) = true := by rw [bne_iff_ne]; exact h0
    have HU : Hid (y = z0) := Lib.hid (by rw [HY.out, HFN.out h0]; exact thn_of h0 _)
    clear h0
    go_wp2
    go_ret
    exact ⟨ret_i HU.out.symm, HB1.out⟩
   subst h0
   have q0 : w1.cell? ⟨w.heap.size, 0, none⟩ = some (.int .i64 t0) := (Lib.cell_of_heap KA1.out 0).trans rfl
   have q1 : w1.cell? ⟨w.heap.size, 1, none⟩ = some (.int .i64 t1) := (Lib.cell_of_heap KA1.out 1).trans rfl
   have q2 : w1.cell? ⟨w.heap.size, 2, none⟩ = some (.string t2) := (Lib.cell_of_heap KA1.out 2).trans rfl
   have q3 : w1.cell? ⟨w.heap.size, 3, none⟩ = some (.slice E1 n1 d1) := (Lib.cell_of_heap KA1.out 3).trans rfl
   have q4 : w1.cell? ⟨w.heap.size, 4, none⟩ = some (.slice E2 n2 d2) := (Lib.cell_of_heap KA1.out 4).trans rfl
   have q5 : w1.cell? ⟨w.heap.size, 5, none⟩ = some (.slice E3 n3 d3) := (Lib.cell_of_heap KA1.out 5).trans rfl
   have q6 : w1.cell? ⟨w.heap.size, 6, none⟩ = some (.slice E4 n4 d4) := (Lib.cell_of_heap KA1.out 6).trans rfl
   have r0 : w1.cell? ⟨w.heap.size + 1, 0, none⟩ = some (.int .i64 t0') := (Lib.cell_of_heap KB1.out 0).trans rfl
   have r1 : w1.cell? ⟨w.heap.size + 1, 1, none⟩ = some (.int .i64 t1') := (Lib.cell_of_heap KB1.out 1).trans rfl
   have r2 : w1.cell? ⟨w.heap.size + 1, 2, none⟩ = some (.string t2') := (Lib.cell_of_heap KB1.out 2).trans rfl
   have r3 : w1.cell? ⟨w.heap.size + 1, 3, none⟩ = some (.slice E1' n1' d1') := (Lib.cell_of_heap KB1.out 3).trans rfl
   have r4 : w1.cell? ⟨w.heap.size + 1, 4, none⟩ = some (.slice E2' n2' d2') := (Lib.cell_of_heap KB1.out 4).trans rfl
   have r5 : w1.cell? ⟨w.heap.size + 1, 5, none⟩ = some (.slice E3' n3' d3') := (Lib.cell_of_heap KB1.out 5).trans rfl
   have r6 : w1.cell? ⟨w.heap.size + 1, 6, none⟩ = some (.slice E4' n4' d4') := (Lib.cell_of_heap KB1.out 6).trans rfl
   go_wp2_with (go_at_call 182; refine (HG.out _ HB1.out).mono ?_; rintro e w2 ⟨rfl, hb2⟩; refine Hid.out ?_)
   refine Lib.hid ?_
   have HB2 := Lib.hid (HB1.out.trans (hb2.mono HB1.out.size))
   have KA2 : Hid (w2.heap[w.heap.size]? = some (.cells #[.int .i64 t0, .int .i64 t1, .string t2, .slice E1 n1 d1, .slice E2 n2 d2, .slice E3 n3 d3, .slice E4 n4 d4] 27 (0, 0))) := Lib.hid ((hb2.block _ (by omega)).trans KA1.out)
   have KB2 : Hid (w2.heap[w.heap.size + 1]? = some (.cells #[.int .i64 t0', .int .i64 t1', .string t2', .slice E1' n1' d1', .slice E2' n2' d2', .slice E3' n3' d3', .slice E4' n4' d4'] 27 (0, 0))) := Lib.hid ((hb2.block _ (by omega)).trans KB1.out)
   have hz2 : w.heap.size + 2 ≤ w2.heap.size := by have := hb2.size; omega
   clear hb2 q0 q1 q2 q3 q4 q5 q6 r0 r1 r2 r3 r4 r5 r6 hz1
   obtain ⟨hnn, hF0, hF1⟩ := HFZ.out (by first | rfl | trivial)
   go_upto_if 19 with fail
   go_cut [5, 7] from 9 to 37 (fun b5 _b7 wc => ∃ bv : Int, b5 = .int .i64 bv ∧ wc = w2 ∧ bv = thn z1 bh)
   case first =>
    by_cases ht : z1 = 0
    ·
     have hq : (z1 != 0) = false := by rw [bne_eq_false_iff_eq]; exact ht
     have HT := Lib.hid ht
     clear ht
     go_wp2_with fail
     go_meet
     exact ⟨bh, rfl, rfl, by rw [HT.out]; rfl⟩
    ·
     have hq : (z1 != 0) = true := by rw [bne_iff_ne]; exact ht
     have HT := Lib.hid ht
     clear ht
     go_wp2_with fail
     go_meet
     exact ⟨z1, rfl, rfl, (thn_of HT.out _).symm⟩
   case rest =>
    obtain ⟨bv, rfl, hwc, hbv⟩ := hcut
    have hwc2 := hwc.symm
    subst hwc2
    have HBV := Lib.hid hbv
    clear hbv
    obtain ⟨hlA, hmA, hrA⟩ := kids_open HV.out.1
    obtain ⟨hlB, hmB, hrB⟩ := kids_open HV.out.2
    have hn12 : n1' = n1 := by omega
    subst hn12
    by_cases hn0 : n1' = 0
    ·
     subst hn0
     have hk0 : kidsV a = [] := List.eq_nil_of_length_eq_zero hlA
     have HZ : Hid (y = bv) := Lib.hid (by rw [HY.out, hF0 hk0, HBV.out])
     have hz0 : wrap64 (-1) = -1 := by unfold wrap64; omega
     clear hlA hmA hrA hlB hmB hrB hF0 hF1 hk0 hnn
     have q3 : w2.cell? ⟨w.heap.size, 3, none⟩ = some (.slice E1 (0 : Nat) d1) := (Lib.cell_of_heap KA2.out 3).trans rfl
     go_wp2
     go_ret
     exact ⟨ret_i HZ.out.symm, HB2.out⟩
    ·
     obtain ⟨m, hm⟩ : ∃ m, n1' = m + 1 := ⟨n1' - 1, by omega⟩
     obtain ⟨bx, ox, _, x0, x1, x2, x3, x4, x5, x6, hux, hbx, ⟨x, hx, hvx⟩, c0, c1, c2, c3, c4, c5, c6⟩ := RowB.at7 (j := m) hrA (by omega)
     obtain ⟨by', oy, _, y0, y1, y2, y3, y4, y5, y6, huy, hby, ⟨x', hx', hvx'⟩, d0, d1', d2', d3', d4', d5', d6'⟩ := RowB.at7 (j := m) hrB (by omega)
     injection hux with e1 _ _
     subst e1
     injection huy with e1 _ _
     subst e1
     obtain ⟨a0, a1, a2, P1, e1, f1, P2, e2, f2, P3, e3, f3, P4, e4, f4, hfx⟩ := hvx.form7
     simp only [List.cons.injEq, and_true] at hfx
     obtain ⟨rfl, rfl, rfl, rfl, rfl, rfl, rfl⟩ := hfx
     obtain ⟨b0, b1, b2, Q1, g1, h1, Q2, g2, h2, Q3, g3, h3, Q4, g4, h4, hfx⟩ := hvx'.form7
     simp only [List.cons.injEq, and_true] at hfx
     obtain ⟨rfl, rfl, rfl, rfl, rfl, rfl, rfl⟩ := hfx
     have HX : Hid (∀ V, Below w.heap.size w V → V.cell? ⟨bx, ox + m * 7, none⟩ = some (.int .i64 a0) ∧ V.cell? ⟨bx, ox + m * 7 + 1, none⟩ = some (.int .i64 a1) ∧ V.cell? ⟨bx, ox + m * 7 + 2, none⟩ = some (.string a2) ∧ V.cell? ⟨bx, ox + m * 7 + 3, none⟩ = some (.slice P1 e1 f1) ∧ V.cell? ⟨bx, ox + m * 7 + 4, none⟩ = some (.slice P2 e2 f2) ∧ V.cell? ⟨bx, ox + m * 7 + 5, none⟩ = some (.slice P3 e3 f3) ∧ V.cell? ⟨bx, ox + m * 7 + 6, none⟩ = some (.slice P4 e4 f4) ∧ V.cell? ⟨by', oy + m * 7, none⟩ = some (.int .i64 b0) ∧ V.cell? ⟨by', oy + m * 7 + 1, none⟩ = some (.int .i64 b1) ∧ V.cell? ⟨by', oy + m * 7 + 2, none⟩ = some (.string b2) ∧ V.cell? ⟨by', oy + m * 7 + 3, none⟩ = some (.slice Q1 g1 h1) ∧ V.cell? ⟨by', oy + m * 7 + 4, none⟩ = some (.slice Q2 g2 h2) ∧ V.cell? ⟨by', oy + m * 7 + 5, none⟩ = some (.slice Q3 g3 h3) ∧ V.cell? ⟨by', oy + m * 7 + 6, none⟩ = some (.slice Q4 g4 h4)) := Lib.hid fun V hV => ⟨(hV.cell (p := ⟨bx, _, none⟩) hbx).trans c0, (hV.cell (p := ⟨bx, _, none⟩) hbx).trans c1, (hV.cell (p := ⟨bx, _, none⟩) hbx).trans c2, (hV.cell (p := ⟨bx, _, none⟩) hbx).trans c3, (hV.cell (p := ⟨bx, _, none⟩) hbx).trans c4, (hV.cell (p := ⟨bx, _, none⟩) hbx).trans c5, (hV.cell (p := ⟨bx, _, none⟩) hbx).trans c6, (hV.cell (p := ⟨by', _, none⟩) hby).trans d0, (hV.cell (p := ⟨by', _, none⟩) hby).trans d1', (hV.cell (p := ⟨by', _, none⟩) hby).trans d2', (hV.cell (p := ⟨by', _, none⟩) hby).trans d3', (hV.cell (p := ⟨by', _, none⟩) hby).trans d4', (hV.cell (p := ⟨by', _, none⟩) hby).trans d5', (hV.cell (p := ⟨by', _, none⟩) hby).trans d6'⟩
     have HVX := Lib.hid (And.intro hvx hvx')
     have HZ : Hid (y = thn (cmpV x x') bv) := Lib.hid (by rw [HY.out, hF1 m x x' (hlA.trans hm) hx hx', thn_assoc, HBV.out])
     have hmm : (n1' : Int) - 1 = (m : Int) := by omega
     have hm1 : (m : Int) < (n1' : Int) := by omega
     have hm2 : decide ((m : Int) < 0) = false := by simp
     have hwm : wrap64 (m : Int) = (m : Int) := by unfold wrap64; unfold maxLen at hmA; omega
     clear hn0 hm hlA hmA hrA hlB hmB hrB hF0 hF1 hnn hbx hby hvx hvx' hx hx' c0 c1 c2 c3 c4 c5 c6 d0 d1' d2' d3' d4' d5' d6'
     have hX := HX.out _ HB2.out.drew
     have k1 := KA2.out
     have k2 := KB2.out
     obtain ⟨q0, q1, q2, q3, q4, q5, q6⟩ := cells7 k1
     obtain ⟨zq0, zq1, zq2, zq3, zq4, zq5, zq6⟩ := frozen7 k1
     have r3 : w2.cell? ⟨w.heap.size + 1, 3, none⟩ = some (.slice (some ⟨by', oy, none⟩) n1' d1') := (Lib.cell_of_heap k2 3).trans rfl
     obtain ⟨V1, hV1⟩ : ∃ V, V = (((((((w2.setCell ⟨w.heap.size, 0, none⟩ (.int .i64 a0)).setCell ⟨w.heap.size, 1, none⟩ (.int .i64 a1)).setCell ⟨w.heap.size, 2, none⟩ (.string a2)).setCell ⟨w.heap.size, 3, none⟩ (.slice P1 e1 f1)).setCell ⟨w.heap.size, 4, none⟩ (.slice P2 e2 f2)).setCell ⟨w.heap.size, 5, none⟩ (.slice P3 e3 f3)).setCell ⟨w.heap.size, 6, none⟩ (.slice P4 e4 f4)).drew := ⟨_, rfl⟩
     have ho1 : V1.heap[w.heap.size]? = some (.cells #[.int .i64 a0, .int .i64 a1, .string a2, .slice P1 e1 f1, .slice P2 e2 f2, .slice P3 e3 f3, .slice P4 e4 f4] 27 (0, 0)) := by rw [hV1, drew_heap]; exact obj7 k1 (.int .i64 a0) (.int .i64 a1) (.string a2) (.slice P1 e1 f1) (.slice P2 e2 f2) (.slice P3 e3 f3) (.slice P4 e4 f4)
     have ho2 : V1.heap[w.heap.size + 1]? = some (.cells #[.int .i64 t0', .int .i64 t1', .string t2', .slice (some ⟨by', oy, none⟩) n1' d1', .slice E2' n2' d2', .slice E3' n3' d3', .slice E4' n4' d4'] 27 (0, 0)) := by rw [hV1, drew_heap]; exact (oth7 w2 w.heap.size (w.heap.size + 1) (by omega) (.int .i64 a0) (.int .i64 a1) (.string a2) (.slice P1 e1 f1) (.slice P2 e2 f2) (.slice P3 e3 f3) (.slice P4 e4 f4)).trans k2
     have hbV1 : Below w.heap.size w V1 := by rw [hV1]; exact (bel7 HB2.out (.int .i64 a0) (.int .i64 a1) (.string a2) (.slice P1 e1 f1) (.slice P2 e2 f2) (.slice P3 e3 f3) (.slice P4 e4 f4)).drew
     have hzV1 : V1.heap.size = w2.heap.size := by rw [hV1]; simp
     obtain ⟨V2, hV2⟩ : ∃ V, V = (((((((V1.setCell ⟨w.heap.size + 1, 0, none⟩ (.int .i64 b0)).setCell ⟨w.heap.size + 1, 1, none⟩ (.int .i64 b1)).setCell ⟨w.heap.size + 1, 2, none⟩ (.string b2)).setCell ⟨w.heap.size + 1, 3, none⟩ (.slice Q1 g1 h1)).setCell ⟨w.heap.size + 1, 4, none⟩ (.slice Q2 g2 h2)).setCell ⟨w.heap.size + 1, 5, none⟩ (.slice Q3 g3 h3)).setCell ⟨w.heap.size + 1, 6, none⟩ (.slice Q4 g4 h4)) := ⟨_, rfl⟩
     have ho4 : V2.heap[w.heap.size + 1]? = some (.cells #[.int .i64 b0, .int .i64 b1, .string b2, .slice Q1 g1 h1, .slice Q2 g2 h2, .slice Q3 g3 h3, .slice Q4 g4 h4] 27 (0, 0)) := by rw [hV2]; exact obj7 ho2 (.int .i64 b0) (.int .i64 b1) (.string b2) (.slice Q1 g1 h1) (.slice Q2 g2 h2) (.slice Q3 g3 h3) (.slice Q4 g4 h4)
     have ho3 : V2.heap[w.heap.size]? = some (.cells #[.int .i64 a0, .int .i64 a1, .string a2, .slice P1 e1 f1, .slice P2 e2 f2, .slice P3 e3 f3, .slice P4 e4 f4] 27 (0, 0)) := by rw [hV2]; exact (oth7 V1 (w.heap.size + 1) w.heap.size (by omega) (.int .i64 b0) (.int .i64 b1) (.string b2) (.slice Q1 g1 h1) (.slice Q2 g2 h2) (.slice Q3 g3 h3) (.slice Q4 g4 h4)).trans ho1
     have hbV2 : Below w.heap.size w V2 := by rw [hV2]; exact bel7 (H := w.heap.size) (g := w.heap.size + 1) (hg := by omega) hbV1 (.int .i64 b0) (.int .i64 b1) (.string b2) (.slice Q1 g1 h1) (.slice Q2 g2 h2) (.slice Q3 g3 h3) (.slice Q4 g4 h4)
     have hzV2 : w.heap.size + 2 ≤ V2.heap.size := by have h9 : V2.heap.size = w2.heap.size := (by rw [hV2, ← hzV1]; simp); omega
     obtain ⟨s0, s1, s2, s3, s4, s5, s6⟩ := cells7 ho2
     obtain ⟨zs0, zs1, zs2, zs3, zs4, zs5, zs6⟩ := frozen7 ho2
     have hX1 := HX.out V1 hbV1
     have hX2 := HX.out V2 hbV2
     have HFI := Lib.hid (And.intro ho3 (And.intro ho4 (And.intro hbV2 hzV2)))
     have HV1 := Lib.hid hV1
     have HV2 := Lib.hid hV2
     clear hV1 hV2 ho1 ho2 ho3 ho4 hbV1 hbV2 hzV1 hzV2 k1 k2 hz2
     go_wp2_with fail
     apply share
     case h =>
      intro hfin
      refine wp_region_held_drew (S := fun V => V.cell? ⟨bx, ox + m * 7, none⟩ = some (.int .i64 a0) ∧ V.cell? ⟨bx, ox + m * 7 + 1, none⟩ = some (.int .i64 a1) ∧ V.cell? ⟨bx, ox + m * 7 + 2, none⟩ = some (.string a2) ∧ V.cell? ⟨bx, ox + m * 7 + 3, none⟩ = some (.slice P1 e1 f1) ∧ V.cell? ⟨bx, ox + m * 7 + 4, none⟩ = some (.slice P2 e2 f2) ∧ V.cell? ⟨bx, ox + m * 7 + 5, none⟩ = some (.slice P3 e3 f3) ∧ V.cell? ⟨bx, ox + m * 7 + 6, none⟩ = some (.slice P4 e4 f4) ∧ V.cell? ⟨by', oy + m * 7, none⟩ = some (.int .i64 b0) ∧ V.cell? ⟨by', oy + m * 7 + 1, none⟩ = some (.int .i64 b1) ∧ V.cell? ⟨by', oy + m * 7 + 2, none⟩ = some (.string b2) ∧ V.cell? ⟨by', oy + m * 7 + 3, none⟩ = some (.slice Q1 g1 h1) ∧ V.cell? ⟨by', oy + m * 7 + 4, none⟩ = some (.slice Q2 g2 h2) ∧ V.cell? ⟨by', oy + m * 7 + 5, none⟩ = some (.slice Q3 g3 h3) ∧ V.cell? ⟨by', oy + m * 7 + 6, none⟩ = some (.slice Q4 g4 h4)) (by kernel_rfl) hX (fun hHeld => ?_)
      refine tk 0 hHeld ?_
      try simp only [Act.put, pA, pB, pC]
      refine tk 2 hHeld ?_
      try simp only [Act.put, pA, pB, pC]
      refine tk 5 hHeld ?_
      try simp only [Act.put, pA, pB, pC]
      refine tk 7 hHeld ?_
      try simp only [Act.put, pA, pB, pC]
      refine wpAnyH_all (rs := [1, 6]) (by kernel_rfl) (by simp) fun j hj => ?_
      have hj2 : j = 1 ∨ j = 6 := by simpa using hj
      clear hj
      rcases hj2 with rfl | rfl
      ·
       refine step_op rfl (by rfl) (fun K hK => ?_)
       go_simp
       refine hK _ _ ⟨hX, ?_⟩
       try simp only [Act.put, pA, pB, pC]
       refine tk 3 hX ?_
       try simp only [Act.put, pA, pB, pC]
       refine tk 4 hX ?_
       try simp only [Act.put, pA, pB, pC]
       refine wpAnyH_all (rs := [6, 10]) (by kernel_rfl) (by simp) fun j hj => ?_
       have hj2 : j = 6 ∨ j = 10 := by simpa using hj
       clear hj
       rcases hj2 with rfl | rfl
       ·
        refine step_op rfl (by rfl) (fun K hK => ?_)
        go_simp
        refine hK _ _ ⟨hX, ?_⟩
        try simp only [Act.put, pA, pB, pC]
        refine tk 8 hX ?_
        try simp only [Act.put, pA, pB, pC]
        refine tk 9 hX ?_
        try simp only [Act.put, pA, pB, pC]
        refine one_op 10 (by kernel_rfl) rfl (by rfl) (fun K hK => ?_)
        go_simp
        rw [← HV1.out]
        refine hK _ _ hX1 ?_
        try simp only [Act.put, pA, pB, pC]
        refine one_op 11 (by kernel_rfl) rfl (by rfl) (fun K hK => ?_)
        go_simp
        rw [← HV2.out]
        refine hK _ _ hX2 ?_
        try simp only [Act.put, pA, pB, pC]
        refine wpAnyH_done (by kernel_rfl) ?_ _
        exact hfin
       ·
        refine step_op rfl (by rfl) (fun K hK => ?_)
        go_simp
        rw [← HV1.out]
        refine hK _ _ ⟨hX1, ?_⟩
        try simp only [Act.put, pA, pB, pC]
        refine one_op 6 (by kernel_rfl) rfl (by rfl) (fun K hK => ?_)
        go_simp
        refine hK _ _ hX1 ?_
        try simp only [Act.put, pA, pB, pC]
        refine tk 8 hX1 ?_
        try simp only [Act.put, pA, pB, pC]
        refine tk 9 hX1 ?_
        try simp only [Act.put, pA, pB, pC]
        refine one_op 11 (by kernel_rfl) rfl (by rfl) (fun K hK => ?_)
        go_simp
        rw [← HV2.out]
        refine hK _ _ hX2 ?_
        try simp only [Act.put, pA, pB, pC]
        refine wpAnyH_done (by kernel_rfl) ?_ _
        exact hfin
      ·
       refine step_op rfl (by rfl) (fun K hK => ?_)
       go_simp
       refine hK _ _ ⟨hX, ?_⟩
       try simp only [Act.put, pA, pB, pC]
       refine tk 8 hX ?_
       try simp only [Act.put, pA, pB, pC]
       refine tk 9 hX ?_
       try simp only [Act.put, pA, pB, pC]
       refine one_op 1 (by kernel_rfl) rfl (by rfl) (fun K hK => ?_)
       go_simp
       refine hK _ _ hX ?_
       try simp only [Act.put, pA, pB, pC]
       refine tk 3 hX ?_
       try simp only [Act.put, pA, pB, pC]
       refine tk 4 hX ?_
       try simp only [Act.put, pA, pB, pC]
       refine one_op 10 (by kernel_rfl) rfl (by rfl) (fun K hK => ?_)
       go_simp
       rw [← HV1.out]
       refine hK _ _ hX1 ?_
       try simp only [Act.put, pA, pB, pC]
       refine one_op 11 (by kernel_rfl) rfl (by rfl) (fun K hK => ?_)
       go_simp
       rw [← HV2.out]
       refine hK _ _ hX2 ?_
       try simp only [Act.put, pA, pB, pC]
       refine wpAnyH_done (by kernel_rfl) ?_ _
       exact hfin
     case hF =>
      go_wp2_with fail
      go_roundg q
      case measure => omega
      case rel =>
       obtain ⟨ho3, ho4, hbV2, hzV2⟩ := HFI.out
       exact ⟨bv, x, x', a0, a1, a2, P1, e1, f1, P2, e2, f2, P3, e3, f3, P4, e4, f4, b0, b1, b2, Q1, g1, h1, Q2, g2, h2, Q3, g3, h3, Q4, g4, h4, rfl, by have := HQ.out; omega, ho3, ho4, HVX.out.1, HVX.out.2, HZ.out, hbV2, hzV2⟩
end Go.Proofs.YtcjgaohblaidjaaGreatDoor
namespace Go.Proofs.YtcjgaohblaidjaaGreatDoor
open Go Go.RowKit
set_option maxRecDepth 100000 in
set_option maxHeartbeats 1600000 in
theorem all7 (k : Nat) (F : Nat) (eg : ∀ args w, (callFunc F args).run Tryz.prog w = .ok (.enter F args) w) (p : Vl → Bool) (A : Option Addr) (c : Nat) (l : List (Vl)) (w : World)
  (hF : Hid (∀ (v : Vl) (cs : List Value) (V : World), Below w.heap.size w V → VS k V V.heap.size v cs → Calls Tryz.prog F #[.agg cs.toArray] V fun e w' => e = .returned (.bool (p v)) ∧ Below V.heap.size V w')) (hl : RowP w w.heap.size 7 (.slice A l.length c) l.length (fun j cs => ∃ x, l[j]? = some x ∧ VS k w w.heap.size x cs)) :
  Calls Tryz.prog 67 #[.slice A l.length c, .func (.func F) #[] #[]] w fun e w' => e = .returned (.bool (l.all p)) ∧ Below w.heap.size w w' := by
 obtain ⟨_, _, _, hln⟩ := hl.form
 unfold maxLen at hln
 have HL := Lib.hid hl
 clear hl
 generalize hrr : l.all p = r
 have HR := Lib.hid hrr
 clear hrr
 go_enter Tryz.func67, Tryz.ntmps67
 go_wp2_with fail
 go_loopw [6, 9] (fun _ i wr => ∃ j : Nat, i = .int .i64 j ∧ j ≤ l.length ∧ Hid ((l.take j).all p = true) ∧ Below w.heap.size w wr) (fun _ i _ => l.length - (intOf i).toNat)
 case atStart => exact ⟨0, rfl, by omega, Lib.hid (by simp), Below.refl _ _⟩
 case round =>
  obtain ⟨j, rfl, hj, h0, hb⟩ := hrel
  by_cases hjn : j < l.length
  ·
   obtain ⟨b, off, cap0, x0, x1, x2, x3, x4, x5, x6, hu, hbH, ⟨x, hx, hv⟩, c0, c1, c2, c3, c4, c5, c6⟩ := (HL.out.on hb (fun _ _ h => h)).at7 hjn
   injection hu with hA _ hcap
   subst hA hcap
   obtain ⟨a, i, s, B1, n1, d1, B2, n2, d2, B3, n3, d3, B4, n4, d4, hf⟩ := hv.form7
   simp only [List.cons.injEq, and_true] at hf
   obtain ⟨rfl, rfl, rfl, rfl, rfl, rfl, rfl⟩ := hf
   have kn : (j : Int) < (l.length : Int) := by omega
   have k0 : (0 : Int) ≤ (j : Int) := by omega
   have HS : Hid (l.take (j + 1) = l.take j ++ [x]) := Lib.hid (by rw [List.take_add_one, hx]; rfl)
   have HM : Hid (x ∈ l) := Lib.hid (List.mem_of_getElem? hx)
   have HB := Lib.hid hb
   have HVX := Lib.hid hv
   clear hx hb hv
   go_wp2_with fail
   rename World => U
   obtain ⟨W2, hW2⟩ : ∃ W2, W2 = U.alloc (.cells #[.int .i64 a, .int .i64 i, .string s, .slice B1 n1 d1, .slice B2 n2 d2, .slice B3 n3 d3, .slice B4 n4 d4] 27) := ⟨_, rfl⟩
   have hb2 : Below U.heap.size U W2 := by rw [hW2]; exact (Below.refl _ _).alloc (Nat.le_refl _) _
   have q0 : W2.cell? ⟨U.heap.size, 0, none⟩ = some (.int .i64 a) := by rw [hW2]; simp
   have q1 : W2.cell? ⟨U.heap.size, 1, none⟩ = some (.int .i64 i) := by rw [hW2]; simp
   have q2 : W2.cell? ⟨U.heap.size, 2, none⟩ = some (.string s) := by rw [hW2]; simp
   have q3 : W2.cell? ⟨U.heap.size, 3, none⟩ = some (.slice B1 n1 d1) := by rw [hW2]; simp
   have q4 : W2.cell? ⟨U.heap.size, 4, none⟩ = some (.slice B2 n2 d2) := by rw [hW2]; simp
   have q5 : W2.cell? ⟨U.heap.size, 5, none⟩ = some (.slice B3 n3 d3) := by rw [hW2]; simp
   have q6 : W2.cell? ⟨U.heap.size, 6, none⟩ = some (.slice B4 n4 d4) := by rw [hW2]; simp
   have hbw := HB.out.trans (hb2.mono HB.out.size)
   have hc := hF.out x _ W2 hbw (VS.up hbw.size (Nat.le_refl _) (VS.on hbw HVX.out))
   have HBW := Lib.hid hbw
   rw [← hW2]
   clear hW2 hb2 hbw c0 c1 c2 c3 c4 c5 c6
   go_wp2_with fail
   generalize hpx : p x = z at hc
   have HP := Lib.hid hpx
   clear hpx
   refine hc.mono ?_
   rintro e w1 ⟨rfl, hb1⟩
   clear hc
   cases z
   ·
    have HU : Hid (r = false) := Lib.hid (by rw [← HR.out, List.all_eq_false]; exact ⟨x, HM.out, by rw [HP.out]; simp⟩)
    go_wp2
    go_ret
    exact ⟨ret_bool HU.out.symm, HBW.out.trans (hb1.mono HBW.out.size)⟩
   ·
    go_wp2
    go_roundw
    case rel => exact ⟨j + 1, by go_num, by omega, Lib.hid (by rw [HS.out, List.all_append, h0.out]; simp [HP.out]), HBW.out.trans (hb1.mono HBW.out.size)⟩
    case measure => simp [intOf]; omega
  ·
   have hke : l.take j = l := List.take_of_length_le (by omega)
   have HZ : Hid (r = true) := Lib.hid (by rw [← HR.out, ← h0.out, hke])
   clear hke
   go_wp2
   go_ret
   exact ⟨ret_bool HZ.out.symm, hb⟩
set_option maxRecDepth 100000 in
set_option maxHeartbeats 1600000 in
theorem all9 (k : Nat) (F : Nat) (eg : ∀ args w, (callFunc F args).run Tryz.prog w = .ok (.enter F args) w) (p : En → Bool) (A : Option Addr) (c : Nat) (l : List (En)) (w : World)
  (hF : Hid (∀ (v : En) (cs : List Value) (V : World), Below w.heap.size w V → ES k V V.heap.size v cs → Calls Tryz.prog F #[.agg cs.toArray] V fun e w' => e = .returned (.bool (p v)) ∧ Below V.heap.size V w')) (hl : RowP w w.heap.size 9 (.slice A l.length c) l.length (fun j cs => ∃ x, l[j]? = some x ∧ ES k w w.heap.size x cs)) :
  Calls Tryz.prog 65 #[.slice A l.length c, .func (.func F) #[] #[]] w fun e w' => e = .returned (.bool (l.all p)) ∧ Below w.heap.size w w' := by
 obtain ⟨_, _, _, hln⟩ := hl.form
 unfold maxLen at hln
 have HL := Lib.hid hl
 clear hl
 generalize hrr : l.all p = r
 have HR := Lib.hid hrr
 clear hrr
 go_enter Tryz.func65, Tryz.ntmps65
 go_wp2_with fail
 go_loopw [6, 9] (fun _ i wr => ∃ j : Nat, i = .int .i64 j ∧ j ≤ l.length ∧ Hid ((l.take j).all p = true) ∧ Below w.heap.size w wr) (fun _ i _ => l.length - (intOf i).toNat)
 case atStart => exact ⟨0, rfl, by omega, Lib.hid (by simp), Below.refl _ _⟩
 case round =>
  obtain ⟨j, rfl, hj, h0, hb⟩ := hrel
  by_cases hjn : j < l.length
  ·
   obtain ⟨b, off, cap0, x0, x1, x2, x3, x4, x5, x6, x7, x8, hu, hbH, ⟨x, hx, hv⟩, c0, c1, c2, c3, c4, c5, c6, c7, c8⟩ := (HL.out.on hb (fun _ _ h => h)).at9 hjn
   injection hu with hA _ hcap
   subst hA hcap
   obtain ⟨B0, n0, d0, f, a, i, s, B1, n1, d1, B2, n2, d2, B3, n3, d3, B4, n4, d4, hf⟩ := hv.form9
   simp only [List.cons.injEq, and_true] at hf
   obtain ⟨rfl, rfl, rfl, rfl, rfl, rfl, rfl, rfl, rfl⟩ := hf
   have kn : (j : Int) < (l.length : Int) := by omega
   have k0 : (0 : Int) ≤ (j : Int) := by omega
   have HS : Hid (l.take (j + 1) = l.take j ++ [x]) := Lib.hid (by rw [List.take_add_one, hx]; rfl)
   have HM : Hid (x ∈ l) := Lib.hid (List.mem_of_getElem? hx)
   have HB := Lib.hid hb
   have HVX := Lib.hid hv
   clear hx hb hv
   go_wp2_with fail
   rename World => U
   obtain ⟨W2, hW2⟩ : ∃ W2, W2 = U.alloc (.cells #[.slice B0 n0 d0, .bool f, .int .i64 a, .int .i64 i, .string s, .slice B1 n1 d1, .slice B2 n2 d2, .slice B3 n3 d3, .slice B4 n4 d4] 45) := ⟨_, rfl⟩
   have hb2 : Below U.heap.size U W2 := by rw [hW2]; exact (Below.refl _ _).alloc (Nat.le_refl _) _
   have q0 : W2.cell? ⟨U.heap.size, 0, none⟩ = some (.slice B0 n0 d0) := by rw [hW2]; simp
   have q1 : W2.cell? ⟨U.heap.size, 1, none⟩ = some (.bool f) := by rw [hW2]; simp
   have q2 : W2.cell? ⟨U.heap.size, 2, none⟩ = some (.int .i64 a) := by rw [hW2]; simp
   have q3 : W2.cell? ⟨U.heap.size, 3, none⟩ = some (.int .i64 i) := by rw [hW2]; simp
   have q4 : W2.cell? ⟨U.heap.size, 4, none⟩ = some (.string s) := by rw [hW2]; simp
   have q5 : W2.cell? ⟨U.heap.size, 5, none⟩ = some (.slice B1 n1 d1) := by rw [hW2]; simp
   have q6 : W2.cell? ⟨U.heap.size, 6, none⟩ = some (.slice B2 n2 d2) := by rw [hW2]; simp
   have q7 : W2.cell? ⟨U.heap.size, 7, none⟩ = some (.slice B3 n3 d3) := by rw [hW2]; simp
   have q8 : W2.cell? ⟨U.heap.size, 8, none⟩ = some (.slice B4 n4 d4) := by rw [hW2]; simp
   have hbw := HB.out.trans (hb2.mono HB.out.size)
   have hc := hF.out x _ W2 hbw (ES.up hbw.size (Nat.le_refl _) (ES.on hbw HVX.out))
   have HBW := Lib.hid hbw
   rw [← hW2]
   clear hW2 hb2 hbw c0 c1 c2 c3 c4 c5 c6 c7 c8
   go_wp2_with fail
   generalize hpx : p x = z at hc
   have HP := Lib.hid hpx
   clear hpx
   refine hc.mono ?_
   rintro e w1 ⟨rfl, hb1⟩
   clear hc
   cases z
   ·
    have HU : Hid (r = false) := Lib.hid (by rw [← HR.out, List.all_eq_false]; exact ⟨x, HM.out, by rw [HP.out]; simp⟩)
    go_wp2
    go_ret
    exact ⟨ret_bool HU.out.symm, HBW.out.trans (hb1.mono HBW.out.size)⟩
   ·
    go_wp2
    go_roundw
    case rel => exact ⟨j + 1, by go_num, by omega, Lib.hid (by rw [HS.out, List.all_append, h0.out]; simp [HP.out]), HBW.out.trans (hb1.mono HBW.out.size)⟩
    case measure => simp [intOf]; omega
  ·
   have hke : l.take j = l := List.take_of_length_le (by omega)
   have HZ : Hid (r = true) := Lib.hid (by rw [← HR.out, ← h0.out, hke])
   clear hke
   go_wp2
   go_ret
   exact ⟨ret_bool HZ.out.symm, hb⟩
set_option maxRecDepth 100000 in
set_option maxHeartbeats 1600000 in
theorem all2 (F : Nat) (eg : ∀ args w, (callFunc F args).run Tryz.prog w = .ok (.enter F args) w) (p : (Int × List UInt8) → Bool) (A : Option Addr) (c : Nat) (l : List (Int × List UInt8)) (w : World)
  (hF : Hid (∀ (x : Int × List UInt8) (V : World), (Lit.int .i64 x.1).wf = true ∧ x.2.length ≤ maxLen → Calls Tryz.prog F #[.agg #[.int .i64 x.1, .string ⟨x.2.toArray⟩]] V fun e w' => e = .returned (.bool (p x)) ∧ Below V.heap.size V w')) (hl : RowP w w.heap.size 2 (.slice A l.length c) l.length (fun j cs => ∃ x, l[j]? = some x ∧ cs = [.int .i64 x.1, .string ⟨x.2.toArray⟩] ∧ (Lit.int .i64 x.1).wf = true ∧ x.2.length ≤ maxLen)) :
  Calls Tryz.prog 143 #[.slice A l.length c, .func (.func F) #[] #[]] w fun e w' => e = .returned (.bool (l.all p)) ∧ Below w.heap.size w w' := by
 obtain ⟨_, _, _, hln⟩ := hl.form
 unfold maxLen at hln
 have HL := Lib.hid hl
 clear hl
 generalize hrr : l.all p = r
 have HR := Lib.hid hrr
 clear hrr
 go_enter Tryz.func143, Tryz.ntmps143
 go_wp2_with fail
 go_loopw [6, 9] (fun _ i wr => ∃ j : Nat, i = .int .i64 j ∧ j ≤ l.length ∧ Hid ((l.take j).all p = true) ∧ Below w.heap.size w wr) (fun _ i _ => l.length - (intOf i).toNat)
 case atStart => exact ⟨0, rfl, by omega, Lib.hid (by simp), Below.refl _ _⟩
 case round =>
  obtain ⟨j, rfl, hj, h0, hb⟩ := hrel
  by_cases hjn : j < l.length
  ·
   obtain ⟨b, off, cap0, x0, x1, hu, hbH, ⟨x, hx, hv⟩, c0, c1⟩ := (HL.out.on hb (fun _ _ h => h)).at2 hjn
   injection hu with hA _ hcap
   subst hA hcap
   obtain ⟨hf, hok⟩ := hv
   simp only [List.cons.injEq, and_true] at hf
   obtain ⟨rfl, rfl⟩ := hf
   have kn : (j : Int) < (l.length : Int) := by omega
   have k0 : (0 : Int) ≤ (j : Int) := by omega
   have HS : Hid (l.take (j + 1) = l.take j ++ [x]) := Lib.hid (by rw [List.take_add_one, hx]; rfl)
   have HM : Hid (x ∈ l) := Lib.hid (List.mem_of_getElem? hx)
   have HB := Lib.hid hb
   have HOK := Lib.hid hok
   clear hx hb hok
   go_wp2_with fail
   rename World => U
   obtain ⟨W2, hW2⟩ : ∃ W2, W2 = U.alloc (.cells #[.int .i64 x.1, .string ⟨x.2.toArray⟩] 80) := ⟨_, rfl⟩
   have hb2 : Below U.heap.size U W2 := by rw [hW2]; exact (Below.refl _ _).alloc (Nat.le_refl _) _
   have q0 : W2.cell? ⟨U.heap.size, 0, none⟩ = some (.int .i64 x.1) := by rw [hW2]; simp
   have q1 : W2.cell? ⟨U.heap.size, 1, none⟩ = some (.string ⟨x.2.toArray⟩) := by rw [hW2]; simp
   have hbw := HB.out.trans (hb2.mono HB.out.size)
   have hc := hF.out x W2 HOK.out
   have HBW := Lib.hid hbw
   rw [← hW2]
   clear hW2 hb2 hbw c0 c1
   go_wp2_with fail
   generalize hpx : p x = z at hc
   have HP := Lib.hid hpx
   clear hpx
   refine hc.mono ?_
   rintro e w1 ⟨rfl, hb1⟩
   clear hc
   cases z
   ·
    have HU : Hid (r = false) := Lib.hid (by rw [← HR.out, List.all_eq_false]; exact ⟨x, HM.out, by rw [HP.out]; simp⟩)
    go_wp2
    go_ret
    exact ⟨ret_bool HU.out.symm, HBW.out.trans (hb1.mono HBW.out.size)⟩
   ·
    go_wp2
    go_roundw
    case rel => exact ⟨j + 1, by go_num, by omega, Lib.hid (by rw [HS.out, List.all_append, h0.out]; simp [HP.out]), HBW.out.trans (hb1.mono HBW.out.size)⟩
    case measure => simp [intOf]; omega
  ·
   have hke : l.take j = l := List.take_of_length_le (by omega)
   have HZ : Hid (r = true) := Lib.hid (by rw [← HR.out, ← h0.out, hke])
   clear hke
   go_wp2
   go_ret
   exact ⟨ret_bool HZ.out.symm, hb⟩
set_option maxRecDepth 100000 in
set_option maxHeartbeats 1600000 in
theorem all1 (F : Nat) (eg : ∀ args w, (callFunc F args).run Tryz.prog w = .ok (.enter F args) w) (p : (List UInt8) → Bool) (A : Option Addr) (c : Nat) (l : List (List UInt8)) (w : World)
  (hF : Hid (∀ (x : List UInt8) (V : World), x.length ≤ maxLen → Calls Tryz.prog F #[.string ⟨x.toArray⟩] V fun e w' => e = .returned (.bool (p x)) ∧ Below V.heap.size V w')) (hl : RowP w w.heap.size 1 (.slice A l.length c) l.length (fun j cs => ∃ x, l[j]? = some x ∧ cs = [.string ⟨x.toArray⟩] ∧ x.length ≤ maxLen)) :
  Calls Tryz.prog 110 #[.slice A l.length c, .func (.func F) #[] #[]] w fun e w' => e = .returned (.bool (l.all p)) ∧ Below w.heap.size w w' := by
 obtain ⟨_, _, _, hln⟩ := hl.form
 unfold maxLen at hln
 have HL := Lib.hid hl
 clear hl
 generalize hrr : l.all p = r
 have HR := Lib.hid hrr
 clear hrr
 go_enter Tryz.func110, Tryz.ntmps110
 go_wp2_with fail
 go_loopw [6, 9] (fun _ i wr => ∃ j : Nat, i = .int .i64 j ∧ j ≤ l.length ∧ Hid ((l.take j).all p = true) ∧ Below w.heap.size w wr) (fun _ i _ => l.length - (intOf i).toNat)
 case atStart => exact ⟨0, rfl, by omega, Lib.hid (by simp), Below.refl _ _⟩
 case round =>
  obtain ⟨j, rfl, hj, h0, hb⟩ := hrel
  by_cases hjn : j < l.length
  ·
   obtain ⟨b, off, cap0, x0, hu, hbH, ⟨x, hx, hv⟩, c0⟩ := (HL.out.on hb (fun _ _ h => h)).at1 hjn
   injection hu with hA _ hcap
   subst hA hcap
   obtain ⟨hf, hok⟩ := hv
   simp only [List.cons.injEq, and_true] at hf
   obtain rfl := hf
   have kn : (j : Int) < (l.length : Int) := by omega
   have k0 : (0 : Int) ≤ (j : Int) := by omega
   have HS : Hid (l.take (j + 1) = l.take j ++ [x]) := Lib.hid (by rw [List.take_add_one, hx]; rfl)
   have HM : Hid (x ∈ l) := Lib.hid (List.mem_of_getElem? hx)
   have HB := Lib.hid hb
   have HOK := Lib.hid hok
   clear hx hb hok
   go_wp2_with fail
   have hc := hF.out x wr HOK.out
   have HBW := HB
   generalize hpx : p x = z at hc
   have HP := Lib.hid hpx
   clear hpx
   refine hc.mono ?_
   rintro e w1 ⟨rfl, hb1⟩
   clear hc
   cases z
   ·
    have HU : Hid (r = false) := Lib.hid (by rw [← HR.out, List.all_eq_false]; exact ⟨x, HM.out, by rw [HP.out]; simp⟩)
    go_wp2
    go_ret
    exact ⟨ret_bool HU.out.symm, HBW.out.trans (hb1.mono HBW.out.size)⟩
   ·
    go_wp2
    go_roundw
    case rel => exact ⟨j + 1, by go_num, by omega, Lib.hid (by rw [HS.out, List.all_append, h0.out]; simp [HP.out]), HBW.out.trans (hb1.mono HBW.out.size)⟩
    case measure => simp [intOf]; omega
  ·
   have hke : l.take j = l := List.take_of_length_le (by omega)
   have HZ : Hid (r = true) := Lib.hid (by rw [← HR.out, ← h0.out, hke])
   clear hke
   go_wp2
   go_ret
   exact ⟨ret_bool HZ.out.symm, hb⟩
set_option maxRecDepth 100000 in
set_option maxHeartbeats 1600000 in
theorem all9c (k : Nat) (F : Nat) (eg : ∀ args w, (callFunc F args).run Tryz.prog w = .ok (.enter F args) w) (p0 : Value) (p : En → Bool) (A : Option Addr) (c : Nat) (l : List (En)) (w : World)
  (hF : Hid (∀ (v : En) (cs : List Value) (V : World), Below w.heap.size w V → ES k V V.heap.size v cs → Calls Tryz.prog F #[.agg cs.toArray, p0] V fun e w' => e = .returned (.bool (p v)) ∧ Below V.heap.size V w')) (hl : RowP w w.heap.size 9 (.slice A l.length c) l.length (fun j cs => ∃ x, l[j]? = some x ∧ ES k w w.heap.size x cs)) :
  Calls Tryz.prog 65 #[.slice A l.length c, .func (.func F) #[] #[p0]] w fun e w' => e = .returned (.bool (l.all p)) ∧ Below w.heap.size w w' := by
 obtain ⟨_, _, _, hln⟩ := hl.form
 unfold maxLen at hln
 have HL := Lib.hid hl
 clear hl
 generalize hrr : l.all p = r
 have HR := Lib.hid hrr
 clear hrr
 go_enter Tryz.func65, Tryz.ntmps65
 go_wp2_with fail
 go_loopw [6, 9] (fun _ i wr => ∃ j : Nat, i = .int .i64 j ∧ j ≤ l.length ∧ Hid ((l.take j).all p = true) ∧ Below w.heap.size w wr) (fun _ i _ => l.length - (intOf i).toNat)
 case atStart => exact ⟨0, rfl, by omega, Lib.hid (by simp), Below.refl _ _⟩
 case round =>
  obtain ⟨j, rfl, hj, h0, hb⟩ := hrel
  by_cases hjn : j < l.length
  ·
   obtain ⟨b, off, cap0, x0, x1, x2, x3, x4, x5, x6, x7, x8, hu, hbH, ⟨x, hx, hv⟩, c0, c1, c2, c3, c4, c5, c6, c7, c8⟩ := (HL.out.on hb (fun _ _ h => h)).at9 hjn
   injection hu with hA _ hcap
   subst hA hcap
   obtain ⟨B0, n0, d0, f, a, i, s, B1, n1, d1, B2, n2, d2, B3, n3, d3, B4, n4, d4, hf⟩ := hv.form9
   simp only [List.cons.injEq, and_true] at hf
   obtain ⟨rfl, rfl, rfl, rfl, rfl, rfl, rfl, rfl, rfl⟩ := hf
   have kn : (j : Int) < (l.length : Int) := by omega
   have k0 : (0 : Int) ≤ (j : Int) := by omega
   have HS : Hid (l.take (j + 1) = l.take j ++ [x]) := Lib.hid (by rw [List.take_add_one, hx]; rfl)
   have HM : Hid (x ∈ l) := Lib.hid (List.mem_of_getElem? hx)
   have HB := Lib.hid hb
   have HVX := Lib.hid hv
   clear hx hb hv
   go_wp2_with fail
   rename World => U
   obtain ⟨W2, hW2⟩ : ∃ W2, W2 = U.alloc (.cells #[.slice B0 n0 d0, .bool f, .int .i64 a, .int .i64 i, .string s, .slice B1 n1 d1, .slice B2 n2 d2, .slice B3 n3 d3, .slice B4 n4 d4] 45) := ⟨_, rfl⟩
   have hb2 : Below U.heap.size U W2 := by rw [hW2]; exact (Below.refl _ _).alloc (Nat.le_refl _) _
   have q0 : W2.cell? ⟨U.heap.size, 0, none⟩ = some (.slice B0 n0 d0) := by rw [hW2]; simp
   have q1 : W2.cell? ⟨U.heap.size, 1, none⟩ = some (.bool f) := by rw [hW2]; simp
   have q2 : W2.cell? ⟨U.heap.size, 2, none⟩ = some (.int .i64 a) := by rw [hW2]; simp
   have q3 : W2.cell? ⟨U.heap.size, 3, none⟩ = some (.int .i64 i) := by rw [hW2]; simp
   have q4 : W2.cell? ⟨U.heap.size, 4, none⟩ = some (.string s) := by rw [hW2]; simp
   have q5 : W2.cell? ⟨U.heap.size, 5, none⟩ = some (.slice B1 n1 d1) := by rw [hW2]; simp
   have q6 : W2.cell? ⟨U.heap.size, 6, none⟩ = some (.slice B2 n2 d2) := by rw [hW2]; simp
   have q7 : W2.cell? ⟨U.heap.size, 7, none⟩ = some (.slice B3 n3 d3) := by rw [hW2]; simp
   have q8 : W2.cell? ⟨U.heap.size, 8, none⟩ = some (.slice B4 n4 d4) := by rw [hW2]; simp
   have hbw := HB.out.trans (hb2.mono HB.out.size)
   have hc := hF.out x _ W2 hbw (ES.up hbw.size (Nat.le_refl _) (ES.on hbw HVX.out))
   have HBW := Lib.hid hbw
   rw [← hW2]
   clear hW2 hb2 hbw c0 c1 c2 c3 c4 c5 c6 c7 c8
   go_wp2_with fail
   generalize hpx : p x = z at hc
   have HP := Lib.hid hpx
   clear hpx
   refine hc.mono ?_
   rintro e w1 ⟨rfl, hb1⟩
   clear hc
   cases z
   ·
    have HU : Hid (r = false) := Lib.hid (by rw [← HR.out, List.all_eq_false]; exact ⟨x, HM.out, by rw [HP.out]; simp⟩)
    go_wp2
    go_ret
    exact ⟨ret_bool HU.out.symm, HBW.out.trans (hb1.mono HBW.out.size)⟩
   ·
    go_wp2
    go_roundw
    case rel => exact ⟨j + 1, by go_num, by omega, Lib.hid (by rw [HS.out, List.all_append, h0.out]; simp [HP.out]), HBW.out.trans (hb1.mono HBW.out.size)⟩
    case measure => simp [intOf]; omega
  ·
   have hke : l.take j = l := List.take_of_length_le (by omega)
   have HZ : Hid (r = true) := Lib.hid (by rw [← HR.out, ← h0.out, hke])
   clear hke
   go_wp2
   go_ret
   exact ⟨ret_bool HZ.out.symm, hb⟩
end Go.Proofs.YtcjgaohblaidjaaGreatDoor
namespace Go.Proofs.YtcjgaohblaidjaaGreatDoor
open Go Go.RowKit
end Go.Proofs.YtcjgaohblaidjaaGreatDoor
namespace Go.Proofs.YtcjgaohblaidjaaGreatDoor
open Go Go.RowKit
def consV (a b : Vl) : Vl := .mk 7 0 [] [a, b] [] [] []
def tupV (l : List Vl) : Vl := .mk 6 0 [] l [] [] []
theorem zeroRw (w : World) (B : Nat → Prop) (c : Nat) (R : Nat → List Value → Prop) : RowB w B c (.slice none 0 0) 0 R := ⟨none, 0, rfl, ⟨Nat.zero_le _, Nat.le_refl _⟩, fun h => absurd h (by omega)⟩
set_option maxHeartbeats 400000 in
theorem nil_any (w : World) : Calls Tryz.prog 126 #[] w fun e w' => e = .returned (.agg #[.int .i64 5, .int .i64 0, .string ⟨#[]⟩, .slice none 0 0, .slice none 0 0, .slice none 0 0, .slice none 0 0]) ∧ Below w.heap.size w w' := by
 go_enter Tryz.func126, Tryz.ntmps126
 go_wp2
 refine bodyPost_ret (v := .agg #[.int .i64 5, .int .i64 0, .string ⟨#[]⟩, .slice none 0 0, .slice none 0 0, .slice none 0 0, .slice none 0 0]) (by simp [results, Tryz.results126, go_sem]) rfl ?_
 exact ⟨rfl, (Below.refl _ _).alloc (Nat.le_refl _) _⟩
end Go.Proofs.YtcjgaohblaidjaaGreatDoor
namespace Go.Proofs.YtcjgaohblaidjaaGreatDoor
open Go Go.RowKit
abbrev BufW (B b : Nat) (l : Bs) (w : World) : Prop := Lib.IsBuffer 54 5 B b (Lib.byteCells l) w ∧ B ≤ w.heap.size
def TbH (B : Nat) (w : World) : Prop := ∀ w', Below B w w' → Tb w'
theorem TbH.below {B : Nat} {w w' : World} (h : TbH B w) (hb : Below B w w') : TbH B w' := fun w2 h2 => h w2 (hb.trans h2)
def Wr (B b : Nat) (w w' : World) : Prop := Below B w w' ∧ Lib.OthersKept 5 (some b) w w'
theorem Wr.trans {B b : Nat} {w w1 w2 : World} (h : Wr B b w w1) (h' : Wr B b w1 w2) : Wr B b w w2 := ⟨h.1.trans h'.1, h.2.trans h'.2⟩
theorem Wr.refl (B b : Nat) (w : World) : Wr B b w w := ⟨Below.refl _ _, Lib.OthersKept.refl _ _ _⟩
theorem Wr.of_below {B b : Nat} {w w' : World} (h : Below w.heap.size w w') (hB : B ≤ w.heap.size) : Wr B b w w' :=
 ⟨h.mono hB, fun k o hk _ _ => (h.block k (by rcases Nat.lt_or_ge k w.heap.size with h' | h'; exact h'; rw [Array.getElem?_eq_none h'] at hk; cases hk)).trans hk⟩
theorem bufW (B b : Nat) (l s : Bs) (w : World) (h : BufW B b l w) (hlim : l.length + s.length ≤ 140737488355328) :
  Calls Tryz.prog 28 #[.pointer (some ⟨b, 0, none⟩), .string ⟨s.toArray⟩] w fun e w' => e = .returned (.tuple #[.int .i64 s.length, .nilIface]) ∧ BufW B b (l ++ s) w' ∧ Wr B b w w' :=
 (Any.Buffer_WriteString_kept Tryz.laysM178 B b _ ⟨s.toArray⟩ w h.1 h.2 (Lib.byteCells_one _) (by rw [Lib.byteCells_length]; exact hlim)).mono fun _ _ ⟨he, h1, h2, h3⟩ => ⟨he, ⟨by rw [Lib.byteCells_append]; exact h1, Nat.le_trans h.2 h2.size⟩, h2, h3⟩
set_option maxHeartbeats 800000 in
theorem writeNumber_any (B b : Nat) (l : Bs) (n : Int) (hn : (Lit.int .i64 n).wf = true) (w : World) (h : BufW B b l w) (hT : TbH B w) (hlim : l.length + (Lib.itoa n).length ≤ 140737488355328) :
  Calls Tryz.prog 27 #[.pointer (some ⟨b, 0, none⟩), .int .i64 n] w fun e w' => e = .returned (.tuple #[]) ∧ BufW B b (l ++ Lib.itoa n) w' ∧ Wr B b w w' := by
 have hc := formatInt_any n hn w (hT w (Below.refl _ _))
 generalize Lib.itoa n = I at hc hlim ⊢
 have H := Lib.hid h
 clear h hT
 go_enter Tryz.func27, Tryz.ntmps27
 go_wp2_with fail
 refine hc.mono ?_
 rintro e w1 ⟨rfl, hb1⟩
 clear hc
 have hb : Below B w w1 := hb1.mono H.out.2
 have h1 : BufW B b l w1 := ⟨H.out.1.old hb1, Nat.le_trans H.out.2 hb1.size⟩
 have hc2 := bufW B b l I w1 h1 hlim
 have HB := Lib.hid (Wr.of_below (b := b) hb1 H.out.2)
 clear hb1 h1 hb
 go_wp2_with fail
 refine hc2.mono ?_
 rintro e w2 ⟨rfl, h2, hb2⟩
 go_wp2
 go_end0
 exact ⟨rfl, h2, HB.out.trans hb2⟩
theorem sepB_step5 {s : Bs} {l : List Bs} {x : Bs} {j : Nat} (h : l[j]? = some x) : sepL s (l.take (j + 1)) = sepL s (l.take j) ++ preL s j ++ x := by
 have hj := (List.getElem?_eq_some_iff.1 h).1
 rw [List.take_add_one, h]
 simp only [Option.toList_some]
 rw [sepL_snoc, List.length_take, Nat.min_eq_left (by omega)]
theorem sepB_take5 (s : Bs) (l : List Bs) (j : Nat) (hj : j < l.length) : (sepL s (l.take (j + 1))).length ≤ (sepL s l).length := by
 induction h : l.length - (j + 1) generalizing j with
 | zero => rw [List.take_of_length_le (by omega)]; exact Nat.le_refl _
 | succ n ih =>
  have h1 := ih (j + 1) (by omega) (by omega)
  have h2 := sepB_step5 (s := s) (List.getElem?_eq_getElem (l := l) (i := j + 1) (by omega))
  rw [h2] at h1
  simp only [List.length_append] at h1
  omega
def labP (labs : List Bs) (j : Nat) : Bs := if j = 0 then [] else 64 :: 40 :: sepL [32] (labs.take j)
theorem labP_step {labs : List Bs} {j : Nat} {x : Bs} (h : labs[j]? = some x) : labP labs (j + 1) = labP labs j ++ (if j = 0 then [64, 40] else [32]) ++ x := by
 unfold labP
 rw [if_neg (by omega), sepB_step5 h]
 by_cases h0 : j = 0
 ·
  subst h0
  simp [sepL, preL]
 · simp [h0, preL]
theorem labP_len (labs : List Bs) (j : Nat) (hj : j < labs.length) : (labP labs (j + 1)).length + 1 ≤ (labsL labs).length := by
 have h1 := sepB_take5 [32] labs j hj
 have hl : labs ≠ [] := by rintro rfl; simp at hj
 unfold labP labsL
 rw [if_neg (by omega), if_neg hl]
 simp only [List.length_cons, List.length_append, List.length_nil]
 omega
set_option maxHeartbeats 3200000 in
theorem writeLabels_any (B b : Nat) (l : Bs) (labs : List Bs) (A : Option Addr) (cap : Nat) (w : World) (h : BufW B b l w) (hR : RowP w B 1 (.slice A labs.length cap) labs.length (fun j cs => ∃ x, labs[j]? = some x ∧ cs = [.string ⟨x.toArray⟩] ∧ x.length ≤ maxLen)) (hlim : l.length + (labsL labs).length ≤ 140737488355328) :
  Calls Tryz.prog 35 #[.pointer (some ⟨b, 0, none⟩), .slice A labs.length cap] w fun e w' => e = .returned (.tuple #[]) ∧ BufW B b (l ++ labsL labs) w' ∧ Wr B b w w' := by
 obtain ⟨A0, cap0, hA0, hll⟩ := hR.form
 clear hA0 A0 cap0
 unfold maxLen at hll
 have H := Lib.hid h
 have HR := Lib.hid hR
 have HLM := Lib.hid hlim
 clear h hR hlim
 go_enter Tryz.func35, Tryz.ntmps35
 go_wp2_with fail
 go_loopw [8] (fun iv wr => ∃ j : Nat, iv = .int .i64 j ∧ j ≤ labs.length ∧ BufW B b (l ++ labP labs j) wr ∧ Wr B b w wr) (fun iv _ => labs.length - (intOf iv).toNat)
 case atStart => exact ⟨0, rfl, by omega, by simpa [labP] using H.out, Wr.refl _ _ _⟩
 case round =>
  obtain ⟨j, rfl, hj, hB, hb⟩ := hrel
  by_cases hjn : j < labs.length
  ·
   obtain ⟨bl, offl, capl, xl, hul, hbl, ⟨x, hx, hxl, _⟩, cl0⟩ := (HR.out.on hb.1 (fun _ _ h => h)).at1 hjn
   injection hul with hAl _ hcl
   subst hAl hcl
   simp only [List.cons.injEq, and_true] at hxl
   subst hxl
   have kn : (j : Int) < (labs.length : Int) := by omega
   have k0 : (0 : Int) ≤ (j : Int) := by omega
   have hst := labP_step hx
   have hle := labP_len labs j hjn
   have hlm := HLM.out
   rw [hst] at hle
   simp only [List.length_append] at hle
   obtain ⟨S, hS⟩ : ∃ S : Bs, S = if j = 0 then [64, 40] else [32] := ⟨_, rfl⟩
   rw [← hS] at hst hle
   have hc1 := bufW B b (l ++ labP labs j) S wr hB (by simp only [List.length_append]; omega)
   have HC2 : Hid (∀ w1, BufW B b (l ++ labP labs j ++ S) w1 → Calls Tryz.prog 28 #[.pointer (some ⟨b, 0, none⟩), .string ⟨x.toArray⟩] w1 fun e w' => e = .returned (.tuple #[.int .i64 x.length, .nilIface]) ∧ BufW B b (l ++ labP labs j ++ S ++ x) w' ∧ Wr B b w1 w') := Lib.hid fun w1 h1 => bufW B b _ x w1 h1 (by simp only [List.length_append]; omega)
   have HS : Hid (l ++ labP labs j ++ S ++ x = l ++ labP labs (j + 1)) := Lib.hid (by rw [hst]; simp)
   have HB := Lib.hid hb
   clear hst hle hlm hx hb hB
   by_cases h0 : j = 0
   ·
    have hS0 : S = [64, 40] := by rw [hS, if_pos h0]
    subst h0
    rw [hS0] at hc1 HC2 HS
    simp only [Nat.add_zero] at cl0
    clear hS hS0
    go_wp2_with fail
    refine hc1.mono ?_
    rintro e w1 ⟨rfl, h1, hb1⟩
    have hc2 := HC2.out w1 h1
    have HB1 := Lib.hid (HB.out.trans hb1)
    clear hc1 h1 hb1 cl0
    go_wp2_with fail
    refine hc2.mono ?_
    rintro e w2 ⟨rfl, h2, hb2⟩
    clear hc2
    go_wp2
    go_roundw
    case rel => exact ⟨1, by go_num, by omega, by rw [← HS.out]; exact h2, HB1.out.trans hb2⟩
    case measure => simp [intOf]; omega
   ·
    have hS0 : S = [32] := by rw [hS, if_neg h0]
    rw [hS0] at hc1 HC2 HS
    have hj0 : ¬ (j : Int) = 0 := by omega
    clear hS hS0
    go_wp2_with fail
    refine hc1.mono ?_
    rintro e w1 ⟨rfl, h1, hb1⟩
    have hc2 := HC2.out w1 h1
    have HB1 := Lib.hid (HB.out.trans hb1)
    clear hc1 h1 hb1 cl0
    go_wp2_with fail
    refine hc2.mono ?_
    rintro e w2 ⟨rfl, h2, hb2⟩
    clear hc2
    go_wp2
    go_roundw
    case rel => exact ⟨j + 1, by go_num, by omega, by rw [← HS.out]; exact h2, HB1.out.trans hb2⟩
    case measure => simp [intOf]; omega
  ·
   have hje : j = labs.length := by omega
   have hjn' : ¬ (j : Int) < (labs.length : Int) := by omega
   by_cases hl0 : labs = []
   ·
    subst hl0
    have h1 : BufW B b (l ++ labsL []) wr := by
     have : labP [] j = [] := by rw [hje]; rfl
     rw [this] at hB
     simpa [labsL] using hB
    have H1 := Lib.hid h1
    clear hB h1 hje
    go_wp2
    go_end0
    exact ⟨rfl, H1.out, hb⟩
   ·
    have hlp : (0 : Int) < (labs.length : Int) := by
     have : 0 < labs.length := List.length_pos_iff.2 hl0
     omega
    have hlj : l ++ labP labs j ++ [41] = l ++ labsL labs := by
     unfold labP labsL
     rw [if_neg (by omega), if_neg hl0, hje, List.take_length]
     simp
    have hc1 := bufW B b (l ++ labP labs j) [41] wr hB (by have := HLM.out; rw [← List.length_append, ← hlj, List.length_append] at this; exact this)
    rw [hlj] at hc1
    have HB := Lib.hid hb
    clear hB hje hlj hb
    go_wp2_with fail
    refine hc1.mono ?_
    rintro e w1 ⟨rfl, h1, hb1⟩
    clear hc1
    go_wp2
    go_end0
    exact ⟨rfl, h1, HB.out.trans hb1⟩
end Go.Proofs.YtcjgaohblaidjaaGreatDoor
namespace Go.Proofs.YtcjgaohblaidjaaGreatDoor
open Go Go.RowKit Go.Shelf
attribute [local go_sem] Oper.semAt_some
end Go.Proofs.YtcjgaohblaidjaaGreatDoor
