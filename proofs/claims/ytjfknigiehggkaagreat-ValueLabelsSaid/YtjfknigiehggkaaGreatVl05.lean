/- What the program's Compare returns: the order of P4.2. -/
import Derived.Test.YtjfknigiehggkaaGreatVl00
import Derived.Test.YtjfknigiehggkaaGreatVl04
import Derived.Deep.LoopGhost
import Derived.Deep.CutRange
namespace Go.Proofs.YtjfknigiehggkaaGreat
open Go Go.RowKit
/-- what several branches end in, proved once -/
theorem share {G F : Prop} (h : F → G) (hF : F) : G := h hF
/-- the kids of a value, as they lie -/
theorem kids_open {k : Nat} {w : World} {H : Nat} {a : Vl} {t0 t1 : Int} {t2 : ByteArray} {E1 : Option Addr} {n1 d1 : Nat} {u4 u5 u6 : Value} (h : VS (k + 1) w H a [.int .i64 t0, .int .i64 t1, .string t2, .slice E1 n1 d1, u4, u5, u6]) :
    (kidsV a).length = n1 ∧ n1 ≤ maxLen ∧ RowP w H 7 (.slice E1 n1 d1) n1 (fun j cs => ∃ x, (kidsV a)[j]? = some x ∧ VS k w H x cs) := by
  obtain ⟨kd, it, tx, kids, keys, ents, labs⟩ := a
  obtain ⟨uk, uy, ue, ul, hcs, _, _, _, hk, _, _, _⟩ := h
  simp only [List.cons.injEq, and_true] at hcs
  obtain ⟨_, _, _, rfl, _, _, _⟩ := hcs
  obtain ⟨A, c, hf, hl⟩ := hk.form
  injection hf with e1 e2 e3
  subst e1 e2 e3
  exact ⟨rfl, hl, hk⟩
theorem drew_heap (w : World) : w.drew.heap = w.heap := rfl
theorem oth7 (w : World) (g b : Nat) (hb : b ≠ g) (v0 v1 v2 v3 v4 v5 v6 : Value) : (((((((w.setCell ⟨g, 0, none⟩ v0).setCell ⟨g, 1, none⟩ v1).setCell ⟨g, 2, none⟩ v2).setCell ⟨g, 3, none⟩ v3).setCell ⟨g, 4, none⟩ v4).setCell ⟨g, 5, none⟩ v5).setCell ⟨g, 6, none⟩ v6).heap[b]? = w.heap[b]? :=
  (heap_setCell_other _ ⟨g, 6, none⟩ b v6 hb).trans ((heap_setCell_other _ ⟨g, 5, none⟩ b v5 hb).trans ((heap_setCell_other _ ⟨g, 4, none⟩ b v4 hb).trans ((heap_setCell_other _ ⟨g, 3, none⟩ b v3 hb).trans ((heap_setCell_other _ ⟨g, 2, none⟩ b v2 hb).trans ((heap_setCell_other _ ⟨g, 1, none⟩ b v1 hb).trans (heap_setCell_other _ ⟨g, 0, none⟩ b v0 hb))))))
theorem bel7 {w V : World} {H g : Nat} (h : Below H w V) (v0 v1 v2 v3 v4 v5 v6 : Value) (hg : H ≤ g := by omega) : Below H w (((((((V.setCell ⟨g, 0, none⟩ v0).setCell ⟨g, 1, none⟩ v1).setCell ⟨g, 2, none⟩ v2).setCell ⟨g, 3, none⟩ v3).setCell ⟨g, 4, none⟩ v4).setCell ⟨g, 5, none⟩ v5).setCell ⟨g, 6, none⟩ v6) :=
  Below.setCell (Below.setCell (Below.setCell (Below.setCell (Below.setCell (Below.setCell (Below.setCell h (p := ⟨g, 0, none⟩) hg _) (p := ⟨g, 1, none⟩) hg _) (p := ⟨g, 2, none⟩) hg _) (p := ⟨g, 3, none⟩) hg _) (p := ⟨g, 4, none⟩) hg _) (p := ⟨g, 5, none⟩) hg _) (p := ⟨g, 6, none⟩) hg _
set_option maxRecDepth 100000 in
set_option maxHeartbeats 6400000 in
theorem compareP_any : ∀ (k : Nat) (a b : Vl) (ca cb : List Value) (w : World), VS k w w.heap.size a ca → VS k w w.heap.size b cb → Calls Tryz.prog 81 #[.agg ca.toArray, .agg cb.toArray] w fun e w' => e = .returned (.int .i64 (cmpV a b)) ∧ Below w.heap.size w w' := by
  intro k
  induction k with
  | zero => intro a b ca cb w h; exact h.elim
  | succ k ih =>
    intro a b ca cb w h h'
    have IH := Lib.hid ih
    clear ih
    obtain ⟨t0, t1, t2, E1, n1, d1, E2, n2, d2, E3, n3, d3, E4, n4, d4, rfl⟩ := h.form7
    obtain ⟨t0', t1', t2', E1', n1', d1', E2', n2', d2', E3', n3', d3', E4', n4', d4', rfl⟩ := h'.form7
    obtain ⟨W, hW⟩ : ∃ W, W = (w.alloc (.cells #[.int .i64 t0, .int .i64 t1, .string t2, .slice E1 n1 d1, .slice E2 n2 d2, .slice E3 n3 d3, .slice E4 n4 d4] 27)).alloc (.cells #[.int .i64 t0', .int .i64 t1', .string t2', .slice E1' n1' d1', .slice E2' n2' d2', .slice E3' n3' d3', .slice E4' n4' d4'] 27) := ⟨_, rfl⟩
    have hb : Below w.heap.size w W := by rw [hW]; exact ((Below.refl _ _).alloc (Nat.le_refl _) _).alloc (by simp) _
    have hz : W.heap.size = w.heap.size + 2 := by rw [hW]; simp
    have k1 : W.heap[w.heap.size]? = some (.cells #[.int .i64 t0, .int .i64 t1, .string t2, .slice E1 n1 d1, .slice E2 n2 d2, .slice E3 n3 d3, .slice E4 n4 d4] 27 (0, 0)) := by
      rw [hW, Below.heap_alloc _ _ _ (by simp)]
      exact heap_alloc_new w _
    have k2 : W.heap[w.heap.size + 1]? = some (.cells #[.int .i64 t0', .int .i64 t1', .string t2', .slice E1' n1' d1', .slice E2' n2' d2', .slice E3' n3' d3', .slice E4' n4' d4'] 27 (0, 0)) := by
      rw [hW]
      exact new_at' _ (by simp)
    generalize hy : cmpV a b = y
    have HB := Lib.hid hb
    go_enter Tryz.func81, Tryz.ntmps81
    go_wp2_with fail
    rw [← hW]
    clear hW
    go_loopg [5] (k + 1) (fun q v wr => ∃ (bh : Int) (a b : Vl) (t0 t1 : Int) (t2 : ByteArray) (E1 : Option Addr) (n1 d1 : Nat) (E2 : Option Addr) (n2 d2 : Nat) (E3 : Option Addr) (n3 d3 : Nat) (E4 : Option Addr) (n4 d4 : Nat) (t0' t1' : Int) (t2' : ByteArray) (E1' : Option Addr) (n1' d1' : Nat) (E2' : Option Addr) (n2' d2' : Nat) (E3' : Option Addr) (n3' d3' : Nat) (E4' : Option Addr) (n4' d4' : Nat), v = .int .i64 bh ∧ q ≤ k + 1 ∧ wr.heap[w.heap.size]? = some (.cells #[.int .i64 t0, .int .i64 t1, .string t2, .slice E1 n1 d1, .slice E2 n2 d2, .slice E3 n3 d3, .slice E4 n4 d4] 27 (0, 0)) ∧ wr.heap[w.heap.size + 1]? = some (.cells #[.int .i64 t0', .int .i64 t1', .string t2', .slice E1' n1' d1', .slice E2' n2' d2', .slice E3' n3' d3', .slice E4' n4' d4'] 27 (0, 0)) ∧ VS q w w.heap.size a [.int .i64 t0, .int .i64 t1, .string t2, .slice E1 n1 d1, .slice E2 n2 d2, .slice E3 n3 d3, .slice E4 n4 d4] ∧ VS q w w.heap.size b [.int .i64 t0', .int .i64 t1', .string t2', .slice E1' n1' d1', .slice E2' n2' d2', .slice E3' n3' d3', .slice E4' n4' d4'] ∧ y = thn (cmpV a b) bh ∧ Below w.heap.size w wr ∧ w.heap.size + 2 ≤ wr.heap.size)
    case atStart => exact ⟨0, a, b, t0, t1, t2, E1, n1, d1, E2, n2, d2, E3, n3, d3, E4, n4, d4, t0', t1', t2', E1', n1', d1', E2', n2', d2', E3', n3', d3', E4', n4', d4', rfl, Nat.le_refl _, k1, k2, h, h', by rw [thn_zero_right]; exact hy.symm, hb, by omega⟩
    case round =>
      clear hy h h' k1 k2 hb hz HB
      obtain ⟨bh, a, b, t0, t1, t2, E1, n1, d1, E2, n2, d2, E3, n3, d3, E4, n4, d4, t0', t1', t2', E1', n1', d1', E2', n2', d2', E3', n3', d3', E4', n4', d4', rfl, hq, k1, k2, h, h', hy, hb, hz⟩ := hrel
      obtain ⟨q, rfl⟩ : ∃ q, gk = q + 1 := by
        cases gk with
        | zero => exact h.elim
        | succ q => exact ⟨q, rfl⟩
      have hF := front_any k IH a b _ _ wr (VS.up hb.size hq (VS.on hb h)) (VS.up hb.size hq (VS.on hb h'))
      have HG : Hid (∀ V, Below w.heap.size w V → Calls Tryz.prog 111 #[.agg #[.int .i64 t0, .int .i64 t1, .string t2, .slice E1 n1 d1, .slice E2 n2 d2, .slice E3 n3 d3, .slice E4 n4 d4], .agg #[.int .i64 t0', .int .i64 t1', .string t2', .slice E1' n1' d1', .slice E2' n2' d2', .slice E3' n3' d3', .slice E4' n4' d4']] V fun e w' => e = .returned (.int .i64 (tailV a b)) ∧ Below V.heap.size V w') := Lib.hid fun V hV => behind_any k IH a b _ _ V (VS.up hV.size hq (VS.on hV h)) (VS.up hV.size hq (VS.on hV h'))
      have HV := Lib.hid (And.intro h h')
      have HY := Lib.hid hy
      have HB := Lib.hid hb
      have HQ := Lib.hid hq
      have HFZ := Lib.hid (@cmpV_front_zero a b)
      have HFN := Lib.hid (@cmpV_front_ne a b)
      generalize frontV a b = z0 at hF HFZ HFN
      generalize tailV a b = z1 at HG HFZ
      clear h h' hy hq
      have K1 := Lib.hid k1
      have K2 := Lib.hid k2
      obtain ⟨q0, q1, q2, q3, q4, q5, q6⟩ := cells7 k1
      obtain ⟨r0, r1, r2, r3, r4, r5, r6⟩ := cells7 k2
      clear k1 k2 hb
      go_wp2_with (go_at_call 110; refine hF.mono ?_; rintro e w1 ⟨rfl, hb1⟩; refine Hid.out ?_)
      refine Lib.hid ?_
      have HB1 := Lib.hid (HB.out.trans (hb1.mono HB.out.size))
      have KA1 : Hid (w1.heap[w.heap.size]? = some (.cells #[.int .i64 t0, .int .i64 t1, .string t2, .slice E1 n1 d1, .slice E2 n2 d2, .slice E3 n3 d3, .slice E4 n4 d4] 27 (0, 0))) := Lib.hid ((hb1.block _ (by omega)).trans K1.out)
      have KB1 : Hid (w1.heap[w.heap.size + 1]? = some (.cells #[.int .i64 t0', .int .i64 t1', .string t2', .slice E1' n1' d1', .slice E2' n2' d2', .slice E3' n3' d3', .slice E4' n4' d4'] 27 (0, 0))) := Lib.hid ((hb1.block _ (by omega)).trans K2.out)
      have hz1 : w.heap.size + 2 ≤ w1.heap.size := by have := hb1.size; omega
      clear hb1 hF q0 q1 q2 q3 q4 q5 q6 r0 r1 r2 r3 r4 r5 r6 hz
      by_cases h0 : z0 = 0
      case neg =>
        have hq : (z0 != 0) = true := by rw [bne_iff_ne]; exact h0
        have HU : Hid (y = z0) := Lib.hid (by rw [HY.out, HFN.out h0]; exact thn_of h0 _)
        clear h0
        go_wp2
        go_ret
        exact ⟨ret_i HU.out.symm, HB1.out⟩
      subst h0
      have q0 : w1.cell? ⟨w.heap.size, 0, none⟩ = some (.int .i64 t0) := (Lib.cell_of_heap KA1.out 0).trans rfl
      have q1 : w1.cell? ⟨w.heap.size, 1, none⟩ = some (.int .i64 t1) := (Lib.cell_of_heap KA1.out 1).trans rfl
      have q2 : w1.cell? ⟨w.heap.size, 2, none⟩ = some (.string t2) := (Lib.cell_of_heap KA1.out 2).trans rfl
      have q3 : w1.cell? ⟨w.heap.size, 3, none⟩ = some (.slice E1 n1 d1) := (Lib.cell_of_heap KA1.out 3).trans rfl
      have q4 : w1.cell? ⟨w.heap.size, 4, none⟩ = some (.slice E2 n2 d2) := (Lib.cell_of_heap KA1.out 4).trans rfl
      have q5 : w1.cell? ⟨w.heap.size, 5, none⟩ = some (.slice E3 n3 d3) := (Lib.cell_of_heap KA1.out 5).trans rfl
      have q6 : w1.cell? ⟨w.heap.size, 6, none⟩ = some (.slice E4 n4 d4) := (Lib.cell_of_heap KA1.out 6).trans rfl
      have r0 : w1.cell? ⟨w.heap.size + 1, 0, none⟩ = some (.int .i64 t0') := (Lib.cell_of_heap KB1.out 0).trans rfl
      have r1 : w1.cell? ⟨w.heap.size + 1, 1, none⟩ = some (.int .i64 t1') := (Lib.cell_of_heap KB1.out 1).trans rfl
      have r2 : w1.cell? ⟨w.heap.size + 1, 2, none⟩ = some (.string t2') := (Lib.cell_of_heap KB1.out 2).trans rfl
      have r3 : w1.cell? ⟨w.heap.size + 1, 3, none⟩ = some (.slice E1' n1' d1') := (Lib.cell_of_heap KB1.out 3).trans rfl
      have r4 : w1.cell? ⟨w.heap.size + 1, 4, none⟩ = some (.slice E2' n2' d2') := (Lib.cell_of_heap KB1.out 4).trans rfl
      have r5 : w1.cell? ⟨w.heap.size + 1, 5, none⟩ = some (.slice E3' n3' d3') := (Lib.cell_of_heap KB1.out 5).trans rfl
      have r6 : w1.cell? ⟨w.heap.size + 1, 6, none⟩ = some (.slice E4' n4' d4') := (Lib.cell_of_heap KB1.out 6).trans rfl
      go_wp2_with (go_at_call 111; refine (HG.out _ HB1.out).mono ?_; rintro e w2 ⟨rfl, hb2⟩; refine Hid.out ?_)
      refine Lib.hid ?_
      have HB2 := Lib.hid (HB1.out.trans (hb2.mono HB1.out.size))
      have KA2 : Hid (w2.heap[w.heap.size]? = some (.cells #[.int .i64 t0, .int .i64 t1, .string t2, .slice E1 n1 d1, .slice E2 n2 d2, .slice E3 n3 d3, .slice E4 n4 d4] 27 (0, 0))) := Lib.hid ((hb2.block _ (by omega)).trans KA1.out)
      have KB2 : Hid (w2.heap[w.heap.size + 1]? = some (.cells #[.int .i64 t0', .int .i64 t1', .string t2', .slice E1' n1' d1', .slice E2' n2' d2', .slice E3' n3' d3', .slice E4' n4' d4'] 27 (0, 0))) := Lib.hid ((hb2.block _ (by omega)).trans KB1.out)
      have hz2 : w.heap.size + 2 ≤ w2.heap.size := by have := hb2.size; omega
      clear hb2 q0 q1 q2 q3 q4 q5 q6 r0 r1 r2 r3 r4 r5 r6 hz1
      obtain ⟨hnn, hF0, hF1⟩ := HFZ.out (by first | rfl | trivial)
      go_upto_if 19 with fail
      go_cut [5, 7] from 9 to 37 (fun b5 _b7 wc => ∃ bv : Int, b5 = .int .i64 bv ∧ wc = w2 ∧ bv = thn z1 bh)
      case first =>
        by_cases ht : z1 = 0
        · have hq : (z1 != 0) = false := by rw [bne_eq_false_iff_eq]; exact ht
          have HT := Lib.hid ht
          clear ht
          go_wp2_with fail
          go_meet
          exact ⟨bh, rfl, rfl, by rw [HT.out]; rfl⟩
        · have hq : (z1 != 0) = true := by rw [bne_iff_ne]; exact ht
          have HT := Lib.hid ht
          clear ht
          go_wp2_with fail
          go_meet
          exact ⟨z1, rfl, rfl, (thn_of HT.out _).symm⟩
      case rest =>
        obtain ⟨bv, rfl, hwc, hbv⟩ := hcut
        have hwc2 := hwc.symm
        subst hwc2
        have HBV := Lib.hid hbv
        clear hbv
        obtain ⟨hlA, hmA, hrA⟩ := kids_open HV.out.1
        obtain ⟨hlB, hmB, hrB⟩ := kids_open HV.out.2
        have hn12 : n1' = n1 := by omega
        subst hn12
        by_cases hn0 : n1' = 0
        · subst hn0
          have hk0 : kidsV a = [] := List.eq_nil_of_length_eq_zero hlA
          have HZ : Hid (y = bv) := Lib.hid (by rw [HY.out, hF0 hk0, HBV.out])
          have hz0 : wrap64 (-1) = -1 := by unfold wrap64; omega
          clear hlA hmA hrA hlB hmB hrB hF0 hF1 hk0 hnn
          have q3 : w2.cell? ⟨w.heap.size, 3, none⟩ = some (.slice E1 (0 : Nat) d1) := (Lib.cell_of_heap KA2.out 3).trans rfl
          go_wp2
          go_ret
          exact ⟨ret_i HZ.out.symm, HB2.out⟩
        · obtain ⟨m, hm⟩ : ∃ m, n1' = m + 1 := ⟨n1' - 1, by omega⟩
          obtain ⟨bx, ox, _, x0, x1, x2, x3, x4, x5, x6, hux, hbx, ⟨x, hx, hvx⟩, c0, c1, c2, c3, c4, c5, c6⟩ := RowB.at7 (j := m) hrA (by omega)
          obtain ⟨by', oy, _, y0, y1, y2, y3, y4, y5, y6, huy, hby, ⟨x', hx', hvx'⟩, d0, d1', d2', d3', d4', d5', d6'⟩ := RowB.at7 (j := m) hrB (by omega)
          injection hux with e1 _ _
          subst e1
          injection huy with e1 _ _
          subst e1
          obtain ⟨a0, a1, a2, P1, e1, f1, P2, e2, f2, P3, e3, f3, P4, e4, f4, hfx⟩ := hvx.form7
          simp only [List.cons.injEq, and_true] at hfx
          obtain ⟨rfl, rfl, rfl, rfl, rfl, rfl, rfl⟩ := hfx
          obtain ⟨b0, b1, b2, Q1, g1, h1, Q2, g2, h2, Q3, g3, h3, Q4, g4, h4, hfx⟩ := hvx'.form7
          simp only [List.cons.injEq, and_true] at hfx
          obtain ⟨rfl, rfl, rfl, rfl, rfl, rfl, rfl⟩ := hfx
          have HX : Hid (∀ V, Below w.heap.size w V → V.cell? ⟨bx, ox + m * 7, none⟩ = some (.int .i64 a0) ∧ V.cell? ⟨bx, ox + m * 7 + 1, none⟩ = some (.int .i64 a1) ∧ V.cell? ⟨bx, ox + m * 7 + 2, none⟩ = some (.string a2) ∧ V.cell? ⟨bx, ox + m * 7 + 3, none⟩ = some (.slice P1 e1 f1) ∧ V.cell? ⟨bx, ox + m * 7 + 4, none⟩ = some (.slice P2 e2 f2) ∧ V.cell? ⟨bx, ox + m * 7 + 5, none⟩ = some (.slice P3 e3 f3) ∧ V.cell? ⟨bx, ox + m * 7 + 6, none⟩ = some (.slice P4 e4 f4) ∧ V.cell? ⟨by', oy + m * 7, none⟩ = some (.int .i64 b0) ∧ V.cell? ⟨by', oy + m * 7 + 1, none⟩ = some (.int .i64 b1) ∧ V.cell? ⟨by', oy + m * 7 + 2, none⟩ = some (.string b2) ∧ V.cell? ⟨by', oy + m * 7 + 3, none⟩ = some (.slice Q1 g1 h1) ∧ V.cell? ⟨by', oy + m * 7 + 4, none⟩ = some (.slice Q2 g2 h2) ∧ V.cell? ⟨by', oy + m * 7 + 5, none⟩ = some (.slice Q3 g3 h3) ∧ V.cell? ⟨by', oy + m * 7 + 6, none⟩ = some (.slice Q4 g4 h4)) := Lib.hid fun V hV => ⟨(hV.cell (p := ⟨bx, _, none⟩) hbx).trans c0, (hV.cell (p := ⟨bx, _, none⟩) hbx).trans c1, (hV.cell (p := ⟨bx, _, none⟩) hbx).trans c2, (hV.cell (p := ⟨bx, _, none⟩) hbx).trans c3, (hV.cell (p := ⟨bx, _, none⟩) hbx).trans c4, (hV.cell (p := ⟨bx, _, none⟩) hbx).trans c5, (hV.cell (p := ⟨bx, _, none⟩) hbx).trans c6, (hV.cell (p := ⟨by', _, none⟩) hby).trans d0, (hV.cell (p := ⟨by', _, none⟩) hby).trans d1', (hV.cell (p := ⟨by', _, none⟩) hby).trans d2', (hV.cell (p := ⟨by', _, none⟩) hby).trans d3', (hV.cell (p := ⟨by', _, none⟩) hby).trans d4', (hV.cell (p := ⟨by', _, none⟩) hby).trans d5', (hV.cell (p := ⟨by', _, none⟩) hby).trans d6'⟩
          have HVX := Lib.hid (And.intro hvx hvx')
          have HZ : Hid (y = thn (cmpV x x') bv) := Lib.hid (by rw [HY.out, hF1 m x x' (hlA.trans hm) hx hx', thn_assoc, HBV.out])
          have hmm : (n1' : Int) - 1 = (m : Int) := by omega
          have hm1 : (m : Int) < (n1' : Int) := by omega
          have hm2 : decide ((m : Int) < 0) = false := by simp
          have hwm : wrap64 (m : Int) = (m : Int) := by unfold wrap64; unfold maxLen at hmA; omega
          clear hn0 hm hlA hmA hrA hlB hmB hrB hF0 hF1 hnn hbx hby hvx hvx' hx hx' c0 c1 c2 c3 c4 c5 c6 d0 d1' d2' d3' d4' d5' d6'
          have hX := HX.out _ HB2.out.drew
          have k1 := KA2.out
          have k2 := KB2.out
          obtain ⟨q0, q1, q2, q3, q4, q5, q6⟩ := cells7 k1
          obtain ⟨zq0, zq1, zq2, zq3, zq4, zq5, zq6⟩ := frozen7 k1
          have r3 : w2.cell? ⟨w.heap.size + 1, 3, none⟩ = some (.slice (some ⟨by', oy, none⟩) n1' d1') := (Lib.cell_of_heap k2 3).trans rfl
          obtain ⟨V1, hV1⟩ : ∃ V, V = (((((((w2.setCell ⟨w.heap.size, 0, none⟩ (.int .i64 a0)).setCell ⟨w.heap.size, 1, none⟩ (.int .i64 a1)).setCell ⟨w.heap.size, 2, none⟩ (.string a2)).setCell ⟨w.heap.size, 3, none⟩ (.slice P1 e1 f1)).setCell ⟨w.heap.size, 4, none⟩ (.slice P2 e2 f2)).setCell ⟨w.heap.size, 5, none⟩ (.slice P3 e3 f3)).setCell ⟨w.heap.size, 6, none⟩ (.slice P4 e4 f4)).drew := ⟨_, rfl⟩
          have ho1 : V1.heap[w.heap.size]? = some (.cells #[.int .i64 a0, .int .i64 a1, .string a2, .slice P1 e1 f1, .slice P2 e2 f2, .slice P3 e3 f3, .slice P4 e4 f4] 27 (0, 0)) := by rw [hV1, drew_heap]; exact obj7 k1 (.int .i64 a0) (.int .i64 a1) (.string a2) (.slice P1 e1 f1) (.slice P2 e2 f2) (.slice P3 e3 f3) (.slice P4 e4 f4)
          have ho2 : V1.heap[w.heap.size + 1]? = some (.cells #[.int .i64 t0', .int .i64 t1', .string t2', .slice (some ⟨by', oy, none⟩) n1' d1', .slice E2' n2' d2', .slice E3' n3' d3', .slice E4' n4' d4'] 27 (0, 0)) := by rw [hV1, drew_heap]; exact (oth7 w2 w.heap.size (w.heap.size + 1) (by omega) (.int .i64 a0) (.int .i64 a1) (.string a2) (.slice P1 e1 f1) (.slice P2 e2 f2) (.slice P3 e3 f3) (.slice P4 e4 f4)).trans k2
          have hbV1 : Below w.heap.size w V1 := by rw [hV1]; exact (bel7 HB2.out (.int .i64 a0) (.int .i64 a1) (.string a2) (.slice P1 e1 f1) (.slice P2 e2 f2) (.slice P3 e3 f3) (.slice P4 e4 f4)).drew
          have hzV1 : V1.heap.size = w2.heap.size := by rw [hV1]; simp
          obtain ⟨V2, hV2⟩ : ∃ V, V = (((((((V1.setCell ⟨w.heap.size + 1, 0, none⟩ (.int .i64 b0)).setCell ⟨w.heap.size + 1, 1, none⟩ (.int .i64 b1)).setCell ⟨w.heap.size + 1, 2, none⟩ (.string b2)).setCell ⟨w.heap.size + 1, 3, none⟩ (.slice Q1 g1 h1)).setCell ⟨w.heap.size + 1, 4, none⟩ (.slice Q2 g2 h2)).setCell ⟨w.heap.size + 1, 5, none⟩ (.slice Q3 g3 h3)).setCell ⟨w.heap.size + 1, 6, none⟩ (.slice Q4 g4 h4)) := ⟨_, rfl⟩
          have ho4 : V2.heap[w.heap.size + 1]? = some (.cells #[.int .i64 b0, .int .i64 b1, .string b2, .slice Q1 g1 h1, .slice Q2 g2 h2, .slice Q3 g3 h3, .slice Q4 g4 h4] 27 (0, 0)) := by rw [hV2]; exact obj7 ho2 (.int .i64 b0) (.int .i64 b1) (.string b2) (.slice Q1 g1 h1) (.slice Q2 g2 h2) (.slice Q3 g3 h3) (.slice Q4 g4 h4)
          have ho3 : V2.heap[w.heap.size]? = some (.cells #[.int .i64 a0, .int .i64 a1, .string a2, .slice P1 e1 f1, .slice P2 e2 f2, .slice P3 e3 f3, .slice P4 e4 f4] 27 (0, 0)) := by rw [hV2]; exact (oth7 V1 (w.heap.size + 1) w.heap.size (by omega) (.int .i64 b0) (.int .i64 b1) (.string b2) (.slice Q1 g1 h1) (.slice Q2 g2 h2) (.slice Q3 g3 h3) (.slice Q4 g4 h4)).trans ho1
          have hbV2 : Below w.heap.size w V2 := by rw [hV2]; exact bel7 (H := w.heap.size) (g := w.heap.size + 1) (hg := by omega) hbV1 (.int .i64 b0) (.int .i64 b1) (.string b2) (.slice Q1 g1 h1) (.slice Q2 g2 h2) (.slice Q3 g3 h3) (.slice Q4 g4 h4)
          have hzV2 : w.heap.size + 2 ≤ V2.heap.size := by have : V2.heap.size = w2.heap.size := by rw [hV2, ← hzV1]; simp
                                                           omega
          obtain ⟨s0, s1, s2, s3, s4, s5, s6⟩ := cells7 ho2
          obtain ⟨zs0, zs1, zs2, zs3, zs4, zs5, zs6⟩ := frozen7 ho2
          have hX1 := HX.out V1 hbV1
          have hX2 := HX.out V2 hbV2
          have HFI := Lib.hid (And.intro ho3 (And.intro ho4 (And.intro hbV2 hzV2)))
          have HV1 := Lib.hid hV1
          have HV2 := Lib.hid hV2
          clear hV1 hV2 ho1 ho2 ho3 ho4 hbV1 hbV2 hzV1 hzV2 k1 k2 hz2
          go_wp2_with fail
          apply share
          case h =>
            intro hfin
            refine wp_region_held_drew (S := fun V => V.cell? ⟨bx, ox + m * 7, none⟩ = some (.int .i64 a0) ∧ V.cell? ⟨bx, ox + m * 7 + 1, none⟩ = some (.int .i64 a1) ∧ V.cell? ⟨bx, ox + m * 7 + 2, none⟩ = some (.string a2) ∧ V.cell? ⟨bx, ox + m * 7 + 3, none⟩ = some (.slice P1 e1 f1) ∧ V.cell? ⟨bx, ox + m * 7 + 4, none⟩ = some (.slice P2 e2 f2) ∧ V.cell? ⟨bx, ox + m * 7 + 5, none⟩ = some (.slice P3 e3 f3) ∧ V.cell? ⟨bx, ox + m * 7 + 6, none⟩ = some (.slice P4 e4 f4) ∧ V.cell? ⟨by', oy + m * 7, none⟩ = some (.int .i64 b0) ∧ V.cell? ⟨by', oy + m * 7 + 1, none⟩ = some (.int .i64 b1) ∧ V.cell? ⟨by', oy + m * 7 + 2, none⟩ = some (.string b2) ∧ V.cell? ⟨by', oy + m * 7 + 3, none⟩ = some (.slice Q1 g1 h1) ∧ V.cell? ⟨by', oy + m * 7 + 4, none⟩ = some (.slice Q2 g2 h2) ∧ V.cell? ⟨by', oy + m * 7 + 5, none⟩ = some (.slice Q3 g3 h3) ∧ V.cell? ⟨by', oy + m * 7 + 6, none⟩ = some (.slice Q4 g4 h4)) (by kernel_rfl) hX (fun hHeld => ?_)
            refine tk 0 hHeld ?_
            try simp only [Act.put, pA, pB, pC]
            refine tk 2 hHeld ?_
            try simp only [Act.put, pA, pB, pC]
            refine tk 5 hHeld ?_
            try simp only [Act.put, pA, pB, pC]
            refine tk 7 hHeld ?_
            try simp only [Act.put, pA, pB, pC]
            refine wpAnyH_all (rs := [1, 6]) (by kernel_rfl) (by simp) fun j hj => ?_
            have hj2 : j = 1 ∨ j = 6 := by simpa using hj
            clear hj
            rcases hj2 with rfl | rfl
            · refine step_op rfl (by rfl) (fun K hK => ?_)
              go_simp
              refine hK _ _ ⟨hX, ?_⟩
              try simp only [Act.put, pA, pB, pC]
              refine tk 3 hX ?_
              try simp only [Act.put, pA, pB, pC]
              refine tk 4 hX ?_
              try simp only [Act.put, pA, pB, pC]
              refine wpAnyH_all (rs := [6, 10]) (by kernel_rfl) (by simp) fun j hj => ?_
              have hj2 : j = 6 ∨ j = 10 := by simpa using hj
              clear hj
              rcases hj2 with rfl | rfl
              · refine step_op rfl (by rfl) (fun K hK => ?_)
                go_simp
                refine hK _ _ ⟨hX, ?_⟩
                try simp only [Act.put, pA, pB, pC]
                refine tk 8 hX ?_
                try simp only [Act.put, pA, pB, pC]
                refine tk 9 hX ?_
                try simp only [Act.put, pA, pB, pC]
                refine one_op 10 (by kernel_rfl) rfl (by rfl) (fun K hK => ?_)
                go_simp
                rw [← HV1.out]
                refine hK _ _ hX1 ?_
                try simp only [Act.put, pA, pB, pC]
                refine one_op 11 (by kernel_rfl) rfl (by rfl) (fun K hK => ?_)
                go_simp
                rw [← HV2.out]
                refine hK _ _ hX2 ?_
                try simp only [Act.put, pA, pB, pC]
                refine wpAnyH_done (by kernel_rfl) ?_ _
                exact hfin
              · refine step_op rfl (by rfl) (fun K hK => ?_)
                go_simp
                rw [← HV1.out]
                refine hK _ _ ⟨hX1, ?_⟩
                try simp only [Act.put, pA, pB, pC]
                refine one_op 6 (by kernel_rfl) rfl (by rfl) (fun K hK => ?_)
                go_simp
                refine hK _ _ hX1 ?_
                try simp only [Act.put, pA, pB, pC]
                refine tk 8 hX1 ?_
                try simp only [Act.put, pA, pB, pC]
                refine tk 9 hX1 ?_
                try simp only [Act.put, pA, pB, pC]
                refine one_op 11 (by kernel_rfl) rfl (by rfl) (fun K hK => ?_)
                go_simp
                rw [← HV2.out]
                refine hK _ _ hX2 ?_
                try simp only [Act.put, pA, pB, pC]
                refine wpAnyH_done (by kernel_rfl) ?_ _
                exact hfin
            · refine step_op rfl (by rfl) (fun K hK => ?_)
              go_simp
              refine hK _ _ ⟨hX, ?_⟩
              try simp only [Act.put, pA, pB, pC]
              refine tk 8 hX ?_
              try simp only [Act.put, pA, pB, pC]
              refine tk 9 hX ?_
              try simp only [Act.put, pA, pB, pC]
              refine one_op 1 (by kernel_rfl) rfl (by rfl) (fun K hK => ?_)
              go_simp
              refine hK _ _ hX ?_
              try simp only [Act.put, pA, pB, pC]
              refine tk 3 hX ?_
              try simp only [Act.put, pA, pB, pC]
              refine tk 4 hX ?_
              try simp only [Act.put, pA, pB, pC]
              refine one_op 10 (by kernel_rfl) rfl (by rfl) (fun K hK => ?_)
              go_simp
              rw [← HV1.out]
              refine hK _ _ hX1 ?_
              try simp only [Act.put, pA, pB, pC]
              refine one_op 11 (by kernel_rfl) rfl (by rfl) (fun K hK => ?_)
              go_simp
              rw [← HV2.out]
              refine hK _ _ hX2 ?_
              try simp only [Act.put, pA, pB, pC]
              refine wpAnyH_done (by kernel_rfl) ?_ _
              exact hfin
          case hF =>
            go_wp2_with fail
            go_roundg q
            case measure => omega
            case rel =>
              obtain ⟨ho3, ho4, hbV2, hzV2⟩ := HFI.out
              exact ⟨bv, x, x', a0, a1, a2, P1, e1, f1, P2, e2, f2, P3, e3, f3, P4, e4, f4, b0, b1, b2, Q1, g1, h1, Q2, g2, h2, Q3, g3, h3, Q4, g4, h4, rfl, by have := HQ.out; omega, ho3, ho4, HVX.out.1, HVX.out.2, HZ.out, hbV2, hzV2⟩
end Go.Proofs.YtjfknigiehggkaaGreat
