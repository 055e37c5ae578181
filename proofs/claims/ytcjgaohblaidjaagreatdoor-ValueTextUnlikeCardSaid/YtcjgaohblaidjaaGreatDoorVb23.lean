/- What value of the program's parser gives, at every depth: it reads as pV does. -/
import Derived.Test.YtcjgaohblaidjaaGreatDoorVb19
import Derived.Test.YtcjgaohblaidjaaGreatDoorVb22
namespace Go.Proofs.YtcjgaohblaidjaaGreatDoor
open Go Go.RowKit
def kN5 (n : Nat) : Nat := 1 + n * 1048578
theorem vb_labs5 {k : Nat} {w : World} {B : Nat → Prop} {v : Vl} {l : List Bs} {x0 x1 x2 x3 x4 x5 x6 : Value} {A : Option Addr} {cap : Nat} (h : VB k w B v [x0, x1, x2, x3, x4, x5, x6]) (hl : RowB w B 1 (.slice A l.length cap) l.length (fun j cs => ∃ x, l[j]? = some x ∧ cs = [.string ⟨x.toArray⟩] ∧ x.length ≤ maxLen)) :
  VB k w B (setL l v) [x0, x1, x2, x3, x4, x5, .slice A l.length cap] := by
 obtain ⟨kd, i, t, y, e, en, lb⟩ := v
 cases k with
 | zero => exact h.elim
 | succ k =>
  obtain ⟨uk, uy, ue, ul, hcs, h1, h2, h3, h4, h5, h6, h7⟩ := h
  simp only [List.cons.injEq, and_true] at hcs
  obtain ⟨rfl, rfl, rfl, rfl, rfl, rfl, rfl⟩ := hcs
  exact ⟨_, _, _, _, rfl, h1, h2, h3, h4, h5, h6, hl⟩
theorem Left.up {p : Nat} {q r : Bs} {d e : Int} {w w1 w2 : World} (hE : Eff p w w1) (h : Left p q r e w1 w2) : Left p q r d w (w2.setCell ⟨p, 1, none⟩ (.int .i64 d)) :=
 ⟨(hE.trans h.1).trans (Eff.set _ _ _ _), h.2.1.dep d, h.2.2⟩
set_option maxRecDepth 100000 in
set_option maxHeartbeats 6400000 in
theorem value_step5 (B n p : Nat) (hBp : B ≤ p) (d : Int) (hd0 : -1 ≤ d) (hd : d < 131072) (hI : Hid (ValI B (kN5 n) p (d + 1) (pV n))) : ValI B (kN5 (n + 1)) p d (pV (n + 1)) := by
 intro r w h hr hE
 have HE := Lib.hid hE
 have hP0 := h
 have hlp := h.lt
 unfold limP at hr
 obtain ⟨W, hW⟩ : ∃ W, W = w.alloc (.cells #[.int .i64 0, .int .i64 0, .string ⟨#[]⟩, .slice none 0 0, .slice none 0 0, .slice none 0 0, .slice none 0 0] 27) := ⟨_, rfl⟩
 have kW : W.heap[w.heap.size]? = some (.cells #[.int .i64 0, .int .i64 0, .string ⟨#[]⟩, .slice none 0 0, .slice none 0 0, .slice none 0 0, .slice none 0 0] 27 (0, 0)) := by rw [hW]; exact heap_alloc_new w _
 have hLW : Left p r r d w W := by rw [hW]; exact (Left.refl h).alloc _
 have hsW : W.heap.size = w.heap.size + 1 := by rw [hW]; simp
 have hne : w.heap.size ≠ p := by omega
 have hEW := hE.eff hLW.1 hBp
 clear h hE
 obtain ⟨_, c1, _, f1⟩ := hLW.2.1.cells
 have hk1 : 1 ≤ kN5 n := by unfold kN5; omega
 have kd : ¬ d = 131072 := by omega
 have kw : IntKind.i64.wrap (d + 1) = d + 1 := IntWalk.i64_in _ (by omega)
 have kw2 : IntKind.i64.wrap (d + 1 - 1) = d := by rw [IntWalk.i64_in _ (by omega)]; omega
 obtain ⟨W1, hW1⟩ : ∃ W1, W1 = (w.setCell ⟨p, 1, none⟩ (.int .i64 (d + 1))).alloc (.cells #[.int .i64 0, .int .i64 0, .string ⟨#[]⟩, .slice none 0 0, .slice none 0 0, .slice none 0 0, .slice none 0 0] 27) := ⟨_, rfl⟩
 have hsx : (w.setCell ⟨p, 1, none⟩ (.int .i64 (d + 1))).heap.size = w.heap.size := by simp
 have hP1 : PrsW p r (d + 1) W1 := by rw [hW1]; exact (hP0.dep (d + 1)).below ((Below.refl _ _).alloc (Nat.le_refl _) _) (by omega)
 have hE1 : Eff p w W1 := by rw [hW1]; exact (Eff.set _ _ _ _).trans (Eff.of_below ((Below.refl _ _).alloc (Nat.le_refl _) _) (by omega))
 have hs1 : W1.heap.size = w.heap.size + 1 := by rw [hW1]; simp
 have k1 : W1.heap[w.heap.size]? = some (.cells #[.int .i64 0, .int .i64 0, .string ⟨#[]⟩, .slice none 0 0, .slice none 0 0, .slice none 0 0, .slice none 0 0] 27 (0, 0)) := by rw [hW1]; exact new_at' _ hsx
 have hu := unlP_any5 B (kN5 n) p hk1 hBp (d + 1) (pV n) hI r W1 hP1 (by unfold limP; omega) (HE.out.eff hE1 hBp)
 have HE1 := Lib.hid hE1
 have HK1 := Lib.hid k1
 rw [hW] at c1 f1
 have HQ0 : Hid (pV (n + 1) r = match unlP (pV n) r with | none => none | some (v, r) => match cutP [64, 40] r with | none => some (v, r) | some r2 => match seqL labelP [32] r2 with | none => none | some (l, r3) => match cutP [41] r3 with | none => none | some q => some (setL l v, q)) := Lib.hid rfl
 generalize pV (n + 1) r = oo at HQ0 ⊢
 clear hLW kW hEW hP1 hE1 k1 hk1 hP0 hsx
 cases huo : unlP (pV n) r with
 | none =>
  rw [huo] at hu
  have HQ : Hid (oo = none) := Lib.hid (by rw [HQ0.out, huo])
  clear huo HQ0
  go_enter Tryz.func21, Tryz.ntmps21
  go_wp2_with fail
  rw [← hW1]
  clear hW hW1 c1 f1
  refine hu.mono ?_
  rintro e w2 ⟨a, i, s, A1, n1, c1, A2, n2, c2, A3, n3, c3, A4, n4, c4, q, rfl, hL2', hres⟩
  clear hu hres
  have hp2 : p < w2.heap.size := hL2'.2.1.lt
  have hwp : w2.heap.size ≠ p := by omega
  obtain ⟨_, b1, _, g1⟩ := (hL2'.alloc (.cells #[.int .i64 a, .int .i64 i, .string s, .slice A1 n1 c1, .slice A2 n2 c2, .slice A3 n3 c3, .slice A4 n4 c4] 27)).2.1.cells
  have k2 := hL2'.box HK1.out hne
  have k4 : ((w2.setCell ⟨p, 1, none⟩ (.int .i64 d)).alloc (.cells #[.int .i64 a, .int .i64 i, .string s, .slice A1 n1 c1, .slice A2 n2 c2, .slice A3 n3 c3, .slice A4 n4 c4] 27)).heap[w.heap.size]? = some (.cells #[.int .i64 0, .int .i64 0, .string ⟨#[]⟩, .slice none 0 0, .slice none 0 0, .slice none 0 0, .slice none 0 0] 27 (0, 0)) := (Below.heap_alloc _ _ _ (by simpa using (Array.getElem?_eq_some_iff.1 k2).1)).trans ((heap_setCell_other _ _ _ _ hne).trans k2)
  have y4 : ((w2.setCell ⟨p, 1, none⟩ (.int .i64 d)).alloc (.cells #[.int .i64 a, .int .i64 i, .string s, .slice A1 n1 c1, .slice A2 n2 c2, .slice A3 n3 c3, .slice A4 n4 c4] 27)).heap[w2.heap.size]? = some (.cells #[.int .i64 a, .int .i64 i, .string s, .slice A1 n1 c1, .slice A2 n2 c2, .slice A3 n3 c3, .slice A4 n4 c4] 27 (0, 0)) := new_at' _ (by simp)
  have hL4 : Left p q r d w ((w2.setCell ⟨p, 1, none⟩ (.int .i64 d)).alloc (.cells #[.int .i64 a, .int .i64 i, .string s, .slice A1 n1 c1, .slice A2 n2 c2, .slice A3 n3 c3, .slice A4 n4 c4] 27)) := (Left.up HE1.out hL2').alloc _
  obtain ⟨x0, x1, x2, x3, x4, x5, x6⟩ := cells7 y4
  clear hL2' k2 y4
  obtain ⟨e0, e1, e2, e3, e4, e5, e6⟩ := cells7 k4
  obtain ⟨z0, z1, z2, z3, z4, z5, z6⟩ := frozen7 k4
  have HK3 := Lib.hid k4
  have HL3 := Lib.hid hL4
  clear k4 hL4
  go_wp2
  obtain ⟨V, hV⟩ : ∃ V, V = (((((((((w2.setCell ⟨p, 1, none⟩ (.int .i64 d)).alloc (.cells #[.int .i64 a, .int .i64 i, .string s, .slice A1 n1 c1, .slice A2 n2 c2, .slice A3 n3 c3, .slice A4 n4 c4] 27)).setCell ⟨w.heap.size, 0, none⟩ (.int .i64 a)).setCell ⟨w.heap.size, 1, none⟩ (.int .i64 i)).setCell ⟨w.heap.size, 2, none⟩ (.string s)).setCell ⟨w.heap.size, 3, none⟩ (.slice A1 n1 c1)).setCell ⟨w.heap.size, 4, none⟩ (.slice A2 n2 c2)).setCell ⟨w.heap.size, 5, none⟩ (.slice A3 n3 c3)).setCell ⟨w.heap.size, 6, none⟩ (.slice A4 n4 c4)) := ⟨_, rfl⟩
  rw [← hV]
  obtain ⟨hLV, hob, hszV, hsm, hoth⟩ := boxR7 HK3.out (Nat.le_refl _) hlp HL3.out (.int .i64 a) (.int .i64 i) (.string s) (.slice A1 n1 c1) (.slice A2 n2 c2) (.slice A3 n3 c3) (.slice A4 n4 c4) V hV
  clear hV e0 e1 e2 e3 e4 e5 e6 z0 z1 z2 z3 z4 z5 z6
  obtain ⟨ps0, ps1, ps2, ps3, ps4, ps5, ps6⟩ := cells7 hob
  refine bodyPost_ret (v := .tuple #[.agg #[.int .i64 a, .int .i64 i, .string s, .slice A1 n1 c1, .slice A2 n2 c2, .slice A3 n3 c3, .slice A4 n4 c4], .bool false]) (by simp [results, Tryz.results21, go_sem, ps0, ps1, ps2, ps3, ps4, ps5, ps6]) rfl ?_
  exact valPost_no HQ.out hLV
 | some vq =>
  obtain ⟨v, q0⟩ := vq
  rw [huo] at hu
  have HQ1 : Hid (oo = match cutP [64, 40] q0 with | none => some (v, q0) | some r2 => match seqL labelP [32] r2 with | none => none | some (l, r3) => match cutP [41] r3 with | none => none | some q => some (setL l v, q)) := Lib.hid (by rw [HQ0.out, huo])
  clear huo HQ0
  go_enter Tryz.func21, Tryz.ntmps21
  go_wp2_with fail
  rw [← hW1]
  clear hW hW1 c1 f1
  refine hu.mono ?_
  rintro e w2 ⟨a, i, s, A1, n1, c1, A2, n2, c2, A3, n3, c3, A4, n4, c4, q, rfl, hL2', hres⟩
  clear hu
  obtain ⟨rfl, hvb⟩ := hres _ _ rfl
  clear hres
  have hp2 : p < w2.heap.size := hL2'.2.1.lt
  have hwp : w2.heap.size ≠ p := by omega
  obtain ⟨_, b1, _, g1⟩ := (hL2'.alloc (.cells #[.int .i64 a, .int .i64 i, .string s, .slice A1 n1 c1, .slice A2 n2 c2, .slice A3 n3 c3, .slice A4 n4 c4] 27)).2.1.cells
  have k2 := hL2'.box HK1.out hne
  obtain ⟨w4, hw4⟩ : ∃ w4, w4 = ((w2.setCell ⟨p, 1, none⟩ (.int .i64 d)).alloc (.cells #[.int .i64 a, .int .i64 i, .string s, .slice A1 n1 c1, .slice A2 n2 c2, .slice A3 n3 c3, .slice A4 n4 c4] 27)) := ⟨_, rfl⟩
  have k4 : w4.heap[w.heap.size]? = some (.cells #[.int .i64 0, .int .i64 0, .string ⟨#[]⟩, .slice none 0 0, .slice none 0 0, .slice none 0 0, .slice none 0 0] 27 (0, 0)) := by rw [hw4]; exact (Below.heap_alloc _ _ _ (by simpa using (Array.getElem?_eq_some_iff.1 k2).1)).trans ((heap_setCell_other _ _ _ _ hne).trans k2)
  have y4 : w4.heap[w2.heap.size]? = some (.cells #[.int .i64 a, .int .i64 i, .string s, .slice A1 n1 c1, .slice A2 n2 c2, .slice A3 n3 c3, .slice A4 n4 c4] 27 (0, 0)) := by rw [hw4]; exact new_at' _ (by simp)
  have hL4 : Left p q r d w w4 := by rw [hw4]; exact (Left.up HE1.out hL2').alloc _
  have hs4 : w4.heap.size = w2.heap.size + 1 := by rw [hw4]; simp
  have hsm4 : Same (Btw W1.heap.size w2.heap.size) w2 w4 := by
   rw [hw4]
   exact (same_set (Same.refl _ _) (fun h => by have := h.1; omega)).trans ⟨by simp, fun b j _ hl => World.cell?_of_block (Below.heap_alloc _ _ _ hl)⟩
  have HS2 := Lib.hid (show W1.heap.size = w.heap.size + 1 ∧ W1.heap.size ≤ w2.heap.size ∧ p < w.heap.size from ⟨hs1, hL2'.size, hlp⟩)
  have hwg : w.heap.size < w2.heap.size := by have := hL2'.size; omega
  have HV := Lib.hid hvb
  have HVB := HV
  have hql := hL4.2.2
  have HK4 := Lib.hid k4
  have HY4 := Lib.hid y4
  have HL4 := Lib.hid hL4
  have HS4 := Lib.hid hs4
  have HSM4 := Lib.hid hsm4
  clear hL2' k2 k4 y4 hs4 hsm4 hvb
  cases hc : cutP [64, 40] q with
  | none =>
   have hac := accept_no p q [64, 40] d w4 hL4.2.1 hc
   have HQ : Hid (oo = some (v, q)) := Lib.hid (by rw [HQ1.out, hc])
   clear hc HQ1 hL4
   go_wp2_with fail
   rw [← hw4]
   clear hw4 b1 g1
   refine hac.mono ?_
   rintro e w5 ⟨rfl, hL5', hs5⟩
   clear hac
   have k5 := hL5'.box HK4.out hne
   have y5 := hL5'.box HY4.out hwp
   have HSM := Lib.hid (HSM4.out.trans (hL5'.1.same (fun b hb => by have := hb.1; omega)))
   have HS5 := Lib.hid (show w2.heap.size + 1 ≤ w5.heap.size from by have := HS4.out; omega)
   have hL5 := HL4.out.trans hL5'
   obtain ⟨x0, x1, x2, x3, x4, x5, x6⟩ := cells7 y5
   clear hL5' hs5 y5
   obtain ⟨e0, e1, e2, e3, e4, e5, e6⟩ := cells7 k5
   obtain ⟨z0, z1, z2, z3, z4, z5, z6⟩ := frozen7 k5
   have HK3 := Lib.hid k5
   have HL3 := Lib.hid hL5
   clear k5 hL5
   go_wp2
   obtain ⟨V, hV⟩ : ∃ V, V = (((((((w5.setCell ⟨w.heap.size, 0, none⟩ (.int .i64 a)).setCell ⟨w.heap.size, 1, none⟩ (.int .i64 i)).setCell ⟨w.heap.size, 2, none⟩ (.string s)).setCell ⟨w.heap.size, 3, none⟩ (.slice A1 n1 c1)).setCell ⟨w.heap.size, 4, none⟩ (.slice A2 n2 c2)).setCell ⟨w.heap.size, 5, none⟩ (.slice A3 n3 c3)).setCell ⟨w.heap.size, 6, none⟩ (.slice A4 n4 c4)) := ⟨_, rfl⟩
   rw [← hV]
   obtain ⟨hLV, hob, hszV, hsm, hoth⟩ := boxR7 HK3.out (Nat.le_refl _) hlp HL3.out (.int .i64 a) (.int .i64 i) (.string s) (.slice A1 n1 c1) (.slice A2 n2 c2) (.slice A3 n3 c3) (.slice A4 n4 c4) V hV
   clear hV e0 e1 e2 e3 e4 e5 e6 z0 z1 z2 z3 z4 z5 z6
   obtain ⟨ps0, ps1, ps2, ps3, ps4, ps5, ps6⟩ := cells7 hob
   refine bodyPost_ret (v := .tuple #[.agg #[.int .i64 a, .int .i64 i, .string s, .slice A1 n1 c1, .slice A2 n2 c2, .slice A3 n3 c3, .slice A4 n4 c4], .bool true]) (by simp [results, Tryz.results21, go_sem, ps0, ps1, ps2, ps3, ps4, ps5, ps6]) rfl ?_
   have hs2 := HS2.out
   have hs5 := HS5.out
   refine valPost_yes HQ.out hLV ?_
   refine VB.sub (k := kN5 n + 1048578) (B := Btw W1.heap.size w2.heap.size) (fun b hb => ⟨by have := hb.1; omega, by have := hb.2; omega⟩) (by unfold kN5; omega) (VB.keep (Same.trans ?_ (hsm _ (fun h => by have := h.1; omega))) HVB.out)
   exact HSM.out
  | some r2 =>
   have hac := accept_yes p q [64, 40] r2 d w4 hL4.2.1 hc
   have HQ2 : Hid (oo = match seqL labelP [32] r2 with | none => none | some (l, r3) => match cutP [41] r3 with | none => none | some q => some (setL l v, q)) := Lib.hid (by rw [HQ1.out, hc])
   have hrl := cutP_len hc
   clear hc HQ1 hL4
   have hmf : (Instr.makeFunc (.func 45) #[.pointer (some ⟨p, 0, none⟩)] #[]).run Tryz.prog = fun w => .ok (.func (.func 45) #[.pointer (some ⟨p, 0, none⟩)] #[]) w := rfl
   go_wp2_with fail
   rw [← hw4]
   clear hw4 b1 g1
   refine hac.mono ?_
   rintro e w5 ⟨rfl, hL5', hs5⟩
   clear hac hmf
   have hsq := seqL_any B p hBp d labelP (Lib.hid (label_item B p d)) [32] (by decide) r2 w5 hL5'.2.1 (by unfold limP; omega) (HE.out.eff (HL4.out.trans hL5').1 hBp)
   have HK5 := Lib.hid (hL5'.box HK4.out hne)
   have HY5 := Lib.hid (hL5'.box HY4.out hwp)
   have HSM5 := Lib.hid (HSM4.out.trans (hL5'.1.same (fun b hb => by have := hb.1; omega)))
   have HS5 := Lib.hid (show w2.heap.size + 1 ≤ w5.heap.size from by have := HS4.out; omega)
   have HL5 := Lib.hid (HL4.out.trans hL5')
   clear hL5' hs5
   generalize hso : seqL labelP [32] r2 = so at hsq HQ2
   clear hso
   go_wp2_with fail
   refine hsq.mono ?_
   rintro e w6 ⟨A, m, cap, z, l, rfl, hL6', ⟨hml, hmr, hown⟩, hres⟩
   clear hsq
   have k6 := hL6'.box HK5.out hne
   have y6 := hL6'.box HY5.out hwp
   have hL6 := HL5.out.trans hL6'
   have hs6 := hL6'.size
   obtain ⟨w7, hw7⟩ : ∃ w7, w7 = w6.setCell ⟨w2.heap.size, 6, none⟩ (.slice A m cap) := ⟨_, rfl⟩
   have k7 : w7.heap[w.heap.size]? = some (.cells #[.int .i64 0, .int .i64 0, .string ⟨#[]⟩, .slice none 0 0, .slice none 0 0, .slice none 0 0, .slice none 0 0] 27 (0, 0)) := by rw [hw7]; exact (heap_setCell_other _ _ _ _ (show w.heap.size ≠ w2.heap.size by omega)).trans k6
   have y7 : w7.heap[w2.heap.size]? = some (.cells #[.int .i64 a, .int .i64 i, .string s, .slice A1 n1 c1, .slice A2 n2 c2, .slice A3 n3 c3, .slice A m cap] 27 (0, 0)) := by rw [hw7]; exact heap_setCell_same w6 _ 6 _ _ _ y6
   have hL7 : Left p z r d w w7 := by rw [hw7]; exact hL6.set hlp (by omega)
   have hs7 : w7.heap.size = w6.heap.size := by rw [hw7]; simp
   have hsm7 : Same (Btw W1.heap.size w2.heap.size) w5 w7 := by
    rw [hw7]
    exact same_set (hL6'.1.same (fun b hb => by have := hb.1; omega)) (fun h => by have := h.2; omega)
   have hsm7b : Same (Btw w5.heap.size w6.heap.size) w6 w7 := by
    rw [hw7]
    exact same_set (Same.refl _ _) (fun h => by have := h.1; have := HS5.out; omega)
   obtain ⟨_, _, _, _, _, _, b6⟩ := cells7 y6
   obtain ⟨_, _, _, _, _, _, g6⟩ := frozen7 y6
   have HR := Lib.hid hres
   have HOWN := Lib.hid hown
   have HLN := Lib.hid hml
   have HS6 := Lib.hid (show w5.heap.size ≤ w6.heap.size ∧ w7.heap.size = w6.heap.size from ⟨hs6, hs7⟩)
   clear k6 y6 hL6 hL6' hs6 hs7 hres hown hml
   cases so with
   | none =>
    have HQ : Hid (oo = none) := Lib.hid HQ2.out
    obtain ⟨x0, x1, x2, x3, x4, x5, x6⟩ := cells7 y7
    have hk7 := k7
    have hLL7 := hL7
    rw [hw7] at x0 x1 x2 x3 x4 x5 x6 hk7 hLL7
    clear HQ2 hsm7 hsm7b k7 y7 hL7 hw7
    obtain ⟨e0, e1, e2, e3, e4, e5, e6⟩ := cells7 hk7
    obtain ⟨z0, z1, z2, z3, z4, z5, z6⟩ := frozen7 hk7
    have HK3 := Lib.hid hk7
    have HL3 := Lib.hid hLL7
    clear hk7 hLL7
    go_wp2
    obtain ⟨V, hV⟩ : ∃ V, V = ((((((((w6.setCell ⟨w2.heap.size, 6, none⟩ (.slice A m cap)).setCell ⟨w.heap.size, 0, none⟩ (.int .i64 a)).setCell ⟨w.heap.size, 1, none⟩ (.int .i64 i)).setCell ⟨w.heap.size, 2, none⟩ (.string s)).setCell ⟨w.heap.size, 3, none⟩ (.slice A1 n1 c1)).setCell ⟨w.heap.size, 4, none⟩ (.slice A2 n2 c2)).setCell ⟨w.heap.size, 5, none⟩ (.slice A3 n3 c3)).setCell ⟨w.heap.size, 6, none⟩ (.slice A m cap)) := ⟨_, rfl⟩
    rw [← hV]
    obtain ⟨hLV, hob, hszV, hsm, hoth⟩ := boxR7 HK3.out (Nat.le_refl _) hlp HL3.out (.int .i64 a) (.int .i64 i) (.string s) (.slice A1 n1 c1) (.slice A2 n2 c2) (.slice A3 n3 c3) (.slice A m cap) V hV
    clear hV e0 e1 e2 e3 e4 e5 e6 z0 z1 z2 z3 z4 z5 z6
    obtain ⟨ps0, ps1, ps2, ps3, ps4, ps5, ps6⟩ := cells7 hob
    refine bodyPost_ret (v := .tuple #[.agg #[.int .i64 a, .int .i64 i, .string s, .slice A1 n1 c1, .slice A2 n2 c2, .slice A3 n3 c3, .slice A m cap], .bool false]) (by simp [results, Tryz.results21, go_sem, ps0, ps1, ps2, ps3, ps4, ps5, ps6]) rfl ?_
    exact valPost_no HQ.out hLV
   | some lz =>
    obtain ⟨l', z'⟩ := lz
    obtain ⟨rfl, rfl⟩ := HR.out _ _ rfl
    have HROW := Lib.hid (show RowB w6 (Btw w5.heap.size w6.heap.size) 1 (.slice A m cap) m (fun j cs => ∃ x, l[j]? = some x ∧ cs = [.string ⟨x.toArray⟩] ∧ x.length ≤ maxLen) from by
     have h1 := HLN.out
     have h2 := HOWN.out
     subst h1
     exact (h2.row (by decide) (by unfold maxLen; omega)).sub (fun b hb => hb) (fun j cs ⟨x, hx, hv⟩ => ⟨x, hx, hv.1, hv.2⟩))
    cases hce : cutP [41] z with
    | none =>
     have hac := accept_no p z [41] d w7 hL7.2.1 hce
     have HQ : Hid (oo = none) := Lib.hid (by rw [HQ2.out]; simp only; rw [hce])
     have HK7 := Lib.hid k7
     have HY7 := Lib.hid y7
     have HL7 := Lib.hid hL7
     clear hce HQ2 k7 y7 hL7 hsm7 hsm7b
     go_wp2_with fail
     rw [← hw7]
     clear hw7 b6 g6
     refine hac.mono ?_
     rintro e w8 ⟨rfl, hL8', hs8⟩
     clear hac hs8
     have k8 := hL8'.box HK7.out hne
     have y8 := hL8'.box HY7.out hwp
     have hL8 := HL7.out.trans hL8'
     obtain ⟨x0, x1, x2, x3, x4, x5, x6⟩ := cells7 y8
     clear hL8' y8
     obtain ⟨e0, e1, e2, e3, e4, e5, e6⟩ := cells7 k8
     obtain ⟨z0, z1, z2, z3, z4, z5, z6⟩ := frozen7 k8
     have HK3 := Lib.hid k8
     have HL3 := Lib.hid hL8
     clear k8 hL8
     go_wp2
     obtain ⟨V, hV⟩ : ∃ V, V = (((((((w8.setCell ⟨w.heap.size, 0, none⟩ (.int .i64 a)).setCell ⟨w.heap.size, 1, none⟩ (.int .i64 i)).setCell ⟨w.heap.size, 2, none⟩ (.string s)).setCell ⟨w.heap.size, 3, none⟩ (.slice A1 n1 c1)).setCell ⟨w.heap.size, 4, none⟩ (.slice A2 n2 c2)).setCell ⟨w.heap.size, 5, none⟩ (.slice A3 n3 c3)).setCell ⟨w.heap.size, 6, none⟩ (.slice A m cap)) := ⟨_, rfl⟩
     rw [← hV]
     obtain ⟨hLV, hob, hszV, hsm, hoth⟩ := boxR7 HK3.out (Nat.le_refl _) hlp HL3.out (.int .i64 a) (.int .i64 i) (.string s) (.slice A1 n1 c1) (.slice A2 n2 c2) (.slice A3 n3 c3) (.slice A m cap) V hV
     clear hV e0 e1 e2 e3 e4 e5 e6 z0 z1 z2 z3 z4 z5 z6
     obtain ⟨ps0, ps1, ps2, ps3, ps4, ps5, ps6⟩ := cells7 hob
     refine bodyPost_ret (v := .tuple #[.agg #[.int .i64 a, .int .i64 i, .string s, .slice A1 n1 c1, .slice A2 n2 c2, .slice A3 n3 c3, .slice A m cap], .bool false]) (by simp [results, Tryz.results21, go_sem, ps0, ps1, ps2, ps3, ps4, ps5, ps6]) rfl ?_
     exact valPost_no HQ.out hLV
    | some u =>
     have hac := accept_yes p z [41] u d w7 hL7.2.1 hce
     have HQ : Hid (oo = some (setL l v, u)) := Lib.hid (by rw [HQ2.out]; simp only; rw [hce])
     have HK7 := Lib.hid k7
     have HY7 := Lib.hid y7
     have HL7 := Lib.hid hL7
     have HSM7 := Lib.hid (And.intro hsm7 hsm7b)
     clear hce HQ2 k7 y7 hL7 hsm7 hsm7b
     go_wp2_with fail
     rw [← hw7]
     clear hw7 b6 g6
     refine hac.mono ?_
     rintro e w8 ⟨rfl, hL8', hs8⟩
     clear hac
     have k8 := hL8'.box HK7.out hne
     have y8 := hL8'.box HY7.out hwp
     have hL8 := HL7.out.trans hL8'
     have HSM := HSM5
     have HSM8 := Lib.hid (And.intro (HSM7.out.1.trans (hL8'.1.same (fun b hb => by have := hb.1; omega))) (HSM7.out.2.trans (hL8'.1.same (fun b hb => by have := hb.1; have := HS5.out; omega))))
     have HS8 := Lib.hid hs8
     obtain ⟨x0, x1, x2, x3, x4, x5, x6⟩ := cells7 y8
     clear hL8' y8 hs8
     obtain ⟨e0, e1, e2, e3, e4, e5, e6⟩ := cells7 k8
     obtain ⟨z0, z1, z2, z3, z4, z5, z6⟩ := frozen7 k8
     have HK3 := Lib.hid k8
     have HL3 := Lib.hid hL8
     clear k8 hL8
     go_wp2
     obtain ⟨V, hV⟩ : ∃ V, V = (((((((w8.setCell ⟨w.heap.size, 0, none⟩ (.int .i64 a)).setCell ⟨w.heap.size, 1, none⟩ (.int .i64 i)).setCell ⟨w.heap.size, 2, none⟩ (.string s)).setCell ⟨w.heap.size, 3, none⟩ (.slice A1 n1 c1)).setCell ⟨w.heap.size, 4, none⟩ (.slice A2 n2 c2)).setCell ⟨w.heap.size, 5, none⟩ (.slice A3 n3 c3)).setCell ⟨w.heap.size, 6, none⟩ (.slice A m cap)) := ⟨_, rfl⟩
     rw [← hV]
     obtain ⟨hLV, hob, hszV, hsm, hoth⟩ := boxR7 HK3.out (Nat.le_refl _) hlp HL3.out (.int .i64 a) (.int .i64 i) (.string s) (.slice A1 n1 c1) (.slice A2 n2 c2) (.slice A3 n3 c3) (.slice A m cap) V hV
     clear hV e0 e1 e2 e3 e4 e5 e6 z0 z1 z2 z3 z4 z5 z6
     obtain ⟨ps0, ps1, ps2, ps3, ps4, ps5, ps6⟩ := cells7 hob
     refine bodyPost_ret (v := .tuple #[.agg #[.int .i64 a, .int .i64 i, .string s, .slice A1 n1 c1, .slice A2 n2 c2, .slice A3 n3 c3, .slice A m cap], .bool true]) (by simp [results, Tryz.results21, go_sem, ps0, ps1, ps2, ps3, ps4, ps5, ps6]) rfl ?_
     have hs2 := HS2.out
     have hs5 := HS5.out
     have hs6 := HS6.out
     have hs8 := HS8.out
     refine valPost_yes HQ.out hLV ?_
     have hv8 := VB.keep ((HSM.out.trans HSM8.out.1).trans (hsm _ (fun h => by have := h.1; omega))) HVB.out
     have hr8 := (HROW.out.keep (R' := fun j cs => ∃ x, l[j]? = some x ∧ cs = [.string ⟨x.toArray⟩] ∧ x.length ≤ maxLen) (HSM8.out.2.trans (hsm _ (fun h => by have := h.1; omega))) (fun _ _ h => h))
     have hln := HLN.out
     subst hln
     exact VB.sub (k := kN5 n + 1048578) (B := Btw w.heap.size V.heap.size) (fun b hb => hb) (by unfold kN5; omega) (vb_labs5 (VB.sub (B := Btw W1.heap.size w2.heap.size) (fun b hb => ⟨by have := hb.1; omega, by have := hb.2; omega⟩) (Nat.le_refl _) hv8) (hr8.sub (fun b hb => ⟨by have := hb.1; omega, by have := hb.2; omega⟩) (fun _ _ h => h)))
end Go.Proofs.YtcjgaohblaidjaaGreatDoor
