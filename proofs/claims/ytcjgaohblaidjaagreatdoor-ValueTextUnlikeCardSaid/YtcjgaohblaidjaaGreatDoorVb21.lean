/- What list of the program's parser gives, with value as it reads deeper. -/
import Derived.Test.YtcjgaohblaidjaaGreatDoorVb07
import Derived.Test.YtcjgaohblaidjaaGreatDoorVb17
import Derived.StillTailTactics
namespace Go.Proofs.YtcjgaohblaidjaaGreatDoor
open Go Go.RowKit
def lenS5 : Value → Nat
 | .slice _ n _ => n
 | _ => 0
theorem nl_vb (k : Nat) (w : World) (B : Nat → Prop) : VB (k + 1) w B nlV [.int .i64 5, .int .i64 0, .string ⟨#[]⟩, .slice none 0 0, .slice none 0 0, .slice none 0 0, .slice none 0 0] := vb_leaf k w B 5 0 [] (by decide) (by decide) (by simp)
theorem cn_vb {k : Nat} {w : World} {B : Nat → Prop} {x t : Vl} {g n cap : Nat} {ca cb : List Value} (hB : B g) (hg : g < w.heap.size) (ha : VB k w B x ca) (hb : VB k w B t cb) (hla : ca.length = 7) (hlb : cb.length = 7) (hn : n = 2) (hcap : 2 ≤ cap)
  (hc : ∀ i, i < 14 → w.cell? ⟨g, i, none⟩ = (ca ++ cb)[i]?) : VB (k + 1) w B (cnV x t) [.int .i64 7, .int .i64 0, .string ⟨#[]⟩, .slice (some ⟨g, 0, none⟩) n cap, .slice none 0 0, .slice none 0 0, .slice none 0 0] := by
 subst hn
 have hz : ∀ (c : Nat) (R : Nat → List Value → Prop), RowB w B c (.slice none 0 0) 0 R := fun c R => ⟨none, 0, rfl, ⟨Nat.zero_le _, Nat.le_refl _⟩, fun h => absurd h (Nat.lt_irrefl _)⟩
 refine ⟨_, _, _, _, rfl, by decide, by decide, by simp, ?_, hz _ _, hz _ _, hz _ _⟩
 refine ⟨some ⟨g, 0, none⟩, cap, rfl, ⟨by simp [maxLen], hcap⟩, fun _ => ⟨g, 0, rfl, hB, hg, fun j hj => ?_⟩⟩
 have hj2 : j = 0 ∨ j = 1 := by simp at hj; omega
 rcases hj2 with rfl | rfl
 ·
  refine ⟨ca, hla, fun i hi => ?_, x, rfl, ha⟩
  rw [show 0 + 0 * 7 + i = i by omega, hc i (by omega), List.getElem?_append_left (by omega)]
 ·
  refine ⟨cb, hlb, fun i hi => ?_, t, rfl, hb⟩
  rw [show 0 + 1 * 7 + i = 7 + i by omega, hc (7 + i) (by omega), List.getElem?_append_right (by omega), show 7 + i - ca.length = i by omega]
theorem below_set7 {H g : Nat} {a w : World} (h : Below H a w) (hg : H ≤ g) (v0 v1 v2 v3 v4 v5 v6 : Value) : Below H a (((((((w.setCell ⟨g, 0, none⟩ v0).setCell ⟨g, 1, none⟩ v1).setCell ⟨g, 2, none⟩ v2).setCell ⟨g, 3, none⟩ v3).setCell ⟨g, 4, none⟩ v4).setCell ⟨g, 5, none⟩ v5).setCell ⟨g, 6, none⟩ v6) :=
 Below.setCell (Below.setCell (Below.setCell (Below.setCell (Below.setCell (Below.setCell (Below.setCell h (p := ⟨g, 0, none⟩) hg _) (p := ⟨g, 1, none⟩) hg _) (p := ⟨g, 2, none⟩) hg _) (p := ⟨g, 3, none⟩) hg _) (p := ⟨g, 4, none⟩) hg _) (p := ⟨g, 5, none⟩) hg _) (p := ⟨g, 6, none⟩) hg _
theorem VB.same {k : Nat} {w : World} {B B' : Nat → Prop} {v : Vl} {cs : List Value} (h : VB k w B v cs) (hB : ∀ b, B b → B' b) : VB k w B' v cs := VB.sub hB (Nat.le_refl _) h
set_option maxRecDepth 100000 in
set_option maxHeartbeats 6400000 in
theorem listP_any5 (B k p : Nat) (hk1 : 1 ≤ k) (hBp : B ≤ p) (d : Int) (val : Rd Vl) (hI : Hid (ValI B k p d val)) (r : Bs) (w : World) (h : PrsW p r d w) (hr : r.length ≤ limP) (hE : EnvH B w) :
  Calls Tryz.prog 80 #[.pointer (some ⟨p, 0, none⟩)] w (ValPost (k + 1048578) p d (listP val r) r w) := by
 have HE := Lib.hid hE
 have hlp := h.lt
 unfold limP at hr
 obtain ⟨W, hW⟩ : ∃ W, W = w.alloc (.cells #[.int .i64 0, .int .i64 0, .string ⟨#[]⟩, .slice none 0 0, .slice none 0 0, .slice none 0 0, .slice none 0 0] 27) := ⟨_, rfl⟩
 have kW : W.heap[w.heap.size]? = some (.cells #[.int .i64 0, .int .i64 0, .string ⟨#[]⟩, .slice none 0 0, .slice none 0 0, .slice none 0 0, .slice none 0 0] 27 (0, 0)) := by rw [hW]; exact heap_alloc_new w _
 have hLW : Left p r r d w W := by rw [hW]; exact (Left.refl h).alloc _
 have hsW : W.heap.size = w.heap.size + 1 := by rw [hW]; simp
 have hne : w.heap.size ≠ p := by omega
 have hEW := hE.eff hLW.1 hBp
 clear h hE
 have HKW := Lib.hid kW
 cases hc : cutP [93] r with
 | some u =>
  have hac := accept_yes p r [93] u d W hLW.2.1 hc
  have HQ : Hid (listP val r = some (nlV, u)) := Lib.hid (by unfold listP; rw [hc])
  have HLW := Lib.hid hLW
  clear hc hLW kW hEW
  go_enter Tryz.func80, Tryz.ntmps80
  go_wp2_with fail
  rw [← hW]
  clear hW
  refine hac.mono ?_
  rintro e w2 ⟨rfl, hL2', hs2⟩
  clear hac hs2
  have hni := nil_any w2
  have k2 := hL2'.box HKW.out hne
  have HK2 := Lib.hid k2
  have HL2 := Lib.hid (HLW.out.trans hL2')
  clear hL2' k2
  go_wp2_with fail
  refine hni.mono ?_
  rintro e w3 ⟨rfl, hb3⟩
  clear hni
  have k3 := (hb3.block _ (Array.getElem?_eq_some_iff.1 HK2.out).1).trans HK2.out
  have hL3 := HL2.out.below hb3
  clear hb3
  obtain ⟨e0, e1, e2, e3, e4, e5, e6⟩ := cells7 k3
  obtain ⟨z0, z1, z2, z3, z4, z5, z6⟩ := frozen7 k3
  have HK3 := Lib.hid k3
  have HL3 := Lib.hid hL3
  clear k3 hL3
  go_wp2
  obtain ⟨V, hV⟩ : ∃ V, V = (((((((w3.setCell ⟨w.heap.size, 0, none⟩ (.int .i64 5)).setCell ⟨w.heap.size, 1, none⟩ (.int .i64 0)).setCell ⟨w.heap.size, 2, none⟩ (.string ⟨#[]⟩)).setCell ⟨w.heap.size, 3, none⟩ (.slice none 0 0)).setCell ⟨w.heap.size, 4, none⟩ (.slice none 0 0)).setCell ⟨w.heap.size, 5, none⟩ (.slice none 0 0)).setCell ⟨w.heap.size, 6, none⟩ (.slice none 0 0)) := ⟨_, rfl⟩
  rw [← hV]
  obtain ⟨hLV, hob, hszV, hsm, hoth⟩ := boxR7 HK3.out (Nat.le_refl _) hlp HL3.out (.int .i64 5) (.int .i64 0) (.string ⟨#[]⟩) (.slice none 0 0) (.slice none 0 0) (.slice none 0 0) (.slice none 0 0) V hV
  clear hV e0 e1 e2 e3 e4 e5 e6 z0 z1 z2 z3 z4 z5 z6
  obtain ⟨ps0, ps1, ps2, ps3, ps4, ps5, ps6⟩ := cells7 hob
  refine bodyPost_ret (v := .tuple #[.agg #[.int .i64 5, .int .i64 0, .string ⟨#[]⟩, .slice none 0 0, .slice none 0 0, .slice none 0 0, .slice none 0 0], .bool true]) (by simp [results, Tryz.results80, go_sem, ps0, ps1, ps2, ps3, ps4, ps5, ps6]) rfl ?_
  exact valPost_yes HQ.out hLV (nl_vb (k + 1048577) _ _)
 | none =>
  have hac := accept_no p r [93] d W hLW.2.1 hc
  have HC0 := Lib.hid hc
  have HLW := Lib.hid hLW
  clear hc hLW kW hEW
  go_enter Tryz.func80, Tryz.ntmps80
  go_wp2_with fail
  rw [← hW]
  clear hW
  refine hac.mono ?_
  rintro e w1 ⟨rfl, hL1', hs1⟩
  clear hac
  have k1 := hL1'.box HKW.out hne
  have hL1 := HLW.out.trans hL1'
  have hsq := seqV_any B k p hBp d val hI commaL (by decide) r w1 hL1.2.1 (by unfold limP; omega) (HE.out.eff hL1.1 hBp)
  have HK1 := Lib.hid k1
  have HL1 := Lib.hid hL1
  have HS1 := Lib.hid hs1
  clear hL1' k1 hL1 hs1
  cases hsl : seqL val commaL r with
  | none =>
   rw [hsl] at hsq
   have HQ : Hid (listP val r = none) := Lib.hid (by unfold listP; rw [HC0.out]; simp only; rw [hsl])
   clear hsl
   go_wp2_with fail
   refine hsq.mono ?_
   rintro e w2 ⟨A, n, cap, q, l, rfl, hL2', ⟨hn, hnl, hown⟩, hres⟩
   clear hsq hres hn hnl hown
   have k2 := hL2'.box HK1.out hne
   have HK2 := Lib.hid k2
   have HL2 := Lib.hid (HL1.out.trans hL2')
   clear hL2' k2
   have hni := nil_any w2
   go_wp2_with fail
   refine hni.mono ?_
   rintro e w3 ⟨rfl, hb3⟩
   clear hni
   have k3' := (hb3.block _ (Array.getElem?_eq_some_iff.1 HK2.out).1).trans HK2.out
   have k3 := (Below.heap_alloc w3 (.cells #[.int .i64 5, .int .i64 0, .string ⟨#[]⟩, .slice none 0 0, .slice none 0 0, .slice none 0 0, .slice none 0 0] 27) _ (Array.getElem?_eq_some_iff.1 k3').1).trans k3'
   have hL3 := (HL2.out.below hb3).alloc (.cells #[.int .i64 5, .int .i64 0, .string ⟨#[]⟩, .slice none 0 0, .slice none 0 0, .slice none 0 0, .slice none 0 0] 27)
   clear hb3 k3'
   obtain ⟨e0, e1, e2, e3, e4, e5, e6⟩ := cells7 k3
   obtain ⟨z0, z1, z2, z3, z4, z5, z6⟩ := frozen7 k3
   have HK3 := Lib.hid k3
   have HL3 := Lib.hid hL3
   clear k3 hL3
   go_wp2
   obtain ⟨V, hV⟩ : ∃ V, V = ((((((((w3.alloc (.cells #[.int .i64 5, .int .i64 0, .string ⟨#[]⟩, .slice none 0 0, .slice none 0 0, .slice none 0 0, .slice none 0 0] 27)).setCell ⟨w.heap.size, 0, none⟩ (.int .i64 0)).setCell ⟨w.heap.size, 1, none⟩ (.int .i64 0)).setCell ⟨w.heap.size, 2, none⟩ (.string ⟨#[]⟩)).setCell ⟨w.heap.size, 3, none⟩ (.slice none 0 0)).setCell ⟨w.heap.size, 4, none⟩ (.slice none 0 0)).setCell ⟨w.heap.size, 5, none⟩ (.slice none 0 0)).setCell ⟨w.heap.size, 6, none⟩ (.slice none 0 0)) := ⟨_, rfl⟩
   rw [← hV]
   obtain ⟨hLV, hob, hszV, hsm, hoth⟩ := boxR7 HK3.out (Nat.le_refl _) hlp HL3.out (.int .i64 0) (.int .i64 0) (.string ⟨#[]⟩) (.slice none 0 0) (.slice none 0 0) (.slice none 0 0) (.slice none 0 0) V hV
   clear hV e0 e1 e2 e3 e4 e5 e6 z0 z1 z2 z3 z4 z5 z6
   obtain ⟨ps0, ps1, ps2, ps3, ps4, ps5, ps6⟩ := cells7 hob
   refine bodyPost_ret (v := .tuple #[.agg #[.int .i64 0, .int .i64 0, .string ⟨#[]⟩, .slice none 0 0, .slice none 0 0, .slice none 0 0, .slice none 0 0], .bool false]) (by simp [results, Tryz.results80, go_sem, ps0, ps1, ps2, ps3, ps4, ps5, ps6]) rfl ?_
   exact valPost_no HQ.out hLV
  | some lt =>
   obtain ⟨l, r2⟩ := lt
   rw [hsl] at hsq
   have HSL := Lib.hid hsl
   clear hsl
   go_wp2_with fail
   refine hsq.mono ?_
   rintro e w2 ⟨A, n, cap, q, l0, rfl, hL2', ⟨hn, hnl, hown⟩, hres⟩
   clear hsq
   obtain ⟨rfl, rfl⟩ := hres _ _ rfl
   clear hres
   subst hn
   have hrow := hown.row (by decide) (by unfold maxLen; omega)
   generalize hn : l0.length = n at hrow hnl hown
   have HN := Lib.hid hn
   have hNB : n ≤ 1048577 := by omega
   have k2 := hL2'.box HK1.out hne
   have HK2 := Lib.hid k2
   have HL2 := Lib.hid (HL1.out.trans hL2')
   have hgw : w.heap.size < w1.heap.size := (Array.getElem?_eq_some_iff.1 HK1.out).1
   have hW1 : W.heap.size = w1.heap.size := HS1.out.symm
   have hW2 : w1.heap.size ≤ w2.heap.size := hL2'.size
   rw [← hW1] at hrow
   have HROW := Lib.hid hrow
   clear hL2' k2 hown hrow hnl
   have hni := nil_any w2
   go_wp2_with fail
   refine hni.mono ?_
   rintro e w3 ⟨rfl, hb3⟩
   clear hni
   obtain ⟨w4, hw4⟩ : ∃ w4, w4 = w3.alloc (.cells #[.int .i64 5, .int .i64 0, .string ⟨#[]⟩, .slice none 0 0, .slice none 0 0, .slice none 0 0, .slice none 0 0] 27) := ⟨_, rfl⟩
   have hW3 : w2.heap.size ≤ w3.heap.size := hb3.size
   have hW4 : w4.heap.size = w3.heap.size + 1 := by rw [hw4]; simp
   have k3' := (hb3.block _ (Array.getElem?_eq_some_iff.1 HK2.out).1).trans HK2.out
   have k4 : w4.heap[w.heap.size]? = some (.cells #[.int .i64 0, .int .i64 0, .string ⟨#[]⟩, .slice none 0 0, .slice none 0 0, .slice none 0 0, .slice none 0 0] 27 (0, 0)) := by rw [hw4]; exact (Below.heap_alloc w3 _ _ (Array.getElem?_eq_some_iff.1 k3').1).trans k3'
   have kb4 : w4.heap[w3.heap.size]? = some (.cells #[.int .i64 5, .int .i64 0, .string ⟨#[]⟩, .slice none 0 0, .slice none 0 0, .slice none 0 0, .slice none 0 0] 27 (0, 0)) := by rw [hw4]; exact heap_alloc_new w3 _
   have hL4 : Left p q r d w w4 := by rw [hw4]; exact (HL2.out.below hb3).alloc _
   have hb24 : Below w2.heap.size w2 w4 := by rw [hw4]; exact hb3.alloc (by omega) _
   have hrow4 : RowB w4 (Btw W.heap.size w3.heap.size) 7 (.slice A n cap) n (fun j cs => ∃ x, l0[j]? = some x ∧ VB k w4 (Btw W.heap.size w3.heap.size) x cs) := by
    refine (HROW.out.keep (Same.of_below hb24 fun b hb => hb.2) (R' := fun j cs => ∃ x, l0[j]? = some x ∧ VB k w4 (Btw W.heap.size w3.heap.size) x cs) ?_).sub (fun b hb => ⟨hb.1, by have := hb.2; omega⟩) (fun _ _ h => h)
    rintro j cs ⟨x, hx, hv⟩
    exact ⟨x, hx, VB.sub (fun b hb => ⟨hb.1, by have := hb.2; omega⟩) (Nat.le_refl _) (VB.keep (Same.of_below hb24 fun b hb => hb.2) hv)⟩
   have hql := hL4.2.2
   have hgp : w3.heap.size ≠ p := by omega
   have hrp : ∀ b, Btw W.heap.size w3.heap.size b → b ≠ p := fun b hb => by have := hb.1; omega
   have HG := Lib.hid (show w.heap.size < w3.heap.size ∧ W.heap.size = w.heap.size + 1 ∧ W.heap.size ≤ w3.heap.size from ⟨by omega, hsW, by omega⟩)
   have HRP := Lib.hid hrp
   have HK4 := Lib.hid k4
   have HKB4 := Lib.hid kb4
   have HL4 := Lib.hid hL4
   have HR4 := Lib.hid hrow4
   have HW4 := Lib.hid hW4
   have HNB := Lib.hid hNB
   clear k4 kb4 hrow4 hb24 k3' hb3 hrp hW4 hW3 hW2 hW1 hgw hNB
   cases hcb : cutP [32, 124, 32] q with
   | none =>
    have hac := accept_no p q [32, 124, 32] d w4 hL4.2.1 hcb
    clear hL4
    go_wp2_with fail
    rw [← hw4]
    clear hw4
    refine hac.mono ?_
    rintro e w5 ⟨rfl, hL5', hs5⟩
    clear hac
    cases hce : cutP [93] q with
    | none =>
     have hac := accept_no p q [93] d w5 hL5'.2.1 hce
     have HQ : Hid (listP val r = none) := Lib.hid (by unfold listP; rw [HC0.out]; simp only; rw [HSL.out]; simp only; rw [hcb]; simp only; rw [hce])
     have HL5 := Lib.hid hL5'
     clear hcb hce hL5' hs5
     go_wp2_with fail
     refine hac.mono ?_
     rintro e w6 ⟨rfl, hL6', hs6⟩
     clear hac
     have k6 := hL6'.box (HL5.out.box HK4.out hne) hne
     have hL6 := (HL4.out.trans HL5.out).trans hL6'
     clear hL6' hs6
     obtain ⟨e0, e1, e2, e3, e4, e5, e6⟩ := cells7 k6
     obtain ⟨z0, z1, z2, z3, z4, z5, z6⟩ := frozen7 k6
     have HK3 := Lib.hid k6
     have HL3 := Lib.hid hL6
     clear k6 hL6
     go_wp2
     obtain ⟨V, hV⟩ : ∃ V, V = (((((((w6.setCell ⟨w.heap.size, 0, none⟩ (.int .i64 0)).setCell ⟨w.heap.size, 1, none⟩ (.int .i64 0)).setCell ⟨w.heap.size, 2, none⟩ (.string ⟨#[]⟩)).setCell ⟨w.heap.size, 3, none⟩ (.slice none 0 0)).setCell ⟨w.heap.size, 4, none⟩ (.slice none 0 0)).setCell ⟨w.heap.size, 5, none⟩ (.slice none 0 0)).setCell ⟨w.heap.size, 6, none⟩ (.slice none 0 0)) := ⟨_, rfl⟩
     rw [← hV]
     obtain ⟨hLV, hob, hszV, hsm, hoth⟩ := boxR7 HK3.out (Nat.le_refl _) hlp HL3.out (.int .i64 0) (.int .i64 0) (.string ⟨#[]⟩) (.slice none 0 0) (.slice none 0 0) (.slice none 0 0) (.slice none 0 0) V hV
     clear hV e0 e1 e2 e3 e4 e5 e6 z0 z1 z2 z3 z4 z5 z6
     obtain ⟨ps0, ps1, ps2, ps3, ps4, ps5, ps6⟩ := cells7 hob
     refine bodyPost_ret (v := .tuple #[.agg #[.int .i64 0, .int .i64 0, .string ⟨#[]⟩, .slice none 0 0, .slice none 0 0, .slice none 0 0, .slice none 0 0], .bool false]) (by simp [results, Tryz.results80, go_sem, ps0, ps1, ps2, ps3, ps4, ps5, ps6]) rfl ?_
     exact valPost_no HQ.out hLV
    | some u =>
     have hac := accept_yes p q [93] u d w5 hL5'.2.1 hce
     have HQ : Hid (listP val r = some (l0.foldr cnV nlV, u)) := Lib.hid (by unfold listP; rw [HC0.out]; simp only; rw [HSL.out]; simp only; rw [hcb]; simp only; rw [hce])
     have HL5 := Lib.hid hL5'
     clear hcb hce hL5' hs5
     go_wp2_with fail
     refine hac.mono ?_
     rintro e w6 ⟨rfl, hL6', hs6⟩
     clear hac hs6
     have h46 : Left p u q d w4 w6 := HL5.out.trans hL6'
     have HK0 := Lib.hid (h46.box HK4.out hne)
     have HB0 := Lib.hid (h46.box HKB4.out hgp)
     have HL0 := Lib.hid (HL4.out.trans h46)
     have hss := h46.size
     have HSW := Lib.hid (show W.heap.size = w.heap.size + 1 ∧ W.heap.size ≤ w3.heap.size ∧ w3.heap.size < w6.heap.size from ⟨HG.out.2.1, HG.out.2.2, by have := HW4.out; omega⟩)
     have HV0 : Hid (VB k w6 (fun b => W.heap.size ≤ b ∧ b < w6.heap.size ∧ b ≠ w3.heap.size) nlV [.int .i64 5, .int .i64 0, .string ⟨#[]⟩, .slice none 0 0, .slice none 0 0, .slice none 0 0, .slice none 0 0]) := Lib.hid (by obtain ⟨k', rfl⟩ : ∃ k', k = k' + 1 := ⟨k - 1, by omega⟩; exact nl_vb k' _ _)
     have HR0 : Hid (RowB w6 (Btw W.heap.size w3.heap.size) 7 (.slice A n cap) n (fun j cs => ∃ x, l0[j]? = some x ∧ VB k w6 (Btw W.heap.size w3.heap.size) x cs)) := Lib.hid (HR4.out.keep (h46.1.same HRP.out) fun j cs ⟨x, hx, hv⟩ => ⟨x, hx, VB.keep (h46.1.same HRP.out) hv⟩)
     clear h46 hL6' hss
     go_wp2_with fail
     go_loopw [4] (fun lv wr => ∃ (m : Nat) (a i : Int) (s : ByteArray) (A1 A2 A3 A4 : Option Addr) (n1 c1 n2 c2 n3 c3 n4 c4 : Nat), lv = .slice A m cap ∧ m ≤ n ∧ Left p u r d w wr ∧ Below w3.heap.size w6 wr ∧ wr.heap[w3.heap.size]? = some (.cells #[.int .i64 a, .int .i64 i, .string s, .slice A1 n1 c1, .slice A2 n2 c2, .slice A3 n3 c3, .slice A4 n4 c4] 27 (0, 0)) ∧ w6.heap.size ≤ wr.heap.size ∧ VB (k + (n - m)) wr (fun b => W.heap.size ≤ b ∧ b < wr.heap.size ∧ b ≠ w3.heap.size) ((l0.drop m).foldr cnV nlV) [.int .i64 a, .int .i64 i, .string s, .slice A1 n1 c1, .slice A2 n2 c2, .slice A3 n3 c3, .slice A4 n4 c4]) (fun lv _ => lenS5 lv)
     case atStart =>
      refine ⟨n, _, _, _, _, _, _, _, _, _, _, _, _, _, _, _, rfl, Nat.le_refl _, HL0.out, Below.refl _ _, HB0.out, Nat.le_refl _, ?_⟩
      rw [List.drop_eq_nil_of_le (by have := HN.out; omega), Nat.sub_self]
      exact HV0.out
     case round =>
      obtain ⟨m, a, i, s, A1, A2, A3, A4, n1, c1, n2, c2, n3, c3, n4, c4, rfl, hm, hL, hb, kb, hsz, hv⟩ := hrel
      by_cases hm0 : m = 0
      ·
       subst hm0
       have mp : ¬ (0 : Int) < ((0 : Nat) : Int) := by omega
       have k3 := (hb.block _ HG.out.1).trans HK0.out
       have HVB := Lib.hid hv
       have hL3 := hL
       obtain ⟨q0, q1, q2, q3, q4, q5, q6⟩ := cells7 kb
       clear hv hb hL
       obtain ⟨e0, e1, e2, e3, e4, e5, e6⟩ := cells7 k3
       obtain ⟨z0, z1, z2, z3, z4, z5, z6⟩ := frozen7 k3
       have HK3 := Lib.hid k3
       have HL3 := Lib.hid hL3
       clear k3 hL3
       go_wp2
       obtain ⟨V, hV⟩ : ∃ V, V = (((((((wr.setCell ⟨w.heap.size, 0, none⟩ (.int .i64 a)).setCell ⟨w.heap.size, 1, none⟩ (.int .i64 i)).setCell ⟨w.heap.size, 2, none⟩ (.string s)).setCell ⟨w.heap.size, 3, none⟩ (.slice A1 n1 c1)).setCell ⟨w.heap.size, 4, none⟩ (.slice A2 n2 c2)).setCell ⟨w.heap.size, 5, none⟩ (.slice A3 n3 c3)).setCell ⟨w.heap.size, 6, none⟩ (.slice A4 n4 c4)) := ⟨_, rfl⟩
       rw [← hV]
       obtain ⟨hLV, hob, hszV, hsm, hoth⟩ := boxR7 HK3.out (Nat.le_refl _) hlp HL3.out (.int .i64 a) (.int .i64 i) (.string s) (.slice A1 n1 c1) (.slice A2 n2 c2) (.slice A3 n3 c3) (.slice A4 n4 c4) V hV
       clear hV e0 e1 e2 e3 e4 e5 e6 z0 z1 z2 z3 z4 z5 z6
       obtain ⟨ps0, ps1, ps2, ps3, ps4, ps5, ps6⟩ := cells7 hob
       refine bodyPost_ret (v := .tuple #[.agg #[.int .i64 a, .int .i64 i, .string s, .slice A1 n1 c1, .slice A2 n2 c2, .slice A3 n3 c3, .slice A4 n4 c4], .bool true]) (by simp [results, Tryz.results80, go_sem, ps0, ps1, ps2, ps3, ps4, ps5, ps6]) rfl ?_
       refine valPost_yes HQ.out hLV ?_
       have hv := HVB.out
       rw [List.drop_zero] at hv
       exact VB.sub (fun b hb => ⟨by have := hb.1; have := HSW.out; omega, by have := hb.2.1; omega⟩) (by have := HNB.out; omega) (VB.keep (hsm _ (fun h => by have := h.1; have := HSW.out; omega)) hv)
      ·
       obtain ⟨j, rfl⟩ : ∃ j, m = j + 1 := ⟨m - 1, by omega⟩
       have hRr : RowP wr w3.heap.size 7 (.slice A n cap) n (fun j cs => ∃ x, l0[j]? = some x ∧ VB k w6 (Btw W.heap.size w3.heap.size) x cs) := (HR0.out.sub (fun b hb => hb.2) (fun _ _ h => h)).on hb (fun _ _ h => h)
       obtain ⟨bk, off, cp, x0, x1, x2, x3, x4, x5, x6, hu, hbk, ⟨x, hx, hvx⟩, e0, e1, e2, e3, e4, e5, e6⟩ := hRr.at7 (show j < n by omega)
       injection hu with hA _ hcp
       subst hA hcp
       obtain ⟨za, zi, zs, Y1, o1, y1, Y2, o2, y2, Y3, o3, y3, Y4, o4, y4, he7⟩ := hvx.form7
       simp only [List.cons.injEq, and_true] at he7
       obtain ⟨rfl, rfl, rfl, rfl, rfl, rfl, rfl⟩ := he7
       have hnb := HNB.out
       have kp : (0 : Int) < ((j + 1 : Nat) : Int) := by omega
       have hw1 : IntKind.i64.wrap (((j + 1 : Nat) : Int) - 1) = (j : Int) := by rw [IntWalk.i64_in _ (by omega)]; omega
       have ea : ((j + 1 : Nat) : Int) - 1 = (j : Int) := by omega
       have kj : (j : Int) < ((j + 1 : Nat) : Int) := by omega
       have k0 : (0 : Int) ≤ (j : Int) := by omega
       have hcn := hRr.cap
       have kc : (j : Int) ≤ (cap : Int) := by omega
       obtain ⟨Wd, hWd⟩ : ∃ Wd : World, Wd = { wr with drawn := wr.drawn + 1 } := ⟨_, rfl⟩
       have hbd : Below w3.heap.size w6 Wd := by rw [hWd]; exact hb.drew
       have kbd : Wd.heap[w3.heap.size]? = some (.cells #[.int .i64 a, .int .i64 i, .string s, .slice A1 n1 c1, .slice A2 n2 c2, .slice A3 n3 c3, .slice A4 n4 c4] 27 (0, 0)) := by rw [hWd]; exact kb
       have hszd : Wd.heap.size = wr.heap.size := by rw [hWd]
       have hLd : Left p u r d w Wd := by rw [hWd]; exact hL.below (Below.refl _ _).drew
       have hsmd : ∀ B : Nat → Prop, Same B wr Wd := fun B => by rw [hWd]; exact ⟨Nat.le_refl _, fun _ _ _ _ => rfl⟩
       have hvd := VB.keep (hsmd _) hv
       have hvxd := VB.keep (Same.of_below hbd (B := Btw W.heap.size w3.heap.size) fun b hb => hb.2) hvx
       have f0 : Wd.cell? ⟨bk, off + j * 7, none⟩ = some (.int .i64 za) := by rw [hWd]; exact e0
       have f1 : Wd.cell? ⟨bk, off + j * 7 + 1, none⟩ = some (.int .i64 zi) := by rw [hWd]; exact e1
       have f2 : Wd.cell? ⟨bk, off + j * 7 + 2, none⟩ = some (.string zs) := by rw [hWd]; exact e2
       have f3 : Wd.cell? ⟨bk, off + j * 7 + 3, none⟩ = some (.slice Y1 o1 y1) := by rw [hWd]; exact e3
       have f4 : Wd.cell? ⟨bk, off + j * 7 + 4, none⟩ = some (.slice Y2 o2 y2) := by rw [hWd]; exact e4
       have f5 : Wd.cell? ⟨bk, off + j * 7 + 5, none⟩ = some (.slice Y3 o3 y3) := by rw [hWd]; exact e5
       have f6 : Wd.cell? ⟨bk, off + j * 7 + 6, none⟩ = some (.slice Y4 o4 y4) := by rw [hWd]; exact e6
       clear e0 e1 e2 e3 e4 e5 e6
       obtain ⟨q0, q1, q2, q3, q4, q5, q6⟩ := cells7 kbd
       obtain ⟨X, hX⟩ : ∃ X, X = Wd.alloc (.cells #[.int .i64 za, .int .i64 zi, .string zs, .slice Y1 o1 y1, .slice Y2 o2 y2, .slice Y3 o3 y3, .slice Y4 o4 y4, .int .i64 a, .int .i64 i, .string s, .slice A1 n1 c1, .slice A2 n2 c2, .slice A3 n3 c3, .slice A4 n4 c4] 27) := ⟨_, rfl⟩
       have hgd : w3.heap.size < Wd.heap.size := (Array.getElem?_eq_some_iff.1 kbd).1
       have kbX : X.heap[w3.heap.size]? = some (.cells #[.int .i64 a, .int .i64 i, .string s, .slice A1 n1 c1, .slice A2 n2 c2, .slice A3 n3 c3, .slice A4 n4 c4] 27 (0, 0)) := by rw [hX]; exact (Below.heap_alloc Wd _ _ hgd).trans kbd
       have knX : X.heap[Wd.heap.size]? = some (.cells #[.int .i64 za, .int .i64 zi, .string zs, .slice Y1 o1 y1, .slice Y2 o2 y2, .slice Y3 o3 y3, .slice Y4 o4 y4, .int .i64 a, .int .i64 i, .string s, .slice A1 n1 c1, .slice A2 n2 c2, .slice A3 n3 c3, .slice A4 n4 c4] 27 (0, 0)) := by rw [hX]; exact heap_alloc_new Wd _
       have hbX : Below Wd.heap.size Wd X := by rw [hX]; exact (Below.refl _ _).alloc (Nat.le_refl _) _
       have hsX : X.heap.size = Wd.heap.size + 1 := by rw [hX]; simp
       obtain ⟨r0, r1, r2, r3, r4, r5, r6⟩ := cells7 kbX
       obtain ⟨z0, z1, z2, z3, z4, z5, z6⟩ := frozen7 kbX
       rw [hX] at r0 r1 r2 r3 r4 r5 r6 z0 z1 z2 z3 z4 z5 z6
       have HX := Lib.hid hX
       have HKX := Lib.hid (And.intro kbX (And.intro knX (And.intro hbX hsX)))
       have HB := Lib.hid hbd
       have HVV := Lib.hid hvd
       have HVX := Lib.hid hvxd
       have HXJ := Lib.hid hx
       have HLL := Lib.hid hLd
       have HSZ := Lib.hid (And.intro hsz (And.intro hbk (And.intro hszd hgd)))
       have hjn : j + 1 ≤ n := hm
       have kj2 : (j : Int) < (j : Int) + 1 := by omega
       clear hb kb hv hvx hx hRr hL hbd kbd hszd hLd hsmd hvd hvxd hgd kbX knX hbX hsX hX
       go_wp2_with fail
       refine wp_region_still_tail 5 (by kernel_rfl) (by kernel_rfl) ?_
       rw [← hWd]
       clear hWd
       simp only [List.take_succ_cons, List.take_zero, List.drop_succ_cons, List.drop_zero]
       repeat still_step
       refine wpStill_nil ?_
       go_wp2
       go_roundw
       case rel =>
        rw [← HX.out]
        obtain ⟨kbX, knX, hbX, hsX⟩ := HKX.out
        obtain ⟨hsz, hbk, hszd, hgd⟩ := HSZ.out
        have hWg := HSW.out
        obtain ⟨V, hV⟩ : ∃ V, V = (((((((X.setCell ⟨w3.heap.size, 0, none⟩ (.int .i64 7)).setCell ⟨w3.heap.size, 1, none⟩ (.int .i64 0)).setCell ⟨w3.heap.size, 2, none⟩ (.string ⟨#[]⟩)).setCell ⟨w3.heap.size, 3, none⟩ (.slice (some ⟨Wd.heap.size, 0, none⟩) 2 2)).setCell ⟨w3.heap.size, 4, none⟩ (.slice none 0 0)).setCell ⟨w3.heap.size, 5, none⟩ (.slice none 0 0)).setCell ⟨w3.heap.size, 6, none⟩ (.slice none 0 0)) := ⟨_, rfl⟩
        rw [← hV]
        have hbV : Below w3.heap.size w6 V := by rw [hV]; exact below_set7 (HB.out.trans (hbX.mono (Nat.le_of_lt hgd))) (Nat.le_refl _) _ _ _ _ _ _ _
        obtain ⟨hLV, hob, hszV, hsm, hoth⟩ := boxR7 kbX (show w.heap.size ≤ w3.heap.size by omega) hlp (HLL.out.below hbX) (.int .i64 7) (.int .i64 0) (.string ⟨#[]⟩) (.slice (some ⟨Wd.heap.size, 0, none⟩) 2 2) (.slice none 0 0) (.slice none 0 0) (.slice none 0 0) V hV
        clear hV
        refine ⟨j, _, _, _, _, _, _, _, _, _, _, _, _, _, _, _, rfl, by omega, hLV, hbV, hob, by omega, ?_⟩
        have hxj := HXJ.out
        have hjl : j < l0.length := (List.getElem?_eq_some_iff.1 hxj).1
        have hd : l0.drop j = x :: l0.drop (j + 1) := by
         rw [List.drop_eq_getElem_cons hjl]
         congr 1
         exact (List.getElem?_eq_some_iff.1 hxj).2
        rw [hd, List.foldr_cons, show n - j = (n - (j + 1)) + 1 by omega, ← Nat.add_assoc]
        have hkn := (hoth Wd.heap.size (by omega)).trans knX
        refine cn_vb (ca := [.int .i64 za, .int .i64 zi, .string zs, .slice Y1 o1 y1, .slice Y2 o2 y2, .slice Y3 o3 y3, .slice Y4 o4 y4]) (cb := [.int .i64 a, .int .i64 i, .string s, .slice A1 n1 c1, .slice A2 n2 c2, .slice A3 n3 c3, .slice A4 n4 c4]) (B := fun b => W.heap.size ≤ b ∧ b < V.heap.size ∧ b ≠ w3.heap.size) (by refine ⟨by omega, by omega, by omega⟩) (by omega) ?_ ?_ rfl rfl rfl (Nat.le_refl _) (fun ix _ => (Lib.cell_of_heap hkn ix).trans (by rw [List.getElem?_toArray]; rfl))
        · exact VB.sub (B := Btw W.heap.size w3.heap.size) (fun b hb => ⟨hb.1, by have := hb.2; omega, by have := hb.2; omega⟩) (by omega) (VB.keep ((Same.of_below hbX fun b hb => by have := hb.2; omega).trans (hsm _ (fun h => by have := h.2; omega))) HVX.out)
        · exact VB.sub (B := fun b => W.heap.size ≤ b ∧ b < wr.heap.size ∧ b ≠ w3.heap.size) (fun b hb => ⟨hb.1, by have := hb.2.1; omega, hb.2.2⟩) (Nat.le_refl _) (VB.keep ((Same.of_below hbX fun b hb => by have := hb.2.1; omega).trans (hsm _ (fun h => h.2.2 rfl))) HVV.out)
       case measure => simp [lenS5]

   | some r3 =>
    have hac := accept_yes p q [32, 124, 32] r3 d w4 hL4.2.1 hcb
    have HCB := Lib.hid hcb
    clear hL4 hcb
    go_wp2_with fail
    rw [← hw4]
    clear hw4
    refine hac.mono ?_
    rintro e w5 ⟨rfl, hL5', hs5⟩
    clear hac hs5
    have hr3 := hL5'.2.2
    have hv := hI.out r3 w5 hL5'.2.1 (by unfold limP; omega) (HE.out.eff (HL4.out.trans hL5').1 hBp)
    have HL5 := Lib.hid hL5'
    clear hL5'
    cases hvo : val r3 with
    | none =>
     rw [hvo] at hv
     have HQ : Hid (listP val r = none) := Lib.hid (by unfold listP; rw [HC0.out]; simp only; rw [HSL.out]; simp only; rw [HCB.out]; simp only; rw [hvo])
     clear hvo
     go_wp2_with fail
     refine hv.mono ?_
     rintro e w6 ⟨a, i, s, A1, n1, c1, A2, n2, c2, A3, n3, c3, A4, n4, c4, z, rfl, hL6', hres⟩
     clear hv hres
     have h46 := HL5.out.trans hL6'
     have k6' := h46.box HK4.out hne
     have b6' := h46.box HKB4.out hgp
     obtain ⟨q0, q1, q2, q3, q4, q5, q6⟩ := cells7 b6'
     obtain ⟨y0, y1, y2, y3, y4, y5, y6⟩ := frozen7 b6'
     have hL6' := HL4.out.trans h46
     obtain ⟨U, hU⟩ : ∃ U, U = (((((((w6.setCell ⟨w3.heap.size, 0, none⟩ (.int .i64 a)).setCell ⟨w3.heap.size, 1, none⟩ (.int .i64 i)).setCell ⟨w3.heap.size, 2, none⟩ (.string s)).setCell ⟨w3.heap.size, 3, none⟩ (.slice A1 n1 c1)).setCell ⟨w3.heap.size, 4, none⟩ (.slice A2 n2 c2)).setCell ⟨w3.heap.size, 5, none⟩ (.slice A3 n3 c3)).setCell ⟨w3.heap.size, 6, none⟩ (.slice A4 n4 c4)) := ⟨_, rfl⟩
     obtain ⟨hL6, kbU, hsU, hsmU, hoU⟩ := boxR7 b6' (Nat.le_of_lt HG.out.1) hlp hL6' (.int .i64 a) (.int .i64 i) (.string s) (.slice A1 n1 c1) (.slice A2 n2 c2) (.slice A3 n3 c3) (.slice A4 n4 c4) U hU
     have k6 := (hoU _ (show w.heap.size ≠ w3.heap.size by have := HG.out.1; omega)).trans k6'
     rw [hU] at k6 hL6
     clear hU hoU hsmU hsU kbU h46 k6' b6' hL6'
     obtain ⟨e0, e1, e2, e3, e4, e5, e6⟩ := cells7 k6
     obtain ⟨z0, z1, z2, z3, z4, z5, z6⟩ := frozen7 k6
     have HK3 := Lib.hid k6
     have HL3 := Lib.hid hL6
     clear k6 hL6
     go_wp2
     obtain ⟨V, hV⟩ : ∃ V, V = ((((((((((((((w6.setCell ⟨w3.heap.size, 0, none⟩ (.int .i64 a)).setCell ⟨w3.heap.size, 1, none⟩ (.int .i64 i)).setCell ⟨w3.heap.size, 2, none⟩ (.string s)).setCell ⟨w3.heap.size, 3, none⟩ (.slice A1 n1 c1)).setCell ⟨w3.heap.size, 4, none⟩ (.slice A2 n2 c2)).setCell ⟨w3.heap.size, 5, none⟩ (.slice A3 n3 c3)).setCell ⟨w3.heap.size, 6, none⟩ (.slice A4 n4 c4)).setCell ⟨w.heap.size, 0, none⟩ (.int .i64 0)).setCell ⟨w.heap.size, 1, none⟩ (.int .i64 0)).setCell ⟨w.heap.size, 2, none⟩ (.string ⟨#[]⟩)).setCell ⟨w.heap.size, 3, none⟩ (.slice none 0 0)).setCell ⟨w.heap.size, 4, none⟩ (.slice none 0 0)).setCell ⟨w.heap.size, 5, none⟩ (.slice none 0 0)).setCell ⟨w.heap.size, 6, none⟩ (.slice none 0 0)) := ⟨_, rfl⟩
     rw [← hV]
     obtain ⟨hLV, hob, hszV, hsm, hoth⟩ := boxR7 HK3.out (Nat.le_refl _) hlp HL3.out (.int .i64 0) (.int .i64 0) (.string ⟨#[]⟩) (.slice none 0 0) (.slice none 0 0) (.slice none 0 0) (.slice none 0 0) V hV
     clear hV e0 e1 e2 e3 e4 e5 e6 z0 z1 z2 z3 z4 z5 z6
     obtain ⟨ps0, ps1, ps2, ps3, ps4, ps5, ps6⟩ := cells7 hob
     refine bodyPost_ret (v := .tuple #[.agg #[.int .i64 0, .int .i64 0, .string ⟨#[]⟩, .slice none 0 0, .slice none 0 0, .slice none 0 0, .slice none 0 0], .bool false]) (by simp [results, Tryz.results80, go_sem, ps0, ps1, ps2, ps3, ps4, ps5, ps6]) rfl ?_
     exact valPost_no HQ.out hLV
    | some tr =>
     obtain ⟨tv, r4⟩ := tr
     rw [hvo] at hv
     have HVO := Lib.hid hvo
     clear hvo
     go_wp2_with fail
     refine hv.mono ?_
     rintro e w6 ⟨a, i, s, A1, n1, c1, A2, n2, c2, A3, n3, c3, A4, n4, c4, z, rfl, hL6', hres⟩
     clear hv
     obtain ⟨rfl, hvb⟩ := hres _ _ rfl
     clear hres
     obtain ⟨kk, hkk⟩ : ∃ kk, k = kk + 1 := ⟨k - 1, by omega⟩
     have hlabs : (lbsV tv = [] ↔ n4 = 0) := by
      subst hkk
      obtain ⟨kd, ki, kt, kv, ky, ke, kl⟩ := tv
      obtain ⟨uk, uy, ue, ul, hcs, _, _, _, _, _, _, hl⟩ := hvb
      obtain ⟨Al, cl, rfl, _⟩ := hl.form
      simp only [List.cons.injEq, and_true] at hcs
      obtain ⟨_, _, _, _, _, _, e6⟩ := hcs
      injection e6 with _ e6 _
      show kl = [] ↔ n4 = 0
      rw [e6]
      exact List.length_eq_zero_iff.symm
     have h46 := HL5.out.trans hL6'
     have k6' := h46.box HK4.out hne
     have b6' := h46.box HKB4.out hgp
     obtain ⟨q0, q1, q2, q3, q4, q5, q6⟩ := cells7 b6'
     obtain ⟨y0, y1, y2, y3, y4, y5, y6⟩ := frozen7 b6'
     have hL6'' := HL4.out.trans h46
     obtain ⟨U, hU⟩ : ∃ U, U = (((((((w6.setCell ⟨w3.heap.size, 0, none⟩ (.int .i64 a)).setCell ⟨w3.heap.size, 1, none⟩ (.int .i64 i)).setCell ⟨w3.heap.size, 2, none⟩ (.string s)).setCell ⟨w3.heap.size, 3, none⟩ (.slice A1 n1 c1)).setCell ⟨w3.heap.size, 4, none⟩ (.slice A2 n2 c2)).setCell ⟨w3.heap.size, 5, none⟩ (.slice A3 n3 c3)).setCell ⟨w3.heap.size, 6, none⟩ (.slice A4 n4 c4)) := ⟨_, rfl⟩
     obtain ⟨hLU, kbU, hsU, hsmU, hoU⟩ := boxR7 b6' (Nat.le_of_lt HG.out.1) hlp hL6'' (.int .i64 a) (.int .i64 i) (.string s) (.slice A1 n1 c1) (.slice A2 n2 c2) (.slice A3 n3 c3) (.slice A4 n4 c4) U hU
     have kU := (hoU _ (show w.heap.size ≠ w3.heap.size by have := HG.out.1; omega)).trans k6'
     have hss := h46.size
     have hs46 := hL6'.size
     have hw5 := HL5.out.size
     have HSU := Lib.hid (show W.heap.size = w.heap.size + 1 ∧ W.heap.size ≤ w3.heap.size ∧ w3.heap.size < U.heap.size from ⟨HG.out.2.1, HG.out.2.2, by have := HW4.out; omega⟩)
     have hVU : VB k U (fun b => W.heap.size ≤ b ∧ b < U.heap.size ∧ b ≠ w3.heap.size) tv [.int .i64 a, .int .i64 i, .string s, .slice A1 n1 c1, .slice A2 n2 c2, .slice A3 n3 c3, .slice A4 n4 c4] :=
      VB.sub (B := Btw w5.heap.size w6.heap.size) (fun b hb => ⟨by have := hb.1; have := HW4.out; have := HG.out.2.2; omega, by have := hb.2; omega, by have := hb.1; have := HW4.out; omega⟩) (Nat.le_refl _) (VB.keep (hsmU _ (fun h => by have := h.1; have := HW4.out; omega)) hvb)
     have hsm6 : Same (Btw W.heap.size w3.heap.size) w4 U := (h46.1.same HRP.out).trans (hsmU _ (fun h => by have := h.2; omega))
     have hRU : RowB U (Btw W.heap.size w3.heap.size) 7 (.slice A n cap) n (fun j cs => ∃ x, l0[j]? = some x ∧ VB k U (Btw W.heap.size w3.heap.size) x cs) := HR4.out.keep hsm6 fun j cs ⟨x, hx, hv⟩ => ⟨x, hx, VB.keep hsm6 hv⟩
     have hcall : ∀ W', W' = U → W' = U := fun _ h => h
     have HLU := Lib.hid hLU
     have HKU := Lib.hid kU
     have HBU := Lib.hid kbU
     have HVU := Lib.hid hVU
     have HRU := Lib.hid hRU
     have HLABS := Lib.hid hlabs
     have HU := Lib.hid hU
     have hLUf := hLU
     have kUf := kU
     rw [hU] at hLUf kUf
     have hPU := hLU.2.1
     clear hlabs h46 k6' b6' hL6' hL6'' hLU kbU hsU hsmU hoU kU hss hs46 hw5 hVU hRU hsm6 hvb hU hcall hkk
     by_cases hn4 : n4 = 0
     ·
      subst hn4
      have HQ : Hid (listP val r = none) := Lib.hid (by unfold listP; rw [HC0.out]; simp only; rw [HSL.out]; simp only; rw [HCB.out]; simp only; rw [HVO.out]; simp only; rw [if_pos (HLABS.out.2 rfl)])
      clear hPU
      obtain ⟨e0, e1, e2, e3, e4, e5, e6⟩ := cells7 kUf
      obtain ⟨z0, z1, z2, z3, z4, z5, z6⟩ := frozen7 kUf
      have HK3 := Lib.hid kUf
      have HL3 := Lib.hid hLUf
      clear kUf hLUf
      go_wp2
      obtain ⟨V, hV⟩ : ∃ V, V = ((((((((((((((w6.setCell ⟨w3.heap.size, 0, none⟩ (.int .i64 a)).setCell ⟨w3.heap.size, 1, none⟩ (.int .i64 i)).setCell ⟨w3.heap.size, 2, none⟩ (.string s)).setCell ⟨w3.heap.size, 3, none⟩ (.slice A1 n1 c1)).setCell ⟨w3.heap.size, 4, none⟩ (.slice A2 n2 c2)).setCell ⟨w3.heap.size, 5, none⟩ (.slice A3 n3 c3)).setCell ⟨w3.heap.size, 6, none⟩ (.slice A4 0 c4)).setCell ⟨w.heap.size, 0, none⟩ (.int .i64 0)).setCell ⟨w.heap.size, 1, none⟩ (.int .i64 0)).setCell ⟨w.heap.size, 2, none⟩ (.string ⟨#[]⟩)).setCell ⟨w.heap.size, 3, none⟩ (.slice none 0 0)).setCell ⟨w.heap.size, 4, none⟩ (.slice none 0 0)).setCell ⟨w.heap.size, 5, none⟩ (.slice none 0 0)).setCell ⟨w.heap.size, 6, none⟩ (.slice none 0 0)) := ⟨_, rfl⟩
      rw [← hV]
      obtain ⟨hLV, hob, hszV, hsm, hoth⟩ := boxR7 HK3.out (Nat.le_refl _) hlp HL3.out (.int .i64 0) (.int .i64 0) (.string ⟨#[]⟩) (.slice none 0 0) (.slice none 0 0) (.slice none 0 0) (.slice none 0 0) V hV
      clear hV e0 e1 e2 e3 e4 e5 e6 z0 z1 z2 z3 z4 z5 z6
      obtain ⟨ps0, ps1, ps2, ps3, ps4, ps5, ps6⟩ := cells7 hob
      refine bodyPost_ret (v := .tuple #[.agg #[.int .i64 0, .int .i64 0, .string ⟨#[]⟩, .slice none 0 0, .slice none 0 0, .slice none 0 0, .slice none 0 0], .bool false]) (by simp [results, Tryz.results80, go_sem, ps0, ps1, ps2, ps3, ps4, ps5, ps6]) rfl ?_
      exact valPost_no HQ.out hLV
     ·
      have kn4 : (0 : Int) < (n4 : Int) := by omega
      have hnl := fun h => hn4 (HLABS.out.1 h)
      clear kUf hLUf
      cases hce : cutP [93] z with
      | none =>
       have hac := accept_no p z [93] d U hPU hce
       have HQ : Hid (listP val r = none) := Lib.hid (by unfold listP; rw [HC0.out]; simp only; rw [HSL.out]; simp only; rw [HCB.out]; simp only; rw [HVO.out]; simp only; rw [if_neg hnl, hce])
       clear hce hPU hnl
       go_wp2_with fail
       rw [← HU.out]
       refine hac.mono ?_
       rintro e w7 ⟨rfl, hL7', hs7⟩
       clear hac hs7
       have k7 := hL7'.box HKU.out hne
       have hL7 := HLU.out.trans hL7'
       clear hL7' q0 q1 q2 q3 q4 q5 q6 y0 y1 y2 y3 y4 y5 y6
       obtain ⟨e0, e1, e2, e3, e4, e5, e6⟩ := cells7 k7
       obtain ⟨z0, z1, z2, z3, z4, z5, z6⟩ := frozen7 k7
       have HK3 := Lib.hid k7
       have HL3 := Lib.hid hL7
       clear k7 hL7
       go_wp2
       obtain ⟨V, hV⟩ : ∃ V, V = (((((((w7.setCell ⟨w.heap.size, 0, none⟩ (.int .i64 0)).setCell ⟨w.heap.size, 1, none⟩ (.int .i64 0)).setCell ⟨w.heap.size, 2, none⟩ (.string ⟨#[]⟩)).setCell ⟨w.heap.size, 3, none⟩ (.slice none 0 0)).setCell ⟨w.heap.size, 4, none⟩ (.slice none 0 0)).setCell ⟨w.heap.size, 5, none⟩ (.slice none 0 0)).setCell ⟨w.heap.size, 6, none⟩ (.slice none 0 0)) := ⟨_, rfl⟩
       rw [← hV]
       obtain ⟨hLV, hob, hszV, hsm, hoth⟩ := boxR7 HK3.out (Nat.le_refl _) hlp HL3.out (.int .i64 0) (.int .i64 0) (.string ⟨#[]⟩) (.slice none 0 0) (.slice none 0 0) (.slice none 0 0) (.slice none 0 0) V hV
       clear hV e0 e1 e2 e3 e4 e5 e6 z0 z1 z2 z3 z4 z5 z6
       obtain ⟨ps0, ps1, ps2, ps3, ps4, ps5, ps6⟩ := cells7 hob
       refine bodyPost_ret (v := .tuple #[.agg #[.int .i64 0, .int .i64 0, .string ⟨#[]⟩, .slice none 0 0, .slice none 0 0, .slice none 0 0, .slice none 0 0], .bool false]) (by simp [results, Tryz.results80, go_sem, ps0, ps1, ps2, ps3, ps4, ps5, ps6]) rfl ?_
       exact valPost_no HQ.out hLV
      | some u =>
       have hac := accept_yes p z [93] u d U hPU hce
       have HQ : Hid (listP val r = some (l0.foldr cnV tv, u)) := Lib.hid (by unfold listP; rw [HC0.out]; simp only; rw [HSL.out]; simp only; rw [HCB.out]; simp only; rw [HVO.out]; simp only; rw [if_neg hnl, hce])
       clear hce hPU hnl
       go_wp2_with fail
       rw [← HU.out]
       refine hac.mono ?_
       rintro e w7 ⟨rfl, hL7', hs7⟩
       clear hac q0 q1 q2 q3 q4 q5 q6 y0 y1 y2 y3 y4 y5 y6
       have HK0 := Lib.hid (hL7'.box HKU.out hne)
       have HB0 := Lib.hid (hL7'.box HBU.out hgp)
       have HL0 := Lib.hid (HLU.out.trans hL7')
       have HSW := Lib.hid (show W.heap.size = w.heap.size + 1 ∧ W.heap.size ≤ w3.heap.size ∧ w3.heap.size < w7.heap.size from ⟨HSU.out.1, HSU.out.2.1, by have := HSU.out.2.2; omega⟩)
       have hWp : ∀ b, W.heap.size ≤ b ∧ b < U.heap.size ∧ b ≠ w3.heap.size → b ≠ p := fun b hb => by have := hb.1; omega
       have HV0 : Hid (VB k w7 (fun b => W.heap.size ≤ b ∧ b < w7.heap.size ∧ b ≠ w3.heap.size) tv [.int .i64 a, .int .i64 i, .string s, .slice A1 n1 c1, .slice A2 n2 c2, .slice A3 n3 c3, .slice A4 n4 c4]) := Lib.hid (VB.sub (fun b hb => ⟨hb.1, by have := hb.2.1; omega, hb.2.2⟩) (Nat.le_refl _) (VB.keep (hL7'.1.same hWp) HVU.out))
       have HR0 : Hid (RowB w7 (Btw W.heap.size w3.heap.size) 7 (.slice A n cap) n (fun j cs => ∃ x, l0[j]? = some x ∧ VB k w7 (Btw W.heap.size w3.heap.size) x cs)) := Lib.hid (HRU.out.keep (hL7'.1.same HRP.out) fun j cs ⟨x, hx, hv⟩ => ⟨x, hx, VB.keep (hL7'.1.same HRP.out) hv⟩)
       clear hL7' hs7 hWp
       go_wp2_with fail
       go_loopw [4] (fun lv wr => ∃ (m : Nat) (a i : Int) (s : ByteArray) (A1 A2 A3 A4 : Option Addr) (n1 c1 n2 c2 n3 c3 n4 c4 : Nat), lv = .slice A m cap ∧ m ≤ n ∧ Left p u r d w wr ∧ Below w3.heap.size w7 wr ∧ wr.heap[w3.heap.size]? = some (.cells #[.int .i64 a, .int .i64 i, .string s, .slice A1 n1 c1, .slice A2 n2 c2, .slice A3 n3 c3, .slice A4 n4 c4] 27 (0, 0)) ∧ w7.heap.size ≤ wr.heap.size ∧ VB (k + (n - m)) wr (fun b => W.heap.size ≤ b ∧ b < wr.heap.size ∧ b ≠ w3.heap.size) ((l0.drop m).foldr cnV tv) [.int .i64 a, .int .i64 i, .string s, .slice A1 n1 c1, .slice A2 n2 c2, .slice A3 n3 c3, .slice A4 n4 c4]) (fun lv _ => lenS5 lv)
       case atStart =>
        refine ⟨n, _, _, _, _, _, _, _, _, _, _, _, _, _, _, _, rfl, Nat.le_refl _, HL0.out, Below.refl _ _, HB0.out, Nat.le_refl _, ?_⟩
        rw [List.drop_eq_nil_of_le (by have := HN.out; omega), Nat.sub_self]
        exact HV0.out
       case round =>
        obtain ⟨m, a, i, s, A1, A2, A3, A4, n1, c1, n2, c2, n3, c3, n4, c4, rfl, hm, hL, hb, kb, hsz, hv⟩ := hrel
        by_cases hm0 : m = 0
        ·
         subst hm0
         have mp : ¬ (0 : Int) < ((0 : Nat) : Int) := by omega
         have k3 := (hb.block _ HG.out.1).trans HK0.out
         have HVB := Lib.hid hv
         have hL3 := hL
         obtain ⟨q0, q1, q2, q3, q4, q5, q6⟩ := cells7 kb
         clear hv hb hL
         obtain ⟨e0, e1, e2, e3, e4, e5, e6⟩ := cells7 k3
         obtain ⟨z0, z1, z2, z3, z4, z5, z6⟩ := frozen7 k3
         have HK3 := Lib.hid k3
         have HL3 := Lib.hid hL3
         clear k3 hL3
         go_wp2
         obtain ⟨V, hV⟩ : ∃ V, V = (((((((wr.setCell ⟨w.heap.size, 0, none⟩ (.int .i64 a)).setCell ⟨w.heap.size, 1, none⟩ (.int .i64 i)).setCell ⟨w.heap.size, 2, none⟩ (.string s)).setCell ⟨w.heap.size, 3, none⟩ (.slice A1 n1 c1)).setCell ⟨w.heap.size, 4, none⟩ (.slice A2 n2 c2)).setCell ⟨w.heap.size, 5, none⟩ (.slice A3 n3 c3)).setCell ⟨w.heap.size, 6, none⟩ (.slice A4 n4 c4)) := ⟨_, rfl⟩
         rw [← hV]
         obtain ⟨hLV, hob, hszV, hsm, hoth⟩ := boxR7 HK3.out (Nat.le_refl _) hlp HL3.out (.int .i64 a) (.int .i64 i) (.string s) (.slice A1 n1 c1) (.slice A2 n2 c2) (.slice A3 n3 c3) (.slice A4 n4 c4) V hV
         clear hV e0 e1 e2 e3 e4 e5 e6 z0 z1 z2 z3 z4 z5 z6
         obtain ⟨ps0, ps1, ps2, ps3, ps4, ps5, ps6⟩ := cells7 hob
         refine bodyPost_ret (v := .tuple #[.agg #[.int .i64 a, .int .i64 i, .string s, .slice A1 n1 c1, .slice A2 n2 c2, .slice A3 n3 c3, .slice A4 n4 c4], .bool true]) (by simp [results, Tryz.results80, go_sem, ps0, ps1, ps2, ps3, ps4, ps5, ps6]) rfl ?_
         refine valPost_yes HQ.out hLV ?_
         have hv := HVB.out
         rw [List.drop_zero] at hv
         exact VB.sub (fun b hb => ⟨by have := hb.1; have := HSW.out; omega, by have := hb.2.1; omega⟩) (by have := HNB.out; omega) (VB.keep (hsm _ (fun h => by have := h.1; have := HSW.out; omega)) hv)
        ·
         obtain ⟨j, rfl⟩ : ∃ j, m = j + 1 := ⟨m - 1, by omega⟩
         have hRr : RowP wr w3.heap.size 7 (.slice A n cap) n (fun j cs => ∃ x, l0[j]? = some x ∧ VB k w7 (Btw W.heap.size w3.heap.size) x cs) := (HR0.out.sub (fun b hb => hb.2) (fun _ _ h => h)).on hb (fun _ _ h => h)
         obtain ⟨bk, off, cp, x0, x1, x2, x3, x4, x5, x6, hu, hbk, ⟨x, hx, hvx⟩, e0, e1, e2, e3, e4, e5, e6⟩ := hRr.at7 (show j < n by omega)
         injection hu with hA _ hcp
         subst hA hcp
         obtain ⟨za, zi, zs, Y1, o1, y1, Y2, o2, y2, Y3, o3, y3, Y4, o4, y4, he7⟩ := hvx.form7
         simp only [List.cons.injEq, and_true] at he7
         obtain ⟨rfl, rfl, rfl, rfl, rfl, rfl, rfl⟩ := he7
         have hnb := HNB.out
         have kp : (0 : Int) < ((j + 1 : Nat) : Int) := by omega
         have hw1 : IntKind.i64.wrap (((j + 1 : Nat) : Int) - 1) = (j : Int) := by rw [IntWalk.i64_in _ (by omega)]; omega
         have ea : ((j + 1 : Nat) : Int) - 1 = (j : Int) := by omega
         have kj : (j : Int) < ((j + 1 : Nat) : Int) := by omega
         have k0 : (0 : Int) ≤ (j : Int) := by omega
         have hcn := hRr.cap
         have kc : (j : Int) ≤ (cap : Int) := by omega
         obtain ⟨Wd, hWd⟩ : ∃ Wd : World, Wd = { wr with drawn := wr.drawn + 1 } := ⟨_, rfl⟩
         have hbd : Below w3.heap.size w7 Wd := by rw [hWd]; exact hb.drew
         have kbd : Wd.heap[w3.heap.size]? = some (.cells #[.int .i64 a, .int .i64 i, .string s, .slice A1 n1 c1, .slice A2 n2 c2, .slice A3 n3 c3, .slice A4 n4 c4] 27 (0, 0)) := by rw [hWd]; exact kb
         have hszd : Wd.heap.size = wr.heap.size := by rw [hWd]
         have hLd : Left p u r d w Wd := by rw [hWd]; exact hL.below (Below.refl _ _).drew
         have hsmd : ∀ B : Nat → Prop, Same B wr Wd := fun B => by rw [hWd]; exact ⟨Nat.le_refl _, fun _ _ _ _ => rfl⟩
         have hvd := VB.keep (hsmd _) hv
         have hvxd := VB.keep (Same.of_below hbd (B := Btw W.heap.size w3.heap.size) fun b hb => hb.2) hvx
         have f0 : Wd.cell? ⟨bk, off + j * 7, none⟩ = some (.int .i64 za) := by rw [hWd]; exact e0
         have f1 : Wd.cell? ⟨bk, off + j * 7 + 1, none⟩ = some (.int .i64 zi) := by rw [hWd]; exact e1
         have f2 : Wd.cell? ⟨bk, off + j * 7 + 2, none⟩ = some (.string zs) := by rw [hWd]; exact e2
         have f3 : Wd.cell? ⟨bk, off + j * 7 + 3, none⟩ = some (.slice Y1 o1 y1) := by rw [hWd]; exact e3
         have f4 : Wd.cell? ⟨bk, off + j * 7 + 4, none⟩ = some (.slice Y2 o2 y2) := by rw [hWd]; exact e4
         have f5 : Wd.cell? ⟨bk, off + j * 7 + 5, none⟩ = some (.slice Y3 o3 y3) := by rw [hWd]; exact e5
         have f6 : Wd.cell? ⟨bk, off + j * 7 + 6, none⟩ = some (.slice Y4 o4 y4) := by rw [hWd]; exact e6
         clear e0 e1 e2 e3 e4 e5 e6
         obtain ⟨q0, q1, q2, q3, q4, q5, q6⟩ := cells7 kbd
         obtain ⟨X, hX⟩ : ∃ X, X = Wd.alloc (.cells #[.int .i64 za, .int .i64 zi, .string zs, .slice Y1 o1 y1, .slice Y2 o2 y2, .slice Y3 o3 y3, .slice Y4 o4 y4, .int .i64 a, .int .i64 i, .string s, .slice A1 n1 c1, .slice A2 n2 c2, .slice A3 n3 c3, .slice A4 n4 c4] 27) := ⟨_, rfl⟩
         have hgd : w3.heap.size < Wd.heap.size := (Array.getElem?_eq_some_iff.1 kbd).1
         have kbX : X.heap[w3.heap.size]? = some (.cells #[.int .i64 a, .int .i64 i, .string s, .slice A1 n1 c1, .slice A2 n2 c2, .slice A3 n3 c3, .slice A4 n4 c4] 27 (0, 0)) := by rw [hX]; exact (Below.heap_alloc Wd _ _ hgd).trans kbd
         have knX : X.heap[Wd.heap.size]? = some (.cells #[.int .i64 za, .int .i64 zi, .string zs, .slice Y1 o1 y1, .slice Y2 o2 y2, .slice Y3 o3 y3, .slice Y4 o4 y4, .int .i64 a, .int .i64 i, .string s, .slice A1 n1 c1, .slice A2 n2 c2, .slice A3 n3 c3, .slice A4 n4 c4] 27 (0, 0)) := by rw [hX]; exact heap_alloc_new Wd _
         have hbX : Below Wd.heap.size Wd X := by rw [hX]; exact (Below.refl _ _).alloc (Nat.le_refl _) _
         have hsX : X.heap.size = Wd.heap.size + 1 := by rw [hX]; simp
         obtain ⟨r0, r1, r2, r3, r4, r5, r6⟩ := cells7 kbX
         obtain ⟨z0, z1, z2, z3, z4, z5, z6⟩ := frozen7 kbX
         rw [hX] at r0 r1 r2 r3 r4 r5 r6 z0 z1 z2 z3 z4 z5 z6
         have HX := Lib.hid hX
         have HKX := Lib.hid (And.intro kbX (And.intro knX (And.intro hbX hsX)))
         have HB := Lib.hid hbd
         have HVV := Lib.hid hvd
         have HVX := Lib.hid hvxd
         have HXJ := Lib.hid hx
         have HLL := Lib.hid hLd
         have HSZ := Lib.hid (And.intro hsz (And.intro hbk (And.intro hszd hgd)))
         have hjn : j + 1 ≤ n := hm
         have kj2 : (j : Int) < (j : Int) + 1 := by omega
         clear hb kb hv hvx hx hRr hL hbd kbd hszd hLd hsmd hvd hvxd hgd kbX knX hbX hsX hX
         go_wp2_with fail
         refine wp_region_still_tail 5 (by kernel_rfl) (by kernel_rfl) ?_
         rw [← hWd]
         clear hWd
         simp only [List.take_succ_cons, List.take_zero, List.drop_succ_cons, List.drop_zero]
         repeat still_step
         refine wpStill_nil ?_
         go_wp2
         go_roundw
         case rel =>
          rw [← HX.out]
          obtain ⟨kbX, knX, hbX, hsX⟩ := HKX.out
          obtain ⟨hsz, hbk, hszd, hgd⟩ := HSZ.out
          have hWg := HSW.out
          obtain ⟨V, hV⟩ : ∃ V, V = (((((((X.setCell ⟨w3.heap.size, 0, none⟩ (.int .i64 7)).setCell ⟨w3.heap.size, 1, none⟩ (.int .i64 0)).setCell ⟨w3.heap.size, 2, none⟩ (.string ⟨#[]⟩)).setCell ⟨w3.heap.size, 3, none⟩ (.slice (some ⟨Wd.heap.size, 0, none⟩) 2 2)).setCell ⟨w3.heap.size, 4, none⟩ (.slice none 0 0)).setCell ⟨w3.heap.size, 5, none⟩ (.slice none 0 0)).setCell ⟨w3.heap.size, 6, none⟩ (.slice none 0 0)) := ⟨_, rfl⟩
          rw [← hV]
          have hbV : Below w3.heap.size w7 V := by rw [hV]; exact below_set7 (HB.out.trans (hbX.mono (Nat.le_of_lt hgd))) (Nat.le_refl _) _ _ _ _ _ _ _
          obtain ⟨hLV, hob, hszV, hsm, hoth⟩ := boxR7 kbX (show w.heap.size ≤ w3.heap.size by omega) hlp (HLL.out.below hbX) (.int .i64 7) (.int .i64 0) (.string ⟨#[]⟩) (.slice (some ⟨Wd.heap.size, 0, none⟩) 2 2) (.slice none 0 0) (.slice none 0 0) (.slice none 0 0) V hV
          clear hV
          refine ⟨j, _, _, _, _, _, _, _, _, _, _, _, _, _, _, _, rfl, by omega, hLV, hbV, hob, by omega, ?_⟩
          have hxj := HXJ.out
          have hjl : j < l0.length := (List.getElem?_eq_some_iff.1 hxj).1
          have hd : l0.drop j = x :: l0.drop (j + 1) := by
           rw [List.drop_eq_getElem_cons hjl]
           congr 1
           exact (List.getElem?_eq_some_iff.1 hxj).2
          rw [hd, List.foldr_cons, show n - j = (n - (j + 1)) + 1 by omega, ← Nat.add_assoc]
          have hkn := (hoth Wd.heap.size (by omega)).trans knX
          refine cn_vb (ca := [.int .i64 za, .int .i64 zi, .string zs, .slice Y1 o1 y1, .slice Y2 o2 y2, .slice Y3 o3 y3, .slice Y4 o4 y4]) (cb := [.int .i64 a, .int .i64 i, .string s, .slice A1 n1 c1, .slice A2 n2 c2, .slice A3 n3 c3, .slice A4 n4 c4]) (B := fun b => W.heap.size ≤ b ∧ b < V.heap.size ∧ b ≠ w3.heap.size) (by refine ⟨by omega, by omega, by omega⟩) (by omega) ?_ ?_ rfl rfl rfl (Nat.le_refl _) (fun ix _ => (Lib.cell_of_heap hkn ix).trans (by rw [List.getElem?_toArray]; rfl))
          · exact VB.sub (B := Btw W.heap.size w3.heap.size) (fun b hb => ⟨hb.1, by have := hb.2; omega, by have := hb.2; omega⟩) (by omega) (VB.keep ((Same.of_below hbX fun b hb => by have := hb.2; omega).trans (hsm _ (fun h => by have := h.2; omega))) HVX.out)
          · exact VB.sub (B := fun b => W.heap.size ≤ b ∧ b < wr.heap.size ∧ b ≠ w3.heap.size) (fun b hb => ⟨hb.1, by have := hb.2.1; omega, hb.2.2⟩) (Nat.le_refl _) (VB.keep ((Same.of_below hbX fun b hb => by have := hb.2.1; omega).trans (hsm _ (fun h => h.2.2 rfl))) HVV.out)
         case measure => simp [lenS5]

end Go.Proofs.YtcjgaohblaidjaaGreatDoor
