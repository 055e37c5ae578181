/- What unlabelled of the program's parser gives, with value as it reads deeper. -/
import Derived.Test.YtcjgaohblaidjaaGreatDoorVb19
import Derived.Test.YtcjgaohblaidjaaGreatDoorVb20
import Derived.Test.YtcjgaohblaidjaaGreatDoorVb21
namespace Go.Proofs.YtcjgaohblaidjaaGreatDoor
open Go Go.RowKit
theorem vb_kids5 (k : Nat) (w : World) (B : Nat → Prop) {A : Option Addr} {cap : Nat} {l : List Vl} (h : RowB w B 7 (.slice A l.length cap) l.length (fun j cs => ∃ x, l[j]? = some x ∧ VB k w B x cs)) :
  VB (k + 1) w B (.mk 6 0 [] l [] [] []) [.int .i64 6, .int .i64 0, .string ⟨#[]⟩, .slice A l.length cap, .slice none 0 0, .slice none 0 0, .slice none 0 0] :=
 ⟨_, _, _, _, rfl, by decide, by decide, by simp, h, row_nil _ _ _ _, row_nil _ _ _ _, row_nil _ _ _ _⟩
set_option maxRecDepth 100000 in
set_option maxHeartbeats 6400000 in
theorem unlP_any5 (B k p : Nat) (hk1 : 1 ≤ k) (hBp : B ≤ p) (d : Int) (val : Rd Vl) (hI : Hid (ValI B k p d val)) (r : Bs) (w : World) (h : PrsW p r d w) (hr : r.length ≤ limP) (hE : EnvH B w) :
  Calls Tryz.prog 42 #[.pointer (some ⟨p, 0, none⟩)] w (ValPost (k + 1048578) p d (unlP val r) r w) := by
 have HE := Lib.hid hE
 have hlp := h.lt
 unfold limP at hr
 obtain ⟨W, hW⟩ : ∃ W, W = w.alloc (.cells #[.int .i64 0, .int .i64 0, .string ⟨#[]⟩, .slice none 0 0, .slice none 0 0, .slice none 0 0, .slice none 0 0] 27) := ⟨_, rfl⟩
 have kW : W.heap[w.heap.size]? = some (.cells #[.int .i64 0, .int .i64 0, .string ⟨#[]⟩, .slice none 0 0, .slice none 0 0, .slice none 0 0, .slice none 0 0] 27 (0, 0)) := by rw [hW]; exact heap_alloc_new w _
 have hLW : Left p r r d w W := by rw [hW]; exact (Left.refl h).alloc _
 have hsW : W.heap.size = w.heap.size + 1 := by rw [hW]; simp
 have hne : w.heap.size ≠ p := by omega
 have hEW := hE.eff hLW.1 hBp
 clear h hE
 have HK0 := Lib.hid kW
 have HL0 := Lib.hid hLW
 clear kW hLW hEW
 go_enter Tryz.func42, Tryz.ntmps42
 go_wp2_with fail
 rw [← hW]
 clear hW
 cases hc : cutP [123] r with
 | some q =>
  have hac := accept_yes p r [123] q d W HL0.out.2.1 hc
  have HC1 := Lib.hid hc
  have hql := cutP_len hc
  clear hc

  refine hac.mono ?_
  rintro e w2 ⟨rfl, hL2', hs2⟩
  clear hac hs2
  have HK2 := Lib.hid (hL2'.box HK0.out hne)
  have HL2 := Lib.hid (HL0.out.trans hL2')
  have HS2 := Lib.hid (show W.heap.size ≤ w2.heap.size from by have := (Array.getElem?_eq_some_iff.1 HK2.out).1; omega)
  clear hL2'
  have hx := (encV_any B k p hBp d val hI [125] q w2 HL2.out.2.1 (by unfold limP; omega) (HE.out.eff HL2.out.1 hBp)).mono (fun _ _ h => h.old)
  generalize hmo : manyP val [125] q = mo at hx
  have HQ : Hid (unlP val r = mo.map fun x => (.mk 6 0 [] x.1 [] [] [], x.2)) := Lib.hid (by unfold unlP; rw [HC1.out]; simp only; rw [hmo])
  clear hmo
  go_wp2_with fail
  refine hx.mono ?_
  rintro e w3 ⟨A, m, cap, z, rfl, hL3', hres⟩
  clear hx
  have k3 := hL3'.box HK2.out hne
  have hL3 := HL2.out.trans hL3'
  have HR := Lib.hid hres
  have HS3 := Lib.hid hL3'.size
  generalize hob0 : mo.isSome = ob
  have HO := Lib.hid hob0
  clear hob0 hL3' hres
  obtain ⟨e0, e1, e2, e3, e4, e5, e6⟩ := cells7 k3
  obtain ⟨z0, z1, z2, z3, z4, z5, z6⟩ := frozen7 k3
  have HK3 := Lib.hid k3
  have HL3 := Lib.hid hL3
  clear k3 hL3
  go_wp2
  obtain ⟨V, hV⟩ : ∃ V, V = (((((((w3.setCell ⟨w.heap.size, 0, none⟩ (.int .i64 6)).setCell ⟨w.heap.size, 1, none⟩ (.int .i64 0)).setCell ⟨w.heap.size, 2, none⟩ (.string ⟨#[]⟩)).setCell ⟨w.heap.size, 3, none⟩ (.slice A m cap)).setCell ⟨w.heap.size, 4, none⟩ (.slice none 0 0)).setCell ⟨w.heap.size, 5, none⟩ (.slice none 0 0)).setCell ⟨w.heap.size, 6, none⟩ (.slice none 0 0)) := ⟨_, rfl⟩
  rw [← hV]
  obtain ⟨hLV, hob, hszV, hsm, hoth⟩ := boxR7 HK3.out (Nat.le_refl _) hlp HL3.out (.int .i64 6) (.int .i64 0) (.string ⟨#[]⟩) (.slice A m cap) (.slice none 0 0) (.slice none 0 0) (.slice none 0 0) V hV
  clear hV e0 e1 e2 e3 e4 e5 e6 z0 z1 z2 z3 z4 z5 z6
  obtain ⟨ps0, ps1, ps2, ps3, ps4, ps5, ps6⟩ := cells7 hob
  refine bodyPost_ret (v := .tuple #[.agg #[.int .i64 6, .int .i64 0, .string ⟨#[]⟩, .slice A m cap, .slice none 0 0, .slice none 0 0, .slice none 0 0], .bool ob]) (by simp [results, Tryz.results42, go_sem, ps0, ps1, ps2, ps3, ps4, ps5, ps6]) rfl ?_
  cases mo with
  | none => have hob1 : false = ob := HO.out; subst hob1; exact valPost_no HQ.out hLV
  | some lt =>
   obtain ⟨l, t⟩ := lt
   obtain ⟨rfl, rfl, hml, hown⟩ := HR.out _ _ rfl
   have hob1 : true = ob := HO.out
   subst hob1
   have hs2 := HS2.out
   refine valPost_yes HQ.out hLV (VB.sub (k := k + 1) (B := Btw w.heap.size V.heap.size) (fun b hb => hb) (by omega) (vb_kids5 k V _ ?_))
   have hrow := (hown.row (by decide) (by unfold maxLen; omega)).keep (R' := fun j cs => ∃ x, l[j]? = some x ∧ VB k V (Btw w2.heap.size w3.heap.size) x cs) (hsm (Btw w2.heap.size w3.heap.size) (fun h => by have := h.1; omega)) (fun j cs ⟨x, hx, hv⟩ => ⟨x, hx, VB.keep (hsm _ (fun h => by have := h.1; omega)) hv⟩)
   exact hrow.sub (fun b hb => ⟨by have := hb.1; omega, by have := hb.2; omega⟩) (fun j cs ⟨x, hx, hv⟩ => ⟨x, hx, VB.sub (fun b hb => ⟨by have := hb.1; omega, by have := hb.2; omega⟩) (Nat.le_refl _) hv⟩)
 | none =>
  have hac := accept_no p r [123] d W HL0.out.2.1 hc
  have HC1 := Lib.hid hc
  clear hc

  refine hac.mono ?_
  rintro e x1 ⟨rfl, hL2', hs2⟩
  clear hac hs2
  have HK1 := Lib.hid (hL2'.box HK0.out hne)
  have HL1 := Lib.hid (HL0.out.trans hL2')
  clear hL2'
  cases hc : cutP [91] r with
  | some q =>
   have hac := accept_yes p r [91] q d x1 HL1.out.2.1 hc
   have HC2 := Lib.hid hc
   have hql := cutP_len hc
   clear hc
   go_wp2_with fail
   refine hac.mono ?_
   rintro e w2 ⟨rfl, hL2', hs2⟩
   clear hac hs2
   have HK2 := Lib.hid (hL2'.box HK1.out hne)
   have HL2 := Lib.hid (HL1.out.trans hL2')
   have HS2 := Lib.hid (show W.heap.size ≤ w2.heap.size from by have := (Array.getElem?_eq_some_iff.1 HK2.out).1; omega)
   clear hL2'
   have hx := listP_any5 B k p hk1 hBp d val hI q w2 HL2.out.2.1 (by unfold limP; omega) (HE.out.eff HL2.out.1 hBp)
   generalize hoo : listP val q = oo at hx
   have HQ : Hid (unlP val r = oo) := Lib.hid (by unfold unlP; rw [HC1.out]; simp only; rw [HC2.out]; simp only; exact hoo)
   clear hoo
   go_wp2_with fail
   refine hx.mono ?_
   rintro e w3 ⟨a, i, s, A1, n1, c1, A2, n2, c2, A3, n3, c3, A4, n4, c4, z, rfl, hL3', hres⟩
   clear hx
   have k3 := hL3'.box HK2.out hne
   have hL3 := HL2.out.trans hL3'
   have HR := Lib.hid hres
   have HS3 := Lib.hid hL3'.size
   generalize hob0 : oo.isSome = ob
   have HO := Lib.hid hob0
   clear hob0 hL3' hres
   obtain ⟨e0, e1, e2, e3, e4, e5, e6⟩ := cells7 k3
   obtain ⟨z0, z1, z2, z3, z4, z5, z6⟩ := frozen7 k3
   have HK3 := Lib.hid k3
   have HL3 := Lib.hid hL3
   clear k3 hL3
   go_wp2
   obtain ⟨V, hV⟩ : ∃ V, V = (((((((w3.setCell ⟨w.heap.size, 0, none⟩ (.int .i64 a)).setCell ⟨w.heap.size, 1, none⟩ (.int .i64 i)).setCell ⟨w.heap.size, 2, none⟩ (.string s)).setCell ⟨w.heap.size, 3, none⟩ (.slice A1 n1 c1)).setCell ⟨w.heap.size, 4, none⟩ (.slice A2 n2 c2)).setCell ⟨w.heap.size, 5, none⟩ (.slice A3 n3 c3)).setCell ⟨w.heap.size, 6, none⟩ (.slice A4 n4 c4)) := ⟨_, rfl⟩
   rw [← hV]
   obtain ⟨hLV, hob, hszV, hsm, hoth⟩ := boxR7 HK3.out (Nat.le_refl _) hlp HL3.out (.int .i64 a) (.int .i64 i) (.string s) (.slice A1 n1 c1) (.slice A2 n2 c2) (.slice A3 n3 c3) (.slice A4 n4 c4) V hV
   clear hV e0 e1 e2 e3 e4 e5 e6 z0 z1 z2 z3 z4 z5 z6
   obtain ⟨ps0, ps1, ps2, ps3, ps4, ps5, ps6⟩ := cells7 hob
   refine bodyPost_ret (v := .tuple #[.agg #[.int .i64 a, .int .i64 i, .string s, .slice A1 n1 c1, .slice A2 n2 c2, .slice A3 n3 c3, .slice A4 n4 c4], .bool ob]) (by simp [results, Tryz.results42, go_sem, ps0, ps1, ps2, ps3, ps4, ps5, ps6]) rfl ?_
   cases oo with
   | none => have hob1 : false = ob := HO.out; subst hob1; exact valPost_no HQ.out hLV
   | some vt =>
    obtain ⟨v, t⟩ := vt
    obtain ⟨rfl, hvb⟩ := HR.out _ _ rfl
    have hob1 : true = ob := HO.out
    subst hob1
    have hs2 := HS2.out
    exact valPost_yes HQ.out hLV (VB.sub (fun b hb => ⟨by have := hb.1; omega, by have := hb.2; omega⟩) (by omega) (VB.keep (hsm _ (fun h => by have := h.1; omega)) hvb))
  | none =>
   have hac := accept_no p r [91] d x1 HL1.out.2.1 hc
   have HC2 := Lib.hid hc
   clear hc
   go_wp2_with fail
   refine hac.mono ?_
   rintro e x2 ⟨rfl, hL2', hs2⟩
   clear hac hs2
   have HK2 := Lib.hid (hL2'.box HK1.out hne)
   have HL2 := Lib.hid (HL1.out.trans hL2')
   clear hL2'
   cases hc : cutP [37, 123] r with
   | some q =>
    have hac := accept_yes p r [37, 123] q d x2 HL2.out.2.1 hc
    have HC3 := Lib.hid hc
    have hql := cutP_len hc
    clear hc
    go_wp2_with fail
    refine hac.mono ?_
    rintro e w2 ⟨rfl, hL2', hs2⟩
    clear hac hs2
    have HK2 := Lib.hid (hL2'.box HK2.out hne)
    have HL2 := Lib.hid (HL2.out.trans hL2')
    have HS2 := Lib.hid (show W.heap.size ≤ w2.heap.size from by have := (Array.getElem?_eq_some_iff.1 HK2.out).1; omega)
    clear hL2'
    have hx := mappP_any5 B k p hBp d val (Lib.hid (fieldP_any5 B k p hBp d val hI)) q w2 HL2.out.2.1 (by unfold limP; omega) (HE.out.eff HL2.out.1 hBp)
    generalize hoo : (Option.map (fun x : List ((Int × Bs) × Vl) × Bs => ((.mk 8 0 [] (x.1.map Prod.snd) (x.1.map Prod.fst) [] [] : Vl), x.2)) (manyP (fieldP val) [125] q)) = oo at hx
    have HQ : Hid (unlP val r = oo) := Lib.hid (by unfold unlP; rw [HC1.out]; simp only; rw [HC2.out]; simp only; rw [HC3.out]; simp only; exact hoo)
    clear hoo
    go_wp2_with fail
    refine hx.mono ?_
    rintro e w3 ⟨a, i, s, A1, n1, c1, A2, n2, c2, A3, n3, c3, A4, n4, c4, z, rfl, hL3', hres⟩
    clear hx
    have k3 := hL3'.box HK2.out hne
    have hL3 := HL2.out.trans hL3'
    have HR := Lib.hid hres
    have HS3 := Lib.hid hL3'.size
    generalize hob0 : oo.isSome = ob
    have HO := Lib.hid hob0
    clear hob0 hL3' hres
    obtain ⟨e0, e1, e2, e3, e4, e5, e6⟩ := cells7 k3
    obtain ⟨z0, z1, z2, z3, z4, z5, z6⟩ := frozen7 k3
    have HK3 := Lib.hid k3
    have HL3 := Lib.hid hL3
    clear k3 hL3
    go_wp2
    obtain ⟨V, hV⟩ : ∃ V, V = (((((((w3.setCell ⟨w.heap.size, 0, none⟩ (.int .i64 a)).setCell ⟨w.heap.size, 1, none⟩ (.int .i64 i)).setCell ⟨w.heap.size, 2, none⟩ (.string s)).setCell ⟨w.heap.size, 3, none⟩ (.slice A1 n1 c1)).setCell ⟨w.heap.size, 4, none⟩ (.slice A2 n2 c2)).setCell ⟨w.heap.size, 5, none⟩ (.slice A3 n3 c3)).setCell ⟨w.heap.size, 6, none⟩ (.slice A4 n4 c4)) := ⟨_, rfl⟩
    rw [← hV]
    obtain ⟨hLV, hob, hszV, hsm, hoth⟩ := boxR7 HK3.out (Nat.le_refl _) hlp HL3.out (.int .i64 a) (.int .i64 i) (.string s) (.slice A1 n1 c1) (.slice A2 n2 c2) (.slice A3 n3 c3) (.slice A4 n4 c4) V hV
    clear hV e0 e1 e2 e3 e4 e5 e6 z0 z1 z2 z3 z4 z5 z6
    obtain ⟨ps0, ps1, ps2, ps3, ps4, ps5, ps6⟩ := cells7 hob
    refine bodyPost_ret (v := .tuple #[.agg #[.int .i64 a, .int .i64 i, .string s, .slice A1 n1 c1, .slice A2 n2 c2, .slice A3 n3 c3, .slice A4 n4 c4], .bool ob]) (by simp [results, Tryz.results42, go_sem, ps0, ps1, ps2, ps3, ps4, ps5, ps6]) rfl ?_
    cases oo with
    | none => have hob1 : false = ob := HO.out; subst hob1; exact valPost_no HQ.out hLV
    | some vt =>
     obtain ⟨v, t⟩ := vt
     obtain ⟨rfl, hvb⟩ := HR.out _ _ rfl
     have hob1 : true = ob := HO.out
     subst hob1
     have hs2 := HS2.out
     exact valPost_yes HQ.out hLV (VB.sub (fun b hb => ⟨by have := hb.1; omega, by have := hb.2; omega⟩) (by omega) (VB.keep (hsm _ (fun h => by have := h.1; omega)) hvb))
   | none =>
    have hac := accept_no p r [37, 123] d x2 HL2.out.2.1 hc
    have HC3 := Lib.hid hc
    clear hc
    go_wp2_with fail
    refine hac.mono ?_
    rintro e x3 ⟨rfl, hL2', hs2⟩
    clear hac hs2
    have HK3 := Lib.hid (hL2'.box HK2.out hne)
    have HL3 := Lib.hid (HL2.out.trans hL2')
    clear hL2'
    cases hc : cutP [102, 117, 110, 47] r with
    | some q =>
     have hac := accept_yes p r [102, 117, 110, 47] q d x3 HL3.out.2.1 hc
     have HC4 := Lib.hid hc
     have hql := cutP_len hc
     clear hc
     go_wp2_with fail
     refine hac.mono ?_
     rintro e w2 ⟨rfl, hL2', hs2⟩
     clear hac hs2
     have HK2 := Lib.hid (hL2'.box HK3.out hne)
     have HL2 := Lib.hid (HL3.out.trans hL2')
     have HS2 := Lib.hid (show W.heap.size ≤ w2.heap.size from by have := (Array.getElem?_eq_some_iff.1 HK2.out).1; omega)
     clear hL2'
     have hx := functionP_any5 B k p hBp d val (Lib.hid (entryP_any5 B k p hk1 hBp d val hI)) q w2 HL2.out.2.1 (by unfold limP; omega) (HE.out.eff HL2.out.1 hBp)
     generalize hoo : funcP val q = oo at hx
     have HQ : Hid (unlP val r = oo) := Lib.hid (by unfold unlP; rw [HC1.out]; simp only; rw [HC2.out]; simp only; rw [HC3.out]; simp only; rw [HC4.out]; simp only; exact hoo)
     clear hoo
     go_wp2_with fail
     refine hx.mono ?_
     rintro e w3 ⟨a, i, s, A1, n1, c1, A2, n2, c2, A3, n3, c3, A4, n4, c4, z, rfl, hL3', hres⟩
     clear hx
     have k3 := hL3'.box HK2.out hne
     have hL3 := HL2.out.trans hL3'
     have HR := Lib.hid hres
     have HS3 := Lib.hid hL3'.size
     generalize hob0 : oo.isSome = ob
     have HO := Lib.hid hob0
     clear hob0 hL3' hres
     obtain ⟨e0, e1, e2, e3, e4, e5, e6⟩ := cells7 k3
     obtain ⟨z0, z1, z2, z3, z4, z5, z6⟩ := frozen7 k3
     have HK3 := Lib.hid k3
     have HL3 := Lib.hid hL3
     clear k3 hL3
     go_wp2
     obtain ⟨V, hV⟩ : ∃ V, V = (((((((w3.setCell ⟨w.heap.size, 0, none⟩ (.int .i64 a)).setCell ⟨w.heap.size, 1, none⟩ (.int .i64 i)).setCell ⟨w.heap.size, 2, none⟩ (.string s)).setCell ⟨w.heap.size, 3, none⟩ (.slice A1 n1 c1)).setCell ⟨w.heap.size, 4, none⟩ (.slice A2 n2 c2)).setCell ⟨w.heap.size, 5, none⟩ (.slice A3 n3 c3)).setCell ⟨w.heap.size, 6, none⟩ (.slice A4 n4 c4)) := ⟨_, rfl⟩
     rw [← hV]
     obtain ⟨hLV, hob, hszV, hsm, hoth⟩ := boxR7 HK3.out (Nat.le_refl _) hlp HL3.out (.int .i64 a) (.int .i64 i) (.string s) (.slice A1 n1 c1) (.slice A2 n2 c2) (.slice A3 n3 c3) (.slice A4 n4 c4) V hV
     clear hV e0 e1 e2 e3 e4 e5 e6 z0 z1 z2 z3 z4 z5 z6
     obtain ⟨ps0, ps1, ps2, ps3, ps4, ps5, ps6⟩ := cells7 hob
     refine bodyPost_ret (v := .tuple #[.agg #[.int .i64 a, .int .i64 i, .string s, .slice A1 n1 c1, .slice A2 n2 c2, .slice A3 n3 c3, .slice A4 n4 c4], .bool ob]) (by simp [results, Tryz.results42, go_sem, ps0, ps1, ps2, ps3, ps4, ps5, ps6]) rfl ?_
     cases oo with
     | none => have hob1 : false = ob := HO.out; subst hob1; exact valPost_no HQ.out hLV
     | some vt =>
      obtain ⟨v, t⟩ := vt
      obtain ⟨rfl, hvb⟩ := HR.out _ _ rfl
      have hob1 : true = ob := HO.out
      subst hob1
      have hs2 := HS2.out
      exact valPost_yes HQ.out hLV (VB.sub (fun b hb => ⟨by have := hb.1; omega, by have := hb.2; omega⟩) (by omega) (VB.keep (hsm _ (fun h => by have := h.1; omega)) hvb))
    | none =>
     have hac := accept_no p r [102, 117, 110, 47] d x3 HL3.out.2.1 hc
     have HC4 := Lib.hid hc
     clear hc
     go_wp2_with fail
     refine hac.mono ?_
     rintro e x4 ⟨rfl, hL2', hs2⟩
     clear hac hs2
     have HK4 := Lib.hid (hL2'.box HK3.out hne)
     have HL4 := Lib.hid (HL3.out.trans hL2')
     clear hL2'
     cases hc : cutP [35] r with
     | some q =>
      have hac := accept_yes p r [35] q d x4 HL4.out.2.1 hc
      have HC5 := Lib.hid hc
      have hql := cutP_len hc
      clear hc
      go_wp2_with fail
      refine hac.mono ?_
      rintro e w2 ⟨rfl, hL2', hs2⟩
      clear hac hs2
      have HK2 := Lib.hid (hL2'.box HK4.out hne)
      have HL2 := Lib.hid (HL4.out.trans hL2')
      have HS2 := Lib.hid (show W.heap.size ≤ w2.heap.size from by have := (Array.getElem?_eq_some_iff.1 HK2.out).1; omega)
      clear hL2'
      have hx := numberP_any B p hBp q d w2 HL2.out.2.1 (by unfold limP; omega) (HE.out.eff HL2.out.1 hBp)
      generalize hno : numP q = no at hx
      have HQ : Hid (unlP val r = no.map fun x => (.mk 4 x.1 [] [] [] [] [], x.2)) := Lib.hid (by unfold unlP; rw [HC1.out]; simp only; rw [HC2.out]; simp only; rw [HC3.out]; simp only; rw [HC4.out]; simp only; rw [HC5.out]; simp only; rw [hno])
      clear hno
      go_wp2_with fail
      refine hx.mono ?_
      rintro e w3 ⟨n, z, rfl, hwf, hL3', hres⟩
      clear hx
      have k3 := hL3'.box HK2.out hne
      have hL3 := HL2.out.trans hL3'
      have HR := Lib.hid hres
      have HWF := Lib.hid hwf
      generalize hob0 : no.isSome = ob
      have HO := Lib.hid hob0
      clear hob0 hL3' hres hwf
      obtain ⟨e0, e1, e2, e3, e4, e5, e6⟩ := cells7 k3
      obtain ⟨z0, z1, z2, z3, z4, z5, z6⟩ := frozen7 k3
      have HK3 := Lib.hid k3
      have HL3 := Lib.hid hL3
      clear k3 hL3
      go_wp2
      obtain ⟨V, hV⟩ : ∃ V, V = (((((((w3.setCell ⟨w.heap.size, 0, none⟩ (.int .i64 4)).setCell ⟨w.heap.size, 1, none⟩ (.int .i64 n)).setCell ⟨w.heap.size, 2, none⟩ (.string ⟨#[]⟩)).setCell ⟨w.heap.size, 3, none⟩ (.slice none 0 0)).setCell ⟨w.heap.size, 4, none⟩ (.slice none 0 0)).setCell ⟨w.heap.size, 5, none⟩ (.slice none 0 0)).setCell ⟨w.heap.size, 6, none⟩ (.slice none 0 0)) := ⟨_, rfl⟩
      rw [← hV]
      obtain ⟨hLV, hob, hszV, hsm, hoth⟩ := boxR7 HK3.out (Nat.le_refl _) hlp HL3.out (.int .i64 4) (.int .i64 n) (.string ⟨#[]⟩) (.slice none 0 0) (.slice none 0 0) (.slice none 0 0) (.slice none 0 0) V hV
      clear hV e0 e1 e2 e3 e4 e5 e6 z0 z1 z2 z3 z4 z5 z6
      obtain ⟨ps0, ps1, ps2, ps3, ps4, ps5, ps6⟩ := cells7 hob
      refine bodyPost_ret (v := .tuple #[.agg #[.int .i64 4, .int .i64 n, .string ⟨#[]⟩, .slice none 0 0, .slice none 0 0, .slice none 0 0, .slice none 0 0], .bool ob]) (by simp [results, Tryz.results42, go_sem, ps0, ps1, ps2, ps3, ps4, ps5, ps6]) rfl ?_
      cases no with
      | none => have hob1 : false = ob := HO.out; subst hob1; exact valPost_no HQ.out hLV
      | some mt =>
       obtain ⟨m, t⟩ := mt
       obtain ⟨rfl, rfl⟩ := HR.out _ _ rfl
       have hob1 : true = ob := HO.out
       subst hob1
       exact valPost_yes HQ.out hLV (vb_leaf (k + 1048577) V _ 4 n [] (by decide) HWF.out (by simp))
     | none =>
      have hac := accept_no p r [35] d x4 HL4.out.2.1 hc
      have HC5 := Lib.hid hc
      clear hc
      go_wp2_with fail
      refine hac.mono ?_
      rintro e w2 ⟨rfl, hL2', hs2⟩
      clear hac hs2
      have HK5 := Lib.hid (hL2'.box HK4.out hne)
      have HL5 := Lib.hid (HL4.out.trans hL2')
      clear hL2'
      obtain ⟨c0, _, _, _⟩ := HL5.out.2.1.cells
      have HK2 := HK5
      have HL2 := HL5
      have HS2 := Lib.hid (show W.heap.size ≤ w2.heap.size from by have := (Array.getElem?_eq_some_iff.1 HK5.out).1; omega)
      cases hr0 : r with
      | nil =>
       have HN : Hid (r = []) := Lib.hid hr0
       rw [hr0] at c0
       clear hr0
       have hx := atomP_any5 (k + 1048577) p r d w2 HL2.out.2.1 (by unfold limP; omega)
       generalize hoo : (Option.map (fun x : (Int × Bs) × Bs => (atomV x.1, x.2)) (keyP r)) = oo at hx
       have HQ : Hid (unlP val r = oo) := Lib.hid (by unfold unlP; rw [HC1.out]; simp only; rw [HC2.out]; simp only; rw [HC3.out]; simp only; rw [HC4.out]; simp only; rw [HC5.out]; simp only; rw [if_neg (by rw [HN.out]; decide)]; exact hoo)
       clear hoo
       go_wp2_with fail
       refine hx.mono ?_
       rintro e w3 ⟨a, i, s, A1, n1, c1, A2, n2, c2, A3, n3, c3, A4, n4, c4, z, rfl, hL3', hres⟩
       clear hx
       have k3 := hL3'.box HK2.out hne
       have hL3 := HL2.out.trans hL3'
       have HR := Lib.hid hres
       have HS3 := Lib.hid hL3'.size
       generalize hob0 : oo.isSome = ob
       have HO := Lib.hid hob0
       clear hob0 hL3' hres
       obtain ⟨e0, e1, e2, e3, e4, e5, e6⟩ := cells7 k3
       obtain ⟨z0, z1, z2, z3, z4, z5, z6⟩ := frozen7 k3
       have HK3 := Lib.hid k3
       have HL3 := Lib.hid hL3
       clear k3 hL3
       go_wp2
       obtain ⟨V, hV⟩ : ∃ V, V = (((((((w3.setCell ⟨w.heap.size, 0, none⟩ (.int .i64 a)).setCell ⟨w.heap.size, 1, none⟩ (.int .i64 i)).setCell ⟨w.heap.size, 2, none⟩ (.string s)).setCell ⟨w.heap.size, 3, none⟩ (.slice A1 n1 c1)).setCell ⟨w.heap.size, 4, none⟩ (.slice A2 n2 c2)).setCell ⟨w.heap.size, 5, none⟩ (.slice A3 n3 c3)).setCell ⟨w.heap.size, 6, none⟩ (.slice A4 n4 c4)) := ⟨_, rfl⟩
       rw [← hV]
       obtain ⟨hLV, hob, hszV, hsm, hoth⟩ := boxR7 HK3.out (Nat.le_refl _) hlp HL3.out (.int .i64 a) (.int .i64 i) (.string s) (.slice A1 n1 c1) (.slice A2 n2 c2) (.slice A3 n3 c3) (.slice A4 n4 c4) V hV
       clear hV e0 e1 e2 e3 e4 e5 e6 z0 z1 z2 z3 z4 z5 z6
       obtain ⟨ps0, ps1, ps2, ps3, ps4, ps5, ps6⟩ := cells7 hob
       refine bodyPost_ret (v := .tuple #[.agg #[.int .i64 a, .int .i64 i, .string s, .slice A1 n1 c1, .slice A2 n2 c2, .slice A3 n3 c3, .slice A4 n4 c4], .bool ob]) (by simp [results, Tryz.results42, go_sem, ps0, ps1, ps2, ps3, ps4, ps5, ps6]) rfl ?_
       cases oo with
       | none => have hob1 : false = ob := HO.out; subst hob1; exact valPost_no HQ.out hLV
       | some vt =>
        obtain ⟨v, t⟩ := vt
        obtain ⟨rfl, hvb⟩ := HR.out _ _ rfl
        have hob1 : true = ob := HO.out
        subst hob1
        have hs2 := HS2.out
        exact valPost_yes HQ.out hLV (VB.sub (fun b hb => ⟨by have := hb.1; omega, by have := hb.2; omega⟩) (by omega) (VB.keep (hsm _ (fun h => by have := h.1; omega)) hvb))
      | cons c r0 =>
       have HN : Hid (r = c :: r0) := Lib.hid hr0
       have hic := isNumeral_any c w2
       rw [hr0] at c0
       have hgb : ∀ h, (⟨(c :: r0).toArray⟩ : ByteArray)[0]'h = c := fun _ => rfl
       have hne2 : ¬ (⟨(c :: r0).toArray⟩ : ByteArray) = ⟨#[]⟩ := by
        intro e
        have := congrArg (fun b => b.data.toList) e
        cases this
       have hsz : (⟨(c :: r0).toArray⟩ : ByteArray).size = r0.length + 1 := rfl
       have kp0 : (0 : Int) < (r0.length : Int) + 1 := by omega
       clear hr0
       cases hq : numC c with
       | true =>
        rw [hq] at hic
        have HNC := Lib.hid hq
        clear hq
        go_wp2_with fail
        refine hic.mono ?_
        rintro e w2' ⟨rfl, rfl⟩
        clear hic c0 hgb hne2 hsz
        have hx := numberP_any B p hBp r d w2 HL2.out.2.1 (by unfold limP; omega) (HE.out.eff HL2.out.1 hBp)
        generalize hno : numP r = no at hx
        have HQ : Hid (unlP val r = no.map fun x => (.mk 1 x.1 [] [] [] [] [], x.2)) := Lib.hid (by unfold unlP; rw [HC1.out]; simp only; rw [HC2.out]; simp only; rw [HC3.out]; simp only; rw [HC4.out]; simp only; rw [HC5.out]; simp only; rw [if_pos (by rw [HN.out]; exact HNC.out)]; rw [hno])
        clear hno
        go_wp2_with fail
        refine hx.mono ?_
        rintro e w3 ⟨n, z, rfl, hwf, hL3', hres⟩
        clear hx
        have k3 := hL3'.box HK2.out hne
        have hL3 := HL2.out.trans hL3'
        have HR := Lib.hid hres
        have HWF := Lib.hid hwf
        generalize hob0 : no.isSome = ob
        have HO := Lib.hid hob0
        clear hob0 hL3' hres hwf
        obtain ⟨e0, e1, e2, e3, e4, e5, e6⟩ := cells7 k3
        obtain ⟨z0, z1, z2, z3, z4, z5, z6⟩ := frozen7 k3
        have HK3 := Lib.hid k3
        have HL3 := Lib.hid hL3
        clear k3 hL3
        go_wp2
        obtain ⟨V, hV⟩ : ∃ V, V = (((((((w3.setCell ⟨w.heap.size, 0, none⟩ (.int .i64 1)).setCell ⟨w.heap.size, 1, none⟩ (.int .i64 n)).setCell ⟨w.heap.size, 2, none⟩ (.string ⟨#[]⟩)).setCell ⟨w.heap.size, 3, none⟩ (.slice none 0 0)).setCell ⟨w.heap.size, 4, none⟩ (.slice none 0 0)).setCell ⟨w.heap.size, 5, none⟩ (.slice none 0 0)).setCell ⟨w.heap.size, 6, none⟩ (.slice none 0 0)) := ⟨_, rfl⟩
        rw [← hV]
        obtain ⟨hLV, hob, hszV, hsm, hoth⟩ := boxR7 HK3.out (Nat.le_refl _) hlp HL3.out (.int .i64 1) (.int .i64 n) (.string ⟨#[]⟩) (.slice none 0 0) (.slice none 0 0) (.slice none 0 0) (.slice none 0 0) V hV
        clear hV e0 e1 e2 e3 e4 e5 e6 z0 z1 z2 z3 z4 z5 z6
        obtain ⟨ps0, ps1, ps2, ps3, ps4, ps5, ps6⟩ := cells7 hob
        refine bodyPost_ret (v := .tuple #[.agg #[.int .i64 1, .int .i64 n, .string ⟨#[]⟩, .slice none 0 0, .slice none 0 0, .slice none 0 0, .slice none 0 0], .bool ob]) (by simp [results, Tryz.results42, go_sem, ps0, ps1, ps2, ps3, ps4, ps5, ps6]) rfl ?_
        cases no with
        | none => have hob1 : false = ob := HO.out; subst hob1; exact valPost_no HQ.out hLV
        | some mt =>
         obtain ⟨m, t⟩ := mt
         obtain ⟨rfl, rfl⟩ := HR.out _ _ rfl
         have hob1 : true = ob := HO.out
         subst hob1
         exact valPost_yes HQ.out hLV (vb_leaf (k + 1048577) V _ 1 n [] (by decide) HWF.out (by simp))
       | false =>
        rw [hq] at hic
        have HNC := Lib.hid hq
        clear hq
        go_wp2_with fail
        refine hic.mono ?_
        rintro e w2' ⟨rfl, rfl⟩
        clear hic c0 hgb hne2 hsz
        have hx := atomP_any5 (k + 1048577) p r d w2 HL2.out.2.1 (by unfold limP; omega)
        generalize hoo : (Option.map (fun x : (Int × Bs) × Bs => (atomV x.1, x.2)) (keyP r)) = oo at hx
        have HQ : Hid (unlP val r = oo) := Lib.hid (by unfold unlP; rw [HC1.out]; simp only; rw [HC2.out]; simp only; rw [HC3.out]; simp only; rw [HC4.out]; simp only; rw [HC5.out]; simp only; rw [if_neg (by rw [HN.out]; show ¬ numC c = true; rw [HNC.out]; decide)]; exact hoo)
        clear hoo
        go_wp2_with fail
        refine hx.mono ?_
        rintro e w3 ⟨a, i, s, A1, n1, c1, A2, n2, c2, A3, n3, c3, A4, n4, c4, z, rfl, hL3', hres⟩
        clear hx
        have k3 := hL3'.box HK2.out hne
        have hL3 := HL2.out.trans hL3'
        have HR := Lib.hid hres
        have HS3 := Lib.hid hL3'.size
        generalize hob0 : oo.isSome = ob
        have HO := Lib.hid hob0
        clear hob0 hL3' hres
        obtain ⟨e0, e1, e2, e3, e4, e5, e6⟩ := cells7 k3
        obtain ⟨z0, z1, z2, z3, z4, z5, z6⟩ := frozen7 k3
        have HK3 := Lib.hid k3
        have HL3 := Lib.hid hL3
        clear k3 hL3
        go_wp2
        obtain ⟨V, hV⟩ : ∃ V, V = (((((((w3.setCell ⟨w.heap.size, 0, none⟩ (.int .i64 a)).setCell ⟨w.heap.size, 1, none⟩ (.int .i64 i)).setCell ⟨w.heap.size, 2, none⟩ (.string s)).setCell ⟨w.heap.size, 3, none⟩ (.slice A1 n1 c1)).setCell ⟨w.heap.size, 4, none⟩ (.slice A2 n2 c2)).setCell ⟨w.heap.size, 5, none⟩ (.slice A3 n3 c3)).setCell ⟨w.heap.size, 6, none⟩ (.slice A4 n4 c4)) := ⟨_, rfl⟩
        rw [← hV]
        obtain ⟨hLV, hob, hszV, hsm, hoth⟩ := boxR7 HK3.out (Nat.le_refl _) hlp HL3.out (.int .i64 a) (.int .i64 i) (.string s) (.slice A1 n1 c1) (.slice A2 n2 c2) (.slice A3 n3 c3) (.slice A4 n4 c4) V hV
        clear hV e0 e1 e2 e3 e4 e5 e6 z0 z1 z2 z3 z4 z5 z6
        obtain ⟨ps0, ps1, ps2, ps3, ps4, ps5, ps6⟩ := cells7 hob
        refine bodyPost_ret (v := .tuple #[.agg #[.int .i64 a, .int .i64 i, .string s, .slice A1 n1 c1, .slice A2 n2 c2, .slice A3 n3 c3, .slice A4 n4 c4], .bool ob]) (by simp [results, Tryz.results42, go_sem, ps0, ps1, ps2, ps3, ps4, ps5, ps6]) rfl ?_
        cases oo with
        | none => have hob1 : false = ob := HO.out; subst hob1; exact valPost_no HQ.out hLV
        | some vt =>
         obtain ⟨v, t⟩ := vt
         obtain ⟨rfl, hvb⟩ := HR.out _ _ rfl
         have hob1 : true = ob := HO.out
         subst hob1
         have hs2 := HS2.out
         exact valPost_yes HQ.out hLV (VB.sub (fun b hb => ⟨by have := hb.1; omega, by have := hb.2; omega⟩) (by omega) (VB.keep (hsm _ (fun h => by have := h.1; omega)) hvb))

end Go.Proofs.YtcjgaohblaidjaaGreatDoor
