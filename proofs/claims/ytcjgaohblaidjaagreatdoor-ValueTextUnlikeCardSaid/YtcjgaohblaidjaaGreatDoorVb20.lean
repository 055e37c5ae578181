/- What entry of the program's parser gives, with value as it reads deeper. -/
import Derived.Test.YtcjgaohblaidjaaGreatDoorVb17
import Derived.Test.YtcjgaohblaidjaaGreatDoorVb19
namespace Go.Proofs.YtcjgaohblaidjaaGreatDoor
open Go Go.RowKit
set_option maxRecDepth 100000 in
set_option maxHeartbeats 1600000 in
theorem entryP_any5 (B k p : Nat) (hk1 : 1 ≤ k) (hBp : B ≤ p) (d : Int) (val : Rd Vl) (hI : Hid (ValI B k p d val)) : EntI B k p d (entryP val) := by
 intro r w h hr hE
 have HE := Lib.hid hE
 have hlp := h.lt
 unfold limP at hr
 obtain ⟨W, hW⟩ : ∃ W, W = w.alloc (.cells #[.slice none 0 0, .bool false, .int .i64 0, .int .i64 0, .string ⟨#[]⟩, .slice none 0 0, .slice none 0 0, .slice none 0 0, .slice none 0 0] 45) := ⟨_, rfl⟩
 have kW : W.heap[w.heap.size]? = some (.cells #[.slice none 0 0, .bool false, .int .i64 0, .int .i64 0, .string ⟨#[]⟩, .slice none 0 0, .slice none 0 0, .slice none 0 0, .slice none 0 0] 45 (0, 0)) := by rw [hW]; exact heap_alloc_new w _
 have hLW : Left p r r d w W := by rw [hW]; exact (Left.refl h).alloc _
 have hsW : W.heap.size = w.heap.size + 1 := by rw [hW]; simp
 have hne : w.heap.size ≠ p := by omega
 have hEW := hE.eff hLW.1 hBp
 clear h hE
 have HKW := Lib.hid kW
 cases hc : cutP [40] r with
 | none =>
  have hac := accept_no p r [40] d W hLW.2.1 hc
  have HQ : Hid (entryP val r = none) := Lib.hid (by unfold entryP; rw [hc])
  have HLW := Lib.hid hLW
  clear hc hLW kW hEW
  go_enter Tryz.func130, Tryz.ntmps130
  go_wp2_with fail
  rw [← hW]
  clear hW
  refine hac.mono ?_
  rintro e w2 ⟨rfl, hL2', hs2⟩
  clear hac hs2
  have k2 := hL2'.box HKW.out hne
  have hL2 := HLW.out.trans hL2'
  clear hL2'
  obtain ⟨e0, e1, e2, e3, e4, e5, e6, e7, e8⟩ := cellz9 k2
  obtain ⟨z0, z1, z2, z3, z4, z5, z6, z7, z8⟩ := frozenz9 k2
  have HK3 := Lib.hid k2
  have HL3 := Lib.hid hL2
  clear k2 hL2
  go_wp2
  obtain ⟨V, hV⟩ : ∃ V, V = (((((((((w2.setCell ⟨w.heap.size, 0, none⟩ (.slice none 0 0)).setCell ⟨w.heap.size, 1, none⟩ (.bool false)).setCell ⟨w.heap.size, 2, none⟩ (.int .i64 0)).setCell ⟨w.heap.size, 3, none⟩ (.int .i64 0)).setCell ⟨w.heap.size, 4, none⟩ (.string ⟨#[]⟩)).setCell ⟨w.heap.size, 5, none⟩ (.slice none 0 0)).setCell ⟨w.heap.size, 6, none⟩ (.slice none 0 0)).setCell ⟨w.heap.size, 7, none⟩ (.slice none 0 0)).setCell ⟨w.heap.size, 8, none⟩ (.slice none 0 0)) := ⟨_, rfl⟩
  rw [← hV]
  obtain ⟨hLV, hob, hszV, hsm, hoth⟩ := boxR9 HK3.out (Nat.le_refl _) hlp HL3.out (.slice none 0 0) (.bool false) (.int .i64 0) (.int .i64 0) (.string ⟨#[]⟩) (.slice none 0 0) (.slice none 0 0) (.slice none 0 0) (.slice none 0 0) V hV
  clear hV e0 e1 e2 e3 e4 e5 e6 e7 e8 z0 z1 z2 z3 z4 z5 z6 z7 z8
  obtain ⟨ps0, ps1, ps2, ps3, ps4, ps5, ps6, ps7, ps8⟩ := cellz9 hob
  refine bodyPost_ret (v := .tuple #[.agg #[.slice none 0 0, .bool false, .int .i64 0, .int .i64 0, .string ⟨#[]⟩, .slice none 0 0, .slice none 0 0, .slice none 0 0, .slice none 0 0], .bool false]) (by simp [results, Tryz.results130, go_sem, ps0, ps1, ps2, ps3, ps4, ps5, ps6, ps7, ps8]) rfl ?_
  exact entPost_no HQ.out hLV
 | some r1 =>
  have hac := accept_yes p r [40] r1 d W hLW.2.1 hc
  have HC := Lib.hid hc
  have hr1 := cutP_len hc
  have HLW := Lib.hid hLW
  clear hc hLW kW hEW
  go_enter Tryz.func130, Tryz.ntmps130
  go_wp2_with fail
  rw [← hW]
  clear hW
  refine hac.mono ?_
  rintro e w2 ⟨rfl, hL2', hs2⟩
  clear hac hs2
  have k2 := hL2'.box HKW.out hne
  have hL2 := HLW.out.trans hL2'
  have hen := encV_any B k p hBp d val hI [41, 32, 45, 62, 32] r1 w2 hL2.2.1 (by unfold limP; omega) (HE.out.eff hL2.1 hBp)
  have hen := hen.mono (fun _ _ h => h.old)
  have HK2 := Lib.hid k2
  have HL2 := Lib.hid hL2
  have HS2 := Lib.hid hL2.size
  clear hL2' k2 hL2
  cases hm : manyP val [41, 32, 45, 62, 32] r1 with
  | none =>
   rw [hm] at hen
   have HQ : Hid (entryP val r = none) := Lib.hid (by unfold entryP; rw [HC.out]; simp only; rw [hm])
   clear hm
   go_wp2_with fail
   refine hen.mono ?_
   rintro e w3 ⟨A, n, cap, q, rfl, hL3', hres⟩
   clear hen hres
   have k3 := hL3'.box HK2.out hne
   have hL3 := HL2.out.trans hL3'
   clear hL3'
   obtain ⟨e0, e1, e2, e3, e4, e5, e6, e7, e8⟩ := cellz9 k3
   obtain ⟨z0, z1, z2, z3, z4, z5, z6, z7, z8⟩ := frozenz9 k3
   have HK3 := Lib.hid k3
   have HL3 := Lib.hid hL3
   clear k3 hL3
   go_wp2
   obtain ⟨V, hV⟩ : ∃ V, V = (((((((((w3.setCell ⟨w.heap.size, 0, none⟩ (.slice none 0 0)).setCell ⟨w.heap.size, 1, none⟩ (.bool false)).setCell ⟨w.heap.size, 2, none⟩ (.int .i64 0)).setCell ⟨w.heap.size, 3, none⟩ (.int .i64 0)).setCell ⟨w.heap.size, 4, none⟩ (.string ⟨#[]⟩)).setCell ⟨w.heap.size, 5, none⟩ (.slice none 0 0)).setCell ⟨w.heap.size, 6, none⟩ (.slice none 0 0)).setCell ⟨w.heap.size, 7, none⟩ (.slice none 0 0)).setCell ⟨w.heap.size, 8, none⟩ (.slice none 0 0)) := ⟨_, rfl⟩
   rw [← hV]
   obtain ⟨hLV, hob, hszV, hsm, hoth⟩ := boxR9 HK3.out (Nat.le_refl _) hlp HL3.out (.slice none 0 0) (.bool false) (.int .i64 0) (.int .i64 0) (.string ⟨#[]⟩) (.slice none 0 0) (.slice none 0 0) (.slice none 0 0) (.slice none 0 0) V hV
   clear hV e0 e1 e2 e3 e4 e5 e6 e7 e8 z0 z1 z2 z3 z4 z5 z6 z7 z8
   obtain ⟨ps0, ps1, ps2, ps3, ps4, ps5, ps6, ps7, ps8⟩ := cellz9 hob
   refine bodyPost_ret (v := .tuple #[.agg #[.slice none 0 0, .bool false, .int .i64 0, .int .i64 0, .string ⟨#[]⟩, .slice none 0 0, .slice none 0 0, .slice none 0 0, .slice none 0 0], .bool false]) (by simp [results, Tryz.results130, go_sem, ps0, ps1, ps2, ps3, ps4, ps5, ps6, ps7, ps8]) rfl ?_
   exact entPost_no HQ.out hLV
  | some lt =>
   obtain ⟨l, t⟩ := lt
   rw [hm] at hen
   have HM := Lib.hid hm
   clear hm
   go_wp2_with fail
   refine hen.mono ?_
   rintro e w3 ⟨A, n, cap, q, rfl, hL3', hres⟩
   clear hen
   obtain ⟨rfl, rfl, hnl, hown⟩ := hres _ _ rfl
   clear hres
   have k3 := hL3'.box HK2.out hne
   have hL3 := HL2.out.trans hL3'
   have hrow := hown.row (by decide) (by unfold maxLen; omega)
   have hs3 := hL3'.size
   have hql := hL3.2.2
   have hz2 := HS2.out
   have hB2 : ∀ b, Btw w2.heap.size w3.heap.size b → Btw w.heap.size w3.heap.size b := fun b hb => ⟨by have := hb.1; omega, hb.2⟩
   have hrow2 := hrow.sub (B' := Btw w.heap.size w3.heap.size) hB2 (R' := fun j cs => ∃ x, l[j]? = some x ∧ VB k w3 (Btw w.heap.size w3.heap.size) x cs) (fun j cs ⟨x, hx, hv⟩ => ⟨x, hx, VB.sub hB2 (Nat.le_refl _) hv⟩)
   have hblk : ∀ b, Btw w2.heap.size w3.heap.size b → b ≠ p := fun b hb => by have := hb.1; omega
   have hg0 : ∀ b, Btw w2.heap.size w3.heap.size b → b ≠ w.heap.size := fun b hb => by have := hb.1; have := (Array.getElem?_eq_some_iff.1 HK2.out).1; omega
   have hgW := (Array.getElem?_eq_some_iff.1 HK2.out).1
   have HROW := Lib.hid hrow
   have HK3 := Lib.hid k3
   have HL3 := Lib.hid hL3
   have HS3 := Lib.hid (And.intro hs3 hgW)
   clear hrow hrow2 hown hnl hL3' k3 hB2 hblk hg0 hgW
   cases hx : cutP [33] q with
   | some u =>
    have hac := accept_yes p q [33] u d w3 hL3.2.1 hx
    have HQ : Hid (entryP val r = some (.mk l true zeroV, u)) := Lib.hid (by unfold entryP; rw [HC.out]; simp only; rw [HM.out]; simp only; rw [hx])
    clear hx hL3
    generalize hln : l.length = m at *
    have HLN := Lib.hid hln
    clear hln
    go_wp2_with fail
    refine hac.mono ?_
    rintro e w4 ⟨rfl, hL4', hs4⟩
    clear hac
    have k4 := hL4'.box HK3.out hne
    have hL4 := HL3.out.trans hL4'
    have HS4 := Lib.hid hs4
    have HSM := Lib.hid (hL4'.1.same (B := Btw w2.heap.size w3.heap.size) (fun b hb => by have := hb.1; have := HS2.out; omega))
    clear hL4' hs4
    obtain ⟨e0, e1, e2, e3, e4, e5, e6, e7, e8⟩ := cellz9 k4
    obtain ⟨z0, z1, z2, z3, z4, z5, z6, z7, z8⟩ := frozenz9 k4
    have HK3 := Lib.hid k4
    have HL3 := Lib.hid hL4
    clear k4 hL4
    go_wp2
    obtain ⟨V, hV⟩ : ∃ V, V = (((((((((w4.setCell ⟨w.heap.size, 0, none⟩ (.slice A m cap)).setCell ⟨w.heap.size, 1, none⟩ (.bool true)).setCell ⟨w.heap.size, 2, none⟩ (.int .i64 0)).setCell ⟨w.heap.size, 3, none⟩ (.int .i64 0)).setCell ⟨w.heap.size, 4, none⟩ (.string ⟨#[]⟩)).setCell ⟨w.heap.size, 5, none⟩ (.slice none 0 0)).setCell ⟨w.heap.size, 6, none⟩ (.slice none 0 0)).setCell ⟨w.heap.size, 7, none⟩ (.slice none 0 0)).setCell ⟨w.heap.size, 8, none⟩ (.slice none 0 0)) := ⟨_, rfl⟩
    rw [← hV]
    obtain ⟨hLV, hob, hszV, hsm, hoth⟩ := boxR9 HK3.out (Nat.le_refl _) hlp HL3.out (.slice A m cap) (.bool true) (.int .i64 0) (.int .i64 0) (.string ⟨#[]⟩) (.slice none 0 0) (.slice none 0 0) (.slice none 0 0) (.slice none 0 0) V hV
    clear hV e0 e1 e2 e3 e4 e5 e6 e7 e8 z0 z1 z2 z3 z4 z5 z6 z7 z8
    obtain ⟨ps0, ps1, ps2, ps3, ps4, ps5, ps6, ps7, ps8⟩ := cellz9 hob
    refine bodyPost_ret (v := .tuple #[.agg #[.slice A m cap, .bool true, .int .i64 0, .int .i64 0, .string ⟨#[]⟩, .slice none 0 0, .slice none 0 0, .slice none 0 0, .slice none 0 0], .bool true]) (by simp [results, Tryz.results130, go_sem, ps0, ps1, ps2, ps3, ps4, ps5, ps6, ps7, ps8]) rfl ?_
    have hsm2 : Same (Btw w2.heap.size w3.heap.size) w3 V := HSM.out.trans (hsm _ (fun h => by have := h.1; have := HS3.out.2; omega))
    have h4 := HS4.out
    have h2 := HS2.out
    have hln := HLN.out
    subst hln
    refine entPost_yes HQ.out hLV ⟨l, true, zeroV, rfl, .slice A l.length cap, _, rfl, ?_, ?_⟩
    ·
     refine (HROW.out.keep hsm2 (R' := fun j cs => ∃ x, l[j]? = some x ∧ VB k V (Btw w.heap.size V.heap.size) x cs) ?_).sub (fun b hb => ⟨by have := hb.1; omega, by have := hb.2; omega⟩) (fun _ _ h => h)
     rintro j cs ⟨x, hx, hv⟩
     exact ⟨x, hx, VB.sub (fun b hb => ⟨by have := hb.1; omega, by have := hb.2; omega⟩) (Nat.le_refl _) (VB.keep hsm2 hv)⟩
    ·
     obtain ⟨k', rfl⟩ : ∃ k', k = k' + 1 := ⟨k - 1, by omega⟩
     exact vb_leaf k' V _ 0 0 [] (by decide) (by decide) (by simp)
   | none =>
    have hac := accept_no p q [33] d w3 hL3.2.1 hx
    have HX := Lib.hid hx
    clear hx hL3
    generalize hln : l.length = m at *
    have HLN := Lib.hid hln
    clear hln
    go_wp2_with fail
    refine hac.mono ?_
    rintro e w4 ⟨rfl, hL4', hs4⟩
    clear hac
    have k4 := hL4'.box HK3.out hne
    have hL4 := HL3.out.trans hL4'
    have hSM4 := hL4'.1.same (B := Btw w2.heap.size w3.heap.size) (fun b hb => by have := hb.1; have := HS2.out; omega)
    have hv := hI.out q w4 hL4.2.1 (by unfold limP; omega) (HE.out.eff hL4.1 hBp)
    have HS4 := Lib.hid hs4
    have HSM := Lib.hid hSM4
    have HK4 := Lib.hid k4
    have HL4 := Lib.hid hL4
    clear hL4' hs4 hSM4 k4 hL4
    generalize hvo : val q = vo at hv
    have HQ : Hid (entryP val r = vo.map fun x => (.mk l false x.1, x.2)) := Lib.hid (by unfold entryP; rw [HC.out]; simp only; rw [HM.out]; simp only; rw [HX.out]; simp only; rw [hvo]; cases vo <;> rfl)
    clear hvo
    go_wp2_with fail
    refine hv.mono ?_
    rintro e w5 ⟨a, i, s, A1, n1, c1, A2, n2, c2, A3, n3, c3, A4, n4, c4, z, rfl, hL5', hres⟩
    clear hv
    have k5' := hL5'.box HK4.out hne
    have k5 := (Below.heap_alloc w5 (.cells #[.int .i64 a, .int .i64 i, .string s, .slice A1 n1 c1, .slice A2 n2 c2, .slice A3 n3 c3, .slice A4 n4 c4] 27) _ (Array.getElem?_eq_some_iff.1 k5').1).trans k5'
    have hL5 := (HL4.out.trans hL5').alloc (.cells #[.int .i64 a, .int .i64 i, .string s, .slice A1 n1 c1, .slice A2 n2 c2, .slice A3 n3 c3, .slice A4 n4 c4] 27)
    have HSM5 := Lib.hid (hL5'.1.same (B := Btw w2.heap.size w3.heap.size) (fun b hb => by have := hb.1; have := HS2.out; omega))
    have HS5 := Lib.hid hL5'.size
    have HR := Lib.hid hres
    clear hL5' k5' hres
    generalize hob0 : vo.isSome = ob
    have HO := Lib.hid hob0
    clear hob0
    obtain ⟨e0, e1, e2, e3, e4, e5, e6, e7, e8⟩ := cellz9 k5
    obtain ⟨z0, z1, z2, z3, z4, z5, z6, z7, z8⟩ := frozenz9 k5
    have HK3 := Lib.hid k5
    have HL3 := Lib.hid hL5
    clear k5 hL5
    go_wp2
    obtain ⟨V, hV⟩ : ∃ V, V = ((((((((((w5.alloc (.cells #[.int .i64 a, .int .i64 i, .string s, .slice A1 n1 c1, .slice A2 n2 c2, .slice A3 n3 c3, .slice A4 n4 c4] 27)).setCell ⟨w.heap.size, 0, none⟩ (.slice A m cap)).setCell ⟨w.heap.size, 1, none⟩ (.bool false)).setCell ⟨w.heap.size, 2, none⟩ (.int .i64 a)).setCell ⟨w.heap.size, 3, none⟩ (.int .i64 i)).setCell ⟨w.heap.size, 4, none⟩ (.string s)).setCell ⟨w.heap.size, 5, none⟩ (.slice A1 n1 c1)).setCell ⟨w.heap.size, 6, none⟩ (.slice A2 n2 c2)).setCell ⟨w.heap.size, 7, none⟩ (.slice A3 n3 c3)).setCell ⟨w.heap.size, 8, none⟩ (.slice A4 n4 c4)) := ⟨_, rfl⟩
    rw [← hV]
    obtain ⟨hLV, hob, hszV, hsm, hoth⟩ := boxR9 HK3.out (Nat.le_refl _) hlp HL3.out (.slice A m cap) (.bool false) (.int .i64 a) (.int .i64 i) (.string s) (.slice A1 n1 c1) (.slice A2 n2 c2) (.slice A3 n3 c3) (.slice A4 n4 c4) V hV
    clear hV e0 e1 e2 e3 e4 e5 e6 e7 e8 z0 z1 z2 z3 z4 z5 z6 z7 z8
    obtain ⟨ps0, ps1, ps2, ps3, ps4, ps5, ps6, ps7, ps8⟩ := cellz9 hob
    refine bodyPost_ret (v := .tuple #[.agg #[.slice A m cap, .bool false, .int .i64 a, .int .i64 i, .string s, .slice A1 n1 c1, .slice A2 n2 c2, .slice A3 n3 c3, .slice A4 n4 c4], .bool ob]) (by simp [results, Tryz.results130, go_sem, ps0, ps1, ps2, ps3, ps4, ps5, ps6, ps7, ps8]) rfl ?_
    cases vo with
    | none => have hob1 : false = ob := HO.out; subst hob1; exact entPost_no HQ.out hLV
    | some xt =>
     obtain ⟨x, t⟩ := xt
     obtain ⟨rfl, hvb⟩ := HR.out _ _ rfl
     have hob1 : true = ob := HO.out
     subst hob1
     have h3 := HS3.out
     have h4 := HS4.out
     have h5 := HS5.out
     have h2 := HS2.out
     have hln := HLN.out
     subst hln
     have hsV : V.heap.size = w5.heap.size + 1 := by rw [hszV]; simp
     have hal : ∀ B : Nat → Prop, Same B w5 (w5.alloc (.cells #[.int .i64 a, .int .i64 i, .string s, .slice A1 n1 c1, .slice A2 n2 c2, .slice A3 n3 c3, .slice A4 n4 c4] 27)) := fun B => ⟨by simp, fun b j _ hl => World.cell?_of_block (Below.heap_alloc _ _ _ hl)⟩
     have hsm2 : Same (Btw w2.heap.size w3.heap.size) w3 V := (HSM.out.trans HSM5.out).trans ((hal _).trans (hsm _ (fun h => by have := h.1; omega)))
     have hsm5 : Same (Btw w4.heap.size w5.heap.size) w5 V := (hal _).trans (hsm _ (fun h => by have := h.1; omega))
     refine entPost_yes HQ.out hLV ⟨l, false, x, rfl, .slice A l.length cap, _, rfl, ?_, ?_⟩
     ·
      refine (HROW.out.keep hsm2 (R' := fun j cs => ∃ x, l[j]? = some x ∧ VB k V (Btw w.heap.size V.heap.size) x cs) ?_).sub (fun b hb => ⟨by have := hb.1; omega, by have := hb.2; omega⟩) (fun _ _ h => h)
      rintro j cs ⟨x, hx, hv⟩
      exact ⟨x, hx, VB.sub (fun b hb => ⟨by have := hb.1; omega, by have := hb.2; omega⟩) (Nat.le_refl _) (VB.keep hsm2 hv)⟩
     · exact VB.sub (fun b hb => ⟨by have := hb.1; omega, by have := hb.2; omega⟩) (Nat.le_refl _) (VB.keep hsm5 hvb)
end Go.Proofs.YtcjgaohblaidjaaGreatDoor
