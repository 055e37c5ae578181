/- Source.entry, given Source.Value: the round of its loop. -/
import Derived.Test.YtcjgaohblaidjaaGreatDoorVb18
namespace Go.Proofs.YtcjgaohblaidjaaGreatDoor
open Go Go.RowKit
theorem OwnE.blk {α : Type} {K : ElK α} {e : TypeId} {c : Nat} {w : World} {base : Nat} {v : Value} {l : List α} (h : OwnE K e c w base v l) : ∀ b, v.ownBlock = some b → base ≤ b ∧ b < w.heap.size := by
 intro b hb
 obtain ⟨xs, ho, _⟩ := h
 rcases ho.2 with ⟨rfl, _⟩ | ⟨g', cap', cur, rfl, hB, hg, _⟩
 · simp [Value.ownBlock] at hb
 ·
  simp [Value.ownBlock] at hb
  subst hb
  exact ⟨hB, (Array.getElem?_eq_some_iff.1 hg).1⟩
theorem se_set {h p g i : Nat} {w0 w : World} {x : Value} (hs : SrcOk h p w ∧ Eff p w0 w) (hg : w0.heap.size ≤ g) (hp : p < g) : SrcOk h p (w.setCell ⟨g, i, none⟩ x) ∧ Eff p w0 (w.setCell ⟨g, i, none⟩ x) := src_set hs.1 hs.2 hg hp
theorem okVs_of {l : List Vl} (h : ∀ x ∈ l, okV x = true ∧ sml x) : okVs l = true ∧ smlVs l := ⟨by rw [okVs_all, List.all_eq_true]; exact fun x hx => (h x hx).1, smlVs_iff.2 fun x hx => (h x hx).2⟩
set_option maxRecDepth 100000 in
set_option maxHeartbeats 3200000 in
theorem entry_src (k h p : Nat) (n : Nat) (ht : Int) (w : World) (hS : SrcOk h p w) (hn : n ≤ 2) (hk : 0 < k) (hv : Hid (∀ W, SrcOk h p W → Calls Tryz.prog 15 #[.pointer (some ⟨p, 0, none⟩), .int .i64 ht] W (DrawR k h p W))) :
  Calls Tryz.prog 60 #[.pointer (some ⟨p, 0, none⟩), .int .i64 n, .int .i64 ht] w fun e w' => (∃ x cs, e = .returned (.agg cs.toArray) ∧ EnB k x w' (Btw w.heap.size w'.heap.size) cs ∧ entB n x = true ∧ okE x = true ∧ smlE x) ∧ SrcOk h p w' ∧ Eff p w w' := by
 have hlp := hS.lt
 obtain ⟨W, hW⟩ : ∃ W, W = (w.alloc (.cells #[.slice none 0 0, .bool false, .int .i64 0, .int .i64 0, .string ⟨#[]⟩, .slice none 0 0, .slice none 0 0, .slice none 0 0, .slice none 0 0] 45)).alloc (.cells #[.slice none 0 0, .bool false, .int .i64 0, .int .i64 0, .string ⟨#[]⟩, .slice none 0 0, .slice none 0 0, .slice none 0 0, .slice none 0 0] 45) := ⟨_, rfl⟩
 have hbW : Below w.heap.size w W := by rw [hW]; exact ((Below.refl _ _).alloc (Nat.le_refl _) _).alloc (by simp) _
 have hzW : W.heap.size = w.heap.size + 2 := by rw [hW]; simp
 have kr : W.heap[w.heap.size]? = some (.cells #[.slice none 0 0, .bool false, .int .i64 0, .int .i64 0, .string ⟨#[]⟩, .slice none 0 0, .slice none 0 0, .slice none 0 0, .slice none 0 0] 45 (0, 0)) := by rw [hW, Below.heap_alloc _ _ _ (by simp)]; exact heap_alloc_new w _
 have kb : W.heap[w.heap.size + 1]? = some (.cells #[.slice none 0 0, .bool false, .int .i64 0, .int .i64 0, .string ⟨#[]⟩, .slice none 0 0, .slice none 0 0, .slice none 0 0, .slice none 0 0] 45 (0, 0)) := by rw [hW]; exact new_at' _ (by simp)
 have hSW := hS.below hbW
 have hEW := Eff.of_below hbW (Nat.le_of_lt hlp)
 clear hS hbW
 go_enter Tryz.func60, Tryz.ntmps60
 go_wp2_with fail
 rw [← hW]
 clear hW
 go_loopw [1] (fun i wr => ∃ (m : Nat) (A : Option Addr) (c : Nat) (args : List Vl), i = .int .i64 m ∧ args.length + m = n ∧ wr.heap[w.heap.size + 1]? = some (.cells #[.slice A args.length c, .bool false, .int .i64 0, .int .i64 0, .string ⟨#[]⟩, .slice none 0 0, .slice none 0 0, .slice none 0 0, .slice none 0 0] 45 (0, 0)) ∧ wr.heap[w.heap.size]? = some (.cells #[.slice none 0 0, .bool false, .int .i64 0, .int .i64 0, .string ⟨#[]⟩, .slice none 0 0, .slice none 0 0, .slice none 0 0, .slice none 0 0] 45 (0, 0)) ∧ OwnV k wr (w.heap.size + 2) (.slice A args.length c) args ∧ (∀ x ∈ args, okV x = true ∧ sml x) ∧ SrcOk h p wr ∧ Eff p w wr ∧ w.heap.size + 2 ≤ wr.heap.size) (fun i _ => (intOf i).toNat)
 case atStart => exact ⟨n, none, 0, [], rfl, by simp, kb, kr, OwnE.nil _ _ _ _ _, by simp, hSW, hEW, by omega⟩
 case round =>
  obtain ⟨m, A, c, args, rfl, hm, hbox, hres, hO, hall, hSr, hEr, hzr⟩ := hrel
  by_cases hm0 : m = 0
  ·
   subst hm0
   have hN := next_any h p 4 wr hSr (by omega) (by omega)
   have HE := Lib.hid (And.intro hbox (And.intro hres (And.intro hO (And.intro hall (And.intro hEr (And.intro hzr hm))))))
   have mp : ((0 : Nat) : Int) = 0 := rfl
   clear hbox hres hO hall hSr hEr hm
   go_wp2_with fail
   refine hN.mono ?_
   rintro e w2 ⟨j, rfl, j0, j1, hS2, hE2⟩
   clear hN
   have hz2 := hE2.size
   have hbx := HE.out
   have kb2 : w2.heap[w.heap.size + 1]? = some (.cells #[.slice A args.length c, .bool false, .int .i64 0, .int .i64 0, .string ⟨#[]⟩, .slice none 0 0, .slice none 0 0, .slice none 0 0, .slice none 0 0] 45 (0, 0)) := (hE2.other _ (by omega) (by omega)).trans hbx.1
   have kr2 : w2.heap[w.heap.size]? = some (.cells #[.slice none 0 0, .bool false, .int .i64 0, .int .i64 0, .string ⟨#[]⟩, .slice none 0 0, .slice none 0 0, .slice none 0 0, .slice none 0 0] 45 (0, 0)) := (hE2.other _ (by omega) (by omega)).trans hbx.2.1
   have hO2 := hbx.2.2.1.eff hE2 (by omega)
   have hE2' := hbx.2.2.2.2.1.trans hE2
   generalize hLA : args.length = la at kb2
   have HLA := Lib.hid hLA
   clear hLA
   by_cases hj : j = 1
   ·
    subst hj
    have HX := Lib.hid (And.intro hO2 (And.intro hE2' (And.intro hS2 (And.intro kb2 kr2))))
    clear hO2 hE2' hS2 hbx hE2
    have e0 : w2.cell? ⟨w.heap.size, 0, none⟩ = some (.slice none 0 0) := (Lib.cell_of_heap kr2 0).trans rfl
    have z0 := Lib.frozen_of_heap kr2 0
    have e1 : w2.cell? ⟨w.heap.size, 1, none⟩ = some (.bool false) := (Lib.cell_of_heap kr2 1).trans rfl
    have z1 := Lib.frozen_of_heap kr2 1
    have e2 : w2.cell? ⟨w.heap.size, 2, none⟩ = some (.int .i64 0) := (Lib.cell_of_heap kr2 2).trans rfl
    have z2 := Lib.frozen_of_heap kr2 2
    have e3 : w2.cell? ⟨w.heap.size, 3, none⟩ = some (.int .i64 0) := (Lib.cell_of_heap kr2 3).trans rfl
    have z3 := Lib.frozen_of_heap kr2 3
    have e4 : w2.cell? ⟨w.heap.size, 4, none⟩ = some (.string ⟨#[]⟩) := (Lib.cell_of_heap kr2 4).trans rfl
    have z4 := Lib.frozen_of_heap kr2 4
    have e5 : w2.cell? ⟨w.heap.size, 5, none⟩ = some (.slice none 0 0) := (Lib.cell_of_heap kr2 5).trans rfl
    have z5 := Lib.frozen_of_heap kr2 5
    have e6 : w2.cell? ⟨w.heap.size, 6, none⟩ = some (.slice none 0 0) := (Lib.cell_of_heap kr2 6).trans rfl
    have z6 := Lib.frozen_of_heap kr2 6
    have e7 : w2.cell? ⟨w.heap.size, 7, none⟩ = some (.slice none 0 0) := (Lib.cell_of_heap kr2 7).trans rfl
    have z7 := Lib.frozen_of_heap kr2 7
    have e8 : w2.cell? ⟨w.heap.size, 8, none⟩ = some (.slice none 0 0) := (Lib.cell_of_heap kr2 8).trans rfl
    have z8 := Lib.frozen_of_heap kr2 8
    have g0 : w2.cell? ⟨w.heap.size + 1, 0, none⟩ = some (.slice A la c) := (Lib.cell_of_heap kb2 0).trans rfl
    have y0 := Lib.frozen_of_heap kb2 0
    have g1 : w2.cell? ⟨w.heap.size + 1, 1, none⟩ = some (.bool false) := (Lib.cell_of_heap kb2 1).trans rfl
    have y1 := Lib.frozen_of_heap kb2 1
    have g2 : w2.cell? ⟨w.heap.size + 1, 2, none⟩ = some (.int .i64 0) := (Lib.cell_of_heap kb2 2).trans rfl
    have y2 := Lib.frozen_of_heap kb2 2
    have g3 : w2.cell? ⟨w.heap.size + 1, 3, none⟩ = some (.int .i64 0) := (Lib.cell_of_heap kb2 3).trans rfl
    have y3 := Lib.frozen_of_heap kb2 3
    have g4 : w2.cell? ⟨w.heap.size + 1, 4, none⟩ = some (.string ⟨#[]⟩) := (Lib.cell_of_heap kb2 4).trans rfl
    have y4 := Lib.frozen_of_heap kb2 4
    have g5 : w2.cell? ⟨w.heap.size + 1, 5, none⟩ = some (.slice none 0 0) := (Lib.cell_of_heap kb2 5).trans rfl
    have y5 := Lib.frozen_of_heap kb2 5
    have g6 : w2.cell? ⟨w.heap.size + 1, 6, none⟩ = some (.slice none 0 0) := (Lib.cell_of_heap kb2 6).trans rfl
    have y6 := Lib.frozen_of_heap kb2 6
    have g7 : w2.cell? ⟨w.heap.size + 1, 7, none⟩ = some (.slice none 0 0) := (Lib.cell_of_heap kb2 7).trans rfl
    have y7 := Lib.frozen_of_heap kb2 7
    have g8 : w2.cell? ⟨w.heap.size + 1, 8, none⟩ = some (.slice none 0 0) := (Lib.cell_of_heap kb2 8).trans rfl
    have y8 := Lib.frozen_of_heap kb2 8
    clear kb2 kr2
    go_wp2
    have HSE : SrcOk h p w2 ∧ Eff p w w2 := ⟨HX.out.2.2.1, HX.out.2.1⟩
    have HOW := HX.out.1
    have HALL := HE.out.2.2.2.1
    have hml : args.length = n := by have := HE.out.2.2.2.2.2.2; omega
    obtain ⟨V, hV⟩ : ∃ V, V = ((((((((((w2.setCell ⟨w.heap.size + 1, 1, none⟩ (Value.bool true)).setCell ⟨w.heap.size, 0, none⟩ (Value.slice A la c)).setCell ⟨w.heap.size, 1, none⟩ (Value.bool true)).setCell ⟨w.heap.size, 2, none⟩ (Value.int .i64 0)).setCell ⟨w.heap.size, 3, none⟩ (Value.int .i64 0)).setCell ⟨w.heap.size, 4, none⟩ (Value.string ⟨#[]⟩)).setCell ⟨w.heap.size, 5, none⟩ (Value.slice none 0 0)).setCell ⟨w.heap.size, 6, none⟩ (Value.slice none 0 0)).setCell ⟨w.heap.size, 7, none⟩ (Value.slice none 0 0)).setCell ⟨w.heap.size, 8, none⟩ (Value.slice none 0 0)) := ⟨_, rfl⟩
    rw [← hV]
    have hg1 : w.heap.size ≤ w.heap.size + 1 := by omega
    have hp1 : p < w.heap.size + 1 := by omega
    have hl1 : w.heap.size + 1 < w.heap.size + 2 := by omega
    have hl0 : w.heap.size < w.heap.size + 2 := by omega
    have hkb : (w2.setCell ⟨w.heap.size + 1, 1, none⟩ (Value.bool true)).heap[w.heap.size]? = some (.cells #[.slice none 0 0, .bool false, .int .i64 0, .int .i64 0, .string ⟨#[]⟩, .slice none 0 0, .slice none 0 0, .slice none 0 0, .slice none 0 0] 45 (0, 0)) := (heap_setCell_other _ _ _ _ (show w.heap.size ≠ w.heap.size + 1 by omega)).trans (HX.out.2.2.2.2)
    have hob : V.heap[w.heap.size]? = some (.cells #[Value.slice A la c, Value.bool true, Value.int .i64 0, Value.int .i64 0, Value.string ⟨#[]⟩, Value.slice none 0 0, Value.slice none 0 0, Value.slice none 0 0, Value.slice none 0 0] 45 (0, 0)) := by rw [hV]; exact obj9 hkb (Value.slice A la c) (Value.bool true) (Value.int .i64 0) (Value.int .i64 0) (Value.string ⟨#[]⟩) (Value.slice none 0 0) (Value.slice none 0 0) (Value.slice none 0 0) (Value.slice none 0 0)
    have hfin : SrcOk h p V ∧ Eff p w V := by rw [hV]; exact se_set (se_set (se_set (se_set (se_set (se_set (se_set (se_set (se_set (se_set (HSE) hg1 hp1) (Nat.le_refl _) hlp) (Nat.le_refl _) hlp) (Nat.le_refl _) hlp) (Nat.le_refl _) hlp) (Nat.le_refl _) hlp) (Nat.le_refl _) hlp) (Nat.le_refl _) hlp) (Nat.le_refl _) hlp) (Nat.le_refl _) hlp
    have hOV : OwnV k V (w.heap.size + 2) (.slice A args.length c) args := by rw [hV]; exact OwnE.low (OwnE.low (OwnE.low (OwnE.low (OwnE.low (OwnE.low (OwnE.low (OwnE.low (OwnE.low (OwnE.low (HOW) hl1) hl0) hl0) hl0) hl0) hl0) hl0) hl0) hl0) hl0
    have hzV : V.heap.size = w2.heap.size := by rw [hV]; simp
    have hsmV : ∀ B : Nat → Prop, ¬ B w.heap.size → ¬ B (w.heap.size + 1) → Same B w2 V := fun B h0 h1 => by rw [hV]; exact same_setCell (same_setCell (same_setCell (same_setCell (same_setCell (same_setCell (same_setCell (same_setCell (same_setCell (same_setCell (Same.refl _ _) h1) h0) h0) h0) h0) h0) h0) h0) h0) h0
    clear hV hkb e0 z0 e1 z1 e2 z2 e3 z3 e4 z4 e5 z5 e6 z6 e7 z7 e8 z8 g0 g1 g2 g3 g4 g5 g6 g7 g8 y0 y1 y2 y3 y4 y5 y6 y7 y8
    have ps0 : V.cell? ⟨w.heap.size, 0, none⟩ = some (Value.slice A la c) := (Lib.cell_of_heap hob 0).trans rfl
    have ps1 : V.cell? ⟨w.heap.size, 1, none⟩ = some (Value.bool true) := (Lib.cell_of_heap hob 1).trans rfl
    have ps2 : V.cell? ⟨w.heap.size, 2, none⟩ = some (Value.int .i64 0) := (Lib.cell_of_heap hob 2).trans rfl
    have ps3 : V.cell? ⟨w.heap.size, 3, none⟩ = some (Value.int .i64 0) := (Lib.cell_of_heap hob 3).trans rfl
    have ps4 : V.cell? ⟨w.heap.size, 4, none⟩ = some (Value.string ⟨#[]⟩) := (Lib.cell_of_heap hob 4).trans rfl
    have ps5 : V.cell? ⟨w.heap.size, 5, none⟩ = some (Value.slice none 0 0) := (Lib.cell_of_heap hob 5).trans rfl
    have ps6 : V.cell? ⟨w.heap.size, 6, none⟩ = some (Value.slice none 0 0) := (Lib.cell_of_heap hob 6).trans rfl
    have ps7 : V.cell? ⟨w.heap.size, 7, none⟩ = some (Value.slice none 0 0) := (Lib.cell_of_heap hob 7).trans rfl
    have ps8 : V.cell? ⟨w.heap.size, 8, none⟩ = some (Value.slice none 0 0) := (Lib.cell_of_heap hob 8).trans rfl
    refine bodyPost_ret (v := .agg #[Value.slice A la c, Value.bool true, Value.int .i64 0, Value.int .i64 0, Value.string ⟨#[]⟩, Value.slice none 0 0, Value.slice none 0 0, Value.slice none 0 0, Value.slice none 0 0]) (by simp [results, Tryz.results60, go_sem, ps0, ps1, ps2, ps3, ps4, ps5, ps6, ps7, ps8]) rfl ?_
    have hla := HLA.out
    subst hla
    obtain ⟨o1, o2⟩ := okVs_of HALL
    have hrow : RowB V (Btw w.heap.size V.heap.size) 7 (.slice A args.length c) args.length (fun j cs => ∃ x, args[j]? = some x ∧ VB k V (Btw w.heap.size V.heap.size) x cs) := RowB.sub (hOV.row (by omega) (by unfold maxLen; omega)) (fun b hb => ⟨by have := hb.1; omega, hb.2⟩) (by
     rintro j cs ⟨x, hx, hv⟩
     exact ⟨x, hx, VB.sub (fun b hb => ⟨by have := hb.1; omega, hb.2⟩) (Nat.le_refl _) hv⟩)
    obtain ⟨k, rfl⟩ : ∃ q, k = q + 1 := ⟨k - 1, by omega⟩
    refine ⟨⟨.mk args true zeroV, _, rfl, ⟨args, true, zeroV, rfl, _, _, rfl, hrow, zeroVB k V _⟩, ?_, ?_, ?_⟩, hfin⟩
    ·
     have hz : isZ zeroV = true := isZ_iff.2 rfl
     simp [entB, argsOf, failsOf, resOf, hz, hml]
    · simp [okE, o1]
    · exact ⟨by omega, o2, by simp [sml, zeroV, smlVs, smlEs]⟩
   ·
    have hjb : (j == 1) = false := by rw [beq_eq_false_iff_ne]; exact hj
    have hvc := hv.out w2 hS2
    have HX := Lib.hid (And.intro hO2 (And.intro hE2' (And.intro hS2 (And.intro kb2 kr2))))
    clear hO2 hE2' hS2 hbx hE2 kb2 kr2
    go_wp2_with fail
    refine hvc.mono ?_
    rintro e w3 ⟨⟨r, rs, rfl, hvb, hok, hsm⟩, hS3, hE3⟩
    clear hvc
    obtain ⟨a', i', s', B1', n1', d1', B2', n2', d2', B3', n3', d3', B4', n4', d4', rfl⟩ := hvb.form7
    have hz3 := hE3.size
    have kb3 : w3.heap[w.heap.size + 1]? = some (.cells #[.slice A la c, .bool false, .int .i64 0, .int .i64 0, .string ⟨#[]⟩, .slice none 0 0, .slice none 0 0, .slice none 0 0, .slice none 0 0] 45 (0, 0)) := (hE3.other _ (by omega) (by omega)).trans HX.out.2.2.2.1
    have kr3 : w3.heap[w.heap.size]? = some (.cells #[.slice none 0 0, .bool false, .int .i64 0, .int .i64 0, .string ⟨#[]⟩, .slice none 0 0, .slice none 0 0, .slice none 0 0, .slice none 0 0] 45 (0, 0)) := (hE3.other _ (by omega) (by omega)).trans HX.out.2.2.2.2
    have HY := Lib.hid (And.intro (HX.out.1.eff hE3 (by omega)) (And.intro (HX.out.2.1.trans hE3) (And.intro hS3 (And.intro kb3 (And.intro kr3 (And.intro hvb (And.intro hok hsm)))))))
    clear hvb hok hsm hS3 hE3
    have e0 : w3.cell? ⟨w.heap.size, 0, none⟩ = some (.slice none 0 0) := (Lib.cell_of_heap kr3 0).trans rfl
    have z0 := Lib.frozen_of_heap kr3 0
    have g0 : w3.cell? ⟨w.heap.size + 1, 0, none⟩ = some (.slice A la c) := (Lib.cell_of_heap kb3 0).trans rfl
    have y0 := Lib.frozen_of_heap kb3 0
    have e1 : w3.cell? ⟨w.heap.size, 1, none⟩ = some (.bool false) := (Lib.cell_of_heap kr3 1).trans rfl
    have z1 := Lib.frozen_of_heap kr3 1
    have g1 : w3.cell? ⟨w.heap.size + 1, 1, none⟩ = some (.bool false) := (Lib.cell_of_heap kb3 1).trans rfl
    have y1 := Lib.frozen_of_heap kb3 1
    have e2 : w3.cell? ⟨w.heap.size, 2, none⟩ = some (.int .i64 0) := (Lib.cell_of_heap kr3 2).trans rfl
    have z2 := Lib.frozen_of_heap kr3 2
    have g2 : w3.cell? ⟨w.heap.size + 1, 2, none⟩ = some (.int .i64 0) := (Lib.cell_of_heap kb3 2).trans rfl
    have y2 := Lib.frozen_of_heap kb3 2
    have e3 : w3.cell? ⟨w.heap.size, 3, none⟩ = some (.int .i64 0) := (Lib.cell_of_heap kr3 3).trans rfl
    have z3 := Lib.frozen_of_heap kr3 3
    have g3 : w3.cell? ⟨w.heap.size + 1, 3, none⟩ = some (.int .i64 0) := (Lib.cell_of_heap kb3 3).trans rfl
    have y3 := Lib.frozen_of_heap kb3 3
    have e4 : w3.cell? ⟨w.heap.size, 4, none⟩ = some (.string ⟨#[]⟩) := (Lib.cell_of_heap kr3 4).trans rfl
    have z4 := Lib.frozen_of_heap kr3 4
    have g4 : w3.cell? ⟨w.heap.size + 1, 4, none⟩ = some (.string ⟨#[]⟩) := (Lib.cell_of_heap kb3 4).trans rfl
    have y4 := Lib.frozen_of_heap kb3 4
    have e5 : w3.cell? ⟨w.heap.size, 5, none⟩ = some (.slice none 0 0) := (Lib.cell_of_heap kr3 5).trans rfl
    have z5 := Lib.frozen_of_heap kr3 5
    have g5 : w3.cell? ⟨w.heap.size + 1, 5, none⟩ = some (.slice none 0 0) := (Lib.cell_of_heap kb3 5).trans rfl
    have y5 := Lib.frozen_of_heap kb3 5
    have e6 : w3.cell? ⟨w.heap.size, 6, none⟩ = some (.slice none 0 0) := (Lib.cell_of_heap kr3 6).trans rfl
    have z6 := Lib.frozen_of_heap kr3 6
    have g6 : w3.cell? ⟨w.heap.size + 1, 6, none⟩ = some (.slice none 0 0) := (Lib.cell_of_heap kb3 6).trans rfl
    have y6 := Lib.frozen_of_heap kb3 6
    have e7 : w3.cell? ⟨w.heap.size, 7, none⟩ = some (.slice none 0 0) := (Lib.cell_of_heap kr3 7).trans rfl
    have z7 := Lib.frozen_of_heap kr3 7
    have g7 : w3.cell? ⟨w.heap.size + 1, 7, none⟩ = some (.slice none 0 0) := (Lib.cell_of_heap kb3 7).trans rfl
    have y7 := Lib.frozen_of_heap kb3 7
    have e8 : w3.cell? ⟨w.heap.size, 8, none⟩ = some (.slice none 0 0) := (Lib.cell_of_heap kr3 8).trans rfl
    have z8 := Lib.frozen_of_heap kr3 8
    have g8 : w3.cell? ⟨w.heap.size + 1, 8, none⟩ = some (.slice none 0 0) := (Lib.cell_of_heap kb3 8).trans rfl
    have y8 := Lib.frozen_of_heap kb3 8
    clear kb3 kr3
    go_wp2
    have HSE : SrcOk h p w3 ∧ Eff p w w3 := ⟨HY.out.2.2.1, HY.out.2.1⟩
    have HOW := HY.out.1
    have HALL := HE.out.2.2.2.1
    have hml : args.length = n := by have := HE.out.2.2.2.2.2.2; omega
    obtain ⟨V, hV⟩ : ∃ V, V = ((((((((((((((((w3.setCell ⟨w.heap.size + 1, 2, none⟩ (Value.int .i64 a')).setCell ⟨w.heap.size + 1, 3, none⟩ (Value.int .i64 i')).setCell ⟨w.heap.size + 1, 4, none⟩ (Value.string s')).setCell ⟨w.heap.size + 1, 5, none⟩ (Value.slice B1' n1' d1')).setCell ⟨w.heap.size + 1, 6, none⟩ (Value.slice B2' n2' d2')).setCell ⟨w.heap.size + 1, 7, none⟩ (Value.slice B3' n3' d3')).setCell ⟨w.heap.size + 1, 8, none⟩ (Value.slice B4' n4' d4')).setCell ⟨w.heap.size, 0, none⟩ (Value.slice A la c)).setCell ⟨w.heap.size, 1, none⟩ (Value.bool false)).setCell ⟨w.heap.size, 2, none⟩ (Value.int .i64 a')).setCell ⟨w.heap.size, 3, none⟩ (Value.int .i64 i')).setCell ⟨w.heap.size, 4, none⟩ (Value.string s')).setCell ⟨w.heap.size, 5, none⟩ (Value.slice B1' n1' d1')).setCell ⟨w.heap.size, 6, none⟩ (Value.slice B2' n2' d2')).setCell ⟨w.heap.size, 7, none⟩ (Value.slice B3' n3' d3')).setCell ⟨w.heap.size, 8, none⟩ (Value.slice B4' n4' d4')) := ⟨_, rfl⟩
    rw [← hV]
    have hg1 : w.heap.size ≤ w.heap.size + 1 := by omega
    have hp1 : p < w.heap.size + 1 := by omega
    have hl1 : w.heap.size + 1 < w.heap.size + 2 := by omega
    have hl0 : w.heap.size < w.heap.size + 2 := by omega
    have hkb : (((((((w3.setCell ⟨w.heap.size + 1, 2, none⟩ (Value.int .i64 a')).setCell ⟨w.heap.size + 1, 3, none⟩ (Value.int .i64 i')).setCell ⟨w.heap.size + 1, 4, none⟩ (Value.string s')).setCell ⟨w.heap.size + 1, 5, none⟩ (Value.slice B1' n1' d1')).setCell ⟨w.heap.size + 1, 6, none⟩ (Value.slice B2' n2' d2')).setCell ⟨w.heap.size + 1, 7, none⟩ (Value.slice B3' n3' d3')).setCell ⟨w.heap.size + 1, 8, none⟩ (Value.slice B4' n4' d4')).heap[w.heap.size]? = some (.cells #[.slice none 0 0, .bool false, .int .i64 0, .int .i64 0, .string ⟨#[]⟩, .slice none 0 0, .slice none 0 0, .slice none 0 0, .slice none 0 0] 45 (0, 0)) := (heap_setCell_other _ _ _ _ (show w.heap.size ≠ w.heap.size + 1 by omega)).trans ((heap_setCell_other _ _ _ _ (show w.heap.size ≠ w.heap.size + 1 by omega)).trans ((heap_setCell_other _ _ _ _ (show w.heap.size ≠ w.heap.size + 1 by omega)).trans ((heap_setCell_other _ _ _ _ (show w.heap.size ≠ w.heap.size + 1 by omega)).trans ((heap_setCell_other _ _ _ _ (show w.heap.size ≠ w.heap.size + 1 by omega)).trans ((heap_setCell_other _ _ _ _ (show w.heap.size ≠ w.heap.size + 1 by omega)).trans ((heap_setCell_other _ _ _ _ (show w.heap.size ≠ w.heap.size + 1 by omega)).trans (HY.out.2.2.2.2.1)))))))
    have hob : V.heap[w.heap.size]? = some (.cells #[Value.slice A la c, Value.bool false, Value.int .i64 a', Value.int .i64 i', Value.string s', Value.slice B1' n1' d1', Value.slice B2' n2' d2', Value.slice B3' n3' d3', Value.slice B4' n4' d4'] 45 (0, 0)) := by rw [hV]; exact obj9 hkb (Value.slice A la c) (Value.bool false) (Value.int .i64 a') (Value.int .i64 i') (Value.string s') (Value.slice B1' n1' d1') (Value.slice B2' n2' d2') (Value.slice B3' n3' d3') (Value.slice B4' n4' d4')
    have hfin : SrcOk h p V ∧ Eff p w V := by rw [hV]; exact se_set (se_set (se_set (se_set (se_set (se_set (se_set (se_set (se_set (se_set (se_set (se_set (se_set (se_set (se_set (se_set (HSE) hg1 hp1) hg1 hp1) hg1 hp1) hg1 hp1) hg1 hp1) hg1 hp1) hg1 hp1) (Nat.le_refl _) hlp) (Nat.le_refl _) hlp) (Nat.le_refl _) hlp) (Nat.le_refl _) hlp) (Nat.le_refl _) hlp) (Nat.le_refl _) hlp) (Nat.le_refl _) hlp) (Nat.le_refl _) hlp) (Nat.le_refl _) hlp
    have hOV : OwnV k V (w.heap.size + 2) (.slice A args.length c) args := by rw [hV]; exact OwnE.low (OwnE.low (OwnE.low (OwnE.low (OwnE.low (OwnE.low (OwnE.low (OwnE.low (OwnE.low (OwnE.low (OwnE.low (OwnE.low (OwnE.low (OwnE.low (OwnE.low (OwnE.low (HOW) hl1) hl1) hl1) hl1) hl1) hl1) hl1) hl0) hl0) hl0) hl0) hl0) hl0) hl0) hl0) hl0
    have hzV : V.heap.size = w3.heap.size := by rw [hV]; simp
    have hsmV : ∀ B : Nat → Prop, ¬ B w.heap.size → ¬ B (w.heap.size + 1) → Same B w3 V := fun B h0 h1 => by rw [hV]; exact same_setCell (same_setCell (same_setCell (same_setCell (same_setCell (same_setCell (same_setCell (same_setCell (same_setCell (same_setCell (same_setCell (same_setCell (same_setCell (same_setCell (same_setCell (same_setCell (Same.refl _ _) h1) h1) h1) h1) h1) h1) h1) h0) h0) h0) h0) h0) h0) h0) h0) h0
    clear hV hkb e0 z0 e1 z1 e2 z2 e3 z3 e4 z4 e5 z5 e6 z6 e7 z7 e8 z8 g0 g1 g2 g3 g4 g5 g6 g7 g8 y0 y1 y2 y3 y4 y5 y6 y7 y8
    have ps0 : V.cell? ⟨w.heap.size, 0, none⟩ = some (Value.slice A la c) := (Lib.cell_of_heap hob 0).trans rfl
    have ps1 : V.cell? ⟨w.heap.size, 1, none⟩ = some (Value.bool false) := (Lib.cell_of_heap hob 1).trans rfl
    have ps2 : V.cell? ⟨w.heap.size, 2, none⟩ = some (Value.int .i64 a') := (Lib.cell_of_heap hob 2).trans rfl
    have ps3 : V.cell? ⟨w.heap.size, 3, none⟩ = some (Value.int .i64 i') := (Lib.cell_of_heap hob 3).trans rfl
    have ps4 : V.cell? ⟨w.heap.size, 4, none⟩ = some (Value.string s') := (Lib.cell_of_heap hob 4).trans rfl
    have ps5 : V.cell? ⟨w.heap.size, 5, none⟩ = some (Value.slice B1' n1' d1') := (Lib.cell_of_heap hob 5).trans rfl
    have ps6 : V.cell? ⟨w.heap.size, 6, none⟩ = some (Value.slice B2' n2' d2') := (Lib.cell_of_heap hob 6).trans rfl
    have ps7 : V.cell? ⟨w.heap.size, 7, none⟩ = some (Value.slice B3' n3' d3') := (Lib.cell_of_heap hob 7).trans rfl
    have ps8 : V.cell? ⟨w.heap.size, 8, none⟩ = some (Value.slice B4' n4' d4') := (Lib.cell_of_heap hob 8).trans rfl
    refine bodyPost_ret (v := .agg #[Value.slice A la c, Value.bool false, Value.int .i64 a', Value.int .i64 i', Value.string s', Value.slice B1' n1' d1', Value.slice B2' n2' d2', Value.slice B3' n3' d3', Value.slice B4' n4' d4']) (by simp [results, Tryz.results60, go_sem, ps0, ps1, ps2, ps3, ps4, ps5, ps6, ps7, ps8]) rfl ?_
    have hla := HLA.out
    subst hla
    obtain ⟨o1, o2⟩ := okVs_of HALL
    have hrow : RowB V (Btw w.heap.size V.heap.size) 7 (.slice A args.length c) args.length (fun j cs => ∃ x, args[j]? = some x ∧ VB k V (Btw w.heap.size V.heap.size) x cs) := RowB.sub (hOV.row (by omega) (by unfold maxLen; omega)) (fun b hb => ⟨by have := hb.1; omega, hb.2⟩) (by
     rintro j cs ⟨x, hx, hv⟩
     exact ⟨x, hx, VB.sub (fun b hb => ⟨by have := hb.1; omega, hb.2⟩) (Nat.le_refl _) hv⟩)
    have hvr := VB.sub (B' := Btw w.heap.size V.heap.size) (fun b hb => ⟨by have := hb.1; omega, by have := hb.2; omega⟩) (Nat.le_refl _) (VB.keep (hsmV _ (fun h => by have := h.1; omega) (fun h => by have := h.1; omega)) HY.out.2.2.2.2.2.1)
    refine ⟨⟨.mk args false r, _, rfl, ⟨args, false, r, rfl, _, _, rfl, hrow, hvr⟩, ?_, ?_, ?_⟩, hfin⟩
    · simp [entB, argsOf, failsOf, resOf, hml]
    · simp [okE, o1, HY.out.2.2.2.2.2.2.1]
    · exact ⟨by omega, o2, HY.out.2.2.2.2.2.2.2⟩
  ·
   have mp : (0 : Int) < (m : Int) := by omega
   have hw1 : IntKind.i64.wrap ((m : Int) - 1) = (m : Int) - 1 := IntWalk.i64_in _ (by omega)
   have hLn := Lib.hid hm
   have hL := Lib.hid (And.intro hbox (And.intro hres (And.intro hO (And.intro hall (And.intro hSr (And.intro hEr hzr))))))
   clear hm hbox hres hO hall hSr hEr
   generalize hLA : args.length = la
   have HLA := Lib.hid hLA
   rw [hLA] at hL
   clear hLA
   go_wp2_with fail
   refine wp_region_held_drew (S := fun _ => True) (by kernel_rfl) trivial (fun hHeld => ?_)
   refine tk 0 hHeld ?_
   try simp only [Act.put, pA, pB, pC]
   refine tk 2 hHeld ?_
   try simp only [Act.put, pA, pB, pC]
   refine tk 3 hHeld ?_
   try simp only [Act.put, pA, pB, pC]
   have hsz : wr.drew.heap.size = wr.heap.size := rfl
   have hbx := hL.out
   have kb0 : wr.drew.heap[w.heap.size + 1]? = some (.cells #[.slice A la c, .bool false, .int .i64 0, .int .i64 0, .string ⟨#[]⟩, .slice none 0 0, .slice none 0 0, .slice none 0 0, .slice none 0 0] 45 (0, 0)) := hbx.1
   have kc0 : wr.drew.cell? ⟨w.heap.size + 1, 0, none⟩ = some (.slice A la c) := (Lib.cell_of_heap kb0 0).trans rfl
   have hvc := hv.out wr.drew (hbx.2.2.2.2.1.below (Below.refl _ _).drew)
   have hEd : Eff p wr wr.drew := Eff.of_below (Below.refl _ _).drew (by omega)
   refine wpAnyH_all (rs := [1, 4]) (by kernel_rfl) (by simp) fun j hj => ?_
   have hj2 : j = 1 ∨ j = 4 := by simpa using hj
   clear hj
   rcases hj2 with rfl | rfl
   ·
    refine step_op rfl (by rfl) (fun K hK => ?_)
    go_simp
    refine hK _ _ ⟨trivial, ?_⟩
    try simp only [Act.put, pA, pB, pC]
    refine one_op 4 (by kernel_rfl) rfl (by rfl) (fun K hK => ?_)
    go_simp
    refine hvc.mono ?_
    rintro e w10 ⟨⟨v, cs, rfl, hvb, hok, hsm⟩, hS10, hE10⟩
    obtain ⟨a', i', s', B1', n1', d1', B2', n2', d2', B3', n3', d3', B4', n4', d4', rfl⟩ := hvb.form7
    have hz10 : wr.heap.size ≤ w10.heap.size := hE10.size
    have hE10' : Eff p wr w10 := hEd.trans hE10
    have kb : w10.heap[w.heap.size + 1]? = some (.cells #[.slice A la c, .bool false, .int .i64 0, .int .i64 0, .string ⟨#[]⟩, .slice none 0 0, .slice none 0 0, .slice none 0 0, .slice none 0 0] 45 (0, 0)) := (hE10'.other _ (by omega) (by have := hbx.2.2.2.2.2.2; omega)).trans hbx.1
    have kr : w10.heap[w.heap.size]? = some (.cells #[.slice none 0 0, .bool false, .int .i64 0, .int .i64 0, .string ⟨#[]⟩, .slice none 0 0, .slice none 0 0, .slice none 0 0, .slice none 0 0] 45 (0, 0)) := (hE10'.other _ (by omega) (by have := hbx.2.2.2.2.2.2; omega)).trans hbx.2.1
    have hO10 := hbx.2.2.1.eff hE10' (by omega)
    have hblk := hbx.2.2.1.blk
    obtain ⟨i0, hi, hz0, hz1, hz2⟩ := info_parts Tryz.infoV
    obtain ⟨g, cap, w11, hr11, hO11, hb11, hk11, _⟩ := app_one (elV k) 22 22 27 i0 (.agg #[.int .i64 0, .int .i64 0, .string ⟨#[]⟩, .slice none 0 0, .slice none 0 0, .slice none 0 0, .slice none 0 0]) 7 128 Tryz.underlying22 hi hz0 hz1 hz2 rfl (by decide) (by decide) w10 (w.heap.size + 2) _ args hO10 v _ (VB.sub (fun b hb => ⟨by have := hb.1; have := hbx.2.2.2.2.2.2; omega, hb.2, fun e => by have := hblk b e.symm; have := hb.1; omega⟩) (Nat.le_refl _) hvb) rfl (elV_one k v _ _ _ hvb) (by have := hLn.out; omega) (by omega) _ rfl 1
    rw [show args.length = la from HLA.out] at hr11 hO11
    have kb11 : w11.heap[w.heap.size + 1]? = some (.cells #[.slice A la c, .bool false, .int .i64 0, .int .i64 0, .string ⟨#[]⟩, .slice none 0 0, .slice none 0 0, .slice none 0 0, .slice none 0 0] 45 (0, 0)) := (hb11.block _ (by omega)).trans kb
    have kr11 : w11.heap[w.heap.size]? = some (.cells #[.slice none 0 0, .bool false, .int .i64 0, .int .i64 0, .string ⟨#[]⟩, .slice none 0 0, .slice none 0 0, .slice none 0 0, .slice none 0 0] 45 (0, 0)) := (hb11.block _ (by omega)).trans kr
    have HR := Lib.hid (And.intro kb11 (And.intro kr11 (And.intro hO11 (And.intro hb11 (And.intro hok (And.intro hsm (And.intro hS10 hE10')))))))
    have kc11 : w11.cell? ⟨w.heap.size + 1, 0, none⟩ = some (.slice A la c) := (Lib.cell_of_heap kb11 0).trans rfl
    have kz11 := Lib.frozen_of_heap kb11 0
    have hz11 := hb11.size
    clear hvb hok hsm hS10 hE10 hE10' kb kr hO10 hblk hO11 hb11 hk11 kb11 kr11 hbx hEd hi hz0 hz1 hz2 kb0
    refine hK _ _ trivial ?_
    try simp only [Act.put, pA, pB, pC]
    refine one_op 5 (by kernel_rfl) rfl (by rfl) (fun K hK => ?_)
    go_simp
    refine hK _ _ trivial ?_
    try simp only [Act.put, pA, pB, pC]
    refine one_op 6 (by kernel_rfl) rfl (by rfl) (fun K hK => ?_)
    refine Lib.wp_append_run _ _ _ _ _ rfl _ _ rfl rfl _ w11 hr11 ?_
    refine hK _ _ trivial ?_
    try simp only [Act.put, pA, pB, pC]
    refine one_op 7 (by kernel_rfl) rfl (by rfl) (fun K hK => ?_)
    go_simp
    refine hK _ _ trivial ?_
    try simp only [Act.put, pA, pB, pC]
    refine one_op 8 (by kernel_rfl) rfl (by rfl) (fun K hK => ?_)
    go_simp
    refine hK _ _ trivial ?_
    try simp only [Act.put, pA, pB, pC]
    refine wpAnyH_done (by kernel_rfl) ?_ _
    clear kc0 kc11 kz11 hr11
    go_wp2_with fail
    go_roundw
    case rel =>
     obtain ⟨q1, q2, q3, q4, q5, q6, q7, q8⟩ := HR.out
     obtain ⟨_, _, _, hall, _, hEr, hzr⟩ := hL.out
     have hll : (args ++ [v]).length = la + 1 := by rw [List.length_append, HLA.out]; rfl
     have hEw11 := (hEr.trans q8).grow (q4.mono (by omega)) hlp
     have hS11 : SrcOk h p w11 := q7.below3 q4 (by omega)
     obtain ⟨r1, r2⟩ := src_set (g := w.heap.size + 1) (i := 0) (x := .slice (some ⟨g, 0, none⟩) (la + 1) cap) hS11 hEw11 (by omega) (by omega)
     refine ⟨m - 1, some ⟨g, 0, none⟩, cap, args ++ [v], by go_num, by rw [hll]; have := hLn.out; have := HLA.out; omega, ?_, (heap_setCell_other _ _ _ _ (show w.heap.size ≠ w.heap.size + 1 by omega)).trans q2, by rw [hll]; exact OwnE.low q3 (by omega), ?_, r1, r2, by simp; omega⟩
     ·
      rw [hll]
      have := heap_setCell_same w11 (w.heap.size + 1) 0 _ _ (.slice (some ⟨g, 0, none⟩) (la + 1) cap) q1
      simpa using this
     ·
      intro x hx
      rcases List.mem_append.1 hx with hx | hx
      · exact hall x hx
      ·
       rw [List.mem_singleton.1 hx]
       exact ⟨q5, q6⟩
    case measure => simp [intOf]; try omega
   ·
    refine step_op rfl (by rfl) (fun K hK => ?_)
    go_simp
    refine hvc.mono ?_
    rintro e w10 ⟨⟨v, cs, rfl, hvb, hok, hsm⟩, hS10, hE10⟩
    obtain ⟨a', i', s', B1', n1', d1', B2', n2', d2', B3', n3', d3', B4', n4', d4', rfl⟩ := hvb.form7
    have hz10 : wr.heap.size ≤ w10.heap.size := hE10.size
    have hE10' : Eff p wr w10 := hEd.trans hE10
    have kb : w10.heap[w.heap.size + 1]? = some (.cells #[.slice A la c, .bool false, .int .i64 0, .int .i64 0, .string ⟨#[]⟩, .slice none 0 0, .slice none 0 0, .slice none 0 0, .slice none 0 0] 45 (0, 0)) := (hE10'.other _ (by omega) (by have := hbx.2.2.2.2.2.2; omega)).trans hbx.1
    have kr : w10.heap[w.heap.size]? = some (.cells #[.slice none 0 0, .bool false, .int .i64 0, .int .i64 0, .string ⟨#[]⟩, .slice none 0 0, .slice none 0 0, .slice none 0 0, .slice none 0 0] 45 (0, 0)) := (hE10'.other _ (by omega) (by have := hbx.2.2.2.2.2.2; omega)).trans hbx.2.1
    have hO10 := hbx.2.2.1.eff hE10' (by omega)
    have hblk := hbx.2.2.1.blk
    obtain ⟨i0, hi, hz0, hz1, hz2⟩ := info_parts Tryz.infoV
    obtain ⟨g, cap, w11, hr11, hO11, hb11, hk11, _⟩ := app_one (elV k) 22 22 27 i0 (.agg #[.int .i64 0, .int .i64 0, .string ⟨#[]⟩, .slice none 0 0, .slice none 0 0, .slice none 0 0, .slice none 0 0]) 7 128 Tryz.underlying22 hi hz0 hz1 hz2 rfl (by decide) (by decide) w10 (w.heap.size + 2) _ args hO10 v _ (VB.sub (fun b hb => ⟨by have := hb.1; have := hbx.2.2.2.2.2.2; omega, hb.2, fun e => by have := hblk b e.symm; have := hb.1; omega⟩) (Nat.le_refl _) hvb) rfl (elV_one k v _ _ _ hvb) (by have := hLn.out; omega) (by omega) _ rfl 1
    rw [show args.length = la from HLA.out] at hr11 hO11
    have kb11 : w11.heap[w.heap.size + 1]? = some (.cells #[.slice A la c, .bool false, .int .i64 0, .int .i64 0, .string ⟨#[]⟩, .slice none 0 0, .slice none 0 0, .slice none 0 0, .slice none 0 0] 45 (0, 0)) := (hb11.block _ (by omega)).trans kb
    have kr11 : w11.heap[w.heap.size]? = some (.cells #[.slice none 0 0, .bool false, .int .i64 0, .int .i64 0, .string ⟨#[]⟩, .slice none 0 0, .slice none 0 0, .slice none 0 0, .slice none 0 0] 45 (0, 0)) := (hb11.block _ (by omega)).trans kr
    have HR := Lib.hid (And.intro kb11 (And.intro kr11 (And.intro hO11 (And.intro hb11 (And.intro hok (And.intro hsm (And.intro hS10 hE10')))))))
    have kc11 : w11.cell? ⟨w.heap.size + 1, 0, none⟩ = some (.slice A la c) := (Lib.cell_of_heap kb11 0).trans rfl
    have kz11 := Lib.frozen_of_heap kb11 0
    have hz11 := hb11.size
    have kc10 : w10.cell? ⟨w.heap.size + 1, 0, none⟩ = some (.slice A la c) := (Lib.cell_of_heap kb 0).trans rfl
    have kca : (w10.alloc (.cells #[.int .i64 a', .int .i64 i', .string s', .slice B1' n1' d1', .slice B2' n2' d2', .slice B3' n3' d3', .slice B4' n4' d4'] 27)).cell? ⟨w.heap.size + 1, 0, none⟩ = some (.slice A la c) := (Lib.cell_of_heap ((Below.heap_alloc _ _ _ (by omega)).trans kb) 0).trans rfl
    clear hvb hok hsm hS10 hE10 hE10' kb kr hO10 hblk hO11 hb11 hk11 kb11 kr11 hbx hEd hi hz0 hz1 hz2 kb0
    refine hK _ _ ⟨trivial, ?_⟩
    try simp only [Act.put, pA, pB, pC]
    refine wpAnyH_all (rs := [1, 5]) (by kernel_rfl) (by simp) fun j hj => ?_
    have hj2 : j = 1 ∨ j = 5 := by simpa using hj
    clear hj
    rcases hj2 with rfl | rfl
    ·
     refine step_op rfl (by rfl) (fun K hK => ?_)
     go_simp
     refine hK _ _ ⟨trivial, ?_⟩
     clear kc10 kca
     try simp only [Act.put, pA, pB, pC]
     refine one_op 5 (by kernel_rfl) rfl (by rfl) (fun K hK => ?_)
     go_simp
     refine hK _ _ trivial ?_
     try simp only [Act.put, pA, pB, pC]
     refine one_op 6 (by kernel_rfl) rfl (by rfl) (fun K hK => ?_)
     refine Lib.wp_append_run _ _ _ _ _ rfl _ _ rfl rfl _ w11 hr11 ?_
     refine hK _ _ trivial ?_
     try simp only [Act.put, pA, pB, pC]
     refine one_op 7 (by kernel_rfl) rfl (by rfl) (fun K hK => ?_)
     go_simp
     refine hK _ _ trivial ?_
     try simp only [Act.put, pA, pB, pC]
     refine one_op 8 (by kernel_rfl) rfl (by rfl) (fun K hK => ?_)
     go_simp
     refine hK _ _ trivial ?_
     try simp only [Act.put, pA, pB, pC]
     refine wpAnyH_done (by kernel_rfl) ?_ _
     clear kc0 kc11 kz11 hr11
     go_wp2_with fail
     go_roundw
     case rel =>
      obtain ⟨q1, q2, q3, q4, q5, q6, q7, q8⟩ := HR.out
      obtain ⟨_, _, _, hall, _, hEr, hzr⟩ := hL.out
      have hll : (args ++ [v]).length = la + 1 := by rw [List.length_append, HLA.out]; rfl
      have hEw11 := (hEr.trans q8).grow (q4.mono (by omega)) hlp
      have hS11 : SrcOk h p w11 := q7.below3 q4 (by omega)
      obtain ⟨r1, r2⟩ := src_set (g := w.heap.size + 1) (i := 0) (x := .slice (some ⟨g, 0, none⟩) (la + 1) cap) hS11 hEw11 (by omega) (by omega)
      refine ⟨m - 1, some ⟨g, 0, none⟩, cap, args ++ [v], by go_num, by rw [hll]; have := hLn.out; have := HLA.out; omega, ?_, (heap_setCell_other _ _ _ _ (show w.heap.size ≠ w.heap.size + 1 by omega)).trans q2, by rw [hll]; exact OwnE.low q3 (by omega), ?_, r1, r2, by simp; omega⟩
      ·
       rw [hll]
       have := heap_setCell_same w11 (w.heap.size + 1) 0 _ _ (.slice (some ⟨g, 0, none⟩) (la + 1) cap) q1
       simpa using this
      ·
       intro x hx
       rcases List.mem_append.1 hx with hx | hx
       · exact hall x hx
       ·
        rw [List.mem_singleton.1 hx]
        exact ⟨q5, q6⟩
     case measure => simp [intOf]; try omega
    ·
     refine step_op rfl (by rfl) (fun K hK => ?_)
     go_simp
     refine hK _ _ ⟨trivial, ?_⟩
     try simp only [Act.put, pA, pB, pC]
     refine one_op 1 (by kernel_rfl) rfl (by rfl) (fun K hK => ?_)
     go_simp
     refine hK _ _ trivial ?_
     clear kc10 kca
     try simp only [Act.put, pA, pB, pC]
     refine one_op 6 (by kernel_rfl) rfl (by rfl) (fun K hK => ?_)
     refine Lib.wp_append_run _ _ _ _ _ rfl _ _ rfl rfl _ w11 hr11 ?_
     refine hK _ _ trivial ?_
     try simp only [Act.put, pA, pB, pC]
     refine one_op 7 (by kernel_rfl) rfl (by rfl) (fun K hK => ?_)
     go_simp
     refine hK _ _ trivial ?_
     try simp only [Act.put, pA, pB, pC]
     refine one_op 8 (by kernel_rfl) rfl (by rfl) (fun K hK => ?_)
     go_simp
     refine hK _ _ trivial ?_
     try simp only [Act.put, pA, pB, pC]
     refine wpAnyH_done (by kernel_rfl) ?_ _
     clear kc0 kc11 kz11 hr11
     go_wp2_with fail
     go_roundw
     case rel =>
      obtain ⟨q1, q2, q3, q4, q5, q6, q7, q8⟩ := HR.out
      obtain ⟨_, _, _, hall, _, hEr, hzr⟩ := hL.out
      have hll : (args ++ [v]).length = la + 1 := by rw [List.length_append, HLA.out]; rfl
      have hEw11 := (hEr.trans q8).grow (q4.mono (by omega)) hlp
      have hS11 : SrcOk h p w11 := q7.below3 q4 (by omega)
      obtain ⟨r1, r2⟩ := src_set (g := w.heap.size + 1) (i := 0) (x := .slice (some ⟨g, 0, none⟩) (la + 1) cap) hS11 hEw11 (by omega) (by omega)
      refine ⟨m - 1, some ⟨g, 0, none⟩, cap, args ++ [v], by go_num, by rw [hll]; have := hLn.out; have := HLA.out; omega, ?_, (heap_setCell_other _ _ _ _ (show w.heap.size ≠ w.heap.size + 1 by omega)).trans q2, by rw [hll]; exact OwnE.low q3 (by omega), ?_, r1, r2, by simp; omega⟩
      ·
       rw [hll]
       have := heap_setCell_same w11 (w.heap.size + 1) 0 _ _ (.slice (some ⟨g, 0, none⟩) (la + 1) cap) q1
       simpa using this
      ·
       intro x hx
       rcases List.mem_append.1 hx with hx | hx
       · exact hall x hx
       ·
        rw [List.mem_singleton.1 hx]
        exact ⟨q5, q6⟩
     case measure => simp [intOf]; try omega
end Go.Proofs.YtcjgaohblaidjaaGreatDoor
