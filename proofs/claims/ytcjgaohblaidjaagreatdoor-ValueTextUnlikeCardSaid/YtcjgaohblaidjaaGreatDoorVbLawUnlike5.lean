/- ValueTextUnlike: the law returns true. Condition: the variables that the program reads are laid. -/
import Derived.Test.YtcjgaohblaidjaaGreatDoorVb01
import Derived.Test.YtcjgaohblaidjaaGreatDoorVb27
import Derived.Deep.RegionHeld
namespace Go.Proofs.YtcjgaohblaidjaaGreatDoor
open Go Go.RowKit
set_option maxRecDepth 100000 in
set_option maxHeartbeats 3200000 in
theorem unlike_law (hD : Hid DrawnOk5) (A : Option Addr) (n c : Nat) (A' : Option Addr) (n' c' : Nat) (w : World) (hR : RowP w w.heap.size 1 (.slice A n c) n (fun _ cs => ∃ x, cs = [.int .i64 x] ∧ (Lit.int .i64 x).wf = true)) (hR2 : RowP w w.heap.size 1 (.slice A' n' c') n' (fun _ cs => ∃ x, cs = [.int .i64 x] ∧ (Lit.int .i64 x).wf = true)) (hEH : EnvH w.heap.size w) :
  Calls Tryz.prog 6 #[.slice A n c, .slice A' n' c'] w fun e w' => e = .returned (.bool true) ∧ Below w.heap.size w w' := by
 have hH := Lib.hid hEH
 obtain ⟨_, _, _, hnm⟩ := hR.form
 obtain ⟨_, _, _, hnm2⟩ := hR2.form
 clear hEH
 by_cases hn : n ≤ 80
 ·
  have hn1 : ¬ (80 : Int) < (n : Int) := by omega
  by_cases hn' : n' ≤ 80
  ·
   have hn2 : ¬ (80 : Int) < (n' : Int) := by omega
   have hdr := hD.out A n c w hR hnm
   have HR2 := Lib.hid hR2
   clear hR hR2
   go_enter Tryz.func6, Tryz.ntmps6
   go_wp2_with fail
   refine hdr.mono ?_
   rintro e wa ⟨v, cs, rfl, hvb, hok, hsm, hb1⟩
   clear hdr
   obtain ⟨va, vi, vs, vA1, vn1, vc1, vA2, vn2, vc2, vA3, vn3, vc3, vA4, vn4, vc4, rfl⟩ := hvb.form7
   have hs1 := hb1.size
   have hdr2 := hD.out A' n' c' wa (RowB.mono (HR2.out.on hb1 fun _ _ h => h) hs1 fun _ _ h => h) hnm2
   have HV := Lib.hid (And.intro hvb (And.intro hok hsm))
   have HB1 := Lib.hid hb1
   clear hvb hok hsm hb1 hs1
   go_wp2_with fail
   refine hdr2.mono ?_
   rintro e wb ⟨u, cs, rfl, hub, huok, husm, hb2⟩
   clear hdr2
   obtain ⟨ua, ui, us, uA1, un1, uc1, uA2, un2, uc2, uA3, un3, uc3, uA4, un4, uc4, rfl⟩ := hub.form7
   obtain ⟨hvb, hok, hsm⟩ := HV.out
   obtain ⟨wz, hw4⟩ : ∃ wz, wz = (wb.alloc (.cells #[.int .i64 va, .int .i64 vi, .string vs, .slice vA1 vn1 vc1, .slice vA2 vn2 vc2, .slice vA3 vn3 vc3, .slice vA4 vn4 vc4] 27)).alloc (.cells #[.int .i64 ua, .int .i64 ui, .string us, .slice uA1 un1 uc1, .slice uA2 un2 uc2, .slice uA3 un3 uc3, .slice uA4 un4 uc4] 27) := ⟨_, rfl⟩
   have hb4 : Below wb.heap.size wb wz := by rw [hw4]; exact ((Below.refl _ _).alloc (Nat.le_refl _) _).alloc (by simp) _
   have kv : wz.heap[wb.heap.size]? = some (.cells #[.int .i64 va, .int .i64 vi, .string vs, .slice vA1 vn1 vc1, .slice vA2 vn2 vc2, .slice vA3 vn3 vc3, .slice vA4 vn4 vc4] 27 (0, 0)) := by rw [hw4]; exact (Below.heap_alloc _ _ _ (by simp)).trans (heap_alloc_new wb _)
   have ku : wz.heap[wb.heap.size + 1]? = some (.cells #[.int .i64 ua, .int .i64 ui, .string us, .slice uA1 un1 uc1, .slice uA2 un2 uc2, .slice uA3 un3 uc3, .slice uA4 un4 uc4] 27 (0, 0)) := by rw [hw4]; exact new_at' _ (by simp)
   have hs4 : wz.heap.size = wb.heap.size + 2 := by rw [hw4]; simp
   have hs1 := HB1.out.size
   have hs2 := hb2.size
   have hbw2 := HB1.out.trans (hb2.mono hs1)
   have hbw4 := hbw2.trans (hb4.mono (by omega))
   have hv4 : VS 4 wz wz.heap.size v _ := VB.sub (fun b hb => by have := hb.2; omega) (Nat.le_refl _) (VB.keep (Same.of_below (hb2.trans (hb4.mono hs2)) fun b hb => hb.2) hvb)
   have hu4 : VS 4 wz wz.heap.size u _ := VB.sub (fun b hb => by have := hb.2; omega) (Nat.le_refl _) (VB.keep (Same.of_below hb4 fun b hb => hb.2) hub)
   have hvf : Fit 4 v := hvb.fit hok
   have huf : Fit 4 u := hub.fit huok
   have hvl := drawn_len hvf (sml_tiny hsm)
   have hul := drawn_len huf (sml_tiny husm)
   have HK : Hid (∀ wq, Below wz.heap.size wz wq → wq.cell? ⟨wb.heap.size, 0, none⟩ = some (.int .i64 va) ∧ wq.cell? ⟨wb.heap.size, 1, none⟩ = some (.int .i64 vi) ∧ wq.cell? ⟨wb.heap.size, 2, none⟩ = some (.string vs) ∧ wq.cell? ⟨wb.heap.size, 3, none⟩ = some (.slice vA1 vn1 vc1) ∧ wq.cell? ⟨wb.heap.size, 4, none⟩ = some (.slice vA2 vn2 vc2) ∧ wq.cell? ⟨wb.heap.size, 5, none⟩ = some (.slice vA3 vn3 vc3) ∧ wq.cell? ⟨wb.heap.size, 6, none⟩ = some (.slice vA4 vn4 vc4) ∧ wq.cell? ⟨wb.heap.size + 1, 0, none⟩ = some (.int .i64 ua) ∧ wq.cell? ⟨wb.heap.size + 1, 1, none⟩ = some (.int .i64 ui) ∧ wq.cell? ⟨wb.heap.size + 1, 2, none⟩ = some (.string us) ∧ wq.cell? ⟨wb.heap.size + 1, 3, none⟩ = some (.slice uA1 un1 uc1) ∧ wq.cell? ⟨wb.heap.size + 1, 4, none⟩ = some (.slice uA2 un2 uc2) ∧ wq.cell? ⟨wb.heap.size + 1, 5, none⟩ = some (.slice uA3 un3 uc3) ∧ wq.cell? ⟨wb.heap.size + 1, 6, none⟩ = some (.slice uA4 un4 uc4)) := Lib.hid fun wq h => by
    obtain ⟨x0, x1, x2, x3, x4, x5, x6⟩ := cells7 ((h.block _ (by omega)).trans kv)
    obtain ⟨y0, y1, y2, y3, y4, y5, y6⟩ := cells7 ((h.block _ (by omega)).trans ku)
    exact ⟨x0, x1, x2, x3, x4, x5, x6, y0, y1, y2, y3, y4, y5, y6⟩
   have HBW := Lib.hid hbw4
   have HC1 : Hid (∀ wq, Below wz.heap.size wz wq → Calls Tryz.prog 10 #[.agg #[.int .i64 va, .int .i64 vi, .string vs, .slice vA1 vn1 vc1, .slice vA2 vn2 vc2, .slice vA3 vn3 vc3, .slice vA4 vn4 vc4]] wq fun e w' => e = .returned (.string ⟨(showV v).toArray⟩) ∧ Below wq.heap.size wq w') := Lib.hid fun wq h => by
    have hf := format_any 4 v _ wq (VS.up h.size (Nat.le_refl _) (VS.on h hv4)) ((hH.out.below (hbw4.trans (h.mono hbw4.size))).tbH (Nat.le_trans hbw4.size h.size)) (fun _ => by omega)
    rw [if_pos hok] at hf
    exact hf
   have HC3 : Hid (∀ wq, Below wz.heap.size wz wq → Calls Tryz.prog 10 #[.agg #[.int .i64 ua, .int .i64 ui, .string us, .slice uA1 un1 uc1, .slice uA2 un2 uc2, .slice uA3 un3 uc3, .slice uA4 un4 uc4]] wq fun e w' => e = .returned (.string ⟨(showV u).toArray⟩) ∧ Below wq.heap.size wq w') := Lib.hid fun wq h => by
    have hf := format_any 4 u _ wq (VS.up h.size (Nat.le_refl _) (VS.on h hu4)) ((hH.out.below (hbw4.trans (h.mono hbw4.size))).tbH (Nat.le_trans hbw4.size h.size)) (fun _ => by omega)
    rw [if_pos huok] at hf
    exact hf
   have HC7 : Hid (∀ wq, Below wz.heap.size wz wq → Calls Tryz.prog 13 #[.agg #[.int .i64 va, .int .i64 vi, .string vs, .slice vA1 vn1 vc1, .slice vA2 vn2 vc2, .slice vA3 vn3 vc3, .slice vA4 vn4 vc4], .agg #[.int .i64 ua, .int .i64 ui, .string us, .slice uA1 un1 uc1, .slice uA2 un2 uc2, .slice uA3 un3 uc3, .slice uA4 un4 uc4]] wq fun e w' => e = .returned (.bool (decide (cmpV v u = 0))) ∧ Below wq.heap.size wq w') := Lib.hid fun wq h => refEqual_any 4 v u _ _ wq (VS.up h.size (Nat.le_refl _) (VS.on h hv4)) (VS.up h.size (Nat.le_refl _) (VS.on h hu4))
   have HC10 : Hid (∀ wq, Below wz.heap.size wz wq → Calls Tryz.prog 8 #[] wq fun e w' => e = .returned (.bool true) ∧ Below wq.heap.size wq w') := Lib.hid fun wq h => awake_any5 w.heap.size wq (Nat.le_trans hbw4.size h.size) (hH.out.below (hbw4.trans (h.mono hbw4.size)))
   have hinj : showV v = showV u → v = u := showV_inj hvf huf
   by_cases hvu : v = u
   ·
    rw [show decide (cmpV v u = 0) = true from by rw [decide_eq_true_iff]; exact cmpV_zero.2 hvu] at HC7
    have hss : showV u = showV v := by rw [hvu]
    rw [hss] at HC3
    generalize showV v = s1 at HC1 HC3
    clear hinj hss hvl hul hvf huf hv4 hu4 hbw2 hb4 kv ku hub hvb hok huok hsm husm hvu hbw4 hs1 hs2
    go_wp2_with fail
    rw [← hw4]
    clear hw4
    refine wp_region_held_drew (S := fun wq => wq.cell? ⟨wb.heap.size, 0, none⟩ = some (.int .i64 va) ∧ wq.cell? ⟨wb.heap.size, 1, none⟩ = some (.int .i64 vi) ∧ wq.cell? ⟨wb.heap.size, 2, none⟩ = some (.string vs) ∧ wq.cell? ⟨wb.heap.size, 3, none⟩ = some (.slice vA1 vn1 vc1) ∧ wq.cell? ⟨wb.heap.size, 4, none⟩ = some (.slice vA2 vn2 vc2) ∧ wq.cell? ⟨wb.heap.size, 5, none⟩ = some (.slice vA3 vn3 vc3) ∧ wq.cell? ⟨wb.heap.size, 6, none⟩ = some (.slice vA4 vn4 vc4) ∧ wq.cell? ⟨wb.heap.size + 1, 0, none⟩ = some (.int .i64 ua) ∧ wq.cell? ⟨wb.heap.size + 1, 1, none⟩ = some (.int .i64 ui) ∧ wq.cell? ⟨wb.heap.size + 1, 2, none⟩ = some (.string us) ∧ wq.cell? ⟨wb.heap.size + 1, 3, none⟩ = some (.slice uA1 un1 uc1) ∧ wq.cell? ⟨wb.heap.size + 1, 4, none⟩ = some (.slice uA2 un2 uc2) ∧ wq.cell? ⟨wb.heap.size + 1, 5, none⟩ = some (.slice uA3 un3 uc3) ∧ wq.cell? ⟨wb.heap.size + 1, 6, none⟩ = some (.slice uA4 un4 uc4)) (by kernel_rfl) (HK.out _ (Below.refl _ _).drew) (fun _ => ?_)
    have hB0 : Below wz.heap.size wz wz.drew := (Below.refl _ _).drew
    refine take_op (i := 0) (v := _) rfl (by kernel_rfl) (by kernel_rfl) (by kernel_rfl) (fun _ _ _ h => h) (Or.inl ⟨by rfl, (by intro w hSw; (try dsimp only at hSw); go_simp; try with_reducible rfl)⟩) (HK.out _ hB0) ?_
    try simp only [Act.put, pA, pB, pC]
    refine take_op (i := 2) (v := _) rfl (by kernel_rfl) (by kernel_rfl) (by kernel_rfl) (fun _ _ _ h => h) (Or.inl ⟨by rfl, (by intro w hSw; (try dsimp only at hSw); go_simp; try with_reducible rfl)⟩) (HK.out _ hB0) ?_
    try simp only [Act.put, pA, pB, pC]
    refine take_op (i := 5) (v := _) rfl (by kernel_rfl) (by kernel_rfl) (by kernel_rfl) (fun _ _ _ h => h) (Or.inl ⟨by rfl, (by intro w hSw; (try dsimp only at hSw); go_simp; try with_reducible rfl)⟩) (HK.out _ hB0) ?_
    try simp only [Act.put, pA, pB, pC]
    refine take_op (i := 6) (v := _) rfl (by kernel_rfl) (by kernel_rfl) (by kernel_rfl) (fun _ _ _ h => h) (Or.inl ⟨by rfl, (by intro w hSw; (try dsimp only at hSw); go_simp; try with_reducible rfl)⟩) (HK.out _ hB0) ?_
    try simp only [Act.put, pA, pB, pC]
    refine one_op 1 (by kernel_rfl) rfl (by rfl) (fun K hK => ?_)
    go_simp
    refine (HC1.out _ hB0).mono ?_
    rintro e w1 ⟨rfl, hb1⟩
    have hB1 : Below wz.heap.size wz w1 := step_below hB0 (Nat.le_refl _) hb1
    clear hb1 hB0
    refine hK _ _ (HK.out _ hB1) ?_
    try simp only [Act.put, pA, pB, pC]
    clear hK K
    refine one_op 3 (by kernel_rfl) rfl (by rfl) (fun K hK => ?_)
    go_simp
    refine (HC3.out _ hB1).mono ?_
    rintro e w2 ⟨rfl, hb2⟩
    have hB2 : Below wz.heap.size wz w2 := step_below hB1 (Nat.le_refl _) hb2
    clear hb2 hB1
    refine hK _ _ (HK.out _ hB2) ?_
    try simp only [Act.put, pA, pB, pC]
    clear hK K
    refine take_op (i := 4) (v := _) rfl (by kernel_rfl) (by kernel_rfl) (by kernel_rfl) (fun _ _ _ h => h) (Or.inl ⟨by rfl, (by intro w hSw; (try dsimp only at hSw); go_simp; try with_reducible rfl)⟩) (HK.out _ hB2) ?_
    try simp only [Act.put, pA, pB, pC]
    refine one_op 7 (by kernel_rfl) rfl (by rfl) (fun K hK => ?_)
    go_simp
    refine (HC7.out _ hB2).mono ?_
    rintro e w3 ⟨rfl, hb3⟩
    have hB3 : Below wz.heap.size wz w3 := step_below hB2 (Nat.le_refl _) hb3
    clear hb3 hB2
    refine hK _ _ (HK.out _ hB3) ?_
    try simp only [Act.put, pA, pB, pC]
    clear hK K
    refine take_op (i := 8) (v := _) rfl (by kernel_rfl) (by kernel_rfl) (by kernel_rfl) (fun _ _ _ h => h) (Or.inl ⟨by rfl, (by intro w hSw; (try dsimp only at hSw); go_simp; try with_reducible rfl)⟩) (HK.out _ hB3) ?_
    try simp only [Act.put, pA, pB, pC]
    refine take_op (i := 9) (v := _) rfl (by kernel_rfl) (by kernel_rfl) (by kernel_rfl) (fun _ _ _ h => h) (Or.inl ⟨by rfl, (by intro w hSw; (try dsimp only at hSw); go_simp; try with_reducible rfl)⟩) (HK.out _ hB3) ?_
    try simp only [Act.put, pA, pB, pC]
    refine one_op 10 (by kernel_rfl) rfl (by rfl) (fun K hK => ?_)
    go_simp
    refine (HC10.out _ hB3).mono ?_
    rintro e w4 ⟨rfl, hb4⟩
    have hB4 : Below wz.heap.size wz w4 := step_below hB3 (Nat.le_refl _) hb4
    clear hb4 hB3
    refine hK _ _ (HK.out _ hB4) ?_
    try simp only [Act.put, pA, pB, pC]
    clear hK K
    refine take_op (i := 11) (v := _) rfl (by kernel_rfl) (by kernel_rfl) (by kernel_rfl) (fun _ _ _ h => h) (Or.inl ⟨by rfl, (by intro w hSw; (try dsimp only at hSw); go_simp; try with_reducible rfl)⟩) (HK.out _ hB4) ?_
    try simp only [Act.put, pA, pB, pC]
    refine take_op (i := 12) (v := _) rfl (by kernel_rfl) (by kernel_rfl) (by kernel_rfl) (fun _ _ _ h => h) (Or.inl ⟨by rfl, (by intro w hSw; (try dsimp only at hSw); go_simp; try with_reducible rfl)⟩) (HK.out _ hB4) ?_
    try simp only [Act.put, pA, pB, pC]
    refine wpAnyH_done (by kernel_rfl) ?_ _
    have HBF := Lib.hid (HBW.out.trans (hB4.mono HBW.out.size))
    clear hB4
    go_wp2
    go_ret
    exact ⟨rfl, HBF.out⟩
   ·
    rw [show decide (cmpV v u = 0) = false from by rw [decide_eq_false_iff_not]; exact fun h => hvu (cmpV_zero.1 h)] at HC7
    have hss : ¬ showV v = showV u := fun h => hvu (hinj h)
    generalize showV v = s1 at HC1 hss
    generalize showV u = s2 at HC3 hss
    have hbq : (s1 == s2) = false := beq_eq_false_iff_ne.2 hss
    have hbe : ¬ (⟨s1.toArray⟩ : ByteArray) = ⟨s2.toArray⟩ := fun e => hss (congrArg (fun b => b.data.toList) e)
    clear hinj hvl hul hvf huf hv4 hu4 hbw2 hb4 kv ku hub hvb hok huok hsm husm hvu hbw4 hs1 hs2
    go_wp2_with fail
    rw [← hw4]
    clear hw4
    refine wp_region_held_drew (S := fun wq => wq.cell? ⟨wb.heap.size, 0, none⟩ = some (.int .i64 va) ∧ wq.cell? ⟨wb.heap.size, 1, none⟩ = some (.int .i64 vi) ∧ wq.cell? ⟨wb.heap.size, 2, none⟩ = some (.string vs) ∧ wq.cell? ⟨wb.heap.size, 3, none⟩ = some (.slice vA1 vn1 vc1) ∧ wq.cell? ⟨wb.heap.size, 4, none⟩ = some (.slice vA2 vn2 vc2) ∧ wq.cell? ⟨wb.heap.size, 5, none⟩ = some (.slice vA3 vn3 vc3) ∧ wq.cell? ⟨wb.heap.size, 6, none⟩ = some (.slice vA4 vn4 vc4) ∧ wq.cell? ⟨wb.heap.size + 1, 0, none⟩ = some (.int .i64 ua) ∧ wq.cell? ⟨wb.heap.size + 1, 1, none⟩ = some (.int .i64 ui) ∧ wq.cell? ⟨wb.heap.size + 1, 2, none⟩ = some (.string us) ∧ wq.cell? ⟨wb.heap.size + 1, 3, none⟩ = some (.slice uA1 un1 uc1) ∧ wq.cell? ⟨wb.heap.size + 1, 4, none⟩ = some (.slice uA2 un2 uc2) ∧ wq.cell? ⟨wb.heap.size + 1, 5, none⟩ = some (.slice uA3 un3 uc3) ∧ wq.cell? ⟨wb.heap.size + 1, 6, none⟩ = some (.slice uA4 un4 uc4)) (by kernel_rfl) (HK.out _ (Below.refl _ _).drew) (fun _ => ?_)
    have hB0 : Below wz.heap.size wz wz.drew := (Below.refl _ _).drew
    refine take_op (i := 0) (v := _) rfl (by kernel_rfl) (by kernel_rfl) (by kernel_rfl) (fun _ _ _ h => h) (Or.inl ⟨by rfl, (by intro w hSw; (try dsimp only at hSw); go_simp; try with_reducible rfl)⟩) (HK.out _ hB0) ?_
    try simp only [Act.put, pA, pB, pC]
    refine take_op (i := 2) (v := _) rfl (by kernel_rfl) (by kernel_rfl) (by kernel_rfl) (fun _ _ _ h => h) (Or.inl ⟨by rfl, (by intro w hSw; (try dsimp only at hSw); go_simp; try with_reducible rfl)⟩) (HK.out _ hB0) ?_
    try simp only [Act.put, pA, pB, pC]
    refine take_op (i := 5) (v := _) rfl (by kernel_rfl) (by kernel_rfl) (by kernel_rfl) (fun _ _ _ h => h) (Or.inl ⟨by rfl, (by intro w hSw; (try dsimp only at hSw); go_simp; try with_reducible rfl)⟩) (HK.out _ hB0) ?_
    try simp only [Act.put, pA, pB, pC]
    refine take_op (i := 6) (v := _) rfl (by kernel_rfl) (by kernel_rfl) (by kernel_rfl) (fun _ _ _ h => h) (Or.inl ⟨by rfl, (by intro w hSw; (try dsimp only at hSw); go_simp; try with_reducible rfl)⟩) (HK.out _ hB0) ?_
    try simp only [Act.put, pA, pB, pC]
    refine one_op 1 (by kernel_rfl) rfl (by rfl) (fun K hK => ?_)
    go_simp
    refine (HC1.out _ hB0).mono ?_
    rintro e w1 ⟨rfl, hb1⟩
    have hB1 : Below wz.heap.size wz w1 := step_below hB0 (Nat.le_refl _) hb1
    clear hb1 hB0
    refine hK _ _ (HK.out _ hB1) ?_
    try simp only [Act.put, pA, pB, pC]
    clear hK K
    refine one_op 3 (by kernel_rfl) rfl (by rfl) (fun K hK => ?_)
    go_simp
    refine (HC3.out _ hB1).mono ?_
    rintro e w2 ⟨rfl, hb2⟩
    have hB2 : Below wz.heap.size wz w2 := step_below hB1 (Nat.le_refl _) hb2
    clear hb2 hB1
    refine hK _ _ (HK.out _ hB2) ?_
    try simp only [Act.put, pA, pB, pC]
    clear hK K
    refine take_op (i := 4) (v := _) rfl (by kernel_rfl) (by kernel_rfl) (by kernel_rfl) (fun _ _ _ h => h) (Or.inl ⟨by rfl, (by intro w hSw; (try dsimp only at hSw); go_simp; try with_reducible rfl)⟩) (HK.out _ hB2) ?_
    try simp only [Act.put, pA, pB, pC]
    refine one_op 7 (by kernel_rfl) rfl (by rfl) (fun K hK => ?_)
    go_simp
    refine (HC7.out _ hB2).mono ?_
    rintro e w3 ⟨rfl, hb3⟩
    have hB3 : Below wz.heap.size wz w3 := step_below hB2 (Nat.le_refl _) hb3
    clear hb3 hB2
    refine hK _ _ (HK.out _ hB3) ?_
    try simp only [Act.put, pA, pB, pC]
    clear hK K
    refine take_op (i := 8) (v := _) rfl (by kernel_rfl) (by kernel_rfl) (by kernel_rfl) (fun _ _ _ h => h) (Or.inl ⟨by rfl, (by intro w hSw; (try dsimp only at hSw); go_simp; try with_reducible rfl)⟩) (HK.out _ hB3) ?_
    try simp only [Act.put, pA, pB, pC]
    refine take_op (i := 9) (v := _) rfl (by kernel_rfl) (by kernel_rfl) (by kernel_rfl) (fun _ _ _ h => h) (Or.inl ⟨by rfl, (by intro w hSw; (try dsimp only at hSw); go_simp; try with_reducible rfl)⟩) (HK.out _ hB3) ?_
    try simp only [Act.put, pA, pB, pC]
    refine one_op 10 (by kernel_rfl) rfl (by rfl) (fun K hK => ?_)
    go_simp
    refine (HC10.out _ hB3).mono ?_
    rintro e w4 ⟨rfl, hb4⟩
    have hB4 : Below wz.heap.size wz w4 := step_below hB3 (Nat.le_refl _) hb4
    clear hb4 hB3
    refine hK _ _ (HK.out _ hB4) ?_
    try simp only [Act.put, pA, pB, pC]
    clear hK K
    refine take_op (i := 11) (v := _) rfl (by kernel_rfl) (by kernel_rfl) (by kernel_rfl) (fun _ _ _ h => h) (Or.inl ⟨by rfl, (by intro w hSw; (try dsimp only at hSw); go_simp; try with_reducible rfl)⟩) (HK.out _ hB4) ?_
    try simp only [Act.put, pA, pB, pC]
    refine take_op (i := 12) (v := _) rfl (by kernel_rfl) (by kernel_rfl) (by kernel_rfl) (fun _ _ _ h => h) (Or.inl ⟨by rfl, (by intro w hSw; (try dsimp only at hSw); go_simp; try with_reducible rfl)⟩) (HK.out _ hB4) ?_
    try simp only [Act.put, pA, pB, pC]
    refine wpAnyH_done (by kernel_rfl) ?_ _
    have HBF := Lib.hid (HBW.out.trans (hB4.mono HBW.out.size))
    clear hB4
    go_wp2
    go_ret
    exact ⟨rfl, HBF.out⟩
  ·
   have hn2 : (80 : Int) < (n' : Int) := by omega
   have haw := awake_any5 w.heap.size w (Nat.le_refl _) hH.out
   clear hR hR2
   go_enter Tryz.func6, Tryz.ntmps6
   go_wp2_with fail
   refine haw.mono ?_
   rintro e w1 ⟨rfl, hb1⟩
   clear haw
   go_wp2
   go_ret
   exact ⟨rfl, hb1⟩
 ·
  have hn1 : (80 : Int) < (n : Int) := by omega
  have haw := awake_any5 w.heap.size w (Nat.le_refl _) hH.out
  clear hR hR2
  go_enter Tryz.func6, Tryz.ntmps6
  go_wp2_with fail
  refine haw.mono ?_
  rintro e w1 ⟨rfl, hb1⟩
  clear haw
  go_wp2
  go_ret
  exact ⟨rfl, hb1⟩
end Go.Proofs.YtcjgaohblaidjaaGreatDoor
