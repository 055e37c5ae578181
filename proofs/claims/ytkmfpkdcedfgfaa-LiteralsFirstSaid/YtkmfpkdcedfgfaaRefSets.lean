/- What the document's MakeNames, ComplementNames and UnionNames return. Condition: at most 10^6 strings each. -/
import Derived.Test.YtkmfpkdcedfgfaaSorted
namespace Go.Proofs.Ytkmfpkdcedfgfaa
open Go.RowKit Go.Sort
set_option maxRecDepth 100000 in
set_option maxHeartbeats 1600000 in
theorem makeNames_any (co : Bool) (A : Option Addr) (n c : Nat) (ss : List Strg) (w : World) (hR : NmS w w.heap.size A n ss) (hn : n ≤ 1000000) :
    Calls Try.prog 24 #[.bool co, .slice A n c] w (RetN co (inN co ss) n w) := by
  have hb0 : Below w.heap.size w (w.alloc (.cells #[.bool false, .slice none 0 0] 24)) := (Below.refl _ _).alloc (Nat.le_refl _) _
  have hcl := sorted_any A n c ss (w.alloc (.cells #[.bool false, .slice none 0 0] 24)) (hR.kept hb0 (by simp)) hn
  have HC : Hid ((w.alloc (.cells #[.bool false, .slice none 0 0] 24)).heap[w.heap.size]? = some (.cells #[.bool false, .slice none 0 0] 24 (0, 0))) := Lib.hid (new_at _ (by simp))
  have HB0 := Lib.hid hb0
  have HSH := Lib.hid hR.2.1
  have HLN := Lib.hid hR.1
  clear hb0 hR
  have hfs := field_sorted
  go_enter Try.func24, Try.ntmps24
  go_wp2_with (go_at_call 36; refine hcl.mono ?_; rintro e w1 ⟨A2, cap2, rfl, ho, hb1⟩; refine Hid.out ?_)
  refine Lib.hid ?_
  have hsh := short_of HSH.out fun x hx => (srt_mem ss x).1 hx
  have hset := isSet_srt co ss
  have hk : (srt ss).length ≤ n := by have := srt_len ss; have := HLN.out; omega
  generalize srt ss = m at ho hsh hset hk ⊢
  have hcell : w1.heap[w.heap.size]? = some (.cells #[.bool false, .slice none 0 0] 24 (0, 0)) := (hb1.block _ (by simp)).trans HC.out
  have c0 : w1.cell? ⟨w.heap.size, 0, none⟩ = some (.bool false) := by rw [Lib.cell_of_heap hcell]; rfl
  have c1 : w1.cell? ⟨w.heap.size, 1, none⟩ = some (.slice none 0 0) := by rw [Lib.cell_of_heap hcell]; rfl
  have f0 : w1.frozen? ⟨w.heap.size, 0, none⟩ = false := Lib.frozen_of_heap hcell 0
  have f1 : w1.frozen? ⟨w.heap.size, 1, none⟩ = false := Lib.frozen_of_heap hcell 1
  have ho' : OwnN w1 (w.heap.size + 1) (.slice A2 m.length cap2) m := ho.mono (by simp)
  have HO := Lib.hid ho'
  have HB := Lib.hid (HB0.out.trans (hb1.mono (by simp; try omega)))
  have HSET := Lib.hid hset
  clear hcell ho ho' hb1 hset hcl
  go_wp2
  refine bodyPost_ret (v := .agg #[.bool (co), .slice A2 m.length cap2]) (by simp [results, Try.results24, go_sem, c0, c1]) rfl ?_
  exact RetN.stored rfl HO.out (by omega) hsh HSET.out hk HB.out _ _
set_option maxRecDepth 100000 in
set_option maxHeartbeats 1600000 in
theorem complementNames_any (co : Bool) (A : Option Addr) (n c : Nat) (ss : List Strg) (w : World) (hR : NmS w w.heap.size A n ss) (hn : n ≤ 1000000) :
    Calls Try.prog 34 #[.agg #[.bool co, .slice A n c]] w (RetN (!co) (inN (!co) ss) n w) := by
  have hb0 : Below w.heap.size w ((w.alloc (.cells #[.bool co, .slice A n c] 24)).alloc (.cells #[.bool false, .slice none 0 0] 24)) := ((Below.refl _ _).alloc (Nat.le_refl _) _).alloc (by simp; try omega) _
  have hcl := makeNames_any (!co) A n c ss ((w.alloc (.cells #[.bool co, .slice A n c] 24)).alloc (.cells #[.bool false, .slice none 0 0] 24)) (hR.kept hb0 (by simp; omega)) hn
  have HC : Hid (((w.alloc (.cells #[.bool co, .slice A n c] 24)).alloc (.cells #[.bool false, .slice none 0 0] 24)).heap[w.heap.size + 1]? = some (.cells #[.bool false, .slice none 0 0] 24 (0, 0))) := Lib.hid (new_at _ (by simp))
  have HB0 := Lib.hid hb0
  clear hb0 hR
  have hfs := field_sorted
  go_enter Try.func34, Try.ntmps34
  go_wp2_with (go_at_call 24; refine hcl.mono ?_; rintro e w1 ⟨m, A2, cap2, rfl, ho, hsh, hset, hk, hb1⟩; refine Hid.out ?_)
  refine Lib.hid ?_
  have hcell : w1.heap[w.heap.size + 1]? = some (.cells #[.bool false, .slice none 0 0] 24 (0, 0)) := (hb1.block _ (by simp)).trans HC.out
  have c0 : w1.cell? ⟨w.heap.size + 1, 0, none⟩ = some (.bool false) := by rw [Lib.cell_of_heap hcell]; rfl
  have c1 : w1.cell? ⟨w.heap.size + 1, 1, none⟩ = some (.slice none 0 0) := by rw [Lib.cell_of_heap hcell]; rfl
  have f0 : w1.frozen? ⟨w.heap.size + 1, 0, none⟩ = false := Lib.frozen_of_heap hcell 0
  have f1 : w1.frozen? ⟨w.heap.size + 1, 1, none⟩ = false := Lib.frozen_of_heap hcell 1
  have ho' : OwnN w1 (w.heap.size + 1 + 1) (.slice A2 m.length cap2) m := ho.mono (by simp)
  have HO := Lib.hid ho'
  have HB := Lib.hid (HB0.out.trans (hb1.mono (by simp; try omega)))
  have HSET := Lib.hid hset
  clear hcell ho ho' hb1 hset hcl
  go_wp2
  refine bodyPost_ret (v := .agg #[.bool ((!co)), .slice A2 m.length cap2]) (by simp [results, Try.results34, go_sem, c0, c1]) rfl ?_
  exact RetN.stored rfl HO.out (by omega) hsh HSET.out hk HB.out _ _
set_option maxRecDepth 100000 in
set_option maxHeartbeats 3200000 in
theorem unionNames_any (co co' : Bool) (A A' : Option Addr) (n c n' c' : Nat) (rs rs' : List Strg) (w : World) (hR : NmS w w.heap.size A n rs) (hR' : NmS w w.heap.size A' n' rs') (hn : n ≤ 400000) (hn' : n' ≤ 400000) :
    Calls Try.prog 20 #[.agg #[.bool co, .slice A n c], .agg #[.bool co', .slice A' n' c']] w (RetN (co || co') (fun x => inN co rs x || inN co' rs' x) (n + n') w) := by
  have HR := Lib.hid hR
  have HR' := Lib.hid hR'
  clear hR hR'
  obtain ⟨W0, hW0⟩ : ∃ W0, W0 = (((w.alloc (.cells #[.bool co, .slice A n c] 24)).alloc (.cells #[.bool co', .slice A' n' c'] 24)).alloc (.cells #[.bool false, .slice none 0 0] 24)) := ⟨_, rfl⟩
  obtain ⟨hx1, hx2, hx3, hz0, hb0⟩ := boxes3 w (.cells #[.bool co, .slice A n c] 24 (0, 0)) (.cells #[.bool co', .slice A' n' c'] 24 (0, 0)) (.cells #[.bool false, .slice none 0 0] 24 (0, 0))
  rw [← hW0] at hx1 hx2 hx3 hz0 hb0
  have HB0 := Lib.hid hb0
  have HK := Lib.hid (held2_of (h := w.heap.size) (H := w.heap.size + 3) (W0 := W0) (by omega) (by omega) (cell0 hx1) (cell1 hx1) (cell0 hx2) (cell1 hx2))
  have HC := Lib.hid hx3
  clear hx1 hx2 hx3 hb0
  have hlt : w.heap.size ≤ w.heap.size + 3 := by omega
  go_enter Try.func20, Try.ntmps20
  go_wp2_with fail
  rw [← hW0]
  clear hW0
  obtain ⟨v1, w1, hr1, ho1, hg1⟩ := run_app_src (w := W0.drew) (B := w.heap.size + 3) (OwnN.nil _ _) (by show _ ≤ W0.heap.size; omega) A n c rs ((HR.out.on HB0.out).drewN 1) (by simp only [List.length_nil]; omega) 22
  have hb1 : Below (w.heap.size + 3) W0 w1 := ((Below.refl _ W0).drew).grown hg1 (by show _ ≤ W0.heap.size; omega) (fun j hj => by cases hj)
  obtain ⟨v2, w2, hr2, ho2, hg2⟩ := run_app_src ho1 (by have := hb1.size; omega) A' n' c' rs' (HR'.out.on (HB0.out.trans (hb1.mono hlt))) (by have := HR.out.1; simp only [List.nil_append]; omega) 22
  have hb2 : Below (w.heap.size + 3) W0 w2 := hb1.grown hg2 (by have := hb1.size; omega) (fun j hj => (ho1.lt j hj).1)
  rw [List.nil_append] at ho2
  obtain ⟨A3, c3, rfl⟩ := ho2.form
  have hlen : (rs ++ rs').length = n + n' := by rw [List.length_append, HR.out.1, HR'.out.1]
  have HM : Hid (∀ x, x ∈ rs ++ rs' ↔ x ∈ rs ∨ x ∈ rs') := Lib.hid fun x => List.mem_append
  have HSA : Hid (Short (rs ++ rs')) := Lib.hid fun x hx => ((HM.out x).1 hx).elim (HR.out.2.1 x) (HR'.out.2.1 x)
  generalize rs ++ rs' = all at ho2 hr2 hlen HM HSA
  rw [hlen] at ho2 hr2
  have HNA := Lib.hid (ho2.rng HSA.out)
  have hz2 := hb2.size
  have HO2 := Lib.hid ho2
  clear ho1 hg1 hg2 ho2
  go_cut [6] from 9 (fun s6 wc => s6 = .slice A3 (n + n') c3 ∧ wc = w2)
  case first =>
    refine wp_region_held_drew (S := fun wq => Held2 w.heap.size (.bool co) (.slice A n c) (.bool co') (.slice A' n' c') (w.heap.size + 3) W0 wq) (by kernel_rfl) (HK.out _ (Below.refl _ _).drew) (fun hHeld => ?_)
    refine take_op (i := 0) (v := _) rfl (by kernel_rfl) (by kernel_rfl) (by kernel_rfl) (fun _ _ _ h => h) (Or.inl ⟨by rfl, (by intro w hSw; (try dsimp only at hSw); go_simp; try with_reducible rfl)⟩) hHeld ?_
    simp only [Act.put, List.setIfInBounds_toArray, List.set_cons_zero, List.set_cons_succ]
    refine take_op (i := 1) (v := _) rfl (by kernel_rfl) (by kernel_rfl) (by kernel_rfl) (fun _ _ _ h => h) (Or.inl ⟨by rfl, (by intro w hSw; (try dsimp only at hSw); go_simp; try with_reducible rfl)⟩) hHeld ?_
    simp only [Act.put, List.setIfInBounds_toArray, List.set_cons_zero, List.set_cons_succ]
    refine take_op (i := 3) (v := _) rfl (by kernel_rfl) (by kernel_rfl) (by kernel_rfl) (fun _ _ _ h => h) (Or.inl ⟨by rfl, (by intro w hSw; (try dsimp only at hSw); go_simp; try with_reducible rfl)⟩) hHeld ?_
    simp only [Act.put, List.setIfInBounds_toArray, List.set_cons_zero, List.set_cons_succ]
    refine take_op (i := 4) (v := _) rfl (by kernel_rfl) (by kernel_rfl) (by kernel_rfl) (fun _ _ _ h => h) (Or.inl ⟨by rfl, (by intro w hSw; (try dsimp only at hSw); go_simp; try with_reducible rfl)⟩) hHeld ?_
    simp only [Act.put, List.setIfInBounds_toArray, List.set_cons_zero, List.set_cons_succ]
    refine one_op 2 (by kernel_rfl) rfl (by rfl) (fun K hK => ?_)
    refine Lib.wp_append_run _ _ _ _ _ rfl _ _ rfl rfl v1 w1 hr1 ?_
    refine hK _ _ (HK.out _ hb1) ?_
    try simp only [Act.put, List.setIfInBounds_toArray, List.set_cons_zero, List.set_cons_succ]
    refine one_op 5 (by kernel_rfl) rfl (by rfl) (fun K hK => ?_)
    refine Lib.wp_append_run _ _ _ _ _ rfl _ _ rfl rfl _ w2 hr2 ?_
    refine hK _ _ (HK.out _ hb2) ?_
    try simp only [Act.put, List.setIfInBounds_toArray, List.set_cons_zero, List.set_cons_succ]
    refine one_op 6 (by kernel_rfl) rfl (by rfl) (fun K hK => ?_)
    go_simp
    refine hK _ _ (HK.out _ hb2) ?_
    try simp only [Act.put, List.setIfInBounds_toArray, List.set_cons_zero, List.set_cons_succ]
    refine wpAnyH_done (by kernel_rfl) ?_ _
    go_wp2_with fail
    go_meet
    case rel => exact ⟨rfl, rfl⟩
  case rest =>
    obtain ⟨rfl, rfl⟩ := hcut
    obtain ⟨l1, l2, l3, l4, -, -⟩ := HK.out _ hb2
    go_upto_region 3 with fail
    go_cut [7] from 9 (fun s7 wd => s7 = .bool (co || co') ∧ wd = wc)
    case first =>
      cases co
      all_goals
        go_wp2_with fail
        go_meet
        case rel => exact ⟨by simp, rfl⟩
    case rest =>
      obtain ⟨rfl, rfl⟩ := hcut
      obtain ⟨g0, hg0⟩ : ∃ g0, (co || co') = g0 := ⟨_, rfl⟩
      rw [hg0]
      have HB2 := Lib.hid hb2
      have HBT := Lib.hid (HB0.out.trans (hb2.mono hlt))
      have HG0 := Lib.hid hg0
      clear hb2 hr1 hr2 hg0
      go_wp2_with fail
      go_loopw [5, 8] (fun v i wr => ∃ (k : Nat) (Ao : Option Addr) (cap : Nat) (out : List Strg), i = .int .i64 k ∧ k ≤ n + n' ∧ v = .slice Ao out.length cap ∧ OwnN wr wc.heap.size (.slice Ao out.length cap) out ∧ out = (all.take k).filter (fun x => (inN co rs x || inN co' rs' x) != g0) ∧ Below wc.heap.size wc wr) (fun _ i _ => n + n' - (intOf i).toNat)
      case atStart => exact ⟨0, none, 0, [], rfl, by omega, rfl, OwnN.nil _ _, rfl, Below.refl _ _⟩
      case round =>
        obtain ⟨k, Ao, cap, out, rfl, hk, rfl, hO, hout, hbw⟩ := hrel
        have HOU := Lib.hid hout
        have HOO := Lib.hid hO
        have hsr := hbw.size
        have hbt : Below w.heap.size w wr := HBT.out.trans (hbw.mono (by omega))
        clear hout hO
        by_cases hkn : k < n + n'
        · obtain ⟨b, off, s, rfl, hb, hx, hs, cs⟩ := (HNA.out.below hbw).at hkn
          have HX := Lib.hid hx
          clear hx
          obtain ⟨d1, hd1⟩ : ∃ d, inN co rs s = d := ⟨_, rfl⟩
          obtain ⟨d2, hd2⟩ : ∃ d, inN co' rs' s = d := ⟨_, rfl⟩
          have p1 := fun q os => hasName_gr co A n c rs s (grow (wr.drewN q) os) (HR.out.on (below_grow hbt hbt.size q os)) (by omega)
          have p2 := fun q os => hasName_gr co' A' n' c' rs' s (grow (wr.drewN q) os) (HR'.out.on (below_grow hbt hbt.size q os)) (by omega)
          rw [hd1] at p1
          rw [hd2] at p2
          have k1 := fun q os => ((below_grow hbw hsr q os).cell (p := ⟨w.heap.size, 0, none⟩) (by show w.heap.size < wc.heap.size; omega)).trans l1
          have k2 := fun q os => ((below_grow hbw hsr q os).cell (p := ⟨w.heap.size, 1, none⟩) (by show w.heap.size < wc.heap.size; omega)).trans l2
          have k3 := fun q os => ((below_grow hbw hsr q os).cell (p := ⟨w.heap.size + 1, 0, none⟩) (by show w.heap.size + 1 < wc.heap.size; omega)).trans l3
          have k4 := fun q os => ((below_grow hbw hsr q os).cell (p := ⟨w.heap.size + 1, 1, none⟩) (by show w.heap.size + 1 < wc.heap.size; omega)).trans l4
          have k5 : ∀ q os, (grow (wr.drewN q) os).cell? ⟨b, off + k, none⟩ = some (.string ⟨s.toArray⟩) := fun q os => cell_grown (by show b < wr.heap.size; omega) cs q os
          have HGR : Hid (∀ q os, Below wr.heap.size wr (grow (wr.drewN q) os)) := Lib.hid fun q os => below_grow (Below.refl _ _) (Nat.le_refl _) q os
          have HT : Hid ((all.take (k + 1)).filter (fun x => (inN co rs x || inN co' rs' x) != g0) = if ((d1 || d2) != g0) = true then out ++ [s] else out) := Lib.hid (by
            rw [List.take_add_one, HX.out, HOU.out]
            simp only [Option.toList_some, List.filter_append, List.filter_cons, List.filter_nil, hd1, hd2]
            split <;> simp)
          have hol : out.length ≤ n + n' := by
            rw [HOU.out, ← hlen]
            exact Nat.le_trans (List.length_filter_le _ _) (take_length_le' _ _)
          have kn : (k : Int) < ((n + n' : Nat) : Int) := by omega
          have mixed := Try.laysNm226.mixed
          clear hd1 hd2
          cases d1 <;> cases d2 <;> cases g0
          · go_wp2_with fail
            refine wp_region_quiet_grown mixed (by kernel_rfl) ?_
            repeat (first | go_big_quiet_skip | quiet_step ((go_at_call 18; first | with_reducible exact Calls.grown_of (p1 _ _) | with_reducible exact Calls.grown_of (p2 _ _))))
            refine wpQuiet_nil ?_
            intro _ hw'
            obtain ⟨⟨nq, osq⟩, hw''⟩ := hw'
            subst hw''
            have hg := HGR.out nq osq
            have csg := k5 nq osq
            show Exit.then _ _ Exit.normal _ (grow (wr.drewN nq) osq)
            generalize grow (wr.drewN nq) osq = wg at hg csg ⊢
            have hXg := hbw.trans (hg.mono hsr)
            have HOg := HOO.out.old hg
            have hsg := hXg.size
            clear k1 k2 k3 k4 k5 p1 p2
            have HT1 := Lib.hid (HT.out.trans (if_neg (by decide)))
            go_wp2
            go_roundw
            case rel => exact ⟨k + 1, Ao, cap, out, by go_num, by omega, rfl, HOg, HT1.out.symm, hXg⟩
            case measure => simp [intOf]; omega
          · go_wp2_with fail
            refine wp_region_quiet_grown mixed (by kernel_rfl) ?_
            repeat (first | go_big_quiet_skip | quiet_step ((go_at_call 18; first | with_reducible exact Calls.grown_of (p1 _ _) | with_reducible exact Calls.grown_of (p2 _ _))))
            refine wpQuiet_nil ?_
            intro _ hw'
            obtain ⟨⟨nq, osq⟩, hw''⟩ := hw'
            subst hw''
            have hg := HGR.out nq osq
            have csg := k5 nq osq
            show Exit.then _ _ Exit.normal _ (grow (wr.drewN nq) osq)
            generalize grow (wr.drewN nq) osq = wg at hg csg ⊢
            have hXg := hbw.trans (hg.mono hsr)
            have HOg := HOO.out.old hg
            have hsg := hXg.size
            clear k1 k2 k3 k4 k5 p1 p2
            have HT1 := Lib.hid (HT.out.trans (if_pos rfl))
            go_wp2_with (at_builtin; refine wp_app_n rfl _ _ rfl wc.heap.size _ out rfl HOg [s] 1 1 rfl _ rfl _ rfl rfl (by omega) (by omega) ?_; intro v' w4 hown' hb4; refine Hid.out ?_)
            refine Lib.hid ?_
            obtain ⟨A4, c4, rfl⟩ := hown'.form
            generalize hnl : (out ++ [s]).length = nl at hown' ⊢
            have HNL2 := Lib.hid hnl
            have HO4 := Lib.hid hown'
            clear hnl hown'
            go_wp2
            go_roundw
            case rel => exact ⟨k + 1, A4, c4, out ++ [s], by go_num, by omega, by rw [HNL2.out], by rw [HNL2.out]; exact HO4.out, HT1.out.symm, hXg.trans hb4⟩
            case measure => simp [intOf]; omega
          · go_wp2_with fail
            refine wp_region_quiet_grown mixed (by kernel_rfl) ?_
            repeat (first | go_big_quiet_skip | quiet_step ((go_at_call 18; first | with_reducible exact Calls.grown_of (p1 _ _) | with_reducible exact Calls.grown_of (p2 _ _))))
            refine wpQuiet_nil ?_
            intro _ hw'
            obtain ⟨⟨nq, osq⟩, hw''⟩ := hw'
            subst hw''
            have hg := HGR.out nq osq
            have csg := k5 nq osq
            show Exit.then _ _ Exit.normal _ (grow (wr.drewN nq) osq)
            generalize grow (wr.drewN nq) osq = wg at hg csg ⊢
            have hXg := hbw.trans (hg.mono hsr)
            have HOg := HOO.out.old hg
            have hsg := hXg.size
            clear k1 k2 k3 k4 k5 p1 p2
            have HT1 := Lib.hid (HT.out.trans (if_pos rfl))
            go_wp2_with (at_builtin; refine wp_app_n rfl _ _ rfl wc.heap.size _ out rfl HOg [s] 1 1 rfl _ rfl _ rfl rfl (by omega) (by omega) ?_; intro v' w4 hown' hb4; refine Hid.out ?_)
            refine Lib.hid ?_
            obtain ⟨A4, c4, rfl⟩ := hown'.form
            generalize hnl : (out ++ [s]).length = nl at hown' ⊢
            have HNL2 := Lib.hid hnl
            have HO4 := Lib.hid hown'
            clear hnl hown'
            go_wp2
            go_roundw
            case rel => exact ⟨k + 1, A4, c4, out ++ [s], by go_num, by omega, by rw [HNL2.out], by rw [HNL2.out]; exact HO4.out, HT1.out.symm, hXg.trans hb4⟩
            case measure => simp [intOf]; omega
          · go_wp2_with fail
            refine wp_region_quiet_grown mixed (by kernel_rfl) ?_
            repeat (first | go_big_quiet_skip | quiet_step ((go_at_call 18; first | with_reducible exact Calls.grown_of (p1 _ _) | with_reducible exact Calls.grown_of (p2 _ _))))
            refine wpQuiet_nil ?_
            intro _ hw'
            obtain ⟨⟨nq, osq⟩, hw''⟩ := hw'
            subst hw''
            have hg := HGR.out nq osq
            have csg := k5 nq osq
            show Exit.then _ _ Exit.normal _ (grow (wr.drewN nq) osq)
            generalize grow (wr.drewN nq) osq = wg at hg csg ⊢
            have hXg := hbw.trans (hg.mono hsr)
            have HOg := HOO.out.old hg
            have hsg := hXg.size
            clear k1 k2 k3 k4 k5 p1 p2
            have HT1 := Lib.hid (HT.out.trans (if_neg (by decide)))
            go_wp2
            go_roundw
            case rel => exact ⟨k + 1, Ao, cap, out, by go_num, by omega, rfl, HOg, HT1.out.symm, hXg⟩
            case measure => simp [intOf]; omega
          · go_wp2_with fail
            refine wp_region_quiet_grown mixed (by kernel_rfl) ?_
            repeat (first | go_big_quiet_skip | quiet_step ((go_at_call 18; first | with_reducible exact Calls.grown_of (p1 _ _) | with_reducible exact Calls.grown_of (p2 _ _))))
            refine wpQuiet_nil ?_
            intro _ hw'
            obtain ⟨⟨nq, osq⟩, hw''⟩ := hw'
            subst hw''
            have hg := HGR.out nq osq
            have csg := k5 nq osq
            show Exit.then _ _ Exit.normal _ (grow (wr.drewN nq) osq)
            generalize grow (wr.drewN nq) osq = wg at hg csg ⊢
            have hXg := hbw.trans (hg.mono hsr)
            have HOg := HOO.out.old hg
            have hsg := hXg.size
            clear k1 k2 k3 k4 k5 p1 p2
            have HT1 := Lib.hid (HT.out.trans (if_pos rfl))
            go_wp2_with (at_builtin; refine wp_app_n rfl _ _ rfl wc.heap.size _ out rfl HOg [s] 1 1 rfl _ rfl _ rfl rfl (by omega) (by omega) ?_; intro v' w4 hown' hb4; refine Hid.out ?_)
            refine Lib.hid ?_
            obtain ⟨A4, c4, rfl⟩ := hown'.form
            generalize hnl : (out ++ [s]).length = nl at hown' ⊢
            have HNL2 := Lib.hid hnl
            have HO4 := Lib.hid hown'
            clear hnl hown'
            go_wp2
            go_roundw
            case rel => exact ⟨k + 1, A4, c4, out ++ [s], by go_num, by omega, by rw [HNL2.out], by rw [HNL2.out]; exact HO4.out, HT1.out.symm, hXg.trans hb4⟩
            case measure => simp [intOf]; omega
          · go_wp2_with fail
            refine wp_region_quiet_grown mixed (by kernel_rfl) ?_
            repeat (first | go_big_quiet_skip | quiet_step ((go_at_call 18; first | with_reducible exact Calls.grown_of (p1 _ _) | with_reducible exact Calls.grown_of (p2 _ _))))
            refine wpQuiet_nil ?_
            intro _ hw'
            obtain ⟨⟨nq, osq⟩, hw''⟩ := hw'
            subst hw''
            have hg := HGR.out nq osq
            have csg := k5 nq osq
            show Exit.then _ _ Exit.normal _ (grow (wr.drewN nq) osq)
            generalize grow (wr.drewN nq) osq = wg at hg csg ⊢
            have hXg := hbw.trans (hg.mono hsr)
            have HOg := HOO.out.old hg
            have hsg := hXg.size
            clear k1 k2 k3 k4 k5 p1 p2
            have HT1 := Lib.hid (HT.out.trans (if_neg (by decide)))
            go_wp2
            go_roundw
            case rel => exact ⟨k + 1, Ao, cap, out, by go_num, by omega, rfl, HOg, HT1.out.symm, hXg⟩
            case measure => simp [intOf]; omega
          · go_wp2_with fail
            refine wp_region_quiet_grown mixed (by kernel_rfl) ?_
            repeat (first | go_big_quiet_skip | quiet_step ((go_at_call 18; first | with_reducible exact Calls.grown_of (p1 _ _) | with_reducible exact Calls.grown_of (p2 _ _))))
            refine wpQuiet_nil ?_
            intro _ hw'
            obtain ⟨⟨nq, osq⟩, hw''⟩ := hw'
            subst hw''
            have hg := HGR.out nq osq
            have csg := k5 nq osq
            show Exit.then _ _ Exit.normal _ (grow (wr.drewN nq) osq)
            generalize grow (wr.drewN nq) osq = wg at hg csg ⊢
            have hXg := hbw.trans (hg.mono hsr)
            have HOg := HOO.out.old hg
            have hsg := hXg.size
            clear k1 k2 k3 k4 k5 p1 p2
            have HT1 := Lib.hid (HT.out.trans (if_pos rfl))
            go_wp2_with (at_builtin; refine wp_app_n rfl _ _ rfl wc.heap.size _ out rfl HOg [s] 1 1 rfl _ rfl _ rfl rfl (by omega) (by omega) ?_; intro v' w4 hown' hb4; refine Hid.out ?_)
            refine Lib.hid ?_
            obtain ⟨A4, c4, rfl⟩ := hown'.form
            generalize hnl : (out ++ [s]).length = nl at hown' ⊢
            have HNL2 := Lib.hid hnl
            have HO4 := Lib.hid hown'
            clear hnl hown'
            go_wp2
            go_roundw
            case rel => exact ⟨k + 1, A4, c4, out ++ [s], by go_num, by omega, by rw [HNL2.out], by rw [HNL2.out]; exact HO4.out, HT1.out.symm, hXg.trans hb4⟩
            case measure => simp [intOf]; omega
          · go_wp2_with fail
            refine wp_region_quiet_grown mixed (by kernel_rfl) ?_
            repeat (first | go_big_quiet_skip | quiet_step ((go_at_call 18; first | with_reducible exact Calls.grown_of (p1 _ _) | with_reducible exact Calls.grown_of (p2 _ _))))
            refine wpQuiet_nil ?_
            intro _ hw'
            obtain ⟨⟨nq, osq⟩, hw''⟩ := hw'
            subst hw''
            have hg := HGR.out nq osq
            have csg := k5 nq osq
            show Exit.then _ _ Exit.normal _ (grow (wr.drewN nq) osq)
            generalize grow (wr.drewN nq) osq = wg at hg csg ⊢
            have hXg := hbw.trans (hg.mono hsr)
            have HOg := HOO.out.old hg
            have hsg := hXg.size
            clear k1 k2 k3 k4 k5 p1 p2
            have HT1 := Lib.hid (HT.out.trans (if_neg (by decide)))
            go_wp2
            go_roundw
            case rel => exact ⟨k + 1, Ao, cap, out, by go_num, by omega, rfl, HOg, HT1.out.symm, hXg⟩
            case measure => simp [intOf]; omega
        · have hke : Hid (all.take k = all) := Lib.hid (List.take_of_length_le (by omega))
          have hout : out = all.filter (fun x => (inN co rs x || inN co' rs' x) != g0) := by have := HOU.out; rwa [hke.out] at this
          have hol : out.length ≤ n + n' := by
            rw [hout, ← hlen]
            exact List.length_filter_le _ _
          have HOL := Lib.hid hol
          have hmk := makeNames_any g0 Ao out.length cap out wr (HOO.out.rng (fun x hx => HSA.out x (by rw [hout] at hx; exact (List.mem_filter.1 hx).1))) (by omega)
          have HMO : Hid (∀ x, x ∈ out ↔ (x ∈ rs ∨ x ∈ rs') ∧ ((inN co rs x || inN co' rs' x) != g0) = true) := Lib.hid fun x => by rw [hout, List.mem_filter, HM.out x]
          have hc2 := (HB2.out.block (w.heap.size + 1 + 1) (by omega)).trans HC.out
          have HC2 := Lib.hid ((hbw.block (w.heap.size + 1 + 1) (by omega)).trans hc2)
          have HBF := Lib.hid hbt
          clear hout hc2 hol
          go_wp2_with (go_at_call 24; refine hmk.mono ?_; rintro e w5 ⟨m, A5, c5, rfl, ho5, hsh5, hset5, hk5, hb5⟩; refine Hid.out ?_)
          refine Lib.hid ?_
          have hcell := (hb5.block (w.heap.size + 1 + 1) (by omega)).trans HC2.out
          have c0 := cell0 hcell
          have c1 := cell1 hcell
          have f0 := Lib.frozen_of_heap hcell 0
          have f1 := Lib.frozen_of_heap hcell 1
          have hG : (co || co') = g0 := HG0.out
          have hset : IsSet (co || co') m (fun x => inN co rs x || inN co' rs' x) := by
            refine isSet_combine (fun a b => a || b) hset5.1 fun x => ?_
            rw [hG, mem_of_inN (co := g0) (l' := out) hset5.2 x]
            exact HMO.out x
          have HSET := Lib.hid (hset.congr (co' := g0) hG fun _ => rfl)
          have HO3 := Lib.hid (ho5.mono (show w.heap.size + 1 + 1 + 1 ≤ wr.heap.size by omega))
          have HBG := Lib.hid (HBF.out.trans (hb5.mono (by omega)))
          clear hcell hset hmk ho5 hset5 hb5
          go_wp2
          refine bodyPost_ret (v := .agg #[.bool g0, .slice A5 m.length c5]) (by simp [results, Try.results20, go_sem, c0, c1]) rfl ?_
          rw [hG]
          exact RetN.stored rfl HO3.out (by omega) hsh5 HSET.out (by have := HOL.out; omega) HBG.out _ _
end Go.Proofs.Ytkmfpkdcedfgfaa
