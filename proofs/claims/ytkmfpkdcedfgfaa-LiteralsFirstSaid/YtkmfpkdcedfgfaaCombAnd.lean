/- What combine returns with the test of an intersection. Condition: at most 10^6 strings each. -/
import Derived.Test.YtkmfpkdcedfgfaaFuncs
namespace Go.Proofs.Ytkmfpkdcedfgfaa
open Go.RowKit Go.Sort
set_option maxRecDepth 100000 in
set_option maxHeartbeats 3200000 in
theorem combine_and (co co' : Bool) (A A' : Option Addr) (n c n' c' : Nat) (rs rs' : List Strg) (w : World) (hR : NmS w w.heap.size A n rs) (hR' : NmS w w.heap.size A' n' rs') (hn : n ≤ 1000000) (hn' : n' ≤ 1000000) :
    Calls Try.prog 30 #[.agg #[.bool co, .slice A n c], .agg #[.bool co', .slice A' n' c'], .func (.func 32) #[] #[]] w (RetN (co && co') (fun x => inN co rs x && inN co' rs' x) (n + n') w) := by
  have HR := Lib.hid hR
  have HR' := Lib.hid hR'
  clear hR hR'
  obtain ⟨W0, hW0⟩ : ∃ W0, W0 = (((w.alloc (.cells #[.bool co, .slice A n c] 24)).alloc (.cells #[.bool co', .slice A' n' c'] 24)).alloc (.cells #[.bool false, .slice none 0 0] 24)) := ⟨_, rfl⟩
  obtain ⟨hx1, hx2, hx3, hz0, hb0⟩ := boxes3 w (.cells #[.bool co, .slice A n c] 24 (0, 0)) (.cells #[.bool co', .slice A' n' c'] 24 (0, 0)) (.cells #[.bool false, .slice none 0 0] 24 (0, 0))
  rw [← hW0] at hx1 hx2 hx3 hz0 hb0
  have HB0 := Lib.hid hb0
  have HK := Lib.hid (held2_of (h := w.heap.size) (H := w.heap.size + 3) (W0 := W0) (by omega) (by omega) (cell0 hx1) (cell1 hx1) (cell0 hx2) (cell1 hx2))
  have HC := Lib.hid hx3
  clear hx1 hx2 hx3 hb0
  have hlt : w.heap.size ≤ w.heap.size + 3 := by omega
  go_enter Try.func30, Try.ntmps30
  go_wp2_with fail
  rw [← hW0]
  clear hW0
  go_cut [7, 8] from 12 (fun s7 s8 wc => ∃ u u', SetF (w.heap.size + 3) co (inN co rs) n u wc ∧ SetF (w.heap.size + 3) co' (inN co' rs') n' u' wc ∧ ConF (w.heap.size + 3) 45 s7 u wc ∧ ConF (w.heap.size + 3) 45 s8 u' wc ∧ Below (w.heap.size + 3) W0 wc)
  case first =>
    refine wp_region_held_drew (S := fun wq => Held2 w.heap.size (.bool co) (.slice A n c) (.bool co') (.slice A' n' c') (w.heap.size + 3) W0 wq) (by kernel_rfl) (HK.out _ (Below.refl _ _).drew) (fun hHeld => ?_)
    refine take_op (i := 0) (v := _) rfl (by kernel_rfl) (by kernel_rfl) (by kernel_rfl) (fun _ _ _ h => h) (Or.inl ⟨by rfl, (by intro w hSw; (try dsimp only at hSw); go_simp; try with_reducible rfl)⟩) hHeld ?_
    simp only [Act.put, List.setIfInBounds_toArray, List.set_cons_zero, List.set_cons_succ]
    refine take_op (i := 1) (v := _) rfl (by kernel_rfl) (by kernel_rfl) (by kernel_rfl) (fun _ _ _ h => h) (Or.inl ⟨by rfl, (by intro w hSw; (try dsimp only at hSw); go_simp; try with_reducible rfl)⟩) hHeld ?_
    simp only [Act.put, List.setIfInBounds_toArray, List.set_cons_zero, List.set_cons_succ]
    refine take_op (i := 2) (v := _) rfl (by kernel_rfl) (by kernel_rfl) (by kernel_rfl) (fun _ _ _ h => h) (Or.inl ⟨by rfl, (by intro w hSw; (try dsimp only at hSw); go_simp; try with_reducible rfl)⟩) hHeld ?_
    simp only [Act.put, List.setIfInBounds_toArray, List.set_cons_zero, List.set_cons_succ]
    refine take_op (i := 3) (v := _) rfl (by kernel_rfl) (by kernel_rfl) (by kernel_rfl) (fun _ _ _ h => h) (Or.inl ⟨by rfl, (by intro w hSw; (try dsimp only at hSw); go_simp; try with_reducible rfl)⟩) hHeld ?_
    simp only [Act.put, List.setIfInBounds_toArray, List.set_cons_zero, List.set_cons_succ]
    refine take_op (i := 5) (v := _) rfl (by kernel_rfl) (by kernel_rfl) (by kernel_rfl) (fun _ _ _ h => h) (Or.inl ⟨by rfl, (by intro w hSw; (try dsimp only at hSw); go_simp; try with_reducible rfl)⟩) hHeld ?_
    simp only [Act.put, List.setIfInBounds_toArray, List.set_cons_zero, List.set_cons_succ]
    refine take_op (i := 6) (v := _) rfl (by kernel_rfl) (by kernel_rfl) (by kernel_rfl) (fun _ _ _ h => h) (Or.inl ⟨by rfl, (by intro w hSw; (try dsimp only at hSw); go_simp; try with_reducible rfl)⟩) hHeld ?_
    simp only [Act.put, List.setIfInBounds_toArray, List.set_cons_zero, List.set_cons_succ]
    refine take_op (i := 7) (v := _) rfl (by kernel_rfl) (by kernel_rfl) (by kernel_rfl) (fun _ _ _ h => h) (Or.inl ⟨by rfl, (by intro w hSw; (try dsimp only at hSw); go_simp; try with_reducible rfl)⟩) hHeld ?_
    simp only [Act.put, List.setIfInBounds_toArray, List.set_cons_zero, List.set_cons_succ]
    refine take_op (i := 8) (v := _) rfl (by kernel_rfl) (by kernel_rfl) (by kernel_rfl) (fun _ _ _ h => h) (Or.inl ⟨by rfl, (by intro w hSw; (try dsimp only at hSw); go_simp; try with_reducible rfl)⟩) hHeld ?_
    simp only [Act.put, List.setIfInBounds_toArray, List.set_cons_zero, List.set_cons_succ]
    generalize hA : ({ tmps := _, defers := [] } : Act) = a0
    refine wpAnyH_par (Bs := Bool × Bool × Bool × Bool × Bool × Bool) (L := fun ⟨b4, b9, b10, b11, b12, b13⟩ => #[true, true, true, true, b4, true, true, true, true, b9, b10, b11, b12, b13])
      (chk := fun ⟨b4, b9, b10, b11, b12, b13⟩ i => (i == 4 && !b4) || (i == 9 && (!b9 && b4)) || (i == 10 && !b10) || (i == 11 && !b11) || (i == 12 && (!b12 && (b4 && (b9 && (b10 && b11))))) || (i == 13 && (!b13 && (b12 && (b4 && (b9 && (b10 && b11)))))))
      (full := fun ⟨b4, b9, b10, b11, b12, b13⟩ => b4 && (b9 && (b10 && (b11 && (b12 && b13))))) (by rintro ⟨b4, b9, b10, b11, b12, b13⟩; revert b4 b9 b10 b11 b12 b13; decide +kernel) (by rintro ⟨b4, b9, b10, b11, b12, b13⟩; revert b4 b9 b10 b11 b12 b13; decide +kernel)
      (Inv := fun ⟨b4, b9, b10, b11, b12, b13⟩ a wq => ∃ (u16 u21 u7 u8 : Value), a = (((a0.put (some 16) u16).put (some 21) u21).put (some 7) u7).put (some 8) u8 ∧
      Below (w.heap.size + 3) W0 wq ∧ (b4 = true → SetF (w.heap.size + 3) co (inN co rs) n u16 wq) ∧ (b9 = true → SetF (w.heap.size + 3) co' (inN co' rs') n' u21 wq) ∧
      (b10 = true → BoxF (w.heap.size + 3) 45 u7 wq) ∧ (b11 = true → BoxF (w.heap.size + 3) 45 u8 wq) ∧ (b10 = true → b11 = true → u7 ≠ u8) ∧
      (b12 = true → (b4 = true ∧ b10 = true) ∧ ConF (w.heap.size + 3) 45 u7 u16 wq) ∧ (b13 = true → (b9 = true ∧ b11 = true) ∧ ConF (w.heap.size + 3) 45 u8 u21 wq)) ?_ ?_ ⟨false, false, false, false, false, false⟩ rfl (by decide) ?_
    · rintro ⟨b4, b9, b10, b11, b12, b13⟩ a wq hf ⟨u16, u21, u7, u8, rfl, hB, h4, h9, h10, h11, hne, h12, h13⟩
      simp only [Bool.and_eq_true] at hf
      obtain ⟨rfl, rfl, rfl, rfl, rfl, rfl⟩ := hf
      subst hA
      simp only [Act.put, List.setIfInBounds_toArray, List.set_cons_zero, List.set_cons_succ]
      go_wp2_with fail
      go_meet
      case rel => exact ⟨u16, u21, h4 trivial, h9 trivial, (h12 trivial).2, (h13 trivial).2, hB⟩
    · rintro ⟨b4, b9, b10, b11, b12, b13⟩ a wq i ⟨u16, u21, u7, u8, rfl, hB, h4, h9, h10, h11, hne, h12, h13⟩ hk
      simp only [Bool.or_eq_true, Bool.and_eq_true, beq_iff_eq, Bool.not_eq_true'] at hk
      subst hA
      have hzq : w.heap.size + 3 ≤ wq.heap.size := by have := hB.size; omega
      rcases hk with ((((⟨rfl, rfl⟩ | ⟨rfl, rfl, rfl⟩) | ⟨rfl, rfl⟩) | ⟨rfl, rfl⟩) | ⟨rfl, rfl, rfl, rfl, rfl, rfl⟩) | ⟨rfl, rfl, rfl, rfl, rfl, rfl, rfl⟩
      · refine step_op rfl (by rfl) (fun K hK => ?_)
        simp only [Act.put, List.setIfInBounds_toArray, List.set_cons_zero, List.set_cons_succ]
        go_simp
        refine (normalize_any co A n c rs _ (HR.out.on (HB0.out.trans (hB.mono hlt))) hn).mono ?_
        intro e w1 hret
        obtain ⟨v, rfl, hv, hb⟩ := hret.setF hzq
        have hB' := step_below hB (by omega) hb
        exact hK _ _ ⟨HK.out _ hB', ⟨true, b9, b10, b11, b12, b13⟩, rfl, v, u21, u7, u8, rfl, hB', fun _ => hv, fun h => (h9 h).old hb, fun h => (h10 h).old hb, fun h => (h11 h).old hb, hne, fun h => absurd (h12 h).1.1 nofun, fun h => ⟨(h13 h).1, (h13 h).2.old hb⟩⟩
      · refine step_op rfl (by rfl) (fun K hK => ?_)
        simp only [Act.put, List.setIfInBounds_toArray, List.set_cons_zero, List.set_cons_succ]
        go_simp
        refine (normalize_any co' A' n' c' rs' _ (HR'.out.on (HB0.out.trans (hB.mono hlt))) hn').mono ?_
        intro e w1 hret
        obtain ⟨v, rfl, hv, hb⟩ := hret.setF hzq
        have hB' := step_below hB (by omega) hb
        exact hK _ _ ⟨HK.out _ hB', ⟨true, true, b10, b11, b12, b13⟩, rfl, u16, v, u7, u8, rfl, hB', fun h => (h4 h).old hb, fun _ => hv, fun h => (h10 h).old hb, fun h => (h11 h).old hb, hne, fun h => ⟨(h12 h).1, (h12 h).2.old hb⟩, fun h => absurd (h13 h).1.1 nofun⟩
      · refine step_op rfl (by rfl) (fun K hK => ?_)
        simp only [Act.put, List.setIfInBounds_toArray, List.set_cons_zero, List.set_cons_succ]
        go_simp
        have hb : Below wq.heap.size wq (wq.alloc (.cells #[.bool false, .slice none 0 0] 45)) := (Below.refl _ _).alloc (Nat.le_refl _) _
        have hB' := step_below hB (by omega) hb
        exact hK _ _ ⟨HK.out _ hB', ⟨b4, b9, true, b11, b12, b13⟩, rfl, u16, u21, _, u8, rfl, hB', fun h => (h4 h).old hb, fun h => (h9 h).old hb, fun _ => BoxF.new _ hzq _ _, fun h => (h11 h).old hb, fun _ h => (h11 h).ne.symm, fun h => absurd (h12 h).1.2 nofun, fun h => ⟨(h13 h).1, (h13 h).2.old hb⟩⟩
      · refine step_op rfl (by rfl) (fun K hK => ?_)
        simp only [Act.put, List.setIfInBounds_toArray, List.set_cons_zero, List.set_cons_succ]
        go_simp
        have hb : Below wq.heap.size wq (wq.alloc (.cells #[.bool false, .slice none 0 0] 45)) := (Below.refl _ _).alloc (Nat.le_refl _) _
        have hB' := step_below hB (by omega) hb
        exact hK _ _ ⟨HK.out _ hB', ⟨b4, b9, b10, true, b12, b13⟩, rfl, u16, u21, u7, _, rfl, hB', fun h => (h4 h).old hb, fun h => (h9 h).old hb, fun h => (h10 h).old hb, fun _ => BoxF.new _ hzq _ _, fun h _ => (h10 h).ne, fun h => ⟨(h12 h).1, (h12 h).2.old hb⟩, fun h => absurd (h13 h).1.2 nofun⟩
      · obtain ⟨r, x, y, rfl, hr, hc⟩ := h10 rfl
        obtain ⟨m, Am, cm, rfl, hmm⟩ := h4 rfl
        have g0 := cell0 hc
        have g1 := cell1 hc
        have f0 := Lib.frozen_of_heap hc 0
        have f1 := Lib.frozen_of_heap hc 1
        refine step_op rfl (by rfl) (fun K hK => ?_)
        simp only [Act.put, List.setIfInBounds_toArray, List.set_cons_zero, List.set_cons_succ]
        go_simp
        have hB' := Below.setCell2 hB hr 0 1 (.bool co) (.slice Am m.length cm)
        exact hK _ _ ⟨HK.out _ hB', ⟨true, true, true, true, true, b13⟩, rfl, _, u21, _, u8, rfl, hB', fun h => (h4 h).store hc (by decide) _ _, fun h => (h9 h).store hc (by decide) _ _, fun h => (h10 h).store hc _ _, fun h => (h11 h).store hc _ _, hne, fun _ => ⟨⟨rfl, rfl⟩, ConF.new hr hc _ _⟩, fun h => ⟨(h13 h).1, (h13 h).2.store (hne rfl rfl).symm _ _⟩⟩
      · obtain ⟨r, x, y, rfl, hr, hc⟩ := h11 rfl
        obtain ⟨m, Am, cm, rfl, hmm⟩ := h9 rfl
        have g0 := cell0 hc
        have g1 := cell1 hc
        have f0 := Lib.frozen_of_heap hc 0
        have f1 := Lib.frozen_of_heap hc 1
        refine step_op rfl (by rfl) (fun K hK => ?_)
        simp only [Act.put, List.setIfInBounds_toArray, List.set_cons_zero, List.set_cons_succ]
        go_simp
        have hB' := Below.setCell2 hB hr 0 1 (.bool co') (.slice Am m.length cm)
        exact hK _ _ ⟨HK.out _ hB', ⟨true, true, true, true, true, true⟩, rfl, u16, _, u7, _, rfl, hB', fun h => (h4 h).store hc (by decide) _ _, fun h => (h9 h).store hc (by decide) _ _, fun h => (h10 h).store hc _ _, fun h => (h11 h).store hc _ _, hne, fun h => ⟨(h12 h).1, (h12 h).2.store (hne rfl rfl) _ _⟩, fun _ => ⟨⟨rfl, rfl⟩, ConF.new hr hc _ _⟩⟩
    · exact ⟨undef, undef, undef, undef, by subst hA; rfl, (Below.refl _ _).drew, nofun, nofun, nofun, nofun, nofun, nofun, nofun⟩
  case rest =>
    obtain ⟨u, u', ⟨m1, A1, c1, rfl, ho1, hs1, hset1, hk1⟩, ⟨m2, A2, c2, rfl, ho2, hs2, hset2, hk2⟩, ⟨r1, x1, y1, rfl, hr1, hc1, he1⟩, ⟨r2, x2, y2, rfl, hr2, hc2, he2⟩, hB⟩ := hcut
    simp only [Value.agg.injEq, Array.mk.injEq, List.cons.injEq, and_true] at he1 he2
    obtain ⟨rfl, rfl⟩ := he1
    obtain ⟨rfl, rfl⟩ := he2
    have l1 := cell0 hc1
    have l2 := cell1 hc1
    have l3 := cell0 hc2
    have l4 := cell1 hc2
    have hlt1 := heap_lt hc1
    have hlt2 := heap_lt hc2
    have HC1 := Lib.hid hc1
    have HC2 := Lib.hid hc2
    have HO1 := Lib.hid ho1
    have HO2 := Lib.hid ho2
    have HS1 := Lib.hid hset1
    have HS2 := Lib.hid hset2
    clear hc1 hc2 ho1 ho2 hset1 hset2
    obtain ⟨g0, hg0⟩ : ∃ g0, (co && co') = g0 := ⟨_, rfl⟩
    have hcl0 := fun W => inter1_any co co' W
    rw [hg0] at hcl0
    go_wp2_with (go_at_call 32; refine (hcl0 _).mono ?_; rintro e w1 ⟨rfl, rfl⟩; refine Hid.out ?_)
    refine Lib.hid ?_
    go_wp2_with fail
    obtain ⟨hx1, hx2, hxz, hxb⟩ := boxes2 wc (.cells #[.bool g0, .slice none 0 0] 24 (0, 0)) (.cells #[.slice A1 m1.length c1, .slice A2 m2.length c2] 22 (0, 0))
    generalize ((wc.alloc (.cells #[.bool g0, .slice none 0 0] 24)).alloc (.cells #[.slice A1 m1.length c1, .slice A2 m2.length c2] 22)) = wq at hx1 hx2 hxz hxb ⊢
    have HLN : Hid (m1.length ≤ n ∧ m2.length ≤ n') := Lib.hid ⟨hk1, hk2⟩
    refine (concat_any A1 A2 m1.length c1 m2.length c2 m1 m2 (wc.heap.size + 1) wq ((HO1.out.rng hs1).on hxb) ((HO2.out.rng hs2).on hxb) (by omega) (by omega) (by omega) (cell0 hx2) (cell1 hx2)).mono ?_
    rintro e w2 ⟨v2, rfl, ho, hb2⟩
    refine Hid.out ?_
    refine Lib.hid ?_
    have has := ascending_any v2 (m1 ++ m2) w2 wq.heap.size ho hb2.size (by rw [List.length_append]; omega)
    clear ho
    go_wp2_with (go_at_call 42; refine has.mono ?_; rintro e w3 ⟨v3, rfl, ho3, hb3⟩; refine Hid.out ?_)
    refine Lib.hid ?_
    have HLA := Lib.hid (srt_asc (m1 ++ m2))
    have HLM := Lib.hid (srt_mem (m1 ++ m2))
    have hll := srt_len (m1 ++ m2)
    rw [List.length_append] at hll
    clear has
    generalize srt (m1 ++ m2) = Lst at ho3 HLA HLM hll
    obtain ⟨A3, c3, rfl⟩ := ho3.form
    have hbs := ho3.base
    have HSL : Hid (Short Lst) := Lib.hid (fun x hx => by
      rcases List.mem_append.1 ((HLM.out x).1 hx) with h | h
      · exact hs1 x h
      · exact hs2 x h)
    have HNL := Lib.hid (ho3.rng HSL.out)
    have hb23 := hb2.trans hb3
    have hsz3 := hb23.size
    have HBL := Lib.hid (hxb.trans (hb23.mono (by omega)))
    have HR9 : Hid (w3.heap[wc.heap.size]? = some (.cells #[.bool g0, .slice none 0 0] 24 (0, 0))) := Lib.hid ((hb23.block _ (by omega)).trans hx1)
    have hne9 : ∀ b off, A3 = some ⟨b, off, none⟩ → b ≠ wc.heap.size := fun b off h => by have := hbs b off h; omega
    have HNE := Lib.hid hne9
    have HBW := Lib.hid hB
    have hwc : w.heap.size + 3 ≤ wc.heap.size := by have := hB.size; omega
    clear hne9 hbs hb23 hb2 hb3 ho3 hx1 hx2 hxb hB
    go_wp2_with fail
    go_loopw [41] (fun i wr => ∃ (k : Nat) (Ao : Option Addr) (cap : Nat) (out : List Strg), i = .int .i64 k ∧ k ≤ Lst.length ∧ KeepX w3.heap.size wc.heap.size w3 wr ∧ wr.heap[wc.heap.size]? = some (.cells #[.bool g0, .slice Ao out.length cap] 24 (0, 0)) ∧ OwnN wr w3.heap.size (.slice Ao out.length cap) out ∧ out = (Lst.take k).filter (fun x => (inN co m1 x && inN co' m2 x) != g0)) (fun i _ => Lst.length - (intOf i).toNat)
    case atStart => exact ⟨0, none, 0, [], rfl, by omega, KeepX.refl _ _ _, HR9.out, OwnN.nil _ _, rfl⟩
    case round =>
      obtain ⟨k, Ao, cap, out, rfl, hk, hX, hb9, hO, hout⟩ := hrel
      have HOU := Lib.hid hout
      have HOO := Lib.hid hO
      have hsr := hX.size
      have hBl := hX.low HBL.out (by omega)
      have n1 := cell0 hb9
      have n2 := cell1 hb9
      have HB9 := Lib.hid hb9
      clear hout hO hb9
      by_cases hkn : k < Lst.length
      · obtain ⟨b, off, s, rfl, hb, hx, hs, c1x⟩ := (hX.nm HNL.out HNE.out).at hkn
        have HX := Lib.hid hx
        clear hx
        obtain ⟨d1, hd1⟩ : ∃ d, inN co m1 s = d := ⟨_, rfl⟩
        obtain ⟨d2, hd2⟩ : ∃ d, inN co' m2 s = d := ⟨_, rfl⟩
        obtain ⟨g1, hg1⟩ : ∃ g, (d1 && d2) = g := ⟨_, rfl⟩
        have hbq : ∀ q os, Below wc.heap.size wc (grow (wr.drewN q) os) := fun q os => below_grow hBl (by omega) q os
        have p1 := fun q os => sortedContains_any co A1 m1.length c1 m1 s (grow (wr.drewN q) os) wc.heap.size ((HO1.out.rng hs1).below (hbq q os)) (hbq q os).size HS1.out.1 (by have := HLN.out; omega)
        have p2 := fun q os => sortedContains_any co' A2 m2.length c2 m2 s (grow (wr.drewN q) os) wc.heap.size ((HO2.out.rng hs2).below (hbq q os)) (hbq q os).size HS2.out.1 (by have := HLN.out; omega)
        have p3 := fun q os => inter1_any d1 d2 (grow (wr.drewN q) os)
        rw [hd1] at p1
        rw [hd2] at p2
        rw [hg1] at p3
        have k1 := fun q os => ((hbq q os).cell (p := ⟨r1, 0, none⟩) hlt1).trans l1
        have k2 := fun q os => ((hbq q os).cell (p := ⟨r1, 1, none⟩) hlt1).trans l2
        have k3 := fun q os => ((hbq q os).cell (p := ⟨r2, 0, none⟩) hlt2).trans l3
        have k4 := fun q os => ((hbq q os).cell (p := ⟨r2, 1, none⟩) hlt2).trans l4
        have k5 : ∀ q os, (grow (wr.drewN q) os).cell? ⟨wc.heap.size, 0, none⟩ = some (.bool g0) := fun q os => cell_grown (by show wc.heap.size < wr.heap.size; omega) n1 q os
        have HGR : Hid (∀ q os, Below wr.heap.size wr (grow (wr.drewN q) os)) := Lib.hid fun q os => below_grow (Below.refl _ _) (Nat.le_refl _) q os
        have HT : Hid ((Lst.take (k + 1)).filter (fun x => (inN co m1 x && inN co' m2 x) != g0) = if (g1 != g0) = true then out ++ [s] else out) := Lib.hid (by
          rw [List.take_add_one, HX.out, HOU.out]
          simp only [Option.toList_some, List.filter_append, List.filter_cons, List.filter_nil, hd1, hd2, hg1]
          split <;> simp)
        have mixed := Try.laysNm226.mixed
        have HBQ := Lib.hid hbq
        clear hd1 hd2 hg1 hbq
        go_wp2_with fail
        refine wp_region_quiet_grown mixed (by kernel_rfl) ?_
        repeat quiet_step ((first | (go_at_call 46; first | with_reducible exact Calls.grown_of (p1 _ _) | with_reducible exact Calls.grown_of (p2 _ _)) | (go_at_call 32; with_reducible exact Calls.grown_same (p3 _ _))))
        refine wpQuiet_nil ?_
        intro _ hw'
        obtain ⟨⟨nq, osq⟩, hw''⟩ := hw'
        subst hw''
        have hg := HGR.out nq osq
        have hol : out.length ≤ Lst.length := by
          rw [HOU.out]
          exact Nat.le_trans (List.length_filter_le _ _) (take_length_le' _ _)
        show Exit.then _ _ Exit.normal _ (grow (wr.drewN nq) osq)
        generalize grow (wr.drewN nq) osq = wg at hg ⊢
        have hXg := hX.below (hg.mono hsr)
        have HOg := HOO.out.old hg
        have hb9g := (hg.block _ (heap_lt HB9.out)).trans HB9.out
        have n1g := cell0 hb9g
        have n2g := cell1 hb9g
        have hsg := hXg.size
        by_cases hT : (g1 != g0) = true
        · have hE : (!(g1 == g0)) = true := hT
          rw [hE]
          have HT1 := Lib.hid (HT.out.trans (if_pos hT))
          clear hT n1 n2 k1 k2 k3 k4 k5 p1 p2 p3
          go_wp2_with (at_builtin; refine wp_app_n rfl _ _ rfl w3.heap.size _ out rfl HOg [s] 1 1 rfl _ rfl _ rfl rfl (by omega) (by omega) ?_; intro v' w4 hown' hb4; refine Hid.out ?_)
          refine Lib.hid ?_
          obtain ⟨A4, c4, rfl⟩ := hown'.form
          generalize hnl : (out ++ [s]).length = nl at hown' ⊢
          have HNL2 := Lib.hid hnl
          clear hnl
          have hb94 := (hb4.block _ (by omega)).trans hb9g
          have n14 := cell0 hb94
          have n24 := cell1 hb94
          have f14 := Lib.frozen_of_heap hb94 1
          have HST : Hid ((w4.setCell ⟨wc.heap.size, 1, none⟩ (.slice A4 nl c4)).heap[wc.heap.size]? = some (.cells #[.bool g0, .slice A4 nl c4] 24 (0, 0))) := Lib.hid (by simpa using Lib.heap_setCell_same (i := 1) hb94 (.slice A4 nl c4))
          have HO4 := Lib.hid (hown'.setLow (r := wc.heap.size) (off := 1) (by omega) (.slice A4 nl c4))
          clear hown' hb94 hb9g
          go_wp2
          go_roundw
          case rel => exact ⟨k + 1, A4, c4, out ++ [s], by go_num, by omega, (hXg.below hb4).set 1 _, by rw [HNL2.out]; exact HST.out, by rw [HNL2.out]; exact HO4.out, HT1.out.symm⟩
          case measure => simp [intOf]; omega
        · have hE : (!(g1 == g0)) = false := Bool.eq_false_iff.2 hT
          rw [hE]
          have HT1 := Lib.hid (HT.out.trans (if_neg hT))
          have HB9g := Lib.hid hb9g
          clear hT n1 n2 k1 k2 k3 k4 k5 p1 p2 p3 hb9g
          go_wp2
          go_roundw
          case rel => exact ⟨k + 1, Ao, cap, out, by go_num, by omega, hXg, HB9g.out, HOg, HT1.out.symm⟩
          case measure => simp [intOf]; omega
      · have hke : Hid (Lst.take k = Lst) := Lib.hid (List.take_of_length_le (by omega))
        have HBW2 := Lib.hid (HBW.out.trans (hBl.mono hwc))
        have hcell := (HBW2.out.block (w.heap.size + 1 + 1) (by omega)).trans HC.out
        have c0 := cell0 hcell
        have c1 := cell1 hcell
        have f0 := Lib.frozen_of_heap hcell 0
        have f1 := Lib.frozen_of_heap hcell 1
        have hout : out = Lst.filter (fun x => (inN co m1 x && inN co' m2 x) != g0) := by have := HOU.out; rwa [hke.out] at this
        have hset : IsSet (co && co') out (fun x => inN co m1 x && inN co' m2 x) := by
          refine isSet_combine (fun a b => a && b) (by rw [hout]; exact HLA.out.filter _) fun x => ?_
          rw [hout, List.mem_filter, HLM.out x, List.mem_append, hg0]
        have HSET := Lib.hid (hset.congr (co' := g0) (p' := fun x => inN co rs x && inN co' rs' x) hg0 fun x => by rw [HS1.out.2 x, HS2.out.2 x])
        have HSO := Lib.hid (show Short out from fun x hx => HSL.out x (by rw [hout] at hx; exact (List.mem_filter.1 hx).1))
        have hol : out.length ≤ Lst.length := by
          rw [hout]
          exact List.length_filter_le _ _
        have HO3 := Lib.hid (HOO.out.mono (show w.heap.size + 1 + 1 + 1 ≤ w3.heap.size by omega))
        have HBF := Lib.hid (HB0.out.trans (HBW2.out.mono (by omega)))
        clear hcell hout hset
        go_wp2
        refine bodyPost_ret (v := .agg #[.bool g0, .slice Ao out.length cap]) (by simp [results, Try.results30, go_sem, c0, c1]) rfl ?_
        rw [hg0]
        exact RetN.stored rfl HO3.out (by omega) HSO.out HSET.out (by have := HLN.out; omega) HBF.out _ _
end Go.Proofs.Ytkmfpkdcedfgfaa
