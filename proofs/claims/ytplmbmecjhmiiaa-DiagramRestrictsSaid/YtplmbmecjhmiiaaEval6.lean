/- The document's walk, the program's Evaluate. -/
import Derived.Test.YtplmbmecjhmiiaaRed6
import Derived.Test.YtplmbmecjhmiiaaVal6
import Derived.Laws.Bits64b
namespace Go.Proofs.Ytplmbmecjhmiiaa
open Go Go.RowKit
theorem ubit_one (a l : Nat) (ha : a < 18446744073709551616) (h : a.testBit l = true) : bits .and .u64 ((a : Int) / 2 ^ l) 1 = 1 := by
  have e : (a : Int) / 2 ^ l = ((a / 2 ^ l : Nat) : Int) := by simp
  have hle : a / 2 ^ l ≤ a := Nat.div_le_self _ _
  have hb := bits_and_u64_nat (a / 2 ^ l) 1 (by omega) (by decide)
  rw [Nat.testBit_eq_decide_div_mod_eq, decide_eq_true_eq] at h
  rw [e]
  rw [Nat.and_one_is_mod, h] at hb
  exact hb
theorem ubit_zero (a l : Nat) (ha : a < 18446744073709551616) (h : a.testBit l = false) : bits .and .u64 ((a : Int) / 2 ^ l) 1 = 0 := by
  have e : (a : Int) / 2 ^ l = ((a / 2 ^ l : Nat) : Int) := by simp
  have hle : a / 2 ^ l ≤ a := Nat.div_le_self _ _
  have hb := bits_and_u64_nat (a / 2 ^ l) 1 (by omega) (by decide)
  rw [Nat.testBit_eq_decide_div_mod_eq, decide_eq_false_iff_not] at h
  rw [e]
  rw [Nat.and_one_is_mod, show a / 2 ^ l % 2 = 0 by omega] at hb
  exact hb
theorem NdR.node {w : World} {H : Nat} {A : Option Addr} {n c : Nat} {us : List Nd} (h : NdR w (fun b => b < H) A n c (us.map ni)) (hn : us.length = n) {i : Nat} {nd : Nd} (hi : us[i]? = some nd) :
    ∃ b off, A = some ⟨b, off, none⟩ ∧ b < H ∧ w.cell? ⟨b, off + i * 3, none⟩ = some (.int .i64 nd.l) ∧ w.cell? ⟨b, off + i * 3 + 1, none⟩ = some (.int .i64 nd.h) ∧ w.cell? ⟨b, off + i * 3 + 2, none⟩ = some (.int .i64 nd.o) := by
  have hil := (List.getElem?_eq_some_iff.1 hi).1
  obtain ⟨b, off, x, hA, hb, hx, c0, c1, c2⟩ := h.at (j := i) (by omega)
  have hxe : x = ni nd := by rw [List.getElem?_map, hi] at hx; exact (Option.some.inj hx).symm
  subst hxe
  exact ⟨b, off, hA, hb, c0, c1, c2⟩
set_option maxRecDepth 100000 in
set_option maxHeartbeats 3200000 in
theorem walkD_any (A : Option Addr) (n c : Nat) (us : List Nd) (x a : Nat) (ha : a < 18446744073709551616) (w : World) (h : NdR w (fun b => b < w.heap.size) A n c (us.map ni)) (hn : us.length = n) (hl : n ≤ 100000) (hO : Ord us) (hx : x < n + 2) :
    Calls Try.prog 31 #[.agg #[.slice A n c, .int .i64 x], .int .u64 a] w fun e w' => e = .returned (.bool (F us x (sOf a))) ∧ Below w.heap.size w w' := by
  obtain ⟨W, hW⟩ : ∃ W, W = w.alloc (.cells #[.slice A n c, .int .i64 x] 24) := ⟨_, rfl⟩
  have hb : Below w.heap.size w W := by rw [hW]; exact (Below.refl _ _).alloc (Nat.le_refl _) _
  have hz : W.heap.size = w.heap.size + 1 := by rw [hW]; simp
  have k0 : W.heap[w.heap.size]? = some (.cells #[.slice A n c, .int .i64 x] 24 (0, 0)) := by rw [hW]; exact heap_alloc_new w _
  have HK : Hid (∀ V, Below W.heap.size W V → V.cell? ⟨w.heap.size, 0, none⟩ = some (.slice A n c) ∧ Below w.heap.size w V) := Lib.hid fun V hV => ⟨(cells2 ((hV.block _ (by omega)).trans k0)).1, hb.trans (hV.mono (by omega))⟩
  have HN := Lib.hid (And.intro h (And.intro hn (And.intro hl (And.intro hO (And.intro hx ha)))))
  obtain ⟨y0, y1⟩ := cells2 k0
  rw [hW] at y0 y1
  generalize hr : F us x (sOf a) = r
  have HR := Lib.hid hr
  clear h hn hl hO hb hz k0 hr ha
  go_enter Try.func31, Try.ntmps31
  go_wp2_with fail
  rw [← hW]
  clear hW y0 y1
  go_loopw [5] (fun s wr => ∃ q : Nat, s = .int .i64 q ∧ q < n + 2 ∧ Hid (F us q (sOf a) = r) ∧ Hid (Below W.heap.size W wr)) (fun s _ => (intOf s).toNat)
  case atStart => exact ⟨x, rfl, HN.out.2.2.2.2.1, HR, Lib.hid (Below.refl _ _)⟩
  case round =>
    obtain ⟨q, rfl, hq, hF, hwr⟩ := hrel
    obtain ⟨y0, hbw⟩ := HK.out _ hwr.out
    by_cases h2 : q < 2
    · have q1 : ¬ (1 : Int) < (q : Int) := by omega
      have HBW := Lib.hid hbw
      have hq01 : q = 0 ∨ q = 1 := by omega
      clear hbw hq h2
      rcases hq01 with rfl | rfl
      · have HF : Hid (r = false) := Lib.hid (by rw [← hF.out, F_zero]; rfl)
        go_wp2
        go_ret
        exact ⟨by rw [HF.out]; rfl, HBW.out⟩
      · have HF : Hid (r = true) := Lib.hid (by rw [← hF.out, F_one]; rfl)
        go_wp2
        go_ret
        exact ⟨by rw [HF.out]; rfl, HBW.out⟩
    · obtain ⟨i, rfl⟩ : ∃ i, q = i + 2 := ⟨q - 2, by omega⟩
      obtain ⟨gN, gn, gl, gO, _, ga⟩ := HN.out
      have hi : us[i]? = some us[i] := List.getElem?_eq_getElem (by omega)
      generalize us[i] = nd at hi
      obtain ⟨o1, o2, o3, o4, o5⟩ := gO i nd hi
      obtain ⟨b, off, rfl, hbb, c0, c1, c2⟩ := (gN.on hbw).node gn hi
      have hFn := F_node gO hi (sOf a)
      have q1 : (1 : Int) < ((i + 2 : Nat) : Int) := by omega
      have hw : IntKind.i64.wrap (((i + 2 : Nat) : Int) - 2) = (i : Int) := by rw [IntWalk.i64_in _ (by omega)]; omega
      have kn : (i : Int) < (n : Int) := by omega
      have k0 : (0 : Int) ≤ (i : Int) := by omega
      have hwl : IntKind.u64.wrap (nd.l : Int) = (nd.l : Int) := by rw [IntKind.wrap_u64]; omega
      have HML : Hid (min nd.l 64 = nd.l) := Lib.hid (Nat.min_eq_left (by omega))
      have HX := Lib.hid (And.intro o2 (And.intro o3 (And.intro hq (And.intro hFn ga))))
      generalize hqq : ((i + 2 : Nat) : Int) = qq at *
      have HQ := Lib.hid hqq
      clear hqq gN gn gl gO ga o1 o2 o3 o4 o5 hi hFn hbb hq h2 hbw
      cases hbit : a.testBit nd.l
      · have hq0 : bits .and .u64 ((a : Int) / 2 ^ (min nd.l 64)) 1 = 0 := by rw [HML.out]; exact ubit_zero a _ HX.out.2.2.2.2 hbit
        have HBT := Lib.hid hbit
        clear hbit
        go_wp2
        go_roundw
        case rel => exact ⟨nd.o, rfl, by have := HX.out.2.1; have := HX.out.2.2.1; omega, Lib.hid (by
          have h := HX.out.2.2.2.1
          rw [show sOf a nd.l = false from HBT.out] at h
          rw [← hF.out, h]; rfl), Lib.hid (hwr.out.trans (((Below.refl _ _).alloc (Nat.le_refl _) _).mono hwr.out.size))⟩
        case measure => have := HX.out.2.1; have := HQ.out; simp [intOf]; omega
      · have hq0 : bits .and .u64 ((a : Int) / 2 ^ (min nd.l 64)) 1 = 1 := by rw [HML.out]; exact ubit_one a _ HX.out.2.2.2.2 hbit
        have HBT := Lib.hid hbit
        clear hbit
        go_wp2
        go_roundw
        case rel => exact ⟨nd.h, rfl, by have := HX.out.1; have := HX.out.2.2.1; omega, Lib.hid (by
          have h := HX.out.2.2.2.1
          rw [show sOf a nd.l = true from HBT.out] at h
          rw [← hF.out, h]; rfl), Lib.hid (hwr.out.trans (((Below.refl _ _).alloc (Nat.le_refl _) _).mono hwr.out.size))⟩
        case measure => have := HX.out.1; have := HQ.out; simp [intOf]; omega
set_option maxRecDepth 100000 in
set_option maxHeartbeats 6400000 in
theorem evaluate_any {f : BF} {v : Value} {w : World} (h : Dia f w w.heap.size v) (a : Nat) (ha : a < 18446744073709551616) : Calls Try.prog 12 #[v, .int .u64 a] w fun e w' => e = .returned (.bool (f (sOf a))) ∧ Below w.heap.size w w' := by
  have HD := Lib.hid h
  obtain ⟨hf, A1, c1, rfl, hN⟩ := h
  obtain ⟨_, hG, hr, hF⟩ := can_ok hf Good_nil
  have hs := can_small hf
  have hO := hG.ord
  obtain ⟨W, hW⟩ : ∃ W, W = w.alloc (.cells #[.slice A1 (can f []).1.length c1, .int .i64 (can f []).2] 24) := ⟨_, rfl⟩
  have hb : Below w.heap.size w W := by rw [hW]; exact (Below.refl _ _).alloc (Nat.le_refl _) _
  have hz : W.heap.size = w.heap.size + 1 := by rw [hW]; simp
  have kd : W.heap[w.heap.size]? = some (.cells #[.slice A1 (can f []).1.length c1, .int .i64 (can f []).2] 24 (0, 0)) := by rw [hW]; exact heap_alloc_new w _
  have hacc := accept_dia (HD.out.on hb hb.size)
  obtain ⟨d0, d1⟩ := cells2 kd
  rw [hW] at d0 d1
  generalize (can f []).1 = us at *
  generalize (can f []).2 = x at *
  obtain ⟨n, hn⟩ : ∃ n, n = us.length := ⟨_, rfl⟩
  rw [← hn] at hN hr hs hW kd hacc d0 d1 ⊢
  have HH := Lib.hid (And.intro hN (And.intro hO (And.intro hr (And.intro hs (And.intro hb (And.intro hz (And.intro kd (And.intro hn (And.intro hF ha)))))))))
  clear hN hO hr hs hb hz kd HD hf hG hn hF ha
  go_enter Try.func12, Try.ntmps12
  go_wp2_with fail
  rw [← hW]
  clear hW d0 d1
  refine hacc.mono ?_
  rintro e w1 ⟨rfl, hb1⟩
  clear hacc
  obtain ⟨hN, hO, hr, hs, hb, hz, kd, hn, hF, ha⟩ := HH.out
  have hbw : Below w.heap.size w w1 := hb.trans (hb1.mono hb.size)
  have kd1 := (hb1.block _ (by omega)).trans kd
  obtain ⟨d0, d1⟩ := cells2 kd1
  have z0 := Lib.frozen_of_heap kd1 0
  have z1 := Lib.frozen_of_heap kd1 1
  obtain ⟨V0, hV0⟩ : ∃ V0, V0 = (w1.setCell ⟨w.heap.size, 0, none⟩ (.slice A1 n c1)).setCell ⟨w.heap.size, 1, none⟩ (.int .i64 x) := ⟨_, rfl⟩
  have hbV0 : Below w.heap.size w V0 := by rw [hV0]; exact (hbw.setCell (p := ⟨w.heap.size, 0, none⟩) (Nat.le_refl _) _).setCell (p := ⟨w.heap.size, 1, none⟩) (Nat.le_refl _) _
  have kd0 : V0.heap[w.heap.size]? = some (.cells #[.slice A1 n c1, .int .i64 x] 24 (0, 0)) := by
    rw [hV0]
    have h0 := heap_setCell_same _ _ 0 _ _ (.slice A1 n c1) kd1
    have h1 := heap_setCell_same _ _ 1 _ _ (.int .i64 x) h0
    simpa using h1
  have HK : Hid (∀ V, Below V0.heap.size V0 V → (V.cell? ⟨w.heap.size, 0, none⟩ = some (.slice A1 n c1) ∧ V.cell? ⟨w.heap.size, 1, none⟩ = some (.int .i64 x)) ∧ Below w.heap.size w V) := Lib.hid fun V hV => ⟨cells2 ((hV.block _ (lt_of_heap kd0)).trans kd0), hbV0.trans (hV.mono hbV0.size)⟩
  have HB : Hid (Below V0.heap.size V0 V0) := Lib.hid (Below.refl _ _)
  obtain ⟨x0, x1⟩ := (HK.out _ HB.out).1
  rw [hV0] at x0 x1
  obtain ⟨r, hre⟩ : ∃ r, r = f (sOf a) := ⟨_, rfl⟩
  have HR : Hid (F us x (sOf a) = r) := Lib.hid (by rw [hF, hre])
  have HRE := Lib.hid hre
  clear hre
  clear hN hO hr hs hb hz kd hn hF ha hbw kd1 hbV0 kd0 hb1
  go_wp2_with fail
  rw [← hV0]
  clear d0 d1 z0 z1 x0 x1 hV0
  go_loopw [5] (fun s wr => ∃ q : Nat, s = .int .i64 q ∧ q < n + 2 ∧ Hid (F us q (sOf a) = r) ∧ Hid (Below V0.heap.size V0 wr)) (fun s _ => (intOf s).toNat)
  case atStart => exact ⟨x, rfl, HH.out.2.2.1, HR, HB⟩
  case round =>
    obtain ⟨q, rfl, hq, hF, hwr⟩ := hrel
    obtain ⟨⟨y0, y1⟩, hbw⟩ := HK.out _ hwr.out
    by_cases h2 : q < 2
    · have q1 : ¬ (2 : Int) ≤ (q : Int) := by omega
      have HBW := Lib.hid hbw
      have hq01 : q = 0 ∨ q = 1 := by omega
      clear hbw hq h2
      rcases hq01 with rfl | rfl
      · have HF : Hid (r = false) := Lib.hid (by rw [← hF.out, F_zero]; rfl)
        go_wp2
        go_ret
        exact ⟨by rw [← HRE.out, HF.out]; rfl, HBW.out⟩
      · have HF : Hid (r = true) := Lib.hid (by rw [← hF.out, F_one]; rfl)
        go_wp2
        go_ret
        exact ⟨by rw [← HRE.out, HF.out]; rfl, HBW.out⟩
    · obtain ⟨i, rfl⟩ : ∃ i, q = i + 2 := ⟨q - 2, by omega⟩
      obtain ⟨gN, gO, _, gs, _, _, _, gn, _, ga⟩ := HH.out
      have hi : us[i]? = some us[i] := List.getElem?_eq_getElem (by omega)
      generalize us[i] = nd at hi
      obtain ⟨o1, o2, o3, o4, o5⟩ := gO i nd hi
      have hFn := F_node gO hi (sOf a)
      have q1 : (2 : Int) ≤ ((i + 2 : Nat) : Int) := by omega
      have HML : Hid (min nd.l 64 = nd.l) := Lib.hid (Nat.min_eq_left (by omega))
      have HLI : Hid (∀ V, Below V0.heap.size V0 V → Calls Try.prog 34 #[.agg #[.slice A1 n c1, .int .i64 x], .int .i64 ((i + 2 : Nat) : Int)] V fun e w' => e = .returned (.int .i64 (nd.l : Int)) ∧ Below V.heap.size V w') := Lib.hid fun V hV => by
        have hbV := (HK.out V hV).2
        have := literalAt_any A1 n c1 (us.map ni) x ((i + 2 : Nat) : Int) V ((gN.on hbV).up fun b hb => by have := hbV.size; omega) (by omega) (by omega)
        rw [litI_at (x := ni nd) (j := i) (by omega) (by rw [List.getElem?_map, hi]; rfl)] at this
        exact this
      have HFO : Hid (∀ V b, Below V0.heap.size V0 V → Calls Try.prog 35 #[.agg #[.slice A1 n c1, .int .i64 x], .int .i64 ((i + 2 : Nat) : Int), .int .i64 nd.l, .bool b] V fun e w' => e = .returned (.int .i64 ((if b then nd.h else nd.o : Nat) : Int)) ∧ Below V.heap.size V w') := Lib.hid fun V b hV => by
        have hbV := (HK.out V hV).2
        have := follow_any A1 n c1 (us.map ni) x ((i + 2 : Nat) : Int) nd.l b V ((gN.on hbV).up fun b hb => by have := hbV.size; omega) (by omega) (by omega) (by omega)
        rw [folI_at (x := ni nd) (j := i) (l := (nd.l : Int)) (by omega) (by rw [List.getElem?_map, hi]; rfl) rfl] at this
        have e : ((if b then nd.h else nd.o : Nat) : Int) = if b then (ni nd).2.1 else (ni nd).2.2 := by split <;> rfl
        rw [e]
        exact this
      have HX := Lib.hid (And.intro o2 (And.intro o3 (And.intro hq (And.intro hFn ga))))
      have HNEG : Hid (¬ (nd.l : Int) < 0) := Lib.hid (by omega)
      generalize hqq : ((i + 2 : Nat) : Int) = qq at *
      have HQ := Lib.hid hqq
      clear hqq gN gO gs gn ga o1 o2 o3 o4 o5 hi hFn hq h2 hbw
      go_wp2_with fail
      clear y0 y1
      refine (HLI.out _ hwr.out).mono ?_
      rintro e V1 ⟨rfl, hb1⟩
      have HV1 := Lib.hid (hwr.out.trans (hb1.mono hwr.out.size))
      clear hb1
      have hneg := HNEG.out
      cases hbit : a.testBit nd.l
      · have hq0 : bits .and .u64 ((a : Int) / 2 ^ (min nd.l 64)) 1 = 0 := by rw [HML.out]; exact ubit_zero a _ HX.out.2.2.2.2 hbit
        have HBT := Lib.hid hbit
        clear hbit
        go_wp2_with fail
        have HB0 := Lib.hid (HV1.out.drew)
        refine wp_region_held_drew (S := fun V => (V.cell? ⟨w.heap.size, 0, none⟩ = some (.slice A1 n c1) ∧ V.cell? ⟨w.heap.size, 1, none⟩ = some (.int .i64 x))) (by kernel_rfl) (HK.out _ HB0.out).1 (fun _ => ?_)
        refine tk 0 ((HK.out _ HB0.out).1) ?_
        try simp only [Act.put, pA, pB, pC]
        refine tk 1 ((HK.out _ HB0.out).1) ?_
        try simp only [Act.put, pA, pB, pC]
        refine tk 2 ((HK.out _ HB0.out).1) ?_
        try simp only [Act.put, pA, pB, pC]
        refine tk 3 ((HK.out _ HB0.out).1) ?_
        try simp only [Act.put, pA, pB, pC]
        refine tk 4 ((HK.out _ HB0.out).1) ?_
        try simp only [Act.put, pA, pB, pC]
        refine tk 5 ((HK.out _ HB0.out).1) ?_
        try simp only [Act.put, pA, pB, pC]
        refine tk 6 ((HK.out _ HB0.out).1) ?_
        try simp only [Act.put, pA, pB, pC]
        refine tk 7 ((HK.out _ HB0.out).1) ?_
        try simp only [Act.put, pA, pB, pC]
        refine one_op 8 (by kernel_rfl) rfl (by rfl) (fun K hK => ?_)
        go_simp
        refine (HFO.out _ false HB0.out).mono ?_
        rintro e V2 ⟨rfl, hb2⟩
        have HB2 := Lib.hid (HB0.out.trans (hb2.mono HB0.out.size))
        clear hb2
        refine hK _ _ (HK.out _ HB2.out).1 ?_
        try simp only [Act.put, pA, pB, pC]
        clear hK K
        refine tk 9 ((HK.out _ HB2.out).1) ?_
        try simp only [Act.put, pA, pB, pC]
        refine wpAnyH_done (by kernel_rfl) ?_ _
        go_roundw
        case rel => exact ⟨_, _, _, _, _, _, _, _, _, _, _, _, _, _, _, _, ⟨nd.o, rfl, by have := HX.out.2.1; have := HX.out.2.2.1; omega, Lib.hid (by
          have h := HX.out.2.2.2.1
          rw [show sOf a nd.l = false from HBT.out] at h
          rw [← hF.out, h]; rfl), HB2⟩, rfl⟩
        case measure => have := HX.out.2.1; have := HQ.out; simp [intOf]; omega
      · have hq0 : bits .and .u64 ((a : Int) / 2 ^ (min nd.l 64)) 1 = 1 := by rw [HML.out]; exact ubit_one a _ HX.out.2.2.2.2 hbit
        have HBT := Lib.hid hbit
        clear hbit
        go_wp2_with fail
        have HB0 := Lib.hid (HV1.out.drew)
        refine wp_region_held_drew (S := fun V => (V.cell? ⟨w.heap.size, 0, none⟩ = some (.slice A1 n c1) ∧ V.cell? ⟨w.heap.size, 1, none⟩ = some (.int .i64 x))) (by kernel_rfl) (HK.out _ HB0.out).1 (fun _ => ?_)
        refine tk 0 ((HK.out _ HB0.out).1) ?_
        try simp only [Act.put, pA, pB, pC]
        refine tk 1 ((HK.out _ HB0.out).1) ?_
        try simp only [Act.put, pA, pB, pC]
        refine tk 2 ((HK.out _ HB0.out).1) ?_
        try simp only [Act.put, pA, pB, pC]
        refine tk 3 ((HK.out _ HB0.out).1) ?_
        try simp only [Act.put, pA, pB, pC]
        refine tk 4 ((HK.out _ HB0.out).1) ?_
        try simp only [Act.put, pA, pB, pC]
        refine tk 5 ((HK.out _ HB0.out).1) ?_
        try simp only [Act.put, pA, pB, pC]
        refine tk 6 ((HK.out _ HB0.out).1) ?_
        try simp only [Act.put, pA, pB, pC]
        refine tk 7 ((HK.out _ HB0.out).1) ?_
        try simp only [Act.put, pA, pB, pC]
        refine one_op 8 (by kernel_rfl) rfl (by rfl) (fun K hK => ?_)
        go_simp
        refine (HFO.out _ true HB0.out).mono ?_
        rintro e V2 ⟨rfl, hb2⟩
        have HB2 := Lib.hid (HB0.out.trans (hb2.mono HB0.out.size))
        clear hb2
        refine hK _ _ (HK.out _ HB2.out).1 ?_
        try simp only [Act.put, pA, pB, pC]
        clear hK K
        refine tk 9 ((HK.out _ HB2.out).1) ?_
        try simp only [Act.put, pA, pB, pC]
        refine wpAnyH_done (by kernel_rfl) ?_ _
        go_roundw
        case rel => exact ⟨_, _, _, _, _, _, _, _, _, _, _, _, _, _, _, _, ⟨nd.h, rfl, by have := HX.out.1; have := HX.out.2.2.1; omega, Lib.hid (by
          have h := HX.out.2.2.2.1
          rw [show sOf a nd.l = true from HBT.out] at h
          rw [← hF.out, h]; rfl), HB2⟩, rfl⟩
        case measure => have := HX.out.1; have := HQ.out; simp [intOf]; omega
end Go.Proofs.Ytplmbmecjhmiiaa
