/- The document's safe, on ordered lists. -/
import Derived.Test.YtplmbmecjhmiiaaEval6
namespace Go.Proofs.Ytplmbmecjhmiiaa
open Go Go.RowKit
set_option maxRecDepth 100000 in
set_option maxHeartbeats 6400000 in
theorem safe_ord (A : Option Addr) (n c : Nat) (us : List Nd) (x : Nat) (w : World) (h : NdR w (fun b => b < w.heap.size) A n c (us.map ni)) (hn : us.length = n) (hl : n ≤ 100000) (hO : Ord us) (hx : x < n + 2) :
    Calls Try.prog 30 #[.agg #[.slice A n c, .int .i64 x]] w fun e w' => e = .returned (.bool true) ∧ Below w.heap.size w w' := by
  obtain ⟨W, hW⟩ : ∃ W, W = w.alloc (.cells #[.slice A n c, .int .i64 x] 24) := ⟨_, rfl⟩
  have hb : Below w.heap.size w W := by rw [hW]; exact (Below.refl _ _).alloc (Nat.le_refl _) _
  have hz : W.heap.size = w.heap.size + 1 := by rw [hW]; simp
  have k0 : W.heap[w.heap.size]? = some (.cells #[.slice A n c, .int .i64 x] 24 (0, 0)) := by rw [hW]; exact heap_alloc_new w _
  have HK : Hid (∀ V, Below W.heap.size W V → (V.cell? ⟨w.heap.size, 0, none⟩ = some (.slice A n c) ∧ V.cell? ⟨w.heap.size, 1, none⟩ = some (.int .i64 x)) ∧ Below w.heap.size w V) := Lib.hid fun V hV => ⟨cells2 ((hV.block _ (by omega)).trans k0), hb.trans (hV.mono (by omega))⟩
  have HN := Lib.hid (And.intro h (And.intro hn (And.intro hl (And.intro hO hx))))
  clear h hn hl hO hb hz k0 hx
  go_enter Try.func30, Try.ntmps30
  go_wp2_with fail
  rw [← hW]
  clear hW
  go_loopw [3] (fun s wr => ∃ j : Nat, s = .int .i64 j ∧ j ≤ n ∧ Hid (Below W.heap.size W wr)) (fun s _ => n - (intOf s).toNat)
  case atStart => exact ⟨0, rfl, by omega, Lib.hid (Below.refl _ _)⟩
  case round =>
    obtain ⟨j, rfl, hj, hwr⟩ := hrel
    obtain ⟨⟨y0, y1⟩, hbw⟩ := HK.out _ hwr.out
    by_cases hjn : j < n
    · obtain ⟨gN, gn, gl, gO, _⟩ := HN.out
      have hi : us[j]? = some us[j] := List.getElem?_eq_getElem (by omega)
      generalize us[j] = nd at hi
      obtain ⟨o1, o2, o3, o4, o5⟩ := gO j nd hi
      obtain ⟨b, off, hA, hbb, c0, c1, c2⟩ := (gN.on hbw).node gn hi
      have HNODE : Hid (∀ (V : World) (q : Nat) (nq : Nd), Below w.heap.size w V → us[q]? = some nq → V.cell? ⟨b, off + q * 3, none⟩ = some (.int .i64 nq.l)) := Lib.hid fun V q nq hV hq => by
        obtain ⟨b', off', hA', _, e0, _, _⟩ := (gN.on hV).node gn hq
        rw [hA] at hA'
        injection hA' with hA'
        injection hA' with e1 e2 _
        subst e1 e2
        exact e0
      subst hA
      have kn : (j : Int) < (n : Int) := by omega
      have k0 : (0 : Int) ≤ (j : Int) := by omega
      have hwj : IntKind.i64.wrap ((j : Int) + 1) = ((j + 1 : Nat) : Int) := by rw [IntWalk.i64_in _ (by omega)]; omega
      obtain ⟨j2, hj2⟩ : ∃ j2, j2 = j + 2 := ⟨_, rfl⟩
      have hwj2 : IntKind.i64.wrap ((j : Int) + 2) = (j2 : Int) := by rw [IntWalk.i64_in _ (by omega)]; omega
      have p1 : ¬ (nd.l : Int) < 0 := by omega
      have p2 : ¬ (12 : Int) ≤ (nd.l : Int) := by omega
      have p3 : ¬ (nd.h : Int) < 0 := by omega
      have p4 : ¬ (j2 : Int) ≤ (nd.h : Int) := by omega
      have p5 : ¬ (nd.o : Int) < 0 := by omega
      have p6 : ¬ (j2 : Int) ≤ (nd.o : Int) := by omega
      have HX := Lib.hid (And.intro hjn (And.intro o2 (And.intro o3 (And.intro o4 (And.intro o5 (And.intro gn gl))))))
      obtain ⟨V4, hV4⟩ : ∃ V4, V4 = wr.alloc (.cells #[.int .i64 nd.l, .int .i64 nd.h, .int .i64 nd.o] 32) := ⟨_, rfl⟩
      have hb4 : Below wr.heap.size wr V4 := by rw [hV4]; exact (Below.refl _ _).alloc (Nat.le_refl _) _
      have k4 : V4.heap[wr.heap.size]? = some (.cells #[.int .i64 nd.l, .int .i64 nd.h, .int .i64 nd.o] 32 (0, 0)) := by rw [hV4]; exact heap_alloc_new wr _
      obtain ⟨z, hzz⟩ : ∃ z, z = wr.heap.size := ⟨_, rfl⟩
      have HC : Hid (∀ V, Below V4.heap.size V4 V → V.cell? ⟨w.heap.size, 0, none⟩ = some (.slice (some ⟨b, off, none⟩) n c) ∧ V.cell? ⟨z, 0, none⟩ = some (.int .i64 nd.l) ∧ V.cell? ⟨z, 1, none⟩ = some (.int .i64 nd.h) ∧ V.cell? ⟨z, 2, none⟩ = some (.int .i64 nd.o)) := Lib.hid fun V hV => by
        obtain ⟨a0, a1, a2⟩ := cells3 ((hV.block _ (lt_of_heap k4)).trans k4)
        rw [← hzz] at a0 a1 a2
        exact ⟨(HK.out V (hwr.out.trans ((hb4.trans (hV.mono hb4.size)).mono hwr.out.size))).1.1, a0, a1, a2⟩
      have HV4 := Lib.hid (And.intro (hwr.out.trans (hb4.mono hwr.out.size)) (hbw.trans (hb4.mono hbw.size)))
      clear gN gn gl gO o1 o2 o3 o4 o5 hbb hi hjn hj hb4 k4 hj2 hbw
      go_wp2_with fail
      rw [← hV4, ← hzz]
      clear hV4 hzz c0 c1 c2 y0 y1
      have HB0 := Lib.hid ((Below.refl V4.heap.size V4).drew)
      have HBW := Lib.hid (HV4.out.2.drew)
      by_cases dh : 2 ≤ nd.h
      · by_cases dq : 2 ≤ nd.o
        · obtain ⟨hh, hhh⟩ : ∃ q, nd.h = q + 2 := ⟨nd.h - 2, by omega⟩
          obtain ⟨nhh, huhh⟩ : ∃ q, us[hh]? = some q := ⟨_, List.getElem?_eq_getElem (by have := HX.out; omega)⟩
          have ghh : (1 : Int) < (nd.h : Int) := by omega
          have whh : IntKind.i64.wrap ((nd.h : Int) - 2) = (hh : Int) := by have := HX.out; rw [IntWalk.i64_in _ (by omega)]; omega
          have ihh : (hh : Int) < (n : Int) := by have := HX.out; omega
          have jhh : (0 : Int) ≤ (hh : Int) := by omega
          have lhh : ¬ (nhh.l : Int) ≤ (nd.l : Int) := by
            have h := HX.out.2.2.2.1
            rw [hhh, litR_node huhh] at h
            omega
          have ehh := HNODE.out _ _ _ HBW.out huhh
          obtain ⟨oo, hoo⟩ : ∃ q, nd.o = q + 2 := ⟨nd.o - 2, by omega⟩
          obtain ⟨noo, huoo⟩ : ∃ q, us[oo]? = some q := ⟨_, List.getElem?_eq_getElem (by have := HX.out; omega)⟩
          have goo : (1 : Int) < (nd.o : Int) := by omega
          have woo : IntKind.i64.wrap ((nd.o : Int) - 2) = (oo : Int) := by have := HX.out; rw [IntWalk.i64_in _ (by omega)]; omega
          have ioo : (oo : Int) < (n : Int) := by have := HX.out; omega
          have joo : (0 : Int) ≤ (oo : Int) := by omega
          have loo : ¬ (noo.l : Int) ≤ (nd.l : Int) := by
            have h := HX.out.2.2.2.2.1
            rw [hoo, litR_node huoo] at h
            omega
          have eoo := HNODE.out _ _ _ HBW.out huoo
          have HE : Hid (V4.drew.cell? ⟨w.heap.size, 0, none⟩ = some (.slice (some ⟨b, off, none⟩) n c) ∧ V4.drew.cell? ⟨z, 0, none⟩ = some (.int .i64 nd.l) ∧ V4.drew.cell? ⟨z, 1, none⟩ = some (.int .i64 nd.h) ∧ V4.drew.cell? ⟨z, 2, none⟩ = some (.int .i64 nd.o) ∧ V4.drew.cell? ⟨b, off + hh * 3, none⟩ = some (.int .i64 nhh.l) ∧ V4.drew.cell? ⟨b, off + oo * 3, none⟩ = some (.int .i64 noo.l)) := Lib.hid ⟨(HC.out _ HB0.out).1, (HC.out _ HB0.out).2.1, (HC.out _ HB0.out).2.2.1, (HC.out _ HB0.out).2.2.2, ehh, eoo⟩
          clear ehh
          clear eoo
          clear hhh huhh hoo huoo
          refine wp_region_held_drew (S := fun V => V.cell? ⟨w.heap.size, 0, none⟩ = some (.slice (some ⟨b, off, none⟩) n c) ∧ V.cell? ⟨z, 0, none⟩ = some (.int .i64 nd.l) ∧ V.cell? ⟨z, 1, none⟩ = some (.int .i64 nd.h) ∧ V.cell? ⟨z, 2, none⟩ = some (.int .i64 nd.o) ∧ V.cell? ⟨b, off + hh * 3, none⟩ = some (.int .i64 nhh.l) ∧ V.cell? ⟨b, off + oo * 3, none⟩ = some (.int .i64 noo.l)) (by kernel_rfl) HE.out (fun _ => ?_)
          refine tk 0 (HE.out) ?_
          try simp only [Act.put, pA, pB, pC]
          refine tk 1 (HE.out) ?_
          try simp only [Act.put, pA, pB, pC]
          refine tk 2 (HE.out) ?_
          try simp only [Act.put, pA, pB, pC]
          refine tk 3 (HE.out) ?_
          try simp only [Act.put, pA, pB, pC]
          refine tk 4 (HE.out) ?_
          try simp only [Act.put, pA, pB, pC]
          refine tk 5 (HE.out) ?_
          try simp only [Act.put, pA, pB, pC]
          refine tk 6 (HE.out) ?_
          try simp only [Act.put, pA, pB, pC]
          refine tk 7 (HE.out) ?_
          try simp only [Act.put, pA, pB, pC]
          refine tk 8 (HE.out) ?_
          try simp only [Act.put, pA, pB, pC]
          refine tk 9 (HE.out) ?_
          try simp only [Act.put, pA, pB, pC]
          refine tk 10 (HE.out) ?_
          try simp only [Act.put, pA, pB, pC]
          refine tk 11 (HE.out) ?_
          try simp only [Act.put, pA, pB, pC]
          refine tk 12 (HE.out) ?_
          try simp only [Act.put, pA, pB, pC]
          refine tk 13 (HE.out) ?_
          try simp only [Act.put, pA, pB, pC]
          refine tk 14 (HE.out) ?_
          try simp only [Act.put, pA, pB, pC]
          refine tk 15 (HE.out) ?_
          try simp only [Act.put, pA, pB, pC]
          refine tk 16 (HE.out) ?_
          try simp only [Act.put, pA, pB, pC]
          refine tk 17 (HE.out) ?_
          try simp only [Act.put, pA, pB, pC]
          refine tk 18 (HE.out) ?_
          try simp only [Act.put, pA, pB, pC]
          refine tk 19 (HE.out) ?_
          try simp only [Act.put, pA, pB, pC]
          refine tk 20 (HE.out) ?_
          try simp only [Act.put, pA, pB, pC]
          refine tk 21 (HE.out) ?_
          try simp only [Act.put, pA, pB, pC]
          refine tk 22 (HE.out) ?_
          try simp only [Act.put, pA, pB, pC]
          refine tk 23 (HE.out) ?_
          try simp only [Act.put, pA, pB, pC]
          refine tk 24 (HE.out) ?_
          try simp only [Act.put, pA, pB, pC]
          refine tk 25 (HE.out) ?_
          try simp only [Act.put, pA, pB, pC]
          refine tk 26 (HE.out) ?_
          try simp only [Act.put, pA, pB, pC]
          refine tk 27 (HE.out) ?_
          try simp only [Act.put, pA, pB, pC]
          refine tk 28 (HE.out) ?_
          try simp only [Act.put, pA, pB, pC]
          refine tk 29 (HE.out) ?_
          try simp only [Act.put, pA, pB, pC]
          refine tk 30 (HE.out) ?_
          try simp only [Act.put, pA, pB, pC]
          refine tk 31 (HE.out) ?_
          try simp only [Act.put, pA, pB, pC]
          refine tk 32 (HE.out) ?_
          try simp only [Act.put, pA, pB, pC]
          refine tk 33 (HE.out) ?_
          try simp only [Act.put, pA, pB, pC]
          refine wpAnyH_done (by kernel_rfl) ?_ _
          have HD := Lib.hid (HV4.out.1.drew)
          go_wp2
          go_roundw
          case rel => exact ⟨j + 1, by go_num, by have := HX.out.1; omega, HD⟩
          case measure => have := HX.out.1; simp [intOf]; omega
        · obtain ⟨hh, hhh⟩ : ∃ q, nd.h = q + 2 := ⟨nd.h - 2, by omega⟩
          obtain ⟨nhh, huhh⟩ : ∃ q, us[hh]? = some q := ⟨_, List.getElem?_eq_getElem (by have := HX.out; omega)⟩
          have ghh : (1 : Int) < (nd.h : Int) := by omega
          have whh : IntKind.i64.wrap ((nd.h : Int) - 2) = (hh : Int) := by have := HX.out; rw [IntWalk.i64_in _ (by omega)]; omega
          have ihh : (hh : Int) < (n : Int) := by have := HX.out; omega
          have jhh : (0 : Int) ≤ (hh : Int) := by omega
          have lhh : ¬ (nhh.l : Int) ≤ (nd.l : Int) := by
            have h := HX.out.2.2.2.1
            rw [hhh, litR_node huhh] at h
            omega
          have ehh := HNODE.out _ _ _ HBW.out huhh
          have goo : ¬ (1 : Int) < (nd.o : Int) := by omega
          have HE : Hid (V4.drew.cell? ⟨w.heap.size, 0, none⟩ = some (.slice (some ⟨b, off, none⟩) n c) ∧ V4.drew.cell? ⟨z, 0, none⟩ = some (.int .i64 nd.l) ∧ V4.drew.cell? ⟨z, 1, none⟩ = some (.int .i64 nd.h) ∧ V4.drew.cell? ⟨z, 2, none⟩ = some (.int .i64 nd.o) ∧ V4.drew.cell? ⟨b, off + hh * 3, none⟩ = some (.int .i64 nhh.l)) := Lib.hid ⟨(HC.out _ HB0.out).1, (HC.out _ HB0.out).2.1, (HC.out _ HB0.out).2.2.1, (HC.out _ HB0.out).2.2.2, ehh⟩
          clear ehh
          clear hhh huhh
          refine wp_region_held_drew (S := fun V => V.cell? ⟨w.heap.size, 0, none⟩ = some (.slice (some ⟨b, off, none⟩) n c) ∧ V.cell? ⟨z, 0, none⟩ = some (.int .i64 nd.l) ∧ V.cell? ⟨z, 1, none⟩ = some (.int .i64 nd.h) ∧ V.cell? ⟨z, 2, none⟩ = some (.int .i64 nd.o) ∧ V.cell? ⟨b, off + hh * 3, none⟩ = some (.int .i64 nhh.l)) (by kernel_rfl) HE.out (fun _ => ?_)
          refine tk 0 (HE.out) ?_
          try simp only [Act.put, pA, pB, pC]
          refine tk 1 (HE.out) ?_
          try simp only [Act.put, pA, pB, pC]
          refine tk 2 (HE.out) ?_
          try simp only [Act.put, pA, pB, pC]
          refine tk 3 (HE.out) ?_
          try simp only [Act.put, pA, pB, pC]
          refine tk 4 (HE.out) ?_
          try simp only [Act.put, pA, pB, pC]
          refine tk 5 (HE.out) ?_
          try simp only [Act.put, pA, pB, pC]
          refine tk 6 (HE.out) ?_
          try simp only [Act.put, pA, pB, pC]
          refine tk 7 (HE.out) ?_
          try simp only [Act.put, pA, pB, pC]
          refine tk 8 (HE.out) ?_
          try simp only [Act.put, pA, pB, pC]
          refine tk 9 (HE.out) ?_
          try simp only [Act.put, pA, pB, pC]
          refine tk 10 (HE.out) ?_
          try simp only [Act.put, pA, pB, pC]
          refine tk 11 (HE.out) ?_
          try simp only [Act.put, pA, pB, pC]
          refine tk 12 (HE.out) ?_
          try simp only [Act.put, pA, pB, pC]
          refine tk 13 (HE.out) ?_
          try simp only [Act.put, pA, pB, pC]
          refine tk 14 (HE.out) ?_
          try simp only [Act.put, pA, pB, pC]
          refine tk 15 (HE.out) ?_
          try simp only [Act.put, pA, pB, pC]
          refine tk 16 (HE.out) ?_
          try simp only [Act.put, pA, pB, pC]
          refine tk 17 (HE.out) ?_
          try simp only [Act.put, pA, pB, pC]
          refine tk 18 (HE.out) ?_
          try simp only [Act.put, pA, pB, pC]
          refine tk 19 (HE.out) ?_
          try simp only [Act.put, pA, pB, pC]
          refine tk 20 (HE.out) ?_
          try simp only [Act.put, pA, pB, pC]
          refine tu 21 (HE.out) ?_
          try simp only [Act.put, pA, pB, pC]
          refine tu 22 (HE.out) ?_
          try simp only [Act.put, pA, pB, pC]
          refine tu 23 (HE.out) ?_
          try simp only [Act.put, pA, pB, pC]
          refine tu 24 (HE.out) ?_
          try simp only [Act.put, pA, pB, pC]
          refine tu 25 (HE.out) ?_
          try simp only [Act.put, pA, pB, pC]
          refine tu 26 (HE.out) ?_
          try simp only [Act.put, pA, pB, pC]
          refine tu 27 (HE.out) ?_
          try simp only [Act.put, pA, pB, pC]
          refine tu 28 (HE.out) ?_
          try simp only [Act.put, pA, pB, pC]
          refine tu 29 (HE.out) ?_
          try simp only [Act.put, pA, pB, pC]
          refine tu 30 (HE.out) ?_
          try simp only [Act.put, pA, pB, pC]
          refine tu 31 (HE.out) ?_
          try simp only [Act.put, pA, pB, pC]
          refine tk 32 (HE.out) ?_
          try simp only [Act.put, pA, pB, pC]
          refine tk 33 (HE.out) ?_
          try simp only [Act.put, pA, pB, pC]
          refine wpAnyH_done (by kernel_rfl) ?_ _
          have HD := Lib.hid (HV4.out.1.drew)
          go_wp2
          go_roundw
          case rel => exact ⟨j + 1, by go_num, by have := HX.out.1; omega, HD⟩
          case measure => have := HX.out.1; simp [intOf]; omega
      · by_cases dq : 2 ≤ nd.o
        · have ghh : ¬ (1 : Int) < (nd.h : Int) := by omega
          obtain ⟨oo, hoo⟩ : ∃ q, nd.o = q + 2 := ⟨nd.o - 2, by omega⟩
          obtain ⟨noo, huoo⟩ : ∃ q, us[oo]? = some q := ⟨_, List.getElem?_eq_getElem (by have := HX.out; omega)⟩
          have goo : (1 : Int) < (nd.o : Int) := by omega
          have woo : IntKind.i64.wrap ((nd.o : Int) - 2) = (oo : Int) := by have := HX.out; rw [IntWalk.i64_in _ (by omega)]; omega
          have ioo : (oo : Int) < (n : Int) := by have := HX.out; omega
          have joo : (0 : Int) ≤ (oo : Int) := by omega
          have loo : ¬ (noo.l : Int) ≤ (nd.l : Int) := by
            have h := HX.out.2.2.2.2.1
            rw [hoo, litR_node huoo] at h
            omega
          have eoo := HNODE.out _ _ _ HBW.out huoo
          have HE : Hid (V4.drew.cell? ⟨w.heap.size, 0, none⟩ = some (.slice (some ⟨b, off, none⟩) n c) ∧ V4.drew.cell? ⟨z, 0, none⟩ = some (.int .i64 nd.l) ∧ V4.drew.cell? ⟨z, 1, none⟩ = some (.int .i64 nd.h) ∧ V4.drew.cell? ⟨z, 2, none⟩ = some (.int .i64 nd.o) ∧ V4.drew.cell? ⟨b, off + oo * 3, none⟩ = some (.int .i64 noo.l)) := Lib.hid ⟨(HC.out _ HB0.out).1, (HC.out _ HB0.out).2.1, (HC.out _ HB0.out).2.2.1, (HC.out _ HB0.out).2.2.2, eoo⟩
          clear eoo
          clear hoo huoo
          refine wp_region_held_drew (S := fun V => V.cell? ⟨w.heap.size, 0, none⟩ = some (.slice (some ⟨b, off, none⟩) n c) ∧ V.cell? ⟨z, 0, none⟩ = some (.int .i64 nd.l) ∧ V.cell? ⟨z, 1, none⟩ = some (.int .i64 nd.h) ∧ V.cell? ⟨z, 2, none⟩ = some (.int .i64 nd.o) ∧ V.cell? ⟨b, off + oo * 3, none⟩ = some (.int .i64 noo.l)) (by kernel_rfl) HE.out (fun _ => ?_)
          refine tk 0 (HE.out) ?_
          try simp only [Act.put, pA, pB, pC]
          refine tk 1 (HE.out) ?_
          try simp only [Act.put, pA, pB, pC]
          refine tk 2 (HE.out) ?_
          try simp only [Act.put, pA, pB, pC]
          refine tk 3 (HE.out) ?_
          try simp only [Act.put, pA, pB, pC]
          refine tu 4 (HE.out) ?_
          try simp only [Act.put, pA, pB, pC]
          refine tu 5 (HE.out) ?_
          try simp only [Act.put, pA, pB, pC]
          refine tu 6 (HE.out) ?_
          try simp only [Act.put, pA, pB, pC]
          refine tu 7 (HE.out) ?_
          try simp only [Act.put, pA, pB, pC]
          refine tu 8 (HE.out) ?_
          try simp only [Act.put, pA, pB, pC]
          refine tu 9 (HE.out) ?_
          try simp only [Act.put, pA, pB, pC]
          refine tu 10 (HE.out) ?_
          try simp only [Act.put, pA, pB, pC]
          refine tu 11 (HE.out) ?_
          try simp only [Act.put, pA, pB, pC]
          refine tu 12 (HE.out) ?_
          try simp only [Act.put, pA, pB, pC]
          refine tu 13 (HE.out) ?_
          try simp only [Act.put, pA, pB, pC]
          refine tu 14 (HE.out) ?_
          try simp only [Act.put, pA, pB, pC]
          refine tk 15 (HE.out) ?_
          try simp only [Act.put, pA, pB, pC]
          refine tk 16 (HE.out) ?_
          try simp only [Act.put, pA, pB, pC]
          refine tk 17 (HE.out) ?_
          try simp only [Act.put, pA, pB, pC]
          refine tk 18 (HE.out) ?_
          try simp only [Act.put, pA, pB, pC]
          refine tk 19 (HE.out) ?_
          try simp only [Act.put, pA, pB, pC]
          refine tk 20 (HE.out) ?_
          try simp only [Act.put, pA, pB, pC]
          refine tk 21 (HE.out) ?_
          try simp only [Act.put, pA, pB, pC]
          refine tk 22 (HE.out) ?_
          try simp only [Act.put, pA, pB, pC]
          refine tk 23 (HE.out) ?_
          try simp only [Act.put, pA, pB, pC]
          refine tk 24 (HE.out) ?_
          try simp only [Act.put, pA, pB, pC]
          refine tk 25 (HE.out) ?_
          try simp only [Act.put, pA, pB, pC]
          refine tk 26 (HE.out) ?_
          try simp only [Act.put, pA, pB, pC]
          refine tk 27 (HE.out) ?_
          try simp only [Act.put, pA, pB, pC]
          refine tk 28 (HE.out) ?_
          try simp only [Act.put, pA, pB, pC]
          refine tk 29 (HE.out) ?_
          try simp only [Act.put, pA, pB, pC]
          refine tk 30 (HE.out) ?_
          try simp only [Act.put, pA, pB, pC]
          refine tk 31 (HE.out) ?_
          try simp only [Act.put, pA, pB, pC]
          refine tk 32 (HE.out) ?_
          try simp only [Act.put, pA, pB, pC]
          refine tk 33 (HE.out) ?_
          try simp only [Act.put, pA, pB, pC]
          refine wpAnyH_done (by kernel_rfl) ?_ _
          have HD := Lib.hid (HV4.out.1.drew)
          go_wp2
          go_roundw
          case rel => exact ⟨j + 1, by go_num, by have := HX.out.1; omega, HD⟩
          case measure => have := HX.out.1; simp [intOf]; omega
        · have ghh : ¬ (1 : Int) < (nd.h : Int) := by omega
          have goo : ¬ (1 : Int) < (nd.o : Int) := by omega
          have HE : Hid (V4.drew.cell? ⟨w.heap.size, 0, none⟩ = some (.slice (some ⟨b, off, none⟩) n c) ∧ V4.drew.cell? ⟨z, 0, none⟩ = some (.int .i64 nd.l) ∧ V4.drew.cell? ⟨z, 1, none⟩ = some (.int .i64 nd.h) ∧ V4.drew.cell? ⟨z, 2, none⟩ = some (.int .i64 nd.o)) := Lib.hid ⟨(HC.out _ HB0.out).1, (HC.out _ HB0.out).2.1, (HC.out _ HB0.out).2.2.1, (HC.out _ HB0.out).2.2.2⟩
          refine wp_region_held_drew (S := fun V => V.cell? ⟨w.heap.size, 0, none⟩ = some (.slice (some ⟨b, off, none⟩) n c) ∧ V.cell? ⟨z, 0, none⟩ = some (.int .i64 nd.l) ∧ V.cell? ⟨z, 1, none⟩ = some (.int .i64 nd.h) ∧ V.cell? ⟨z, 2, none⟩ = some (.int .i64 nd.o)) (by kernel_rfl) HE.out (fun _ => ?_)
          refine tk 0 (HE.out) ?_
          try simp only [Act.put, pA, pB, pC]
          refine tk 1 (HE.out) ?_
          try simp only [Act.put, pA, pB, pC]
          refine tk 2 (HE.out) ?_
          try simp only [Act.put, pA, pB, pC]
          refine tk 3 (HE.out) ?_
          try simp only [Act.put, pA, pB, pC]
          refine tu 4 (HE.out) ?_
          try simp only [Act.put, pA, pB, pC]
          refine tu 5 (HE.out) ?_
          try simp only [Act.put, pA, pB, pC]
          refine tu 6 (HE.out) ?_
          try simp only [Act.put, pA, pB, pC]
          refine tu 7 (HE.out) ?_
          try simp only [Act.put, pA, pB, pC]
          refine tu 8 (HE.out) ?_
          try simp only [Act.put, pA, pB, pC]
          refine tu 9 (HE.out) ?_
          try simp only [Act.put, pA, pB, pC]
          refine tu 10 (HE.out) ?_
          try simp only [Act.put, pA, pB, pC]
          refine tu 11 (HE.out) ?_
          try simp only [Act.put, pA, pB, pC]
          refine tu 12 (HE.out) ?_
          try simp only [Act.put, pA, pB, pC]
          refine tu 13 (HE.out) ?_
          try simp only [Act.put, pA, pB, pC]
          refine tu 14 (HE.out) ?_
          try simp only [Act.put, pA, pB, pC]
          refine tk 15 (HE.out) ?_
          try simp only [Act.put, pA, pB, pC]
          refine tk 16 (HE.out) ?_
          try simp only [Act.put, pA, pB, pC]
          refine tk 17 (HE.out) ?_
          try simp only [Act.put, pA, pB, pC]
          refine tk 18 (HE.out) ?_
          try simp only [Act.put, pA, pB, pC]
          refine tk 19 (HE.out) ?_
          try simp only [Act.put, pA, pB, pC]
          refine tk 20 (HE.out) ?_
          try simp only [Act.put, pA, pB, pC]
          refine tu 21 (HE.out) ?_
          try simp only [Act.put, pA, pB, pC]
          refine tu 22 (HE.out) ?_
          try simp only [Act.put, pA, pB, pC]
          refine tu 23 (HE.out) ?_
          try simp only [Act.put, pA, pB, pC]
          refine tu 24 (HE.out) ?_
          try simp only [Act.put, pA, pB, pC]
          refine tu 25 (HE.out) ?_
          try simp only [Act.put, pA, pB, pC]
          refine tu 26 (HE.out) ?_
          try simp only [Act.put, pA, pB, pC]
          refine tu 27 (HE.out) ?_
          try simp only [Act.put, pA, pB, pC]
          refine tu 28 (HE.out) ?_
          try simp only [Act.put, pA, pB, pC]
          refine tu 29 (HE.out) ?_
          try simp only [Act.put, pA, pB, pC]
          refine tu 30 (HE.out) ?_
          try simp only [Act.put, pA, pB, pC]
          refine tu 31 (HE.out) ?_
          try simp only [Act.put, pA, pB, pC]
          refine tk 32 (HE.out) ?_
          try simp only [Act.put, pA, pB, pC]
          refine tk 33 (HE.out) ?_
          try simp only [Act.put, pA, pB, pC]
          refine wpAnyH_done (by kernel_rfl) ?_ _
          have HD := Lib.hid (HV4.out.1.drew)
          go_wp2
          go_roundw
          case rel => exact ⟨j + 1, by go_num, by have := HX.out.1; omega, HD⟩
          case measure => have := HX.out.1; simp [intOf]; omega
    · have q1 : ¬ (j : Int) < (n : Int) := by omega
      have r1 : (0 : Int) ≤ (x : Int) := by omega
      have hwn : IntKind.i64.wrap ((n : Int) + 2) = ((n + 2 : Nat) : Int) := by have := HN.out.2.2.1; rw [IntWalk.i64_in _ (by omega)]; omega
      obtain ⟨n2, hn2⟩ : ∃ n2, n2 = n + 2 := ⟨_, rfl⟩
      rw [← hn2] at hwn
      have r2 : (x : Int) < (n2 : Int) := by have := HN.out.2.2.2.2; omega
      have HBW := Lib.hid hbw
      clear hbw hj hjn hn2
      go_wp2
      go_ret
      exact ⟨rfl, HBW.out⟩
end Go.Proofs.Ytplmbmecjhmiiaa
