/- The document's ValidDiagram on any diagram, and the program's Valid beside it. -/
import Derived.Test.YtplmbmecjhmiiaaVD6
import Derived.Test.YtplmbmecjhmiiaaSafeA6
import Derived.Test.YtplmbmecjhmiiaaVal6
namespace Go.Proofs.Ytplmbmecjhmiiaa
open Go Go.RowKit
theorem equalD_gen {f : BF} {v1 : Value} {w : World} {A2 : Option Addr} {n c2 x : Nat} {us : List Nd} (h1 : Dia f w w.heap.size v1) (N2 : NdR w (fun b => b < w.heap.size) A2 n c2 (us.map ni)) (hn : us.length = n) :
    Calls Try.prog 17 #[v1, .agg #[.slice A2 n c2, .int .i64 x]] w fun e w' => e = .returned (.bool (decide ((can f []).2 = x) && decide ((can f []).1 = us))) ∧ Below w.heap.size w w' := by
  obtain ⟨hf, A1, c1, rfl, N1⟩ := h1
  have s1 := can_small hf
  by_cases hq : (can f []).2 = x ∧ (can f []).1.length = n
  · obtain ⟨q1, q2⟩ := hq
    rw [q2] at N1 s1 ⊢
    rw [q1, decide_eq_true rfl, Bool.true_and]
    refine (equalD_same A1 A2 _ c1 c2 _ _ (x : Int) w N1 N2 (by omega)).mono ?_
    rintro e w' ⟨rfl, h⟩
    refine ⟨rb6 ?_, h⟩
    rw [decide_eq_decide]
    exact ⟨fun h => ni_map_inj' h, fun h => by rw [h]⟩
  · have hb : (decide ((can f []).2 = x) && decide ((can f []).1 = us)) = false := by
      cases hh : (decide ((can f []).2 = x) && decide ((can f []).1 = us))
      · rfl
      · rw [Bool.and_eq_true, decide_eq_true_eq, decide_eq_true_eq] at hh
        exact absurd ⟨hh.1, by rw [hh.2]; exact hn⟩ hq
    rw [hb]
    refine equalD_not A1 A2 _ c1 _ c2 _ _ w ?_
    by_cases h : (can f []).2 = x
    · exact .inr fun e => hq ⟨h, e⟩
    · exact .inl (by omega)
set_option maxRecDepth 100000 in
set_option maxHeartbeats 6400000 in
theorem validD_ord (A : Option Addr) (n c : Nat) (us : List Nd) (x : Nat) (w : World) (hN : NdR w (fun b => b < w.heap.size) A n c (us.map ni)) (hn0 : us.length = n) (hs : n ≤ 100000) (hO : Ord us) (hr : x < n + 2) :
    Calls Try.prog 11 #[.agg #[.slice A n c, .int .i64 x]] w fun e w' => e = .returned (.bool (same6 us x)) ∧ Below w.heap.size w w' := by
  obtain ⟨f, hFe⟩ : ∃ f, f = F us x := ⟨_, rfl⟩
  have hf : F12 f := by rw [hFe]; exact F12_F hO (by omega)
  obtain ⟨W, hW⟩ : ∃ W, W = w.alloc (.cells #[.slice A n c, .int .i64 x] 24) := ⟨_, rfl⟩
  have hb : Below w.heap.size w W := by rw [hW]; exact (Below.refl _ _).alloc (Nat.le_refl _) _
  have hz : W.heap.size = w.heap.size + 1 := by rw [hW]; simp
  have kd : W.heap[w.heap.size]? = some (.cells #[.slice A n c, .int .i64 x] 24 (0, 0)) := by rw [hW]; exact heap_alloc_new w _
  have hsafe := safe_ord A _ c us x W ((hN.on hb).up fun b hh => by omega) hn0 (by omega) hO hr
  obtain ⟨d0, d1⟩ := cells2 kd
  rw [hW] at d0 d1
  have HF := Lib.hid hf
  have HDV : Hid (∀ V v', Below w.heap.size w V → Dia f V V.heap.size v' → Calls Try.prog 17 #[v', .agg #[.slice A n c, .int .i64 x]] V fun e w' => e = .returned (.bool (same6 us x)) ∧ Below V.heap.size V w') := Lib.hid fun V v' hV hD => by
    rw [hFe] at hD
    exact equalD_gen hD ((hN.on hV).up fun b hb => by have := hV.size; omega) hn0
  generalize same6 us x = res at *
  have HN := Lib.hid (And.intro hN (And.intro hn0 (And.intro (show n ≤ 100000 by omega) (And.intro hO (And.intro hr hFe.symm)))))
  have HW := Lib.hid (And.intro hb (And.intro hz kd))
  clear hN hO hr hs hb hz kd hf hn0 hFe
  go_enter Try.func11, Try.ntmps11
  go_wp2_with fail
  rw [← hW]
  clear hW d0 d1
  refine hsafe.mono ?_
  rintro e w1 ⟨rfl, hb1⟩
  obtain ⟨hb, hz, kd⟩ := HW.out
  have kd1 := (hb1.block _ (by omega)).trans kd
  obtain ⟨t0, hmk, hT0⟩ := TW.start (f := f) kd1 (hb.trans (hb1.mono hb.size)) (lt_of_heap kd1)
  have HT0 := Lib.hid hT0
  generalize w1.heap.size = bt at *
  clear hsafe hb1 hb hz kd kd1 hT0
  go_wp2_with fail
  clear hmk
  go_loopw [4] (fun s wr => ∃ a : Nat, s = .int .i64 a ∧ a ≤ 4096 ∧ Hid (TW f w (.cells #[.slice A n c, .int .i64 x] 24 (0, 0)) bt a wr)) (fun s _ => 4096 - (intOf s).toNat)
  case atStart => exact ⟨0, rfl, by omega, HT0⟩
  case round =>
    obtain ⟨a, rfl, ha, hT⟩ := hrel
    by_cases ha4 : a < 4096
    · have kna : (a : Int) < 4096 := by omega
      have k0a : (0 : Int) ≤ (a : Int) := by omega
      have hwa : IntKind.i64.wrap ((a : Int) + 1) = ((a + 1 : Nat) : Int) := by rw [IntWalk.i64_in _ (by omega)]; omega
      have hwu : IntKind.u64.wrap (a : Int) = (a : Int) := by rw [IntKind.wrap_u64]; omega
      obtain ⟨y0, y1⟩ := cells2 hT.out.r
      have hsz := hT.out.b.size
      have hcall := walkD_any A n c us x a (by omega) _ ((HN.out.1.on hT.out.b).up fun b hb => by omega) HN.out.2.1 HN.out.2.2.1 HN.out.2.2.2.1 HN.out.2.2.2.2.1
      rw [HN.out.2.2.2.2.2] at hcall
      have HCALL := Lib.hid hcall
      have HA4 := Lib.hid ha4
      clear hcall ha ha4 hsz
      go_wp2_with fail
      clear y0 y1
      refine HCALL.out.mono ?_
      rintro e V' ⟨rfl, hb'⟩
      have hT' := hT.out.old hb'
      obtain ⟨z9, c0, z0⟩ := hT'.at HA4.out
      have HT2 := Lib.hid (hT'.put HA4.out (z := f (sOf a)) rfl)
      clear hT' hb'
      go_wp2
      go_roundw
      case rel => exact ⟨a + 1, by go_num, by have := HA4.out; omega, HT2⟩
      case measure => have := HA4.out; simp [intOf]; omega
    · have q1 : ¬ (a : Int) < 4096 := by omega
      have hTF : TW f w (.cells #[.slice A n c, .int .i64 x] 24 (0, 0)) bt 4096 _ := (show a = 4096 by omega) ▸ hT.out
      have HTF := Lib.hid hTF
      clear hTF ha ha4
      have HB0 : Hid (TW f w (.cells #[.slice A n c, .int .i64 x] 24 (0, 0)) bt 4096 _) := Lib.hid (HTF.out.old (Below.refl _ _).drew)
      go_wp2_with fail
      obtain ⟨y0, y1⟩ := cells2 HB0.out.r
      refine wp_region_held_drew (S := fun V => V.cell? ⟨w.heap.size, 0, none⟩ = some (.slice A n c) ∧ V.cell? ⟨w.heap.size, 1, none⟩ = some (.int .i64 x)) (by kernel_rfl) ⟨y0, y1⟩ (fun _ => ?_)
      refine tk 0 (⟨y0, y1⟩) ?_
      try simp only [Act.put, pA, pB, pC]
      refine tk 2 (⟨y0, y1⟩) ?_
      try simp only [Act.put, pA, pB, pC]
      refine one_op 1 (by kernel_rfl) rfl (by rfl) (fun K hK => ?_)
      go_simp
      refine (ofTable_any bt 4096 f HF.out _ HB0.out.tbl).mono ?_
      rintro e V1 ⟨v1, rfl, hd1, hb1⟩
      have HT1 := Lib.hid (HB0.out.old hb1)
      have HD1 := Lib.hid hd1
      clear hd1 hb1 y0 y1
      refine hK _ _ (cells2 HT1.out.r) ?_
      try simp only [Act.put, pA, pB, pC]
      clear hK K
      refine one_op 3 (by kernel_rfl) rfl (by rfl) (fun K hK => ?_)
      go_simp
      refine (HDV.out _ _ HT1.out.b HD1.out).mono ?_
      rintro e V2 ⟨rfl, hb2⟩
      have HT2 := Lib.hid (HT1.out.old hb2)
      clear hb2
      refine hK _ _ (cells2 HT2.out.r) ?_
      try simp only [Act.put, pA, pB, pC]
      clear hK K
      refine tk 4 (cells2 HT2.out.r) ?_
      try simp only [Act.put, pA, pB, pC]
      refine wpAnyH_done (by kernel_rfl) ?_ _
      have HZ := Lib.hid HT2.out.b
      go_wp2
      go_ret
      exact ⟨rfl, HZ.out⟩
theorem validD_not (A : Option Addr) (n c : Nat) (is : List (Int × Int × Int)) (q : Int) (w : World) (h : NdR w (fun b => b < w.heap.size) A n c is) (hn : n ≤ 100000) (hO : ordI is q = false) :
    Calls Try.prog 11 #[.agg #[.slice A n c, .int .i64 q]] w fun e w' => e = .returned (.bool false) ∧ Below w.heap.size w w' := by
  obtain ⟨W, hW⟩ : ∃ W, W = w.alloc (.cells #[.slice A n c, .int .i64 q] 24) := ⟨_, rfl⟩
  have hb : Below w.heap.size w W := by rw [hW]; exact (Below.refl _ _).alloc (Nat.le_refl _) _
  have k5 : W.heap[w.heap.size]? = some (.cells #[.slice A n c, .int .i64 q] 24 (0, 0)) := by rw [hW]; exact heap_alloc_new w _
  have hord := safe_any A n c is q W ((h.on hb).up fun b hh => by have := hb.size; omega) hn
  rw [hO] at hord
  obtain ⟨a0, a1⟩ := cells2 k5
  rw [hW] at a0 a1
  have HB := Lib.hid hb
  clear h hn hO hb k5
  go_enter Try.func11, Try.ntmps11
  go_wp2_with fail
  rw [← hW]
  clear hW a0 a1
  refine hord.mono ?_
  rintro e w1 ⟨rfl, hb1⟩
  have HB1 := Lib.hid (HB.out.trans (hb1.mono HB.out.size))
  clear hord hb1
  go_wp2
  go_ret
  exact ⟨rfl, HB1.out⟩
/-- the program's Valid and the document's answer alike, whatever the diagram -/
theorem valid_both (is : List (Int × Int × Int)) (q : Int) : ∃ b : Bool, ∀ (A : Option Addr) (n c : Nat) (w : World), NdR w (fun b => b < w.heap.size) A n c is → n ≤ 100000 →
    (Calls Try.prog 10 #[.agg #[.slice A n c, .int .i64 q]] w fun e w' => e = .returned (.bool b) ∧ Below w.heap.size w w') ∧
    (Calls Try.prog 11 #[.agg #[.slice A n c, .int .i64 q]] w fun e w' => e = .returned (.bool b) ∧ Below w.heap.size w w') := by
  cases hO : ordI is q
  · exact ⟨false, fun A n c w h hn => ⟨valid_not A n c is q w h (by omega) hO, validD_not A n c is q w h hn hO⟩⟩
  · obtain ⟨us, x, rfl, hOr, rfl, hx⟩ := ord_of_ordI hO
    refine ⟨same6 us x, fun A n c w h hn => ?_⟩
    have hl : us.length = n := by have := h.1; rwa [List.length_map] at this
    exact ⟨valid_ord A n c us x w h hl hn hOr (by omega), validD_ord A n c us x w h hl hn hOr (by omega)⟩
end Go.Proofs.Ytplmbmecjhmiiaa
