/- The document's ValidDiagram and Table, on diagrams of functions. -/
import Derived.Test.YtplmbmecjhmiiaaSafe6
import Derived.Test.YtplmbmecjhmiiaaOfP6
import Derived.Test.YtplmbmecjhmiiaaEqD6
namespace Go.Proofs.Ytplmbmecjhmiiaa
open Go Go.RowKit
/-- the table of f, filled before a; the object o at the first block behind w -/
structure TW (f : BF) (w : World) (o : Obj) (bt a : Nat) (V : World) : Prop where
  t : ∃ cur : Array Value, V.heap[bt]? = some (.cells cur 4 (0, 0)) ∧ cur.size = 4096 ∧ ∀ k, k < a → cur[k]? = some (.bool (f (sOf k)))
  r : V.heap[w.heap.size]? = some o
  b : Below w.heap.size w V
  lt : w.heap.size < bt ∧ bt < V.heap.size
theorem TW.old {f : BF} {w : World} {o : Obj} {bt a : Nat} {V V' : World} (h : TW f w o bt a V) (hb : Below V.heap.size V V') : TW f w o bt a V' := by
  obtain ⟨cur, h1, h2⟩ := h.t
  have := h.lt
  exact ⟨⟨cur, (hb.block _ (by omega)).trans h1, h2⟩, (hb.block _ (by omega)).trans h.r, h.b.trans (hb.mono (by omega)), by omega, Nat.lt_of_lt_of_le h.lt.2 hb.size⟩
theorem TW.at {f : BF} {w : World} {o : Obj} {bt a : Nat} {V : World} (h : TW f w o bt a V) (ha : a < 4096) : ∃ z, V.cell? ⟨bt, a, none⟩ = some z ∧ V.frozen? ⟨bt, a, none⟩ = false := by
  obtain ⟨cur, h1, h2, _⟩ := h.t
  exact ⟨cur[a], (Lib.cell_of_heap h1 a).trans (Array.getElem?_eq_getElem (by omega)), Lib.frozen_of_heap h1 a⟩
theorem TW.put {f : BF} {w : World} {o : Obj} {bt a : Nat} {V : World} (h : TW f w o bt a V) (ha : a < 4096) {z : Bool} (hz : z = f (sOf a)) : TW f w o bt (a + 1) (V.setCell ⟨bt, a, none⟩ (.bool z)) := by
  obtain ⟨cur, h1, h2, h3⟩ := h.t
  have hlt := h.lt
  refine ⟨⟨_, heap_setCell_same _ _ a _ _ (.bool z) h1, by simpa using h2, fun k hk => ?_⟩, (heap_setCell_other _ _ _ _ (show w.heap.size ≠ bt by omega)).trans h.r, h.b.setCell (p := ⟨bt, a, none⟩) (by show w.heap.size ≤ bt; omega) _, by simpa using hlt⟩
  by_cases e : k = a
  · subst e
    rw [Array.getElem?_setIfInBounds_self_of_lt (by omega), hz]
  · rw [Array.getElem?_setIfInBounds_ne (by omega)]; exact h3 k (by omega)
theorem TW.tbl {f : BF} {w : World} {o : Obj} {bt : Nat} {V : World} (h : TW f w o bt 4096 V) : Tbl V bt f := by
  obtain ⟨cur, h1, h2, h3⟩ := h.t
  exact ⟨cur, h1, h2, h3⟩
theorem TW.start {f : BF} {w V : World} {o : Obj} (hr : V.heap[w.heap.size]? = some o) (hb : Below w.heap.size w V) (hlt : w.heap.size < V.heap.size) : ∃ t0 : Array Value, (Instr.makeSlice 37 (.int .i64 4096) (.int .i64 4096)).run Try.prog V = .ok (.slice (some ⟨V.heap.size, 0, none⟩) 4096 4096) (V.alloc (.cells t0 4)) ∧ TW f w o V.heap.size 0 (V.alloc (.cells t0 4)) := by
  obtain ⟨i0, hi, hz0, hz1, hz2⟩ := info_parts Try.infoBool
  have hmk := run_makeSlice (P := Try.prog) V 37 4 i0 (.bool false) Try.underlying37 hi hz0 .i64 .i64 4096 4096 (by omega) (Int.le_refl _) (by rw [hz1]; decide) (by rw [hz2]; decide) (by decide)
  rw [hz1] at hmk
  refine ⟨madeCells (Value.bool false).cells ((4096 : Int).toNat * 1), hmk, ⟨⟨_, heap_alloc_new V _, ?_, fun k hk => absurd hk (by omega)⟩, (Below.heap_alloc _ _ _ hlt).trans hr, hb.alloc hb.size _, hlt, by simp⟩⟩
  rw [size_madeCells]; rfl
set_option maxRecDepth 100000 in
set_option maxHeartbeats 6400000 in
theorem validD_dia {f : BF} {v : Value} {w : World} (h : Dia f w w.heap.size v) : Calls Try.prog 11 #[v] w fun e w' => e = .returned (.bool true) ∧ Below w.heap.size w w' := by
  have HD := Lib.hid h
  obtain ⟨hf, A, c, rfl, hN⟩ := h
  obtain ⟨_, hG, hr, hF⟩ := can_ok hf Good_nil
  have hs := can_small hf
  have hO := hG.ord
  obtain ⟨W, hW⟩ : ∃ W, W = w.alloc (.cells #[.slice A (can f []).1.length c, .int .i64 (can f []).2] 24) := ⟨_, rfl⟩
  have hb : Below w.heap.size w W := by rw [hW]; exact (Below.refl _ _).alloc (Nat.le_refl _) _
  have hz : W.heap.size = w.heap.size + 1 := by rw [hW]; simp
  have kd : W.heap[w.heap.size]? = some (.cells #[.slice A (can f []).1.length c, .int .i64 (can f []).2] 24 (0, 0)) := by rw [hW]; exact heap_alloc_new w _
  have hsafe := safe_ord A _ c (can f []).1 (can f []).2 W ((hN.on hb).up fun b hh => by omega) rfl (by omega) hO hr
  obtain ⟨d0, d1⟩ := cells2 kd
  rw [hW] at d0 d1
  have HF := Lib.hid hf
  have HDV : Hid (∀ V, Below w.heap.size w V → Dia f V V.heap.size (.agg #[.slice A (can f []).1.length c, .int .i64 (can f []).2])) := Lib.hid fun V hV => HD.out.on hV hV.size
  generalize (can f []).1 = us at *
  generalize (can f []).2 = x at *
  obtain ⟨n, hn⟩ : ∃ n, n = us.length := ⟨_, rfl⟩
  rw [← hn] at hN hr hs hW kd hsafe d0 d1 HDV ⊢
  have HN := Lib.hid (And.intro hN (And.intro hn.symm (And.intro (show n ≤ 100000 by omega) (And.intro hO (And.intro hr hF)))))
  have HW := Lib.hid (And.intro hb (And.intro hz kd))
  clear hN hO hr hs hb hz kd hf hG hn hF HD
  go_enter Try.func11, Try.ntmps11
  go_wp2_with fail
  rw [← hW]
  clear hW d0 d1
  refine hsafe.mono ?_
  rintro e w1 ⟨rfl, hb1⟩
  obtain ⟨hb, hz, kd⟩ := HW.out
  have kd1 := (hb1.block _ (by omega)).trans kd
  obtain ⟨t0, hmk, hT0⟩ := TW.start (f := f) kd1 (hb.trans (hb1.mono hb.size)) (lt_of_heap kd1)
  have HT0 := Lib.hid hT0
  generalize w1.heap.size = bt at *
  clear hsafe hb1 hb hz kd kd1 hT0
  go_wp2_with fail
  clear hmk
  go_loopw [4] (fun s wr => ∃ a : Nat, s = .int .i64 a ∧ a ≤ 4096 ∧ Hid (TW f w (.cells #[.slice A n c, .int .i64 x] 24 (0, 0)) bt a wr)) (fun s _ => 4096 - (intOf s).toNat)
  case atStart => exact ⟨0, rfl, by omega, HT0⟩
  case round =>
    obtain ⟨a, rfl, ha, hT⟩ := hrel
    by_cases ha4 : a < 4096
    · have kna : (a : Int) < 4096 := by omega
      have k0a : (0 : Int) ≤ (a : Int) := by omega
      have hwa : IntKind.i64.wrap ((a : Int) + 1) = ((a + 1 : Nat) : Int) := by rw [IntWalk.i64_in _ (by omega)]; omega
      have hwu : IntKind.u64.wrap (a : Int) = (a : Int) := by rw [IntKind.wrap_u64]; omega
      obtain ⟨y0, y1⟩ := cells2 hT.out.r
      have hsz := hT.out.b.size
      have hcall := walkD_any A n c us x a (by omega) _ ((HN.out.1.on hT.out.b).up fun b hb => by omega) HN.out.2.1 HN.out.2.2.1 HN.out.2.2.2.1 HN.out.2.2.2.2.1
      rw [HN.out.2.2.2.2.2] at hcall
      have HCALL := Lib.hid hcall
      have HA4 := Lib.hid ha4
      clear hcall ha ha4 hsz
      go_wp2_with fail
      clear y0 y1
      refine HCALL.out.mono ?_
      rintro e V' ⟨rfl, hb'⟩
      have hT' := hT.out.old hb'
      obtain ⟨z9, c0, z0⟩ := hT'.at HA4.out
      have HT2 := Lib.hid (hT'.put HA4.out (z := f (sOf a)) rfl)
      clear hT' hb'
      go_wp2
      go_roundw
      case rel => exact ⟨a + 1, by go_num, by have := HA4.out; omega, HT2⟩
      case measure => have := HA4.out; simp [intOf]; omega
    · have q1 : ¬ (a : Int) < 4096 := by omega
      have hTF : TW f w (.cells #[.slice A n c, .int .i64 x] 24 (0, 0)) bt 4096 _ := (show a = 4096 by omega) ▸ hT.out
      have HTF := Lib.hid hTF
      clear hTF ha ha4
      have HB0 : Hid (TW f w (.cells #[.slice A n c, .int .i64 x] 24 (0, 0)) bt 4096 _) := Lib.hid (HTF.out.old (Below.refl _ _).drew)
      go_wp2_with fail
      obtain ⟨y0, y1⟩ := cells2 HB0.out.r
      refine wp_region_held_drew (S := fun V => V.cell? ⟨w.heap.size, 0, none⟩ = some (.slice A n c) ∧ V.cell? ⟨w.heap.size, 1, none⟩ = some (.int .i64 x)) (by kernel_rfl) ⟨y0, y1⟩ (fun _ => ?_)
      refine tk 0 (⟨y0, y1⟩) ?_
      try simp only [Act.put, pA, pB, pC]
      refine tk 2 (⟨y0, y1⟩) ?_
      try simp only [Act.put, pA, pB, pC]
      refine one_op 1 (by kernel_rfl) rfl (by rfl) (fun K hK => ?_)
      go_simp
      refine (ofTable_any bt 4096 f HF.out _ HB0.out.tbl).mono ?_
      rintro e V1 ⟨v1, rfl, hd1, hb1⟩
      have HT1 := Lib.hid (HB0.out.old hb1)
      have HD1 := Lib.hid hd1
      clear hd1 hb1 y0 y1
      refine hK _ _ (cells2 HT1.out.r) ?_
      try simp only [Act.put, pA, pB, pC]
      clear hK K
      refine one_op 3 (by kernel_rfl) rfl (by rfl) (fun K hK => ?_)
      go_simp
      refine (equalD_dia HD1.out (HDV.out _ HT1.out.b) true ⟨fun _ => rfl, fun _ => rfl⟩).mono ?_
      rintro e V2 ⟨rfl, hb2⟩
      have HT2 := Lib.hid (HT1.out.old hb2)
      clear hb2
      refine hK _ _ (cells2 HT2.out.r) ?_
      try simp only [Act.put, pA, pB, pC]
      clear hK K
      refine tk 4 (cells2 HT2.out.r) ?_
      try simp only [Act.put, pA, pB, pC]
      refine wpAnyH_done (by kernel_rfl) ?_ _
      have HZ := Lib.hid HT2.out.b
      go_wp2
      go_ret
      exact ⟨rfl, HZ.out⟩
set_option maxRecDepth 100000 in
set_option maxHeartbeats 6400000 in
theorem table_dia {f : BF} {v : Value} {w : World} (h : Dia f w w.heap.size v) : Calls Try.prog 16 #[v] w fun e w' => ∃ bt, e = .returned (.slice (some ⟨bt, 0, none⟩) 4096 4096) ∧ Tbl w' bt f ∧ Below w.heap.size w w' := by
  have HD := Lib.hid h
  obtain ⟨hf, A, c, rfl, hN⟩ := h
  obtain ⟨_, hG, hr, hF⟩ := can_ok hf Good_nil
  have hs := can_small hf
  have hO := hG.ord
  obtain ⟨W, hW⟩ : ∃ W, W = w.alloc (.cells #[.slice A (can f []).1.length c, .int .i64 (can f []).2] 24) := ⟨_, rfl⟩
  have hb : Below w.heap.size w W := by rw [hW]; exact (Below.refl _ _).alloc (Nat.le_refl _) _
  have hz : W.heap.size = w.heap.size + 1 := by rw [hW]; simp
  have kd : W.heap[w.heap.size]? = some (.cells #[.slice A (can f []).1.length c, .int .i64 (can f []).2] 24 (0, 0)) := by rw [hW]; exact heap_alloc_new w _
  obtain ⟨t0, hmk, hT0⟩ := TW.start (f := f) kd hb (lt_of_heap kd)
  have hval : Calls Try.prog 11 #[.agg #[.slice A (can f []).1.length c, .int .i64 (can f []).2]] (W.alloc (.cells t0 4)) fun e w' => e = .returned (.bool true) ∧ Below (W.alloc (.cells t0 4)).heap.size (W.alloc (.cells t0 4)) w' := validD_dia (HD.out.on hT0.b hT0.b.size)
  obtain ⟨d0, d1⟩ := cells2 kd
  rw [hW] at d0 d1
  have HF := Lib.hid hf
  have HDV : Hid (∀ V, Below w.heap.size w V → Dia f V V.heap.size (.agg #[.slice A (can f []).1.length c, .int .i64 (can f []).2])) := Lib.hid fun V hV => HD.out.on hV hV.size
  generalize (can f []).1 = us at *
  generalize (can f []).2 = x at *
  obtain ⟨n, hn⟩ : ∃ n, n = us.length := ⟨_, rfl⟩
  rw [← hn] at hN hr hs hW kd hval hT0 d0 d1 HDV ⊢
  have HN := Lib.hid (And.intro hN (And.intro hn.symm (And.intro (show n ≤ 100000 by omega) (And.intro hO (And.intro hr hF)))))
  have HW := Lib.hid (And.intro hb (And.intro hz kd))
  clear hN hO hr hs hb hz kd hf hG hn hF HD
  obtain ⟨W2, hW2⟩ : ∃ W2, W2 = W.alloc (.cells t0 4) := ⟨_, rfl⟩
  obtain ⟨bt, hbt⟩ : ∃ bt, bt = W.heap.size := ⟨_, rfl⟩
  rw [← hW2] at hval hT0 hmk
  rw [← hbt] at hT0 hmk
  have HT0' := Lib.hid hT0
  obtain ⟨e0, e1⟩ := cells2 hT0.r
  rw [hW] at hmk
  have HVAL := Lib.hid hval
  clear hT0 hval hW2 hbt HW d0 d1
  go_enter Try.func16, Try.ntmps16
  go_wp2_with fail
  clear hmk e0 e1 hW
  refine HVAL.out.mono ?_
  rintro e w1 ⟨rfl, hb1⟩
  have HT0 := Lib.hid (HT0'.out.old hb1)
  clear hb1 HT0' HVAL
  go_wp2_with fail
  go_loopw [4] (fun s wr => ∃ a : Nat, s = .int .i64 a ∧ a ≤ 4096 ∧ Hid (TW f w (.cells #[.slice A n c, .int .i64 x] 24 (0, 0)) bt a wr)) (fun s _ => 4096 - (intOf s).toNat)
  case atStart => exact ⟨0, rfl, by omega, HT0⟩
  case round =>
    obtain ⟨a, rfl, ha, hT⟩ := hrel
    by_cases ha4 : a < 4096
    · have kna : (a : Int) < 4096 := by omega
      have k0a : (0 : Int) ≤ (a : Int) := by omega
      have hwa : IntKind.i64.wrap ((a : Int) + 1) = ((a + 1 : Nat) : Int) := by rw [IntWalk.i64_in _ (by omega)]; omega
      have hwu : IntKind.u64.wrap (a : Int) = (a : Int) := by rw [IntKind.wrap_u64]; omega
      obtain ⟨y0, y1⟩ := cells2 hT.out.r
      have hsz := hT.out.b.size
      have hcall := walkD_any A n c us x a (by omega) _ ((HN.out.1.on hT.out.b).up fun b hb => by omega) HN.out.2.1 HN.out.2.2.1 HN.out.2.2.2.1 HN.out.2.2.2.2.1
      rw [HN.out.2.2.2.2.2] at hcall
      have HCALL := Lib.hid hcall
      have HA4 := Lib.hid ha4
      clear hcall ha ha4 hsz
      go_wp2_with fail
      clear y0 y1
      refine HCALL.out.mono ?_
      rintro e V' ⟨rfl, hb'⟩
      have hT' := hT.out.old hb'
      obtain ⟨z9, c0, z0⟩ := hT'.at HA4.out
      have HT2 := Lib.hid (hT'.put HA4.out (z := f (sOf a)) rfl)
      clear hT' hb'
      go_wp2
      go_roundw
      case rel => exact ⟨a + 1, by go_num, by have := HA4.out; omega, HT2⟩
      case measure => have := HA4.out; simp [intOf]; omega
    · have q1 : ¬ (a : Int) < 4096 := by omega
      have hTF : TW f w (.cells #[.slice A n c, .int .i64 x] 24 (0, 0)) bt 4096 _ := (show a = 4096 by omega) ▸ hT.out
      have HTF := Lib.hid hTF
      clear hTF ha ha4
      go_wp2
      go_ret
      exact ⟨bt, rfl, HTF.out.tbl, HTF.out.b⟩
end Go.Proofs.Ytplmbmecjhmiiaa
