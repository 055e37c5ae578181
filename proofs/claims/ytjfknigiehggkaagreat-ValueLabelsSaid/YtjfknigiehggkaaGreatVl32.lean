/- Unlabel of the program: the value without labels, in memory of the call's own. -/
import Derived.Test.YtjfknigiehggkaaGreatVl00
import Derived.Test.YtjfknigiehggkaaGreatVl31
namespace Go.Proofs.YtjfknigiehggkaaGreat
open Go Go.RowKit
set_option maxRecDepth 100000 in
set_option maxHeartbeats 3200000 in
theorem unlE_any (k : Nat) (hC : Hid (∀ (v : Vl) (cs : List Value) (w : World), VS k w w.heap.size v cs → sml v → Calls Tryz.prog 34 #[.agg cs.toArray] w fun e w' => ∃ cs', e = .returned (.agg cs'.toArray) ∧ VB k w' (Btw w.heap.size w'.heap.size) (unl v) cs' ∧ Below w.heap.size w w'))
    (e : En) (cs : List Value) (w : World) (h : ES k w w.heap.size e cs) (hs : smlE e) :
    Calls Tryz.prog 77 #[.agg cs.toArray] w fun r w' => ∃ cs', r = .returned (.agg cs'.toArray) ∧ EB k w' (Btw w.heap.size w'.heap.size) (unlE e) cs' ∧ Below w.heap.size w w' := by
  have eg := enters_of Tryz.func34 (by kernel_rfl) rfl
  obtain ⟨args, fl, r, rfl, ua, rs, rfl, hl, hr⟩ := h
  obtain ⟨A, cap, rfl, hal⟩ := hl.form
  obtain ⟨a, i, s, B1, n1, d1, B2, n2, d2, B3, n3, d3, B4, n4, d4, rfl⟩ := hr.form7
  unfold smlE at hs
  obtain ⟨hn, hsa, hsr⟩ := hs
  unfold maxLen at hal
  obtain ⟨W, hW⟩ : ∃ W, W = (w.alloc (.cells #[.slice A args.length cap, .bool fl, .int .i64 a, .int .i64 i, .string s, .slice B1 n1 d1, .slice B2 n2 d2, .slice B3 n3 d3, .slice B4 n4 d4] 55)).alloc (.cells #[.slice none 0 0, .bool false, .int .i64 0, .int .i64 0, .string ⟨#[]⟩, .slice none 0 0, .slice none 0 0, .slice none 0 0, .slice none 0 0] 55) := ⟨_, rfl⟩
  have hb : Below w.heap.size w W := by rw [hW]; exact ((Below.refl _ _).alloc (Nat.le_refl _) _).alloc (by simp) _
  have hz : W.heap.size = w.heap.size + 2 := by rw [hW]; simp
  have k1 : W.heap[w.heap.size]? = some (.cells #[.slice A args.length cap, .bool fl, .int .i64 a, .int .i64 i, .string s, .slice B1 n1 d1, .slice B2 n2 d2, .slice B3 n3 d3, .slice B4 n4 d4] 55 (0, 0)) := by
    rw [hW, Below.heap_alloc _ _ _ (by simp)]
    exact heap_alloc_new w _
  have k2 : W.heap[w.heap.size + 1]? = some (.cells #[.slice none 0 0, .bool false, .int .i64 0, .int .i64 0, .string ⟨#[]⟩, .slice none 0 0, .slice none 0 0, .slice none 0 0, .slice none 0 0] 55 (0, 0)) := by
    rw [hW]
    exact new_at' _ (by simp)
  have HA : Hid (∀ V, Below w.heap.size w V → Calls Tryz.prog 44 #[.slice A args.length cap, .func (.func 34) #[] #[]] V fun e w' => ∃ u, e = .returned u ∧ RowB w' (Btw V.heap.size w'.heap.size) 7 u args.length (fun j cs => ∃ x, args[j]? = some x ∧ VB k w' (Btw V.heap.size w'.heap.size) (unl x) cs) ∧ Below V.heap.size V w') := Lib.hid fun V hV => each7 k _ eg unl hC A cap args V ((hl.on hV fun _ _ ⟨x, h1, h2⟩ => ⟨x, h1, VS.up hV.size (Nat.le_refl _) (VS.on hV h2)⟩).mono hV.size fun _ _ h => h) hn hsa
  have HR : Hid (∀ V, Below w.heap.size w V → Calls Tryz.prog 34 #[.agg #[.int .i64 a, .int .i64 i, .string s, .slice B1 n1 d1, .slice B2 n2 d2, .slice B3 n3 d3, .slice B4 n4 d4]] V fun e w' => ∃ cs', e = .returned (.agg cs'.toArray) ∧ VB k w' (Btw V.heap.size w'.heap.size) (unl r) cs' ∧ Below V.heap.size V w') := Lib.hid fun V hV => hC.out r _ V (VS.up hV.size (Nat.le_refl _) (VS.on hV hr)) hsr
  have HB := Lib.hid hb
  have hHK : ∀ wq, Below W.heap.size W wq → wq.cell? ⟨w.heap.size, 0, none⟩ = some (.slice A args.length cap) ∧ wq.cell? ⟨w.heap.size, 1, none⟩ = some (.bool fl) ∧ wq.cell? ⟨w.heap.size, 2, none⟩ = some (.int .i64 a) ∧ wq.cell? ⟨w.heap.size, 3, none⟩ = some (.int .i64 i) ∧ wq.cell? ⟨w.heap.size, 4, none⟩ = some (.string s) ∧ wq.cell? ⟨w.heap.size, 5, none⟩ = some (.slice B1 n1 d1) ∧ wq.cell? ⟨w.heap.size, 6, none⟩ = some (.slice B2 n2 d2) ∧ wq.cell? ⟨w.heap.size, 7, none⟩ = some (.slice B3 n3 d3) ∧ wq.cell? ⟨w.heap.size, 8, none⟩ = some (.slice B4 n4 d4) := fun wq h => ⟨(h.cell (p := ⟨_, 0, none⟩) (by show w.heap.size < _; omega)).trans ((Lib.cell_of_heap k1 0).trans rfl), (h.cell (p := ⟨_, 1, none⟩) (by show w.heap.size < _; omega)).trans ((Lib.cell_of_heap k1 1).trans rfl), (h.cell (p := ⟨_, 2, none⟩) (by show w.heap.size < _; omega)).trans ((Lib.cell_of_heap k1 2).trans rfl), (h.cell (p := ⟨_, 3, none⟩) (by show w.heap.size < _; omega)).trans ((Lib.cell_of_heap k1 3).trans rfl), (h.cell (p := ⟨_, 4, none⟩) (by show w.heap.size < _; omega)).trans ((Lib.cell_of_heap k1 4).trans rfl), (h.cell (p := ⟨_, 5, none⟩) (by show w.heap.size < _; omega)).trans ((Lib.cell_of_heap k1 5).trans rfl), (h.cell (p := ⟨_, 6, none⟩) (by show w.heap.size < _; omega)).trans ((Lib.cell_of_heap k1 6).trans rfl), (h.cell (p := ⟨_, 7, none⟩) (by show w.heap.size < _; omega)).trans ((Lib.cell_of_heap k1 7).trans rfl), (h.cell (p := ⟨_, 8, none⟩) (by show w.heap.size < _; omega)).trans ((Lib.cell_of_heap k1 8).trans rfl)⟩
  have HK := Lib.hid hHK
  have hK2 : ∀ wq, Below W.heap.size W wq → wq.heap[w.heap.size + 1]? = some (.cells #[.slice none 0 0, .bool false, .int .i64 0, .int .i64 0, .string ⟨#[]⟩, .slice none 0 0, .slice none 0 0, .slice none 0 0, .slice none 0 0] 55 (0, 0)) := fun wq h => (h.block _ (by omega)).trans k2
  have HK2 := Lib.hid hK2
  have HZ := Lib.hid hz
  clear hl hr hn hsa hsr hb k1 k2 hHK hK2 hz
  go_enter Tryz.func77, Tryz.ntmps77
  go_wp2_with fail
  rw [← hW]
  clear hW
  refine wp_region_held_drew (S := fun wq => wq.cell? ⟨w.heap.size, 0, none⟩ = some (.slice A args.length cap) ∧ wq.cell? ⟨w.heap.size, 1, none⟩ = some (.bool fl) ∧ wq.cell? ⟨w.heap.size, 2, none⟩ = some (.int .i64 a) ∧ wq.cell? ⟨w.heap.size, 3, none⟩ = some (.int .i64 i) ∧ wq.cell? ⟨w.heap.size, 4, none⟩ = some (.string s) ∧ wq.cell? ⟨w.heap.size, 5, none⟩ = some (.slice B1 n1 d1) ∧ wq.cell? ⟨w.heap.size, 6, none⟩ = some (.slice B2 n2 d2) ∧ wq.cell? ⟨w.heap.size, 7, none⟩ = some (.slice B3 n3 d3) ∧ wq.cell? ⟨w.heap.size, 8, none⟩ = some (.slice B4 n4 d4)) (by kernel_rfl) (HK.out _ (Below.refl _ _).drew) (fun _ => ?_)
  have hB9 : Below W.heap.size W W.drew := (Below.refl _ _).drew
  refine tk 0 (HK.out _ hB9) ?_
  try simp only [Act.put, pA, pB, pC]
  refine tk 1 (HK.out _ hB9) ?_
  try simp only [Act.put, pA, pB, pC]
  refine tk 3 (HK.out _ hB9) ?_
  try simp only [Act.put, pA, pB, pC]
  refine tk 4 (HK.out _ hB9) ?_
  try simp only [Act.put, pA, pB, pC]
  refine tk 5 (HK.out _ hB9) ?_
  try simp only [Act.put, pA, pB, pC]
  refine tk 6 (HK.out _ hB9) ?_
  try simp only [Act.put, pA, pB, pC]
  refine one_op 2 (by kernel_rfl) rfl (by rfl) (fun K hK => ?_)
  go_simp
  refine (HA.out _ (HB.out.trans (hB9.mono HB.out.size))).mono ?_
  rintro e w10 ⟨u, rfl, hr10, hb10⟩
  obtain ⟨A10, c10, rfl, _⟩ := hr10.form
  have hB10 : Below W.heap.size W w10 := step_below hB9 (Nat.le_refl _) hb10
  refine hK _ _ (HK.out _ hB10) ?_
  try simp only [Act.put, pA, pB, pC]
  clear hK K
  refine one_op 7 (by kernel_rfl) rfl (by rfl) (fun K hK => ?_)
  go_simp
  refine (HR.out _ (HB.out.trans (hB10.mono HB.out.size))).mono ?_
  rintro e w11 ⟨cs', rfl, hv11, hb11⟩
  obtain ⟨a', i', s', B1', n1', d1', B2', n2', d2', B3', n3', d3', B4', n4', d4', rfl⟩ := hv11.form7
  have hB11 : Below W.heap.size W w11 := step_below hB10 (Nat.le_refl _) hb11
  refine hK _ _ (HK.out _ hB11) ?_
  try simp only [Act.put, pA, pB, pC]
  clear hK K
  refine tk 8 (HK.out _ hB11) ?_
  try simp only [Act.put, pA, pB, pC]
  have ho : ∀ i, w11.cell? ⟨w.heap.size + 1, i, none⟩ = (#[.slice none 0 0, .bool false, .int .i64 0, .int .i64 0, .string ⟨#[]⟩, .slice none 0 0, .slice none 0 0, .slice none 0 0, .slice none 0 0] : Array Value)[i]? := fun i => Lib.cell_of_heap (HK2.out _ hB11) i
  have hfz : ∀ i, w11.frozen? ⟨w.heap.size + 1, i, none⟩ = false := fun i => Lib.frozen_of_heap (HK2.out _ hB11) i
  have s0 := (ho 0).trans rfl
  have z0 := hfz 0
  have s1 := (ho 1).trans rfl
  have z1 := hfz 1
  have s2 := (ho 2).trans rfl
  have z2 := hfz 2
  have s3 := (ho 3).trans rfl
  have z3 := hfz 3
  have s4 := (ho 4).trans rfl
  have z4 := hfz 4
  have s5 := (ho 5).trans rfl
  have z5 := hfz 5
  have s6 := (ho 6).trans rfl
  have z6 := hfz 6
  have s7 := (ho 7).trans rfl
  have z7 := hfz 7
  have s8 := (ho 8).trans rfl
  have z8 := hfz 8
  clear ho hfz
  refine one_op 9 (by kernel_rfl) rfl (by rfl) (fun K hK => ?_)
  go_simp
  obtain ⟨V, hV⟩ : ∃ V, V = (((((((((w11.setCell ⟨(w.heap.size + 1), 0, none⟩ (Value.slice A10 args.length c10)).setCell ⟨(w.heap.size + 1), 1, none⟩ (Value.bool fl)).setCell ⟨(w.heap.size + 1), 2, none⟩ (Value.int .i64 a')).setCell ⟨(w.heap.size + 1), 3, none⟩ (Value.int .i64 i')).setCell ⟨(w.heap.size + 1), 4, none⟩ (Value.string s')).setCell ⟨(w.heap.size + 1), 5, none⟩ (Value.slice B1' n1' d1')).setCell ⟨(w.heap.size + 1), 6, none⟩ (Value.slice B2' n2' d2')).setCell ⟨(w.heap.size + 1), 7, none⟩ (Value.slice B3' n3' d3')).setCell ⟨(w.heap.size + 1), 8, none⟩ (Value.slice B4' n4' d4')) := ⟨_, rfl⟩
  rw [← hV]
  have hob : V.heap[w.heap.size + 1]? = some (.cells #[Value.slice A10 args.length c10, Value.bool fl, Value.int .i64 a', Value.int .i64 i', Value.string s', Value.slice B1' n1' d1', Value.slice B2' n2' d2', Value.slice B3' n3' d3', Value.slice B4' n4' d4'] 55 (0, 0)) := by rw [hV]; exact obj9 (HK2.out _ hB11) (Value.slice A10 args.length c10) (Value.bool fl) (Value.int .i64 a') (Value.int .i64 i') (Value.string s') (Value.slice B1' n1' d1') (Value.slice B2' n2' d2') (Value.slice B3' n3' d3') (Value.slice B4' n4' d4')
  have hBV : Below w.heap.size w V := by rw [hV]; exact Below.setCell (Below.setCell (Below.setCell (Below.setCell (Below.setCell (Below.setCell (Below.setCell (Below.setCell (Below.setCell ((HB.out.trans (hB11.mono HB.out.size))) (p := ⟨w.heap.size + 1, 0, none⟩) (Nat.le_succ _) _) (p := ⟨w.heap.size + 1, 1, none⟩) (Nat.le_succ _) _) (p := ⟨w.heap.size + 1, 2, none⟩) (Nat.le_succ _) _) (p := ⟨w.heap.size + 1, 3, none⟩) (Nat.le_succ _) _) (p := ⟨w.heap.size + 1, 4, none⟩) (Nat.le_succ _) _) (p := ⟨w.heap.size + 1, 5, none⟩) (Nat.le_succ _) _) (p := ⟨w.heap.size + 1, 6, none⟩) (Nat.le_succ _) _) (p := ⟨w.heap.size + 1, 7, none⟩) (Nat.le_succ _) _) (p := ⟨w.heap.size + 1, 8, none⟩) (Nat.le_succ _) _
  have hsm : Same (Btw W.heap.size w11.heap.size) w11 V := by rw [hV]; exact same_setCell (same_setCell (same_setCell (same_setCell (same_setCell (same_setCell (same_setCell (same_setCell (same_setCell ((Same.refl _ _)) (fun h => by have := h.1; have := HZ.out; omega)) (fun h => by have := h.1; have := HZ.out; omega)) (fun h => by have := h.1; have := HZ.out; omega)) (fun h => by have := h.1; have := HZ.out; omega)) (fun h => by have := h.1; have := HZ.out; omega)) (fun h => by have := h.1; have := HZ.out; omega)) (fun h => by have := h.1; have := HZ.out; omega)) (fun h => by have := h.1; have := HZ.out; omega)) (fun h => by have := h.1; have := HZ.out; omega)
  have hszV : V.heap.size = w11.heap.size := by rw [hV]; simp
  have hcl : ∀ i, V.cell? ⟨w.heap.size, i, none⟩ = w11.cell? ⟨w.heap.size, i, none⟩ := by
    intro i
    rw [hV]
    repeat rw [World.cell?_setCell_other _ _ _ _ (by intro e; simp only [Addr.mk.injEq] at e; omega)]
  obtain ⟨a0, a1, a2, a3, a4, a5, a6, a7, a8⟩ := HK.out _ hB11
  refine hK _ _ ⟨(hcl 0).trans a0, (hcl 1).trans a1, (hcl 2).trans a2, (hcl 3).trans a3, (hcl 4).trans a4, (hcl 5).trans a5, (hcl 6).trans a6, (hcl 7).trans a7, (hcl 8).trans a8⟩ ?_
  try simp only [Act.put, pA, pB, pC]
  clear hK K hcl hV s0 s1 s2 s3 s4 s5 s6 s7 s8 z0 z1 z2 z3 z4 z5 z6 z7 z8 a0 a1 a2 a3 a4 a5 a6 a7 a8
  refine wpAnyH_done (by kernel_rfl) ?_ _
  have s0 : V.cell? ⟨w.heap.size + 1, 0, none⟩ = some (Value.slice A10 args.length c10) := (Lib.cell_of_heap hob 0).trans rfl
  have s1 : V.cell? ⟨w.heap.size + 1, 1, none⟩ = some (Value.bool fl) := (Lib.cell_of_heap hob 1).trans rfl
  have s2 : V.cell? ⟨w.heap.size + 1, 2, none⟩ = some (Value.int .i64 a') := (Lib.cell_of_heap hob 2).trans rfl
  have s3 : V.cell? ⟨w.heap.size + 1, 3, none⟩ = some (Value.int .i64 i') := (Lib.cell_of_heap hob 3).trans rfl
  have s4 : V.cell? ⟨w.heap.size + 1, 4, none⟩ = some (Value.string s') := (Lib.cell_of_heap hob 4).trans rfl
  have s5 : V.cell? ⟨w.heap.size + 1, 5, none⟩ = some (Value.slice B1' n1' d1') := (Lib.cell_of_heap hob 5).trans rfl
  have s6 : V.cell? ⟨w.heap.size + 1, 6, none⟩ = some (Value.slice B2' n2' d2') := (Lib.cell_of_heap hob 6).trans rfl
  have s7 : V.cell? ⟨w.heap.size + 1, 7, none⟩ = some (Value.slice B3' n3' d3') := (Lib.cell_of_heap hob 7).trans rfl
  have s8 : V.cell? ⟨w.heap.size + 1, 8, none⟩ = some (Value.slice B4' n4' d4') := (Lib.cell_of_heap hob 8).trans rfl
  go_wp2
  refine bodyPost_ret (v := .agg #[Value.slice A10 args.length c10, Value.bool fl, Value.int .i64 a', Value.int .i64 i', Value.string s', Value.slice B1' n1' d1', Value.slice B2' n2' d2', Value.slice B3' n3' d3', Value.slice B4' n4' d4']) (by simp [results, Tryz.results77, go_sem, s0, s1, s2, s3, s4, s5, s6, s7, s8]) rfl ?_
  have hs10 : Same (Btw W.drew.heap.size w10.heap.size) w10 w11 := .of_below hb11 (fun _ h => h.2)
  have hz10 := hB10.size
  have hz11 := hB11.size
  have hzW := HZ.out
  have hd : W.drew.heap.size = W.heap.size := rfl
  rw [hd] at hr10 hs10
  have hs1 : Same (Btw W.heap.size w10.heap.size) w11 V := ⟨hsm.size, fun b i h hb => hsm.cell b i ⟨h.1, hb⟩ hb⟩
  have hs2 : Same (Btw w10.heap.size w11.heap.size) w11 V := ⟨hsm.size, fun b i h hb => hsm.cell b i ⟨by have := h.1; omega, hb⟩ hb⟩
  have hzz : w10.heap.size ≤ w11.heap.size := hb11.size
  have hu : unlE (.mk args fl r) = .mk (args.map unl) fl (unl r) := by rw [unlE, unlVs_map]
  rw [hu]
  have hr12 : RowB V (Btw w.heap.size V.heap.size) 7 (.slice A10 args.length c10) (args.map unl).length (fun j cs => ∃ x, (args.map unl)[j]? = some x ∧ VB k V (Btw w.heap.size V.heap.size) x cs) := by
    rw [List.length_map]
    refine (hr10.keep (hs10.trans hs1) (fun j cs h => h)).sub (fun b h => ⟨by have := h.1; omega, by have := h.2; omega⟩) ?_
    rintro j cs ⟨x, hx, hv⟩
    exact ⟨unl x, by rw [List.getElem?_map, hx]; rfl, (VB.keep (hs10.trans hs1) hv).sub (fun b h => ⟨by have := h.1; omega, by have := h.2; omega⟩) (Nat.le_refl _)⟩
  exact ⟨_, rfl, ⟨_, _, _, rfl, _, _, rfl, hr12, (VB.keep hs2 hv11).sub (fun b h => ⟨by have := h.1; omega, by have := h.2; omega⟩) (Nat.le_refl _)⟩, hBV⟩
/-- eachOnce of the row that each has made -/
theorem onceRow (k b0 : Nat) (f : En → En) (l : List En) (u : Value) (w : World) (hb0 : b0 ≤ w.heap.size)
    (hc : (l = [] ∧ u = .slice none 0 0) ∨ ∃ g, u = .slice (some ⟨g, 0, none⟩) l.length l.length ∧ b0 ≤ g ∧ EachI (fun w B x cs => EB k w B x cs) f 55 9 l g l.length w) (hn : l.length ≤ 100000000) :
    Calls Tryz.prog 68 #[u] w fun e w' => ∃ A c, e = .returned (.slice A (srtC cmpE (l.map f)).length c) ∧ RowB w' (Btw b0 w'.heap.size) 9 (.slice A (srtC cmpE (l.map f)).length c) (srtC cmpE (l.map f)).length (fun j cs => ∃ x, (srtC cmpE (l.map f))[j]? = some x ∧ EB k w' (Btw b0 w'.heap.size) x cs) ∧ Below b0 w w' := by
  rcases hc with ⟨rfl, rfl⟩ | ⟨g, rfl, hg, hI⟩
  · refine (eachOnce_nil w).mono ?_
    rintro e w' ⟨rfl, rfl⟩
    exact ⟨none, 0, rfl, ⟨none, 0, rfl, ⟨Nat.zero_le _, Nat.le_refl _⟩, fun h => absurd h (by simp [srtC])⟩, Below.refl _ _⟩
  · obtain ⟨xs, h1, h2, h3⟩ := hI
    have hrow : EntRow k g l.length (l.map f) w := ⟨xs, h1, h2, List.length_map _, fun q hq => by
      obtain ⟨x, hx, hv⟩ := h3 q hq
      exact ⟨f x, by rw [List.getElem?_map, hx]; rfl, hv⟩⟩
    refine (eachOnce_any k g l.length (l.map f) w hrow hn).mono ?_
    rintro e w' ⟨m, rfl, hcut, hb⟩
    obtain ⟨ys, c1, c2, c3, c4⟩ := hcut
    have hbs := hb.size
    have hml : m ≤ maxLen := by
      have h5 := srtC_len (c := cmpE) (l.map f)
      rw [List.length_map] at h5
      unfold maxLen
      omega
    subst c3
    exact ⟨_, _, rfl, row_of_owns c1 hml (fun g' _ h h' => ⟨by omega, h'⟩) (fun q hq => by
      obtain ⟨x, hx, hv⟩ := c4 q hq
      exact ⟨x, hx, EB.sub (fun b h => ⟨by have := h.1; omega, h.2⟩) (Nat.le_refl _) hv⟩) (by omega), hb.mono hg⟩
set_option maxRecDepth 100000 in
set_option maxHeartbeats 6400000 in
theorem unl_any : ∀ (k : Nat) (v : Vl) (cs : List Value) (w : World), VS k w w.heap.size v cs → sml v → Calls Tryz.prog 34 #[.agg cs.toArray] w fun e w' => ∃ cs', e = .returned (.agg cs'.toArray) ∧ VB k w' (Btw w.heap.size w'.heap.size) (unl v) cs' ∧ Below w.heap.size w w' := by
  intro k
  induction k with
  | zero => intro v cs w h; exact h.elim
  | succ k ih =>
    intro v cs w h hs
    have IH := Lib.hid ih
    clear ih
    have eg := enters_of Tryz.func34 (by kernel_rfl) rfl
    have eg2 := enters_of Tryz.func77 (by kernel_rfl) rfl
    obtain ⟨kd, it, tx, kids, keys, ents, labs⟩ := v
    unfold sml at hs
    obtain ⟨sk, sy, se, sl, ssk, sse⟩ := hs
    obtain ⟨uk, uy, ue, ul, rfl, wf1, wf2, wf3, hk, hy, he, hl⟩ := h
    obtain ⟨A, c, rfl, _⟩ := hk.form
    obtain ⟨Y, cy, rfl, _⟩ := hy.form
    obtain ⟨E, ce, rfl, _⟩ := he.form
    obtain ⟨L, cl, rfl, _⟩ := hl.form
    have HWF := Lib.hid (And.intro wf1 (And.intro wf2 wf3))
    have hE : Hid (∀ (e : En) (cs : List Value) (w : World), ES k w w.heap.size e cs → smlE e → Calls Tryz.prog 77 #[.agg cs.toArray] w fun r w' => ∃ cs', r = .returned (.agg cs'.toArray) ∧ EB k w' (Btw w.heap.size w'.heap.size) (unlE e) cs' ∧ Below w.heap.size w w') := Lib.hid fun e cs w h1 h2 => unlE_any k IH e cs w h1 h2
    have C1 : Hid (∀ V, Below w.heap.size w V → Calls Tryz.prog 76 #[.slice Y keys.length cy] V fun e w' => ∃ u, e = .returned u ∧ RowB w' (Btw V.heap.size w'.heap.size) 2 u keys.length (fun j cs => ∃ x, keys[j]? = some x ∧ cs = [.int .i64 x.1, .string ⟨x.2.toArray⟩] ∧ (Lit.int .i64 x.1).wf = true ∧ x.2.length ≤ maxLen) ∧ Below V.heap.size V w') := Lib.hid fun V hV => cloneY_any Y cy keys V ((hy.on hV fun _ _ h => h).mono hV.size fun _ _ h => h) sy
    have C2 : Hid (∀ V, Below w.heap.size w V → Calls Tryz.prog 44 #[.slice A kids.length c, .func (.func 34) #[] #[]] V fun e w' => ∃ A' c', e = .returned (.slice A' kids.length c') ∧ RowB w' (Btw V.heap.size w'.heap.size) 7 (.slice A' kids.length c') kids.length (fun j cs => ∃ x, (kids.map unl)[j]? = some x ∧ VB k w' (Btw V.heap.size w'.heap.size) x cs) ∧ Below V.heap.size V w') := Lib.hid fun V hV => (each7 k _ eg unl IH A c kids V ((hk.on hV fun _ _ ⟨x, h1, h2⟩ => ⟨x, h1, VS.up hV.size (Nat.le_refl _) (VS.on hV h2)⟩).mono hV.size fun _ _ h => h) sk ssk).mono fun e w' ⟨u, h1, h2, h3⟩ => by
      obtain ⟨A', c', rfl, _⟩ := h2.form
      exact ⟨A', c', h1, h2.sub (fun _ h => h) fun j cs ⟨x, hx, hv⟩ => ⟨unl x, by rw [List.getElem?_map, hx]; rfl, hv⟩, h3⟩
    have C3 : Hid (∀ V, Below w.heap.size w V → Calls Tryz.prog 69 #[.slice E ents.length ce, .func (.func 77) #[] #[]] V fun e w' => ∃ u, e = .returned u ∧ ((ents = [] ∧ u = .slice none 0 0) ∨ ∃ g, u = .slice (some ⟨g, 0, none⟩) ents.length ents.length ∧ V.heap.size ≤ g ∧ EachI (fun w B x cs => EB k w B x cs) unlE 55 9 ents g ents.length w') ∧ Below V.heap.size V w') := Lib.hid fun V hV => each9O k _ eg2 unlE hE E ce ents V (ents_row hV he) (Nat.le_trans se (by decide)) sse
    have HSE := Lib.hid (Nat.le_trans se (by decide : 1048576 ≤ 100000000))
    clear hk hy he hl sk sy se sl ssk sse IH hE eg eg2 wf1 wf2 wf3
    obtain ⟨W0, hW⟩ : ∃ W0, W0 = (w.alloc (.cells #[.int .i64 kd, .int .i64 it, .string ⟨tx.toArray⟩, .slice A kids.length c, .slice Y keys.length cy, .slice E ents.length ce, .slice none 0 0] 27)).alloc (.cells #[.int .i64 0, .int .i64 0, .string ⟨#[]⟩, .slice none 0 0, .slice none 0 0, .slice none 0 0, .slice none 0 0] 27) := ⟨_, rfl⟩
    have hb : Below w.heap.size w W0 := by rw [hW]; exact ((Below.refl _ _).alloc (Nat.le_refl _) _).alloc (by simp) _
    have hz0 : w.heap.size + 1 < W0.heap.size := by rw [hW]; simp
    have b0 : W0.heap[w.heap.size]? = some (.cells #[.int .i64 kd, .int .i64 it, .string ⟨tx.toArray⟩, .slice A kids.length c, .slice Y keys.length cy, .slice E ents.length ce, .slice none 0 0] 27 (0, 0)) := by
      rw [hW, Below.heap_alloc _ _ _ (by simp)]
      exact heap_alloc_new w _
    have g0 : W0.heap[w.heap.size + 1]? = some (.cells #[.int .i64 0, .int .i64 0, .string ⟨#[]⟩, .slice none 0 0, .slice none 0 0, .slice none 0 0, .slice none 0 0] 27 (0, 0)) := by
      rw [hW]
      exact new_at' _ (by simp)
    have HB0 := Lib.hid hb
    clear hb
    have s0 : W0.cell? ⟨w.heap.size, 4, none⟩ = some (.slice Y keys.length cy) := (Lib.cell_of_heap b0 4).trans rfl
    have G0 := Lib.hid g0
    have B0 := Lib.hid b0
    clear g0 b0
    go_enter Tryz.func34, Tryz.ntmps34
    go_wp2_with fail
    rw [← hW]
    clear hW
    go_wp2_with (go_at_call 76; refine (C1.out _ HB0.out).mono ?_; rintro e w1 ⟨u1, rfl, hr1, hb1⟩; refine Hid.out ?_)
    refine Lib.hid ?_
    obtain ⟨P4, q4, rfl, _⟩ := hr1.form
    clear s0
    have ob1 : w1.heap[w.heap.size]? = some (.cells #[.int .i64 kd, .int .i64 it, .string ⟨tx.toArray⟩, .slice A kids.length c, .slice Y keys.length cy, .slice E ents.length ce, .slice none 0 0] 27 (0, 0)) := (hb1.block _ (by omega)).trans B0.out
    have gb1 : w1.heap[w.heap.size + 1]? = some (.cells #[.int .i64 0, .int .i64 0, .string ⟨#[]⟩, .slice none 0 0, .slice none 0 0, .slice none 0 0, .slice none 0 0] 27 (0, 0)) := (hb1.block _ (by omega)).trans G0.out
    have c1 := (Lib.cell_of_heap ob1 4).trans (show (#[.int .i64 kd, .int .i64 it, .string ⟨tx.toArray⟩, .slice A kids.length c, .slice Y keys.length cy, .slice E ents.length ce, .slice none 0 0] : Array Value)[4]? = some (.slice Y keys.length cy) from rfl)
    have z1 := Lib.frozen_of_heap ob1 4
    have b1 : (w1.setCell ⟨w.heap.size, 4, none⟩ (.slice P4 keys.length q4)).heap[w.heap.size]? = some (.cells #[.int .i64 kd, .int .i64 it, .string ⟨tx.toArray⟩, .slice A kids.length c, .slice P4 keys.length q4, .slice E ents.length ce, .slice none 0 0] 27 (0, 0)) := by simpa using heap_setCell_same _ _ 4 _ _ (.slice P4 keys.length q4) ob1
    have g1 : (w1.setCell ⟨w.heap.size, 4, none⟩ (.slice P4 keys.length q4)).heap[w.heap.size + 1]? = some (.cells #[.int .i64 0, .int .i64 0, .string ⟨#[]⟩, .slice none 0 0, .slice none 0 0, .slice none 0 0, .slice none 0 0] 27 (0, 0)) := by rw [heap_setCell_other _ _ _ _ (by simp)]; exact gb1
    have hz1 : w.heap.size + 1 < (w1.setCell ⟨w.heap.size, 4, none⟩ (.slice P4 keys.length q4)).heap.size := by have := hb1.size; simp; omega
    have HB1 : Hid (Below w.heap.size w (w1.setCell ⟨w.heap.size, 4, none⟩ (.slice P4 keys.length q4))) := Lib.hid ((HB0.out.trans (hb1.mono HB0.out.size)).setCell (p := ⟨w.heap.size, 4, none⟩) (Nat.le_refl _) _)
    have HRY : Hid (RowB (w1.setCell ⟨w.heap.size, 4, none⟩ (.slice P4 keys.length q4)) (Aft (w.heap.size + 1) (w1.setCell ⟨w.heap.size, 4, none⟩ (.slice P4 keys.length q4))) 2 (.slice P4 keys.length q4) keys.length (fun j cs => ∃ x, keys[j]? = some x ∧ cs = [.int .i64 x.1, .string ⟨x.2.toArray⟩] ∧ (Lit.int .i64 x.1).wf = true ∧ x.2.length ≤ maxLen)) := Lib.hid (new_row _ (by omega) (by omega) hr1 (fun _ _ h => h))
    have B1 := Lib.hid b1
    have G1 := Lib.hid g1
    have s1 : (w1.setCell ⟨w.heap.size, 4, none⟩ (.slice P4 keys.length q4)).cell? ⟨w.heap.size, 3, none⟩ = some (.slice A kids.length c) := (Lib.cell_of_heap b1 3).trans rfl
    clear ob1 gb1 b1 g1 hr1 hb1
    go_wp2_with (go_at_call 44; refine (C2.out _ HB1.out).mono ?_; rintro e w2 ⟨P3, q3, rfl, hr2, hb2⟩; refine Hid.out ?_)
    refine Lib.hid ?_
    clear s1
    have ob2 : w2.heap[w.heap.size]? = some (.cells #[.int .i64 kd, .int .i64 it, .string ⟨tx.toArray⟩, .slice A kids.length c, .slice P4 keys.length q4, .slice E ents.length ce, .slice none 0 0] 27 (0, 0)) := (hb2.block _ (by omega)).trans B1.out
    have gb2 : w2.heap[w.heap.size + 1]? = some (.cells #[.int .i64 0, .int .i64 0, .string ⟨#[]⟩, .slice none 0 0, .slice none 0 0, .slice none 0 0, .slice none 0 0] 27 (0, 0)) := (hb2.block _ (by omega)).trans G1.out
    have c2 := (Lib.cell_of_heap ob2 3).trans (show (#[.int .i64 kd, .int .i64 it, .string ⟨tx.toArray⟩, .slice A kids.length c, .slice P4 keys.length q4, .slice E ents.length ce, .slice none 0 0] : Array Value)[3]? = some (.slice A kids.length c) from rfl)
    have z2 := Lib.frozen_of_heap ob2 3
    have b2 : (w2.setCell ⟨w.heap.size, 3, none⟩ (.slice P3 kids.length q3)).heap[w.heap.size]? = some (.cells #[.int .i64 kd, .int .i64 it, .string ⟨tx.toArray⟩, .slice P3 kids.length q3, .slice P4 keys.length q4, .slice E ents.length ce, .slice none 0 0] 27 (0, 0)) := by simpa using heap_setCell_same _ _ 3 _ _ (.slice P3 kids.length q3) ob2
    have g2 : (w2.setCell ⟨w.heap.size, 3, none⟩ (.slice P3 kids.length q3)).heap[w.heap.size + 1]? = some (.cells #[.int .i64 0, .int .i64 0, .string ⟨#[]⟩, .slice none 0 0, .slice none 0 0, .slice none 0 0, .slice none 0 0] 27 (0, 0)) := by rw [heap_setCell_other _ _ _ _ (by simp)]; exact gb2
    have hz2 : w.heap.size + 1 < (w2.setCell ⟨w.heap.size, 3, none⟩ (.slice P3 kids.length q3)).heap.size := by have := hb2.size; simp; omega
    have HB2 : Hid (Below w.heap.size w (w2.setCell ⟨w.heap.size, 3, none⟩ (.slice P3 kids.length q3))) := Lib.hid ((HB1.out.trans (hb2.mono HB1.out.size)).setCell (p := ⟨w.heap.size, 3, none⟩) (Nat.le_refl _) _)
    replace HRY : Hid (RowB (w2.setCell ⟨w.heap.size, 3, none⟩ (.slice P3 kids.length q3)) (Aft (w.heap.size + 1) (w2.setCell ⟨w.heap.size, 3, none⟩ (.slice P3 kids.length q3))) 2 (.slice P4 keys.length q4) keys.length (fun j cs => ∃ x, keys[j]? = some x ∧ cs = [.int .i64 x.1, .string ⟨x.2.toArray⟩] ∧ (Lit.int .i64 x.1).wf = true ∧ x.2.length ≤ maxLen)) := Lib.hid (aft_row _ hb2 (by omega) HRY.out (fun _ _ h => h))
    have HRK : Hid (RowB (w2.setCell ⟨w.heap.size, 3, none⟩ (.slice P3 kids.length q3)) (Aft (w.heap.size + 1) (w2.setCell ⟨w.heap.size, 3, none⟩ (.slice P3 kids.length q3))) 7 (.slice P3 kids.length q3) kids.length (fun j cs => ∃ x, (kids.map unl)[j]? = some x ∧ VB k (w2.setCell ⟨w.heap.size, 3, none⟩ (.slice P3 kids.length q3)) (Aft (w.heap.size + 1) (w2.setCell ⟨w.heap.size, 3, none⟩ (.slice P3 kids.length q3))) x cs)) := Lib.hid (new_row _ (by omega) (by omega) hr2 (fun _ _ ⟨x, h1, h2⟩ => ⟨x, h1, new_vb _ (by omega) (by omega) h2⟩))
    have B2 := Lib.hid b2
    have G2 := Lib.hid g2
    have s2 : (w2.setCell ⟨w.heap.size, 3, none⟩ (.slice P3 kids.length q3)).cell? ⟨w.heap.size, 5, none⟩ = some (.slice E ents.length ce) := (Lib.cell_of_heap b2 5).trans rfl
    clear ob2 gb2 b2 g2 hr2 hb2
    go_wp2_with (go_at_call 69; refine (C3.out _ HB2.out).mono ?_; rintro e w3b ⟨u3, rfl, hc3, hb3b⟩; refine Hid.out ?_)
    refine Lib.hid ?_
    have ho := onceRow k _ unlE ents u3 w3b hb3b.size hc3 HSE.out
    clear s2 hc3
    have HBb := Lib.hid hb3b
    clear hb3b
    go_wp2_with (go_at_call 68; refine ho.mono ?_; rintro e w3 ⟨P5, q5, rfl, hr3, hb3c⟩; refine Hid.out ?_)
    refine Lib.hid ?_
    clear ho
    have hb3 := HBb.out.trans hb3c
    clear hb3c
    have ob3 : w3.heap[w.heap.size]? = some (.cells #[.int .i64 kd, .int .i64 it, .string ⟨tx.toArray⟩, .slice P3 kids.length q3, .slice P4 keys.length q4, .slice E ents.length ce, .slice none 0 0] 27 (0, 0)) := (hb3.block _ (by omega)).trans B2.out
    have gb3 : w3.heap[w.heap.size + 1]? = some (.cells #[.int .i64 0, .int .i64 0, .string ⟨#[]⟩, .slice none 0 0, .slice none 0 0, .slice none 0 0, .slice none 0 0] 27 (0, 0)) := (hb3.block _ (by omega)).trans G2.out
    have c3 := (Lib.cell_of_heap ob3 5).trans (show (#[.int .i64 kd, .int .i64 it, .string ⟨tx.toArray⟩, .slice P3 kids.length q3, .slice P4 keys.length q4, .slice E ents.length ce, .slice none 0 0] : Array Value)[5]? = some (.slice E ents.length ce) from rfl)
    have z3 := Lib.frozen_of_heap ob3 5
    have b3 : (w3.setCell ⟨w.heap.size, 5, none⟩ (.slice P5 (srtC cmpE (ents.map unlE)).length q5)).heap[w.heap.size]? = some (.cells #[.int .i64 kd, .int .i64 it, .string ⟨tx.toArray⟩, .slice P3 kids.length q3, .slice P4 keys.length q4, .slice P5 (srtC cmpE (ents.map unlE)).length q5, .slice none 0 0] 27 (0, 0)) := by simpa using heap_setCell_same _ _ 5 _ _ (.slice P5 (srtC cmpE (ents.map unlE)).length q5) ob3
    have g3 : (w3.setCell ⟨w.heap.size, 5, none⟩ (.slice P5 (srtC cmpE (ents.map unlE)).length q5)).heap[w.heap.size + 1]? = some (.cells #[.int .i64 0, .int .i64 0, .string ⟨#[]⟩, .slice none 0 0, .slice none 0 0, .slice none 0 0, .slice none 0 0] 27 (0, 0)) := by rw [heap_setCell_other _ _ _ _ (by simp)]; exact gb3
    have hz3 : w.heap.size + 1 < (w3.setCell ⟨w.heap.size, 5, none⟩ (.slice P5 (srtC cmpE (ents.map unlE)).length q5)).heap.size := by have := hb3.size; simp; omega
    have HB3 : Hid (Below w.heap.size w (w3.setCell ⟨w.heap.size, 5, none⟩ (.slice P5 (srtC cmpE (ents.map unlE)).length q5))) := Lib.hid ((HB2.out.trans (hb3.mono HB2.out.size)).setCell (p := ⟨w.heap.size, 5, none⟩) (Nat.le_refl _) _)
    replace HRY : Hid (RowB (w3.setCell ⟨w.heap.size, 5, none⟩ (.slice P5 (srtC cmpE (ents.map unlE)).length q5)) (Aft (w.heap.size + 1) (w3.setCell ⟨w.heap.size, 5, none⟩ (.slice P5 (srtC cmpE (ents.map unlE)).length q5))) 2 (.slice P4 keys.length q4) keys.length (fun j cs => ∃ x, keys[j]? = some x ∧ cs = [.int .i64 x.1, .string ⟨x.2.toArray⟩] ∧ (Lit.int .i64 x.1).wf = true ∧ x.2.length ≤ maxLen)) := Lib.hid (aft_row _ hb3 (by omega) HRY.out (fun _ _ h => h))
    replace HRK : Hid (RowB (w3.setCell ⟨w.heap.size, 5, none⟩ (.slice P5 (srtC cmpE (ents.map unlE)).length q5)) (Aft (w.heap.size + 1) (w3.setCell ⟨w.heap.size, 5, none⟩ (.slice P5 (srtC cmpE (ents.map unlE)).length q5))) 7 (.slice P3 kids.length q3) kids.length (fun j cs => ∃ x, (kids.map unl)[j]? = some x ∧ VB k (w3.setCell ⟨w.heap.size, 5, none⟩ (.slice P5 (srtC cmpE (ents.map unlE)).length q5)) (Aft (w.heap.size + 1) (w3.setCell ⟨w.heap.size, 5, none⟩ (.slice P5 (srtC cmpE (ents.map unlE)).length q5))) x cs)) := Lib.hid (aft_row _ hb3 (by omega) HRK.out (fun _ _ ⟨x, h1, h2⟩ => ⟨x, h1, aft_vb _ hb3 (by omega) h2⟩))
    have HRE : Hid (RowB (w3.setCell ⟨w.heap.size, 5, none⟩ (.slice P5 (srtC cmpE (ents.map unlE)).length q5)) (Aft (w.heap.size + 1) (w3.setCell ⟨w.heap.size, 5, none⟩ (.slice P5 (srtC cmpE (ents.map unlE)).length q5))) 9 (.slice P5 (srtC cmpE (ents.map unlE)).length q5) (srtC cmpE (ents.map unlE)).length (fun j cs => ∃ x, (srtC cmpE (ents.map unlE))[j]? = some x ∧ EB k (w3.setCell ⟨w.heap.size, 5, none⟩ (.slice P5 (srtC cmpE (ents.map unlE)).length q5)) (Aft (w.heap.size + 1) (w3.setCell ⟨w.heap.size, 5, none⟩ (.slice P5 (srtC cmpE (ents.map unlE)).length q5))) x cs)) := Lib.hid (new_row _ (by omega) (by omega) hr3 (fun _ _ ⟨x, h1, h2⟩ => ⟨x, h1, new_eb _ (by omega) (by omega) h2⟩))
    have B3 := Lib.hid b3
    have G3 := Lib.hid g3
    have t0 : (w3.setCell ⟨w.heap.size, 5, none⟩ (.slice P5 (srtC cmpE (ents.map unlE)).length q5)).cell? ⟨w.heap.size, 0, none⟩ = some (.int .i64 kd) := (Lib.cell_of_heap b3 0).trans rfl
    have t1 : (w3.setCell ⟨w.heap.size, 5, none⟩ (.slice P5 (srtC cmpE (ents.map unlE)).length q5)).cell? ⟨w.heap.size, 1, none⟩ = some (.int .i64 it) := (Lib.cell_of_heap b3 1).trans rfl
    have t2 : (w3.setCell ⟨w.heap.size, 5, none⟩ (.slice P5 (srtC cmpE (ents.map unlE)).length q5)).cell? ⟨w.heap.size, 2, none⟩ = some (.string ⟨tx.toArray⟩) := (Lib.cell_of_heap b3 2).trans rfl
    have t3 : (w3.setCell ⟨w.heap.size, 5, none⟩ (.slice P5 (srtC cmpE (ents.map unlE)).length q5)).cell? ⟨w.heap.size, 3, none⟩ = some (.slice P3 kids.length q3) := (Lib.cell_of_heap b3 3).trans rfl
    have t4 : (w3.setCell ⟨w.heap.size, 5, none⟩ (.slice P5 (srtC cmpE (ents.map unlE)).length q5)).cell? ⟨w.heap.size, 4, none⟩ = some (.slice P4 keys.length q4) := (Lib.cell_of_heap b3 4).trans rfl
    have t5 : (w3.setCell ⟨w.heap.size, 5, none⟩ (.slice P5 (srtC cmpE (ents.map unlE)).length q5)).cell? ⟨w.heap.size, 5, none⟩ = some (.slice P5 (srtC cmpE (ents.map unlE)).length q5) := (Lib.cell_of_heap b3 5).trans rfl
    have t6 : (w3.setCell ⟨w.heap.size, 5, none⟩ (.slice P5 (srtC cmpE (ents.map unlE)).length q5)).cell? ⟨w.heap.size, 6, none⟩ = some (.slice none 0 0) := (Lib.cell_of_heap b3 6).trans rfl
    have y0 : (w3.setCell ⟨w.heap.size, 5, none⟩ (.slice P5 (srtC cmpE (ents.map unlE)).length q5)).cell? ⟨w.heap.size + 1, 0, none⟩ = some (.int .i64 0) := (Lib.cell_of_heap g3 0).trans rfl
    have y1 : (w3.setCell ⟨w.heap.size, 5, none⟩ (.slice P5 (srtC cmpE (ents.map unlE)).length q5)).cell? ⟨w.heap.size + 1, 1, none⟩ = some (.int .i64 0) := (Lib.cell_of_heap g3 1).trans rfl
    have y2 : (w3.setCell ⟨w.heap.size, 5, none⟩ (.slice P5 (srtC cmpE (ents.map unlE)).length q5)).cell? ⟨w.heap.size + 1, 2, none⟩ = some (.string ⟨#[]⟩) := (Lib.cell_of_heap g3 2).trans rfl
    have y3 : (w3.setCell ⟨w.heap.size, 5, none⟩ (.slice P5 (srtC cmpE (ents.map unlE)).length q5)).cell? ⟨w.heap.size + 1, 3, none⟩ = some (.slice none 0 0) := (Lib.cell_of_heap g3 3).trans rfl
    have y4 : (w3.setCell ⟨w.heap.size, 5, none⟩ (.slice P5 (srtC cmpE (ents.map unlE)).length q5)).cell? ⟨w.heap.size + 1, 4, none⟩ = some (.slice none 0 0) := (Lib.cell_of_heap g3 4).trans rfl
    have y5 : (w3.setCell ⟨w.heap.size, 5, none⟩ (.slice P5 (srtC cmpE (ents.map unlE)).length q5)).cell? ⟨w.heap.size + 1, 5, none⟩ = some (.slice none 0 0) := (Lib.cell_of_heap g3 5).trans rfl
    have y6 : (w3.setCell ⟨w.heap.size, 5, none⟩ (.slice P5 (srtC cmpE (ents.map unlE)).length q5)).cell? ⟨w.heap.size + 1, 6, none⟩ = some (.slice none 0 0) := (Lib.cell_of_heap g3 6).trans rfl
    have x0 := Lib.frozen_of_heap g3 0
    have x1 := Lib.frozen_of_heap g3 1
    have x2 := Lib.frozen_of_heap g3 2
    have x3 := Lib.frozen_of_heap g3 3
    have x4 := Lib.frozen_of_heap g3 4
    have x5 := Lib.frozen_of_heap g3 5
    have x6 := Lib.frozen_of_heap g3 6
    clear ob3 gb3 b3 g3 hr3 hb3
    go_wp2
    obtain ⟨V, hV⟩ : ∃ V, V = ((((((((w3.setCell ⟨w.heap.size, 5, none⟩ (Value.slice P5 (srtC cmpE (ents.map unlE)).length q5)).setCell ⟨(w.heap.size + 1), 0, none⟩ (Value.int .i64 kd)).setCell ⟨(w.heap.size + 1), 1, none⟩ (Value.int .i64 it)).setCell ⟨(w.heap.size + 1), 2, none⟩ (Value.string ⟨tx.toArray⟩)).setCell ⟨(w.heap.size + 1), 3, none⟩ (Value.slice P3 kids.length q3)).setCell ⟨(w.heap.size + 1), 4, none⟩ (Value.slice P4 keys.length q4)).setCell ⟨(w.heap.size + 1), 5, none⟩ (Value.slice P5 (srtC cmpE (ents.map unlE)).length q5)).setCell ⟨(w.heap.size + 1), 6, none⟩ (Value.slice none 0 0)) := ⟨_, rfl⟩
    rw [← hV]
    have hob : V.heap[w.heap.size + 1]? = some (.cells #[Value.int .i64 kd, Value.int .i64 it, Value.string ⟨tx.toArray⟩, Value.slice P3 kids.length q3, Value.slice P4 keys.length q4, Value.slice P5 (srtC cmpE (ents.map unlE)).length q5, Value.slice none 0 0] 27 (0, 0)) := by rw [hV]; exact obj7 G3.out (Value.int .i64 kd) (Value.int .i64 it) (Value.string ⟨tx.toArray⟩) (Value.slice P3 kids.length q3) (Value.slice P4 keys.length q4) (Value.slice P5 (srtC cmpE (ents.map unlE)).length q5) (Value.slice none 0 0)
    have hBV : Below w.heap.size w V := by rw [hV]; exact Below.setCell (Below.setCell (Below.setCell (Below.setCell (Below.setCell (Below.setCell (Below.setCell (HB3.out) (p := ⟨w.heap.size + 1, 0, none⟩) (Nat.le_succ _) _) (p := ⟨w.heap.size + 1, 1, none⟩) (Nat.le_succ _) _) (p := ⟨w.heap.size + 1, 2, none⟩) (Nat.le_succ _) _) (p := ⟨w.heap.size + 1, 3, none⟩) (Nat.le_succ _) _) (p := ⟨w.heap.size + 1, 4, none⟩) (Nat.le_succ _) _) (p := ⟨w.heap.size + 1, 5, none⟩) (Nat.le_succ _) _) (p := ⟨w.heap.size + 1, 6, none⟩) (Nat.le_succ _) _
    have hsm : Same (Aft (w.heap.size + 1) (w3.setCell ⟨w.heap.size, 5, none⟩ (Value.slice P5 (srtC cmpE (ents.map unlE)).length q5))) (w3.setCell ⟨w.heap.size, 5, none⟩ (Value.slice P5 (srtC cmpE (ents.map unlE)).length q5)) V := by rw [hV]; exact same_setCell (same_setCell (same_setCell (same_setCell (same_setCell (same_setCell (same_setCell ((Same.refl _ _)) (fun h => by have := h.1; omega)) (fun h => by have := h.1; omega)) (fun h => by have := h.1; omega)) (fun h => by have := h.1; omega)) (fun h => by have := h.1; omega)) (fun h => by have := h.1; omega)) (fun h => by have := h.1; omega)
    have hszV : V.heap.size = (w3.setCell ⟨w.heap.size, 5, none⟩ (Value.slice P5 (srtC cmpE (ents.map unlE)).length q5)).heap.size := by rw [hV]; simp
    clear hV t0 t1 t2 t3 t4 t5 t6 y0 y1 y2 y3 y4 y5 y6 x0 x1 x2 x3 x4 x5 x6
    obtain ⟨e0, e1, e2, e3, e4, e5, e6⟩ := cells7 hob
    refine bodyPost_ret (v := .agg #[Value.int .i64 kd, Value.int .i64 it, Value.string ⟨tx.toArray⟩, Value.slice P3 kids.length q3, Value.slice P4 keys.length q4, Value.slice P5 (srtC cmpE (ents.map unlE)).length q5, Value.slice none 0 0]) (by simp [results, Tryz.results34, go_sem, e0, e1, e2, e3, e4, e5, e6]) rfl ?_
    have hsub : ∀ b, Aft (w.heap.size + 1) (w3.setCell ⟨w.heap.size, 5, none⟩ (Value.slice P5 (srtC cmpE (ents.map unlE)).length q5)) b → Btw w.heap.size V.heap.size b := fun b h => ⟨by have := h.1; omega, by have := h.2; omega⟩
    have hu : unl (.mk kd it tx kids keys ents labs) = .mk kd it tx (kids.map unl) keys (srtC cmpE (ents.map unlE)) [] := by rw [unl, unlVs_map, unlEs_map]
    rw [hu]
    have hk7 : RowB V (Btw w.heap.size V.heap.size) 7 (.slice P3 kids.length q3) (kids.map unl).length (fun j cs => ∃ x, (kids.map unl)[j]? = some x ∧ VB k V (Btw w.heap.size V.heap.size) x cs) := by
      rw [List.length_map]
      exact (HRK.out.keep hsm fun _ _ ⟨x, hx, hv⟩ => ⟨x, hx, VB.sub hsub (Nat.le_refl _) (VB.keep hsm hv)⟩).sub hsub fun _ _ h => h
    refine ⟨_, rfl, ⟨_, _, _, _, rfl, HWF.out.1, HWF.out.2.1, HWF.out.2.2, hk7, (HRY.out.keep hsm fun _ _ h => h).sub hsub fun _ _ h => h, (HRE.out.keep hsm ?_).sub hsub fun _ _ h => h, zeroRow _ _ _ _⟩, hBV⟩
    rintro j cs ⟨x, hx, hv⟩
    obtain ⟨args, fails, result, rfl, ua, rs, hcs, ha, hr⟩ := EB.sub hsub (Nat.le_refl _) (EB.keep hsm hv)
    exact ⟨args, fails, result, hx, ua, rs, hcs, ha, hr⟩
end Go.Proofs.YtjfknigiehggkaaGreat
