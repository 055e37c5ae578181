/- What List of the document returns. -/
import Derived.Test.YtjfknigiehggkaaGreatVf23
import Derived.Test.YtjfknigiehggkaaGreatVf24
namespace Go.Proofs.YtjfknigiehggkaaGreat
open Go Go.RowKit
set_option maxRecDepth 100000 in
set_option maxHeartbeats 3200000 in
theorem refConsB_any (k : Nat) (B : Nat → Prop) (u v : Vl) (ca cb : List Value) (w : World) (hB : ∀ b, B b → b < w.heap.size) (ha : VB k w B u ca) (hb : VB k w B v cb) :
    Calls Tryz.prog 51 #[.agg ca.toArray, .agg cb.toArray] w fun e w' => ∃ cs, e = .returned (.agg cs.toArray) ∧ VB (k + 1) w' (fun b => B b ∨ Btw w.heap.size w'.heap.size b) (consV u v) cs ∧ Below w.heap.size w w' := by
  obtain ⟨a, i, s, B1, n1, d1, B2, n2, d2, B3, n3, d3, B4, n4, d4, rfl⟩ := ha.form7
  obtain ⟨a', i', s', B1', n1', d1', B2', n2', d2', B3', n3', d3', B4', n4', d4', rfl⟩ := hb.form7
  go_enter Tryz.func51, Tryz.ntmps51
  go_wp2
  obtain ⟨V, hV⟩ : ∃ V, V = (((w.alloc (.cells #[.int .i64 a, .int .i64 i, .string s, .slice B1 n1 d1, .slice B2 n2 d2, .slice B3 n3 d3, .slice B4 n4 d4] 27)).alloc (.cells #[.int .i64 a', .int .i64 i', .string s', .slice B1' n1' d1', .slice B2' n2' d2', .slice B3' n3' d3', .slice B4' n4' d4'] 27)).alloc (.cells #[Value.int .i64 7, Value.int .i64 0, Value.string ⟨#[]⟩, Value.slice (some ⟨w.heap.size + 1 + 1 + 1, 0, none⟩) 2 2, Value.slice none 0 0, Value.slice none 0 0, Value.slice none 0 0] 27)).alloc (.cells #[.int .i64 a, .int .i64 i, .string s, .slice B1 n1 d1, .slice B2 n2 d2, .slice B3 n3 d3, .slice B4 n4 d4, .int .i64 a', .int .i64 i', .string s', .slice B1' n1' d1', .slice B2' n2' d2', .slice B3' n3' d3', .slice B4' n4' d4'] 27) := ⟨_, rfl⟩
  rw [← hV]
  have hb4 : Below w.heap.size w V := by rw [hV]; exact ((((Below.refl _ _).alloc (Nat.le_refl _) _).alloc (by simp) _).alloc (by simp; omega) _).alloc (by simp; omega) _
  have hz : V.heap.size = w.heap.size + 4 := by rw [hV]; simp
  have k4 : V.heap[w.heap.size + 3]? = some (.cells #[.int .i64 a, .int .i64 i, .string s, .slice B1 n1 d1, .slice B2 n2 d2, .slice B3 n3 d3, .slice B4 n4 d4, .int .i64 a', .int .i64 i', .string s', .slice B1' n1' d1', .slice B2' n2' d2', .slice B3' n3' d3', .slice B4' n4' d4'] 27 (0, 0)) := by rw [hV]; exact new_at' _ (by simp)
  have k3 : V.heap[w.heap.size + 2]? = some (.cells #[Value.int .i64 7, Value.int .i64 0, Value.string ⟨#[]⟩, Value.slice (some ⟨w.heap.size + 1 + 1 + 1, 0, none⟩) 2 2, Value.slice none 0 0, Value.slice none 0 0, Value.slice none 0 0] 27 (0, 0)) := by rw [hV, Below.heap_alloc _ _ _ (by simp)]; exact new_at' _ (by simp)
  obtain ⟨e0, e1, e2, e3, e4, e5, e6⟩ := cells7 k3
  clear hV
  refine bodyPost_ret (v := .agg #[Value.int .i64 7, Value.int .i64 0, Value.string ⟨#[]⟩, Value.slice (some ⟨w.heap.size + 1 + 1 + 1, 0, none⟩) 2 2, Value.slice none 0 0, Value.slice none 0 0, Value.slice none 0 0]) (by simp [results, Tryz.results51, go_sem, e0, e1, e2, e3, e4, e5, e6]) rfl ?_
  have hs : Same B w V := .of_below hb4 hB
  have hsub : ∀ b, B b → B b ∨ Btw w.heap.size V.heap.size b := fun b h => .inl h
  refine ⟨_, rfl, ⟨_, _, _, _, rfl, by decide, by decide, Nat.zero_le _, ⟨_, _, rfl, by unfold maxLen; simp, fun _ => ⟨w.heap.size + 3, 0, rfl, .inr ⟨by omega, by omega⟩, by omega, fun j hj => ?_⟩⟩, zeroRw _ _ _ _, zeroRw _ _ _ _, zeroRw _ _ _ _⟩, hb4⟩
  have hcell : ∀ q, V.cell? ⟨w.heap.size + 3, q, none⟩ = (#[.int .i64 a, .int .i64 i, .string s, .slice B1 n1 d1, .slice B2 n2 d2, .slice B3 n3 d3, .slice B4 n4 d4, .int .i64 a', .int .i64 i', .string s', .slice B1' n1' d1', .slice B2' n2' d2', .slice B3' n3' d3', .slice B4' n4' d4'] : Array Value)[q]? := fun q => Lib.cell_of_heap k4 q
  match j, hj with
  | 0, _ =>
    refine ⟨[.int .i64 a, .int .i64 i, .string s, .slice B1 n1 d1, .slice B2 n2 d2, .slice B3 n3 d3, .slice B4 n4 d4], rfl, fun q hq => ?_, u, rfl, VB.sub hsub (Nat.le_refl _) (VB.keep hs ha)⟩
    rw [show 0 + 0 * 7 + q = q by omega, hcell]
    match q, hq with
    | 0, _ => rfl
    | 1, _ => rfl
    | 2, _ => rfl
    | 3, _ => rfl
    | 4, _ => rfl
    | 5, _ => rfl
    | 6, _ => rfl
  | 1, _ =>
    refine ⟨[.int .i64 a', .int .i64 i', .string s', .slice B1' n1' d1', .slice B2' n2' d2', .slice B3' n3' d3', .slice B4' n4' d4'], rfl, fun q hq => ?_, v, rfl, VB.sub hsub (Nat.le_refl _) (VB.keep hs hb)⟩
    rw [show 0 + 1 * 7 + q = 7 + q by omega, hcell]
    match q, hq with
    | 0, _ => rfl
    | 1, _ => rfl
    | 2, _ => rfl
    | 3, _ => rfl
    | 4, _ => rfl
    | 5, _ => rfl
    | 6, _ => rfl
theorem listV_step {l : List Vl} {j : Nat} {x : Vl} (h : l[j]? = some x) : listV (l.drop j) = consV x (listV (l.drop (j + 1))) := by
  have hj := (List.getElem?_eq_some_iff.1 h).1
  rw [List.drop_eq_getElem_cons hj]
  have : l[j] = x := (List.getElem?_eq_some_iff.1 h).2
  rw [this]
  rfl
set_option maxRecDepth 100000 in
set_option maxHeartbeats 3200000 in
theorem refList_any (k lo : Nat) (A : Option Addr) (c : Nat) (l : List Vl) (w : World) (hlo : lo ≤ w.heap.size) (hl : RowV k lo w (.slice A l.length c) l) (hn : l.length ≤ 1000000) :
    Calls Tryz.prog 21 #[.slice A l.length c] w fun e w' => ∃ cs, e = .returned (.agg cs.toArray) ∧ VB (k + l.length + 1) w' (Btw lo w'.heap.size) (listV l) cs ∧ Below w.heap.size w w' := by
  have HL := Lib.hid hl
  obtain ⟨W0, hW0⟩ : ∃ W0, W0 = w.alloc (.cells #[.int .i64 0, .int .i64 0, .string ⟨#[]⟩, .slice none 0 0, .slice none 0 0, .slice none 0 0, .slice none 0 0] 27) := ⟨_, rfl⟩
  have hb0 : Below w.heap.size w W0 := by rw [hW0]; exact (Below.refl _ _).alloc (Nat.le_refl _) _
  have hz0 : W0.heap.size = w.heap.size + 1 := by rw [hW0]; simp
  have k0 : W0.heap[w.heap.size]? = some (.cells #[.int .i64 0, .int .i64 0, .string ⟨#[]⟩, .slice none 0 0, .slice none 0 0, .slice none 0 0, .slice none 0 0] 27 (0, 0)) := by rw [hW0]; exact heap_alloc_new w _
  have hc := refNil_any W0
  clear hl
  generalize hLN : l.length = N at *
  have HN := Lib.hid hLN
  clear hLN
  have hw0 : IntKind.i64.wrap ((N : Int) - 1) = (N : Int) - 1 := IntWalk.i64_in _ (by omega)
  go_enter Tryz.func21, Tryz.ntmps21
  go_wp2_with fail
  rw [← hW0]
  clear hW0
  refine hc.mono ?_
  rintro e w1 ⟨rfl, hb1⟩
  clear hc
  have hz1 := hb1.size
  have k1 : w1.heap[w.heap.size]? = some (.cells #[.int .i64 0, .int .i64 0, .string ⟨#[]⟩, .slice none 0 0, .slice none 0 0, .slice none 0 0, .slice none 0 0] 27 (0, 0)) := (hb1.block _ (by omega)).trans k0
  have hbb : Below w.heap.size w w1 := hb0.trans (hb1.mono (by omega))
  clear hb0 hb1 k0
  obtain ⟨W, hW⟩ : ∃ W, W = w1.alloc (.cells #[.int .i64 5, .int .i64 0, .string ⟨#[]⟩, .slice none 0 0, .slice none 0 0, .slice none 0 0, .slice none 0 0] 27) := ⟨_, rfl⟩
  have hbW : Below w1.heap.size w1 W := by rw [hW]; exact (Below.refl _ _).alloc (Nat.le_refl _) _
  have hzW : W.heap.size = w1.heap.size + 1 := by rw [hW]; simp
  have kW : W.heap[w1.heap.size]? = some (.cells #[.int .i64 5, .int .i64 0, .string ⟨#[]⟩, .slice none 0 0, .slice none 0 0, .slice none 0 0, .slice none 0 0] 27 (0, 0)) := by rw [hW]; exact heap_alloc_new w1 _
  have kr : W.heap[w.heap.size]? = some (.cells #[.int .i64 0, .int .i64 0, .string ⟨#[]⟩, .slice none 0 0, .slice none 0 0, .slice none 0 0, .slice none 0 0] 27 (0, 0)) := (hbW.block _ (by omega)).trans k1
  have hbb2 : Below w.heap.size w W := hbb.trans (hbW.mono hbb.size)
  clear k1 hbb hbW
  go_wp2_with fail
  rw [← hW]
  clear hW
  go_loopw [4] (fun i wr => ∃ (j : Nat) (cs : List Value), i = .int .i64 ((j : Int) - 1) ∧ j ≤ N ∧ wr.heap[w1.heap.size]? = some (.cells cs.toArray 27 (0, 0)) ∧ VB (k + (N - j) + 1) wr (fun b => Btw lo wr.heap.size b ∧ b ≠ w.heap.size ∧ b ≠ w1.heap.size) (listV (l.drop j)) cs ∧ wr.heap[w.heap.size]? = some (.cells #[.int .i64 0, .int .i64 0, .string ⟨#[]⟩, .slice none 0 0, .slice none 0 0, .slice none 0 0, .slice none 0 0] 27 (0, 0)) ∧ Below w.heap.size w wr ∧ w1.heap.size < wr.heap.size) (fun i _ => (intOf i + 1).toNat)
  case atStart =>
    refine ⟨N, _, rfl, Nat.le_refl _, kW, ?_, kr, hbb2, by omega⟩
    rw [List.drop_eq_nil_of_le (by have := HN.out; omega)]
    exact nilVB _ _ _
  case round =>
    obtain ⟨j, cs, rfl, hj, hbox, hvb, hres, hb, hlt⟩ := hrel
    obtain ⟨a, i, s, B1, n1, d1, B2, n2, d2, B3, n3, d3, B4, n4, d4, rfl⟩ := hvb.form7
    by_cases hj0 : j = 0
    · subst hj0
      have m0' := hres
      obtain ⟨e0, e1, e2, e3, e4, e5, e6⟩ := cells7 hres
      obtain ⟨z0, z1, z2, z3, z4, z5, z6⟩ := frozen7 hres
      obtain ⟨g0, g1, g2, g3, g4, g5, g6⟩ := cells7 hbox
      have HA := Lib.hid (And.intro hvb (And.intro hb m0'))
      clear hvb hb m0' hbox hres
      go_wp2
      obtain ⟨V, hV⟩ : ∃ V, V = (((((((wr.setCell ⟨w.heap.size, 0, none⟩ (.int .i64 a)).setCell ⟨w.heap.size, 1, none⟩ (.int .i64 i)).setCell ⟨w.heap.size, 2, none⟩ (.string s)).setCell ⟨w.heap.size, 3, none⟩ (.slice B1 n1 d1)).setCell ⟨w.heap.size, 4, none⟩ (.slice B2 n2 d2)).setCell ⟨w.heap.size, 5, none⟩ (.slice B3 n3 d3)).setCell ⟨w.heap.size, 6, none⟩ (.slice B4 n4 d4)) := ⟨_, rfl⟩
      rw [← hV]
      have hob : V.heap[w.heap.size]? = some (.cells #[.int .i64 a, .int .i64 i, .string s, .slice B1 n1 d1, .slice B2 n2 d2, .slice B3 n3 d3, .slice B4 n4 d4] 27 (0, 0)) := by rw [hV]; exact obj7 HA.out.2.2 (.int .i64 a) (.int .i64 i) (.string s) (.slice B1 n1 d1) (.slice B2 n2 d2) (.slice B3 n3 d3) (.slice B4 n4 d4)
      have hBV : Below w.heap.size w V := by rw [hV]; exact Below.setCell (Below.setCell (Below.setCell (Below.setCell (Below.setCell (Below.setCell (Below.setCell (HA.out.2.1) (p := ⟨w.heap.size, 0, none⟩) (Nat.le_refl _) _) (p := ⟨w.heap.size, 1, none⟩) (Nat.le_refl _) _) (p := ⟨w.heap.size, 2, none⟩) (Nat.le_refl _) _) (p := ⟨w.heap.size, 3, none⟩) (Nat.le_refl _) _) (p := ⟨w.heap.size, 4, none⟩) (Nat.le_refl _) _) (p := ⟨w.heap.size, 5, none⟩) (Nat.le_refl _) _) (p := ⟨w.heap.size, 6, none⟩) (Nat.le_refl _) _
      have hzV : V.heap.size = wr.heap.size := by rw [hV]; simp
      have hsmV : ∀ B : Nat → Prop, ¬ B w.heap.size → Same B wr V := fun B h => by rw [hV]; exact same_setCell (same_setCell (same_setCell (same_setCell (same_setCell (same_setCell (same_setCell (Same.refl _ _) h) h) h) h) h) h) h
      clear hV e0 z0 e1 z1 e2 z2 e3 z3 e4 z4 e5 z5 e6 z6 g0 g1 g2 g3 g4 g5 g6
      obtain ⟨ps0, ps1, ps2, ps3, ps4, ps5, ps6⟩ := cells7 hob
      refine bodyPost_ret (v := .agg #[.int .i64 a, .int .i64 i, .string s, .slice B1 n1 d1, .slice B2 n2 d2, .slice B3 n3 d3, .slice B4 n4 d4]) (by simp [results, Tryz.results21, go_sem, ps0, ps1, ps2, ps3, ps4, ps5, ps6]) rfl ?_
      exact ⟨_, rfl, VB.sub (fun b hb => ⟨hb.1.1, by have := hb.1.2; omega⟩) (by omega) (VB.keep (hsmV _ (fun h => h.2.1 rfl)) HA.out.1), hBV⟩
    · obtain ⟨q, rfl⟩ : ∃ q, j = q + 1 := ⟨j - 1, by omega⟩
      obtain ⟨b, off, cap0, x0, x1, x2, x3, x4, x5, x6, hu, hbH, ⟨x, hx, hv⟩, c0, c1, c2, c3, c4, c5, c6⟩ := RowB.at7 (H := w.heap.size) (j := q) (RowB.sub HL.out (fun _ h => h.2) (fun _ _ h => h)) (by have := HN.out; omega)
      injection hu with hA hNN hcc
      subst hA
      clear hNN hcc
      have hi : ((q + 1 : Nat) : Int) - 1 = (q : Int) := by omega
      rw [hi]
      have hsw : wr.drew.heap.size = wr.heap.size := rfl
      have hszw := hb.size
      have hcons := refConsB_any (k + (N - (q + 1)) + 1) (fun b => Btw lo wr.heap.size b ∧ b ≠ w.heap.size ∧ b ≠ w1.heap.size) x (listV (l.drop (q + 1))) _ _ wr.drew (fun b h => h.1.2)
        (VB.sub (fun b h => ⟨⟨h.1, by have := h.2; omega⟩, by have := h.2; omega, by have := h.2; omega⟩) (by omega) (VB.keep (Same.of_below hb.drew (B := Btw lo w.heap.size) fun _ h => h.2) hv)) (VB.keep (Same.of_below ((Below.refl wr.heap.size wr).drew) fun _ h => h.1.2) hvb)
      have HS : ∀ wq, Below w.heap.size w wq → wq.cell? ⟨b, off + q * 7, none⟩ = some x0 ∧ wq.cell? ⟨b, off + q * 7 + 1, none⟩ = some x1 ∧ wq.cell? ⟨b, off + q * 7 + 2, none⟩ = some x2 ∧ wq.cell? ⟨b, off + q * 7 + 3, none⟩ = some x3 ∧ wq.cell? ⟨b, off + q * 7 + 4, none⟩ = some x4 ∧ wq.cell? ⟨b, off + q * 7 + 5, none⟩ = some x5 ∧ wq.cell? ⟨b, off + q * 7 + 6, none⟩ = some x6 := fun wq h => ⟨(h.cell (p := ⟨b, _, none⟩) hbH).trans c0, (h.cell (p := ⟨b, _, none⟩) hbH).trans c1, (h.cell (p := ⟨b, _, none⟩) hbH).trans c2, (h.cell (p := ⟨b, _, none⟩) hbH).trans c3, (h.cell (p := ⟨b, _, none⟩) hbH).trans c4, (h.cell (p := ⟨b, _, none⟩) hbH).trans c5, (h.cell (p := ⟨b, _, none⟩) hbH).trans c6⟩
      have kn : (q : Int) < (N : Int) := by omega
      have kn2 : q < l.length := by have := HN.out; omega
      have kn3 : (q : Int) < (l.length : Int) := by omega
      have kn4 : q < N := by omega
      have k0 : (0 : Int) ≤ (q : Int) := by omega
      have hw1 : IntKind.i64.wrap ((q : Int) - 1) = (q : Int) - 1 := IntWalk.i64_in _ (by omega)
      have HLS := Lib.hid (listV_step hx)
      have HBX := Lib.hid (And.intro hbox (And.intro hres (And.intro hb hlt)))
      have g0 : wr.drew.cell? ⟨w1.heap.size, 0, none⟩ = some (.int .i64 a) := (Lib.cell_of_heap (show wr.drew.heap[w1.heap.size]? = _ from hbox) 0).trans rfl
      have g1 : wr.drew.cell? ⟨w1.heap.size, 1, none⟩ = some (.int .i64 i) := (Lib.cell_of_heap (show wr.drew.heap[w1.heap.size]? = _ from hbox) 1).trans rfl
      have g2 : wr.drew.cell? ⟨w1.heap.size, 2, none⟩ = some (.string s) := (Lib.cell_of_heap (show wr.drew.heap[w1.heap.size]? = _ from hbox) 2).trans rfl
      have g3 : wr.drew.cell? ⟨w1.heap.size, 3, none⟩ = some (.slice B1 n1 d1) := (Lib.cell_of_heap (show wr.drew.heap[w1.heap.size]? = _ from hbox) 3).trans rfl
      have g4 : wr.drew.cell? ⟨w1.heap.size, 4, none⟩ = some (.slice B2 n2 d2) := (Lib.cell_of_heap (show wr.drew.heap[w1.heap.size]? = _ from hbox) 4).trans rfl
      have g5 : wr.drew.cell? ⟨w1.heap.size, 5, none⟩ = some (.slice B3 n3 d3) := (Lib.cell_of_heap (show wr.drew.heap[w1.heap.size]? = _ from hbox) 5).trans rfl
      have g6 : wr.drew.cell? ⟨w1.heap.size, 6, none⟩ = some (.slice B4 n4 d4) := (Lib.cell_of_heap (show wr.drew.heap[w1.heap.size]? = _ from hbox) 6).trans rfl
      clear hbox hres c0 c1 c2 c3 c4 c5 c6 hv hvb hx
      go_wp2_with fail
      refine wp_region_held_drew (S := fun wq => wq.cell? ⟨b, off + q * 7, none⟩ = some x0 ∧ wq.cell? ⟨b, off + q * 7 + 1, none⟩ = some x1 ∧ wq.cell? ⟨b, off + q * 7 + 2, none⟩ = some x2 ∧ wq.cell? ⟨b, off + q * 7 + 3, none⟩ = some x3 ∧ wq.cell? ⟨b, off + q * 7 + 4, none⟩ = some x4 ∧ wq.cell? ⟨b, off + q * 7 + 5, none⟩ = some x5 ∧ wq.cell? ⟨b, off + q * 7 + 6, none⟩ = some x6) (by kernel_rfl) (HS _ hb.drew) (fun hHeld => ?_)
      refine tk 0 hHeld ?_
      try simp only [Act.put, pA, pB, pC]
      refine tk 1 hHeld ?_
      try simp only [Act.put, pA, pB, pC]
      refine tk 2 hHeld ?_
      try simp only [Act.put, pA, pB, pC]
      refine tk 3 hHeld ?_
      try simp only [Act.put, pA, pB, pC]
      refine one_op 4 (by kernel_rfl) rfl (by rfl) (fun K hK => ?_)
      go_simp
      refine hK _ _ (HS _ hb.drew) ?_
      try simp only [Act.put, pA, pB, pC]
      refine one_op 5 (by kernel_rfl) rfl (by rfl) (fun K hK => ?_)
      go_simp
      refine hcons.mono ?_
      rintro e w10 ⟨cs', rfl, hvb', hb10⟩
      clear hcons
      obtain ⟨ra, ri, rs, R1, r1, q1, R2, r2, q2, R3, r3, q3, R4, r4, q4, rfl⟩ := hvb'.form7
      have hB10 : Below w.heap.size w w10 := hb.drew.trans (hb10.mono hszw)
      refine hK _ _ (HS _ hB10) ?_
      try simp only [Act.put, pA, pB, pC]
      have hbx := HBX.out
      have k10 : w10.heap[w1.heap.size]? = some (.cells #[.int .i64 a, .int .i64 i, .string s, .slice B1 n1 d1, .slice B2 n2 d2, .slice B3 n3 d3, .slice B4 n4 d4] 27 (0, 0)) := (hb10.block _ hbx.2.2.2).trans hbx.1
      have hres10 : w10.heap[w.heap.size]? = some (.cells #[.int .i64 0, .int .i64 0, .string ⟨#[]⟩, .slice none 0 0, .slice none 0 0, .slice none 0 0, .slice none 0 0] 27 (0, 0)) := (hb10.block _ (by have := hbx.2.2.2; show w.heap.size < wr.heap.size; omega)).trans hbx.2.1
      obtain ⟨cd0, cd1, cd2, cd3, cd4, cd5, cd6⟩ := cells7 k10
      obtain ⟨z0, z1, z2, z3, z4, z5, z6⟩ := frozen7 k10
      have hne9 : w.heap.size ≠ w1.heap.size := by omega
      have hw1w : w.heap.size ≤ w1.heap.size := by omega
      obtain ⟨V, hV⟩ : ∃ V, V = (((((((w10.setCell ⟨w1.heap.size, 0, none⟩ (Value.int .i64 ra)).setCell ⟨w1.heap.size, 1, none⟩ (Value.int .i64 ri)).setCell ⟨w1.heap.size, 2, none⟩ (Value.string rs)).setCell ⟨w1.heap.size, 3, none⟩ (Value.slice R1 r1 q1)).setCell ⟨w1.heap.size, 4, none⟩ (Value.slice R2 r2 q2)).setCell ⟨w1.heap.size, 5, none⟩ (Value.slice R3 r3 q3)).setCell ⟨w1.heap.size, 6, none⟩ (Value.slice R4 r4 q4)) := ⟨_, rfl⟩
      have hob : V.heap[w1.heap.size]? = some (.cells #[Value.int .i64 ra, Value.int .i64 ri, Value.string rs, Value.slice R1 r1 q1, Value.slice R2 r2 q2, Value.slice R3 r3 q3, Value.slice R4 r4 q4] 27 (0, 0)) := by rw [hV]; exact obj7 k10 (Value.int .i64 ra) (Value.int .i64 ri) (Value.string rs) (Value.slice R1 r1 q1) (Value.slice R2 r2 q2) (Value.slice R3 r3 q3) (Value.slice R4 r4 q4)
      have hBV : Below w.heap.size w V := by rw [hV]; exact Below.setCell (Below.setCell (Below.setCell (Below.setCell (Below.setCell (Below.setCell (Below.setCell (hB10) (p := ⟨w1.heap.size, 0, none⟩) hw1w _) (p := ⟨w1.heap.size, 1, none⟩) hw1w _) (p := ⟨w1.heap.size, 2, none⟩) hw1w _) (p := ⟨w1.heap.size, 3, none⟩) hw1w _) (p := ⟨w1.heap.size, 4, none⟩) hw1w _) (p := ⟨w1.heap.size, 5, none⟩) hw1w _) (p := ⟨w1.heap.size, 6, none⟩) hw1w _
      have hzV : V.heap.size = w10.heap.size := by rw [hV]; simp
      have hsmV : ∀ B : Nat → Prop, ¬ B w1.heap.size → Same B w10 V := fun B h => by rw [hV]; exact same_setCell (same_setCell (same_setCell (same_setCell (same_setCell (same_setCell (same_setCell (Same.refl _ _) h) h) h) h) h) h) h
      have hresV : V.heap[w.heap.size]? = some (.cells #[.int .i64 0, .int .i64 0, .string ⟨#[]⟩, .slice none 0 0, .slice none 0 0, .slice none 0 0, .slice none 0 0] 27 (0, 0)) := by rw [hV]; exact (heap_setCell_other _ _ _ _ hne9).trans ((heap_setCell_other _ _ _ _ hne9).trans ((heap_setCell_other _ _ _ _ hne9).trans ((heap_setCell_other _ _ _ _ hne9).trans ((heap_setCell_other _ _ _ _ hne9).trans ((heap_setCell_other _ _ _ _ hne9).trans ((heap_setCell_other _ _ _ _ hne9).trans (hres10)))))))
      have HF := Lib.hid (And.intro hob (And.intro hBV (And.intro hzV (And.intro hsmV hresV))))
      have HV' := Lib.hid hvb'
      have hz10 := hb10.size
      clear hob hBV hzV hsmV hresV hvb' hres10 k10
      refine one_op 6 (by kernel_rfl) rfl (by rfl) (fun K hK => ?_)
      go_simp
      rw [← hV]
      clear hV
      refine hK _ _ (HS _ HF.out.2.1) ?_
      try simp only [Act.put, pA, pB, pC]
      refine wpAnyH_done (by kernel_rfl) ?_ _
      clear cd0 cd1 cd2 cd3 cd4 cd5 cd6 z0 z1 z2 z3 z4 z5 z6 g0 g1 g2 g3 g4 g5 g6
      go_wp2_with fail
      go_roundw
      case rel =>
        have hz10' : wr.heap.size ≤ w10.heap.size := hz10
        refine ⟨q, _, by go_num, by omega, HF.out.1, ?_, HF.out.2.2.2.2, HF.out.2.1, by have := HF.out.2.2.1; have := hbx.2.2.2; omega⟩
        rw [HLS.out]
        have hq := VB.keep (HF.out.2.2.2.1 (fun b => (Btw lo wr.heap.size b ∧ b ≠ w.heap.size ∧ b ≠ w1.heap.size) ∨ Btw wr.heap.size w10.heap.size b) (fun h => by
          rcases h with h | h
          · exact h.2.2 rfl
          · have := h.1; have := hbx.2.2.2; omega)) HV'.out
        refine VB.sub (fun b hb' => ?_) (by omega) hq
        have h1 := HF.out.2.2.1
        have h2 := hbx.2.2.2
        rcases hb' with ⟨h, h', h''⟩ | h
        · exact ⟨⟨h.1, by have := h.2; omega⟩, h', h''⟩
        · exact ⟨⟨by have := h.1; omega, by have := h.2; omega⟩, by have := h.1; omega, by have := h.1; omega⟩
      case measure => simp [intOf]; try omega
end Go.Proofs.YtjfknigiehggkaaGreat
