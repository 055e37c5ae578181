/- How the document compares lists of values and entries, given how it compares values of less height. -/
import Derived.Test.YtpgnkfobgjplmaaGreatVb00
import Derived.Test.YtpgnkfobgjplmaaGreatProg
import Derived.Lib.Builder
import Derived.WalkKit
import Derived.Lib.Hide
import Derived.BigFrame
import Derived.BigQuiet
namespace Go.Proofs.YtpgnkfobgjplmaaGreat
open Go Go.RowKit
theorem cmpVs_app : ∀ {p q : List Vl} (l m : List Vl), p.length = q.length → cmpVs (p ++ l) (q ++ m) = thn (cmpVs p q) (cmpVs l m)
  | [], [], l, m, _ => by simp [cmpVs, thn]
  | a :: p, b :: q, l, m, h => by
    simp only [List.cons_append, cmpVs, cmpVs_app l m (show p.length = q.length by simpa using h), thn_assoc]
theorem cmpVs_step {l m : List Vl} {j : Nat} {x y : Vl} (hx : l[j]? = some x) (hy : m[j]? = some y) (h0 : cmpVs (l.take j) (m.take j) = 0) :
    (cmpV x y ≠ 0 → cmpVs l m = cmpV x y) ∧ (cmpV x y = 0 → cmpVs (l.take (j + 1)) (m.take (j + 1)) = 0) := by
  have hjl := (List.getElem?_eq_some_iff.1 hx).1
  have hjm := (List.getElem?_eq_some_iff.1 hy).1
  have e1 : l.take (j + 1) = l.take j ++ [x] := by rw [List.take_add_one, hx]; rfl
  have e2 : m.take (j + 1) = m.take j ++ [y] := by rw [List.take_add_one, hy]; rfl
  have hlen : (l.take j).length = (m.take j).length := by rw [List.length_take, List.length_take]; omega
  have h1 : cmpVs (l.take (j + 1)) (m.take (j + 1)) = cmpV x y := by
    rw [e1, e2, cmpVs_app _ _ hlen, h0]
    show cmpVs [x] [y] = cmpV x y
    simp only [cmpVs, thn_zero_right]
  refine ⟨fun hne => ?_, fun h => by rw [h1, h]⟩
  have := cmpVs_app (p := l.take (j + 1)) (q := m.take (j + 1)) (l.drop (j + 1)) (m.drop (j + 1)) (by rw [List.length_take, List.length_take]; omega)
  rw [List.take_append_drop, List.take_append_drop, h1, thn_of hne] at this
  exact this
theorem step_below {H : Nat} {W0 w w' : World} (h : Below H W0 w) (hz : H ≤ W0.heap.size) (hb : Below w.heap.size w w') : Below H W0 w' := h.trans (hb.mono (Nat.le_trans hz h.size))
theorem ret_i {a b : Int} (h : a = b) : Ending.returned (.int .i64 a) = .returned (.int .i64 b) := by rw [h]
theorem order_any (a b : Int) (w : World) : Calls Tryz.prog 89 #[.int .i64 a, .int .i64 b] w fun e w' => e = .returned (.int .i64 (cmpI a b)) ∧ w = w' := by
  go_enter Tryz.func89, Tryz.ntmps89
  go_wp2
  all_goals go_ret
  all_goals exact ⟨ret_i (by unfold cmpI; (repeat' split) <;> first | rfl | omega), rfl⟩
theorem count_any (a b : Int) (w : World) : Calls Tryz.prog 88 #[.int .i64 a, .int .i64 b] w fun e w' => e = .returned (.int .i64 (cmpI a b)) ∧ w = w' := by
  go_enter Tryz.func88, Tryz.ntmps88
  go_wp2_with (go_at_call 89; refine (order_any _ _ _).mono ?_; rintro e w1 ⟨rfl, rfl⟩)
  all_goals go_ret
  all_goals exact ⟨rfl, rfl⟩
set_option maxRecDepth 100000 in
set_option maxHeartbeats 3200000 in
theorem values_any (k : Nat) (hP : Hid (∀ (a b : Vl) (ca cb : List Value) (w : World), VS k w w.heap.size a ca → VS k w w.heap.size b cb → Calls Tryz.prog 49 #[.agg ca.toArray, .agg cb.toArray] w fun e w' => e = .returned (.int .i64 (cmpV a b)) ∧ Below w.heap.size w w'))
    (A A' : Option Addr) (c c' : Nat) (l m : List Vl) (w : World) (hl : RowP w w.heap.size 7 (.slice A l.length c) l.length (fun j cs => ∃ x, l[j]? = some x ∧ VS k w w.heap.size x cs))
    (hm : RowP w w.heap.size 7 (.slice A' m.length c') m.length (fun j cs => ∃ x, m[j]? = some x ∧ VS k w w.heap.size x cs)) :
    Calls Tryz.prog 48 #[.slice A l.length c, .slice A' m.length c'] w fun e w' => e = .returned (.int .i64 (thn (cmpI l.length m.length) (cmpVs l m))) ∧ Below w.heap.size w w' := by
  have HL := Lib.hid hl
  have HM := Lib.hid hm
  obtain ⟨_, _, _, hln⟩ := hl.form
  obtain ⟨_, _, _, hmn⟩ := hm.form
  unfold maxLen at hln hmn
  clear hl hm
  by_cases he : l.length = m.length
  · have q : ((l.length : Int) != (m.length : Int)) = false := by rw [bne_eq_false_iff_eq]; omega
    have HT : Hid (thn (cmpI l.length m.length) (cmpVs l m) = cmpVs l m) := Lib.hid (by rw [cmpI_zero.2 (by omega)]; rfl)
    have HE := Lib.hid he
    clear he
    go_enter Tryz.func48, Tryz.ntmps48
    go_wp2_with fail
    go_loopw [5, 6] (fun i _ wr => ∃ j : Nat, i = .int .i64 j ∧ j ≤ l.length ∧ cmpVs (l.take j) (m.take j) = 0 ∧ Below w.heap.size w wr) (fun i _ _ => l.length - (intOf i).toNat)
    case atStart => exact ⟨0, rfl, by omega, by simp [cmpVs], Below.refl _ _⟩
    case round =>
      obtain ⟨j, rfl, hj, h0, hb⟩ := hrel
      by_cases hjn : j < l.length
      · obtain ⟨b, off, cap0, x0, x1, x2, x3, x4, x5, x6, hu, hbH, ⟨x, hx, hv⟩, c0, c1, c2, c3, c4, c5, c6⟩ := (HL.out.on hb (fun _ _ h => h)).at7 hjn
        obtain ⟨b', off', cap0', y0, y1, y2, y3, y4, y5, y6, hu', hbH', ⟨y, hy, hv'⟩, d0, d1, d2, d3, d4, d5, d6⟩ := (HM.out.on hb (fun _ _ h => h)).at7 (show j < m.length by have := HE.out; omega)
        injection hu with hA _ hcap
        subst hA hcap
        injection hu' with hA' _ hcap'
        subst hA' hcap'
        have kn : (j : Int) < (l.length : Int) := by omega
        have km : (j : Int) < (m.length : Int) := by have := HE.out; omega
        have k0 : (0 : Int) ≤ (j : Int) := by omega
        have HS := Lib.hid (cmpVs_step hx hy h0)
        have HB := Lib.hid hb
        have HVX : Hid (∀ wq, Below wr.heap.size wr wq → VS k wq wq.heap.size x [x0, x1, x2, x3, x4, x5, x6]) := Lib.hid (fun wq h => VS.up (Nat.le_trans hb.size h.size) (Nat.le_refl _) (VS.on (hb.trans (h.mono hb.size)) hv))
        have HVY : Hid (∀ wq, Below wr.heap.size wr wq → VS k wq wq.heap.size y [y0, y1, y2, y3, y4, y5, y6]) := Lib.hid (fun wq h => VS.up (Nat.le_trans hb.size h.size) (Nat.le_refl _) (VS.on (hb.trans (h.mono hb.size)) hv'))
        have hz := hb.size
        have HK : Hid (∀ wq, Below wr.heap.size wr wq → wq.cell? ⟨b, off + j * 7, none⟩ = some x0 ∧ wq.cell? ⟨b, off + j * 7 + 1, none⟩ = some x1 ∧ wq.cell? ⟨b, off + j * 7 + 2, none⟩ = some x2 ∧ wq.cell? ⟨b, off + j * 7 + 3, none⟩ = some x3 ∧ wq.cell? ⟨b, off + j * 7 + 4, none⟩ = some x4 ∧ wq.cell? ⟨b, off + j * 7 + 5, none⟩ = some x5 ∧ wq.cell? ⟨b, off + j * 7 + 6, none⟩ = some x6 ∧ wq.cell? ⟨b', off' + j * 7, none⟩ = some y0 ∧ wq.cell? ⟨b', off' + j * 7 + 1, none⟩ = some y1 ∧ wq.cell? ⟨b', off' + j * 7 + 2, none⟩ = some y2 ∧ wq.cell? ⟨b', off' + j * 7 + 3, none⟩ = some y3 ∧ wq.cell? ⟨b', off' + j * 7 + 4, none⟩ = some y4 ∧ wq.cell? ⟨b', off' + j * 7 + 5, none⟩ = some y5 ∧ wq.cell? ⟨b', off' + j * 7 + 6, none⟩ = some y6) := Lib.hid (fun wq h => ⟨(h.cell (p := ⟨_, _, none⟩) (by show b < _; omega)).trans c0, (h.cell (p := ⟨_, _, none⟩) (by show b < _; omega)).trans c1, (h.cell (p := ⟨_, _, none⟩) (by show b < _; omega)).trans c2, (h.cell (p := ⟨_, _, none⟩) (by show b < _; omega)).trans c3, (h.cell (p := ⟨_, _, none⟩) (by show b < _; omega)).trans c4, (h.cell (p := ⟨_, _, none⟩) (by show b < _; omega)).trans c5, (h.cell (p := ⟨_, _, none⟩) (by show b < _; omega)).trans c6, (h.cell (p := ⟨_, _, none⟩) (by show b' < _; omega)).trans d0, (h.cell (p := ⟨_, _, none⟩) (by show b' < _; omega)).trans d1, (h.cell (p := ⟨_, _, none⟩) (by show b' < _; omega)).trans d2, (h.cell (p := ⟨_, _, none⟩) (by show b' < _; omega)).trans d3, (h.cell (p := ⟨_, _, none⟩) (by show b' < _; omega)).trans d4, (h.cell (p := ⟨_, _, none⟩) (by show b' < _; omega)).trans d5, (h.cell (p := ⟨_, _, none⟩) (by show b' < _; omega)).trans d6⟩)
        clear hx hy h0 hb hv hv' c0 c1 c2 c3 c4 c5 c6 d0 d1 d2 d3 d4 d5 d6
        go_wp2_with fail
        refine wp_region_held_drew (S := fun wq => wq.cell? ⟨b, off + j * 7, none⟩ = some x0 ∧ wq.cell? ⟨b, off + j * 7 + 1, none⟩ = some x1 ∧ wq.cell? ⟨b, off + j * 7 + 2, none⟩ = some x2 ∧ wq.cell? ⟨b, off + j * 7 + 3, none⟩ = some x3 ∧ wq.cell? ⟨b, off + j * 7 + 4, none⟩ = some x4 ∧ wq.cell? ⟨b, off + j * 7 + 5, none⟩ = some x5 ∧ wq.cell? ⟨b, off + j * 7 + 6, none⟩ = some x6 ∧ wq.cell? ⟨b', off' + j * 7, none⟩ = some y0 ∧ wq.cell? ⟨b', off' + j * 7 + 1, none⟩ = some y1 ∧ wq.cell? ⟨b', off' + j * 7 + 2, none⟩ = some y2 ∧ wq.cell? ⟨b', off' + j * 7 + 3, none⟩ = some y3 ∧ wq.cell? ⟨b', off' + j * 7 + 4, none⟩ = some y4 ∧ wq.cell? ⟨b', off' + j * 7 + 5, none⟩ = some y5 ∧ wq.cell? ⟨b', off' + j * 7 + 6, none⟩ = some y6) (by kernel_rfl) (HK.out _ (Below.refl _ _).drew) (fun _ => ?_)
        have hB9 : Below wr.heap.size wr wr.drew := (Below.refl _ _).drew
        refine take_op (i := 0) (v := _) rfl (by kernel_rfl) (by kernel_rfl) (by kernel_rfl) (fun _ _ _ h => h) (Or.inl ⟨by rfl, (by intro w hSw; (try dsimp only at hSw); go_simp; try with_reducible rfl)⟩) (HK.out _ hB9) ?_
        try simp only [Act.put, List.setIfInBounds_toArray, List.set_cons_zero, List.set_cons_succ]
        refine take_op (i := 1) (v := _) rfl (by kernel_rfl) (by kernel_rfl) (by kernel_rfl) (fun _ _ _ h => h) (Or.inl ⟨by rfl, (by intro w hSw; (try dsimp only at hSw); go_simp; try with_reducible rfl)⟩) (HK.out _ hB9) ?_
        try simp only [Act.put, List.setIfInBounds_toArray, List.set_cons_zero, List.set_cons_succ]
        refine take_op (i := 2) (v := _) rfl (by kernel_rfl) (by kernel_rfl) (by kernel_rfl) (fun _ _ _ h => h) (Or.inl ⟨by rfl, (by intro w hSw; (try dsimp only at hSw); go_simp; try with_reducible rfl)⟩) (HK.out _ hB9) ?_
        try simp only [Act.put, List.setIfInBounds_toArray, List.set_cons_zero, List.set_cons_succ]
        refine take_op (i := 3) (v := _) rfl (by kernel_rfl) (by kernel_rfl) (by kernel_rfl) (fun _ _ _ h => h) (Or.inl ⟨by rfl, (by intro w hSw; (try dsimp only at hSw); go_simp; try with_reducible rfl)⟩) (HK.out _ hB9) ?_
        try simp only [Act.put, List.setIfInBounds_toArray, List.set_cons_zero, List.set_cons_succ]
        refine take_op (i := 4) (v := _) rfl (by kernel_rfl) (by kernel_rfl) (by kernel_rfl) (fun _ _ _ h => h) (Or.inl ⟨by rfl, (by intro w hSw; (try dsimp only at hSw); go_simp; try with_reducible rfl)⟩) (HK.out _ hB9) ?_
        try simp only [Act.put, List.setIfInBounds_toArray, List.set_cons_zero, List.set_cons_succ]
        refine take_op (i := 5) (v := _) rfl (by kernel_rfl) (by kernel_rfl) (by kernel_rfl) (fun _ _ _ h => h) (Or.inl ⟨by rfl, (by intro w hSw; (try dsimp only at hSw); go_simp; try with_reducible rfl)⟩) (HK.out _ hB9) ?_
        try simp only [Act.put, List.setIfInBounds_toArray, List.set_cons_zero, List.set_cons_succ]
        refine take_op (i := 6) (v := _) rfl (by kernel_rfl) (by kernel_rfl) (by kernel_rfl) (fun _ _ _ h => h) (Or.inl ⟨by rfl, (by intro w hSw; (try dsimp only at hSw); go_simp; try with_reducible rfl)⟩) (HK.out _ hB9) ?_
        try simp only [Act.put, List.setIfInBounds_toArray, List.set_cons_zero, List.set_cons_succ]
        refine take_op (i := 7) (v := _) rfl (by kernel_rfl) (by kernel_rfl) (by kernel_rfl) (fun _ _ _ h => h) (Or.inl ⟨by rfl, (by intro w hSw; (try dsimp only at hSw); go_simp; try with_reducible rfl)⟩) (HK.out _ hB9) ?_
        try simp only [Act.put, List.setIfInBounds_toArray, List.set_cons_zero, List.set_cons_succ]
        refine one_op 8 (by kernel_rfl) rfl (by rfl) (fun K hK => ?_)
        go_simp
        refine (hP.out x y _ _ _ (HVX.out _ hB9) (HVY.out _ hB9)).mono ?_
        rintro e w10 ⟨rfl, hb10⟩
        have hB10 : Below wr.heap.size wr w10 := step_below hB9 (Nat.le_refl _) hb10
        clear hb10 hB9
        refine hK _ _ (HK.out _ hB10) ?_
        try simp only [Act.put, List.setIfInBounds_toArray, List.set_cons_zero, List.set_cons_succ]
        clear hK K
        refine take_op (i := 9) (v := _) rfl (by kernel_rfl) (by kernel_rfl) (by kernel_rfl) (fun _ _ _ h => h) (Or.inl ⟨by rfl, (by intro w hSw; (try dsimp only at hSw); go_simp; try with_reducible rfl)⟩) (HK.out _ hB10) ?_
        try simp only [Act.put, List.setIfInBounds_toArray, List.set_cons_zero, List.set_cons_succ]
        refine wpAnyH_done (by kernel_rfl) ?_ _
        generalize cmpV x y = z at HS
        by_cases hz0 : z = 0
        · have q2 : (z != 0) = false := by rw [bne_eq_false_iff_eq]; exact hz0
          go_wp2
          go_roundw
          case rel => exact ⟨j + 1, by go_num, by omega, HS.out.2 hz0, HB.out.trans (hB10.mono HB.out.size)⟩
          case measure => simp [intOf]; omega
        · have q2 : (z != 0) = true := by rw [bne_iff_ne]; exact hz0
          go_wp2
          go_ret
          exact ⟨ret_i (by rw [HT.out, HS.out.1 hz0]), HB.out.trans (hB10.mono HB.out.size)⟩
      · have hjl : l.take j = l := List.take_of_length_le (by omega)
        have hjm : m.take j = m := List.take_of_length_le (by have := HE.out; omega)
        rw [hjl, hjm] at h0
        have HZ := Lib.hid h0
        go_wp2
        go_ret
        exact ⟨ret_i (by rw [HT.out, HZ.out]), hb⟩
  · have q : ((l.length : Int) != (m.length : Int)) = true := by rw [bne_iff_ne]; omega
    have HT : Hid (thn (cmpI l.length m.length) (cmpVs l m) = cmpI l.length m.length) := Lib.hid (thn_of (fun h => he (by have := cmpI_zero.1 h; omega)) _)
    go_enter Tryz.func48, Tryz.ntmps48
    go_wp2_with (go_at_call 88; refine (count_any _ _ _).mono ?_; rintro e w1 ⟨rfl, rfl⟩)
    all_goals go_ret
    all_goals exact ⟨ret_i (by rw [HT.out]), Below.refl _ _⟩
theorem new_at' {w : World} (o : Obj) {n : Nat} (h : w.heap.size = n) : (w.alloc o).heap[n]? = some o := by rw [← h]; exact heap_alloc_new w o
/-- an entry lies in the nine cells cs -/
def ES (k : Nat) (w : World) (H : Nat) (e : En) (cs : List Value) : Prop :=
  ∃ args fails result, e = .mk args fails result ∧ ∃ ua rs, cs = ua :: .bool fails :: rs ∧ RowP w H 7 ua args.length (fun j cs => ∃ x, args[j]? = some x ∧ VS k w H x cs) ∧ VS k w H result rs
set_option maxRecDepth 100000 in
set_option maxHeartbeats 3200000 in
theorem entries_any (k : Nat) (hP : Hid (∀ (a b : Vl) (ca cb : List Value) (w : World), VS k w w.heap.size a ca → VS k w w.heap.size b cb → Calls Tryz.prog 49 #[.agg ca.toArray, .agg cb.toArray] w fun e w' => e = .returned (.int .i64 (cmpV a b)) ∧ Below w.heap.size w w'))
    (e e' : En) (cs cs' : List Value) (w : World) (he : ES k w w.heap.size e cs) (he' : ES k w w.heap.size e' cs') :
    Calls Tryz.prog 91 #[.agg cs.toArray, .agg cs'.toArray] w fun r w' => r = .returned (.int .i64 (cmpE e e')) ∧ Below w.heap.size w w' := by
  obtain ⟨l, f, r, rfl, ua, rs, rfl, hl, hr⟩ := he
  obtain ⟨m, f', r', rfl, ua', rs', rfl, hm, hr'⟩ := he'
  obtain ⟨A, c, rfl, _⟩ := hl.form
  obtain ⟨A', c', rfl, _⟩ := hm.form
  obtain ⟨a1, i1, s1, B1, n1, d1, B2, n2, d2, B3, n3, d3, B4, n4, d4, rfl⟩ := hr.form7
  obtain ⟨a1', i1', s1', B1', n1', d1', B2', n2', d2', B3', n3', d3', B4', n4', d4', rfl⟩ := hr'.form7
  obtain ⟨W, hW⟩ : ∃ W, W = ((w.alloc (.cells #[.slice A l.length c, .bool f, .int .i64 a1, .int .i64 i1, .string s1, .slice B1 n1 d1, .slice B2 n2 d2, .slice B3 n3 d3, .slice B4 n4 d4] 55)).alloc (.cells #[.slice A' m.length c', .bool f', .int .i64 a1', .int .i64 i1', .string s1', .slice B1' n1' d1', .slice B2' n2' d2', .slice B3' n3' d3', .slice B4' n4' d4'] 55)) := ⟨_, rfl⟩
  have hb : Below w.heap.size w W := by rw [hW]; exact ((Below.refl _ _).alloc (Nat.le_refl _) _).alloc (by simp) _
  have hz : W.heap.size = w.heap.size + 2 := by rw [hW]; simp
  have k1 : W.heap[w.heap.size]? = some (.cells #[.slice A l.length c, .bool f, .int .i64 a1, .int .i64 i1, .string s1, .slice B1 n1 d1, .slice B2 n2 d2, .slice B3 n3 d3, .slice B4 n4 d4] 55 (0, 0)) := by
    rw [hW, Below.heap_alloc _ _ _ (by simp)]
    exact heap_alloc_new w _
  have k2 : W.heap[w.heap.size + 1]? = some (.cells #[.slice A' m.length c', .bool f', .int .i64 a1', .int .i64 i1', .string s1', .slice B1' n1' d1', .slice B2' n2' d2', .slice B3' n3' d3', .slice B4' n4' d4'] 55 (0, 0)) := by
    rw [hW]
    exact new_at' _ (by simp)
  have hv := values_any k hP A A' c c' l m W ((hl.on hb fun _ _ ⟨x, h1, h2⟩ => ⟨x, h1, VS.up hb.size (Nat.le_refl _) (VS.on hb h2)⟩).mono hb.size fun _ _ h => h) ((hm.on hb fun _ _ ⟨x, h1, h2⟩ => ⟨x, h1, VS.up hb.size (Nat.le_refl _) (VS.on hb h2)⟩).mono hb.size fun _ _ h => h)
  have e0 : W.cell? ⟨w.heap.size, 0, none⟩ = some (.slice A l.length c) := (Lib.cell_of_heap k1 0).trans rfl
  have e1 : W.cell? ⟨w.heap.size + 1, 0, none⟩ = some (.slice A' m.length c') := (Lib.cell_of_heap k2 0).trans rfl
  have K1 := Lib.hid k1
  have K2 := Lib.hid k2
  have HB := Lib.hid hb
  have HR := Lib.hid hr
  have HR' := Lib.hid hr'
  have HT : Hid (cmpE (.mk l f r) (.mk m f' r') = thn (thn (cmpI l.length m.length) (cmpVs l m)) (thn (cmpF f f') (cmpV r r'))) := Lib.hid (by rw [cmpE, thn_assoc])
  generalize thn (cmpI l.length m.length) (cmpVs l m) = z at hv HT
  clear hl hm hr hr' k1 k2 hb
  go_enter Tryz.func91, Tryz.ntmps91
  go_wp2_with fail
  rw [← hW]
  clear hW
  go_wp2_with (go_at_call 48; refine hv.mono ?_; rintro e w1 ⟨rfl, hb1⟩; refine Hid.out ?_)
  refine Lib.hid ?_
  have HB1 := Lib.hid (HB.out.trans (hb1.mono HB.out.size))
  clear hv e0 e1
  by_cases h0 : z = 0
  · have q : (z != 0) = false := by rw [bne_eq_false_iff_eq]; exact h0
    have HU : Hid (cmpE (.mk l f r) (.mk m f' r') = thn (cmpF f f') (cmpV r r')) := Lib.hid (by rw [HT.out, h0]; rfl)
    have g1 : w1.cell? ⟨w.heap.size, 1, none⟩ = some (.bool f) := (hb1.cell (p := ⟨_, 1, none⟩) (by show w.heap.size < _; omega)).trans ((Lib.cell_of_heap K1.out 1).trans rfl)
    have g2 : w1.cell? ⟨w.heap.size + 1, 1, none⟩ = some (.bool f') := (hb1.cell (p := ⟨_, 1, none⟩) (by show w.heap.size + 1 < _; omega)).trans ((Lib.cell_of_heap K2.out 1).trans rfl)
    by_cases hf : f = f'
    · subst hf
      have HV : Hid (cmpE (.mk l f r) (.mk m f r') = cmpV r r') := Lib.hid (by rw [HU.out, cmpF, if_pos rfl]; rfl)
      have p2 : w1.cell? ⟨w.heap.size, 2, none⟩ = some (.int .i64 a1) := (hb1.cell (p := ⟨_, 2, none⟩) (by show w.heap.size < _; omega)).trans ((Lib.cell_of_heap K1.out 2).trans rfl)
      have p3 : w1.cell? ⟨w.heap.size, 3, none⟩ = some (.int .i64 i1) := (hb1.cell (p := ⟨_, 3, none⟩) (by show w.heap.size < _; omega)).trans ((Lib.cell_of_heap K1.out 3).trans rfl)
      have p4 : w1.cell? ⟨w.heap.size, 4, none⟩ = some (.string s1) := (hb1.cell (p := ⟨_, 4, none⟩) (by show w.heap.size < _; omega)).trans ((Lib.cell_of_heap K1.out 4).trans rfl)
      have p5 : w1.cell? ⟨w.heap.size, 5, none⟩ = some (.slice B1 n1 d1) := (hb1.cell (p := ⟨_, 5, none⟩) (by show w.heap.size < _; omega)).trans ((Lib.cell_of_heap K1.out 5).trans rfl)
      have p6 : w1.cell? ⟨w.heap.size, 6, none⟩ = some (.slice B2 n2 d2) := (hb1.cell (p := ⟨_, 6, none⟩) (by show w.heap.size < _; omega)).trans ((Lib.cell_of_heap K1.out 6).trans rfl)
      have p7 : w1.cell? ⟨w.heap.size, 7, none⟩ = some (.slice B3 n3 d3) := (hb1.cell (p := ⟨_, 7, none⟩) (by show w.heap.size < _; omega)).trans ((Lib.cell_of_heap K1.out 7).trans rfl)
      have p8 : w1.cell? ⟨w.heap.size, 8, none⟩ = some (.slice B4 n4 d4) := (hb1.cell (p := ⟨_, 8, none⟩) (by show w.heap.size < _; omega)).trans ((Lib.cell_of_heap K1.out 8).trans rfl)
      have r2 : w1.cell? ⟨w.heap.size + 1, 2, none⟩ = some (.int .i64 a1') := (hb1.cell (p := ⟨_, 2, none⟩) (by show w.heap.size + 1 < _; omega)).trans ((Lib.cell_of_heap K2.out 2).trans rfl)
      have r3 : w1.cell? ⟨w.heap.size + 1, 3, none⟩ = some (.int .i64 i1') := (hb1.cell (p := ⟨_, 3, none⟩) (by show w.heap.size + 1 < _; omega)).trans ((Lib.cell_of_heap K2.out 3).trans rfl)
      have r4 : w1.cell? ⟨w.heap.size + 1, 4, none⟩ = some (.string s1') := (hb1.cell (p := ⟨_, 4, none⟩) (by show w.heap.size + 1 < _; omega)).trans ((Lib.cell_of_heap K2.out 4).trans rfl)
      have r5 : w1.cell? ⟨w.heap.size + 1, 5, none⟩ = some (.slice B1' n1' d1') := (hb1.cell (p := ⟨_, 5, none⟩) (by show w.heap.size + 1 < _; omega)).trans ((Lib.cell_of_heap K2.out 5).trans rfl)
      have r6 : w1.cell? ⟨w.heap.size + 1, 6, none⟩ = some (.slice B2' n2' d2') := (hb1.cell (p := ⟨_, 6, none⟩) (by show w.heap.size + 1 < _; omega)).trans ((Lib.cell_of_heap K2.out 6).trans rfl)
      have r7 : w1.cell? ⟨w.heap.size + 1, 7, none⟩ = some (.slice B3' n3' d3') := (hb1.cell (p := ⟨_, 7, none⟩) (by show w.heap.size + 1 < _; omega)).trans ((Lib.cell_of_heap K2.out 7).trans rfl)
      have r8 : w1.cell? ⟨w.heap.size + 1, 8, none⟩ = some (.slice B4' n4' d4') := (hb1.cell (p := ⟨_, 8, none⟩) (by show w.heap.size + 1 < _; omega)).trans ((Lib.cell_of_heap K2.out 8).trans rfl)
      have hc := hP.out r r' _ _ w1 (VS.up HB1.out.size (Nat.le_refl _) (VS.on HB1.out HR.out)) (VS.up HB1.out.size (Nat.le_refl _) (VS.on HB1.out HR'.out))
      clear hb1 h0
      cases f
      all_goals
        go_wp2_with (go_at_call 49; refine hc.mono ?_; rintro e w2 ⟨rfl, hb2⟩; refine Hid.out ?_)
        refine Lib.hid ?_
        go_wp2
        go_ret
        exact ⟨ret_i (by rw [HV.out]), HB1.out.trans (hb2.mono HB1.out.size)⟩
    · have HV : Hid (cmpE (.mk l f r) (.mk m f' r') = cmpF f f') := Lib.hid (by rw [HU.out]; exact thn_of (by rw [cmpF, if_neg hf]; cases f <;> simp) _)
      clear hb1 h0
      cases f <;> cases f'
      · exact absurd rfl hf
      · clear hf
        go_wp2
        go_ret
        exact ⟨ret_i (by rw [HV.out]; rfl), HB1.out⟩
      · clear hf
        go_wp2
        go_ret
        exact ⟨ret_i (by rw [HV.out]; rfl), HB1.out⟩
      · exact absurd rfl hf
  · have q : (z != 0) = true := by rw [bne_iff_ne]; exact h0
    have HU : Hid (cmpE (.mk l f r) (.mk m f' r') = z) := Lib.hid (by rw [HT.out]; exact thn_of h0 _)
    clear h0 hb1
    go_wp2
    go_ret
    exact ⟨ret_i (by rw [HU.out]), HB1.out⟩
end Go.Proofs.YtpgnkfobgjplmaaGreat
