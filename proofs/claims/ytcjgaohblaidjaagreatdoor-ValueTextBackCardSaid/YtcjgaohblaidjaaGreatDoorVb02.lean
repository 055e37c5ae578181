/- How the document compares lists of values and entries, given how it compares values of less height. -/
import Derived.Test.YtcjgaohblaidjaaGreatDoorVb00
import Derived.Test.YtcjgaohblaidjaaGreatDoorVb01
import Derived.Test.YtcjgaohblaidjaaGreatDoorProg
import Derived.Lib.Builder
import Derived.WalkKit
import Derived.Lib.Hide
import Derived.BigFrame
import Derived.BigQuiet
import Derived.Test.YtcjgaohblaidjaaGreatDoorVbShelf
import Derived.WalkSpells
import Derived.WalkLawsBesides
import Derived.Outline
import Derived.OwnWalk
import Derived.Laws.OwnMore
import Derived.Sort.Walk0
import Derived.Lib.SlicesCompact
import Derived.Shelf.Slices.Cells
import Derived.Shelf.Slices.Clone
import Derived.Shelf.Slices.CompactS
import Derived.Shelf.Slices.In.SortNone
import Derived.Shelf.Slices.SearchI
import Derived.Shelf.SlicesE.Clone
import Derived.Shelf.Small.Bits
import Derived.Shelf.Small.Strs
import Derived.Shelf.Small.Wraps
import Derived.Shelf.Sort.Plain
import Derived.Shelf.Strconv.Itoa0
import Derived.Lib.Walk
import Derived.Lib.SliceRun
import Derived.Lib.AppendZeros
import Derived.Deep.Onto
import Derived.Sort.EncStr
import Derived.Deep.AppendLies
namespace Go.Proofs.YtcjgaohblaidjaaGreatDoor
open Go Go.RowKit
theorem cmpVs_app : ∀ {p q : List Vl} (l m : List Vl), p.length = q.length → cmpVs (p ++ l) (q ++ m) = thn (cmpVs p q) (cmpVs l m)
 | [], [], l, m, _ => by simp [cmpVs, thn]
 | a :: p, b :: q, l, m, h => by
  simp only [List.cons_append, cmpVs, cmpVs_app l m (show p.length = q.length by simpa using h), thn_assoc]
theorem cmpVs_step {l m : List Vl} {j : Nat} {x y : Vl} (hx : l[j]? = some x) (hy : m[j]? = some y) (h0 : cmpVs (l.take j) (m.take j) = 0) :
  (cmpV x y ≠ 0 → cmpVs l m = cmpV x y) ∧ (cmpV x y = 0 → cmpVs (l.take (j + 1)) (m.take (j + 1)) = 0) := by
 have hjl := (List.getElem?_eq_some_iff.1 hx).1
 have hjm := (List.getElem?_eq_some_iff.1 hy).1
 have e1 : l.take (j + 1) = l.take j ++ [x] := by rw [List.take_add_one, hx]; rfl
 have e2 : m.take (j + 1) = m.take j ++ [y] := by rw [List.take_add_one, hy]; rfl
 have hlen : (l.take j).length = (m.take j).length := by rw [List.length_take, List.length_take]; omega
 have h1 : cmpVs (l.take (j + 1)) (m.take (j + 1)) = cmpV x y := by
  rw [e1, e2, cmpVs_app _ _ hlen, h0]
  show cmpVs [x] [y] = cmpV x y
  simp only [cmpVs, thn_zero_right]
 refine ⟨fun hne => ?_, fun h => by rw [h1, h]⟩
 have := cmpVs_app (p := l.take (j + 1)) (q := m.take (j + 1)) (l.drop (j + 1)) (m.drop (j + 1)) (by rw [List.length_take, List.length_take]; omega)
 rw [List.take_append_drop, List.take_append_drop, h1, thn_of hne] at this
 exact this
theorem step_below {H : Nat} {W0 w w' : World} (h : Below H W0 w) (hz : H ≤ W0.heap.size) (hb : Below w.heap.size w w') : Below H W0 w' := h.trans (hb.mono (Nat.le_trans hz h.size))
theorem ret_i {a b : Int} (h : a = b) : Ending.returned (.int .i64 a) = .returned (.int .i64 b) := by rw [h]
theorem order_any (a b : Int) (w : World) : Calls Tryz.prog 47 #[.int .i64 a, .int .i64 b] w fun e w' => e = .returned (.int .i64 (cmpI a b)) ∧ w = w' := by
 go_enter Tryz.func47, Tryz.ntmps47
 go_wp2
 all_goals go_ret
 all_goals exact ⟨ret_i (by unfold cmpI; (repeat' split) <;> first | rfl | omega), rfl⟩
theorem count_any (a b : Int) (w : World) : Calls Tryz.prog 46 #[.int .i64 a, .int .i64 b] w fun e w' => e = .returned (.int .i64 (cmpI a b)) ∧ w = w' := by
 go_enter Tryz.func46, Tryz.ntmps46
 go_wp2_with (go_at_call 47; refine (order_any _ _ _).mono ?_; rintro e w1 ⟨rfl, rfl⟩)
 all_goals go_ret
 all_goals exact ⟨rfl, rfl⟩
set_option maxRecDepth 100000 in
set_option maxHeartbeats 3200000 in
theorem values_any (k : Nat) (hP : Hid (∀ (a b : Vl) (ca cb : List Value) (w : World), VS k w w.heap.size a ca → VS k w w.heap.size b cb → Calls Tryz.prog 22 #[.agg ca.toArray, .agg cb.toArray] w fun e w' => e = .returned (.int .i64 (cmpV a b)) ∧ Below w.heap.size w w'))
  (A A' : Option Addr) (c c' : Nat) (l m : List Vl) (w : World) (hl : RowP w w.heap.size 7 (.slice A l.length c) l.length (fun j cs => ∃ x, l[j]? = some x ∧ VS k w w.heap.size x cs))
  (hm : RowP w w.heap.size 7 (.slice A' m.length c') m.length (fun j cs => ∃ x, m[j]? = some x ∧ VS k w w.heap.size x cs)) :
  Calls Tryz.prog 50 #[.slice A l.length c, .slice A' m.length c'] w fun e w' => e = .returned (.int .i64 (thn (cmpI l.length m.length) (cmpVs l m))) ∧ Below w.heap.size w w' := by
 have HL := Lib.hid hl
 have HM := Lib.hid hm
 obtain ⟨_, _, _, hln⟩ := hl.form
 obtain ⟨_, _, _, hmn⟩ := hm.form
 unfold maxLen at hln hmn
 clear hl hm
 by_cases he : l.length = m.length
 ·
  have q : ((l.length : Int) != (m.length : Int)) = false := by rw [bne_eq_false_iff_eq]; omega
  have HT : Hid (thn (cmpI l.length m.length) (cmpVs l m) = cmpVs l m) := Lib.hid (by rw [cmpI_zero.2 (by omega)]; rfl)
  have HE := Lib.hid he
  clear he
  go_enter Tryz.func50, Tryz.ntmps50
  go_wp2_with fail
  go_loopw [5, 6] (fun i _ wr => ∃ j : Nat, i = .int .i64 j ∧ j ≤ l.length ∧ cmpVs (l.take j) (m.take j) = 0 ∧ Below w.heap.size w wr) (fun i _ _ => l.length - (intOf i).toNat)
  case atStart => exact ⟨0, rfl, by omega, by simp [cmpVs], Below.refl _ _⟩
  case round =>
   obtain ⟨j, rfl, hj, h0, hb⟩ := hrel
   by_cases hjn : j < l.length
   ·
    obtain ⟨b, off, cap0, x0, x1, x2, x3, x4, x5, x6, hu, hbH, ⟨x, hx, hv⟩, c0, c1, c2, c3, c4, c5, c6⟩ := (HL.out.on hb (fun _ _ h => h)).at7 hjn
    obtain ⟨b', off', cap0', y0, y1, y2, y3, y4, y5, y6, hu', hbH', ⟨y, hy, hv'⟩, d0, d1, d2, d3, d4, d5, d6⟩ := (HM.out.on hb (fun _ _ h => h)).at7 (show j < m.length by have := HE.out; omega)
    injection hu with hA _ hcap
    subst hA hcap
    injection hu' with hA' _ hcap'
    subst hA' hcap'
    have kn : (j : Int) < (l.length : Int) := by omega
    have km : (j : Int) < (m.length : Int) := by have := HE.out; omega
    have k0 : (0 : Int) ≤ (j : Int) := by omega
    have HS := Lib.hid (cmpVs_step hx hy h0)
    have HB := Lib.hid hb
    have HVX : Hid (∀ wq, Below wr.heap.size wr wq → VS k wq wq.heap.size x [x0, x1, x2, x3, x4, x5, x6]) := Lib.hid (fun wq h => VS.up (Nat.le_trans hb.size h.size) (Nat.le_refl _) (VS.on (hb.trans (h.mono hb.size)) hv))
    have HVY : Hid (∀ wq, Below wr.heap.size wr wq → VS k wq wq.heap.size y [y0, y1, y2, y3, y4, y5, y6]) := Lib.hid (fun wq h => VS.up (Nat.le_trans hb.size h.size) (Nat.le_refl _) (VS.on (hb.trans (h.mono hb.size)) hv'))
    have hz := hb.size
    have HK : Hid (∀ wq, Below wr.heap.size wr wq → wq.cell? ⟨b, off + j * 7, none⟩ = some x0 ∧ wq.cell? ⟨b, off + j * 7 + 1, none⟩ = some x1 ∧ wq.cell? ⟨b, off + j * 7 + 2, none⟩ = some x2 ∧ wq.cell? ⟨b, off + j * 7 + 3, none⟩ = some x3 ∧ wq.cell? ⟨b, off + j * 7 + 4, none⟩ = some x4 ∧ wq.cell? ⟨b, off + j * 7 + 5, none⟩ = some x5 ∧ wq.cell? ⟨b, off + j * 7 + 6, none⟩ = some x6 ∧ wq.cell? ⟨b', off' + j * 7, none⟩ = some y0 ∧ wq.cell? ⟨b', off' + j * 7 + 1, none⟩ = some y1 ∧ wq.cell? ⟨b', off' + j * 7 + 2, none⟩ = some y2 ∧ wq.cell? ⟨b', off' + j * 7 + 3, none⟩ = some y3 ∧ wq.cell? ⟨b', off' + j * 7 + 4, none⟩ = some y4 ∧ wq.cell? ⟨b', off' + j * 7 + 5, none⟩ = some y5 ∧ wq.cell? ⟨b', off' + j * 7 + 6, none⟩ = some y6) := Lib.hid (fun wq h => ⟨(h.cell (p := ⟨_, _, none⟩) (by show b < _; omega)).trans c0, (h.cell (p := ⟨_, _, none⟩) (by show b < _; omega)).trans c1, (h.cell (p := ⟨_, _, none⟩) (by show b < _; omega)).trans c2, (h.cell (p := ⟨_, _, none⟩) (by show b < _; omega)).trans c3, (h.cell (p := ⟨_, _, none⟩) (by show b < _; omega)).trans c4, (h.cell (p := ⟨_, _, none⟩) (by show b < _; omega)).trans c5, (h.cell (p := ⟨_, _, none⟩) (by show b < _; omega)).trans c6, (h.cell (p := ⟨_, _, none⟩) (by show b' < _; omega)).trans d0, (h.cell (p := ⟨_, _, none⟩) (by show b' < _; omega)).trans d1, (h.cell (p := ⟨_, _, none⟩) (by show b' < _; omega)).trans d2, (h.cell (p := ⟨_, _, none⟩) (by show b' < _; omega)).trans d3, (h.cell (p := ⟨_, _, none⟩) (by show b' < _; omega)).trans d4, (h.cell (p := ⟨_, _, none⟩) (by show b' < _; omega)).trans d5, (h.cell (p := ⟨_, _, none⟩) (by show b' < _; omega)).trans d6⟩)
    clear hx hy h0 hb hv hv' c0 c1 c2 c3 c4 c5 c6 d0 d1 d2 d3 d4 d5 d6
    go_wp2_with fail
    refine wp_region_held_drew (S := fun wq => wq.cell? ⟨b, off + j * 7, none⟩ = some x0 ∧ wq.cell? ⟨b, off + j * 7 + 1, none⟩ = some x1 ∧ wq.cell? ⟨b, off + j * 7 + 2, none⟩ = some x2 ∧ wq.cell? ⟨b, off + j * 7 + 3, none⟩ = some x3 ∧ wq.cell? ⟨b, off + j * 7 + 4, none⟩ = some x4 ∧ wq.cell? ⟨b, off + j * 7 + 5, none⟩ = some x5 ∧ wq.cell? ⟨b, off + j * 7 + 6, none⟩ = some x6 ∧ wq.cell? ⟨b', off' + j * 7, none⟩ = some y0 ∧ wq.cell? ⟨b', off' + j * 7 + 1, none⟩ = some y1 ∧ wq.cell? ⟨b', off' + j * 7 + 2, none⟩ = some y2 ∧ wq.cell? ⟨b', off' + j * 7 + 3, none⟩ = some y3 ∧ wq.cell? ⟨b', off' + j * 7 + 4, none⟩ = some y4 ∧ wq.cell? ⟨b', off' + j * 7 + 5, none⟩ = some y5 ∧ wq.cell? ⟨b', off' + j * 7 + 6, none⟩ = some y6) (by kernel_rfl) (HK.out _ (Below.refl _ _).drew) (fun _ => ?_)
    have hB9 : Below wr.heap.size wr wr.drew := (Below.refl _ _).drew
    refine tk 0 (HK.out _ hB9) ?_
    try simp only [Act.put, pA, pB, pC]
    refine tk 1 (HK.out _ hB9) ?_
    try simp only [Act.put, pA, pB, pC]
    refine tk 2 (HK.out _ hB9) ?_
    try simp only [Act.put, pA, pB, pC]
    refine tk 3 (HK.out _ hB9) ?_
    try simp only [Act.put, pA, pB, pC]
    refine tk 4 (HK.out _ hB9) ?_
    try simp only [Act.put, pA, pB, pC]
    refine tk 5 (HK.out _ hB9) ?_
    try simp only [Act.put, pA, pB, pC]
    refine tk 6 (HK.out _ hB9) ?_
    try simp only [Act.put, pA, pB, pC]
    refine tk 7 (HK.out _ hB9) ?_
    try simp only [Act.put, pA, pB, pC]
    refine one_op 8 (by kernel_rfl) rfl (by rfl) (fun K hK => ?_)
    go_simp
    refine (hP.out x y _ _ _ (HVX.out _ hB9) (HVY.out _ hB9)).mono ?_
    rintro e w10 ⟨rfl, hb10⟩
    have hB10 : Below wr.heap.size wr w10 := step_below hB9 (Nat.le_refl _) hb10
    clear hb10 hB9
    refine hK _ _ (HK.out _ hB10) ?_
    try simp only [Act.put, pA, pB, pC]
    clear hK K
    refine tk 9 (HK.out _ hB10) ?_
    try simp only [Act.put, pA, pB, pC]
    refine wpAnyH_done (by kernel_rfl) ?_ _
    generalize cmpV x y = z at HS
    by_cases hz0 : z = 0
    ·
     have q2 : (z != 0) = false := by rw [bne_eq_false_iff_eq]; exact hz0
     go_wp2
     go_roundw
     case rel => exact ⟨j + 1, by go_num, by omega, HS.out.2 hz0, HB.out.trans (hB10.mono HB.out.size)⟩
     case measure => simp [intOf]; omega
    ·
     have q2 : (z != 0) = true := by rw [bne_iff_ne]; exact hz0
     go_wp2
     go_ret
     exact ⟨ret_i (by rw [HT.out, HS.out.1 hz0]), HB.out.trans (hB10.mono HB.out.size)⟩
   ·
    have hjl : l.take j = l := List.take_of_length_le (by omega)
    have hjm : m.take j = m := List.take_of_length_le (by have := HE.out; omega)
    rw [hjl, hjm] at h0
    have HZ := Lib.hid h0
    go_wp2
    go_ret
    exact ⟨ret_i (by rw [HT.out, HZ.out]), hb⟩
 ·
  have q : ((l.length : Int) != (m.length : Int)) = true := by rw [bne_iff_ne]; omega
  have HT : Hid (thn (cmpI l.length m.length) (cmpVs l m) = cmpI l.length m.length) := Lib.hid (thn_of (fun h => he (by have := cmpI_zero.1 h; omega)) _)
  go_enter Tryz.func50, Tryz.ntmps50
  go_wp2_with (go_at_call 46; refine (count_any _ _ _).mono ?_; rintro e w1 ⟨rfl, rfl⟩)
  all_goals go_ret
  all_goals exact ⟨ret_i (by rw [HT.out]), Below.refl _ _⟩
theorem new_at' {w : World} (o : Obj) {n : Nat} (h : w.heap.size = n) : (w.alloc o).heap[n]? = some o := by rw [← h]; exact heap_alloc_new w o
def ES (k : Nat) (w : World) (H : Nat) (e : En) (cs : List Value) : Prop :=
 ∃ args fails result, e = .mk args fails result ∧ ∃ ua rs, cs = ua :: .bool fails :: rs ∧ RowP w H 7 ua args.length (fun j cs => ∃ x, args[j]? = some x ∧ VS k w H x cs) ∧ VS k w H result rs
set_option maxRecDepth 100000 in
set_option maxHeartbeats 3200000 in
theorem entries_any (k : Nat) (hP : Hid (∀ (a b : Vl) (ca cb : List Value) (w : World), VS k w w.heap.size a ca → VS k w w.heap.size b cb → Calls Tryz.prog 22 #[.agg ca.toArray, .agg cb.toArray] w fun e w' => e = .returned (.int .i64 (cmpV a b)) ∧ Below w.heap.size w w'))
  (e e' : En) (cs cs' : List Value) (w : World) (he : ES k w w.heap.size e cs) (he' : ES k w w.heap.size e' cs') :
  Calls Tryz.prog 51 #[.agg cs.toArray, .agg cs'.toArray] w fun r w' => r = .returned (.int .i64 (cmpE e e')) ∧ Below w.heap.size w w' := by
 obtain ⟨l, f, r, rfl, ua, rs, rfl, hl, hr⟩ := he
 obtain ⟨m, f', r', rfl, ua', rs', rfl, hm, hr'⟩ := he'
 obtain ⟨A, c, rfl, _⟩ := hl.form
 obtain ⟨A', c', rfl, _⟩ := hm.form
 obtain ⟨a1, i1, s1, B1, n1, d1, B2, n2, d2, B3, n3, d3, B4, n4, d4, rfl⟩ := hr.form7
 obtain ⟨a1', i1', s1', B1', n1', d1', B2', n2', d2', B3', n3', d3', B4', n4', d4', rfl⟩ := hr'.form7
 obtain ⟨W, hW⟩ : ∃ W, W = ((w.alloc (.cells #[.slice A l.length c, .bool f, .int .i64 a1, .int .i64 i1, .string s1, .slice B1 n1 d1, .slice B2 n2 d2, .slice B3 n3 d3, .slice B4 n4 d4] 45)).alloc (.cells #[.slice A' m.length c', .bool f', .int .i64 a1', .int .i64 i1', .string s1', .slice B1' n1' d1', .slice B2' n2' d2', .slice B3' n3' d3', .slice B4' n4' d4'] 45)) := ⟨_, rfl⟩
 have hb : Below w.heap.size w W := by rw [hW]; exact ((Below.refl _ _).alloc (Nat.le_refl _) _).alloc (by simp) _
 have hz : W.heap.size = w.heap.size + 2 := by rw [hW]; simp
 have k1 : W.heap[w.heap.size]? = some (.cells #[.slice A l.length c, .bool f, .int .i64 a1, .int .i64 i1, .string s1, .slice B1 n1 d1, .slice B2 n2 d2, .slice B3 n3 d3, .slice B4 n4 d4] 45 (0, 0)) := by
  rw [hW, Below.heap_alloc _ _ _ (by simp)]
  exact heap_alloc_new w _
 have k2 : W.heap[w.heap.size + 1]? = some (.cells #[.slice A' m.length c', .bool f', .int .i64 a1', .int .i64 i1', .string s1', .slice B1' n1' d1', .slice B2' n2' d2', .slice B3' n3' d3', .slice B4' n4' d4'] 45 (0, 0)) := by
  rw [hW]
  exact new_at' _ (by simp)
 have hv := values_any k hP A A' c c' l m W ((hl.on hb fun _ _ ⟨x, h1, h2⟩ => ⟨x, h1, VS.up hb.size (Nat.le_refl _) (VS.on hb h2)⟩).mono hb.size fun _ _ h => h) ((hm.on hb fun _ _ ⟨x, h1, h2⟩ => ⟨x, h1, VS.up hb.size (Nat.le_refl _) (VS.on hb h2)⟩).mono hb.size fun _ _ h => h)
 have e0 : W.cell? ⟨w.heap.size, 0, none⟩ = some (.slice A l.length c) := (Lib.cell_of_heap k1 0).trans rfl
 have e1 : W.cell? ⟨w.heap.size + 1, 0, none⟩ = some (.slice A' m.length c') := (Lib.cell_of_heap k2 0).trans rfl
 have K1 := Lib.hid k1
 have K2 := Lib.hid k2
 have HB := Lib.hid hb
 have HR := Lib.hid hr
 have HR' := Lib.hid hr'
 have HT : Hid (cmpE (.mk l f r) (.mk m f' r') = thn (thn (cmpI l.length m.length) (cmpVs l m)) (thn (cmpF f f') (cmpV r r'))) := Lib.hid (by rw [cmpE, thn_assoc])
 generalize thn (cmpI l.length m.length) (cmpVs l m) = z at hv HT
 clear hl hm hr hr' k1 k2 hb
 go_enter Tryz.func51, Tryz.ntmps51
 go_wp2_with fail
 rw [← hW]
 clear hW
 go_wp2_with (go_at_call 50; refine hv.mono ?_; rintro e w1 ⟨rfl, hb1⟩; refine Hid.out ?_)
 refine Lib.hid ?_
 have HB1 := Lib.hid (HB.out.trans (hb1.mono HB.out.size))
 clear hv e0 e1
 by_cases h0 : z = 0
 ·
  have q : (z != 0) = false := by rw [bne_eq_false_iff_eq]; exact h0
  have HU : Hid (cmpE (.mk l f r) (.mk m f' r') = thn (cmpF f f') (cmpV r r')) := Lib.hid (by rw [HT.out, h0]; rfl)
  have g1 : w1.cell? ⟨w.heap.size, 1, none⟩ = some (.bool f) := (hb1.cell (p := ⟨_, 1, none⟩) (by show w.heap.size < _; omega)).trans ((Lib.cell_of_heap K1.out 1).trans rfl)
  have g2 : w1.cell? ⟨w.heap.size + 1, 1, none⟩ = some (.bool f') := (hb1.cell (p := ⟨_, 1, none⟩) (by show w.heap.size + 1 < _; omega)).trans ((Lib.cell_of_heap K2.out 1).trans rfl)
  by_cases hf : f = f'
  ·
   subst hf
   have HV : Hid (cmpE (.mk l f r) (.mk m f r') = cmpV r r') := Lib.hid (by rw [HU.out, cmpF, if_pos rfl]; rfl)
   have p2 : w1.cell? ⟨w.heap.size, 2, none⟩ = some (.int .i64 a1) := (hb1.cell (p := ⟨_, 2, none⟩) (by show w.heap.size < _; omega)).trans ((Lib.cell_of_heap K1.out 2).trans rfl)
   have p3 : w1.cell? ⟨w.heap.size, 3, none⟩ = some (.int .i64 i1) := (hb1.cell (p := ⟨_, 3, none⟩) (by show w.heap.size < _; omega)).trans ((Lib.cell_of_heap K1.out 3).trans rfl)
   have p4 : w1.cell? ⟨w.heap.size, 4, none⟩ = some (.string s1) := (hb1.cell (p := ⟨_, 4, none⟩) (by show w.heap.size < _; omega)).trans ((Lib.cell_of_heap K1.out 4).trans rfl)
   have p5 : w1.cell? ⟨w.heap.size, 5, none⟩ = some (.slice B1 n1 d1) := (hb1.cell (p := ⟨_, 5, none⟩) (by show w.heap.size < _; omega)).trans ((Lib.cell_of_heap K1.out 5).trans rfl)
   have p6 : w1.cell? ⟨w.heap.size, 6, none⟩ = some (.slice B2 n2 d2) := (hb1.cell (p := ⟨_, 6, none⟩) (by show w.heap.size < _; omega)).trans ((Lib.cell_of_heap K1.out 6).trans rfl)
   have p7 : w1.cell? ⟨w.heap.size, 7, none⟩ = some (.slice B3 n3 d3) := (hb1.cell (p := ⟨_, 7, none⟩) (by show w.heap.size < _; omega)).trans ((Lib.cell_of_heap K1.out 7).trans rfl)
   have p8 : w1.cell? ⟨w.heap.size, 8, none⟩ = some (.slice B4 n4 d4) := (hb1.cell (p := ⟨_, 8, none⟩) (by show w.heap.size < _; omega)).trans ((Lib.cell_of_heap K1.out 8).trans rfl)
   have r2 : w1.cell? ⟨w.heap.size + 1, 2, none⟩ = some (.int .i64 a1') := (hb1.cell (p := ⟨_, 2, none⟩) (by show w.heap.size + 1 < _; omega)).trans ((Lib.cell_of_heap K2.out 2).trans rfl)
   have r3 : w1.cell? ⟨w.heap.size + 1, 3, none⟩ = some (.int .i64 i1') := (hb1.cell (p := ⟨_, 3, none⟩) (by show w.heap.size + 1 < _; omega)).trans ((Lib.cell_of_heap K2.out 3).trans rfl)
   have r4 : w1.cell? ⟨w.heap.size + 1, 4, none⟩ = some (.string s1') := (hb1.cell (p := ⟨_, 4, none⟩) (by show w.heap.size + 1 < _; omega)).trans ((Lib.cell_of_heap K2.out 4).trans rfl)
   have r5 : w1.cell? ⟨w.heap.size + 1, 5, none⟩ = some (.slice B1' n1' d1') := (hb1.cell (p := ⟨_, 5, none⟩) (by show w.heap.size + 1 < _; omega)).trans ((Lib.cell_of_heap K2.out 5).trans rfl)
   have r6 : w1.cell? ⟨w.heap.size + 1, 6, none⟩ = some (.slice B2' n2' d2') := (hb1.cell (p := ⟨_, 6, none⟩) (by show w.heap.size + 1 < _; omega)).trans ((Lib.cell_of_heap K2.out 6).trans rfl)
   have r7 : w1.cell? ⟨w.heap.size + 1, 7, none⟩ = some (.slice B3' n3' d3') := (hb1.cell (p := ⟨_, 7, none⟩) (by show w.heap.size + 1 < _; omega)).trans ((Lib.cell_of_heap K2.out 7).trans rfl)
   have r8 : w1.cell? ⟨w.heap.size + 1, 8, none⟩ = some (.slice B4' n4' d4') := (hb1.cell (p := ⟨_, 8, none⟩) (by show w.heap.size + 1 < _; omega)).trans ((Lib.cell_of_heap K2.out 8).trans rfl)
   have hc := hP.out r r' _ _ w1 (VS.up HB1.out.size (Nat.le_refl _) (VS.on HB1.out HR.out)) (VS.up HB1.out.size (Nat.le_refl _) (VS.on HB1.out HR'.out))
   clear hb1 h0
   cases f
   all_goals
    go_wp2_with (go_at_call 22; refine hc.mono ?_; rintro e w2 ⟨rfl, hb2⟩; refine Hid.out ?_)
    refine Lib.hid ?_
    go_wp2
    go_ret
    exact ⟨ret_i (by rw [HV.out]), HB1.out.trans (hb2.mono HB1.out.size)⟩
  ·
   have HV : Hid (cmpE (.mk l f r) (.mk m f' r') = cmpF f f') := Lib.hid (by rw [HU.out]; exact thn_of (by rw [cmpF, if_neg hf]; cases f <;> simp) _)
   clear hb1 h0
   cases f <;> cases f'
   · exact absurd rfl hf
   ·
    clear hf
    go_wp2
    go_ret
    exact ⟨ret_i (by rw [HV.out]; rfl), HB1.out⟩
   ·
    clear hf
    go_wp2
    go_ret
    exact ⟨ret_i (by rw [HV.out]; rfl), HB1.out⟩
   · exact absurd rfl hf
 ·
  have q : (z != 0) = true := by rw [bne_iff_ne]; exact h0
  have HU : Hid (cmpE (.mk l f r) (.mk m f' r') = z) := Lib.hid (by rw [HT.out]; exact thn_of h0 _)
  clear h0 hb1
  go_wp2
  go_ret
  exact ⟨ret_i (by rw [HU.out]), HB1.out⟩
end Go.Proofs.YtcjgaohblaidjaaGreatDoor
namespace Go.Proofs.YtcjgaohblaidjaaGreatDoor
open Go Go.RowKit
theorem bytes_cmpT : ∀ a b : List UInt8, Lib.compareBytes a b = cmpT a b
 | [], [] => rfl
 | [], _ :: _ => rfl
 | _ :: _, [] => rfl
 | a :: s, b :: t => by
  unfold Lib.compareBytes cmpT
  rw [bytes_cmpT s t]
  unfold thn cmpI
  by_cases h1 : a < b
  ·
   have h2 : (a.toNat : Int) < b.toNat := by have := UInt8.lt_iff_toNat_lt.1 h1; omega
   rw [if_pos h1, if_pos h2]; rfl
  ·
   have h2 : ¬ (a.toNat : Int) < b.toNat := fun h => h1 (UInt8.lt_iff_toNat_lt.2 (by omega))
   rw [if_neg h1, if_neg h2]
   by_cases h3 : b < a
   ·
    have h4 : (b.toNat : Int) < a.toNat := by have := UInt8.lt_iff_toNat_lt.1 h3; omega
    rw [if_pos h3, if_pos h4]; rfl
   ·
    have h4 : ¬ (b.toNat : Int) < a.toNat := fun h => h3 (UInt8.lt_iff_toNat_lt.2 (by omega))
    rw [if_neg h3, if_neg h4]; rfl
theorem cmpInt_any (a b : Int) (w : World) : Calls Tryz.prog 167 #[.int .i64 a, .int .i64 b] w fun e w' => e = .returned (.int .i64 (cmpI a b)) ∧ w' = w := by
 refine (Tryz.cmp_Compare_int a b w).mono ?_
 rintro e w' ⟨rfl, rfl⟩
 exact ⟨ret_i (by unfold Lib.compareInt cmpI; (repeat' split) <;> first | rfl | omega), rfl⟩
set_option maxHeartbeats 400000 in
theorem cmpInt64_any (a b : Int) (w : World) : Calls Tryz.prog 195 #[.int .i64 a, .int .i64 b] w fun e w' => e = .returned (.int .i64 (cmpI a b)) ∧ w' = w := by
 go_enter Tryz.func195, Tryz.ntmps195
 go_wp2
 all_goals go_ret
 all_goals exact ⟨ret_i (by unfold cmpI; (repeat' split) <;> first | rfl | omega), rfl⟩
theorem strCmp_any (a b : ByteArray) (w : World) : Calls Tryz.prog 112 #[.string a, .string b] w fun e w' => e = .returned (.int .i64 (cmpT a.data.toList b.data.toList)) ∧ w' = w := by
 refine (Tryz.strings_Compare a b w).mono ?_
 rintro e w' ⟨rfl, rfl⟩
 exact ⟨ret_i (bytes_cmpT _ _), rfl⟩
set_option maxHeartbeats 400000 in
theorem cmpKeys_any (x y : Int × List UInt8) (w : World) :
  Calls Tryz.prog 145 #[.agg #[.int .i64 x.1, .string ⟨x.2.toArray⟩], .agg #[.int .i64 y.1, .string ⟨y.2.toArray⟩]] w fun e w' => e = .returned (.int .i64 (cmpK x y)) ∧ Below w.heap.size w w' := by
 obtain ⟨k1, s1⟩ := x
 obtain ⟨k2, s2⟩ := y
 by_cases h : k1 = k2
 ·
  subst h
  have hc : cmpI k1 k1 = 0 := cmpI_zero.2 rfl
  have HT : Hid (cmpK (k1, s1) (k1, s2) = cmpT s1 s2) := Lib.hid (by simp only [cmpK, hc]; rfl)
  go_enter Tryz.func145, Tryz.ntmps145
  go_wp2_with (first | (go_at_call 167; refine (cmpInt_any _ _ _).mono ?_; rintro e w' ⟨rfl, rfl⟩) | (go_at_call 112; refine (strCmp_any _ _ _).mono ?_; rintro e w' ⟨rfl, rfl⟩))
  go_ret
  exact ⟨ret_i HT.out.symm, ((Below.refl _ _).alloc (Nat.le_refl _) _).alloc (by simp) _⟩
 ·
  have hz : cmpI k1 k2 ≠ 0 := fun h0 => h (cmpI_zero.1 h0)
  have hc : (cmpI k1 k2 != 0) = true := by rw [bne_iff_ne]; exact hz
  have HT : Hid (cmpK (k1, s1) (k2, s2) = cmpI k1 k2) := Lib.hid (by simp only [cmpK, thn_of hz])
  clear hz
  go_enter Tryz.func145, Tryz.ntmps145
  go_wp2_with (first | (go_at_call 167; refine (cmpInt_any _ _ _).mono ?_; rintro e w' ⟨rfl, rfl⟩) | (go_at_call 112; refine (strCmp_any _ _ _).mono ?_; rintro e w' ⟨rfl, rfl⟩))
  go_ret
  exact ⟨ret_i HT.out.symm, ((Below.refl _ _).alloc (Nat.le_refl _) _).alloc (by simp) _⟩
theorem cmpVs_L : ∀ l m : List Vl, cmpVs l m = cmpL cmpV l m
 | a :: s, b :: t => by simp only [cmpVs, cmpL, cmpVs_L s t]
 | [], _ => by simp [cmpVs, cmpL]
 | _ :: _, [] => by simp [cmpVs, cmpL]
theorem cmpEs_L : ∀ l m : List En, cmpEs l m = cmpL cmpE l m
 | a :: s, b :: t => by simp only [cmpEs, cmpL, cmpEs_L s t]
 | [], _ => by simp [cmpEs, cmpL]
 | _ :: _, [] => by simp [cmpEs, cmpL]
theorem cmpL_app {α : Type} {c : α → α → Int} : ∀ {p q : List α} (l m : List α), p.length = q.length → cmpL c (p ++ l) (q ++ m) = thn (cmpL c p q) (cmpL c l m)
 | [], [], l, m, _ => by simp [cmpL, thn]
 | a :: p, b :: q, l, m, h => by
  simp only [List.cons_append, cmpL, cmpL_app l m (show p.length = q.length by simpa using h), thn_assoc]
theorem cmpL_step {α : Type} {c : α → α → Int} {l m : List α} {j : Nat} {x y : α} (hx : l[j]? = some x) (hy : m[j]? = some y) (h0 : cmpL c (l.take j) (m.take j) = 0) :
  (c x y ≠ 0 → cmpL c l m = c x y) ∧ (c x y = 0 → cmpL c (l.take (j + 1)) (m.take (j + 1)) = 0) := by
 have hjl := (List.getElem?_eq_some_iff.1 hx).1
 have hjm := (List.getElem?_eq_some_iff.1 hy).1
 have e1 : l.take (j + 1) = l.take j ++ [x] := by rw [List.take_add_one, hx]; rfl
 have e2 : m.take (j + 1) = m.take j ++ [y] := by rw [List.take_add_one, hy]; rfl
 have hlen : (l.take j).length = (m.take j).length := by rw [List.length_take, List.length_take]; omega
 have h1 : cmpL c (l.take (j + 1)) (m.take (j + 1)) = c x y := by
  rw [e1, e2, cmpL_app _ _ hlen, h0]
  show cmpL c [x] [y] = c x y
  simp only [cmpL, thn_zero_right]
 refine ⟨fun hne => ?_, fun h => by rw [h1, h]⟩
 have := cmpL_app (c := c) (p := l.take (j + 1)) (q := m.take (j + 1)) (l.drop (j + 1)) (m.drop (j + 1)) (by rw [List.length_take, List.length_take]; omega)
 rw [List.take_append_drop, List.take_append_drop, h1, thn_of hne] at this
 exact this
end Go.Proofs.YtcjgaohblaidjaaGreatDoor
namespace Go.Proofs.YtcjgaohblaidjaaGreatDoor
open Go Go.RowKit
theorem toList_data (s : ByteArray) : s.toList = s.data.toList := Lib.toList_data s
theorem compare_lt : ∀ {a b : List UInt8}, Op.bytesLess a b = true → Lib.compareBytes a b = -1
 | [], [], h => by simp [Op.bytesLess] at h
 | [], _ :: _, _ => rfl
 | _ :: _, [], h => by simp [Op.bytesLess] at h
 | a :: x, b :: y, h => by
  simp only [Op.bytesLess, Bool.or_eq_true, decide_eq_true_eq, Bool.and_eq_true, beq_iff_eq] at h
  unfold Lib.compareBytes
  by_cases h1 : a < b
  · rw [if_pos h1]
  ·
   rcases h with h | ⟨rfl, h⟩
   · exact absurd h h1
   · rw [if_neg h1, if_neg h1]; exact compare_lt h
theorem compare_eq {a b : List UInt8} (h : a = b) : Lib.compareBytes a b = 0 := by
 subst h
 induction a with
 | nil => rfl
 | cons x r ih => unfold Lib.compareBytes; simp [ih]
theorem compare_gt : ∀ {a b : List UInt8}, Op.bytesLess a b = false → a ≠ b → Lib.compareBytes a b = 1
 | [], [], _, h => absurd rfl h
 | [], _ :: _, h, _ => by simp [Op.bytesLess] at h
 | _ :: _, [], _, _ => rfl
 | a :: x, b :: y, h, hne => by
  simp only [Op.bytesLess, Bool.or_eq_false_iff, decide_eq_false_iff_not, Bool.and_eq_false_imp, beq_iff_eq] at h
  unfold Lib.compareBytes
  rw [if_neg h.1]
  by_cases h1 : b < a
  · rw [if_pos h1]
  ·
   rw [if_neg h1]
   have e : a = b := UInt8.le_antisymm (UInt8.not_lt.1 h1) (UInt8.not_lt.1 h.1)
   subst e
   exact compare_gt (h.2 rfl) (fun e => hne (by rw [e]))
set_option maxHeartbeats 400000 in
theorem refTextA_any (a b : ByteArray) (w : World) :
  Calls Tryz.prog 48 #[.string a, .string b] w fun e w' => e = .returned (.int .i64 (Lib.compareBytes a.data.toList b.data.toList)) ∧ w = w' := by
 go_enter Tryz.func48, Tryz.ntmps48
 go_wp2
 all_goals go_ret
 all_goals simp only [toList_data] at *
 · exact ⟨ret_i (compare_lt ‹_›).symm, trivial⟩
 · exact ⟨ret_i (compare_gt ‹_› (by simp_all)).symm, trivial⟩
 · exact ⟨ret_i (compare_eq (by simp_all)).symm, trivial⟩
theorem refText_any (a b : List UInt8) (w : World) :
  Calls Tryz.prog 48 #[.string ⟨a.toArray⟩, .string ⟨b.toArray⟩] w fun e w' => e = .returned (.int .i64 (cmpT a b)) ∧ w = w' := by
 refine (refTextA_any ⟨a.toArray⟩ ⟨b.toArray⟩ w).mono ?_
 rintro e w' ⟨rfl, rfl⟩
 exact ⟨ret_i (bytes_cmpT _ _), rfl⟩
set_option maxHeartbeats 400000 in
theorem refKeys_any (x y : Int × List UInt8) (w : World) :
  Calls Tryz.prog 49 #[.agg #[.int .i64 x.1, .string ⟨x.2.toArray⟩], .agg #[.int .i64 y.1, .string ⟨y.2.toArray⟩]] w fun e w' => e = .returned (.int .i64 (cmpK x y)) ∧ Below w.heap.size w w' := by
 obtain ⟨k1, s1⟩ := x
 obtain ⟨k2, s2⟩ := y
 by_cases h : k1 = k2
 ·
  subst h
  have hc : cmpI k1 k1 = 0 := cmpI_zero.2 rfl
  have HT : Hid (cmpK (k1, s1) (k1, s2) = cmpT s1 s2) := Lib.hid (by simp only [cmpK, hc]; rfl)
  go_enter Tryz.func49, Tryz.ntmps49
  go_wp2_with (first | (go_at_call 47; refine (order_any _ _ _).mono ?_; rintro e w' ⟨rfl, rfl⟩) | (go_at_call 48; refine (refText_any _ _ _).mono ?_; rintro e w' ⟨rfl, rfl⟩))
  go_ret
  exact ⟨ret_i HT.out.symm, ((Below.refl _ _).alloc (Nat.le_refl _) _).alloc (by simp) _⟩
 ·
  have hz : cmpI k1 k2 ≠ 0 := fun h0 => h (cmpI_zero.1 h0)
  have HT : Hid (cmpK (k1, s1) (k2, s2) = cmpI k1 k2) := Lib.hid (by simp only [cmpK, thn_of hz])
  clear hz
  have hc : (k1 != k2) = true := by simp [h]
  go_enter Tryz.func49, Tryz.ntmps49
  go_wp2_with (first | (go_at_call 47; refine (order_any _ _ _).mono ?_; rintro e w' ⟨rfl, rfl⟩) | (go_at_call 48; refine (refText_any _ _ _).mono ?_; rintro e w' ⟨rfl, rfl⟩))
  all_goals go_ret
  all_goals exact ⟨ret_i HT.out.symm, ((Below.refl _ _).alloc (Nat.le_refl _) _).alloc (by simp) _⟩
end Go.Proofs.YtcjgaohblaidjaaGreatDoor
namespace Go.Proofs.YtcjgaohblaidjaaGreatDoor
open Go Go.RowKit
theorem obj7 {w : World} {g : Nat} {e : TypeId} {z0 z1 z2 z3 z4 z5 z6 : Value} (h : w.heap[g]? = some (.cells #[z0, z1, z2, z3, z4, z5, z6] e (0, 0))) (v0 v1 v2 v3 v4 v5 v6 : Value) : (((((((w.setCell ⟨g, 0, none⟩ (v0)).setCell ⟨g, 1, none⟩ (v1)).setCell ⟨g, 2, none⟩ (v2)).setCell ⟨g, 3, none⟩ (v3)).setCell ⟨g, 4, none⟩ (v4)).setCell ⟨g, 5, none⟩ (v5)).setCell ⟨g, 6, none⟩ (v6)).heap[g]? = some (.cells #[v0, v1, v2, v3, v4, v5, v6] e (0, 0)) := by
 have h0 := heap_setCell_same _ g 0 _ e v0 h
 have h1 := heap_setCell_same _ g 1 _ e v1 h0
 have h2 := heap_setCell_same _ g 2 _ e v2 h1
 have h3 := heap_setCell_same _ g 3 _ e v3 h2
 have h4 := heap_setCell_same _ g 4 _ e v4 h3
 have h5 := heap_setCell_same _ g 5 _ e v5 h4
 have h6 := heap_setCell_same _ g 6 _ e v6 h5
 simpa using h6
theorem obj9 {w : World} {g : Nat} {e : TypeId} {z0 z1 z2 z3 z4 z5 z6 z7 z8 : Value} (h : w.heap[g]? = some (.cells #[z0, z1, z2, z3, z4, z5, z6, z7, z8] e (0, 0))) (v0 v1 v2 v3 v4 v5 v6 v7 v8 : Value) : (((((((((w.setCell ⟨g, 0, none⟩ (v0)).setCell ⟨g, 1, none⟩ (v1)).setCell ⟨g, 2, none⟩ (v2)).setCell ⟨g, 3, none⟩ (v3)).setCell ⟨g, 4, none⟩ (v4)).setCell ⟨g, 5, none⟩ (v5)).setCell ⟨g, 6, none⟩ (v6)).setCell ⟨g, 7, none⟩ (v7)).setCell ⟨g, 8, none⟩ (v8)).heap[g]? = some (.cells #[v0, v1, v2, v3, v4, v5, v6, v7, v8] e (0, 0)) := by
 have h0 := heap_setCell_same _ g 0 _ e v0 h
 have h1 := heap_setCell_same _ g 1 _ e v1 h0
 have h2 := heap_setCell_same _ g 2 _ e v2 h1
 have h3 := heap_setCell_same _ g 3 _ e v3 h2
 have h4 := heap_setCell_same _ g 4 _ e v4 h3
 have h5 := heap_setCell_same _ g 5 _ e v5 h4
 have h6 := heap_setCell_same _ g 6 _ e v6 h5
 have h7 := heap_setCell_same _ g 7 _ e v7 h6
 have h8 := heap_setCell_same _ g 8 _ e v8 h7
 simpa using h8
theorem row_of_owns {w : World} {base : Nat} {e : TypeId} {c : Nat} {v : Value} {n : Nat} {xs : List Value} {B : Nat → Prop} {R : Nat → List Value → Prop} (h : w.ownsRow base e c v n xs) (hn : n ≤ maxLen)
  (hB : ∀ g, v.ownBlock = some g → base ≤ g → g < w.heap.size → B g) (hR : ∀ j, j < n → R j ((xs.drop (j * c)).take c)) (hc : 0 < c) : RowB w B c v n R := by
 obtain ⟨hl, hcase⟩ := h
 rcases hcase with ⟨rfl, rfl⟩ | ⟨g, cap, cur, rfl, hb, hg, h1, h2, h3, h4⟩
 · exact ⟨none, 0, rfl, ⟨Nat.zero_le _, Nat.le_refl _⟩, fun h => absurd h (by omega)⟩
 ·
  have hlt : g < w.heap.size := (Array.getElem?_eq_some_iff.1 hg).1
  refine ⟨_, cap, rfl, ⟨hn, h1⟩, fun _ => ⟨g, 0, rfl, hB g rfl hb hlt, hlt, fun j hj => ?_⟩⟩
  have hle : (j + 1) * c ≤ n * c := Nat.mul_le_mul_right c hj
  have hle2 : n * c ≤ cap * c := Nat.mul_le_mul_right c h1
  rw [Nat.add_mul, Nat.one_mul] at hle
  refine ⟨(xs.drop (j * c)).take c, by simp; omega, fun i hi => ?_, hR j hj⟩
  rw [List.getElem?_take_of_lt hi, List.getElem?_drop, ← h4, List.getElem?_take_of_lt (by omega), Nat.zero_add]
  rw [Lib.cell_of_heap hg]
  simp
theorem same_setCell {B : Nat → Prop} {w w' : World} {g i : Nat} {v : Value} (h : Same B w w') (hg : ¬ B g) : Same B w (w'.setCell ⟨g, i, none⟩ v) := by
 refine ⟨by simpa using h.size, fun b j hB hb => ?_⟩
 rw [World.cell?_setCell_other _ _ _ _ (by intro e; simp only [Addr.mk.injEq] at e; exact hg (e.1 ▸ hB))]
 exact h.cell b j hB hb
mutual
def sml : Vl → Prop
 | .mk _ _ _ v y e l => v.length ≤ 4 ∧ y.length ≤ 2 ∧ e.length ≤ 2 ∧ l.length ≤ 2 ∧ smlVs v ∧ smlEs e
def smlVs : List Vl → Prop
 | [] => True
 | a :: s => sml a ∧ smlVs s
def smlE : En → Prop
 | .mk a _ r => a.length ≤ 2 ∧ smlVs a ∧ sml r
def smlEs : List En → Prop
 | [] => True
 | a :: s => smlE a ∧ smlEs s
end
theorem smlVs_iff : ∀ {l : List Vl}, smlVs l ↔ ∀ x, x ∈ l → sml x
 | [] => by simp [smlVs]
 | a :: s => by simp [smlVs, smlVs_iff (l := s)]
theorem smlEs_iff : ∀ {l : List En}, smlEs l ↔ ∀ x, x ∈ l → smlE x
 | [] => by simp [smlEs]
 | a :: s => by simp [smlEs, smlEs_iff (l := s)]
end Go.Proofs.YtcjgaohblaidjaaGreatDoor
namespace Go.Proofs.YtcjgaohblaidjaaGreatDoor
open Go Go.RowKit Go.Lib Go.Sort
def bl (a b : List UInt8) : Bool := Op.bytesLess a b
theorem bl_irrefl : ∀ a, bl a a = false
 | [] => rfl
 | a :: x => by
  have := bl_irrefl x
  unfold bl at this ⊢
  simp [Op.bytesLess, this]
theorem bl_cons (a b : UInt8) (x y : List UInt8) : bl (a :: x) (b :: y) = true ↔ a < b ∨ a = b ∧ bl x y = true := by
 unfold bl; simp [Op.bytesLess]
theorem bl_nil' (x : List UInt8) : bl x [] = false := by cases x <;> rfl
theorem bl_trans : ∀ {a b c : List UInt8}, bl a b = true → bl b c = true → bl a c = true
 | _, [], _, h, _ => by rw [bl_nil'] at h; cases h
 | _, _ :: _, [], _, h => by rw [bl_nil'] at h; cases h
 | [], _ :: _, _ :: _, _, _ => rfl
 | a :: x, b :: y, c :: z, h, k => by
  rw [bl_cons] at *
  simp only [UInt8.lt_iff_toNat_lt] at *
  rcases h with h | ⟨rfl, h⟩
  ·
   rcases k with k | ⟨rfl, k⟩
   · exact .inl (by omega)
   · exact .inl h
  ·
   rcases k with k | ⟨rfl, k⟩
   · exact .inl k
   · exact .inr ⟨rfl, bl_trans h k⟩
theorem bl_tri : ∀ (a b : List UInt8), bl a b = true ∨ a = b ∨ bl b a = true
 | [], [] => .inr (.inl rfl)
 | [], _ :: _ => .inl rfl
 | _ :: _, [] => .inr (.inr rfl)
 | a :: x, b :: y => by
  rw [bl_cons, bl_cons]
  simp only [UInt8.lt_iff_toNat_lt]
  by_cases h : a = b
  ·
   subst h
   rcases bl_tri x y with h | rfl | h
   · exact .inl (.inr ⟨rfl, h⟩)
   · exact .inr (.inl rfl)
   · exact .inr (.inr (.inr ⟨rfl, h⟩))
  ·
   have : a.toNat ≠ b.toNat := fun e => h (UInt8.toNat_inj.1 e)
   by_cases h2 : a.toNat < b.toNat
   · exact .inl (.inl h2)
   · exact .inr (.inr (.inl (by omega)))
theorem bl_asymm {a b : List UInt8} (h : bl a b = true) : bl b a = false := by
 cases k : bl b a
 · rfl
 ·
  have := bl_trans h k
  rw [bl_irrefl] at this; cases this
theorem bl_ne {a b : List UInt8} (h : bl a b = true) : a ≠ b := by
 rintro rfl
 rw [bl_irrefl] at h; cases h
theorem bl_le_lt {a b c : List UInt8} (h : bl b a = false) (k : bl b c = true) : bl a c = true := by
 rcases bl_tri a b with e | rfl | e
 · exact bl_trans e k
 · exact k
 · rw [e] at h; cases h
theorem bl_of_ne {a b : List UInt8} (h : bl b a = false) (k : a ≠ b) : bl a b = true := by
 rcases bl_tri a b with e | e | e
 · exact e
 · exact absurd e k
 · rw [e] at h; cases h
def Asc (l : List (List UInt8)) : Prop := l.Pairwise fun a b => bl a b = true
instance (l : List (List UInt8)) : Decidable (Asc l) := inferInstanceAs (Decidable (l.Pairwise _))
theorem asc_nil : Asc [] := List.Pairwise.nil
theorem asc_one (a : List UInt8) : Asc [a] := List.pairwise_singleton _ _
theorem asc_unique : ∀ {a b : List (List UInt8)}, Asc a → Asc b → (∀ x, x ∈ a ↔ x ∈ b) → a = b
 | [], [], _, _, _ => rfl
 | [], y :: _, _, _, h => absurd ((h y).2 (by simp)) (by simp)
 | x :: _, [], _, _, h => absurd ((h x).1 (by simp)) (by simp)
 | x :: a, y :: b, ha, hb, h => by
  have ha' := List.pairwise_cons.1 ha
  have hb' := List.pairwise_cons.1 hb
  have e : x = y := by
   rcases List.mem_cons.1 ((h x).1 (by simp)) with e | e
   · exact e
   ·
    rcases List.mem_cons.1 ((h y).2 (by simp)) with k | k
    · exact k.symm
    ·
     have h1 := hb'.1 x e
     have h2 := ha'.1 y k
     rw [bl_asymm h1] at h2; cases h2
  subst e
  have ht : a = b := asc_unique ha'.2 hb'.2 fun z => by
   constructor
   ·
    intro hz
    rcases List.mem_cons.1 ((h z).1 (by simp [hz])) with e | e
    · exact absurd e.symm (bl_ne (ha'.1 z hz))
    · exact e
   ·
    intro hz
    rcases List.mem_cons.1 ((h z).2 (by simp [hz])) with e | e
    · exact absurd e.symm (bl_ne (hb'.1 z hz))
    · exact e
  rw [ht]
theorem asc_insert {l : List (List UInt8)} {x : List UInt8} {k : Nat} (h : Asc l) (hlo : ∀ y ∈ l.take k, bl y x = true) (hhi : ∀ y, l[k]? = some y → bl x y = true) :
  Asc (l.take k ++ x :: l.drop k) := by
 have e : l.take k ++ l.drop k = l := List.take_append_drop k l
 have h' : Asc (l.take k ++ l.drop k) := by rw [e]; exact h
 have hp := List.pairwise_append.1 h'
 have hd : ∀ y ∈ l.drop k, bl x y = true := by
  intro y hy
  cases hdr : l.drop k with
  | nil => rw [hdr] at hy; cases hy
  | cons z r =>
   have hz : bl x z = true := hhi z (by have := congrArg (fun q => q[0]?) hdr; simpa using this)
   rw [hdr] at hy
   rcases List.mem_cons.1 hy with rfl | hy
   · exact hz
   ·
    have h2 := hp.2.1
    rw [hdr] at h2
    exact bl_trans hz ((List.pairwise_cons.1 h2).1 y hy)
 refine List.pairwise_append.2 ⟨hp.1, List.pairwise_cons.2 ⟨hd, hp.2.1⟩, fun a ha b hb => ?_⟩
 rcases List.mem_cons.1 hb with rfl | hb
 · exact hlo a ha
 · exact hp.2.2 a ha b hb
theorem mem_insert {l : List (List UInt8)} {x y : List UInt8} (k : Nat) : y ∈ l.take k ++ x :: l.drop k ↔ y ∈ l ∨ y = x := by
 have e : y ∈ l ↔ y ∈ l.take k ++ l.drop k := by rw [List.take_append_drop]
 rw [e]
 simp only [List.mem_append, List.mem_cons]
 constructor
 ·
  rintro (h | h | h)
  · exact .inl (.inl h)
  · exact .inr h
  · exact .inl (.inr h)
 ·
  rintro ((h | h) | h)
  · exact .inl h
  · exact .inr (.inr h)
  · exact .inr (.inl h)
def inN (co : Bool) (l : List (List UInt8)) (x : List UInt8) : Bool := decide (x ∈ l) != co
def IsSet (co : Bool) (m : List (List UInt8)) (p : List UInt8 → Bool) : Prop := Asc m ∧ ∀ x, inN co m x = p x
theorem IsSet.congr {co co' : Bool} {m : List (List UInt8)} {p p' : List UInt8 → Bool} (h : IsSet co m p) (hc : co = co') (e : ∀ x, p x = p' x) : IsSet co' m p' := by
 subst hc
 exact ⟨h.1, fun x => (h.2 x).trans (e x)⟩
theorem compactUpTo_asc (d : Array (List UInt8)) (hs : ∀ i j, i < j → j < d.size → bl d[j]! d[i]! = false) : ∀ m, m ≤ d.size → Asc (compactUpTo d m) ∧ ∀ x, x ∈ compactUpTo d m ↔ ∃ j, j < m ∧ d[j]! = x
 | 0, _ => ⟨by unfold compactUpTo; exact asc_nil, fun x => by simp [compactUpTo]⟩
 | m + 1, hm => by
  obtain ⟨ih1, ih2⟩ := compactUpTo_asc d hs m (by omega)
  rw [compactUpTo_succ]
  by_cases hk : keeps d m = true
  ·
   rw [if_pos hk]
   refine ⟨List.pairwise_append.2 ⟨ih1, asc_one _, fun a ha b hb => ?_⟩, fun x => ?_⟩
   ·
    obtain ⟨j, hj, rfl⟩ := (ih2 a).1 ha
    obtain rfl : b = d[m]! := by simpa using hb
    have hne : d[m]! ≠ d[m - 1]! := by
     have := hk
     unfold keeps at this
     rcases of_decide_eq_true this with h | h
     · omega
     · exact h
    have h1 : bl d[m - 1]! d[m]! = true := bl_of_ne (hs (m - 1) m (by omega) (by omega)) (fun e => hne e.symm)
    by_cases e : j = m - 1
    · rw [e]; exact h1
    · exact bl_le_lt (hs j (m - 1) (by omega) (by omega)) h1
   ·
    rw [List.mem_append, ih2, List.mem_singleton]
    constructor
    ·
     rintro (⟨j, hj, e⟩ | rfl)
     · exact ⟨j, by omega, e⟩
     · exact ⟨m, by omega, rfl⟩
    ·
     rintro ⟨j, hj, e⟩
     by_cases h : j = m
     · subst h; exact .inr e.symm
     · exact .inl ⟨j, by omega, e⟩
  ·
   rw [if_neg hk, List.append_nil]
   refine ⟨ih1, fun x => (ih2 x).trans ⟨fun ⟨j, hj, e⟩ => ⟨j, by omega, e⟩, fun ⟨j, hj, e⟩ => ?_⟩⟩
   by_cases h : j = m
   ·
    subst h
    have hk' : j ≠ 0 ∧ d[j]! = d[j - 1]! := by
     have : ¬ (j = 0 ∨ d[j]! ≠ d[j - 1]!) := fun h => hk (by unfold keeps; exact decide_eq_true h)
     exact ⟨fun e => this (.inl e), Decidable.byContradiction fun e => this (.inr e)⟩
    exact ⟨j - 1, by omega, by rw [← hk'.2]; exact e⟩
   · exact ⟨j, by omega, e⟩
theorem compact_asc (zs : List (List UInt8)) (hs : zs.Pairwise fun a b => bl b a = false) : Asc (compact zs) ∧ (∀ x, x ∈ compact zs ↔ x ∈ zs) ∧ (compact zs).length ≤ zs.length := by
 have h := compactUpTo_asc zs.toArray (fun i j hij hj => by
  have hj' : j < zs.length := by simpa using hj
  have := List.pairwise_iff_getElem.1 hs i j (by omega) hj' hij
  rw [getElem!_pos zs.toArray j (by simpa using hj'), getElem!_pos zs.toArray i (by simp; omega)]
  simpa using this) zs.length (by simp)
 refine ⟨h.1, fun x => (h.2 x).trans ?_, ?_⟩
 ·
  constructor
  ·
   rintro ⟨j, hj, rfl⟩
   rw [getElem!_pos zs.toArray j (by simpa using hj)]
   simp
  ·
   intro hx
   obtain ⟨j, hj, e⟩ := List.getElem_of_mem hx
   exact ⟨j, hj, by rw [getElem!_pos zs.toArray j (by simpa using hj)]; simpa using e⟩
 ·
  unfold compact compactUpTo
  rw [List.length_map]
  have := List.length_filter_le (keeps zs.toArray) (List.range zs.length)
  simpa using this
theorem sort_pairwise (zs : List (List UInt8)) : (zs.mergeSort fun x y => decide (x ≤ y)).Pairwise fun a b => bl b a = false := by
 have key : ∀ a b : List UInt8, decide (a ≤ b) = !bl b a := fun a b => by
  unfold bl
  rw [bytesLess_eq]
  by_cases h : b < a
  · rw [decide_eq_true h, decide_eq_false (fun k : a ≤ b => k h)]; rfl
  · rw [decide_eq_false h, decide_eq_true (show a ≤ b from h)]; rfl
 have h := List.pairwise_mergeSort (le := fun x y : List UInt8 => decide (x ≤ y)) (by
  intro a b c h1 h2
  rw [key] at *
  cases k : bl c a
  · rfl
  ·
   simp at h1 h2
   have := bl_le_lt h2 k
   rw [this] at h1; cases h1) (by
  intro a b
  rw [key, key]
  cases k : bl b a
  · simp
  · rw [bl_asymm k]; simp) zs
 refine h.imp fun {a b} hab => ?_
 rw [key] at hab
 simpa using hab
theorem sort_mem (zs : List (List UInt8)) (x : List UInt8) : x ∈ (zs.mergeSort fun x y => decide (x ≤ y)) ↔ x ∈ zs := (List.mergeSort_perm zs _).mem_iff
def srt (zs : List (List UInt8)) : List (List UInt8) := compact (zs.mergeSort fun x y => decide (x ≤ y))
theorem srt_asc (zs : List (List UInt8)) : Asc (srt zs) := (compact_asc _ (sort_pairwise zs)).1
theorem srt_mem (zs : List (List UInt8)) (x : List UInt8) : x ∈ srt zs ↔ x ∈ zs := ((compact_asc _ (sort_pairwise zs)).2.1 x).trans (sort_mem zs x)
theorem srt_len (zs : List (List UInt8)) : (srt zs).length ≤ zs.length := by
 have := (compact_asc _ (sort_pairwise zs)).2.2
 rwa [List.length_mergeSort] at this
theorem eq_srt {m zs : List (List UInt8)} (h : Asc m) (hm : ∀ x, x ∈ m ↔ x ∈ zs) : m = srt zs := asc_unique h (srt_asc zs) fun x => (hm x).trans (srt_mem zs x).symm
theorem ins_srt {ss : List (List UInt8)} {k p : Nat} {s : List UInt8} {out : List (List UInt8)} (h : out = srt (ss.take k)) (hs : ss[k]? = some s) (hlo : ∀ y ∈ out.take p, bl y s = true) (hhi : ∀ y, out[p]? = some y → bl s y = true) :
  out.take p ++ s :: out.drop p = srt (ss.take (k + 1)) := by
 have ha : Asc out := by rw [h]; exact srt_asc _
 refine eq_srt (asc_insert ha hlo hhi) fun x => ?_
 rw [mem_insert, h, srt_mem, List.take_add_one, hs]
 simp
theorem skip_srt {ss : List (List UInt8)} {k : Nat} {s : List UInt8} {out : List (List UInt8)} (h : out = srt (ss.take k)) (hs : ss[k]? = some s) (hm : s ∈ out) : out = srt (ss.take (k + 1)) := by
 have ha : Asc out := by rw [h]; exact srt_asc _
 refine eq_srt ha fun x => ?_
 have e : x ∈ out ↔ x ∈ ss.take k := by rw [h]; exact srt_mem _ x
 have es : s ∈ ss.take k := by rw [← srt_mem, ← h]; exact hm
 rw [e, List.take_add_one, hs]
 simp only [Option.toList_some, List.mem_append, List.mem_singleton]
 exact ⟨.inl, fun h => h.elim id fun e => by rw [e]; exact es⟩
theorem take_length_le' (l : List (List UInt8)) (k : Nat) : (l.take k).length ≤ l.length := by rw [List.length_take]; omega
end Go.Proofs.YtcjgaohblaidjaaGreatDoor
namespace Go.Proofs.YtcjgaohblaidjaaGreatDoor
open Go.RowKit Go.Sort
abbrev Strg := List UInt8
def Short (ss : List Strg) : Prop := ∀ s ∈ ss, s.length ≤ maxLen
def NmS (w : World) (B : Nat) (A : Option Addr) (n : Nat) (ss : List Strg) : Prop :=
 n = ss.length ∧ Short ss ∧ (0 < n → ∃ b off, A = some ⟨b, off, none⟩ ∧ b < B ∧ ∀ j s, ss[j]? = some s → w.cell? ⟨b, off + j, none⟩ = some (encStr s))
theorem NmS.below {w w' : World} {B : Nat} {A : Option Addr} {n : Nat} {ss : List Strg} (h : NmS w B A n ss) (hb : Below B w w') : NmS w' B A n ss :=
 ⟨h.1, h.2.1, fun hn => by
  obtain ⟨b, off, hA, hlt, hc⟩ := h.2.2 hn
  exact ⟨b, off, hA, hlt, fun j s hs => (hb.cell (p := ⟨b, off + j, none⟩) hlt).trans (hc j s hs)⟩⟩
theorem NmS.mono {w : World} {B B' : Nat} {A : Option Addr} {n : Nat} {ss : List Strg} (h : NmS w B A n ss) (hB : B ≤ B') : NmS w B' A n ss :=
 ⟨h.1, h.2.1, fun hn => by
  obtain ⟨b, off, hA, hlt, hc⟩ := h.2.2 hn
  exact ⟨b, off, hA, by omega, hc⟩⟩
theorem NmS.nil (w : World) (B : Nat) (A : Option Addr) : NmS w B A 0 [] := ⟨rfl, by simp [Short], fun h => by omega⟩
theorem NmS.kept {w w' : World} {B : Nat} {A : Option Addr} {n : Nat} {ss : List Strg} (h : NmS w B A n ss) (hb : Below B w w') (hB : B ≤ w'.heap.size) : NmS w' w'.heap.size A n ss := (h.below hb).mono hB
theorem NmS.on {w w' : World} {A : Option Addr} {n : Nat} {ss : List Strg} (h : NmS w w.heap.size A n ss) (hb : Below w.heap.size w w') : NmS w' w'.heap.size A n ss := h.kept hb hb.size
theorem NmS.drewN {w : World} {B : Nat} {A : Option Addr} {n : Nat} {ss : List Strg} (h : NmS w B A n ss) (q : Nat) : NmS (w.drewN q) B A n ss := h
theorem NmS.at {w : World} {B : Nat} {A : Option Addr} {n : Nat} {ss : List Strg} (h : NmS w B A n ss) {k : Nat} (hk : k < n) :
  ∃ b off s, A = some ⟨b, off, none⟩ ∧ b < B ∧ ss[k]? = some s ∧ s.length ≤ maxLen ∧ w.cell? ⟨b, off + k, none⟩ = some (.string ⟨s.toArray⟩) := by
 obtain ⟨b, off, hA, hb, hc⟩ := h.2.2 (by omega)
 have hx : ss[k]? = some (ss[k]'(by have := h.1; omega)) := List.getElem?_eq_getElem _
 exact ⟨b, off, _, hA, hb, hx, h.2.1 _ (List.mem_of_getElem? hx), hc k _ hx⟩
theorem NmS.take {w : World} {B n g o : Nat} {ss : List Strg} (h : NmS w B (some ⟨g, o, none⟩) n ss) {p : Nat} (hp : p ≤ n) : NmS w B (some ⟨g, o, none⟩) p (ss.take p) := by
 refine ⟨by rw [List.length_take, ← h.1]; omega, fun s hs => h.2.1 s (List.mem_of_mem_take hs), fun hn => ?_⟩
 obtain ⟨b, off, hA, hb, hc⟩ := h.2.2 (by omega)
 refine ⟨b, off, hA, hb, fun j s hs => hc j s ?_⟩
 rw [List.getElem?_take] at hs
 split at hs
 · exact hs
 · cases hs
theorem NmS.drop {w : World} {B n g o : Nat} {ss : List Strg} (h : NmS w B (some ⟨g, o, none⟩) n ss) {p : Nat} (hp : p < n) : NmS w B (some ⟨g, o + p, none⟩) (n - p) (ss.drop p) := by
 refine ⟨by rw [List.length_drop, ← h.1], fun s hs => h.2.1 s (List.mem_of_mem_drop hs), fun hn => ?_⟩
 obtain ⟨b, off, hA, hb, hc⟩ := h.2.2 (by omega)
 injection hA with hA
 injection hA with e1 e2 _
 subst e1 e2
 refine ⟨g, o + p, rfl, hb, fun j s hs => ?_⟩
 rw [List.getElem?_drop] at hs
 rw [Nat.add_assoc]
 exact hc (p + j) s hs
def OwnN (w : World) (B : Nat) (v : Value) (ss : List Strg) : Prop := w.ownsRow B 9 1 v ss.length (ss.map encStr)
theorem map_one (ss : List Strg) : ∀ u ∈ ss.map encStr, u.oneCell' = true := by
 intro u hu
 obtain ⟨s, _, rfl⟩ := List.mem_map.1 hu
 rfl
theorem OwnN.nil (w : World) (B : Nat) : OwnN w B (.slice none 0 0) [] := World.ownsRow_nil _ _ _ _
theorem OwnN.form {w : World} {B : Nat} {v : Value} {ss : List Strg} (h : OwnN w B v ss) : ∃ A c, v = .slice A ss.length c := by
 rcases h.2 with ⟨rfl, h0⟩ | ⟨g, cap, cur, rfl, _⟩
 · rw [h0]; exact ⟨_, _, rfl⟩
 · exact ⟨_, _, rfl⟩
theorem OwnN.formG {w : World} {B : Nat} {v : Value} {ss : List Strg} (h : OwnN w B v ss) (hl : 0 < ss.length) :
  ∃ g cap, v = .slice (some ⟨g, 0, none⟩) ss.length cap ∧ B ≤ g ∧ g < w.heap.size ∧ ss.length ≤ cap := by
 have hlt := h.lt
 rcases h.2 with ⟨_, h0⟩ | ⟨g, cap, cur, rfl, hB, hg, hnc, _⟩
 · omega
 · exact ⟨g, cap, rfl, hB, (hlt g rfl).2, hnc⟩
theorem OwnN.rng {w : World} {B : Nat} {A : Option Addr} {n c : Nat} {ss : List Strg} (h : OwnN w B (.slice A n c) ss) (hf : Short ss) : NmS w w.heap.size A n ss := by
 have hl := h.lt
 rcases h.2 with ⟨hv, h0⟩ | ⟨g, cap, cur, hv, hB, hg, hnc, hcm, hcz, htk⟩
 ·
  injection hv with e1 e2 e3
  subst e1 e2
  exact ⟨h0.symm, hf, fun h => by omega⟩
 ·
  injection hv with e1 e2 e3
  subst e1 e2
  refine ⟨rfl, hf, fun _ => ⟨g, 0, rfl, (hl g rfl).2, fun j s hj => ?_⟩⟩
  have hlt : j < ss.length := (List.getElem?_eq_some_iff.1 hj).1
  have := World.ownsRow.cellAt h j (by omega)
  rw [Nat.zero_add, this, List.getElem?_map, hj]; rfl
theorem OwnN.old {w w' : World} {B : Nat} {v : Value} {ss : List Strg} (h : OwnN w B v ss) (hb : Below w.heap.size w w') : OwnN w' B v ss := by
 have hl := h.lt
 refine ⟨h.1, ?_⟩
 rcases h.2 with hn | ⟨g, cap, cur, rfl, hB, hg, rest⟩
 · exact .inl hn
 · exact .inr ⟨g, cap, cur, rfl, hB, by rw [hb.block g (hl g rfl).2]; exact hg, rest⟩
theorem OwnN.drewN {w : World} {B : Nat} {v : Value} {ss : List Strg} (h : OwnN w B v ss) (n : Nat) : OwnN (w.drewN n) B v ss := h
theorem below_drewN {B : Nat} {a w : World} (h : Below B a w) (n : Nat) : Below B a (w.drewN n) := ⟨h.os, h.tape, h.output, h.size, h.block⟩
theorem OwnN.mono {w : World} {B B' : Nat} {v : Value} {ss : List Strg} (h : OwnN w B v ss) (hB : B' ≤ B) : OwnN w B' v ss := by
 refine ⟨h.1, ?_⟩
 rcases h.2 with hn | ⟨g, cap, cur, hv, hg, rest⟩
 · exact .inl hn
 · exact .inr ⟨g, cap, cur, hv, by omega, rest⟩
theorem OwnN.below {w0 w1 : World} {B : Nat} {v : Value} {ss : List Strg} {o : Obj} (h : OwnN w0 B v ss) (hb : B ≤ w0.heap.size) (hg : (w0.alloc o).grownBy w1 v.ownBlock) : Below B w0 w1 :=
 ((Below.refl B w0).alloc hb o).grown hg (by simp; omega) (fun j hj => (h.lt j hj).1)
theorem OwnN.lit (w : World) (B : Nat) (hB : B ≤ w.heap.size) (ss : List Strg) (cells : Array Value) (n : Nat) (hn : ss.length = n) (hc : cells.toList = ss.map encStr) (hl : ss.length ≤ maxLen) :
  OwnN (w.alloc (.cells cells 9)) B (.slice (some ⟨w.heap.size, 0, none⟩) n n) ss := by
 subst hn
 have hsz : cells.size = ss.length := by rw [← Array.length_toList, hc, List.length_map]
 exact ⟨by simp, .inr ⟨w.heap.size, ss.length, cells, rfl, hB, heap_alloc_new w _, Nat.le_refl _, hl, by omega, by rw [hc]; rw [List.take_of_length_le]; simp⟩⟩
theorem wp_app_n {ops : Array Oper} {rest : List Oper} {o : Oper} {a : Act} {Q : Exit → Act → World → Prop} {w0 : World} (hgd : o.guard = none) (s x : Operand)
  (ho : o.op = .call { callee := .builtin .append, args := #[s, x], argTypes := #[25, 25] }) (B : Nat) (v : Value) (l : List Strg) (hs : a.eval s = v) (hown : OwnN w0 B v l)
  (l' : List Strg) (m c : Nat) (hm : l'.length = m) (cells : Array Value) (hc : cells.toList = l'.map encStr) (H : Nat) (hH : w0.heap.size = H) (hx : a.eval x = .slice (some ⟨H, 0, none⟩) m c)
  (hbytes : l.length + m ≤ 1000000000) (hbase : B ≤ w0.heap.size)
  (h : ∀ v' w', OwnN w' B v' (l ++ l') → Below B w0 w' → wpList Tryz.prog ops Q rest (a.put o.dst v') w') :
  wpList Tryz.prog ops Q (o :: rest) a (w0.alloc (.cells cells 9)) := by
 obtain ⟨i0, hi, hz0, hz1, hz2⟩ := info_parts Tryz.infoStr
 subst hm
 subst hH
 refine wpList_append_own _ hgd s x 25 ho B 9 i0 (.string ⟨#[]⟩) 1 16 Tryz.underlying25 hi hz0 hz1 hz2 rfl (by decide) v l.length (l.map encStr) hs (World.ownsRow.alloc hown _)
  ⟨w0.heap.size, 0, none⟩ l'.length c (l'.map encStr) hx (by simp) ?_ (map_one l') (by unfold maxLen; omega) (by omega) (by simp; omega) ?_
 · rw [← hc]; exact World.news_of_block (heap_alloc_new w0 _)
 ·
  intro v' w' h1 h2 _
  exact h v' w' (by unfold OwnN; rw [List.length_append, List.map_append]; exact h1) (hown.below hbase h2)
theorem run_app_none {w : World} {B : Nat} {v : Value} {l : List Strg} (h : OwnN w B v l) (c : Nat) (ty : TypeId) : (Builtin.append_ #[25, 25] ty #[v, .slice none 0 c]).run Tryz.prog w = .ok v w := by
 obtain ⟨i, hi, hz0, hz1, hz2⟩ := info_parts Tryz.infoStr
 rcases h.2 with ⟨rfl, _⟩ | ⟨g, cap, cur, rfl, _, _, hnc, _⟩
 · simp [Builtin.append_, run_underlying Tryz.underlying25, sizeOf, typeInfo, hi, Builtin.lenOf, Builtin.firstCells]
 · simp [Builtin.append_, run_underlying Tryz.underlying25, sizeOf, typeInfo, hi, Builtin.lenOf, Builtin.firstCells, hnc, storeCells]
theorem addr_add (b off q : Nat) : (⟨b, off, none⟩ : Addr).add q = ⟨b, off + q, none⟩ := by
 unfold Addr.add; rcases Nat.eq_zero_or_pos q with h | h
 · subst h; simp
 · simp [Nat.ne_of_gt h]
theorem run_app_src {w : World} {B B' : Nat} {v : Value} {l : List Strg} (h : OwnN w B v l) (hB : B ≤ w.heap.size) (A : Option Addr) (m c : Nat) (ss : List Strg) (hR : NmS w B' A m ss) (hbytes : l.length + m ≤ 1000000000) (ty : TypeId) :
  ∃ v' w', (Builtin.append_ #[25, 25] ty #[v, .slice A m c]).run Tryz.prog w = .ok v' w' ∧ OwnN w' B v' (l ++ ss) ∧ w.grownBy w' v.ownBlock := by
 obtain ⟨i0, hi, hz0, hz1, hz2⟩ := info_parts Tryz.infoStr
 rcases Nat.eq_zero_or_pos m with h0 | h0
 ·
  have hr : ss = [] := List.eq_nil_of_length_eq_zero (hR.1.symm.trans h0)
  subst hr
  subst h0
  rcases A with _ | a
  · exact ⟨v, w, run_app_none h c ty, by rw [List.append_nil]; exact h, ⟨rfl, rfl, rfl, Nat.le_refl _, fun _ _ _ => rfl⟩⟩
  ·
   obtain ⟨v', w', h1, h2, h3, _⟩ := run_append_own w B 25 ty 9 i0 (.string ⟨#[]⟩) 1 16 Tryz.underlying25 hi hz0 hz1 hz2 rfl (by decide) v l.length (l.map encStr) h a 0 c [] rfl (by intro j u hj; simp at hj) (by intro u hu; cases hu) (by unfold maxLen; omega) (by omega) hB
   exact ⟨v', w', h1, by unfold OwnN; rw [List.append_nil]; simpa using h2, h3⟩
 ·
  obtain ⟨b, off, rfl, hb, hc⟩ := hR.2.2 h0
  have hm := hR.1
  obtain ⟨v', w', h1, h2, h3, _⟩ := run_append_own w B 25 ty 9 i0 (.string ⟨#[]⟩) 1 16 Tryz.underlying25 hi hz0 hz1 hz2 rfl (by decide) v l.length (l.map encStr) h ⟨b, off, none⟩ m c (ss.map encStr) (by rw [List.length_map, hm]; omega) (by
   intro j u hj
   rw [addr_add]
   rw [List.getElem?_map] at hj
   obtain ⟨s, hs, rfl⟩ := Option.map_eq_some_iff.1 hj
   exact hc j s hs) (map_one ss) (by unfold maxLen; omega) (by omega) hB
  exact ⟨v', w', h1, by unfold OwnN; rw [List.length_append, List.map_append, ← hm]; exact h2, h3⟩
theorem wp_app_src {ops : Array Oper} {rest : List Oper} {o : Oper} {a : Act} {Q : Exit → Act → World → Prop} {w : World} (hgd : o.guard = none) (s x : Operand)
  (ho : o.op = .call { callee := .builtin .append, args := #[s, x], argTypes := #[25, 25] }) (B B' : Nat) (v : Value) (l : List Strg) (hs : a.eval s = v) (hown : OwnN w B v l)
  (A : Option Addr) (m c : Nat) (ss : List Strg) (hx : a.eval x = .slice A m c) (hR : NmS w B' A m ss) (hbytes : l.length + m ≤ 1000000000) (hbase : B ≤ w.heap.size)
  (h : ∀ v' w', OwnN w' B v' (l ++ ss) → Below B w w' → wpList Tryz.prog ops Q rest (a.put o.dst v') w') :
  wpList Tryz.prog ops Q (o :: rest) a w := by
 obtain ⟨v', w', h1, h2, h3⟩ := run_app_src hown hbase A m c ss hR hbytes o.type
 exact Lib.wpList_append_run w hgd s x 25 25 ho v (.slice A m c) hs hx v' w' h1 (h v' w' h2 ((Below.refl B w).grown h3 hbase (fun j hj => (hown.lt j hj).1)))
def RetN (co : Bool) (p : Strg → Bool) (k : Nat) (w : World) (e : Ending) (w' : World) : Prop :=
 ∃ m A c, e = .returned (.agg #[.bool co, .slice A m.length c]) ∧ OwnN w' w.heap.size (.slice A m.length c) m ∧ Short m ∧ IsSet co m p ∧ m.length ≤ k ∧ Below w.heap.size w w'
theorem RetN.congr {co co' : Bool} {p p' : Strg → Bool} {k k' : Nat} {w w' : World} {e : Ending} (h : RetN co p k w e w') (hc : co = co') (hp : ∀ x, p x = p' x) (hk : k ≤ k') : RetN co' p' k' w e w' := by
 subst hc
 obtain ⟨m, A, c, h1, h2, h6, h3, h4, h5⟩ := h
 exact ⟨m, A, c, h1, h2, h6, h3.congr rfl hp, by omega, h5⟩
end Go.Proofs.YtcjgaohblaidjaaGreatDoor
namespace Go.Proofs.YtcjgaohblaidjaaGreatDoor
open Go Go.RowKit
end Go.Proofs.YtcjgaohblaidjaaGreatDoor
