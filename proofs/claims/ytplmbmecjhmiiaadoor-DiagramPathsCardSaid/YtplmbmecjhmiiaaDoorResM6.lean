/- The walk of restrict, walked. -/
import Derived.Test.YtplmbmecjhmiiaaDoorRes6
namespace Go.Proofs.YtplmbmecjhmiiaaDoor
open Go Go.RowKit Go.Maps
theorem RE.Box.cells8 {E : RE} {V : World} (h : E.Box V) : (V.cell? ⟨E.bw, 0, none⟩ = some (.func (.func 42) #[] #[.pointer (some ⟨E.bs, 0, none⟩), .pointer (some ⟨E.ba, 0, none⟩), .pointer (some ⟨E.bn, 0, none⟩), .pointer (some ⟨E.bw, 0, none⟩), .pointer (some ⟨E.bv, 0, none⟩), .pointer (some ⟨E.bd, 0, none⟩)]) ∧ V.cell? ⟨E.ba, 0, none⟩ = some (.slice E.A1 E.us.length E.c1) ∧ V.cell? ⟨E.ba, 1, none⟩ = some (.int .i64 E.r1) ∧ V.cell? ⟨E.bn, 0, none⟩ = some (.int .i64 E.l) ∧ V.cell? ⟨E.bv, 0, none⟩ = some (.bool E.v)) := by
  obtain ⟨a0, a1⟩ := cells2 h.a
  exact ⟨(Lib.cell_of_heap h.fw 0).trans rfl, a0, a1, (Lib.cell_of_heap h.n 0).trans rfl, (Lib.cell_of_heap h.v 0).trans rfl⟩
set_option maxRecDepth 100000 in
set_option maxHeartbeats 6400000 in
theorem walkR_const (E : RE) (hW : E.Wf) (r : Nat) (ns : List Nd) (u : Option Nat) (w : World) (hP : E.Pre r ns u w) (hc : r < 2) : Calls Tryd.prog 42 #[.int .i64 r, .pointer (some ⟨E.bs, 0, none⟩), .pointer (some ⟨E.ba, 0, none⟩), .pointer (some ⟨E.bn, 0, none⟩), .pointer (some ⟨E.bw, 0, none⟩), .pointer (some ⟨E.bv, 0, none⟩), .pointer (some ⟨E.bd, 0, none⟩)] w (E.Post r ns u w) := by
  obtain ⟨hr, hS, hln⟩ := hP
  have hcan : can (E.f r) ns = (ns, r) := can_old hS.2.2.1 (by omega) (by
    unfold RE.f
    rw [cutI_const _ hc]
    have : r = 0 ∨ r = 1 := by omega
    rcases this with rfl | rfl
    · rw [F_zero, F_zero]
    · rw [F_one, F_one])
  have HF : Hid (∀ e, e = Ending.returned (.int .i64 (r : Int)) → E.Post r ns u w e w) := Lib.hid fun e he => by
    unfold RE.Post
    rw [hcan]
    exact ⟨he, ⟨u, hS, .inl rfl⟩, Ke.refl _ _ _⟩
  have q1 : decide ((r : Int) < 2) = true := by rw [decide_eq_true_eq]; omega
  generalize hPost : E.Post r ns u w = Post at *
  clear hPost hS hcan hr hln hc hW
  go_enter Tryd.func42, Tryd.ntmps42
  go_wp2
  exact HF.out _ rfl
set_option maxRecDepth 100000 in
set_option maxHeartbeats 6400000 in
theorem walkR_known (E : RE) (hW : E.Wf) (i : Nat) (ns : List Nd) (u : Option Nat) (w : World) (hP : E.Pre (i + 2) ns u w) (y : Nat) (hy : y < ns.length + 2) (hF : F ns y = E.f (i + 2)) (hcell : w.cell? ⟨E.rb, i, none⟩ = some (.int .i64 y)) : Calls Tryd.prog 42 #[.int .i64 ((i + 2 : Nat) : Int), .pointer (some ⟨E.bs, 0, none⟩), .pointer (some ⟨E.ba, 0, none⟩), .pointer (some ⟨E.bn, 0, none⟩), .pointer (some ⟨E.bw, 0, none⟩), .pointer (some ⟨E.bv, 0, none⟩), .pointer (some ⟨E.bd, 0, none⟩)] w (E.Post (i + 2) ns u w) := by
  obtain ⟨hr, hS, hln⟩ := hP
  have hcan := can_old hS.2.2.1 hy hF
  have HF : Hid (∀ e, e = Ending.returned (.int .i64 (y : Int)) → E.Post (i + 2) ns u w e w) := Lib.hid fun e he => by
    unfold RE.Post
    rw [hcan]
    exact ⟨he, ⟨u, hS, .inl rfl⟩, Ke.refl _ _ _⟩
  have hlen := hW.len
  have hil : i < E.us.length := by omega
  have q1 : decide (((i + 2 : Nat) : Int) < 2) = false := by rw [decide_eq_false_iff_not]; omega
  have hwr : IntKind.i64.wrap (((i + 2 : Nat) : Int) - 2) = (i : Int) := by rw [IntWalk.i64_in _ (by omega)]; omega
  have kn : (i : Int) < (E.us.length : Int) := by omega
  have k0 : (0 : Int) ≤ (i : Int) := by omega
  have e0 := (Lib.cell_of_heap (hS.1.s) 0).trans (show (#[.slice (some ⟨E.rb, 0, none⟩) E.us.length E.rc] : Array Value)[0]? = some (.slice (some ⟨E.rb, 0, none⟩) E.us.length E.rc) from rfl)
  have q2 : ((y : Int) != -1) = true := by simp
  generalize hPost : E.Post (i + 2) ns u w = Post at *
  generalize hr2 : ((i + 2 : Nat) : Int) = r at *
  clear hPost hr2 hS hcan hr hln hW hlen hil hF hy
  go_enter Tryd.func42, Tryd.ntmps42
  go_wp2
  exact HF.out _ rfl
set_option maxRecDepth 100000 in
set_option maxHeartbeats 6400000 in
theorem walkR_hit (E : RE) (hW : E.Wf) (i : Nat) (n : Nd) (ns : List Nd) (u : Option Nat) (w : World) (hP : E.Pre (i + 2) ns u w) (hn : E.us[i]? = some n) (hl : (n.l : Int) = E.l) (hcell : w.cell? ⟨E.rb, i, none⟩ = some (.int .i64 (-1)))
    (IH : Hid (E.IH n.l)) : Calls Tryd.prog 42 #[.int .i64 ((i + 2 : Nat) : Int), .pointer (some ⟨E.bs, 0, none⟩), .pointer (some ⟨E.ba, 0, none⟩), .pointer (some ⟨E.bn, 0, none⟩), .pointer (some ⟨E.bw, 0, none⟩), .pointer (some ⟨E.bv, 0, none⟩), .pointer (some ⟨E.bd, 0, none⟩)] w (E.Post (i + 2) ns u w) := by
  obtain ⟨n1, r1, hC, hcan, hr1, hF1⟩ := RE.hit hW hP hn hl IH.out
  obtain ⟨hr, hS, hln⟩ := hP
  have hlen := hW.len
  have hil : i < E.us.length := by omega
  have q1 : decide (((i + 2 : Nat) : Int) < 2) = false := by rw [decide_eq_false_iff_not]; omega
  have hwr : IntKind.i64.wrap (((i + 2 : Nat) : Int) - 2) = (i : Int) := by rw [IntWalk.i64_in _ (by omega)]; omega
  have kn : (i : Int) < (E.us.length : Int) := by omega
  have k0 : (0 : Int) ≤ (i : Int) := by omega
  obtain ⟨b, off, x, hA, hbH, hx, c0, c1, c2⟩ := hS.1.ru.at (j := i) hil
  have hxe : x = ni n := by rw [List.getElem?_map, hn] at hx; exact (Option.some.inj hx).symm
  subst hxe
  change w.cell? ⟨b, off + i * 3, none⟩ = some (.int .i64 n.l) at c0
  change w.cell? ⟨b, off + i * 3 + 1, none⟩ = some (.int .i64 n.h) at c1
  change w.cell? ⟨b, off + i * 3 + 2, none⟩ = some (.int .i64 n.o) at c2
  obtain ⟨W, hWd⟩ : ∃ W, W = w.alloc (.cells #[.int .i64 n.l, .int .i64 n.h, .int .i64 n.o] 51) := ⟨_, rfl⟩
  have hb : Below w.heap.size w W := by rw [hWd]; exact (Below.refl _ _).alloc (Nat.le_refl _) _
  have hz : W.heap.size = w.heap.size + 1 := by rw [hWd]; simp
  have kd : W.heap[w.heap.size]? = some (.cells #[.int .i64 n.l, .int .i64 n.h, .int .i64 n.o] 51 (0, 0)) := by rw [hWd]; exact heap_alloc_new w _
  have hbs := hS.2.1.base
  have hSW := hS.old hW hb
  have HSW := Lib.hid hSW
  have HAt : Hid (E.At w.heap.size n W) := Lib.hid ⟨hSW.1, kd, hbs, by omega⟩
  have HB := Lib.hid hb
  have HX := Lib.hid (hS.Xlt hW)
  have HWW := Lib.hid hW
  have HU : Hid (∀ v, Nxt W.heap.size u v → ∀ g, v = some g → g ≠ w.heap.size) := Lib.hid fun v hv g hg => by
    rcases hv with rfl | hv
    · have := (hS.own g hg).2; omega
    · have := hv g hg; omega
  obtain ⟨d0, d1, d2⟩ := cells3 kd
  have e0 := (Lib.cell_of_heap (hS.1.s) 0).trans (show (#[.slice (some ⟨E.rb, 0, none⟩) E.us.length E.rc] : Array Value)[0]? = some (.slice (some ⟨E.rb, 0, none⟩) E.us.length E.rc) from rfl)
  obtain ⟨a0, -⟩ := cells2 hS.1.a
  rw [hA] at a0
  have eg : ∀ args w, (callFunc 42 args).run Tryd.prog w = .ok (.enter 42 args) w := enters_of Tryd.func42 (by kernel_rfl) rfl
  have hfo := Lib.hid fun (V : World) (h : E.Box V) (hz : E.base ≤ V.heap.size) => RE.Box.fol hW h hz hn hl
  have HC := Lib.hid hC
  have HN := Lib.hid (And.intro hcan (And.intro hr1 (And.intro hF1 (And.intro hil hbs))))
  have q2 : ((-1 : Int) != -1) = false := rfl
  have q3 : ((n.l : Int) == E.l) = true := by simpa using hl
  have n0 := (Lib.cell_of_heap (hS.1.n) 0).trans (show (#[.int .i64 E.l] : Array Value)[0]? = some (.int .i64 E.l) from rfl)
  have n1' := (hb.cell (p := ⟨E.bn, 0, none⟩) (Array.getElem?_eq_some_iff.1 hS.1.n).1).trans n0
  rw [hWd] at n1' d0 d1 d2
  generalize hPost : E.Post (i + 2) ns u w = Post at *
  have HPost := Lib.hid hPost
  generalize hr2 : ((i + 2 : Nat) : Int) = r at *
  generalize ((if E.v then n.h else n.o : Nat) : Int) = r' at *
  clear hPost hr2 hS hSW hcan hr hln hlen hil hF1 hr1 hC hb hz kd hbs hA hx IH hn hl
  go_enter Tryd.func42, Tryd.ntmps42
  go_wp2_with fail
  rw [← hWd]
  clear hWd c0 c1 c2 a0 e0 n0 n1' d0 d1 d2 hcell
  have HA0 := Lib.hid (HAt.out.old HWW.out (Below.refl _ W).drew)
  have HS0 := Lib.hid (HSW.out.old HWW.out (Below.refl _ W).drew)
  refine wp_region_held_drew (S := fun V => (V.cell? ⟨E.bw, 0, none⟩ = some (.func (.func 42) #[] #[.pointer (some ⟨E.bs, 0, none⟩), .pointer (some ⟨E.ba, 0, none⟩), .pointer (some ⟨E.bn, 0, none⟩), .pointer (some ⟨E.bw, 0, none⟩), .pointer (some ⟨E.bv, 0, none⟩), .pointer (some ⟨E.bd, 0, none⟩)]) ∧ V.cell? ⟨E.ba, 0, none⟩ = some (.slice E.A1 E.us.length E.c1) ∧ V.cell? ⟨E.ba, 1, none⟩ = some (.int .i64 E.r1) ∧ V.cell? ⟨E.bn, 0, none⟩ = some (.int .i64 E.l) ∧ V.cell? ⟨E.bv, 0, none⟩ = some (.bool E.v))) (by kernel_rfl) (HA0.out.1.cells8) (fun _ => ?_)
  refine tk 0 (HA0.out.1.cells8) ?_
  try simp only [Act.put, pA, pB, pC]
  refine tk 1 (HA0.out.1.cells8) ?_
  try simp only [Act.put, pA, pB, pC]
  refine tk 2 (HA0.out.1.cells8) ?_
  try simp only [Act.put, pA, pB, pC]
  refine tk 3 (HA0.out.1.cells8) ?_
  try simp only [Act.put, pA, pB, pC]
  refine tk 4 (HA0.out.1.cells8) ?_
  try simp only [Act.put, pA, pB, pC]
  refine tk 5 (HA0.out.1.cells8) ?_
  try simp only [Act.put, pA, pB, pC]
  refine one_op 6 (by kernel_rfl) rfl (by rfl) (fun K hK => ?_)
  go_simp
  refine (hfo.out _ HA0.out.1 (Nat.le_trans HN.out.2.2.2.2 HB.out.size)).mono ?_
  rintro e V1 ⟨rfl, hb1⟩
  have HA1 := Lib.hid (HA0.out.old HWW.out hb1)
  have HS1 := Lib.hid (HS0.out.old HWW.out hb1)
  have HB1 := Lib.hid ((Below.refl W.heap.size W).drew.trans (hb1.mono (Nat.le_refl _)))
  clear hb1
  refine hK _ _ HA1.out.1.cells8 ?_
  try simp only [Act.put, pA, pB, pC]
  clear hK K
  refine one_op 7 (by kernel_rfl) rfl (by rfl) (fun K hK => ?_)
  go_simp
  refine (HC.out V1 HS1.out).mono ?_
  rintro e V2 ⟨rfl, ⟨u1, hS2, hn2⟩, hK2⟩
  have HC2 := Lib.hid (((RE.Acc.refl E W u).old HB1.out).step hK2 hn2)
  have HS2 := Lib.hid hS2
  clear hS2 hn2 hK2
  refine hK _ _ HS2.out.1.cells8 ?_
  try simp only [Act.put, pA, pB, pC]
  clear hK K
  refine tk 8 (HS2.out.1.cells8) ?_
  try simp only [Act.put, pA, pB, pC]
  obtain ⟨y2, t0, t1, -⟩ := HS2.out.2.2.2.cell HN.out.2.2.2.1
  refine one_op 9 (by kernel_rfl) rfl (by rfl) (fun K hK => ?_)
  go_simp
  obtain ⟨hS3, hK3⟩ := HS2.out.put HWW.out HN.out.2.2.2.1 HN.out.2.1 HN.out.2.2.1
  have hc3 := World.cell?_setCell_same V2 ⟨E.rb, i, none⟩ (.int .i64 r1) t0
  generalize hV3 : V2.setCell ⟨E.rb, i, none⟩ (.int .i64 r1) = V3 at *
  have HC3 := Lib.hid (HC2.out.step hK3 (.inl rfl))
  have HS3 := Lib.hid hS3
  clear hV3 hS3 hK3 t0 t1
  refine hK _ _ HS3.out.1.cells8 ?_
  try simp only [Act.put, pA, pB, pC]
  clear hK K
  refine wpAnyH_done (by kernel_rfl) ?_ _
  go_wp2
  rw [← HPost.out]
  unfold RE.Post
  rw [HN.out.1]
  have hHB := HB.out
  exact ⟨rfl, ⟨u1, HS3.out, HC3.out.2.1.elim .inl (fun h => .inr fun g e => Nat.le_trans hHB.size (h g e))⟩, (Ke.of hHB).nxt HC3.out.1 (.inl rfl) hHB.size⟩
set_option maxRecDepth 100000 in
set_option maxHeartbeats 6400000 in
theorem walkR_miss (E : RE) (hW : E.Wf) (i : Nat) (n : Nd) (ns : List Nd) (u : Option Nat) (w : World) (hP : E.Pre (i + 2) ns u w) (hn : E.us[i]? = some n) (hl : (n.l : Int) ≠ E.l) (hcell : w.cell? ⟨E.rb, i, none⟩ = some (.int .i64 (-1)))
    (IH : Hid (E.IH n.l)) : Calls Tryd.prog 42 #[.int .i64 ((i + 2 : Nat) : Int), .pointer (some ⟨E.bs, 0, none⟩), .pointer (some ⟨E.ba, 0, none⟩), .pointer (some ⟨E.bn, 0, none⟩), .pointer (some ⟨E.bw, 0, none⟩), .pointer (some ⟨E.bv, 0, none⟩), .pointer (some ⟨E.bd, 0, none⟩)] w (E.Post (i + 2) ns u w) := by
  have hf12 := RE.f12 hW hP.1
  have hG0 := hP.2.1.2.2.1
  obtain ⟨n1, r1, n2, r2, hCT, hCF, hcan, hG2, hr1, hrr2, hn2⟩ := RE.steps hW hP hn hl IH.out
  have hcok := can_ok hf12 hG0
  rw [hcan] at hcok
  obtain ⟨hr, hS, hln⟩ := hP
  have hl12 := (hW.ou i n hn).1
  have hlen := hW.len
  have hil : i < E.us.length := by omega
  have q1 : decide (((i + 2 : Nat) : Int) < 2) = false := by rw [decide_eq_false_iff_not]; omega
  have hwr : IntKind.i64.wrap (((i + 2 : Nat) : Int) - 2) = (i : Int) := by rw [IntWalk.i64_in _ (by omega)]; omega
  have kn : (i : Int) < (E.us.length : Int) := by omega
  have k0 : (0 : Int) ≤ (i : Int) := by omega
  obtain ⟨b, off, x, hA, hbH, hx, c0, c1, c2⟩ := hS.1.ru.at (j := i) hil
  have hxe : x = ni n := by rw [List.getElem?_map, hn] at hx; exact (Option.some.inj hx).symm
  subst hxe
  change w.cell? ⟨b, off + i * 3, none⟩ = some (.int .i64 n.l) at c0
  change w.cell? ⟨b, off + i * 3 + 1, none⟩ = some (.int .i64 n.h) at c1
  change w.cell? ⟨b, off + i * 3 + 2, none⟩ = some (.int .i64 n.o) at c2
  obtain ⟨W, hWd⟩ : ∃ W, W = w.alloc (.cells #[.int .i64 n.l, .int .i64 n.h, .int .i64 n.o] 51) := ⟨_, rfl⟩
  have hb : Below w.heap.size w W := by rw [hWd]; exact (Below.refl _ _).alloc (Nat.le_refl _) _
  have hz : W.heap.size = w.heap.size + 1 := by rw [hWd]; simp
  have kd : W.heap[w.heap.size]? = some (.cells #[.int .i64 n.l, .int .i64 n.h, .int .i64 n.o] 51 (0, 0)) := by rw [hWd]; exact heap_alloc_new w _
  have hbs := hS.2.1.base
  have hSW := hS.old hW hb
  have HSW := Lib.hid hSW
  have HAt : Hid (E.At w.heap.size n W) := Lib.hid ⟨hSW.1, kd, hbs, by omega⟩
  have HB := Lib.hid hb
  have HX := Lib.hid (hS.Xlt hW)
  have HWW := Lib.hid hW
  have HU : Hid (∀ v, Nxt W.heap.size u v → ∀ g, v = some g → g ≠ w.heap.size) := Lib.hid fun v hv g hg => by
    rcases hv with rfl | hv
    · have := (hS.own g hg).2; omega
    · have := hv g hg; omega
  obtain ⟨d0, d1, d2⟩ := cells3 kd
  have e0 := (Lib.cell_of_heap (hS.1.s) 0).trans (show (#[.slice (some ⟨E.rb, 0, none⟩) E.us.length E.rc] : Array Value)[0]? = some (.slice (some ⟨E.rb, 0, none⟩) E.us.length E.rc) from rfl)
  obtain ⟨a0, -⟩ := cells2 hS.1.a
  rw [hA] at a0
  have eg : ∀ args w, (callFunc 42 args).run Tryd.prog w = .ok (.enter 42 args) w := enters_of Tryd.func42 (by kernel_rfl) rfl
  have HT := Lib.hid hCT
  have HF := Lib.hid hCF
  have HN := Lib.hid (And.intro hcan (And.intro hG2 (And.intro hr1 (And.intro hrr2 (And.intro hn2 (And.intro hl12 (And.intro hil hcok)))))))
  have q2 : ((-1 : Int) != -1) = false := rfl
  have q3 : ((n.l : Int) == E.l) = false := by simpa using hl
  have n0 := (Lib.cell_of_heap (hS.1.n) 0).trans (show (#[.int .i64 E.l] : Array Value)[0]? = some (.int .i64 E.l) from rfl)
  have n1' := (hb.cell (p := ⟨E.bn, 0, none⟩) (Array.getElem?_eq_some_iff.1 hS.1.n).1).trans n0
  have w1' := (Lib.cell_of_heap (hSW.1.fw) 0).trans (show (#[.func (.func 42) #[] #[.pointer (some ⟨E.bs, 0, none⟩), .pointer (some ⟨E.ba, 0, none⟩), .pointer (some ⟨E.bn, 0, none⟩), .pointer (some ⟨E.bw, 0, none⟩), .pointer (some ⟨E.bv, 0, none⟩), .pointer (some ⟨E.bd, 0, none⟩)]] : Array Value)[0]? = some (.func (.func 42) #[] #[.pointer (some ⟨E.bs, 0, none⟩), .pointer (some ⟨E.ba, 0, none⟩), .pointer (some ⟨E.bn, 0, none⟩), .pointer (some ⟨E.bw, 0, none⟩), .pointer (some ⟨E.bv, 0, none⟩), .pointer (some ⟨E.bd, 0, none⟩)]) from rfl)
  rw [hWd] at n1' w1' d0 d1 d2
  generalize hPost : E.Post (i + 2) ns u w = Post at *
  have HPost := Lib.hid hPost
  generalize hr2 : ((i + 2 : Nat) : Int) = r at *
  clear hPost hr2 hS hSW hcan hr hln hlen hil hG2 hr1 hrr2 hn2 hCT hCF hb hz kd hbs hA hx IH hn hl12 hcok hG0 hf12
  go_enter Tryd.func42, Tryd.ntmps42
  go_wp2_with fail
  rw [← hWd]
  clear hWd c0 c1 c2 a0 e0 n0 n1' d0 d1 d2 hcell w1'
  refine (HT.out W HSW.out).mono ?_
  rintro e V1 ⟨rfl, ⟨u1, hS1, hn1⟩, hK1⟩
  have HC1 := Lib.hid ((RE.Acc.refl E W u).step hK1 hn1)
  have HA1 := Lib.hid (HAt.out.ke HWW.out hK1 HX.out (fun g hg => ⟨(HSW.out.own g hg).1, HU.out u (.inl rfl) g hg⟩))
  have HS1 := Lib.hid hS1
  clear hS1 hn1 hK1
  obtain ⟨d0, d1, d2⟩ := cells3 HA1.out.2.1
  have w1' := (Lib.cell_of_heap (HS1.out.1.fw) 0).trans (show (#[.func (.func 42) #[] #[.pointer (some ⟨E.bs, 0, none⟩), .pointer (some ⟨E.ba, 0, none⟩), .pointer (some ⟨E.bn, 0, none⟩), .pointer (some ⟨E.bw, 0, none⟩), .pointer (some ⟨E.bv, 0, none⟩), .pointer (some ⟨E.bd, 0, none⟩)]] : Array Value)[0]? = some (.func (.func 42) #[] #[.pointer (some ⟨E.bs, 0, none⟩), .pointer (some ⟨E.ba, 0, none⟩), .pointer (some ⟨E.bn, 0, none⟩), .pointer (some ⟨E.bw, 0, none⟩), .pointer (some ⟨E.bv, 0, none⟩), .pointer (some ⟨E.bd, 0, none⟩)]) from rfl)
  go_wp2_with fail
  clear d0 d1 d2 w1'
  refine (HF.out V1 u1 HS1.out).mono ?_
  rintro e V2 ⟨rfl, ⟨u2, hS2, hn2⟩, hK2⟩
  have HC2 := Lib.hid (HC1.out.step hK2 hn2)
  have HA2 := Lib.hid (HA1.out.ke HWW.out hK2 HX.out (fun g hg => ⟨(HS1.out.own g hg).1, HU.out u1 HC1.out.2.1 g hg⟩))
  have HS2 := Lib.hid hS2
  clear hS2 hn2 hK2
  obtain ⟨d0, d1, d2⟩ := cells3 HA2.out.2.1
  have x0 := (Lib.cell_of_heap (HS2.out.1.d) 0).trans (show (#[.pointer (some ⟨E.p, 0, none⟩)] : Array Value)[0]? = some (.pointer (some ⟨E.p, 0, none⟩)) from rfl)
  go_wp2_with fail
  clear d0 d1 d2 x0
  refine (reference_any E.p E.q E.base n2 n.l r1 r2 V2 u2 HS2.out.2.1 HN.out.2.1 HN.out.2.2.2.2.2.1 HN.out.2.2.1 HN.out.2.2.2.1 (by have := HN.out.2.2.2.2.1; omega)).mono ?_
  rintro e V3 ⟨rfl, u3, hB3, hn3, hK3⟩
  obtain ⟨ms, hms⟩ := mkN_app n2 n.l r1 r2
  have hst : E.St V3 (mkN n2 n.l r1 r2).1 u3 ∧ Ke V2.heap.size (fun b => E.X b ∨ some b = u2) V2 V3 := by
    have hgd := HN.out.2.2.2.2.2.2.2.2.1
    rw [hms] at hB3 hgd ⊢
    exact HS2.out.ref HWW.out hK3 hB3 hgd
  have HS3 := Lib.hid hst.1
  have HC3 := Lib.hid (HC2.out.step hst.2 hn3)
  clear hst hB3 hn3 hK3 hms
  obtain ⟨y2, t0, t1, -⟩ := HS3.out.2.2.2.cell HN.out.2.2.2.2.2.2.1
  obtain ⟨hS4, hK4⟩ := HS3.out.put HWW.out HN.out.2.2.2.2.2.2.1 HN.out.2.2.2.2.2.2.2.2.2.1 HN.out.2.2.2.2.2.2.2.2.2.2
  have HS4 := Lib.hid hS4
  have HC4 := Lib.hid (HC3.out.step hK4 (.inl rfl))
  have hc4 := World.cell?_setCell_same V3 ⟨E.rb, i, none⟩ (.int .i64 (mkN n2 n.l r1 r2).2) t0
  clear hS4 hK4
  generalize hr3 : (mkN n2 n.l r1 r2).2 = r3 at *
  have HR3 := Lib.hid hr3
  clear hr3
  go_wp2
  rw [← HPost.out]
  unfold RE.Post
  rw [HN.out.1, HR3.out]
  have hHB := HB.out
  exact ⟨rfl, ⟨u3, HS4.out, HC4.out.2.1.elim .inl (fun h => .inr fun g e => Nat.le_trans hHB.size (h g e))⟩, (Ke.of hHB).nxt HC4.out.1 (.inl rfl) hHB.size⟩
/-- walk: the reference of the part's function with the literal fixed, its nodes added -/
theorem walkR_any (E : RE) (hW : E.Wf) : ∀ (N r : Nat) (ns : List Nd) (u : Option Nat) (w : World), 12 - litR E.us r < N → E.Pre r ns u w → Calls Tryd.prog 42 #[.int .i64 r, .pointer (some ⟨E.bs, 0, none⟩), .pointer (some ⟨E.ba, 0, none⟩), .pointer (some ⟨E.bn, 0, none⟩), .pointer (some ⟨E.bw, 0, none⟩), .pointer (some ⟨E.bv, 0, none⟩), .pointer (some ⟨E.bd, 0, none⟩)] w (E.Post r ns u w)
  | 0, _, _, _, _, h, _ => absurd h (by omega)
  | N + 1, r, ns, u, w, hN, hP => by
    by_cases hc : r < 2
    · exact walkR_const E hW r ns u w hP hc
    · obtain ⟨i, rfl⟩ : ∃ i, r = i + 2 := ⟨r - 2, by omega⟩
      have hil : i < E.us.length := by have := hP.1; omega
      have hn : E.us[i]? = some E.us[i] := List.getElem?_eq_getElem hil
      generalize E.us[i] = n at hn
      have hl12 := (hW.ou i n hn).1
      rw [litR_node hn] at hN
      obtain ⟨y, hcell, -, hy⟩ := hP.2.1.2.2.2.cell hil
      rcases hy with rfl | ⟨y, rfl, hy, hF⟩
      · have IH : Hid (E.IH n.l) := Lib.hid fun r' ns' u' w' h hp => walkR_any E hW N r' ns' u' w' (by omega) hp
        by_cases hl : (n.l : Int) = E.l
        · exact walkR_hit E hW i n ns u w hP hn hl hcell IH
        · exact walkR_miss E hW i n ns u w hP hn hl hcell IH
      · exact walkR_known E hW i ns u w hP y hy hF hcell
end Go.Proofs.YtplmbmecjhmiiaaDoor
