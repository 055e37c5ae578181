/- What isValid and Validate return: whether every node of a value is valid. -/
import Derived.Test.YtcjgaohblaidjaaGreatDoorVb02
import Derived.Test.YtcjgaohblaidjaaGreatDoorVb09
import Derived.Deep.LoopGhost
namespace Go.Proofs.YtcjgaohblaidjaaGreatDoor
open Go Go.RowKit
set_option maxRecDepth 100000 in
set_option maxHeartbeats 3200000 in
theorem node_any (k : Nat) (kd it : Int) (tx : List UInt8) (kids : List Vl) (keys : List (Int × List UInt8)) (ents : List En) (labs : List (List UInt8)) (A Y E L : Option Addr) (c cy ce cl : Nat) (w : World) (ht : tx.length ≤ maxLen)
  (hk : RowP w w.heap.size 7 (.slice A kids.length c) kids.length (fun j cs => ∃ x, kids[j]? = some x ∧ VS k w w.heap.size x cs))
  (hy : RowP w w.heap.size 2 (.slice Y keys.length cy) keys.length (fun j cs => ∃ x, keys[j]? = some x ∧ cs = [.int .i64 x.1, .string ⟨x.2.toArray⟩] ∧ (Lit.int .i64 x.1).wf = true ∧ x.2.length ≤ maxLen))
  (he : RowP w w.heap.size 9 (.slice E ents.length ce) ents.length (fun j cs => ∃ x, ents[j]? = some x ∧ ES (k + 1) w w.heap.size x cs))
  (hl : RowP w w.heap.size 1 (.slice L labs.length cl) labs.length (fun j cs => ∃ x, labs[j]? = some x ∧ cs = [.string ⟨x.toArray⟩] ∧ x.length ≤ maxLen)) :
  Calls Tryz.prog 64 #[.agg #[.int .i64 kd, .int .i64 it, .string ⟨tx.toArray⟩, .slice A kids.length c, .slice Y keys.length cy, .slice E ents.length ce, .slice L labs.length cl]] w fun e w' => e = .returned (.bool (labelsB labs && usesB kd it tx kids keys ents && kindB kd it tx kids keys ents)) ∧ Below w.heap.size w w' := by
 have egv := enters_of Tryz.func89 (by kernel_rfl) rfl
 obtain ⟨W, hW⟩ : ∃ W, W = w.alloc (.cells #[.int .i64 kd, .int .i64 it, .string ⟨tx.toArray⟩, .slice A kids.length c, .slice Y keys.length cy, .slice E ents.length ce, .slice L labs.length cl] 27) := ⟨_, rfl⟩
 have hbb : Below w.heap.size w W := by rw [hW]; exact (Below.refl _ _).alloc (Nat.le_refl _) _
 have hzz : w.heap.size < W.heap.size := by rw [hW]; simp
 have q0 : W.cell? ⟨w.heap.size, 0, none⟩ = some (.int .i64 kd) := by rw [hW]; simp
 have q1 : W.cell? ⟨w.heap.size, 1, none⟩ = some (.int .i64 it) := by rw [hW]; simp
 have q2 : W.cell? ⟨w.heap.size, 2, none⟩ = some (.string ⟨tx.toArray⟩) := by rw [hW]; simp
 have q3 : W.cell? ⟨w.heap.size, 3, none⟩ = some (.slice A kids.length c) := by rw [hW]; simp
 have q4 : W.cell? ⟨w.heap.size, 4, none⟩ = some (.slice Y keys.length cy) := by rw [hW]; simp
 have q5 : W.cell? ⟨w.heap.size, 5, none⟩ = some (.slice E ents.length ce) := by rw [hW]; simp
 have q6 : W.cell? ⟨w.heap.size, 6, none⟩ = some (.slice L labs.length cl) := by rw [hW]; simp
 have HB := Lib.hid hbb
 have h1 := uses_any kd it tx A Y E L kids.length c keys.length cy ents.length ce labs.length cl W
 have h2 : Hid (∀ V, Below w.heap.size w V → Calls Tryz.prog 110 #[.slice L labs.length cl, .func (.func 89) #[] #[]] V fun e w' => e = .returned (.bool (labs.all varB)) ∧ Below V.heap.size V w') := Lib.hid fun V hV => all1 _ egv varB L cl labs V (Lib.hid fun x U hx => isVarL_any x U hx) ((hl.on hV fun _ _ h => h).mono hV.size fun _ _ h => h)
 have h3 : Hid (∀ V, Below w.heap.size w V → Calls Tryz.prog 111 #[.slice L labs.length cl, .func (.func 112) #[] #[]] V fun e w' => e = .returned (.bool (decide (AscC cmpT labs))) ∧ Below V.heap.size V w') := Lib.hid fun V hV => asc1 L cl labs V ((hl.on hV fun _ _ h => h).mono hV.size fun _ _ h => h)
 have h4 : Hid (∀ V, Below w.heap.size w V → Calls Tryz.prog 113 #[.agg #[.int .i64 kd, .int .i64 it, .string ⟨tx.toArray⟩, .slice A kids.length c, .slice Y keys.length cy, .slice E ents.length ce, .slice L labs.length cl]] V fun e w' => e = .returned (.bool (kindB kd it tx kids keys ents)) ∧ Below V.heap.size V w') := Lib.hid fun V hV => form_any kd k it tx kids keys ents A Y E L c cy ce labs.length cl V ht ((hk.on hV fun _ _ ⟨x, h1, h2⟩ => ⟨x, h1, VS.up hV.size (Nat.le_refl _) (VS.on hV h2)⟩).mono hV.size fun _ _ h => h) ((hy.on hV fun _ _ h => h).mono hV.size fun _ _ h => h) ((he.on hV fun _ _ ⟨x, h1, h2⟩ => ⟨x, h1, ES.up hV.size (Nat.le_refl _) (ES.on hV h2)⟩).mono hV.size fun _ _ h => h)
 have HR : Hid ((labelsB labs && usesB kd it tx kids keys ents && kindB kd it tx kids keys ents) = (usesN kd it tx kids.length keys.length ents.length && labs.all varB && decide (AscC cmpT labs) && kindB kd it tx kids keys ents)) := Lib.hid (by
  rw [usesB_N]
  unfold labelsB
  generalize usesN kd it tx kids.length keys.length ents.length = a
  generalize labs.all varB = b
  generalize decide (AscC cmpT labs) = c
  cases a <;> cases b <;> cases c <;> rfl)
 generalize (labelsB labs && usesB kd it tx kids keys ents && kindB kd it tx kids keys ents) = r at HR ⊢
 generalize usesN kd it tx kids.length keys.length ents.length = z1 at h1 HR
 generalize labs.all varB = z2 at h2 HR
 generalize decide (AscC cmpT labs) = z3 at h3 HR
 generalize kindB kd it tx kids keys ents = z4 at h4 HR
 clear hk hy he hl hbb egv ht
 go_enter Tryz.func64, Tryz.ntmps64
 go_wp2_with fail
 rw [← hW]
 clear hW
 go_wp2_with (go_at_call 109; refine h1.mono ?_; rintro e w1 ⟨rfl, hb1⟩; refine Hid.out ?_)
 refine Lib.hid ?_
 cases z1
 ·
  have HU : Hid (r = false) := Lib.hid (by rw [HR.out]; rfl)
  go_wp2
  go_ret
  exact ⟨ret_bool HU.out.symm, HB.out.trans (hb1.mono HB.out.size)⟩
 have p0 : w1.cell? ⟨w.heap.size, 0, none⟩ = some (.int .i64 kd) := (hb1.cell (p := ⟨_, 0, none⟩) hzz).trans q0
 have p1 : w1.cell? ⟨w.heap.size, 1, none⟩ = some (.int .i64 it) := (hb1.cell (p := ⟨_, 1, none⟩) hzz).trans q1
 have p2 : w1.cell? ⟨w.heap.size, 2, none⟩ = some (.string ⟨tx.toArray⟩) := (hb1.cell (p := ⟨_, 2, none⟩) hzz).trans q2
 have p3 : w1.cell? ⟨w.heap.size, 3, none⟩ = some (.slice A kids.length c) := (hb1.cell (p := ⟨_, 3, none⟩) hzz).trans q3
 have p4 : w1.cell? ⟨w.heap.size, 4, none⟩ = some (.slice Y keys.length cy) := (hb1.cell (p := ⟨_, 4, none⟩) hzz).trans q4
 have p5 : w1.cell? ⟨w.heap.size, 5, none⟩ = some (.slice E ents.length ce) := (hb1.cell (p := ⟨_, 5, none⟩) hzz).trans q5
 have p6 : w1.cell? ⟨w.heap.size, 6, none⟩ = some (.slice L labs.length cl) := (hb1.cell (p := ⟨_, 6, none⟩) hzz).trans q6
 have hz1 : w.heap.size < w1.heap.size := Nat.lt_of_lt_of_le hzz hb1.size
 have HB1 := Lib.hid (HB.out.trans (hb1.mono HB.out.size))
 clear h1 q0 q1 q2 q3 q4 q5 q6 hb1
 go_wp2_with (go_at_call 110; refine (h2.out _ HB1.out).mono ?_; rintro e w2 ⟨rfl, hb2⟩; refine Hid.out ?_)
 refine Lib.hid ?_
 cases z2
 ·
  have HU : Hid (r = false) := Lib.hid (by rw [HR.out]; rfl)
  go_wp2
  go_ret
  exact ⟨ret_bool HU.out.symm, HB1.out.trans (hb2.mono HB1.out.size)⟩
 have q0 : w2.cell? ⟨w.heap.size, 0, none⟩ = some (.int .i64 kd) := (hb2.cell (p := ⟨_, 0, none⟩) hz1).trans p0
 have q1 : w2.cell? ⟨w.heap.size, 1, none⟩ = some (.int .i64 it) := (hb2.cell (p := ⟨_, 1, none⟩) hz1).trans p1
 have q2 : w2.cell? ⟨w.heap.size, 2, none⟩ = some (.string ⟨tx.toArray⟩) := (hb2.cell (p := ⟨_, 2, none⟩) hz1).trans p2
 have q3 : w2.cell? ⟨w.heap.size, 3, none⟩ = some (.slice A kids.length c) := (hb2.cell (p := ⟨_, 3, none⟩) hz1).trans p3
 have q4 : w2.cell? ⟨w.heap.size, 4, none⟩ = some (.slice Y keys.length cy) := (hb2.cell (p := ⟨_, 4, none⟩) hz1).trans p4
 have q5 : w2.cell? ⟨w.heap.size, 5, none⟩ = some (.slice E ents.length ce) := (hb2.cell (p := ⟨_, 5, none⟩) hz1).trans p5
 have q6 : w2.cell? ⟨w.heap.size, 6, none⟩ = some (.slice L labs.length cl) := (hb2.cell (p := ⟨_, 6, none⟩) hz1).trans p6
 have hz2 : w.heap.size < w2.heap.size := Nat.lt_of_lt_of_le hz1 hb2.size
 have HB2 := Lib.hid (HB1.out.trans (hb2.mono HB1.out.size))
 clear p0 p1 p2 p3 p4 p5 p6 hb2
 go_wp2_with (go_at_call 111; refine (h3.out _ HB2.out).mono ?_; rintro e w3 ⟨rfl, hb3⟩; refine Hid.out ?_)
 refine Lib.hid ?_
 cases z3
 ·
  have HU : Hid (r = false) := Lib.hid (by rw [HR.out]; rfl)
  go_wp2
  go_ret
  exact ⟨ret_bool HU.out.symm, HB2.out.trans (hb3.mono HB2.out.size)⟩
 have p0 : w3.cell? ⟨w.heap.size, 0, none⟩ = some (.int .i64 kd) := (hb3.cell (p := ⟨_, 0, none⟩) hz2).trans q0
 have p1 : w3.cell? ⟨w.heap.size, 1, none⟩ = some (.int .i64 it) := (hb3.cell (p := ⟨_, 1, none⟩) hz2).trans q1
 have p2 : w3.cell? ⟨w.heap.size, 2, none⟩ = some (.string ⟨tx.toArray⟩) := (hb3.cell (p := ⟨_, 2, none⟩) hz2).trans q2
 have p3 : w3.cell? ⟨w.heap.size, 3, none⟩ = some (.slice A kids.length c) := (hb3.cell (p := ⟨_, 3, none⟩) hz2).trans q3
 have p4 : w3.cell? ⟨w.heap.size, 4, none⟩ = some (.slice Y keys.length cy) := (hb3.cell (p := ⟨_, 4, none⟩) hz2).trans q4
 have p5 : w3.cell? ⟨w.heap.size, 5, none⟩ = some (.slice E ents.length ce) := (hb3.cell (p := ⟨_, 5, none⟩) hz2).trans q5
 have p6 : w3.cell? ⟨w.heap.size, 6, none⟩ = some (.slice L labs.length cl) := (hb3.cell (p := ⟨_, 6, none⟩) hz2).trans q6
 have HB3 := Lib.hid (HB2.out.trans (hb3.mono HB2.out.size))
 have HU : Hid (r = z4) := Lib.hid (by rw [HR.out]; rfl)
 clear q0 q1 q2 q3 q4 q5 q6 hb3
 go_wp2_with (go_at_call 113; refine (h4.out _ HB3.out).mono ?_; rintro e w4 ⟨rfl, hb4⟩; refine Hid.out ?_)
 refine Lib.hid ?_
 go_wp2
 go_ret
 exact ⟨ret_bool HU.out.symm, HB3.out.trans (hb4.mono HB3.out.size)⟩
set_option maxRecDepth 100000 in
set_option maxHeartbeats 3200000 in
theorem parts_any (k : Nat) (hV : Hid (∀ (v : Vl) (cs : List Value) (w : World), VS k w w.heap.size v cs → Calls Tryz.prog 26 #[.agg cs.toArray] w fun e w' => e = .returned (.bool (okV v)) ∧ Below w.heap.size w w')) (e : En) (cs : List Value) (w : World) (h : ES k w w.heap.size e cs) :
  Calls Tryz.prog 66 #[.agg cs.toArray] w fun r w' => r = .returned (.bool (okE e)) ∧ Below w.heap.size w w' := by
 have egv := enters_of Tryz.func26 (by kernel_rfl) rfl
 obtain ⟨args, fl, r, rfl, ua, rs, rfl, hl, hr⟩ := h
 obtain ⟨A, cap, rfl, _⟩ := hl.form
 obtain ⟨a, i, s, B1, n1, d1, B2, n2, d2, B3, n3, d3, B4, n4, d4, rfl⟩ := hr.form7
 obtain ⟨W, hW⟩ : ∃ W, W = w.alloc (.cells #[.slice A args.length cap, .bool fl, .int .i64 a, .int .i64 i, .string s, .slice B1 n1 d1, .slice B2 n2 d2, .slice B3 n3 d3, .slice B4 n4 d4] 45) := ⟨_, rfl⟩
 have hbb : Below w.heap.size w W := by rw [hW]; exact (Below.refl _ _).alloc (Nat.le_refl _) _
 have hzz : w.heap.size < W.heap.size := by rw [hW]; simp
 have q0 : W.cell? ⟨w.heap.size, 0, none⟩ = some (.slice A args.length cap) := by rw [hW]; simp
 have q1 : W.cell? ⟨w.heap.size, 1, none⟩ = some (.bool fl) := by rw [hW]; simp
 have q2 : W.cell? ⟨w.heap.size, 2, none⟩ = some (.int .i64 a) := by rw [hW]; simp
 have q3 : W.cell? ⟨w.heap.size, 3, none⟩ = some (.int .i64 i) := by rw [hW]; simp
 have q4 : W.cell? ⟨w.heap.size, 4, none⟩ = some (.string s) := by rw [hW]; simp
 have q5 : W.cell? ⟨w.heap.size, 5, none⟩ = some (.slice B1 n1 d1) := by rw [hW]; simp
 have q6 : W.cell? ⟨w.heap.size, 6, none⟩ = some (.slice B2 n2 d2) := by rw [hW]; simp
 have q7 : W.cell? ⟨w.heap.size, 7, none⟩ = some (.slice B3 n3 d3) := by rw [hW]; simp
 have q8 : W.cell? ⟨w.heap.size, 8, none⟩ = some (.slice B4 n4 d4) := by rw [hW]; simp
 have HB := Lib.hid hbb
 have h1 := all7 k _ egv okV A cap args W (Lib.hid fun v cs V _ hv => hV.out v cs V hv) ((hl.on hbb fun _ _ ⟨x, h1, h2⟩ => ⟨x, h1, VS.up hbb.size (Nat.le_refl _) (VS.on hbb h2)⟩).mono hbb.size fun _ _ h => h)
 have h2 : Hid (∀ V, Below w.heap.size w V → Calls Tryz.prog 26 #[.agg #[.int .i64 a, .int .i64 i, .string s, .slice B1 n1 d1, .slice B2 n2 d2, .slice B3 n3 d3, .slice B4 n4 d4]] V fun e w' => e = .returned (.bool (okV r)) ∧ Below V.heap.size V w') := Lib.hid fun V hV' => hV.out r _ V (VS.up hV'.size (Nat.le_refl _) (VS.on hV' hr))
 have HR : Hid (okE (.mk args fl r) = (args.all okV && (fl || okV r))) := Lib.hid (by rw [okE, okVs_all])
 generalize okE (.mk args fl r) = y at HR ⊢
 generalize args.all okV = z1 at h1 HR
 generalize okV r = z2 at h2 HR
 clear hl hr hbb egv hV
 go_enter Tryz.func66, Tryz.ntmps66
 go_wp2_with fail
 rw [← hW]
 clear hW
 go_wp2_with (go_at_call 67; refine h1.mono ?_; rintro e w1 ⟨rfl, hb1⟩; refine Hid.out ?_)
 refine Lib.hid ?_
 cases z1
 ·
  have HU : Hid (y = false) := Lib.hid (by rw [HR.out]; rfl)
  go_wp2
  go_ret
  exact ⟨ret_bool HU.out.symm, HB.out.trans (hb1.mono HB.out.size)⟩
 have p1 : w1.cell? ⟨w.heap.size, 1, none⟩ = some (.bool fl) := (hb1.cell (p := ⟨_, 1, none⟩) hzz).trans q1
 have p2 : w1.cell? ⟨w.heap.size, 2, none⟩ = some (.int .i64 a) := (hb1.cell (p := ⟨_, 2, none⟩) hzz).trans q2
 have p3 : w1.cell? ⟨w.heap.size, 3, none⟩ = some (.int .i64 i) := (hb1.cell (p := ⟨_, 3, none⟩) hzz).trans q3
 have p4 : w1.cell? ⟨w.heap.size, 4, none⟩ = some (.string s) := (hb1.cell (p := ⟨_, 4, none⟩) hzz).trans q4
 have p5 : w1.cell? ⟨w.heap.size, 5, none⟩ = some (.slice B1 n1 d1) := (hb1.cell (p := ⟨_, 5, none⟩) hzz).trans q5
 have p6 : w1.cell? ⟨w.heap.size, 6, none⟩ = some (.slice B2 n2 d2) := (hb1.cell (p := ⟨_, 6, none⟩) hzz).trans q6
 have p7 : w1.cell? ⟨w.heap.size, 7, none⟩ = some (.slice B3 n3 d3) := (hb1.cell (p := ⟨_, 7, none⟩) hzz).trans q7
 have p8 : w1.cell? ⟨w.heap.size, 8, none⟩ = some (.slice B4 n4 d4) := (hb1.cell (p := ⟨_, 8, none⟩) hzz).trans q8
 have HB1 := Lib.hid (HB.out.trans (hb1.mono HB.out.size))
 clear h1 q0 q1 q2 q3 q4 q5 q6 q7 q8 hb1
 cases fl
 ·
  have HU : Hid (y = z2) := Lib.hid (by rw [HR.out]; rfl)
  go_wp2_with (go_at_call 26; refine (h2.out _ HB1.out).mono ?_; rintro e w2 ⟨rfl, hb2⟩; refine Hid.out ?_)
  refine Lib.hid ?_
  go_wp2
  go_ret
  exact ⟨ret_bool HU.out.symm, HB1.out.trans (hb2.mono HB1.out.size)⟩
 ·
  have HU : Hid (y = true) := Lib.hid (by rw [HR.out]; rfl)
  go_wp2
  go_ret
  exact ⟨ret_bool HU.out.symm, HB1.out⟩
set_option maxRecDepth 100000 in
set_option maxHeartbeats 6400000 in
theorem isValid_any : ∀ (k : Nat) (v : Vl) (cs : List Value) (w : World), VS k w w.heap.size v cs → Calls Tryz.prog 26 #[.agg cs.toArray] w fun e w' => e = .returned (.bool (okV v)) ∧ Below w.heap.size w w' := by
 intro k
 induction k with
 | zero => intro v cs w h; exact h.elim
 | succ k ih =>
 intro v cs w h
 have IH := Lib.hid ih
 clear ih
 have eg := enters_of Tryz.func26 (by kernel_rfl) rfl
 have eg2 := enters_of Tryz.func66 (by kernel_rfl) rfl
 obtain ⟨t0, t1, t2, E1, n1, d1, E2, n2, d2, E3, n3, d3, E4, n4, d4, rfl⟩ := h.form7
 obtain ⟨W, hW⟩ : ∃ W, W = w.alloc (.cells #[.int .i64 t0, .int .i64 t1, .string t2, .slice E1 n1 d1, .slice E2 n2 d2, .slice E3 n3 d3, .slice E4 n4 d4] 27) := ⟨_, rfl⟩
 have hb : Below w.heap.size w W := by rw [hW]; exact (Below.refl _ _).alloc (Nat.le_refl _) _
 have hz : w.heap.size < W.heap.size := by rw [hW]; simp
 have k1 : W.heap[w.heap.size]? = some (.cells #[.int .i64 t0, .int .i64 t1, .string t2, .slice E1 n1 d1, .slice E2 n2 d2, .slice E3 n3 d3, .slice E4 n4 d4] 27 (0, 0)) := by rw [hW]; exact heap_alloc_new w _
 generalize hy : okV v = y
 go_enter Tryz.func26, Tryz.ntmps26
 go_wp2_with fail
 rw [← hW]
 clear hW
 go_loopg [] (k + 1) (fun q wr => ∃ (a : Vl) (t0 t1 : Int) (t2 : ByteArray) (E1 : Option Addr) (n1 d1 : Nat) (E2 : Option Addr) (n2 d2 : Nat) (E3 : Option Addr) (n3 d3 : Nat) (E4 : Option Addr) (n4 d4 : Nat), q ≤ k + 1 ∧ wr.heap[w.heap.size]? = some (.cells #[.int .i64 t0, .int .i64 t1, .string t2, .slice E1 n1 d1, .slice E2 n2 d2, .slice E3 n3 d3, .slice E4 n4 d4] 27 (0, 0)) ∧ VS q w w.heap.size a [.int .i64 t0, .int .i64 t1, .string t2, .slice E1 n1 d1, .slice E2 n2 d2, .slice E3 n3 d3, .slice E4 n4 d4] ∧ okV a = y ∧ Below w.heap.size w wr ∧ w.heap.size < wr.heap.size)
 case atStart => exact ⟨v, t0, t1, t2, E1, n1, d1, E2, n2, d2, E3, n3, d3, E4, n4, d4, Nat.le_refl _, k1, h, hy, hb, hz⟩
 case round =>
  clear hy h k1 hb hz
  obtain ⟨a, t0, t1, t2, E1, n1, d1, E2, n2, d2, E3, n3, d3, E4, n4, d4, hq, k1, h, hy, hb, hz⟩ := hrel
  obtain ⟨q, rfl⟩ : ∃ q, gk = q + 1 := by
   cases gk with
   | zero => exact h.elim
   | succ q => exact ⟨q, rfl⟩
  obtain ⟨kd, it, tx, kids, keys, ents, labs⟩ := a
  obtain ⟨uk, uy, ue, ul, hcs, _, _, wf3, hk, hyk, he, hl⟩ := h
  obtain ⟨A, c, rfl, hkl⟩ := hk.form
  obtain ⟨Y, cy, rfl, _⟩ := hyk.form
  obtain ⟨E, ce, rfl, _⟩ := he.form
  obtain ⟨L, cl, rfl, _⟩ := hl.form
  simp only [List.cons.injEq, Value.int.injEq, Value.string.injEq, Value.slice.injEq, and_true, true_and] at hcs
  obtain ⟨rfl, rfl, rfl, ⟨rfl, rfl, rfl⟩, ⟨rfl, rfl, rfl⟩, ⟨rfl, rfl, rfl⟩, ⟨rfl, rfl, rfl⟩⟩ := hcs
  have IHq : Hid (∀ (v : Vl) (cs : List Value) (w : World), VS q w w.heap.size v cs → Calls Tryz.prog 26 #[.agg cs.toArray] w fun e w' => e = .returned (.bool (okV v)) ∧ Below w.heap.size w w') := Lib.hid fun v cs V hv => IH.out v cs V (VS.up (Nat.le_refl _) (by omega) hv)
  have h1 := node_any q t0 t1 tx kids keys ents labs E1 E2 E3 E4 d1 d2 d3 d4 wr wf3 (rowVS_on hb hk) ((hyk.on hb fun _ _ h => h).mono hb.size fun _ _ h => h) ((ents_row hb he).mono (Nat.le_refl _) fun _ _ ⟨x, h1, h2⟩ => ⟨x, h1, ES.up (Nat.le_refl _) (by omega) h2⟩) ((hl.on hb fun _ _ h => h).mono hb.size fun _ _ h => h)
  have h2 : Hid (∀ m, kids.length = m + 1 → ∀ V, Below w.heap.size w V → Calls Tryz.prog 67 #[.slice E1 m d1, .func (.func 26) #[] #[]] V fun e w' => e = .returned (.bool ((kids.take m).all okV)) ∧ Below V.heap.size V w') := Lib.hid fun m hm V hV => by
   have e1 : (kids.take m).length = m := by rw [List.length_take]; omega
   have hh := all7 q _ eg okV E1 d1 (kids.take m) V (Lib.hid fun v cs U _ hv => IHq.out v cs U hv)
   rw [e1] at hh
   exact hh (rowVS_take (rowVS_on hV hk) (by omega))
  have h3 : Hid (∀ V, Below w.heap.size w V → Calls Tryz.prog 65 #[.slice E3 ents.length d3, .func (.func 66) #[] #[]] V fun e w' => e = .returned (.bool (ents.all okE)) ∧ Below V.heap.size V w') := Lib.hid fun V hV => all9 q _ eg2 okE E3 d3 ents V (Lib.hid fun e cs U _ he => parts_any q IHq e cs U he) (ents_row hV he)
  have HR : Hid (y = ((labelsB labs && usesB t0 t1 tx kids keys ents && kindB t0 t1 tx kids keys ents) && kids.all okV && ents.all okE)) := Lib.hid (by rw [← hy, okV, okVs_all, okEs_all])
  have HK := Lib.hid hk
  have HKL := Lib.hid (And.intro hkl hk.cap)
  generalize (labelsB labs && usesB t0 t1 tx kids keys ents && kindB t0 t1 tx kids keys ents) = z1 at h1 HR
  generalize ents.all okE = z3 at h3 HR
  have HB := Lib.hid hb
  have K1 := Lib.hid k1
  have HQ := Lib.hid hq
  obtain ⟨q0, q1, q2, q3, q4, q5, q6⟩ := cells7 k1
  clear hk hyk he hl hb eg eg2 IH IHq wf3 hkl hy k1 hq
  generalize hn : kids.length = n at *
  have HN := Lib.hid hn
  clear hn
  go_wp2_with (go_at_call 64; refine h1.mono ?_; rintro e w1 ⟨rfl, hb1⟩; refine Hid.out ?_)
  refine Lib.hid ?_
  have HB1 := Lib.hid (HB.out.trans (hb1.mono HB.out.size))
  cases z1
  ·
   have HU : Hid (y = false) := Lib.hid (by rw [HR.out]; rfl)
   clear hb1 h1
   go_wp2
   go_ret
   exact ⟨ret_bool HU.out.symm, HB1.out⟩
  have KA1 : Hid (w1.heap[w.heap.size]? = some (.cells #[.int .i64 t0, .int .i64 t1, .string ⟨tx.toArray⟩, .slice E1 n d1, .slice E2 keys.length d2, .slice E3 ents.length d3, .slice E4 labs.length d4] 27 (0, 0))) := Lib.hid ((hb1.block _ (by omega)).trans K1.out)
  have hz1 : w.heap.size < w1.heap.size := Nat.lt_of_lt_of_le hz hb1.size
  clear h1 q0 q1 q2 q3 q4 q5 q6 hb1 hz
  have q5 : w1.cell? ⟨w.heap.size, 5, none⟩ = some (.slice E3 ents.length d3) := (Lib.cell_of_heap KA1.out 5).trans rfl
  go_wp2_with (go_at_call 65; refine (h3.out _ HB1.out).mono ?_; rintro e w2 ⟨rfl, hb2⟩; refine Hid.out ?_)
  refine Lib.hid ?_
  have HB2 := Lib.hid (HB1.out.trans (hb2.mono HB1.out.size))
  cases z3
  ·
   have HU : Hid (y = false) := Lib.hid (by rw [HR.out]; simp)
   clear hb2
   go_wp2
   go_ret
   exact ⟨ret_bool HU.out.symm, HB2.out⟩
  have KA2 : Hid (w2.heap[w.heap.size]? = some (.cells #[.int .i64 t0, .int .i64 t1, .string ⟨tx.toArray⟩, .slice E1 n d1, .slice E2 keys.length d2, .slice E3 ents.length d3, .slice E4 labs.length d4] 27 (0, 0))) := Lib.hid ((hb2.block _ (by omega)).trans KA1.out)
  have hz2 : w.heap.size < w2.heap.size := Nat.lt_of_lt_of_le hz1 hb2.size
  clear q5 hb2 hz1
  have q3 : w2.cell? ⟨w.heap.size, 3, none⟩ = some (.slice E1 n d1) := (Lib.cell_of_heap KA2.out 3).trans rfl
  by_cases hn0 : n = 0
  ·
   subst hn0
   have HU : Hid (y = true) := Lib.hid (by rw [HR.out, List.eq_nil_of_length_eq_zero HN.out]; rfl)
   have hw0 : wrap64 (-1) = -1 := by unfold wrap64; omega
   go_wp2
   go_ret
   exact ⟨ret_bool HU.out.symm, HB2.out⟩
  obtain ⟨m, hm⟩ : ∃ m, n = m + 1 := ⟨n - 1, by omega⟩
  obtain ⟨bx, ox, _, x0, x1, x2, x3, x4, x5, x6, hux, hbx, ⟨x, hx, hvx⟩, c0, c1, c2, c3, c4, c5, c6⟩ := RowB.at7 (j := m) HK.out (by have := HN.out; omega)
  injection hux with g1 g2 g3
  subst g1
  clear g2 g3
  obtain ⟨a0, a1, a2, P1, e1, f1, P2, e2, f2, P3, e3, f3, P4, e4, f4, hfx⟩ := hvx.form7
  simp only [List.cons.injEq, and_true] at hfx
  obtain ⟨rfl, rfl, rfl, rfl, rfl, rfl, rfl⟩ := hfx
  have HX : Hid (∀ V, Below w.heap.size w V → V.cell? ⟨bx, ox + m * 7, none⟩ = some (.int .i64 a0) ∧ V.cell? ⟨bx, ox + m * 7 + 1, none⟩ = some (.int .i64 a1) ∧ V.cell? ⟨bx, ox + m * 7 + 2, none⟩ = some (.string a2) ∧ V.cell? ⟨bx, ox + m * 7 + 3, none⟩ = some (.slice P1 e1 f1) ∧ V.cell? ⟨bx, ox + m * 7 + 4, none⟩ = some (.slice P2 e2 f2) ∧ V.cell? ⟨bx, ox + m * 7 + 5, none⟩ = some (.slice P3 e3 f3) ∧ V.cell? ⟨bx, ox + m * 7 + 6, none⟩ = some (.slice P4 e4 f4)) := Lib.hid fun V hV => ⟨(hV.cell (p := ⟨bx, _, none⟩) hbx).trans c0, (hV.cell (p := ⟨bx, _, none⟩) hbx).trans c1, (hV.cell (p := ⟨bx, _, none⟩) hbx).trans c2, (hV.cell (p := ⟨bx, _, none⟩) hbx).trans c3, (hV.cell (p := ⟨bx, _, none⟩) hbx).trans c4, (hV.cell (p := ⟨bx, _, none⟩) hbx).trans c5, (hV.cell (p := ⟨bx, _, none⟩) hbx).trans c6⟩
  have HVX := Lib.hid hvx
  have hcc := h2.out m hm _ HB2.out
  have HZ : Hid (y = ((kids.take m).all okV && okV x)) := Lib.hid (by
   have e2 : kids = kids.take m ++ [x] := by
    have : kids.take (m + 1) = kids.take m ++ [x] := by rw [List.take_add_one, hx]; rfl
    rw [← this, List.take_of_length_le (by have := HN.out; omega)]
   rw [HR.out]
   conv => lhs; rw [e2]
   rw [List.all_append]
   simp)
  generalize (kids.take m).all okV = z2 at hcc HZ
  have hm1 : m ≤ d1 := by have := HKL.out.2; omega
  have hmm : (n : Int) - 1 = (m : Int) := by omega
  have hm3 : (m : Int) < (n : Int) := by omega
  have hm2 : decide ((m : Int) < 0) = false := by simp
  have hwm : wrap64 (m : Int) = (m : Int) := by have := HKL.out.1; unfold wrap64; unfold maxLen at this; omega
  clear hn0 hm hx hbx hvx c0 c1 c2 c3 c4 c5 c6 HR h2
  go_wp2_with (go_at_call 67; refine hcc.mono ?_; rintro e w3 ⟨rfl, hb3⟩; refine Hid.out ?_)
  refine Lib.hid ?_
  have HB3 := Lib.hid (HB2.out.trans (hb3.mono HB2.out.size))
  cases z2
  ·
   have HU : Hid (y = false) := Lib.hid (by rw [HZ.out]; rfl)
   clear hb3
   go_wp2
   go_ret
   exact ⟨ret_bool HU.out.symm, HB3.out⟩
  have k3 : w3.heap[w.heap.size]? = some (.cells #[.int .i64 t0, .int .i64 t1, .string ⟨tx.toArray⟩, .slice (some ⟨bx, ox, none⟩) n d1, .slice E2 keys.length d2, .slice E3 ents.length d3, .slice E4 labs.length d4] 27 (0, 0)) := (hb3.block _ (by omega)).trans KA2.out
  have hz3 : w.heap.size < w3.heap.size := Nat.lt_of_lt_of_le hz2 hb3.size
  obtain ⟨x0, x1, x2, x3, x4, x5, x6⟩ := HX.out _ HB3.out
  clear hb3 q3 hz2 hcc
  obtain ⟨q0, q1, q2, q3, q4, q5, q6⟩ := cells7 k3
  obtain ⟨zq0, zq1, zq2, zq3, zq4, zq5, zq6⟩ := frozen7 k3
  go_wp2_with fail
  obtain ⟨V, hV⟩ : ∃ V, V = (((((((w3.setCell ⟨w.heap.size, 0, none⟩ (.int .i64 a0)).setCell ⟨w.heap.size, 1, none⟩ (.int .i64 a1)).setCell ⟨w.heap.size, 2, none⟩ (.string a2)).setCell ⟨w.heap.size, 3, none⟩ (.slice P1 e1 f1)).setCell ⟨w.heap.size, 4, none⟩ (.slice P2 e2 f2)).setCell ⟨w.heap.size, 5, none⟩ (.slice P3 e3 f3)).setCell ⟨w.heap.size, 6, none⟩ (.slice P4 e4 f4)) := ⟨_, rfl⟩
  rw [← hV]
  have ho : V.heap[w.heap.size]? = some (.cells #[.int .i64 a0, .int .i64 a1, .string a2, .slice P1 e1 f1, .slice P2 e2 f2, .slice P3 e3 f3, .slice P4 e4 f4] 27 (0, 0)) := by rw [hV]; exact obj7 k3 (.int .i64 a0) (.int .i64 a1) (.string a2) (.slice P1 e1 f1) (.slice P2 e2 f2) (.slice P3 e3 f3) (.slice P4 e4 f4)
  have hbV : Below w.heap.size w V := by rw [hV]; exact bel7 HB3.out (.int .i64 a0) (.int .i64 a1) (.string a2) (.slice P1 e1 f1) (.slice P2 e2 f2) (.slice P3 e3 f3) (.slice P4 e4 f4)
  have hzV : w.heap.size < V.heap.size := by rw [hV]; simpa using hz3
  clear hV
  go_roundg q
  case measure => omega
  case rel =>
   exact ⟨x, a0, a1, a2, P1, e1, f1, P2, e2, f2, P3, e3, f3, P4, e4, f4, by have := HQ.out; omega, ho, HVX.out, by have := HZ.out; simpa using this.symm, hbV, hzV⟩
set_option maxRecDepth 100000 in
set_option maxHeartbeats 3200000 in
theorem validate_any (k : Nat) (v : Vl) (cs : List Value) (w : World) (h : VS k w w.heap.size v cs) : Calls Tryz.prog 16 #[.agg cs.toArray] w fun e w' => e = .returned (.int .i64 (if okV v then 0 else 1)) ∧ Below w.heap.size w w' := by
 obtain ⟨a, i, s, B1, n1, d1, B2, n2, d2, B3, n3, d3, B4, n4, d4, rfl⟩ := h.form7
 obtain ⟨W, hW⟩ : ∃ W, W = w.alloc (.cells #[.int .i64 a, .int .i64 i, .string s, .slice B1 n1 d1, .slice B2 n2 d2, .slice B3 n3 d3, .slice B4 n4 d4] 27) := ⟨_, rfl⟩
 have hbb : Below w.heap.size w W := by rw [hW]; exact (Below.refl _ _).alloc (Nat.le_refl _) _
 have hzz : w.heap.size < W.heap.size := by rw [hW]; simp
 have q0 : W.cell? ⟨w.heap.size, 0, none⟩ = some (.int .i64 a) := by rw [hW]; simp
 have q1 : W.cell? ⟨w.heap.size, 1, none⟩ = some (.int .i64 i) := by rw [hW]; simp
 have q2 : W.cell? ⟨w.heap.size, 2, none⟩ = some (.string s) := by rw [hW]; simp
 have q3 : W.cell? ⟨w.heap.size, 3, none⟩ = some (.slice B1 n1 d1) := by rw [hW]; simp
 have q4 : W.cell? ⟨w.heap.size, 4, none⟩ = some (.slice B2 n2 d2) := by rw [hW]; simp
 have q5 : W.cell? ⟨w.heap.size, 5, none⟩ = some (.slice B3 n3 d3) := by rw [hW]; simp
 have q6 : W.cell? ⟨w.heap.size, 6, none⟩ = some (.slice B4 n4 d4) := by rw [hW]; simp
 have HB := Lib.hid hbb
 have h1 := isValid_any k v _ W (VS.up hbb.size (Nat.le_refl _) (VS.on hbb h))
 generalize okV v = z at h1 ⊢
 clear h hbb hzz
 go_enter Tryz.func16, Tryz.ntmps16
 go_wp2_with fail
 rw [← hW]
 clear hW
 go_wp2_with (go_at_call 26; refine h1.mono ?_; rintro e w1 ⟨rfl, hb1⟩; refine Hid.out ?_)
 refine Lib.hid ?_
 cases z
 ·
  go_wp2
  go_ret
  exact ⟨rfl, HB.out.trans (hb1.mono HB.out.size)⟩
 ·
  go_wp2
  go_ret
  exact ⟨rfl, HB.out.trans (hb1.mono HB.out.size)⟩
end Go.Proofs.YtcjgaohblaidjaaGreatDoor
