/- What isValid and Validate return: whether every node of a value is valid. -/
import Derived.Test.YtcgmjgcdofejbaaForm
namespace Go.Proofs.Ytcgmjgcdofejbaa
open Go Go.RowKit
set_option maxRecDepth 100000 in
set_option maxHeartbeats 3200000 in
theorem node_any (k : Nat) (kd it : Int) (tx : List UInt8) (kids : List Vl) (keys : List (Int × List UInt8)) (ents : List En) (labs : List (List UInt8)) (A Y E L : Option Addr) (c cy ce cl : Nat) (w : World) (ht : tx.length ≤ maxLen)
    (hk : RowP w w.heap.size 7 (.slice A kids.length c) kids.length (fun j cs => ∃ x, kids[j]? = some x ∧ VS k w w.heap.size x cs))
    (hy : RowP w w.heap.size 2 (.slice Y keys.length cy) keys.length (fun j cs => ∃ x, keys[j]? = some x ∧ cs = [.int .i64 x.1, .string ⟨x.2.toArray⟩] ∧ (Lit.int .i64 x.1).wf = true ∧ x.2.length ≤ maxLen))
    (he : RowP w w.heap.size 9 (.slice E ents.length ce) ents.length (fun j cs => ∃ x, ents[j]? = some x ∧ ES (k + 1) w w.heap.size x cs))
    (hl : RowP w w.heap.size 1 (.slice L labs.length cl) labs.length (fun j cs => ∃ x, labs[j]? = some x ∧ cs = [.string ⟨x.toArray⟩] ∧ x.length ≤ maxLen)) :
    Calls Try.prog 53 #[.agg #[.int .i64 kd, .int .i64 it, .string ⟨tx.toArray⟩, .slice A kids.length c, .slice Y keys.length cy, .slice E ents.length ce, .slice L labs.length cl]] w fun e w' => e = .returned (.bool (labelsB labs && usesB kd it tx kids keys ents && kindB kd it tx kids keys ents)) ∧ Below w.heap.size w w' := by
  have egv := enters_of Try.func62 (by kernel_rfl) rfl
  obtain ⟨W, hW⟩ : ∃ W, W = w.alloc (.cells #[.int .i64 kd, .int .i64 it, .string ⟨tx.toArray⟩, .slice A kids.length c, .slice Y keys.length cy, .slice E ents.length ce, .slice L labs.length cl] 27) := ⟨_, rfl⟩
  have hbb : Below w.heap.size w W := by rw [hW]; exact (Below.refl _ _).alloc (Nat.le_refl _) _
  have hzz : w.heap.size < W.heap.size := by rw [hW]; simp
  have q0 : W.cell? ⟨w.heap.size, 0, none⟩ = some (.int .i64 kd) := by rw [hW]; simp
  have q1 : W.cell? ⟨w.heap.size, 1, none⟩ = some (.int .i64 it) := by rw [hW]; simp
  have q2 : W.cell? ⟨w.heap.size, 2, none⟩ = some (.string ⟨tx.toArray⟩) := by rw [hW]; simp
  have q3 : W.cell? ⟨w.heap.size, 3, none⟩ = some (.slice A kids.length c) := by rw [hW]; simp
  have q4 : W.cell? ⟨w.heap.size, 4, none⟩ = some (.slice Y keys.length cy) := by rw [hW]; simp
  have q5 : W.cell? ⟨w.heap.size, 5, none⟩ = some (.slice E ents.length ce) := by rw [hW]; simp
  have q6 : W.cell? ⟨w.heap.size, 6, none⟩ = some (.slice L labs.length cl) := by rw [hW]; simp
  have HB := Lib.hid hbb
  have h1 := uses_any kd it tx A Y E L kids.length c keys.length cy ents.length ce labs.length cl W
  have h2 : Hid (∀ V, Below w.heap.size w V → Calls Try.prog 61 #[.slice L labs.length cl, .func (.func 62) #[] #[]] V fun e w' => e = .returned (.bool (labs.all varB)) ∧ Below V.heap.size V w') := Lib.hid fun V hV => all1 _ egv varB L cl labs V (Lib.hid fun x U hx => isVarL_any x U hx) ((hl.on hV fun _ _ h => h).mono hV.size fun _ _ h => h)
  have h3 : Hid (∀ V, Below w.heap.size w V → Calls Try.prog 63 #[.slice L labs.length cl, .func (.func 31) #[] #[]] V fun e w' => e = .returned (.bool (decide (AscC cmpT labs))) ∧ Below V.heap.size V w') := Lib.hid fun V hV => asc1 L cl labs V ((hl.on hV fun _ _ h => h).mono hV.size fun _ _ h => h)
  have h4 : Hid (∀ V, Below w.heap.size w V → Calls Try.prog 64 #[.agg #[.int .i64 kd, .int .i64 it, .string ⟨tx.toArray⟩, .slice A kids.length c, .slice Y keys.length cy, .slice E ents.length ce, .slice L labs.length cl]] V fun e w' => e = .returned (.bool (kindB kd it tx kids keys ents)) ∧ Below V.heap.size V w') := Lib.hid fun V hV => form_any kd k it tx kids keys ents A Y E L c cy ce labs.length cl V ht ((hk.on hV fun _ _ ⟨x, h1, h2⟩ => ⟨x, h1, VS.up hV.size (Nat.le_refl _) (VS.on hV h2)⟩).mono hV.size fun _ _ h => h) ((hy.on hV fun _ _ h => h).mono hV.size fun _ _ h => h) ((he.on hV fun _ _ ⟨x, h1, h2⟩ => ⟨x, h1, ES.up hV.size (Nat.le_refl _) (ES.on hV h2)⟩).mono hV.size fun _ _ h => h)
  have HR : Hid ((labelsB labs && usesB kd it tx kids keys ents && kindB kd it tx kids keys ents) = (usesN kd it tx kids.length keys.length ents.length && labs.all varB && decide (AscC cmpT labs) && kindB kd it tx kids keys ents)) := Lib.hid (by
    rw [usesB_N]
    unfold labelsB
    generalize usesN kd it tx kids.length keys.length ents.length = a
    generalize labs.all varB = b
    generalize decide (AscC cmpT labs) = c
    cases a <;> cases b <;> cases c <;> rfl)
  generalize (labelsB labs && usesB kd it tx kids keys ents && kindB kd it tx kids keys ents) = r at HR ⊢
  generalize usesN kd it tx kids.length keys.length ents.length = z1 at h1 HR
  generalize labs.all varB = z2 at h2 HR
  generalize decide (AscC cmpT labs) = z3 at h3 HR
  generalize kindB kd it tx kids keys ents = z4 at h4 HR
  clear hk hy he hl hbb egv ht
  go_enter Try.func53, Try.ntmps53
  go_wp2_with fail
  rw [← hW]
  clear hW
  go_wp2_with (go_at_call 60; refine h1.mono ?_; rintro e w1 ⟨rfl, hb1⟩; refine Hid.out ?_)
  refine Lib.hid ?_
  cases z1
  · have HU : Hid (r = false) := Lib.hid (by rw [HR.out]; rfl)
    go_wp2
    go_ret
    exact ⟨ret_bool HU.out.symm, HB.out.trans (hb1.mono HB.out.size)⟩
  have p0 : w1.cell? ⟨w.heap.size, 0, none⟩ = some (.int .i64 kd) := (hb1.cell (p := ⟨_, 0, none⟩) hzz).trans q0
  have p1 : w1.cell? ⟨w.heap.size, 1, none⟩ = some (.int .i64 it) := (hb1.cell (p := ⟨_, 1, none⟩) hzz).trans q1
  have p2 : w1.cell? ⟨w.heap.size, 2, none⟩ = some (.string ⟨tx.toArray⟩) := (hb1.cell (p := ⟨_, 2, none⟩) hzz).trans q2
  have p3 : w1.cell? ⟨w.heap.size, 3, none⟩ = some (.slice A kids.length c) := (hb1.cell (p := ⟨_, 3, none⟩) hzz).trans q3
  have p4 : w1.cell? ⟨w.heap.size, 4, none⟩ = some (.slice Y keys.length cy) := (hb1.cell (p := ⟨_, 4, none⟩) hzz).trans q4
  have p5 : w1.cell? ⟨w.heap.size, 5, none⟩ = some (.slice E ents.length ce) := (hb1.cell (p := ⟨_, 5, none⟩) hzz).trans q5
  have p6 : w1.cell? ⟨w.heap.size, 6, none⟩ = some (.slice L labs.length cl) := (hb1.cell (p := ⟨_, 6, none⟩) hzz).trans q6
  have hz1 : w.heap.size < w1.heap.size := Nat.lt_of_lt_of_le hzz hb1.size
  have HB1 := Lib.hid (HB.out.trans (hb1.mono HB.out.size))
  clear h1 q0 q1 q2 q3 q4 q5 q6 hb1
  go_wp2_with (go_at_call 61; refine (h2.out _ HB1.out).mono ?_; rintro e w2 ⟨rfl, hb2⟩; refine Hid.out ?_)
  refine Lib.hid ?_
  cases z2
  · have HU : Hid (r = false) := Lib.hid (by rw [HR.out]; rfl)
    go_wp2
    go_ret
    exact ⟨ret_bool HU.out.symm, HB1.out.trans (hb2.mono HB1.out.size)⟩
  have q0 : w2.cell? ⟨w.heap.size, 0, none⟩ = some (.int .i64 kd) := (hb2.cell (p := ⟨_, 0, none⟩) hz1).trans p0
  have q1 : w2.cell? ⟨w.heap.size, 1, none⟩ = some (.int .i64 it) := (hb2.cell (p := ⟨_, 1, none⟩) hz1).trans p1
  have q2 : w2.cell? ⟨w.heap.size, 2, none⟩ = some (.string ⟨tx.toArray⟩) := (hb2.cell (p := ⟨_, 2, none⟩) hz1).trans p2
  have q3 : w2.cell? ⟨w.heap.size, 3, none⟩ = some (.slice A kids.length c) := (hb2.cell (p := ⟨_, 3, none⟩) hz1).trans p3
  have q4 : w2.cell? ⟨w.heap.size, 4, none⟩ = some (.slice Y keys.length cy) := (hb2.cell (p := ⟨_, 4, none⟩) hz1).trans p4
  have q5 : w2.cell? ⟨w.heap.size, 5, none⟩ = some (.slice E ents.length ce) := (hb2.cell (p := ⟨_, 5, none⟩) hz1).trans p5
  have q6 : w2.cell? ⟨w.heap.size, 6, none⟩ = some (.slice L labs.length cl) := (hb2.cell (p := ⟨_, 6, none⟩) hz1).trans p6
  have hz2 : w.heap.size < w2.heap.size := Nat.lt_of_lt_of_le hz1 hb2.size
  have HB2 := Lib.hid (HB1.out.trans (hb2.mono HB1.out.size))
  clear p0 p1 p2 p3 p4 p5 p6 hb2
  go_wp2_with (go_at_call 63; refine (h3.out _ HB2.out).mono ?_; rintro e w3 ⟨rfl, hb3⟩; refine Hid.out ?_)
  refine Lib.hid ?_
  cases z3
  · have HU : Hid (r = false) := Lib.hid (by rw [HR.out]; rfl)
    go_wp2
    go_ret
    exact ⟨ret_bool HU.out.symm, HB2.out.trans (hb3.mono HB2.out.size)⟩
  have p0 : w3.cell? ⟨w.heap.size, 0, none⟩ = some (.int .i64 kd) := (hb3.cell (p := ⟨_, 0, none⟩) hz2).trans q0
  have p1 : w3.cell? ⟨w.heap.size, 1, none⟩ = some (.int .i64 it) := (hb3.cell (p := ⟨_, 1, none⟩) hz2).trans q1
  have p2 : w3.cell? ⟨w.heap.size, 2, none⟩ = some (.string ⟨tx.toArray⟩) := (hb3.cell (p := ⟨_, 2, none⟩) hz2).trans q2
  have p3 : w3.cell? ⟨w.heap.size, 3, none⟩ = some (.slice A kids.length c) := (hb3.cell (p := ⟨_, 3, none⟩) hz2).trans q3
  have p4 : w3.cell? ⟨w.heap.size, 4, none⟩ = some (.slice Y keys.length cy) := (hb3.cell (p := ⟨_, 4, none⟩) hz2).trans q4
  have p5 : w3.cell? ⟨w.heap.size, 5, none⟩ = some (.slice E ents.length ce) := (hb3.cell (p := ⟨_, 5, none⟩) hz2).trans q5
  have p6 : w3.cell? ⟨w.heap.size, 6, none⟩ = some (.slice L labs.length cl) := (hb3.cell (p := ⟨_, 6, none⟩) hz2).trans q6
  have HB3 := Lib.hid (HB2.out.trans (hb3.mono HB2.out.size))
  have HU : Hid (r = z4) := Lib.hid (by rw [HR.out]; rfl)
  clear q0 q1 q2 q3 q4 q5 q6 hb3
  go_wp2_with (go_at_call 64; refine (h4.out _ HB3.out).mono ?_; rintro e w4 ⟨rfl, hb4⟩; refine Hid.out ?_)
  refine Lib.hid ?_
  go_wp2
  go_ret
  exact ⟨ret_bool HU.out.symm, HB3.out.trans (hb4.mono HB3.out.size)⟩
set_option maxRecDepth 100000 in
set_option maxHeartbeats 3200000 in
theorem parts_any (k : Nat) (hV : Hid (∀ (v : Vl) (cs : List Value) (w : World), VS k w w.heap.size v cs → Calls Try.prog 40 #[.agg cs.toArray] w fun e w' => e = .returned (.bool (okV v)) ∧ Below w.heap.size w w')) (e : En) (cs : List Value) (w : World) (h : ES k w w.heap.size e cs) :
    Calls Try.prog 56 #[.agg cs.toArray] w fun r w' => r = .returned (.bool (okE e)) ∧ Below w.heap.size w w' := by
  have egv := enters_of Try.func40 (by kernel_rfl) rfl
  obtain ⟨args, fl, r, rfl, ua, rs, rfl, hl, hr⟩ := h
  obtain ⟨A, cap, rfl, _⟩ := hl.form
  obtain ⟨a, i, s, B1, n1, d1, B2, n2, d2, B3, n3, d3, B4, n4, d4, rfl⟩ := hr.form7
  obtain ⟨W, hW⟩ : ∃ W, W = w.alloc (.cells #[.slice A args.length cap, .bool fl, .int .i64 a, .int .i64 i, .string s, .slice B1 n1 d1, .slice B2 n2 d2, .slice B3 n3 d3, .slice B4 n4 d4] 44) := ⟨_, rfl⟩
  have hbb : Below w.heap.size w W := by rw [hW]; exact (Below.refl _ _).alloc (Nat.le_refl _) _
  have hzz : w.heap.size < W.heap.size := by rw [hW]; simp
  have q0 : W.cell? ⟨w.heap.size, 0, none⟩ = some (.slice A args.length cap) := by rw [hW]; simp
  have q1 : W.cell? ⟨w.heap.size, 1, none⟩ = some (.bool fl) := by rw [hW]; simp
  have q2 : W.cell? ⟨w.heap.size, 2, none⟩ = some (.int .i64 a) := by rw [hW]; simp
  have q3 : W.cell? ⟨w.heap.size, 3, none⟩ = some (.int .i64 i) := by rw [hW]; simp
  have q4 : W.cell? ⟨w.heap.size, 4, none⟩ = some (.string s) := by rw [hW]; simp
  have q5 : W.cell? ⟨w.heap.size, 5, none⟩ = some (.slice B1 n1 d1) := by rw [hW]; simp
  have q6 : W.cell? ⟨w.heap.size, 6, none⟩ = some (.slice B2 n2 d2) := by rw [hW]; simp
  have q7 : W.cell? ⟨w.heap.size, 7, none⟩ = some (.slice B3 n3 d3) := by rw [hW]; simp
  have q8 : W.cell? ⟨w.heap.size, 8, none⟩ = some (.slice B4 n4 d4) := by rw [hW]; simp
  have HB := Lib.hid hbb
  have h1 := all7 k _ egv okV A cap args W (Lib.hid fun v cs V _ hv => hV.out v cs V hv) ((hl.on hbb fun _ _ ⟨x, h1, h2⟩ => ⟨x, h1, VS.up hbb.size (Nat.le_refl _) (VS.on hbb h2)⟩).mono hbb.size fun _ _ h => h)
  have h2 : Hid (∀ V, Below w.heap.size w V → Calls Try.prog 40 #[.agg #[.int .i64 a, .int .i64 i, .string s, .slice B1 n1 d1, .slice B2 n2 d2, .slice B3 n3 d3, .slice B4 n4 d4]] V fun e w' => e = .returned (.bool (okV r)) ∧ Below V.heap.size V w') := Lib.hid fun V hV' => hV.out r _ V (VS.up hV'.size (Nat.le_refl _) (VS.on hV' hr))
  have HR : Hid (okE (.mk args fl r) = (args.all okV && (fl || okV r))) := Lib.hid (by rw [okE, okVs_all])
  generalize okE (.mk args fl r) = y at HR ⊢
  generalize args.all okV = z1 at h1 HR
  generalize okV r = z2 at h2 HR
  clear hl hr hbb egv hV
  go_enter Try.func56, Try.ntmps56
  go_wp2_with fail
  rw [← hW]
  clear hW
  go_wp2_with (go_at_call 54; refine h1.mono ?_; rintro e w1 ⟨rfl, hb1⟩; refine Hid.out ?_)
  refine Lib.hid ?_
  cases z1
  · have HU : Hid (y = false) := Lib.hid (by rw [HR.out]; rfl)
    go_wp2
    go_ret
    exact ⟨ret_bool HU.out.symm, HB.out.trans (hb1.mono HB.out.size)⟩
  have p1 : w1.cell? ⟨w.heap.size, 1, none⟩ = some (.bool fl) := (hb1.cell (p := ⟨_, 1, none⟩) hzz).trans q1
  have p2 : w1.cell? ⟨w.heap.size, 2, none⟩ = some (.int .i64 a) := (hb1.cell (p := ⟨_, 2, none⟩) hzz).trans q2
  have p3 : w1.cell? ⟨w.heap.size, 3, none⟩ = some (.int .i64 i) := (hb1.cell (p := ⟨_, 3, none⟩) hzz).trans q3
  have p4 : w1.cell? ⟨w.heap.size, 4, none⟩ = some (.string s) := (hb1.cell (p := ⟨_, 4, none⟩) hzz).trans q4
  have p5 : w1.cell? ⟨w.heap.size, 5, none⟩ = some (.slice B1 n1 d1) := (hb1.cell (p := ⟨_, 5, none⟩) hzz).trans q5
  have p6 : w1.cell? ⟨w.heap.size, 6, none⟩ = some (.slice B2 n2 d2) := (hb1.cell (p := ⟨_, 6, none⟩) hzz).trans q6
  have p7 : w1.cell? ⟨w.heap.size, 7, none⟩ = some (.slice B3 n3 d3) := (hb1.cell (p := ⟨_, 7, none⟩) hzz).trans q7
  have p8 : w1.cell? ⟨w.heap.size, 8, none⟩ = some (.slice B4 n4 d4) := (hb1.cell (p := ⟨_, 8, none⟩) hzz).trans q8
  have HB1 := Lib.hid (HB.out.trans (hb1.mono HB.out.size))
  clear h1 q0 q1 q2 q3 q4 q5 q6 q7 q8 hb1
  cases fl
  · have HU : Hid (y = z2) := Lib.hid (by rw [HR.out]; rfl)
    go_wp2_with (go_at_call 40; refine (h2.out _ HB1.out).mono ?_; rintro e w2 ⟨rfl, hb2⟩; refine Hid.out ?_)
    refine Lib.hid ?_
    go_wp2
    go_ret
    exact ⟨ret_bool HU.out.symm, HB1.out.trans (hb2.mono HB1.out.size)⟩
  · have HU : Hid (y = true) := Lib.hid (by rw [HR.out]; rfl)
    go_wp2
    go_ret
    exact ⟨ret_bool HU.out.symm, HB1.out⟩
set_option maxRecDepth 100000 in
set_option maxHeartbeats 3200000 in
theorem isValid_any : ∀ (k : Nat) (v : Vl) (cs : List Value) (w : World), VS k w w.heap.size v cs → Calls Try.prog 40 #[.agg cs.toArray] w fun e w' => e = .returned (.bool (okV v)) ∧ Below w.heap.size w w' := by
  intro k
  induction k with
  | zero => intro v cs w h; exact h.elim
  | succ k ih =>
  intro v cs w h
  have IH := Lib.hid ih
  clear ih
  have eg := enters_of Try.func40 (by kernel_rfl) rfl
  have eg2 := enters_of Try.func56 (by kernel_rfl) rfl
  obtain ⟨kd, it, tx, kids, keys, ents, labs⟩ := v
  obtain ⟨uk, uy, ue, ul, rfl, _, _, wf3, hk, hy, he, hl⟩ := h
  obtain ⟨A, c, rfl, _⟩ := hk.form
  obtain ⟨Y, cy, rfl, _⟩ := hy.form
  obtain ⟨E, ce, rfl, _⟩ := he.form
  obtain ⟨L, cl, rfl, _⟩ := hl.form
  obtain ⟨W, hW⟩ : ∃ W, W = w.alloc (.cells #[.int .i64 kd, .int .i64 it, .string ⟨tx.toArray⟩, .slice A kids.length c, .slice Y keys.length cy, .slice E ents.length ce, .slice L labs.length cl] 27) := ⟨_, rfl⟩
  have hbb : Below w.heap.size w W := by rw [hW]; exact (Below.refl _ _).alloc (Nat.le_refl _) _
  have hzz : w.heap.size < W.heap.size := by rw [hW]; simp
  have q0 : W.cell? ⟨w.heap.size, 0, none⟩ = some (.int .i64 kd) := by rw [hW]; simp
  have q1 : W.cell? ⟨w.heap.size, 1, none⟩ = some (.int .i64 it) := by rw [hW]; simp
  have q2 : W.cell? ⟨w.heap.size, 2, none⟩ = some (.string ⟨tx.toArray⟩) := by rw [hW]; simp
  have q3 : W.cell? ⟨w.heap.size, 3, none⟩ = some (.slice A kids.length c) := by rw [hW]; simp
  have q4 : W.cell? ⟨w.heap.size, 4, none⟩ = some (.slice Y keys.length cy) := by rw [hW]; simp
  have q5 : W.cell? ⟨w.heap.size, 5, none⟩ = some (.slice E ents.length ce) := by rw [hW]; simp
  have q6 : W.cell? ⟨w.heap.size, 6, none⟩ = some (.slice L labs.length cl) := by rw [hW]; simp
  have HB := Lib.hid hbb
  have h1 := node_any k kd it tx kids keys ents labs A Y E L c cy ce cl W wf3 ((hk.on hbb fun _ _ ⟨x, h1, h2⟩ => ⟨x, h1, VS.up hbb.size (Nat.le_refl _) (VS.on hbb h2)⟩).mono hbb.size fun _ _ h => h) ((hy.on hbb fun _ _ h => h).mono hbb.size fun _ _ h => h) ((ents_row hbb he).mono (Nat.le_refl _) fun _ _ ⟨x, h1, h2⟩ => ⟨x, h1, ES.up (Nat.le_refl _) (by omega) h2⟩) ((hl.on hbb fun _ _ h => h).mono hbb.size fun _ _ h => h)
  have h2 : Hid (∀ V, Below w.heap.size w V → Calls Try.prog 54 #[.slice A kids.length c, .func (.func 40) #[] #[]] V fun e w' => e = .returned (.bool (kids.all okV)) ∧ Below V.heap.size V w') := Lib.hid fun V hV => all7 k _ eg okV A c kids V (Lib.hid fun v cs U _ hv => IH.out v cs U hv) ((hk.on hV fun _ _ ⟨x, h1, h2⟩ => ⟨x, h1, VS.up hV.size (Nat.le_refl _) (VS.on hV h2)⟩).mono hV.size fun _ _ h => h)
  have h3 : Hid (∀ V, Below w.heap.size w V → Calls Try.prog 55 #[.slice E ents.length ce, .func (.func 56) #[] #[]] V fun e w' => e = .returned (.bool (ents.all okE)) ∧ Below V.heap.size V w') := Lib.hid fun V hV => all9 k _ eg2 okE E ce ents V (Lib.hid fun e cs U _ he => parts_any k IH e cs U he) (ents_row hV he)
  have HR : Hid (okV (.mk kd it tx kids keys ents labs) = ((labelsB labs && usesB kd it tx kids keys ents && kindB kd it tx kids keys ents) && kids.all okV && ents.all okE)) := Lib.hid (by rw [okV, okVs_all, okEs_all])
  generalize okV (.mk kd it tx kids keys ents labs) = y at HR ⊢
  generalize (labelsB labs && usesB kd it tx kids keys ents && kindB kd it tx kids keys ents) = z1 at h1 HR
  generalize kids.all okV = z2 at h2 HR
  generalize ents.all okE = z3 at h3 HR
  clear hk hy he hl hbb eg eg2 IH wf3
  go_enter Try.func40, Try.ntmps40
  go_wp2_with fail
  rw [← hW]
  clear hW
  go_wp2_with (go_at_call 53; refine h1.mono ?_; rintro e w1 ⟨rfl, hb1⟩; refine Hid.out ?_)
  refine Lib.hid ?_
  cases z1
  · have HU : Hid (y = false) := Lib.hid (by rw [HR.out]; rfl)
    go_wp2
    go_ret
    exact ⟨ret_bool HU.out.symm, HB.out.trans (hb1.mono HB.out.size)⟩
  have p3 : w1.cell? ⟨w.heap.size, 3, none⟩ = some (.slice A kids.length c) := (hb1.cell (p := ⟨_, 3, none⟩) hzz).trans q3
  have p5 : w1.cell? ⟨w.heap.size, 5, none⟩ = some (.slice E ents.length ce) := (hb1.cell (p := ⟨_, 5, none⟩) hzz).trans q5
  have hz1 : w.heap.size < w1.heap.size := Nat.lt_of_lt_of_le hzz hb1.size
  have HB1 := Lib.hid (HB.out.trans (hb1.mono HB.out.size))
  clear h1 q0 q1 q2 q3 q4 q5 q6 hb1
  go_wp2_with (go_at_call 54; refine (h2.out _ HB1.out).mono ?_; rintro e w2 ⟨rfl, hb2⟩; refine Hid.out ?_)
  refine Lib.hid ?_
  cases z2
  · have HU : Hid (y = false) := Lib.hid (by rw [HR.out]; rfl)
    go_wp2
    go_ret
    exact ⟨ret_bool HU.out.symm, HB1.out.trans (hb2.mono HB1.out.size)⟩
  have q5 : w2.cell? ⟨w.heap.size, 5, none⟩ = some (.slice E ents.length ce) := (hb2.cell (p := ⟨_, 5, none⟩) hz1).trans p5
  have HB2 := Lib.hid (HB1.out.trans (hb2.mono HB1.out.size))
  have HU : Hid (y = z3) := Lib.hid (by rw [HR.out]; rfl)
  clear p3 p5 hb2
  go_wp2_with (go_at_call 55; refine (h3.out _ HB2.out).mono ?_; rintro e w3 ⟨rfl, hb3⟩; refine Hid.out ?_)
  refine Lib.hid ?_
  go_wp2
  go_ret
  exact ⟨ret_bool HU.out.symm, HB2.out.trans (hb3.mono HB2.out.size)⟩
set_option maxRecDepth 100000 in
set_option maxHeartbeats 3200000 in
theorem validate_any (k : Nat) (v : Vl) (cs : List Value) (w : World) (h : VS k w w.heap.size v cs) : Calls Try.prog 17 #[.agg cs.toArray] w fun e w' => e = .returned (.int .i64 (if okV v then 0 else 1)) ∧ Below w.heap.size w w' := by
  obtain ⟨a, i, s, B1, n1, d1, B2, n2, d2, B3, n3, d3, B4, n4, d4, rfl⟩ := h.form7
  obtain ⟨W, hW⟩ : ∃ W, W = w.alloc (.cells #[.int .i64 a, .int .i64 i, .string s, .slice B1 n1 d1, .slice B2 n2 d2, .slice B3 n3 d3, .slice B4 n4 d4] 27) := ⟨_, rfl⟩
  have hbb : Below w.heap.size w W := by rw [hW]; exact (Below.refl _ _).alloc (Nat.le_refl _) _
  have hzz : w.heap.size < W.heap.size := by rw [hW]; simp
  have q0 : W.cell? ⟨w.heap.size, 0, none⟩ = some (.int .i64 a) := by rw [hW]; simp
  have q1 : W.cell? ⟨w.heap.size, 1, none⟩ = some (.int .i64 i) := by rw [hW]; simp
  have q2 : W.cell? ⟨w.heap.size, 2, none⟩ = some (.string s) := by rw [hW]; simp
  have q3 : W.cell? ⟨w.heap.size, 3, none⟩ = some (.slice B1 n1 d1) := by rw [hW]; simp
  have q4 : W.cell? ⟨w.heap.size, 4, none⟩ = some (.slice B2 n2 d2) := by rw [hW]; simp
  have q5 : W.cell? ⟨w.heap.size, 5, none⟩ = some (.slice B3 n3 d3) := by rw [hW]; simp
  have q6 : W.cell? ⟨w.heap.size, 6, none⟩ = some (.slice B4 n4 d4) := by rw [hW]; simp
  have HB := Lib.hid hbb
  have h1 := isValid_any k v _ W (VS.up hbb.size (Nat.le_refl _) (VS.on hbb h))
  generalize okV v = z at h1 ⊢
  clear h hbb hzz
  go_enter Try.func17, Try.ntmps17
  go_wp2_with fail
  rw [← hW]
  clear hW
  go_wp2_with (go_at_call 40; refine h1.mono ?_; rintro e w1 ⟨rfl, hb1⟩; refine Hid.out ?_)
  refine Lib.hid ?_
  cases z
  · go_wp2
    go_ret
    exact ⟨rfl, HB.out.trans (hb1.mono HB.out.size)⟩
  · go_wp2
    go_ret
    exact ⟨rfl, HB.out.trans (hb1.mono HB.out.size)⟩
end Go.Proofs.Ytcgmjgcdofejbaa
