/- What slices.CompareFunc returns, at equal lengths, at keys, texts, values and entries. -/
import Derived.Test.YtcjgaohblaidjaaGreatDoorVb02
namespace Go.Proofs.YtcjgaohblaidjaaGreatDoor
open Go Go.RowKit
theorem RowB.at2 {w : World} {H n j : Nat} {u : Value} {R : Nat → List Value → Prop} (h : RowP w H 2 u n R) (hj : j < n) :
  ∃ b off cap x0 x1, u = .slice (some ⟨b, off, none⟩) n cap ∧ b < H ∧ R j [x0, x1] ∧ w.cell? ⟨b, off + j * 2, none⟩ = some x0 ∧ w.cell? ⟨b, off + j * 2 + 1, none⟩ = some x1 := by
 obtain ⟨A, cap, h1, _, h3⟩ := h
 obtain ⟨b, off, rfl, h5, _, h7⟩ := h3 (by omega)
 obtain ⟨cs, h8, h9, h10⟩ := h7 j hj
 match cs, h8 with
 | [x0, x1], _ => exact ⟨b, off, cap, x0, x1, h1, h5, h10, h9 0 (by omega), h9 1 (by omega)⟩
theorem RowB.at1 {w : World} {H n j : Nat} {u : Value} {R : Nat → List Value → Prop} (h : RowP w H 1 u n R) (hj : j < n) :
  ∃ b off cap x0, u = .slice (some ⟨b, off, none⟩) n cap ∧ b < H ∧ R j [x0] ∧ w.cell? ⟨b, off + j, none⟩ = some x0 := by
 obtain ⟨A, cap, h1, _, h3⟩ := h
 obtain ⟨b, off, rfl, h5, _, h7⟩ := h3 (by omega)
 obtain ⟨cs, h8, h9, h10⟩ := h7 j hj
 match cs, h8 with
 | [x0], _ => exact ⟨b, off, cap, x0, h1, h5, h10, by simpa using h9 0 (by omega)⟩
theorem ES.on {w w' : World} {H : Nat} (hb : Below H w w') {k : Nat} {v : En} {cs : List Value} (h : ES k w H v cs) : ES k w' H v cs := by
 obtain ⟨l, f, r, rfl, ua, rs, rfl, hl, hr⟩ := h
 exact ⟨l, f, r, rfl, ua, rs, rfl, hl.on hb fun _ _ ⟨x, h1, h2⟩ => ⟨x, h1, VS.on hb h2⟩, VS.on hb hr⟩
theorem ES.up {w : World} {H H' : Nat} (hH : H ≤ H') {k k' : Nat} {v : En} {cs : List Value} (hk : k ≤ k') (h : ES k w H v cs) : ES k' w H' v cs := by
 obtain ⟨l, f, r, rfl, ua, rs, rfl, hl, hr⟩ := h
 exact ⟨l, f, r, rfl, ua, rs, rfl, hl.mono hH fun _ _ ⟨x, h1, h2⟩ => ⟨x, h1, VS.up hH hk h2⟩, VS.up hH hk hr⟩
theorem ES.form9 {k : Nat} {w : World} {H : Nat} {v : En} {cs : List Value} (h : ES k w H v cs) :
  ∃ A0 n0 c0 f a i s A1 n1 c1 A2 n2 c2 A3 n3 c3 A4 n4 c4, cs = [.slice A0 n0 c0, .bool f, .int .i64 a, .int .i64 i, .string s, .slice A1 n1 c1, .slice A2 n2 c2, .slice A3 n3 c3, .slice A4 n4 c4] := by
 obtain ⟨l, f, r, rfl, ua, rs, rfl, hl, hr⟩ := h
 obtain ⟨A, c, rfl, _⟩ := hl.form
 obtain ⟨a, i, s, A1, n1, c1, A2, n2, c2, A3, n3, c3, A4, n4, c4, rfl⟩ := hr.form7
 exact ⟨_, _, _, _, _, _, _, _, _, _, _, _, _, _, _, _, _, _, _, rfl⟩
set_option maxRecDepth 100000 in
set_option maxHeartbeats 3200000 in
theorem cmpf7 (k : Nat) (hP : Hid (∀ (a b : Vl) (ca cb : List Value) (w : World), VS k w w.heap.size a ca → VS k w w.heap.size b cb → Calls Tryz.prog 170 #[.agg ca.toArray, .agg cb.toArray] w fun e w' => e = .returned (.int .i64 (cmpV a b)) ∧ Below w.heap.size w w')) (A A' : Option Addr) (c c' : Nat) (l m : List (Vl)) (w : World) (hl : RowP w w.heap.size 7 (.slice A l.length c) l.length (fun j cs => ∃ x, l[j]? = some x ∧ VS k w w.heap.size x cs))
  (hm : RowP w w.heap.size 7 (.slice A' m.length c') m.length (fun j cs => ∃ x, m[j]? = some x ∧ VS k w w.heap.size x cs)) (he : l.length = m.length) :
  Calls Tryz.prog 180 #[.slice A l.length c, .slice A' m.length c', .func (.func 170) #[] #[]] w fun e w' => e = .returned (.int .i64 (cmpL cmpV l m)) ∧ Below w.heap.size w w' := by
 have eg := enters_of Tryz.func170 (by kernel_rfl) rfl
 obtain ⟨_, _, _, hln⟩ := hl.form
 obtain ⟨_, _, _, hmn⟩ := hm.form
 unfold maxLen at hln hmn
 have HL := Lib.hid hl
 have HM := Lib.hid hm
 have HE := Lib.hid he
 clear hl hm he
 go_enter Tryz.func180, Tryz.ntmps180
 go_wp2_with fail
 go_loopw [7, 13] (fun _ i wr => ∃ j : Nat, i = .int .i64 j ∧ j ≤ l.length ∧ cmpL cmpV (l.take j) (m.take j) = 0 ∧ Below w.heap.size w wr) (fun _ i _ => l.length - (intOf i).toNat)
 case atStart => exact ⟨0, rfl, by omega, by simp [cmpL], Below.refl _ _⟩
 case round =>
  obtain ⟨j, rfl, hj, h0, hb⟩ := hrel
  by_cases hjn : j < l.length
  ·
   obtain ⟨b, off, cap0, x0, x1, x2, x3, x4, x5, x6, hu, hbH, ⟨x, hx, hv⟩, c0, c1, c2, c3, c4, c5, c6⟩ := (HL.out.on hb (fun _ _ h => h)).at7 hjn
   obtain ⟨b', off', cap0', y0, y1, y2, y3, y4, y5, y6, hu', hbH', ⟨y, hy, hv'⟩, e0, e1, e2, e3, e4, e5, e6⟩ := (HM.out.on hb (fun _ _ h => h)).at7 (show j < m.length by have := HE.out; omega)
   injection hu with hA _ hcap
   subst hA hcap
   injection hu' with hA' _ hcap'
   subst hA' hcap'
   obtain ⟨a, i, s, B1, n1, d1, B2, n2, d2, B3, n3, d3, B4, n4, d4, hf⟩ := hv.form7
   simp only [List.cons.injEq, and_true] at hf
   obtain ⟨rfl, rfl, rfl, rfl, rfl, rfl, rfl⟩ := hf
   obtain ⟨a', i', s', B1', n1', d1', B2', n2', d2', B3', n3', d3', B4', n4', d4', hf⟩ := hv'.form7
   simp only [List.cons.injEq, and_true] at hf
   obtain ⟨rfl, rfl, rfl, rfl, rfl, rfl, rfl⟩ := hf
   have kn : (j : Int) < (l.length : Int) := by omega
   have km : (j : Int) < (m.length : Int) := by have := HE.out; omega
   have k0 : (0 : Int) ≤ (j : Int) := by omega
   have HS := Lib.hid (cmpL_step hx hy h0)
   have HB := Lib.hid hb
   have hlt : b' < wr.heap.size := Nat.lt_of_lt_of_le hbH' hb.size
   have HVX := Lib.hid hv
   have HVY := Lib.hid hv'
   clear hx hy h0 hb hv hv'
   have hg : ∀ (o : Obj) (i : Nat), (wr.alloc o).cell? ⟨b', i, none⟩ = wr.cell? ⟨b', i, none⟩ := fun o i => ((Below.refl _ wr).alloc (Nat.le_refl _) o).cell (p := ⟨b', i, none⟩) hlt
   have g0 : (wr.alloc (.cells #[.int .i64 a, .int .i64 i, .string s, .slice B1 n1 d1, .slice B2 n2 d2, .slice B3 n3 d3, .slice B4 n4 d4] 27)).cell? ⟨b', off' + j * 7, none⟩ = some (.int .i64 a') := (hg _ _).trans e0
   have g1 : (wr.alloc (.cells #[.int .i64 a, .int .i64 i, .string s, .slice B1 n1 d1, .slice B2 n2 d2, .slice B3 n3 d3, .slice B4 n4 d4] 27)).cell? ⟨b', off' + j * 7 + 1, none⟩ = some (.int .i64 i') := (hg _ _).trans e1
   have g2 : (wr.alloc (.cells #[.int .i64 a, .int .i64 i, .string s, .slice B1 n1 d1, .slice B2 n2 d2, .slice B3 n3 d3, .slice B4 n4 d4] 27)).cell? ⟨b', off' + j * 7 + 2, none⟩ = some (.string s') := (hg _ _).trans e2
   have g3 : (wr.alloc (.cells #[.int .i64 a, .int .i64 i, .string s, .slice B1 n1 d1, .slice B2 n2 d2, .slice B3 n3 d3, .slice B4 n4 d4] 27)).cell? ⟨b', off' + j * 7 + 3, none⟩ = some (.slice B1' n1' d1') := (hg _ _).trans e3
   have g4 : (wr.alloc (.cells #[.int .i64 a, .int .i64 i, .string s, .slice B1 n1 d1, .slice B2 n2 d2, .slice B3 n3 d3, .slice B4 n4 d4] 27)).cell? ⟨b', off' + j * 7 + 4, none⟩ = some (.slice B2' n2' d2') := (hg _ _).trans e4
   have g5 : (wr.alloc (.cells #[.int .i64 a, .int .i64 i, .string s, .slice B1 n1 d1, .slice B2 n2 d2, .slice B3 n3 d3, .slice B4 n4 d4] 27)).cell? ⟨b', off' + j * 7 + 5, none⟩ = some (.slice B3' n3' d3') := (hg _ _).trans e5
   have g6 : (wr.alloc (.cells #[.int .i64 a, .int .i64 i, .string s, .slice B1 n1 d1, .slice B2 n2 d2, .slice B3 n3 d3, .slice B4 n4 d4] 27)).cell? ⟨b', off' + j * 7 + 6, none⟩ = some (.slice B4' n4' d4') := (hg _ _).trans e6
   clear hg hlt
   go_wp2_with fail
   rename World => U
   obtain ⟨W2, hW2⟩ : ∃ W2, W2 = (U.alloc (.cells #[.int .i64 a, .int .i64 i, .string s, .slice B1 n1 d1, .slice B2 n2 d2, .slice B3 n3 d3, .slice B4 n4 d4] 27)).alloc (.cells #[.int .i64 a', .int .i64 i', .string s', .slice B1' n1' d1', .slice B2' n2' d2', .slice B3' n3' d3', .slice B4' n4' d4'] 27) := ⟨_, rfl⟩
   have hb2 : Below U.heap.size U W2 := by rw [hW2]; exact ((Below.refl _ _).alloc (Nat.le_refl _) _).alloc (by simp) _
   have q0 : W2.cell? ⟨U.heap.size, 0, none⟩ = some (.int .i64 a) := by rw [hW2]; simp
   have q1 : W2.cell? ⟨U.heap.size, 1, none⟩ = some (.int .i64 i) := by rw [hW2]; simp
   have q2 : W2.cell? ⟨U.heap.size, 2, none⟩ = some (.string s) := by rw [hW2]; simp
   have q3 : W2.cell? ⟨U.heap.size, 3, none⟩ = some (.slice B1 n1 d1) := by rw [hW2]; simp
   have q4 : W2.cell? ⟨U.heap.size, 4, none⟩ = some (.slice B2 n2 d2) := by rw [hW2]; simp
   have q5 : W2.cell? ⟨U.heap.size, 5, none⟩ = some (.slice B3 n3 d3) := by rw [hW2]; simp
   have q6 : W2.cell? ⟨U.heap.size, 6, none⟩ = some (.slice B4 n4 d4) := by rw [hW2]; simp
   have r0 : W2.cell? ⟨U.heap.size + 1, 0, none⟩ = some (.int .i64 a') := by rw [hW2]; simp
   have r1 : W2.cell? ⟨U.heap.size + 1, 1, none⟩ = some (.int .i64 i') := by rw [hW2]; simp
   have r2 : W2.cell? ⟨U.heap.size + 1, 2, none⟩ = some (.string s') := by rw [hW2]; simp
   have r3 : W2.cell? ⟨U.heap.size + 1, 3, none⟩ = some (.slice B1' n1' d1') := by rw [hW2]; simp
   have r4 : W2.cell? ⟨U.heap.size + 1, 4, none⟩ = some (.slice B2' n2' d2') := by rw [hW2]; simp
   have r5 : W2.cell? ⟨U.heap.size + 1, 5, none⟩ = some (.slice B3' n3' d3') := by rw [hW2]; simp
   have r6 : W2.cell? ⟨U.heap.size + 1, 6, none⟩ = some (.slice B4' n4' d4') := by rw [hW2]; simp
   have hbw := HB.out.trans (hb2.mono HB.out.size)
   have hc := hP.out x y _ _ W2 (VS.up hbw.size (Nat.le_refl _) (VS.on hbw HVX.out)) (VS.up hbw.size (Nat.le_refl _) (VS.on hbw HVY.out))
   have HBW := Lib.hid hbw
   rw [← hW2]
   clear hW2 hb2 hbw c0 c1 c2 c3 c4 c5 c6 e0 e1 e2 e3 e4 e5 e6 g0 g1 g2 g3 g4 g5 g6
   generalize cmpV x y = z at hc HS
   go_wp2_with fail
   refine hc.mono ?_
   rintro e w1 ⟨rfl, hb1⟩
   clear hc
   by_cases hz0 : z = 0
   ·
    have q2 : (z != 0) = false := by rw [bne_eq_false_iff_eq]; exact hz0
    go_wp2
    go_roundw
    case rel => exact ⟨j + 1, by go_num, by omega, HS.out.2 hz0, HBW.out.trans (hb1.mono HBW.out.size)⟩
    case measure => simp [intOf]; omega
   ·
    have q2 : (z != 0) = true := by rw [bne_iff_ne]; exact hz0
    go_wp2
    go_ret
    exact ⟨ret_i (by rw [HS.out.1 hz0]), HBW.out.trans (hb1.mono HBW.out.size)⟩
  ·
   have hjl : l.take j = l := List.take_of_length_le (by omega)
   have hjm : m.take j = m := List.take_of_length_le (by have := HE.out; omega)
   rw [hjl, hjm] at h0
   have HZ := Lib.hid h0
   have km : ¬ (l.length : Int) < (m.length : Int) := by have := HE.out; omega
   clear h0
   go_wp2
   go_ret
   exact ⟨ret_i (by rw [HZ.out]), hb⟩
set_option maxRecDepth 100000 in
set_option maxHeartbeats 3200000 in
theorem cmpf9 (k : Nat) (hP : Hid (∀ (a b : En) (ca cb : List Value) (w : World), ES k w w.heap.size a ca → ES k w w.heap.size b cb → Calls Tryz.prog 150 #[.agg ca.toArray, .agg cb.toArray] w fun e w' => e = .returned (.int .i64 (cmpE a b)) ∧ Below w.heap.size w w')) (A A' : Option Addr) (c c' : Nat) (l m : List (En)) (w : World) (hl : RowP w w.heap.size 9 (.slice A l.length c) l.length (fun j cs => ∃ x, l[j]? = some x ∧ ES k w w.heap.size x cs))
  (hm : RowP w w.heap.size 9 (.slice A' m.length c') m.length (fun j cs => ∃ x, m[j]? = some x ∧ ES k w w.heap.size x cs)) (he : l.length = m.length) :
  Calls Tryz.prog 197 #[.slice A l.length c, .slice A' m.length c', .func (.func 150) #[] #[]] w fun e w' => e = .returned (.int .i64 (cmpL cmpE l m)) ∧ Below w.heap.size w w' := by
 have eg := enters_of Tryz.func150 (by kernel_rfl) rfl
 obtain ⟨_, _, _, hln⟩ := hl.form
 obtain ⟨_, _, _, hmn⟩ := hm.form
 unfold maxLen at hln hmn
 have HL := Lib.hid hl
 have HM := Lib.hid hm
 have HE := Lib.hid he
 clear hl hm he
 go_enter Tryz.func197, Tryz.ntmps197
 go_wp2_with fail
 go_loopw [7, 13] (fun _ i wr => ∃ j : Nat, i = .int .i64 j ∧ j ≤ l.length ∧ cmpL cmpE (l.take j) (m.take j) = 0 ∧ Below w.heap.size w wr) (fun _ i _ => l.length - (intOf i).toNat)
 case atStart => exact ⟨0, rfl, by omega, by simp [cmpL], Below.refl _ _⟩
 case round =>
  obtain ⟨j, rfl, hj, h0, hb⟩ := hrel
  by_cases hjn : j < l.length
  ·
   obtain ⟨b, off, cap0, x0, x1, x2, x3, x4, x5, x6, x7, x8, hu, hbH, ⟨x, hx, hv⟩, c0, c1, c2, c3, c4, c5, c6, c7, c8⟩ := (HL.out.on hb (fun _ _ h => h)).at9 hjn
   obtain ⟨b', off', cap0', y0, y1, y2, y3, y4, y5, y6, y7, y8, hu', hbH', ⟨y, hy, hv'⟩, e0, e1, e2, e3, e4, e5, e6, e7, e8⟩ := (HM.out.on hb (fun _ _ h => h)).at9 (show j < m.length by have := HE.out; omega)
   injection hu with hA _ hcap
   subst hA hcap
   injection hu' with hA' _ hcap'
   subst hA' hcap'
   obtain ⟨B0, n0, d0, f, a, i, s, B1, n1, d1, B2, n2, d2, B3, n3, d3, B4, n4, d4, hf⟩ := hv.form9
   simp only [List.cons.injEq, and_true] at hf
   obtain ⟨rfl, rfl, rfl, rfl, rfl, rfl, rfl, rfl, rfl⟩ := hf
   obtain ⟨B0', n0', d0', f', a', i', s', B1', n1', d1', B2', n2', d2', B3', n3', d3', B4', n4', d4', hf⟩ := hv'.form9
   simp only [List.cons.injEq, and_true] at hf
   obtain ⟨rfl, rfl, rfl, rfl, rfl, rfl, rfl, rfl, rfl⟩ := hf
   have kn : (j : Int) < (l.length : Int) := by omega
   have km : (j : Int) < (m.length : Int) := by have := HE.out; omega
   have k0 : (0 : Int) ≤ (j : Int) := by omega
   have HS := Lib.hid (cmpL_step hx hy h0)
   have HB := Lib.hid hb
   have hlt : b' < wr.heap.size := Nat.lt_of_lt_of_le hbH' hb.size
   have HVX := Lib.hid hv
   have HVY := Lib.hid hv'
   clear hx hy h0 hb hv hv'
   have hg : ∀ (o : Obj) (i : Nat), (wr.alloc o).cell? ⟨b', i, none⟩ = wr.cell? ⟨b', i, none⟩ := fun o i => ((Below.refl _ wr).alloc (Nat.le_refl _) o).cell (p := ⟨b', i, none⟩) hlt
   have g0 : (wr.alloc (.cells #[.slice B0 n0 d0, .bool f, .int .i64 a, .int .i64 i, .string s, .slice B1 n1 d1, .slice B2 n2 d2, .slice B3 n3 d3, .slice B4 n4 d4] 45)).cell? ⟨b', off' + j * 9, none⟩ = some (.slice B0' n0' d0') := (hg _ _).trans e0
   have g1 : (wr.alloc (.cells #[.slice B0 n0 d0, .bool f, .int .i64 a, .int .i64 i, .string s, .slice B1 n1 d1, .slice B2 n2 d2, .slice B3 n3 d3, .slice B4 n4 d4] 45)).cell? ⟨b', off' + j * 9 + 1, none⟩ = some (.bool f') := (hg _ _).trans e1
   have g2 : (wr.alloc (.cells #[.slice B0 n0 d0, .bool f, .int .i64 a, .int .i64 i, .string s, .slice B1 n1 d1, .slice B2 n2 d2, .slice B3 n3 d3, .slice B4 n4 d4] 45)).cell? ⟨b', off' + j * 9 + 2, none⟩ = some (.int .i64 a') := (hg _ _).trans e2
   have g3 : (wr.alloc (.cells #[.slice B0 n0 d0, .bool f, .int .i64 a, .int .i64 i, .string s, .slice B1 n1 d1, .slice B2 n2 d2, .slice B3 n3 d3, .slice B4 n4 d4] 45)).cell? ⟨b', off' + j * 9 + 3, none⟩ = some (.int .i64 i') := (hg _ _).trans e3
   have g4 : (wr.alloc (.cells #[.slice B0 n0 d0, .bool f, .int .i64 a, .int .i64 i, .string s, .slice B1 n1 d1, .slice B2 n2 d2, .slice B3 n3 d3, .slice B4 n4 d4] 45)).cell? ⟨b', off' + j * 9 + 4, none⟩ = some (.string s') := (hg _ _).trans e4
   have g5 : (wr.alloc (.cells #[.slice B0 n0 d0, .bool f, .int .i64 a, .int .i64 i, .string s, .slice B1 n1 d1, .slice B2 n2 d2, .slice B3 n3 d3, .slice B4 n4 d4] 45)).cell? ⟨b', off' + j * 9 + 5, none⟩ = some (.slice B1' n1' d1') := (hg _ _).trans e5
   have g6 : (wr.alloc (.cells #[.slice B0 n0 d0, .bool f, .int .i64 a, .int .i64 i, .string s, .slice B1 n1 d1, .slice B2 n2 d2, .slice B3 n3 d3, .slice B4 n4 d4] 45)).cell? ⟨b', off' + j * 9 + 6, none⟩ = some (.slice B2' n2' d2') := (hg _ _).trans e6
   have g7 : (wr.alloc (.cells #[.slice B0 n0 d0, .bool f, .int .i64 a, .int .i64 i, .string s, .slice B1 n1 d1, .slice B2 n2 d2, .slice B3 n3 d3, .slice B4 n4 d4] 45)).cell? ⟨b', off' + j * 9 + 7, none⟩ = some (.slice B3' n3' d3') := (hg _ _).trans e7
   have g8 : (wr.alloc (.cells #[.slice B0 n0 d0, .bool f, .int .i64 a, .int .i64 i, .string s, .slice B1 n1 d1, .slice B2 n2 d2, .slice B3 n3 d3, .slice B4 n4 d4] 45)).cell? ⟨b', off' + j * 9 + 8, none⟩ = some (.slice B4' n4' d4') := (hg _ _).trans e8
   clear hg hlt
   go_wp2_with fail
   rename World => U
   obtain ⟨W2, hW2⟩ : ∃ W2, W2 = (U.alloc (.cells #[.slice B0 n0 d0, .bool f, .int .i64 a, .int .i64 i, .string s, .slice B1 n1 d1, .slice B2 n2 d2, .slice B3 n3 d3, .slice B4 n4 d4] 45)).alloc (.cells #[.slice B0' n0' d0', .bool f', .int .i64 a', .int .i64 i', .string s', .slice B1' n1' d1', .slice B2' n2' d2', .slice B3' n3' d3', .slice B4' n4' d4'] 45) := ⟨_, rfl⟩
   have hb2 : Below U.heap.size U W2 := by rw [hW2]; exact ((Below.refl _ _).alloc (Nat.le_refl _) _).alloc (by simp) _
   have q0 : W2.cell? ⟨U.heap.size, 0, none⟩ = some (.slice B0 n0 d0) := by rw [hW2]; simp
   have q1 : W2.cell? ⟨U.heap.size, 1, none⟩ = some (.bool f) := by rw [hW2]; simp
   have q2 : W2.cell? ⟨U.heap.size, 2, none⟩ = some (.int .i64 a) := by rw [hW2]; simp
   have q3 : W2.cell? ⟨U.heap.size, 3, none⟩ = some (.int .i64 i) := by rw [hW2]; simp
   have q4 : W2.cell? ⟨U.heap.size, 4, none⟩ = some (.string s) := by rw [hW2]; simp
   have q5 : W2.cell? ⟨U.heap.size, 5, none⟩ = some (.slice B1 n1 d1) := by rw [hW2]; simp
   have q6 : W2.cell? ⟨U.heap.size, 6, none⟩ = some (.slice B2 n2 d2) := by rw [hW2]; simp
   have q7 : W2.cell? ⟨U.heap.size, 7, none⟩ = some (.slice B3 n3 d3) := by rw [hW2]; simp
   have q8 : W2.cell? ⟨U.heap.size, 8, none⟩ = some (.slice B4 n4 d4) := by rw [hW2]; simp
   have r0 : W2.cell? ⟨U.heap.size + 1, 0, none⟩ = some (.slice B0' n0' d0') := by rw [hW2]; simp
   have r1 : W2.cell? ⟨U.heap.size + 1, 1, none⟩ = some (.bool f') := by rw [hW2]; simp
   have r2 : W2.cell? ⟨U.heap.size + 1, 2, none⟩ = some (.int .i64 a') := by rw [hW2]; simp
   have r3 : W2.cell? ⟨U.heap.size + 1, 3, none⟩ = some (.int .i64 i') := by rw [hW2]; simp
   have r4 : W2.cell? ⟨U.heap.size + 1, 4, none⟩ = some (.string s') := by rw [hW2]; simp
   have r5 : W2.cell? ⟨U.heap.size + 1, 5, none⟩ = some (.slice B1' n1' d1') := by rw [hW2]; simp
   have r6 : W2.cell? ⟨U.heap.size + 1, 6, none⟩ = some (.slice B2' n2' d2') := by rw [hW2]; simp
   have r7 : W2.cell? ⟨U.heap.size + 1, 7, none⟩ = some (.slice B3' n3' d3') := by rw [hW2]; simp
   have r8 : W2.cell? ⟨U.heap.size + 1, 8, none⟩ = some (.slice B4' n4' d4') := by rw [hW2]; simp
   have hbw := HB.out.trans (hb2.mono HB.out.size)
   have hc := hP.out x y _ _ W2 (ES.up hbw.size (Nat.le_refl _) (ES.on hbw HVX.out)) (ES.up hbw.size (Nat.le_refl _) (ES.on hbw HVY.out))
   have HBW := Lib.hid hbw
   rw [← hW2]
   clear hW2 hb2 hbw c0 c1 c2 c3 c4 c5 c6 c7 c8 e0 e1 e2 e3 e4 e5 e6 e7 e8 g0 g1 g2 g3 g4 g5 g6 g7 g8
   generalize cmpE x y = z at hc HS
   go_wp2_with fail
   refine hc.mono ?_
   rintro e w1 ⟨rfl, hb1⟩
   clear hc
   by_cases hz0 : z = 0
   ·
    have q2 : (z != 0) = false := by rw [bne_eq_false_iff_eq]; exact hz0
    go_wp2
    go_roundw
    case rel => exact ⟨j + 1, by go_num, by omega, HS.out.2 hz0, HBW.out.trans (hb1.mono HBW.out.size)⟩
    case measure => simp [intOf]; omega
   ·
    have q2 : (z != 0) = true := by rw [bne_iff_ne]; exact hz0
    go_wp2
    go_ret
    exact ⟨ret_i (by rw [HS.out.1 hz0]), HBW.out.trans (hb1.mono HBW.out.size)⟩
  ·
   have hjl : l.take j = l := List.take_of_length_le (by omega)
   have hjm : m.take j = m := List.take_of_length_le (by have := HE.out; omega)
   rw [hjl, hjm] at h0
   have HZ := Lib.hid h0
   have km : ¬ (l.length : Int) < (m.length : Int) := by have := HE.out; omega
   clear h0
   go_wp2
   go_ret
   exact ⟨ret_i (by rw [HZ.out]), hb⟩
set_option maxRecDepth 100000 in
set_option maxHeartbeats 3200000 in
theorem cmpf2 (A A' : Option Addr) (c c' : Nat) (l m : List (Int × List UInt8)) (w : World) (hl : RowP w w.heap.size 2 (.slice A l.length c) l.length (fun j cs => ∃ x, l[j]? = some x ∧ cs = [.int .i64 x.1, .string ⟨x.2.toArray⟩] ∧ (Lit.int .i64 x.1).wf = true ∧ x.2.length ≤ maxLen))
  (hm : RowP w w.heap.size 2 (.slice A' m.length c') m.length (fun j cs => ∃ x, m[j]? = some x ∧ cs = [.int .i64 x.1, .string ⟨x.2.toArray⟩] ∧ (Lit.int .i64 x.1).wf = true ∧ x.2.length ≤ maxLen)) (he : l.length = m.length) :
  Calls Tryz.prog 196 #[.slice A l.length c, .slice A' m.length c', .func (.func 145) #[] #[]] w fun e w' => e = .returned (.int .i64 (cmpL cmpK l m)) ∧ Below w.heap.size w w' := by
 have eg := enters_of Tryz.func145 (by kernel_rfl) rfl
 obtain ⟨_, _, _, hln⟩ := hl.form
 obtain ⟨_, _, _, hmn⟩ := hm.form
 unfold maxLen at hln hmn
 have HL := Lib.hid hl
 have HM := Lib.hid hm
 have HE := Lib.hid he
 clear hl hm he
 go_enter Tryz.func196, Tryz.ntmps196
 go_wp2_with fail
 go_loopw [7, 13] (fun _ i wr => ∃ j : Nat, i = .int .i64 j ∧ j ≤ l.length ∧ cmpL cmpK (l.take j) (m.take j) = 0 ∧ Below w.heap.size w wr) (fun _ i _ => l.length - (intOf i).toNat)
 case atStart => exact ⟨0, rfl, by omega, by simp [cmpL], Below.refl _ _⟩
 case round =>
  obtain ⟨j, rfl, hj, h0, hb⟩ := hrel
  by_cases hjn : j < l.length
  ·
   obtain ⟨b, off, cap0, x0, x1, hu, hbH, ⟨x, hx, hv⟩, c0, c1⟩ := (HL.out.on hb (fun _ _ h => h)).at2 hjn
   obtain ⟨b', off', cap0', y0, y1, hu', hbH', ⟨y, hy, hv'⟩, e0, e1⟩ := (HM.out.on hb (fun _ _ h => h)).at2 (show j < m.length by have := HE.out; omega)
   injection hu with hA _ hcap
   subst hA hcap
   injection hu' with hA' _ hcap'
   subst hA' hcap'
   obtain ⟨hf, -, -⟩ := hv
   simp only [List.cons.injEq, and_true] at hf
   obtain ⟨rfl, rfl⟩ := hf
   obtain ⟨hf, -, -⟩ := hv'
   simp only [List.cons.injEq, and_true] at hf
   obtain ⟨rfl, rfl⟩ := hf
   have kn : (j : Int) < (l.length : Int) := by omega
   have km : (j : Int) < (m.length : Int) := by have := HE.out; omega
   have k0 : (0 : Int) ≤ (j : Int) := by omega
   have HS := Lib.hid (cmpL_step hx hy h0)
   have HB := Lib.hid hb
   have hlt : b' < wr.heap.size := Nat.lt_of_lt_of_le hbH' hb.size
   clear hx hy h0 hb
   have hg : ∀ (o : Obj) (i : Nat), (wr.alloc o).cell? ⟨b', i, none⟩ = wr.cell? ⟨b', i, none⟩ := fun o i => ((Below.refl _ wr).alloc (Nat.le_refl _) o).cell (p := ⟨b', i, none⟩) hlt
   have g0 : (wr.alloc (.cells #[.int .i64 x.1, .string ⟨x.2.toArray⟩] 80)).cell? ⟨b', off' + j * 2, none⟩ = some (.int .i64 y.1) := (hg _ _).trans e0
   have g1 : (wr.alloc (.cells #[.int .i64 x.1, .string ⟨x.2.toArray⟩] 80)).cell? ⟨b', off' + j * 2 + 1, none⟩ = some (.string ⟨y.2.toArray⟩) := (hg _ _).trans e1
   clear hg hlt
   go_wp2_with fail
   rename World => U
   obtain ⟨W2, hW2⟩ : ∃ W2, W2 = (U.alloc (.cells #[.int .i64 x.1, .string ⟨x.2.toArray⟩] 80)).alloc (.cells #[.int .i64 y.1, .string ⟨y.2.toArray⟩] 80) := ⟨_, rfl⟩
   have hb2 : Below U.heap.size U W2 := by rw [hW2]; exact ((Below.refl _ _).alloc (Nat.le_refl _) _).alloc (by simp) _
   have q0 : W2.cell? ⟨U.heap.size, 0, none⟩ = some (.int .i64 x.1) := by rw [hW2]; simp
   have q1 : W2.cell? ⟨U.heap.size, 1, none⟩ = some (.string ⟨x.2.toArray⟩) := by rw [hW2]; simp
   have r0 : W2.cell? ⟨U.heap.size + 1, 0, none⟩ = some (.int .i64 y.1) := by rw [hW2]; simp
   have r1 : W2.cell? ⟨U.heap.size + 1, 1, none⟩ = some (.string ⟨y.2.toArray⟩) := by rw [hW2]; simp
   have hbw := HB.out.trans (hb2.mono HB.out.size)
   have hc := cmpKeys_any x y W2
   have HBW := Lib.hid hbw
   rw [← hW2]
   clear hW2 hb2 hbw c0 c1 e0 e1 g0 g1
   generalize cmpK x y = z at hc HS
   go_wp2_with fail
   refine hc.mono ?_
   rintro e w1 ⟨rfl, hb1⟩
   clear hc
   by_cases hz0 : z = 0
   ·
    have q2 : (z != 0) = false := by rw [bne_eq_false_iff_eq]; exact hz0
    go_wp2
    go_roundw
    case rel => exact ⟨j + 1, by go_num, by omega, HS.out.2 hz0, HBW.out.trans (hb1.mono HBW.out.size)⟩
    case measure => simp [intOf]; omega
   ·
    have q2 : (z != 0) = true := by rw [bne_iff_ne]; exact hz0
    go_wp2
    go_ret
    exact ⟨ret_i (by rw [HS.out.1 hz0]), HBW.out.trans (hb1.mono HBW.out.size)⟩
  ·
   have hjl : l.take j = l := List.take_of_length_le (by omega)
   have hjm : m.take j = m := List.take_of_length_le (by have := HE.out; omega)
   rw [hjl, hjm] at h0
   have HZ := Lib.hid h0
   have km : ¬ (l.length : Int) < (m.length : Int) := by have := HE.out; omega
   clear h0
   go_wp2
   go_ret
   exact ⟨ret_i (by rw [HZ.out]), hb⟩
set_option maxRecDepth 100000 in
set_option maxHeartbeats 3200000 in
theorem cmpf1 (A A' : Option Addr) (c c' : Nat) (l m : List (List UInt8)) (w : World) (hl : RowP w w.heap.size 1 (.slice A l.length c) l.length (fun j cs => ∃ x, l[j]? = some x ∧ cs = [.string ⟨x.toArray⟩] ∧ x.length ≤ maxLen))
  (hm : RowP w w.heap.size 1 (.slice A' m.length c') m.length (fun j cs => ∃ x, m[j]? = some x ∧ cs = [.string ⟨x.toArray⟩] ∧ x.length ≤ maxLen)) (he : l.length = m.length) :
  Calls Tryz.prog 198 #[.slice A l.length c, .slice A' m.length c', .func (.func 112) #[] #[]] w fun e w' => e = .returned (.int .i64 (cmpL cmpT l m)) ∧ Below w.heap.size w w' := by
 have eg := enters_of Tryz.func112 (by kernel_rfl) rfl
 obtain ⟨_, _, _, hln⟩ := hl.form
 obtain ⟨_, _, _, hmn⟩ := hm.form
 unfold maxLen at hln hmn
 have HL := Lib.hid hl
 have HM := Lib.hid hm
 have HE := Lib.hid he
 clear hl hm he
 go_enter Tryz.func198, Tryz.ntmps198
 go_wp2_with fail
 go_loopw [7, 13] (fun _ i wr => ∃ j : Nat, i = .int .i64 j ∧ j ≤ l.length ∧ cmpL cmpT (l.take j) (m.take j) = 0 ∧ Below w.heap.size w wr) (fun _ i _ => l.length - (intOf i).toNat)
 case atStart => exact ⟨0, rfl, by omega, by simp [cmpL], Below.refl _ _⟩
 case round =>
  obtain ⟨j, rfl, hj, h0, hb⟩ := hrel
  by_cases hjn : j < l.length
  ·
   obtain ⟨b, off, cap0, x0, hu, hbH, ⟨x, hx, hv⟩, c0⟩ := (HL.out.on hb (fun _ _ h => h)).at1 hjn
   obtain ⟨b', off', cap0', y0, hu', hbH', ⟨y, hy, hv'⟩, e0⟩ := (HM.out.on hb (fun _ _ h => h)).at1 (show j < m.length by have := HE.out; omega)
   injection hu with hA _ hcap
   subst hA hcap
   injection hu' with hA' _ hcap'
   subst hA' hcap'
   obtain ⟨hf, -⟩ := hv
   simp only [List.cons.injEq, and_true] at hf
   obtain rfl := hf
   obtain ⟨hf, -⟩ := hv'
   simp only [List.cons.injEq, and_true] at hf
   obtain rfl := hf
   have kn : (j : Int) < (l.length : Int) := by omega
   have km : (j : Int) < (m.length : Int) := by have := HE.out; omega
   have k0 : (0 : Int) ≤ (j : Int) := by omega
   have HS := Lib.hid (cmpL_step hx hy h0)
   have HB := Lib.hid hb
   clear hx hy h0 hb
   go_wp2_with fail
   have hc := strCmp_any ⟨x.toArray⟩ ⟨y.toArray⟩ wr
   have HBW := HB
   generalize cmpT x y = z at hc HS
   go_wp2_with fail
   refine hc.mono ?_
   rintro e w1 ⟨rfl, rfl⟩
   clear hc
   by_cases hz0 : z = 0
   ·
    have q2 : (z != 0) = false := by rw [bne_eq_false_iff_eq]; exact hz0
    go_wp2
    go_roundw
    case rel => exact ⟨j + 1, by go_num, by omega, HS.out.2 hz0, HBW.out⟩
    case measure => simp [intOf]; omega
   ·
    have q2 : (z != 0) = true := by rw [bne_iff_ne]; exact hz0
    go_wp2
    go_ret
    exact ⟨ret_i (by rw [HS.out.1 hz0]), HBW.out⟩
  ·
   have hjl : l.take j = l := List.take_of_length_le (by omega)
   have hjm : m.take j = m := List.take_of_length_le (by have := HE.out; omega)
   rw [hjl, hjm] at h0
   have HZ := Lib.hid h0
   have km : ¬ (l.length : Int) < (m.length : Int) := by have := HE.out; omega
   clear h0
   go_wp2
   go_ret
   exact ⟨ret_i (by rw [HZ.out]), hb⟩
end Go.Proofs.YtcjgaohblaidjaaGreatDoor
