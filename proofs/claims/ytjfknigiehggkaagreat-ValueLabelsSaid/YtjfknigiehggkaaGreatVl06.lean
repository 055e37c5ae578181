/- What all returns at values, entries, keys and texts: whether a test holds for every element. -/
import Derived.Test.YtjfknigiehggkaaGreatVl05
namespace Go.Proofs.YtjfknigiehggkaaGreat
open Go Go.RowKit
set_option maxRecDepth 100000 in
set_option maxHeartbeats 1600000 in
theorem all7 (k : Nat) (F : Nat) (eg : ∀ args w, (callFunc F args).run Tryz.prog w = .ok (.enter F args) w) (p : Vl → Bool) (A : Option Addr) (c : Nat) (l : List (Vl)) (w : World)
    (hF : Hid (∀ (v : Vl) (cs : List Value) (V : World), Below w.heap.size w V → VS k V V.heap.size v cs → Calls Tryz.prog F #[.agg cs.toArray] V fun e w' => e = .returned (.bool (p v)) ∧ Below V.heap.size V w')) (hl : RowP w w.heap.size 7 (.slice A l.length c) l.length (fun j cs => ∃ x, l[j]? = some x ∧ VS k w w.heap.size x cs)) :
    Calls Tryz.prog 84 #[.slice A l.length c, .func (.func F) #[] #[]] w fun e w' => e = .returned (.bool (l.all p)) ∧ Below w.heap.size w w' := by
  obtain ⟨_, _, _, hln⟩ := hl.form
  unfold maxLen at hln
  have HL := Lib.hid hl
  clear hl
  generalize hrr : l.all p = r
  have HR := Lib.hid hrr
  clear hrr
  go_enter Tryz.func84, Tryz.ntmps84
  go_wp2_with fail
  go_loopw [6, 9] (fun _ i wr => ∃ j : Nat, i = .int .i64 j ∧ j ≤ l.length ∧ Hid ((l.take j).all p = true) ∧ Below w.heap.size w wr) (fun _ i _ => l.length - (intOf i).toNat)
  case atStart => exact ⟨0, rfl, by omega, Lib.hid (by simp), Below.refl _ _⟩
  case round =>
    obtain ⟨j, rfl, hj, h0, hb⟩ := hrel
    by_cases hjn : j < l.length
    · obtain ⟨b, off, cap0, x0, x1, x2, x3, x4, x5, x6, hu, hbH, ⟨x, hx, hv⟩, c0, c1, c2, c3, c4, c5, c6⟩ := (HL.out.on hb (fun _ _ h => h)).at7 hjn
      injection hu with hA _ hcap
      subst hA hcap
      obtain ⟨a, i, s, B1, n1, d1, B2, n2, d2, B3, n3, d3, B4, n4, d4, hf⟩ := hv.form7
      simp only [List.cons.injEq, and_true] at hf
      obtain ⟨rfl, rfl, rfl, rfl, rfl, rfl, rfl⟩ := hf
      have kn : (j : Int) < (l.length : Int) := by omega
      have k0 : (0 : Int) ≤ (j : Int) := by omega
      have HS : Hid (l.take (j + 1) = l.take j ++ [x]) := Lib.hid (by rw [List.take_add_one, hx]; rfl)
      have HM : Hid (x ∈ l) := Lib.hid (List.mem_of_getElem? hx)
      have HB := Lib.hid hb
      have HVX := Lib.hid hv
      clear hx hb hv
      go_wp2_with fail
      rename World => U
      obtain ⟨W2, hW2⟩ : ∃ W2, W2 = U.alloc (.cells #[.int .i64 a, .int .i64 i, .string s, .slice B1 n1 d1, .slice B2 n2 d2, .slice B3 n3 d3, .slice B4 n4 d4] 27) := ⟨_, rfl⟩
      have hb2 : Below U.heap.size U W2 := by rw [hW2]; exact (Below.refl _ _).alloc (Nat.le_refl _) _
      have q0 : W2.cell? ⟨U.heap.size, 0, none⟩ = some (.int .i64 a) := by rw [hW2]; simp
      have q1 : W2.cell? ⟨U.heap.size, 1, none⟩ = some (.int .i64 i) := by rw [hW2]; simp
      have q2 : W2.cell? ⟨U.heap.size, 2, none⟩ = some (.string s) := by rw [hW2]; simp
      have q3 : W2.cell? ⟨U.heap.size, 3, none⟩ = some (.slice B1 n1 d1) := by rw [hW2]; simp
      have q4 : W2.cell? ⟨U.heap.size, 4, none⟩ = some (.slice B2 n2 d2) := by rw [hW2]; simp
      have q5 : W2.cell? ⟨U.heap.size, 5, none⟩ = some (.slice B3 n3 d3) := by rw [hW2]; simp
      have q6 : W2.cell? ⟨U.heap.size, 6, none⟩ = some (.slice B4 n4 d4) := by rw [hW2]; simp
      have hbw := HB.out.trans (hb2.mono HB.out.size)
      have hc := hF.out x _ W2 hbw (VS.up hbw.size (Nat.le_refl _) (VS.on hbw HVX.out))
      have HBW := Lib.hid hbw
      rw [← hW2]
      clear hW2 hb2 hbw c0 c1 c2 c3 c4 c5 c6
      go_wp2_with fail
      generalize hpx : p x = z at hc
      have HP := Lib.hid hpx
      clear hpx
      refine hc.mono ?_
      rintro e w1 ⟨rfl, hb1⟩
      clear hc
      cases z
      · have HU : Hid (r = false) := Lib.hid (by rw [← HR.out, List.all_eq_false]; exact ⟨x, HM.out, by rw [HP.out]; simp⟩)
        go_wp2
        go_ret
        exact ⟨ret_bool HU.out.symm, HBW.out.trans (hb1.mono HBW.out.size)⟩
      · go_wp2
        go_roundw
        case rel => exact ⟨j + 1, by go_num, by omega, Lib.hid (by rw [HS.out, List.all_append, h0.out]; simp [HP.out]), HBW.out.trans (hb1.mono HBW.out.size)⟩
        case measure => simp [intOf]; omega
    · have hke : l.take j = l := List.take_of_length_le (by omega)
      have HZ : Hid (r = true) := Lib.hid (by rw [← HR.out, ← h0.out, hke])
      clear hke
      go_wp2
      go_ret
      exact ⟨ret_bool HZ.out.symm, hb⟩
set_option maxRecDepth 100000 in
set_option maxHeartbeats 1600000 in
theorem all9 (k : Nat) (F : Nat) (eg : ∀ args w, (callFunc F args).run Tryz.prog w = .ok (.enter F args) w) (p : En → Bool) (A : Option Addr) (c : Nat) (l : List (En)) (w : World)
    (hF : Hid (∀ (v : En) (cs : List Value) (V : World), Below w.heap.size w V → ES k V V.heap.size v cs → Calls Tryz.prog F #[.agg cs.toArray] V fun e w' => e = .returned (.bool (p v)) ∧ Below V.heap.size V w')) (hl : RowP w w.heap.size 9 (.slice A l.length c) l.length (fun j cs => ∃ x, l[j]? = some x ∧ ES k w w.heap.size x cs)) :
    Calls Tryz.prog 65 #[.slice A l.length c, .func (.func F) #[] #[]] w fun e w' => e = .returned (.bool (l.all p)) ∧ Below w.heap.size w w' := by
  obtain ⟨_, _, _, hln⟩ := hl.form
  unfold maxLen at hln
  have HL := Lib.hid hl
  clear hl
  generalize hrr : l.all p = r
  have HR := Lib.hid hrr
  clear hrr
  go_enter Tryz.func65, Tryz.ntmps65
  go_wp2_with fail
  go_loopw [6, 9] (fun _ i wr => ∃ j : Nat, i = .int .i64 j ∧ j ≤ l.length ∧ Hid ((l.take j).all p = true) ∧ Below w.heap.size w wr) (fun _ i _ => l.length - (intOf i).toNat)
  case atStart => exact ⟨0, rfl, by omega, Lib.hid (by simp), Below.refl _ _⟩
  case round =>
    obtain ⟨j, rfl, hj, h0, hb⟩ := hrel
    by_cases hjn : j < l.length
    · obtain ⟨b, off, cap0, x0, x1, x2, x3, x4, x5, x6, x7, x8, hu, hbH, ⟨x, hx, hv⟩, c0, c1, c2, c3, c4, c5, c6, c7, c8⟩ := (HL.out.on hb (fun _ _ h => h)).at9 hjn
      injection hu with hA _ hcap
      subst hA hcap
      obtain ⟨B0, n0, d0, f, a, i, s, B1, n1, d1, B2, n2, d2, B3, n3, d3, B4, n4, d4, hf⟩ := hv.form9
      simp only [List.cons.injEq, and_true] at hf
      obtain ⟨rfl, rfl, rfl, rfl, rfl, rfl, rfl, rfl, rfl⟩ := hf
      have kn : (j : Int) < (l.length : Int) := by omega
      have k0 : (0 : Int) ≤ (j : Int) := by omega
      have HS : Hid (l.take (j + 1) = l.take j ++ [x]) := Lib.hid (by rw [List.take_add_one, hx]; rfl)
      have HM : Hid (x ∈ l) := Lib.hid (List.mem_of_getElem? hx)
      have HB := Lib.hid hb
      have HVX := Lib.hid hv
      clear hx hb hv
      go_wp2_with fail
      rename World => U
      obtain ⟨W2, hW2⟩ : ∃ W2, W2 = U.alloc (.cells #[.slice B0 n0 d0, .bool f, .int .i64 a, .int .i64 i, .string s, .slice B1 n1 d1, .slice B2 n2 d2, .slice B3 n3 d3, .slice B4 n4 d4] 55) := ⟨_, rfl⟩
      have hb2 : Below U.heap.size U W2 := by rw [hW2]; exact (Below.refl _ _).alloc (Nat.le_refl _) _
      have q0 : W2.cell? ⟨U.heap.size, 0, none⟩ = some (.slice B0 n0 d0) := by rw [hW2]; simp
      have q1 : W2.cell? ⟨U.heap.size, 1, none⟩ = some (.bool f) := by rw [hW2]; simp
      have q2 : W2.cell? ⟨U.heap.size, 2, none⟩ = some (.int .i64 a) := by rw [hW2]; simp
      have q3 : W2.cell? ⟨U.heap.size, 3, none⟩ = some (.int .i64 i) := by rw [hW2]; simp
      have q4 : W2.cell? ⟨U.heap.size, 4, none⟩ = some (.string s) := by rw [hW2]; simp
      have q5 : W2.cell? ⟨U.heap.size, 5, none⟩ = some (.slice B1 n1 d1) := by rw [hW2]; simp
      have q6 : W2.cell? ⟨U.heap.size, 6, none⟩ = some (.slice B2 n2 d2) := by rw [hW2]; simp
      have q7 : W2.cell? ⟨U.heap.size, 7, none⟩ = some (.slice B3 n3 d3) := by rw [hW2]; simp
      have q8 : W2.cell? ⟨U.heap.size, 8, none⟩ = some (.slice B4 n4 d4) := by rw [hW2]; simp
      have hbw := HB.out.trans (hb2.mono HB.out.size)
      have hc := hF.out x _ W2 hbw (ES.up hbw.size (Nat.le_refl _) (ES.on hbw HVX.out))
      have HBW := Lib.hid hbw
      rw [← hW2]
      clear hW2 hb2 hbw c0 c1 c2 c3 c4 c5 c6 c7 c8
      go_wp2_with fail
      generalize hpx : p x = z at hc
      have HP := Lib.hid hpx
      clear hpx
      refine hc.mono ?_
      rintro e w1 ⟨rfl, hb1⟩
      clear hc
      cases z
      · have HU : Hid (r = false) := Lib.hid (by rw [← HR.out, List.all_eq_false]; exact ⟨x, HM.out, by rw [HP.out]; simp⟩)
        go_wp2
        go_ret
        exact ⟨ret_bool HU.out.symm, HBW.out.trans (hb1.mono HBW.out.size)⟩
      · go_wp2
        go_roundw
        case rel => exact ⟨j + 1, by go_num, by omega, Lib.hid (by rw [HS.out, List.all_append, h0.out]; simp [HP.out]), HBW.out.trans (hb1.mono HBW.out.size)⟩
        case measure => simp [intOf]; omega
    · have hke : l.take j = l := List.take_of_length_le (by omega)
      have HZ : Hid (r = true) := Lib.hid (by rw [← HR.out, ← h0.out, hke])
      clear hke
      go_wp2
      go_ret
      exact ⟨ret_bool HZ.out.symm, hb⟩
set_option maxRecDepth 100000 in
set_option maxHeartbeats 1600000 in
theorem all2 (F : Nat) (eg : ∀ args w, (callFunc F args).run Tryz.prog w = .ok (.enter F args) w) (p : (Int × List UInt8) → Bool) (A : Option Addr) (c : Nat) (l : List (Int × List UInt8)) (w : World)
    (hF : Hid (∀ (x : Int × List UInt8) (V : World), (Lit.int .i64 x.1).wf = true ∧ x.2.length ≤ maxLen → Calls Tryz.prog F #[.agg #[.int .i64 x.1, .string ⟨x.2.toArray⟩]] V fun e w' => e = .returned (.bool (p x)) ∧ Below V.heap.size V w')) (hl : RowP w w.heap.size 2 (.slice A l.length c) l.length (fun j cs => ∃ x, l[j]? = some x ∧ cs = [.int .i64 x.1, .string ⟨x.2.toArray⟩] ∧ (Lit.int .i64 x.1).wf = true ∧ x.2.length ≤ maxLen)) :
    Calls Tryz.prog 54 #[.slice A l.length c, .func (.func F) #[] #[]] w fun e w' => e = .returned (.bool (l.all p)) ∧ Below w.heap.size w w' := by
  obtain ⟨_, _, _, hln⟩ := hl.form
  unfold maxLen at hln
  have HL := Lib.hid hl
  clear hl
  generalize hrr : l.all p = r
  have HR := Lib.hid hrr
  clear hrr
  go_enter Tryz.func54, Tryz.ntmps54
  go_wp2_with fail
  go_loopw [6, 9] (fun _ i wr => ∃ j : Nat, i = .int .i64 j ∧ j ≤ l.length ∧ Hid ((l.take j).all p = true) ∧ Below w.heap.size w wr) (fun _ i _ => l.length - (intOf i).toNat)
  case atStart => exact ⟨0, rfl, by omega, Lib.hid (by simp), Below.refl _ _⟩
  case round =>
    obtain ⟨j, rfl, hj, h0, hb⟩ := hrel
    by_cases hjn : j < l.length
    · obtain ⟨b, off, cap0, x0, x1, hu, hbH, ⟨x, hx, hv⟩, c0, c1⟩ := (HL.out.on hb (fun _ _ h => h)).at2 hjn
      injection hu with hA _ hcap
      subst hA hcap
      obtain ⟨hf, hok⟩ := hv
      simp only [List.cons.injEq, and_true] at hf
      obtain ⟨rfl, rfl⟩ := hf
      have kn : (j : Int) < (l.length : Int) := by omega
      have k0 : (0 : Int) ≤ (j : Int) := by omega
      have HS : Hid (l.take (j + 1) = l.take j ++ [x]) := Lib.hid (by rw [List.take_add_one, hx]; rfl)
      have HM : Hid (x ∈ l) := Lib.hid (List.mem_of_getElem? hx)
      have HB := Lib.hid hb
      have HOK := Lib.hid hok
      clear hx hb hok
      go_wp2_with fail
      rename World => U
      obtain ⟨W2, hW2⟩ : ∃ W2, W2 = U.alloc (.cells #[.int .i64 x.1, .string ⟨x.2.toArray⟩] 74) := ⟨_, rfl⟩
      have hb2 : Below U.heap.size U W2 := by rw [hW2]; exact (Below.refl _ _).alloc (Nat.le_refl _) _
      have q0 : W2.cell? ⟨U.heap.size, 0, none⟩ = some (.int .i64 x.1) := by rw [hW2]; simp
      have q1 : W2.cell? ⟨U.heap.size, 1, none⟩ = some (.string ⟨x.2.toArray⟩) := by rw [hW2]; simp
      have hbw := HB.out.trans (hb2.mono HB.out.size)
      have hc := hF.out x W2 HOK.out
      have HBW := Lib.hid hbw
      rw [← hW2]
      clear hW2 hb2 hbw c0 c1
      go_wp2_with fail
      generalize hpx : p x = z at hc
      have HP := Lib.hid hpx
      clear hpx
      refine hc.mono ?_
      rintro e w1 ⟨rfl, hb1⟩
      clear hc
      cases z
      · have HU : Hid (r = false) := Lib.hid (by rw [← HR.out, List.all_eq_false]; exact ⟨x, HM.out, by rw [HP.out]; simp⟩)
        go_wp2
        go_ret
        exact ⟨ret_bool HU.out.symm, HBW.out.trans (hb1.mono HBW.out.size)⟩
      · go_wp2
        go_roundw
        case rel => exact ⟨j + 1, by go_num, by omega, Lib.hid (by rw [HS.out, List.all_append, h0.out]; simp [HP.out]), HBW.out.trans (hb1.mono HBW.out.size)⟩
        case measure => simp [intOf]; omega
    · have hke : l.take j = l := List.take_of_length_le (by omega)
      have HZ : Hid (r = true) := Lib.hid (by rw [← HR.out, ← h0.out, hke])
      clear hke
      go_wp2
      go_ret
      exact ⟨ret_bool HZ.out.symm, hb⟩
set_option maxRecDepth 100000 in
set_option maxHeartbeats 1600000 in
theorem all1 (F : Nat) (eg : ∀ args w, (callFunc F args).run Tryz.prog w = .ok (.enter F args) w) (p : (List UInt8) → Bool) (A : Option Addr) (c : Nat) (l : List (List UInt8)) (w : World)
    (hF : Hid (∀ (x : List UInt8) (V : World), x.length ≤ maxLen → Calls Tryz.prog F #[.string ⟨x.toArray⟩] V fun e w' => e = .returned (.bool (p x)) ∧ Below V.heap.size V w')) (hl : RowP w w.heap.size 1 (.slice A l.length c) l.length (fun j cs => ∃ x, l[j]? = some x ∧ cs = [.string ⟨x.toArray⟩] ∧ x.length ≤ maxLen)) :
    Calls Tryz.prog 113 #[.slice A l.length c, .func (.func F) #[] #[]] w fun e w' => e = .returned (.bool (l.all p)) ∧ Below w.heap.size w w' := by
  obtain ⟨_, _, _, hln⟩ := hl.form
  unfold maxLen at hln
  have HL := Lib.hid hl
  clear hl
  generalize hrr : l.all p = r
  have HR := Lib.hid hrr
  clear hrr
  go_enter Tryz.func113, Tryz.ntmps113
  go_wp2_with fail
  go_loopw [6, 9] (fun _ i wr => ∃ j : Nat, i = .int .i64 j ∧ j ≤ l.length ∧ Hid ((l.take j).all p = true) ∧ Below w.heap.size w wr) (fun _ i _ => l.length - (intOf i).toNat)
  case atStart => exact ⟨0, rfl, by omega, Lib.hid (by simp), Below.refl _ _⟩
  case round =>
    obtain ⟨j, rfl, hj, h0, hb⟩ := hrel
    by_cases hjn : j < l.length
    · obtain ⟨b, off, cap0, x0, hu, hbH, ⟨x, hx, hv⟩, c0⟩ := (HL.out.on hb (fun _ _ h => h)).at1 hjn
      injection hu with hA _ hcap
      subst hA hcap
      obtain ⟨hf, hok⟩ := hv
      simp only [List.cons.injEq, and_true] at hf
      obtain rfl := hf
      have kn : (j : Int) < (l.length : Int) := by omega
      have k0 : (0 : Int) ≤ (j : Int) := by omega
      have HS : Hid (l.take (j + 1) = l.take j ++ [x]) := Lib.hid (by rw [List.take_add_one, hx]; rfl)
      have HM : Hid (x ∈ l) := Lib.hid (List.mem_of_getElem? hx)
      have HB := Lib.hid hb
      have HOK := Lib.hid hok
      clear hx hb hok
      go_wp2_with fail
      have hc := hF.out x wr HOK.out
      have HBW := HB
      generalize hpx : p x = z at hc
      have HP := Lib.hid hpx
      clear hpx
      refine hc.mono ?_
      rintro e w1 ⟨rfl, hb1⟩
      clear hc
      cases z
      · have HU : Hid (r = false) := Lib.hid (by rw [← HR.out, List.all_eq_false]; exact ⟨x, HM.out, by rw [HP.out]; simp⟩)
        go_wp2
        go_ret
        exact ⟨ret_bool HU.out.symm, HBW.out.trans (hb1.mono HBW.out.size)⟩
      · go_wp2
        go_roundw
        case rel => exact ⟨j + 1, by go_num, by omega, Lib.hid (by rw [HS.out, List.all_append, h0.out]; simp [HP.out]), HBW.out.trans (hb1.mono HBW.out.size)⟩
        case measure => simp [intOf]; omega
    · have hke : l.take j = l := List.take_of_length_le (by omega)
      have HZ : Hid (r = true) := Lib.hid (by rw [← HR.out, ← h0.out, hke])
      clear hke
      go_wp2
      go_ret
      exact ⟨ret_bool HZ.out.symm, hb⟩
set_option maxRecDepth 100000 in
set_option maxHeartbeats 1600000 in
theorem all9c (k : Nat) (F : Nat) (eg : ∀ args w, (callFunc F args).run Tryz.prog w = .ok (.enter F args) w) (p0 : Value) (p : En → Bool) (A : Option Addr) (c : Nat) (l : List (En)) (w : World)
    (hF : Hid (∀ (v : En) (cs : List Value) (V : World), Below w.heap.size w V → ES k V V.heap.size v cs → Calls Tryz.prog F #[.agg cs.toArray, p0] V fun e w' => e = .returned (.bool (p v)) ∧ Below V.heap.size V w')) (hl : RowP w w.heap.size 9 (.slice A l.length c) l.length (fun j cs => ∃ x, l[j]? = some x ∧ ES k w w.heap.size x cs)) :
    Calls Tryz.prog 65 #[.slice A l.length c, .func (.func F) #[] #[p0]] w fun e w' => e = .returned (.bool (l.all p)) ∧ Below w.heap.size w w' := by
  obtain ⟨_, _, _, hln⟩ := hl.form
  unfold maxLen at hln
  have HL := Lib.hid hl
  clear hl
  generalize hrr : l.all p = r
  have HR := Lib.hid hrr
  clear hrr
  go_enter Tryz.func65, Tryz.ntmps65
  go_wp2_with fail
  go_loopw [6, 9] (fun _ i wr => ∃ j : Nat, i = .int .i64 j ∧ j ≤ l.length ∧ Hid ((l.take j).all p = true) ∧ Below w.heap.size w wr) (fun _ i _ => l.length - (intOf i).toNat)
  case atStart => exact ⟨0, rfl, by omega, Lib.hid (by simp), Below.refl _ _⟩
  case round =>
    obtain ⟨j, rfl, hj, h0, hb⟩ := hrel
    by_cases hjn : j < l.length
    · obtain ⟨b, off, cap0, x0, x1, x2, x3, x4, x5, x6, x7, x8, hu, hbH, ⟨x, hx, hv⟩, c0, c1, c2, c3, c4, c5, c6, c7, c8⟩ := (HL.out.on hb (fun _ _ h => h)).at9 hjn
      injection hu with hA _ hcap
      subst hA hcap
      obtain ⟨B0, n0, d0, f, a, i, s, B1, n1, d1, B2, n2, d2, B3, n3, d3, B4, n4, d4, hf⟩ := hv.form9
      simp only [List.cons.injEq, and_true] at hf
      obtain ⟨rfl, rfl, rfl, rfl, rfl, rfl, rfl, rfl, rfl⟩ := hf
      have kn : (j : Int) < (l.length : Int) := by omega
      have k0 : (0 : Int) ≤ (j : Int) := by omega
      have HS : Hid (l.take (j + 1) = l.take j ++ [x]) := Lib.hid (by rw [List.take_add_one, hx]; rfl)
      have HM : Hid (x ∈ l) := Lib.hid (List.mem_of_getElem? hx)
      have HB := Lib.hid hb
      have HVX := Lib.hid hv
      clear hx hb hv
      go_wp2_with fail
      rename World => U
      obtain ⟨W2, hW2⟩ : ∃ W2, W2 = U.alloc (.cells #[.slice B0 n0 d0, .bool f, .int .i64 a, .int .i64 i, .string s, .slice B1 n1 d1, .slice B2 n2 d2, .slice B3 n3 d3, .slice B4 n4 d4] 55) := ⟨_, rfl⟩
      have hb2 : Below U.heap.size U W2 := by rw [hW2]; exact (Below.refl _ _).alloc (Nat.le_refl _) _
      have q0 : W2.cell? ⟨U.heap.size, 0, none⟩ = some (.slice B0 n0 d0) := by rw [hW2]; simp
      have q1 : W2.cell? ⟨U.heap.size, 1, none⟩ = some (.bool f) := by rw [hW2]; simp
      have q2 : W2.cell? ⟨U.heap.size, 2, none⟩ = some (.int .i64 a) := by rw [hW2]; simp
      have q3 : W2.cell? ⟨U.heap.size, 3, none⟩ = some (.int .i64 i) := by rw [hW2]; simp
      have q4 : W2.cell? ⟨U.heap.size, 4, none⟩ = some (.string s) := by rw [hW2]; simp
      have q5 : W2.cell? ⟨U.heap.size, 5, none⟩ = some (.slice B1 n1 d1) := by rw [hW2]; simp
      have q6 : W2.cell? ⟨U.heap.size, 6, none⟩ = some (.slice B2 n2 d2) := by rw [hW2]; simp
      have q7 : W2.cell? ⟨U.heap.size, 7, none⟩ = some (.slice B3 n3 d3) := by rw [hW2]; simp
      have q8 : W2.cell? ⟨U.heap.size, 8, none⟩ = some (.slice B4 n4 d4) := by rw [hW2]; simp
      have hbw := HB.out.trans (hb2.mono HB.out.size)
      have hc := hF.out x _ W2 hbw (ES.up hbw.size (Nat.le_refl _) (ES.on hbw HVX.out))
      have HBW := Lib.hid hbw
      rw [← hW2]
      clear hW2 hb2 hbw c0 c1 c2 c3 c4 c5 c6 c7 c8
      go_wp2_with fail
      generalize hpx : p x = z at hc
      have HP := Lib.hid hpx
      clear hpx
      refine hc.mono ?_
      rintro e w1 ⟨rfl, hb1⟩
      clear hc
      cases z
      · have HU : Hid (r = false) := Lib.hid (by rw [← HR.out, List.all_eq_false]; exact ⟨x, HM.out, by rw [HP.out]; simp⟩)
        go_wp2
        go_ret
        exact ⟨ret_bool HU.out.symm, HBW.out.trans (hb1.mono HBW.out.size)⟩
      · go_wp2
        go_roundw
        case rel => exact ⟨j + 1, by go_num, by omega, Lib.hid (by rw [HS.out, List.all_append, h0.out]; simp [HP.out]), HBW.out.trans (hb1.mono HBW.out.size)⟩
        case measure => simp [intOf]; omega
    · have hke : l.take j = l := List.take_of_length_le (by omega)
      have HZ : Hid (r = true) := Lib.hid (by rw [← HR.out, ← h0.out, hke])
      clear hke
      go_wp2
      go_ret
      exact ⟨ret_bool HZ.out.symm, hb⟩
end Go.Proofs.YtjfknigiehggkaaGreat
