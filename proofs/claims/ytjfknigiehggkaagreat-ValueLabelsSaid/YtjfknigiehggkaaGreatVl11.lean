/- What the program's tests on the root of a value return: which fields are used, the form of each kind. -/
import Derived.Test.YtjfknigiehggkaaGreatVl02
import Derived.Test.YtjfknigiehggkaaGreatVl06
import Derived.Test.YtjfknigiehggkaaGreatVl08
import Derived.Test.YtjfknigiehggkaaGreatVl09
import Derived.Test.YtjfknigiehggkaaGreatVl10
namespace Go.Proofs.YtjfknigiehggkaaGreat
open Go Go.RowKit
def usesN (k i : Int) (t : List UInt8) (v y e : Nat) : Bool :=
  (decide (k = 1 ∨ k = 4 ∨ k = 9) || decide (i = 0)) && (decide (k = 2 ∨ k = 3) || t.isEmpty) && (decide (k = 6 ∨ k = 7 ∨ k = 8) || decide (v = 0)) && (decide (k = 8) || decide (y = 0)) && (decide (k = 9) || decide (e = 0))
theorem empty_len {α : Type} (l : List α) : l.isEmpty = decide (l.length = 0) := by cases l <;> simp
theorem natB (n : Nat) : ((n : Int) == 0) = decide (n = 0) := by cases n with | zero => rfl | succ n => simp; omega
theorem usesB_N (k i : Int) (t : List UInt8) (v : List Vl) (y : List (Int × List UInt8)) (e : List En) : usesB k i t v y e = usesN k i t v.length y.length e.length := by
  unfold usesB usesN
  rw [empty_len v, empty_len y, empty_len e]
set_option maxRecDepth 100000 in
set_option maxHeartbeats 3200000 in
theorem uses_any (kd it : Int) (tx : List UInt8) (A Y E L : Option Addr) (nk ck ny cy ne ce nl cl : Nat) (w : World) :
    Calls Tryz.prog 112 #[.agg #[.int .i64 kd, .int .i64 it, .string ⟨tx.toArray⟩, .slice A nk ck, .slice Y ny cy, .slice E ne ce, .slice L nl cl]] w fun e w' => e = .returned (.bool (usesN kd it tx nk ny ne)) ∧ Below w.heap.size w w' := by
  by_cases h1 : kd = 1
  · subst h1
    go_enter Tryz.func112, Tryz.ntmps112
    go_wp2
    all_goals go_ret
    all_goals exact ⟨ret_bool (by simp [usesN, natB, *]), (Below.refl _ _).alloc (Nat.le_refl _) _⟩
  by_cases h4 : kd = 4
  · subst h4
    go_enter Tryz.func112, Tryz.ntmps112
    go_wp2
    all_goals go_ret
    all_goals exact ⟨ret_bool (by simp [usesN, natB, *]), (Below.refl _ _).alloc (Nat.le_refl _) _⟩
  by_cases h2 : kd = 2
  · subst h2
    go_enter Tryz.func112, Tryz.ntmps112
    go_wp2
    all_goals go_ret
    all_goals exact ⟨ret_bool (by simp [usesN, natB, *]), (Below.refl _ _).alloc (Nat.le_refl _) _⟩
  by_cases h3 : kd = 3
  · subst h3
    go_enter Tryz.func112, Tryz.ntmps112
    go_wp2
    all_goals go_ret
    all_goals exact ⟨ret_bool (by simp [usesN, natB, *]), (Below.refl _ _).alloc (Nat.le_refl _) _⟩
  by_cases h6 : kd = 6
  · subst h6
    go_enter Tryz.func112, Tryz.ntmps112
    go_wp2
    all_goals go_ret
    all_goals exact ⟨ret_bool (by simp [usesN, natB, *]), (Below.refl _ _).alloc (Nat.le_refl _) _⟩
  by_cases h7 : kd = 7
  · subst h7
    go_enter Tryz.func112, Tryz.ntmps112
    go_wp2
    all_goals go_ret
    all_goals exact ⟨ret_bool (by simp [usesN, natB, *]), (Below.refl _ _).alloc (Nat.le_refl _) _⟩
  by_cases h8 : kd = 8
  · subst h8
    go_enter Tryz.func112, Tryz.ntmps112
    go_wp2
    all_goals go_ret
    all_goals exact ⟨ret_bool (by simp [usesN, natB, *]), (Below.refl _ _).alloc (Nat.le_refl _) _⟩
  by_cases h9 : kd = 9
  · subst h9
    go_enter Tryz.func112, Tryz.ntmps112
    go_wp2
    all_goals go_ret
    all_goals exact ⟨ret_bool (by simp [usesN, *]), (Below.refl _ _).alloc (Nat.le_refl _) _⟩
  have q1 : (kd == 1) = false := by rw [beq_eq_false_iff_ne]; exact h1
  have q4 : (kd == 4) = false := by rw [beq_eq_false_iff_ne]; exact h4
  have q2 : (kd == 2) = false := by rw [beq_eq_false_iff_ne]; exact h2
  have q3 : (kd == 3) = false := by rw [beq_eq_false_iff_ne]; exact h3
  have q6 : (kd == 6) = false := by rw [beq_eq_false_iff_ne]; exact h6
  have q7 : (kd == 7) = false := by rw [beq_eq_false_iff_ne]; exact h7
  have q8 : (kd == 8) = false := by rw [beq_eq_false_iff_ne]; exact h8
  have q9 : (kd == 9) = false := by rw [beq_eq_false_iff_ne]; exact h9
  go_enter Tryz.func112, Tryz.ntmps112
  go_wp2
  all_goals go_ret
  all_goals exact ⟨ret_bool (by simp [usesN, natB, *]), (Below.refl _ _).alloc (Nat.le_refl _) _⟩
theorem isAtomL_any (s : List UInt8) (w : World) (hs : s.length ≤ maxLen) : Calls Tryz.prog 92 #[.string ⟨s.toArray⟩] w fun e w' => e = .returned (.bool (atomB s)) ∧ Below w.heap.size w w' := by
  refine (isAtom_any ⟨s.toArray⟩ w (by simpa [ByteArray.size] using hs)).mono ?_
  rintro e w' ⟨rfl, rfl⟩
  exact ⟨rfl, Below.refl _ _⟩
theorem isVarL_any (s : List UInt8) (w : World) (hs : s.length ≤ maxLen) : Calls Tryz.prog 114 #[.string ⟨s.toArray⟩] w fun e w' => e = .returned (.bool (varB s)) ∧ Below w.heap.size w w' := by
  refine (isVariable_any ⟨s.toArray⟩ w (by simpa [ByteArray.size] using hs)).mono ?_
  rintro e w' ⟨rfl, rfl⟩
  exact ⟨rfl, Below.refl _ _⟩
theorem validKeyL_any (x : Int × List UInt8) (w : World) (hs : x.2.length ≤ maxLen) : Calls Tryz.prog 55 #[.agg #[.int .i64 x.1, .string ⟨x.2.toArray⟩]] w fun e w' => e = .returned (.bool (keyB x.1 x.2)) ∧ Below w.heap.size w w' :=
  validKey_any x.1 ⟨x.2.toArray⟩ w (by simpa [ByteArray.size] using hs)
set_option maxHeartbeats 400000 in
theorem validArity_any (n : Int) (w : World) : Calls Tryz.prog 64 #[.int .i64 n] w fun e w' => e = .returned (.bool (decide (0 ≤ n ∧ n ≤ 4))) ∧ w' = w := by
  go_enter Tryz.func64, Tryz.ntmps64
  go_wp2
  all_goals go_ret
  all_goals exact ⟨ret_bool (by first | (simp_all; done) | (simp_all; omega)), rfl⟩
/-- two values are the same -/
theorem equalP_any (k : Nat) (u v : Vl) (ca cb : List Value) (w : World) (ha : VS k w w.heap.size u ca) (hb : VS k w w.heap.size v cb) : Calls Tryz.prog 40 #[.agg ca.toArray, .agg cb.toArray] w fun e w' => e = .returned (.bool (decide (cmpV u v = 0))) ∧ Below w.heap.size w w' := by
  obtain ⟨a, i, s, B1, n1, d1, B2, n2, d2, B3, n3, d3, B4, n4, d4, rfl⟩ := ha.form7
  obtain ⟨a', i', s', B1', n1', d1', B2', n2', d2', B3', n3', d3', B4', n4', d4', rfl⟩ := hb.form7
  obtain ⟨W, hW⟩ : ∃ W, W = (w.alloc (.cells #[.int .i64 a, .int .i64 i, .string s, .slice B1 n1 d1, .slice B2 n2 d2, .slice B3 n3 d3, .slice B4 n4 d4] 27)).alloc (.cells #[.int .i64 a', .int .i64 i', .string s', .slice B1' n1' d1', .slice B2' n2' d2', .slice B3' n3' d3', .slice B4' n4' d4'] 27) := ⟨_, rfl⟩
  have hbb : Below w.heap.size w W := by rw [hW]; exact ((Below.refl _ _).alloc (Nat.le_refl _) _).alloc (by simp) _
  have q0 : W.cell? ⟨w.heap.size, 0, none⟩ = some (.int .i64 a) := by rw [hW]; simp
  have q1 : W.cell? ⟨w.heap.size, 1, none⟩ = some (.int .i64 i) := by rw [hW]; simp
  have q2 : W.cell? ⟨w.heap.size, 2, none⟩ = some (.string s) := by rw [hW]; simp
  have q3 : W.cell? ⟨w.heap.size, 3, none⟩ = some (.slice B1 n1 d1) := by rw [hW]; simp
  have q4 : W.cell? ⟨w.heap.size, 4, none⟩ = some (.slice B2 n2 d2) := by rw [hW]; simp
  have q5 : W.cell? ⟨w.heap.size, 5, none⟩ = some (.slice B3 n3 d3) := by rw [hW]; simp
  have q6 : W.cell? ⟨w.heap.size, 6, none⟩ = some (.slice B4 n4 d4) := by rw [hW]; simp
  have r0 : W.cell? ⟨w.heap.size + 1, 0, none⟩ = some (.int .i64 a') := by rw [hW]; simp
  have r1 : W.cell? ⟨w.heap.size + 1, 1, none⟩ = some (.int .i64 i') := by rw [hW]; simp
  have r2 : W.cell? ⟨w.heap.size + 1, 2, none⟩ = some (.string s') := by rw [hW]; simp
  have r3 : W.cell? ⟨w.heap.size + 1, 3, none⟩ = some (.slice B1' n1' d1') := by rw [hW]; simp
  have r4 : W.cell? ⟨w.heap.size + 1, 4, none⟩ = some (.slice B2' n2' d2') := by rw [hW]; simp
  have r5 : W.cell? ⟨w.heap.size + 1, 5, none⟩ = some (.slice B3' n3' d3') := by rw [hW]; simp
  have r6 : W.cell? ⟨w.heap.size + 1, 6, none⟩ = some (.slice B4' n4' d4') := by rw [hW]; simp
  have hc := compareP_any k u v _ _ W (VS.up hbb.size (Nat.le_refl _) (VS.on hbb ha)) (VS.up hbb.size (Nat.le_refl _) (VS.on hbb hb))
  have HB := Lib.hid hbb
  clear ha hb hbb
  generalize hz : decide (cmpV u v = 0) = r
  have HZ := Lib.hid hz
  clear hz
  generalize cmpV u v = z at hc HZ
  go_enter Tryz.func40, Tryz.ntmps40
  go_wp2_with fail
  rw [← hW]
  clear hW
  go_wp2_with (go_at_call 81; refine hc.mono ?_; rintro e w1 ⟨rfl, hb1⟩; refine Hid.out ?_)
  refine Lib.hid ?_
  clear hc
  go_wp2
  go_ret
  exact ⟨ret_bool (by rw [← HZ.out]; by_cases h : z = 0 <;> simp [h]), HB.out.trans (hb1.mono HB.out.size)⟩
theorem zeroRow (w : World) (B : Nat → Prop) (c : Nat) (R : Nat → List Value → Prop) : RowB w B c (.slice none 0 0) 0 R := ⟨none, 0, rfl, ⟨Nat.zero_le _, Nat.le_refl _⟩, fun h => absurd h (by omega)⟩
theorem zeroVB (k : Nat) (w : World) (B : Nat → Prop) : VB (k + 1) w B zeroV [.int .i64 0, .int .i64 0, .string ⟨#[]⟩, .slice none 0 0, .slice none 0 0, .slice none 0 0, .slice none 0 0] :=
  ⟨_, _, _, _, rfl, by decide, by decide, Nat.zero_le _, zeroRow _ _ _ _, zeroRow _ _ _ _, zeroRow _ _ _ _, zeroRow _ _ _ _⟩
set_option maxRecDepth 100000 in
set_option maxHeartbeats 1600000 in
theorem fits_any (k : Nat) (e : En) (cs : List Value) (n : Int) (w : World) (he : ES (k + 1) w w.heap.size e cs) : Calls Tryz.prog 67 #[.agg cs.toArray, .int .i64 n] w fun r w' => r = .returned (.bool (entB n e)) ∧ Below w.heap.size w w' := by
  obtain ⟨args, fl, r, rfl, ua, rs, rfl, hl, hr⟩ := he
  obtain ⟨A, cap, rfl, hal⟩ := hl.form
  obtain ⟨a, i, s, B1, n1, d1, B2, n2, d2, B3, n3, d3, B4, n4, d4, rfl⟩ := hr.form7
  unfold maxLen at hal
  obtain ⟨W, hW⟩ : ∃ W, W = w.alloc (.cells #[.slice A args.length cap, .bool fl, .int .i64 a, .int .i64 i, .string s, .slice B1 n1 d1, .slice B2 n2 d2, .slice B3 n3 d3, .slice B4 n4 d4] 55) := ⟨_, rfl⟩
  have hbb : Below w.heap.size w W := by rw [hW]; exact (Below.refl _ _).alloc (Nat.le_refl _) _
  have q0 : W.cell? ⟨w.heap.size, 0, none⟩ = some (.slice A args.length cap) := by rw [hW]; simp
  have q1 : W.cell? ⟨w.heap.size, 1, none⟩ = some (.bool fl) := by rw [hW]; simp
  have q2 : W.cell? ⟨w.heap.size, 2, none⟩ = some (.int .i64 a) := by rw [hW]; simp
  have q3 : W.cell? ⟨w.heap.size, 3, none⟩ = some (.int .i64 i) := by rw [hW]; simp
  have q4 : W.cell? ⟨w.heap.size, 4, none⟩ = some (.string s) := by rw [hW]; simp
  have q5 : W.cell? ⟨w.heap.size, 5, none⟩ = some (.slice B1 n1 d1) := by rw [hW]; simp
  have q6 : W.cell? ⟨w.heap.size, 6, none⟩ = some (.slice B2 n2 d2) := by rw [hW]; simp
  have q7 : W.cell? ⟨w.heap.size, 7, none⟩ = some (.slice B3 n3 d3) := by rw [hW]; simp
  have q8 : W.cell? ⟨w.heap.size, 8, none⟩ = some (.slice B4 n4 d4) := by rw [hW]; simp
  have hc := equalP_any (k + 1) r zeroV _ _ W (VS.up hbb.size (Nat.le_refl _) (VS.on hbb hr)) (zeroVB k W _)
  have HB := Lib.hid hbb
  clear hl hr hbb
  generalize hz : entB n (.mk args fl r) = y
  have HZ := Lib.hid hz
  clear hz
  have HE : Hid (entB n (.mk args fl r) = (decide ((args.length : Int) = n) && (!fl || decide (cmpV r zeroV = 0)))) := Lib.hid rfl
  generalize decide (cmpV r zeroV = 0) = z at hc HE
  by_cases hn : (args.length : Int) = n
  case neg =>
    have hq : ((args.length : Int) == n) = false := by rw [beq_eq_false_iff_ne]; exact hn
    have HU : Hid (y = false) := Lib.hid (by rw [← HZ.out, HE.out]; simp [hn])
    clear hn
    go_enter Tryz.func67, Tryz.ntmps67
    go_wp2_with fail
    rw [← hW]
    clear hW
    go_wp2
    go_ret
    exact ⟨ret_bool HU.out.symm, HB.out⟩
  have hq : ((args.length : Int) == n) = true := by rw [beq_iff_eq]; exact hn
  have HN := Lib.hid hn
  clear hn
  cases fl
  · have HU : Hid (y = true) := Lib.hid (by rw [← HZ.out, HE.out]; simp [HN.out])
    go_enter Tryz.func67, Tryz.ntmps67
    go_wp2_with fail
    rw [← hW]
    clear hW
    go_wp2
    go_ret
    exact ⟨ret_bool HU.out.symm, HB.out⟩
  · have HU : Hid (y = z) := Lib.hid (by rw [← HZ.out, HE.out]; simp [HN.out])
    go_enter Tryz.func67, Tryz.ntmps67
    go_wp2_with fail
    rw [← hW]
    clear hW
    go_wp2_with (go_at_call 40; refine hc.mono ?_; rintro e w1 ⟨rfl, hb1⟩; refine Hid.out ?_)
    refine Lib.hid ?_
    clear hc
    go_wp2
    go_ret
    exact ⟨ret_bool HU.out.symm, HB.out.trans (hb1.mono HB.out.size)⟩
set_option maxRecDepth 100000 in
set_option maxHeartbeats 1600000 in
theorem fitsC_any (k : Nat) (e : En) (cs : List Value) (n : Int) (b : Nat) (w : World) (he : ES (k + 1) w w.heap.size e cs) (hb : b < w.heap.size) (hn : w.cell? ⟨b, 1, none⟩ = some (.int .i64 n)) : Calls Tryz.prog 138 #[.agg cs.toArray, .pointer (some ⟨b, 0, none⟩)] w fun r w' => r = .returned (.bool (entB n e)) ∧ Below w.heap.size w w' := by
  obtain ⟨B0, n0, d0, f, a, i, s, B1, n1, d1, B2, n2, d2, B3, n3, d3, B4, n4, d4, rfl⟩ := he.form9
  obtain ⟨W, hW⟩ : ∃ W, W = w.alloc (.cells #[.slice B0 n0 d0, .bool f, .int .i64 a, .int .i64 i, .string s, .slice B1 n1 d1, .slice B2 n2 d2, .slice B3 n3 d3, .slice B4 n4 d4] 55) := ⟨_, rfl⟩
  have hbb : Below w.heap.size w W := by rw [hW]; exact (Below.refl _ _).alloc (Nat.le_refl _) _
  have q0 : W.cell? ⟨w.heap.size, 0, none⟩ = some (.slice B0 n0 d0) := by rw [hW]; simp
  have q1 : W.cell? ⟨w.heap.size, 1, none⟩ = some (.bool f) := by rw [hW]; simp
  have q2 : W.cell? ⟨w.heap.size, 2, none⟩ = some (.int .i64 a) := by rw [hW]; simp
  have q3 : W.cell? ⟨w.heap.size, 3, none⟩ = some (.int .i64 i) := by rw [hW]; simp
  have q4 : W.cell? ⟨w.heap.size, 4, none⟩ = some (.string s) := by rw [hW]; simp
  have q5 : W.cell? ⟨w.heap.size, 5, none⟩ = some (.slice B1 n1 d1) := by rw [hW]; simp
  have q6 : W.cell? ⟨w.heap.size, 6, none⟩ = some (.slice B2 n2 d2) := by rw [hW]; simp
  have q7 : W.cell? ⟨w.heap.size, 7, none⟩ = some (.slice B3 n3 d3) := by rw [hW]; simp
  have q8 : W.cell? ⟨w.heap.size, 8, none⟩ = some (.slice B4 n4 d4) := by rw [hW]; simp
  have hn2 : W.cell? ⟨b, 1, none⟩ = some (.int .i64 n) := (hbb.cell (p := ⟨b, 1, none⟩) hb).trans hn
  have hn3 := hn2
  rw [hW] at hn3
  have hc := fits_any k e _ n W (ES.up hbb.size (Nat.le_refl _) (ES.on hbb he))
  have HB := Lib.hid hbb
  clear he hbb hn hb
  generalize entB n e = y at hc ⊢
  go_enter Tryz.func138, Tryz.ntmps138
  go_wp2_with fail
  rw [← hW]
  clear hW
  go_wp2_with (go_at_call 67; refine hc.mono ?_; rintro e w1 ⟨rfl, hb1⟩; refine Hid.out ?_)
  refine Lib.hid ?_
  clear hc
  go_wp2
  go_ret
  exact ⟨rfl, HB.out.trans (hb1.mono HB.out.size)⟩
end Go.Proofs.YtjfknigiehggkaaGreat
namespace Go.Proofs.YtjfknigiehggkaaGreat
open Go Go.RowKit
def AtomN (s : List UInt8) : Prop := s = [97] ∨ s = [98] ∨ s = [111, 107] ∨ s = [101, 114, 114, 111, 114]
set_option maxRecDepth 100000 in
set_option maxHeartbeats 3200000 in
theorem atomName_any (h p : Nat) (w : World) (hS : SrcOk h p w) : Calls Tryz.prog 125 #[.pointer (some ⟨p, 0, none⟩)] w fun e w' => (∃ s : List UInt8, e = .returned (.string ⟨s.toArray⟩) ∧ AtomN s) ∧ SrcOk h p w' ∧ Eff p w w' := by
  have hlp := hS.lt
  have hba : Below w.heap.size w (w.alloc (.cells #[.string { data := #[97] }, .string { data := #[98] }, .string { data := #[111, 107] }, .string { data := #[101, 114, 114, 111, 114] }] 9)) := (Below.refl _ _).alloc (Nat.le_refl _) _
  have hc := next_any h p 4 _ (hS.below hba) (by omega) (by omega)
  have k0 := heap_alloc_new w (.cells #[.string { data := #[97] }, .string { data := #[98] }, .string { data := #[111, 107] }, .string { data := #[101, 114, 114, 111, 114] }] 9)
  have hE0 := Eff.of_below hba (Nat.le_of_lt hlp)
  go_enter Tryz.func125, Tryz.ntmps125
  go_wp2_with fail
  refine hc.mono ?_
  rintro e w1 ⟨j, rfl, j0, j1, hS1, hE⟩
  have k1 : w1.heap[w.heap.size]? = some (.cells #[.string { data := #[97] }, .string { data := #[98] }, .string { data := #[111, 107] }, .string { data := #[101, 114, 114, 111, 114] }] 9 (0, 0)) := (hE.other _ (by omega) (by simp)).trans k0
  have HF := Lib.hid (And.intro hS1 (hE0.trans hE))
  clear hc hE hS1 hba hE0 k0 hS hlp
  have hj : j = 0 ∨ j = 1 ∨ j = 2 ∨ j = 3 := by omega
  have c0 : w1.cell? ⟨w.heap.size, 0, none⟩ = some (.string { data := #[97] }) := (Lib.cell_of_heap k1 0).trans rfl
  have c1 : w1.cell? ⟨w.heap.size, 1, none⟩ = some (.string { data := #[98] }) := (Lib.cell_of_heap k1 1).trans rfl
  have c2 : w1.cell? ⟨w.heap.size, 2, none⟩ = some (.string { data := #[111, 107] }) := (Lib.cell_of_heap k1 2).trans rfl
  have c3 : w1.cell? ⟨w.heap.size, 3, none⟩ = some (.string { data := #[101, 114, 114, 111, 114] }) := (Lib.cell_of_heap k1 3).trans rfl
  clear k1
  rcases hj with rfl | rfl | rfl | rfl
  · go_wp2
    go_ret
    exact ⟨⟨[97], rfl, by unfold AtomN; simp⟩, HF.out⟩
  · go_wp2
    go_ret
    exact ⟨⟨[98], rfl, by unfold AtomN; simp⟩, HF.out⟩
  · go_wp2
    go_ret
    exact ⟨⟨[111, 107], rfl, by unfold AtomN; simp⟩, HF.out⟩
  · go_wp2
    go_ret
    exact ⟨⟨[101, 114, 114, 111, 114], rfl, by unfold AtomN; simp⟩, HF.out⟩
def WordN (s : List UInt8) : Prop := s = [] ∨ s = [115] ∨ s = [120, 32, 121] ∨ s = [97]
set_option maxRecDepth 100000 in
set_option maxHeartbeats 3200000 in
theorem word_any (h p : Nat) (w : World) (hS : SrcOk h p w) : Calls Tryz.prog 126 #[.pointer (some ⟨p, 0, none⟩)] w fun e w' => (∃ s : List UInt8, e = .returned (.string ⟨s.toArray⟩) ∧ WordN s) ∧ SrcOk h p w' ∧ Eff p w w' := by
  have hlp := hS.lt
  have hba : Below w.heap.size w (w.alloc (.cells #[.string { data := #[] }, .string { data := #[115] }, .string { data := #[120, 32, 121] }, .string { data := #[97] }] 9)) := (Below.refl _ _).alloc (Nat.le_refl _) _
  have hc := next_any h p 4 _ (hS.below hba) (by omega) (by omega)
  have k0 := heap_alloc_new w (.cells #[.string { data := #[] }, .string { data := #[115] }, .string { data := #[120, 32, 121] }, .string { data := #[97] }] 9)
  have hE0 := Eff.of_below hba (Nat.le_of_lt hlp)
  go_enter Tryz.func126, Tryz.ntmps126
  go_wp2_with fail
  refine hc.mono ?_
  rintro e w1 ⟨j, rfl, j0, j1, hS1, hE⟩
  have k1 : w1.heap[w.heap.size]? = some (.cells #[.string { data := #[] }, .string { data := #[115] }, .string { data := #[120, 32, 121] }, .string { data := #[97] }] 9 (0, 0)) := (hE.other _ (by omega) (by simp)).trans k0
  have HF := Lib.hid (And.intro hS1 (hE0.trans hE))
  clear hc hE hS1 hba hE0 k0 hS hlp
  have hj : j = 0 ∨ j = 1 ∨ j = 2 ∨ j = 3 := by omega
  have c0 : w1.cell? ⟨w.heap.size, 0, none⟩ = some (.string { data := #[] }) := (Lib.cell_of_heap k1 0).trans rfl
  have c1 : w1.cell? ⟨w.heap.size, 1, none⟩ = some (.string { data := #[115] }) := (Lib.cell_of_heap k1 1).trans rfl
  have c2 : w1.cell? ⟨w.heap.size, 2, none⟩ = some (.string { data := #[120, 32, 121] }) := (Lib.cell_of_heap k1 2).trans rfl
  have c3 : w1.cell? ⟨w.heap.size, 3, none⟩ = some (.string { data := #[97] }) := (Lib.cell_of_heap k1 3).trans rfl
  clear k1
  rcases hj with rfl | rfl | rfl | rfl
  · go_wp2
    go_ret
    exact ⟨⟨[], rfl, by unfold WordN; simp⟩, HF.out⟩
  · go_wp2
    go_ret
    exact ⟨⟨[115], rfl, by unfold WordN; simp⟩, HF.out⟩
  · go_wp2
    go_ret
    exact ⟨⟨[120, 32, 121], rfl, by unfold WordN; simp⟩, HF.out⟩
  · go_wp2
    go_ret
    exact ⟨⟨[97], rfl, by unfold WordN; simp⟩, HF.out⟩
def LabN (s : List UInt8) : Prop := s = [65] ∨ s = [66] ∨ s = [67]
set_option maxRecDepth 100000 in
set_option maxHeartbeats 3200000 in
theorem label_any (h p : Nat) (w : World) (hS : SrcOk h p w) : Calls Tryz.prog 102 #[.pointer (some ⟨p, 0, none⟩)] w fun e w' => (∃ s : List UInt8, e = .returned (.string ⟨s.toArray⟩) ∧ LabN s) ∧ SrcOk h p w' ∧ Eff p w w' := by
  have hlp := hS.lt
  have hba : Below w.heap.size w (w.alloc (.cells #[.string { data := #[65] }, .string { data := #[66] }, .string { data := #[67] }] 9)) := (Below.refl _ _).alloc (Nat.le_refl _) _
  have hc := next_any h p 3 _ (hS.below hba) (by omega) (by omega)
  have k0 := heap_alloc_new w (.cells #[.string { data := #[65] }, .string { data := #[66] }, .string { data := #[67] }] 9)
  have hE0 := Eff.of_below hba (Nat.le_of_lt hlp)
  go_enter Tryz.func102, Tryz.ntmps102
  go_wp2_with fail
  refine hc.mono ?_
  rintro e w1 ⟨j, rfl, j0, j1, hS1, hE⟩
  have k1 : w1.heap[w.heap.size]? = some (.cells #[.string { data := #[65] }, .string { data := #[66] }, .string { data := #[67] }] 9 (0, 0)) := (hE.other _ (by omega) (by simp)).trans k0
  have HF := Lib.hid (And.intro hS1 (hE0.trans hE))
  clear hc hE hS1 hba hE0 k0 hS hlp
  have hj : j = 0 ∨ j = 1 ∨ j = 2 := by omega
  have c0 : w1.cell? ⟨w.heap.size, 0, none⟩ = some (.string { data := #[65] }) := (Lib.cell_of_heap k1 0).trans rfl
  have c1 : w1.cell? ⟨w.heap.size, 1, none⟩ = some (.string { data := #[66] }) := (Lib.cell_of_heap k1 1).trans rfl
  have c2 : w1.cell? ⟨w.heap.size, 2, none⟩ = some (.string { data := #[67] }) := (Lib.cell_of_heap k1 2).trans rfl
  clear k1
  rcases hj with rfl | rfl | rfl
  · go_wp2
    go_ret
    exact ⟨⟨[65], rfl, by unfold LabN; simp⟩, HF.out⟩
  · go_wp2
    go_ret
    exact ⟨⟨[66], rfl, by unfold LabN; simp⟩, HF.out⟩
  · go_wp2
    go_ret
    exact ⟨⟨[67], rfl, by unfold LabN; simp⟩, HF.out⟩
def NumN (x : Int) : Prop := (Lit.int .i64 x).wf = true
set_option maxRecDepth 100000 in
set_option maxHeartbeats 3200000 in
theorem number_any (h p : Nat) (w : World) (hS : SrcOk h p w) : Calls Tryz.prog 123 #[.pointer (some ⟨p, 0, none⟩)] w fun e w' => (∃ x : Int, e = .returned (.int .i64 x) ∧ NumN x) ∧ SrcOk h p w' ∧ Eff p w w' := by
  have hlp := hS.lt
  have hba : Below w.heap.size w (w.alloc (.cells #[.int .i64 (0), .int .i64 (1), .int .i64 (-1), .int .i64 (2), .int .i64 (3), .int .i64 (-2), .int .i64 (7), .int .i64 (-9223372036854775808), .int .i64 (9223372036854775807), .int .i64 (10)] 2)) := (Below.refl _ _).alloc (Nat.le_refl _) _
  have hc := next_any h p 10 _ (hS.below hba) (by omega) (by omega)
  have k0 := heap_alloc_new w (.cells #[.int .i64 (0), .int .i64 (1), .int .i64 (-1), .int .i64 (2), .int .i64 (3), .int .i64 (-2), .int .i64 (7), .int .i64 (-9223372036854775808), .int .i64 (9223372036854775807), .int .i64 (10)] 2)
  have hE0 := Eff.of_below hba (Nat.le_of_lt hlp)
  go_enter Tryz.func123, Tryz.ntmps123
  go_wp2_with fail
  refine hc.mono ?_
  rintro e w1 ⟨j, rfl, j0, j1, hS1, hE⟩
  have k1 : w1.heap[w.heap.size]? = some (.cells #[.int .i64 (0), .int .i64 (1), .int .i64 (-1), .int .i64 (2), .int .i64 (3), .int .i64 (-2), .int .i64 (7), .int .i64 (-9223372036854775808), .int .i64 (9223372036854775807), .int .i64 (10)] 2 (0, 0)) := (hE.other _ (by omega) (by simp)).trans k0
  have HF := Lib.hid (And.intro hS1 (hE0.trans hE))
  clear hc hE hS1 hba hE0 k0 hS hlp
  have hj : j = 0 ∨ j = 1 ∨ j = 2 ∨ j = 3 ∨ j = 4 ∨ j = 5 ∨ j = 6 ∨ j = 7 ∨ j = 8 ∨ j = 9 := by omega
  have c0 : w1.cell? ⟨w.heap.size, 0, none⟩ = some (.int .i64 (0)) := (Lib.cell_of_heap k1 0).trans rfl
  have c1 : w1.cell? ⟨w.heap.size, 1, none⟩ = some (.int .i64 (1)) := (Lib.cell_of_heap k1 1).trans rfl
  have c2 : w1.cell? ⟨w.heap.size, 2, none⟩ = some (.int .i64 (-1)) := (Lib.cell_of_heap k1 2).trans rfl
  have c3 : w1.cell? ⟨w.heap.size, 3, none⟩ = some (.int .i64 (2)) := (Lib.cell_of_heap k1 3).trans rfl
  have c4 : w1.cell? ⟨w.heap.size, 4, none⟩ = some (.int .i64 (3)) := (Lib.cell_of_heap k1 4).trans rfl
  have c5 : w1.cell? ⟨w.heap.size, 5, none⟩ = some (.int .i64 (-2)) := (Lib.cell_of_heap k1 5).trans rfl
  have c6 : w1.cell? ⟨w.heap.size, 6, none⟩ = some (.int .i64 (7)) := (Lib.cell_of_heap k1 6).trans rfl
  have c7 : w1.cell? ⟨w.heap.size, 7, none⟩ = some (.int .i64 (-9223372036854775808)) := (Lib.cell_of_heap k1 7).trans rfl
  have c8 : w1.cell? ⟨w.heap.size, 8, none⟩ = some (.int .i64 (9223372036854775807)) := (Lib.cell_of_heap k1 8).trans rfl
  have c9 : w1.cell? ⟨w.heap.size, 9, none⟩ = some (.int .i64 (10)) := (Lib.cell_of_heap k1 9).trans rfl
  clear k1
  rcases hj with rfl | rfl | rfl | rfl | rfl | rfl | rfl | rfl | rfl | rfl
  · go_wp2
    go_ret
    exact ⟨⟨(0), rfl, by unfold NumN; decide⟩, HF.out⟩
  · go_wp2
    go_ret
    exact ⟨⟨(1), rfl, by unfold NumN; decide⟩, HF.out⟩
  · go_wp2
    go_ret
    exact ⟨⟨(-1), rfl, by unfold NumN; decide⟩, HF.out⟩
  · go_wp2
    go_ret
    exact ⟨⟨(2), rfl, by unfold NumN; decide⟩, HF.out⟩
  · go_wp2
    go_ret
    exact ⟨⟨(3), rfl, by unfold NumN; decide⟩, HF.out⟩
  · go_wp2
    go_ret
    exact ⟨⟨(-2), rfl, by unfold NumN; decide⟩, HF.out⟩
  · go_wp2
    go_ret
    exact ⟨⟨(7), rfl, by unfold NumN; decide⟩, HF.out⟩
  · go_wp2
    go_ret
    exact ⟨⟨(-9223372036854775808), rfl, by unfold NumN; decide⟩, HF.out⟩
  · go_wp2
    go_ret
    exact ⟨⟨(9223372036854775807), rfl, by unfold NumN; decide⟩, HF.out⟩
  · go_wp2
    go_ret
    exact ⟨⟨(10), rfl, by unfold NumN; decide⟩, HF.out⟩
end Go.Proofs.YtjfknigiehggkaaGreat
