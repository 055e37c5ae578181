/- What hasItsForm returns: what the kind of a value asks of the fields that it uses. -/
import Derived.Test.YtcjgaohblaidjaaGreatDoorVb03
import Derived.Test.YtcjgaohblaidjaaGreatDoorVb08
import Derived.Deep.LoopGhost
namespace Go.Proofs.YtcjgaohblaidjaaGreatDoor
open Go Go.RowKit
theorem consB_len {l : List Vl} (h : l.length ≠ 2) : consB l = false := by
 match l, h with
 | [], _ => rfl
 | [_], _ => rfl
 | [_, _], h => exact absurd rfl h
 | _ :: _ :: _ :: _, _ => rfl
theorem kind_cell {k : Nat} {w : World} {B : Nat → Prop} {v : Vl} {cs : List Value} (h : VB k w B v cs) : cs[0]? = some (.int .i64 (kindOf v)) := by
 cases k with
 | zero => exact h.elim
 | succ k =>
  obtain ⟨kd, it, tx, kids, keys, ents, labs⟩ := v
  obtain ⟨uk, uy, ue, ul, rfl, _⟩ := h
  rfl
set_option maxRecDepth 100000 in
set_option maxHeartbeats 1600000 in
theorem form1_any (it : Int) (tx : List UInt8) (kids : List Vl) (keys : List (Int × List UInt8)) (ents : List En) (A Y E L : Option Addr) (c cy ce nl cl : Nat) (w : World) : Calls Tryz.prog 113 #[.agg #[.int .i64 1, .int .i64 it, .string ⟨tx.toArray⟩, .slice A kids.length c, .slice Y keys.length cy, .slice E ents.length ce, .slice L nl cl]] w fun e w' => e = .returned (.bool (kindB 1 it tx kids keys ents)) ∧ Below w.heap.size w w' := by
 have HK : Hid (kindB 1 it tx kids keys ents = true) := Lib.hid (by simp [kindB])
 generalize kindB 1 it tx kids keys ents = r at HK ⊢
 go_enter Tryz.func113, Tryz.ntmps113
 go_wp2
 all_goals go_ret
 all_goals exact ⟨ret_bool (by rw [HK.out]), (Below.refl _ _).alloc (Nat.le_refl _) _⟩
set_option maxRecDepth 100000 in
set_option maxHeartbeats 1600000 in
theorem form5_any (it : Int) (tx : List UInt8) (kids : List Vl) (keys : List (Int × List UInt8)) (ents : List En) (A Y E L : Option Addr) (c cy ce nl cl : Nat) (w : World) : Calls Tryz.prog 113 #[.agg #[.int .i64 5, .int .i64 it, .string ⟨tx.toArray⟩, .slice A kids.length c, .slice Y keys.length cy, .slice E ents.length ce, .slice L nl cl]] w fun e w' => e = .returned (.bool (kindB 5 it tx kids keys ents)) ∧ Below w.heap.size w w' := by
 have HK : Hid (kindB 5 it tx kids keys ents = true) := Lib.hid (by simp [kindB])
 generalize kindB 5 it tx kids keys ents = r at HK ⊢
 go_enter Tryz.func113, Tryz.ntmps113
 go_wp2
 all_goals go_ret
 all_goals exact ⟨ret_bool (by rw [HK.out]), (Below.refl _ _).alloc (Nat.le_refl _) _⟩
set_option maxRecDepth 100000 in
set_option maxHeartbeats 1600000 in
theorem form2_any (it : Int) (tx : List UInt8) (kids : List Vl) (keys : List (Int × List UInt8)) (ents : List En) (A Y E L : Option Addr) (c cy ce nl cl : Nat) (w : World) (ht : tx.length ≤ maxLen) : Calls Tryz.prog 113 #[.agg #[.int .i64 2, .int .i64 it, .string ⟨tx.toArray⟩, .slice A kids.length c, .slice Y keys.length cy, .slice E ents.length ce, .slice L nl cl]] w fun e w' => e = .returned (.bool (kindB 2 it tx kids keys ents)) ∧ Below w.heap.size w w' := by
 have HK : Hid (kindB 2 it tx kids keys ents = decide (tx.length ≤ 64)) := Lib.hid (by simp [kindB])
 unfold maxLen at ht
 generalize kindB 2 it tx kids keys ents = r at HK ⊢
 go_enter Tryz.func113, Tryz.ntmps113
 go_wp2
 all_goals go_ret
 all_goals exact ⟨ret_bool (by rw [HK.out]; simp; omega), (Below.refl _ _).alloc (Nat.le_refl _) _⟩
set_option maxRecDepth 100000 in
set_option maxHeartbeats 1600000 in
theorem form4_any (it : Int) (tx : List UInt8) (kids : List Vl) (keys : List (Int × List UInt8)) (ents : List En) (A Y E L : Option Addr) (c cy ce nl cl : Nat) (w : World) : Calls Tryz.prog 113 #[.agg #[.int .i64 4, .int .i64 it, .string ⟨tx.toArray⟩, .slice A kids.length c, .slice Y keys.length cy, .slice E ents.length ce, .slice L nl cl]] w fun e w' => e = .returned (.bool (kindB 4 it tx kids keys ents)) ∧ Below w.heap.size w w' := by
 have HK : Hid (kindB 4 it tx kids keys ents = decide (0 ≤ it)) := Lib.hid (by simp [kindB])
 generalize kindB 4 it tx kids keys ents = r at HK ⊢
 go_enter Tryz.func113, Tryz.ntmps113
 go_wp2
 all_goals go_ret
 all_goals exact ⟨ret_bool (by rw [HK.out]), (Below.refl _ _).alloc (Nat.le_refl _) _⟩
set_option maxRecDepth 100000 in
set_option maxHeartbeats 1600000 in
theorem form6_any (it : Int) (tx : List UInt8) (kids : List Vl) (keys : List (Int × List UInt8)) (ents : List En) (A Y E L : Option Addr) (c cy ce nl cl : Nat) (w : World) (hn : kids.length ≤ maxLen) : Calls Tryz.prog 113 #[.agg #[.int .i64 6, .int .i64 it, .string ⟨tx.toArray⟩, .slice A kids.length c, .slice Y keys.length cy, .slice E ents.length ce, .slice L nl cl]] w fun e w' => e = .returned (.bool (kindB 6 it tx kids keys ents)) ∧ Below w.heap.size w w' := by
 have HK : Hid (kindB 6 it tx kids keys ents = decide (kids.length ≤ 4)) := Lib.hid (by simp [kindB])
 unfold maxLen at hn
 generalize kindB 6 it tx kids keys ents = r at HK ⊢
 go_enter Tryz.func113, Tryz.ntmps113
 go_wp2
 all_goals go_ret
 all_goals exact ⟨ret_bool (by rw [HK.out]; simp; omega), (Below.refl _ _).alloc (Nat.le_refl _) _⟩
set_option maxRecDepth 100000 in
set_option maxHeartbeats 1600000 in
theorem form3_any (it : Int) (tx : List UInt8) (kids : List Vl) (keys : List (Int × List UInt8)) (ents : List En) (A Y E L : Option Addr) (c cy ce nl cl : Nat) (w : World) (ht : tx.length ≤ maxLen) : Calls Tryz.prog 113 #[.agg #[.int .i64 3, .int .i64 it, .string ⟨tx.toArray⟩, .slice A kids.length c, .slice Y keys.length cy, .slice E ents.length ce, .slice L nl cl]] w fun e w' => e = .returned (.bool (kindB 3 it tx kids keys ents)) ∧ Below w.heap.size w w' := by
 have HK : Hid (kindB 3 it tx kids keys ents = atomB tx) := Lib.hid (by simp [kindB])
 have hc := fun W => isAtomL_any tx W ht
 generalize atomB tx = z at hc HK
 generalize kindB 3 it tx kids keys ents = r at HK ⊢
 go_enter Tryz.func113, Tryz.ntmps113
 go_wp2_with (go_at_call 142; refine (hc _).mono ?_; rintro e w1 ⟨rfl, hb1⟩; refine Hid.out ?_)
 refine Lib.hid ?_
 clear hc
 go_wp2
 go_ret
 exact ⟨ret_bool HK.out.symm, ((Below.refl w.heap.size w).alloc (Nat.le_refl _) _).trans (hb1.mono (by simp))⟩
set_option maxRecDepth 100000 in
set_option maxHeartbeats 1600000 in
theorem form7_any (k : Nat) (it : Int) (tx : List UInt8) (kids : List Vl) (keys : List (Int × List UInt8)) (ents : List En) (A Y E L : Option Addr) (c cy ce nl cl : Nat) (w : World) (hk : RowP w w.heap.size 7 (.slice A kids.length c) kids.length (fun j cs => ∃ x, kids[j]? = some x ∧ VS k w w.heap.size x cs)) : Calls Tryz.prog 113 #[.agg #[.int .i64 7, .int .i64 it, .string ⟨tx.toArray⟩, .slice A kids.length c, .slice Y keys.length cy, .slice E ents.length ce, .slice L nl cl]] w fun e w' => e = .returned (.bool (kindB 7 it tx kids keys ents)) ∧ Below w.heap.size w w' := by
 have HK : Hid (kindB 7 it tx kids keys ents = consB kids) := Lib.hid (by simp [kindB])
 obtain ⟨_, _, _, hkn⟩ := hk.form
 unfold maxLen at hkn
 generalize kindB 7 it tx kids keys ents = r at HK ⊢
 by_cases hn : kids.length = 2
 case neg =>
  have hq : ((kids.length : Int) == 2) = false := by rw [beq_eq_false_iff_ne]; omega
  have HU : Hid (r = false) := Lib.hid (by rw [HK.out]; exact consB_len hn)
  clear hk hn
  go_enter Tryz.func113, Tryz.ntmps113
  go_wp2
  go_ret
  exact ⟨ret_bool HU.out.symm, (Below.refl _ _).alloc (Nat.le_refl _) _⟩
 obtain ⟨x, y, rfl⟩ : ∃ x y, kids = [x, y] := by
  match kids, hn with
  | [x, y], _ => exact ⟨x, y, rfl⟩
 have HR : Hid (r = (decide (kindOf y = 5) || decide (kindOf y = 7))) := HK
 obtain ⟨b, off, cap0, x0, x1, x2, x3, x4, x5, x6, hu, hbH, ⟨x', hx, hv⟩, c0, -, -, -, -, -, -⟩ := hk.at7 (show 1 < [x, y].length by simp)
 simp only [List.getElem?_cons_succ, List.getElem?_cons_zero, Option.some.injEq] at hx
 subst hx
 have hkd := kind_cell hv
 simp only [List.getElem?_cons_zero, Option.some.injEq] at hkd
 subst hkd
 injection hu with hA _ hcap
 subst hA hcap
 generalize kindOf y = q at c0 HR
 have g0 : (w.alloc (.cells #[.int .i64 7, .int .i64 it, .string ⟨tx.toArray⟩, .slice (some ⟨b, off, none⟩) 2 c, .slice Y keys.length cy, .slice E ents.length ce, .slice L nl cl] 27)).cell? ⟨b, off + 7, none⟩ = some (.int .i64 q) := (((Below.refl w.heap.size w).alloc (Nat.le_refl _) _).cell (p := ⟨b, off + 7, none⟩) hbH).trans (by simpa using c0)
 clear hk hv c0 HK hn hkn
 by_cases h5 : q = 5
 ·
  subst h5
  have HU : Hid (r = true) := Lib.hid (by rw [HR.out]; rfl)
  clear HR
  go_enter Tryz.func113, Tryz.ntmps113
  go_wp2
  go_ret
  exact ⟨ret_bool HU.out.symm, (Below.refl _ _).alloc (Nat.le_refl _) _⟩
 ·
  have hq5 : (q == 5) = false := by rw [beq_eq_false_iff_ne]; exact h5
  have HU : Hid (r = (q == 7)) := Lib.hid (by rw [HR.out]; by_cases h7 : q = 7 <;> simp [h5, h7])
  clear HR h5
  go_enter Tryz.func113, Tryz.ntmps113
  go_wp2
  go_ret
  exact ⟨ret_bool HU.out.symm, (Below.refl _ _).alloc (Nat.le_refl _) _⟩
set_option maxRecDepth 100000 in
set_option maxHeartbeats 1600000 in
theorem form8_any (it : Int) (tx : List UInt8) (kids : List Vl) (keys : List (Int × List UInt8)) (ents : List En) (A Y E L : Option Addr) (c cy ce nl cl : Nat) (w : World) (hy : RowP w w.heap.size 2 (.slice Y keys.length cy) keys.length (fun j cs => ∃ x, keys[j]? = some x ∧ cs = [.int .i64 x.1, .string ⟨x.2.toArray⟩] ∧ (Lit.int .i64 x.1).wf = true ∧ x.2.length ≤ maxLen)) : Calls Tryz.prog 113 #[.agg #[.int .i64 8, .int .i64 it, .string ⟨tx.toArray⟩, .slice A kids.length c, .slice Y keys.length cy, .slice E ents.length ce, .slice L nl cl]] w fun e w' => e = .returned (.bool (kindB 8 it tx kids keys ents)) ∧ Below w.heap.size w w' := by
 have HK : Hid (kindB 8 it tx kids keys ents = (keys.all (fun x => keyB x.1 x.2) && decide (AscC cmpK keys) && decide (keys.length = kids.length))) := Lib.hid (by simp [kindB])
 obtain ⟨_, _, _, hyn⟩ := hy.form
 unfold maxLen at hyn
 have egv := enters_of Tryz.func118 (by kernel_rfl) rfl
 obtain ⟨W, hW⟩ : ∃ W, W = w.alloc (.cells #[.int .i64 8, .int .i64 it, .string ⟨tx.toArray⟩, .slice A kids.length c, .slice Y keys.length cy, .slice E ents.length ce, .slice L nl cl] 27) := ⟨_, rfl⟩
 have hbb : Below w.heap.size w W := by rw [hW]; exact (Below.refl _ _).alloc (Nat.le_refl _) _
 have hzz : w.heap.size < W.heap.size := by rw [hW]; simp
 have q0 : W.cell? ⟨w.heap.size, 0, none⟩ = some (.int .i64 8) := by rw [hW]; simp
 have q1 : W.cell? ⟨w.heap.size, 1, none⟩ = some (.int .i64 it) := by rw [hW]; simp
 have q2 : W.cell? ⟨w.heap.size, 2, none⟩ = some (.string ⟨tx.toArray⟩) := by rw [hW]; simp
 have q3 : W.cell? ⟨w.heap.size, 3, none⟩ = some (.slice A kids.length c) := by rw [hW]; simp
 have q4 : W.cell? ⟨w.heap.size, 4, none⟩ = some (.slice Y keys.length cy) := by rw [hW]; simp
 have q5 : W.cell? ⟨w.heap.size, 5, none⟩ = some (.slice E ents.length ce) := by rw [hW]; simp
 have q6 : W.cell? ⟨w.heap.size, 6, none⟩ = some (.slice L nl cl) := by rw [hW]; simp
 have HB := Lib.hid hbb
 have h1 : Hid (∀ V, Below w.heap.size w V → Calls Tryz.prog 143 #[.slice Y keys.length cy, .func (.func 118) #[] #[]] V fun e w' => e = .returned (.bool (keys.all fun x => keyB x.1 x.2)) ∧ Below V.heap.size V w') := Lib.hid fun V hV => all2 _ egv (fun x => keyB x.1 x.2) Y cy keys V (Lib.hid fun x U hx => validKeyL_any x U hx.2) ((hy.on hV fun _ _ h => h).mono hV.size fun _ _ h => h)
 have h2 : Hid (∀ V, Below w.heap.size w V → Calls Tryz.prog 144 #[.slice Y keys.length cy, .func (.func 145) #[] #[]] V fun e w' => e = .returned (.bool (decide (AscC cmpK keys))) ∧ Below V.heap.size V w') := Lib.hid fun V hV => asc2 Y cy keys V ((hy.on hV fun _ _ h => h).mono hV.size fun _ _ h => h)
 clear hy hbb egv
 generalize kindB 8 it tx kids keys ents = r at HK ⊢
 generalize (keys.all fun x => keyB x.1 x.2) = z1 at h1 HK
 generalize decide (AscC cmpK keys) = z2 at h2 HK
 by_cases hn : keys.length = kids.length
 case neg =>
  have hq : ((keys.length : Int) == (kids.length : Int)) = false := by rw [beq_eq_false_iff_ne]; omega
  have HU : Hid (r = false) := Lib.hid (by rw [HK.out]; simp [hn])
  clear hn
  go_enter Tryz.func113, Tryz.ntmps113
  go_wp2_with fail
  rw [← hW]
  clear hW
  go_wp2
  go_ret
  exact ⟨ret_bool HU.out.symm, HB.out⟩
 have hq : ((keys.length : Int) == (kids.length : Int)) = true := by rw [beq_iff_eq]; omega
 have HR : Hid (r = (z1 && z2)) := Lib.hid (by rw [HK.out]; simp [hn])
 have HN := Lib.hid hn
 clear hn HK
 go_enter Tryz.func113, Tryz.ntmps113
 go_wp2_with fail
 rw [← hW]
 clear hW
 go_wp2_with (go_at_call 143; refine (h1.out _ HB.out).mono ?_; rintro e w1 ⟨rfl, hb1⟩; refine Hid.out ?_)
 refine Lib.hid ?_
 have q4' : w1.cell? ⟨w.heap.size, 4, none⟩ = some (.slice Y keys.length cy) := (hb1.cell (p := ⟨_, 4, none⟩) hzz).trans q4
 have HB1 := Lib.hid (HB.out.trans (hb1.mono HB.out.size))
 clear hb1 q0 q1 q2 q3 q4 q5 q6
 cases z1
 ·
  have HU : Hid (r = false) := Lib.hid (by rw [HR.out]; rfl)
  go_wp2
  go_ret
  exact ⟨ret_bool HU.out.symm, HB1.out⟩
 ·
  have HU : Hid (r = z2) := Lib.hid (by rw [HR.out]; rfl)
  go_wp2_with (go_at_call 144; refine (h2.out _ HB1.out).mono ?_; rintro e w2 ⟨rfl, hb2⟩; refine Hid.out ?_)
  refine Lib.hid ?_
  go_wp2
  go_ret
  exact ⟨ret_bool HU.out.symm, HB1.out.trans (hb2.mono HB1.out.size)⟩
set_option maxRecDepth 100000 in
set_option maxHeartbeats 1600000 in
theorem form9_any (k : Nat) (it : Int) (tx : List UInt8) (kids : List Vl) (keys : List (Int × List UInt8)) (ents : List En) (A Y E L : Option Addr) (c cy ce nl cl : Nat) (w : World) (he : RowP w w.heap.size 9 (.slice E ents.length ce) ents.length (fun j cs => ∃ x, ents[j]? = some x ∧ ES (k + 1) w w.heap.size x cs)) : Calls Tryz.prog 113 #[.agg #[.int .i64 9, .int .i64 it, .string ⟨tx.toArray⟩, .slice A kids.length c, .slice Y keys.length cy, .slice E ents.length ce, .slice L nl cl]] w fun e w' => e = .returned (.bool (kindB 9 it tx kids keys ents)) ∧ Below w.heap.size w w' := by
 have HK : Hid (kindB 9 it tx kids keys ents = (decide (0 ≤ it ∧ it ≤ 4) && ents.all (entB it) && decide (AscC cmpE ents))) := Lib.hid (by simp [kindB])
 have egv := enters_of Tryz.func147 (by kernel_rfl) rfl
 obtain ⟨W, hW⟩ : ∃ W, W = w.alloc (.cells #[.int .i64 9, .int .i64 it, .string ⟨tx.toArray⟩, .slice A kids.length c, .slice Y keys.length cy, .slice E ents.length ce, .slice L nl cl] 27) := ⟨_, rfl⟩
 have hbb : Below w.heap.size w W := by rw [hW]; exact (Below.refl _ _).alloc (Nat.le_refl _) _
 have hzz : w.heap.size < W.heap.size := by rw [hW]; simp
 have q0 : W.cell? ⟨w.heap.size, 0, none⟩ = some (.int .i64 9) := by rw [hW]; simp
 have q1 : W.cell? ⟨w.heap.size, 1, none⟩ = some (.int .i64 it) := by rw [hW]; simp
 have q2 : W.cell? ⟨w.heap.size, 2, none⟩ = some (.string ⟨tx.toArray⟩) := by rw [hW]; simp
 have q3 : W.cell? ⟨w.heap.size, 3, none⟩ = some (.slice A kids.length c) := by rw [hW]; simp
 have q4 : W.cell? ⟨w.heap.size, 4, none⟩ = some (.slice Y keys.length cy) := by rw [hW]; simp
 have q5 : W.cell? ⟨w.heap.size, 5, none⟩ = some (.slice E ents.length ce) := by rw [hW]; simp
 have q6 : W.cell? ⟨w.heap.size, 6, none⟩ = some (.slice L nl cl) := by rw [hW]; simp
 have HB := Lib.hid hbb
 have hP : Hid (∀ (a b : En) (ca cb : List Value) (w : World), ES (k + 1) w w.heap.size a ca → ES (k + 1) w w.heap.size b cb → Calls Tryz.prog 150 #[.agg ca.toArray, .agg cb.toArray] w fun e w' => e = .returned (.int .i64 (cmpE a b)) ∧ Below w.heap.size w w') := Lib.hid fun a b ca cb w h1 h2 => entP_any (k + 1) (Lib.hid fun a b ca cb w h1 h2 => compareP_any (k + 1) a b ca cb w h1 h2) a b ca cb w h1 h2
 have h1 : Hid (∀ V, Below W.heap.size W V → Calls Tryz.prog 65 #[.slice E ents.length ce, .func (.func 147) #[] #[.pointer (some ⟨w.heap.size, 0, none⟩)]] V fun e w' => e = .returned (.bool (ents.all (entB it))) ∧ Below V.heap.size V w') := Lib.hid fun V hV => by
  have hwV := hbb.trans (hV.mono hbb.size)
  exact all9c (k + 1) _ egv _ (entB it) E ce ents V (Lib.hid fun e cs U hU he' => fitsC_any k e cs it w.heap.size U he' (Nat.lt_of_lt_of_le hzz (Nat.le_trans hV.size hU.size)) (((hV.trans (hU.mono hV.size)).cell (p := ⟨w.heap.size, 1, none⟩) hzz).trans q1)) ((he.on hwV fun _ _ ⟨x, h1, h2⟩ => ⟨x, h1, ES.up hwV.size (Nat.le_refl _) (ES.on hwV h2)⟩).mono hwV.size fun _ _ h => h)
 have h2 : Hid (∀ V, Below w.heap.size w V → Calls Tryz.prog 149 #[.slice E ents.length ce, .func (.func 150) #[] #[]] V fun e w' => e = .returned (.bool (decide (AscC cmpE ents))) ∧ Below V.heap.size V w') := Lib.hid fun V hV => asc9 (k + 1) hP E ce ents V ((he.on hV fun _ _ ⟨x, h1, h2⟩ => ⟨x, h1, ES.up hV.size (Nat.le_refl _) (ES.on hV h2)⟩).mono hV.size fun _ _ h => h)
 have h0 := validArity_any it
 have HB0 := Lib.hid (Below.refl W.heap.size W)
 clear he hbb egv hP
 generalize kindB 9 it tx kids keys ents = r at HK ⊢
 generalize decide (0 ≤ it ∧ it ≤ 4) = z0 at h0 HK
 generalize ents.all (entB it) = z1 at h1 HK
 generalize decide (AscC cmpE ents) = z2 at h2 HK
 have hmf : ∀ (fn : Fn) (first cap : Array Value) (w : World), (Instr.makeFunc fn first cap).run Tryz.prog w = .ok (.func fn first cap) w := fun _ _ _ _ => rfl
 go_enter Tryz.func113, Tryz.ntmps113
 go_wp2_with fail
 rw [← hW]
 clear hW
 go_wp2_with (go_at_call 146; refine (h0 _).mono ?_; rintro e w1 ⟨rfl, rfl⟩; refine Hid.out ?_)
 refine Lib.hid ?_
 cases z0
 ·
  have HU : Hid (r = false) := Lib.hid (by rw [HK.out]; rfl)
  go_wp2
  go_ret
  exact ⟨ret_bool HU.out.symm, HB.out⟩
 go_wp2_with (go_at_call 65; refine (h1.out _ HB0.out).mono ?_; rintro e w1 ⟨rfl, hb1⟩; refine Hid.out ?_)
 refine Lib.hid ?_
 have q5' : w1.cell? ⟨w.heap.size, 5, none⟩ = some (.slice E ents.length ce) := (hb1.cell (p := ⟨_, 5, none⟩) hzz).trans q5
 have HB1 := Lib.hid (HB.out.trans (hb1.mono HB.out.size))
 clear hb1 q0 q1 q2 q3 q4 q5 q6
 cases z1
 ·
  have HU : Hid (r = false) := Lib.hid (by rw [HK.out]; rfl)
  go_wp2
  go_ret
  exact ⟨ret_bool HU.out.symm, HB1.out⟩
 ·
  have HU : Hid (r = z2) := Lib.hid (by rw [HK.out]; rfl)
  go_wp2_with (go_at_call 149; refine (h2.out _ HB1.out).mono ?_; rintro e w2 ⟨rfl, hb2⟩; refine Hid.out ?_)
  refine Lib.hid ?_
  go_wp2
  go_ret
  exact ⟨ret_bool HU.out.symm, HB1.out.trans (hb2.mono HB1.out.size)⟩
set_option maxRecDepth 100000 in
set_option maxHeartbeats 1600000 in
theorem formX_any (kd : Int) (it : Int) (tx : List UInt8) (kids : List Vl) (keys : List (Int × List UInt8)) (ents : List En) (A Y E L : Option Addr) (c cy ce nl cl : Nat) (w : World) (h1 : kd ≠ 1) (h5 : kd ≠ 5) (h2 : kd ≠ 2) (h3 : kd ≠ 3) (h4 : kd ≠ 4) (h6 : kd ≠ 6) (h7 : kd ≠ 7) (h8 : kd ≠ 8) (h9 : kd ≠ 9) : Calls Tryz.prog 113 #[.agg #[.int .i64 kd, .int .i64 it, .string ⟨tx.toArray⟩, .slice A kids.length c, .slice Y keys.length cy, .slice E ents.length ce, .slice L nl cl]] w fun e w' => e = .returned (.bool (kindB kd it tx kids keys ents)) ∧ Below w.heap.size w w' := by
 have HK : Hid (kindB kd it tx kids keys ents = false) := Lib.hid (by simp [kindB, h1, h5, h2, h3, h4, h6, h7, h8, h9])
 have q1 : (kd == 1) = false := by rw [beq_eq_false_iff_ne]; exact h1
 have q5 : (kd == 5) = false := by rw [beq_eq_false_iff_ne]; exact h5
 have q2 : (kd == 2) = false := by rw [beq_eq_false_iff_ne]; exact h2
 have q3 : (kd == 3) = false := by rw [beq_eq_false_iff_ne]; exact h3
 have q4 : (kd == 4) = false := by rw [beq_eq_false_iff_ne]; exact h4
 have q6 : (kd == 6) = false := by rw [beq_eq_false_iff_ne]; exact h6
 have q7 : (kd == 7) = false := by rw [beq_eq_false_iff_ne]; exact h7
 have q8 : (kd == 8) = false := by rw [beq_eq_false_iff_ne]; exact h8
 have q9 : (kd == 9) = false := by rw [beq_eq_false_iff_ne]; exact h9
 generalize kindB kd it tx kids keys ents = r at HK ⊢
 clear h1 h5 h2 h3 h4 h6 h7 h8 h9
 go_enter Tryz.func113, Tryz.ntmps113
 go_wp2
 go_ret
 exact ⟨ret_bool HK.out.symm, (Below.refl _ _).alloc (Nat.le_refl _) _⟩
theorem form_any (kd : Int) (k : Nat) (it : Int) (tx : List UInt8) (kids : List Vl) (keys : List (Int × List UInt8)) (ents : List En) (A Y E L : Option Addr) (c cy ce nl cl : Nat) (w : World) (ht : tx.length ≤ maxLen) (hk : RowP w w.heap.size 7 (.slice A kids.length c) kids.length (fun j cs => ∃ x, kids[j]? = some x ∧ VS k w w.heap.size x cs)) (hy : RowP w w.heap.size 2 (.slice Y keys.length cy) keys.length (fun j cs => ∃ x, keys[j]? = some x ∧ cs = [.int .i64 x.1, .string ⟨x.2.toArray⟩] ∧ (Lit.int .i64 x.1).wf = true ∧ x.2.length ≤ maxLen)) (he : RowP w w.heap.size 9 (.slice E ents.length ce) ents.length (fun j cs => ∃ x, ents[j]? = some x ∧ ES (k + 1) w w.heap.size x cs)) : Calls Tryz.prog 113 #[.agg #[.int .i64 kd, .int .i64 it, .string ⟨tx.toArray⟩, .slice A kids.length c, .slice Y keys.length cy, .slice E ents.length ce, .slice L nl cl]] w fun e w' => e = .returned (.bool (kindB kd it tx kids keys ents)) ∧ Below w.heap.size w w' := by
 obtain ⟨_, _, _, hkn⟩ := hk.form
 by_cases h1 : kd = 1
 ·
  subst h1
  exact form1_any it tx kids keys ents A Y E L c cy ce nl cl w
 by_cases h5 : kd = 5
 ·
  subst h5
  exact form5_any it tx kids keys ents A Y E L c cy ce nl cl w
 by_cases h2 : kd = 2
 ·
  subst h2
  exact form2_any it tx kids keys ents A Y E L c cy ce nl cl w ht
 by_cases h3 : kd = 3
 ·
  subst h3
  exact form3_any it tx kids keys ents A Y E L c cy ce nl cl w ht
 by_cases h4 : kd = 4
 ·
  subst h4
  exact form4_any it tx kids keys ents A Y E L c cy ce nl cl w
 by_cases h6 : kd = 6
 ·
  subst h6
  exact form6_any it tx kids keys ents A Y E L c cy ce nl cl w hkn
 by_cases h7 : kd = 7
 ·
  subst h7
  exact form7_any k it tx kids keys ents A Y E L c cy ce nl cl w hk
 by_cases h8 : kd = 8
 ·
  subst h8
  exact form8_any it tx kids keys ents A Y E L c cy ce nl cl w hy
 by_cases h9 : kd = 9
 ·
  subst h9
  exact form9_any k it tx kids keys ents A Y E L c cy ce nl cl w he
 exact formX_any kd it tx kids keys ents A Y E L c cy ce nl cl w h1 h5 h2 h3 h4 h6 h7 h8 h9
end Go.Proofs.YtcjgaohblaidjaaGreatDoor
namespace Go.Proofs.YtcjgaohblaidjaaGreatDoor
open Go Go.RowKit
set_option maxRecDepth 100000 in
set_option maxHeartbeats 3200000 in
theorem writeSeqE_any (k : Nat) (hP : Hid (WriteR k)) (B b : Nat) (l be en : Bs) (vs : List En) (A : Option Addr) (cap : Nat) (w : World) (h : BufW B b l w) (hR : RowP w B 9 (.slice A vs.length cap) vs.length (fun j cs => ∃ args fails result, vs[j]? = some (.mk args fails result) ∧ ∃ ua rs, cs = ua :: .bool fails :: rs ∧ RowP w B 7 ua args.length (fun j cs => ∃ x, args[j]? = some x ∧ VS k w B x cs) ∧ VS k w B result rs)) (hok : ∀ x ∈ vs, okE x = true) (hT : TbH B w)
  (hlim : l.length + be.length + (sepL commaL (vs.map showE)).length + en.length ≤ 140737488355328) :
  Calls Tryz.prog 33 #[.pointer (some ⟨b, 0, none⟩), .string ⟨be.toArray⟩, .slice A vs.length cap, .func (.func 34) #[] #[], .string ⟨en.toArray⟩] w fun e w' => e = .returned (.tuple #[]) ∧ BufW B b (l ++ be ++ sepL commaL (vs.map showE) ++ en) w' ∧ Wr B b w w' := by
 obtain ⟨A0, cap0, hA0, hll⟩ := hR.form
 clear hA0 A0 cap0
 unfold maxLen at hll
 have hc0 := bufW B b l be w h (by omega)
 have HR := Lib.hid hR
 have HLM := Lib.hid hlim
 have HOK := Lib.hid hok
 have HT := Lib.hid hT
 clear h hR hlim hok hT
 go_enter Tryz.func33, Tryz.ntmps33
 go_wp2_with fail
 refine hc0.mono ?_
 rintro e w0 ⟨rfl, h0, hb0⟩
 have H0 := Lib.hid h0
 have HB0 := Lib.hid hb0
 clear hc0 h0 hb0
 go_wp2_with fail
 go_loopw [17] (fun iv wr => ∃ j : Nat, iv = .int .i64 j ∧ j ≤ vs.length ∧ BufW B b (l ++ be ++ sepL commaL ((vs.map showE).take j)) wr ∧ Wr B b w wr) (fun iv _ => vs.length - (intOf iv).toNat)
 case atStart => exact ⟨0, rfl, by omega, by simpa [sepL] using H0.out, HB0.out⟩
 case round =>
  obtain ⟨j, rfl, hj, hB, hb⟩ := hrel
  by_cases hjn : j < vs.length
  ·
   obtain ⟨bk, off, cp, ya, yb, x0, x1, x2, x3, x4, x5, x6, hu, hbk, ⟨ar, fa, rs, hx, ua, rcs, hcse, har, hrs⟩, c0, c1, c2, c3, c4, c5, c6, c7, c8⟩ := (HR.out.on hb.1 (fun _ _ h => h)).at9 hjn
   injection hu with hA _ hcp
   subst hA hcp
   simp only [List.cons.injEq] at hcse
   obtain ⟨rfl, rfl, rfl⟩ := hcse
   obtain ⟨Aa, ca, rfl, _⟩ := har.form
   obtain ⟨za, zi, zs, Z3, n3, y3, Z4, n4, y4, Z5, n5, y5, Z6, n6, y6, he7⟩ := hrs.form7
   simp only [List.cons.injEq, and_true] at he7
   obtain ⟨rfl, rfl, rfl, rfl, rfl, rfl, rfl⟩ := he7
   have kn : (j : Int) < (vs.length : Int) := by omega
   have k0 : (0 : Int) ≤ (j : Int) := by omega
   have hxo : okE (.mk ar fa rs) = true := HOK.out _ (List.mem_of_getElem? hx)
   simp only [okE, okVs_all, Bool.and_eq_true, Bool.or_eq_true, List.all_eq_true] at hxo
   have hzx : (vs.map showE)[j]? = some (showE (.mk ar fa rs)) := by rw [List.getElem?_map, hx]; rfl
   have hst := sepB_step5 (s := commaL) hzx
   have hle := sepB_take5 commaL (vs.map showE) j (by rw [List.length_map]; exact hjn)
   rw [hst] at hle
   simp only [List.length_append] at hle
   have hlm := HLM.out
   obtain ⟨V, hV⟩ : ∃ V, V = wr.alloc (.cells #[.slice Aa ar.length ca, .bool fa, .int .i64 za, .int .i64 zi, .string zs, .slice Z3 n3 y3, .slice Z4 n4 y4, .slice Z5 n5 y5, .slice Z6 n6 y6] 45) := ⟨_, rfl⟩
   have kV : V.heap[wr.heap.size]? = some (.cells #[.slice Aa ar.length ca, .bool fa, .int .i64 za, .int .i64 zi, .string zs, .slice Z3 n3 y3, .slice Z4 n4 y4, .slice Z5 n5 y5, .slice Z6 n6 y6] 45 (0, 0)) := by rw [hV]; exact heap_alloc_new wr _
   have hBV : BufW B b (l ++ be ++ sepL commaL ((vs.map showE).take j)) V := by rw [hV]; exact hB.alloc _
   have hWV : Wr B b w V := by rw [hV]; exact hb.alloc hB.2 _
   have hne : wr.heap.size ≠ b := by have := hB.1.lt; omega
   have HS : Hid (l ++ be ++ sepL commaL ((vs.map showE).take (j + 1)) = l ++ be ++ sepL commaL ((vs.map showE).take j) ++ preL commaL j ++ showE (.mk ar fa rs)) := Lib.hid (by rw [hst]; simp)
   have HC2 : Hid (∀ w1, BufW B b (l ++ be ++ sepL commaL ((vs.map showE).take j) ++ preL commaL j) w1 → Wr B b w w1 → Calls Tryz.prog 34 #[.pointer (some ⟨b, 0, none⟩), .agg #[.slice Aa ar.length ca, .bool fa, .int .i64 za, .int .i64 zi, .string zs, .slice Z3 n3 y3, .slice Z4 n4 y4, .slice Z5 n5 y5, .slice Z6 n6 y6]] w1 fun e w' => e = .returned (.tuple #[]) ∧ BufW B b (l ++ be ++ sepL commaL ((vs.map showE).take j) ++ preL commaL j ++ showE (.mk ar fa rs)) w' ∧ Wr B b w1 w') := Lib.hid fun w1 h1 hw =>
    writeEntry_any k hP B b _ ar fa rs Aa ca _ w1 h1 (har.on hw.1 fun _ _ ⟨x, h1, h2⟩ => ⟨x, h1, VS.on hw.1 h2⟩) (VS.on hw.1 hrs) hxo.1 hxo.2 (HT.out.below hw.1) (by simp only [List.length_append]; omega)
   have hlm2 : (l ++ be ++ sepL commaL ((vs.map showE).take j)).length + (preL commaL j).length ≤ 140737488355328 := by simp only [List.length_append]; omega
   have HWV := Lib.hid hWV
   clear hst hle hlm hx har hrs hzx hb hB hWV hxo
   generalize l ++ be ++ sepL commaL ((vs.map showE).take j) = P at hBV HS HC2 hlm2
   by_cases h0 : j = 0
   ·
    subst h0
    have hp : preL commaL 0 = [] := rfl
    rw [hp] at HC2 HS
    simp only [List.append_nil] at HC2 HS
    simp only [Nat.zero_mul, Nat.add_zero] at c0 c1 c2 c3 c4 c5 c6 c7 c8
    have hc2 := HC2.out V hBV HWV.out
    clear HC2 hBV kV hlm2 hp
    go_wp2_with fail
    rw [← hV]
    clear hV
    refine hc2.mono ?_
    rintro e w2 ⟨rfl, h2, hb2⟩
    clear hc2
    go_wp2
    go_roundw
    case rel => exact ⟨1, by go_num, by omega, by rw [HS.out]; exact h2, HWV.out.trans hb2⟩
    case measure => simp [intOf]; omega
   ·
    have hp : preL commaL j = [44, 32] := if_neg h0
    have kp : (0 : Int) < (j : Int) := by omega
    rw [hp] at HC2 HS hlm2
    have hc1 := bufW B b P [44, 32] V hBV hlm2
    clear hBV hlm2 hp
    go_wp2_with fail
    rw [← hV]
    clear hV
    refine hc1.mono ?_
    rintro e w1 ⟨rfl, h1, hb1⟩
    clear hc1
    have k1 := hb1.box9 kV hne
    have e0 : w1.cell? ⟨wr.heap.size, 0, none⟩ = some (.slice Aa ar.length ca) := (Lib.cell_of_heap k1 0).trans rfl
    have e1 : w1.cell? ⟨wr.heap.size, 1, none⟩ = some (.bool fa) := (Lib.cell_of_heap k1 1).trans rfl
    have e2 : w1.cell? ⟨wr.heap.size, 2, none⟩ = some (.int .i64 za) := (Lib.cell_of_heap k1 2).trans rfl
    have e3 : w1.cell? ⟨wr.heap.size, 3, none⟩ = some (.int .i64 zi) := (Lib.cell_of_heap k1 3).trans rfl
    have e4 : w1.cell? ⟨wr.heap.size, 4, none⟩ = some (.string zs) := (Lib.cell_of_heap k1 4).trans rfl
    have e5 : w1.cell? ⟨wr.heap.size, 5, none⟩ = some (.slice Z3 n3 y3) := (Lib.cell_of_heap k1 5).trans rfl
    have e6 : w1.cell? ⟨wr.heap.size, 6, none⟩ = some (.slice Z4 n4 y4) := (Lib.cell_of_heap k1 6).trans rfl
    have e7 : w1.cell? ⟨wr.heap.size, 7, none⟩ = some (.slice Z5 n5 y5) := (Lib.cell_of_heap k1 7).trans rfl
    have e8 : w1.cell? ⟨wr.heap.size, 8, none⟩ = some (.slice Z6 n6 y6) := (Lib.cell_of_heap k1 8).trans rfl
    have HW1 := Lib.hid (HWV.out.trans hb1)
    have hc2 := HC2.out w1 h1 HW1.out
    clear HC2 h1 hb1 k1 kV c0 c1 c2 c3 c4 c5 c6 c7 c8
    go_wp2_with fail
    refine hc2.mono ?_
    rintro e w2 ⟨rfl, h2, hb2⟩
    clear hc2
    go_wp2
    go_roundw
    case rel => exact ⟨j + 1, by go_num, by omega, by rw [HS.out]; exact h2, HW1.out.trans hb2⟩
    case measure => simp [intOf]; omega
  ·
   have hke : (vs.map showE).take j = vs.map showE := List.take_of_length_le (by rw [List.length_map]; omega)
   rw [hke] at hB
   have hjn' : ¬ (j : Int) < (vs.length : Int) := by omega
   have hc1 := bufW B b _ en wr hB (by have := HLM.out; simp only [List.length_append]; omega)
   have HB := Lib.hid hb
   clear hB hke hb
   go_wp2_with fail
   refine hc1.mono ?_
   rintro e w1 ⟨rfl, h1, hb1⟩
   clear hc1
   go_wp2
   go_end0
   exact ⟨rfl, h1, HB.out.trans hb1⟩
end Go.Proofs.YtcjgaohblaidjaaGreatDoor
namespace Go.Proofs.YtcjgaohblaidjaaGreatDoor
open Go Go.RowKit
theorem BufW.set {B b g i : Nat} {l : Bs} {w : World} {cs : Array Value} {T : TypeId} {fz : Nat × Nat} {v : Value} (h : BufW B b l w) (hg : w.heap[g]? = some (.cells cs T fz)) (hT : T ≠ 5) (hgb : g ≠ b) : BufW B b l (w.setCell ⟨g, i, none⟩ v) := by
 obtain ⟨⟨hB, v', lr, hb, hown, hne⟩, hBs⟩ := h
 refine ⟨⟨hB, v', lr, (heap_setCell_other _ _ _ _ (show b ≠ g from fun e => hgb e.symm)).trans hb, ⟨hown.1, ?_⟩, hne⟩, by simpa using hBs⟩
 rcases hown.2 with hn | ⟨g', cap, cur, hv, hbg, hg', rest⟩
 · exact .inl hn
 ·
  refine .inr ⟨g', cap, cur, hv, hbg, (heap_setCell_other _ _ _ _ (show g' ≠ g from fun e => ?_)).trans hg', rest⟩
  rw [e, hg] at hg'
  injection hg' with hg'
  injection hg' with _ h2 _
  exact hT h2
theorem Wr.set {B b g i : Nat} {w w1 : World} {v : Value} (h : Wr B b w w1) (hB : B ≤ g) (hg : w.heap.size ≤ g) : Wr B b w (w1.setCell ⟨g, i, none⟩ v) :=
 ⟨h.1.setCell (p := ⟨g, i, none⟩) hB v, fun k ob hk hne hcs => (heap_setCell_other _ _ _ _ (show k ≠ g from fun e => by have := (Array.getElem?_eq_some_iff.1 hk).1; omega)).trans (h.2 k ob hk hne hcs)⟩
theorem below_set75 {H g : Nat} {a w : World} (h : Below H a w) (hg : H ≤ g) (v0 v1 v2 v3 v4 v5 v6 : Value) : Below H a ((((((((w.setCell ⟨g, 0, none⟩ (v0)).setCell ⟨g, 1, none⟩ (v1)).setCell ⟨g, 2, none⟩ (v2)).setCell ⟨g, 3, none⟩ (v3)).setCell ⟨g, 4, none⟩ (v4)).setCell ⟨g, 5, none⟩ (v5)).setCell ⟨g, 6, none⟩ (v6))) :=
 (Below.setCell (Below.setCell (Below.setCell (Below.setCell (Below.setCell (Below.setCell (Below.setCell h (p := ⟨g, 0, none⟩) hg _) (p := ⟨g, 1, none⟩) hg _) (p := ⟨g, 2, none⟩) hg _) (p := ⟨g, 3, none⟩) hg _) (p := ⟨g, 4, none⟩) hg _) (p := ⟨g, 5, none⟩) hg _) (p := ⟨g, 6, none⟩) hg _)
theorem wr_set7 {B b g : Nat} {w w1 : World} (h : Wr B b w w1) (hB : B ≤ g) (hg : w.heap.size ≤ g) (v0 v1 v2 v3 v4 v5 v6 : Value) : Wr B b w ((((((((w1.setCell ⟨g, 0, none⟩ (v0)).setCell ⟨g, 1, none⟩ (v1)).setCell ⟨g, 2, none⟩ (v2)).setCell ⟨g, 3, none⟩ (v3)).setCell ⟨g, 4, none⟩ (v4)).setCell ⟨g, 5, none⟩ (v5)).setCell ⟨g, 6, none⟩ (v6))) :=
 (((((((h.set hB hg).set hB hg).set hB hg).set hB hg).set hB hg).set hB hg).set hB hg)
theorem bufw_set7 {B b g : Nat} {l : Bs} {w : World} {z0 z1 z2 z3 z4 z5 z6 : Value} {T : TypeId} (h : BufW B b l w) (hk : w.heap[g]? = some (.cells #[z0, z1, z2, z3, z4, z5, z6] T (0, 0))) (hT : T ≠ 5) (hgb : g ≠ b) (v0 v1 v2 v3 v4 v5 v6 : Value) : BufW B b l ((((((((w.setCell ⟨g, 0, none⟩ (v0)).setCell ⟨g, 1, none⟩ (v1)).setCell ⟨g, 2, none⟩ (v2)).setCell ⟨g, 3, none⟩ (v3)).setCell ⟨g, 4, none⟩ (v4)).setCell ⟨g, 5, none⟩ (v5)).setCell ⟨g, 6, none⟩ (v6))) := by
 have k0 := heap_setCell_same w g 0 _ _ v0 hk
 have k1 := heap_setCell_same _ g 1 _ _ v1 k0
 have k2 := heap_setCell_same _ g 2 _ _ v2 k1
 have k3 := heap_setCell_same _ g 3 _ _ v3 k2
 have k4 := heap_setCell_same _ g 4 _ _ v4 k3
 have k5 := heap_setCell_same _ g 5 _ _ v5 k4
 exact ((((((h.set hk hT hgb).set k0 hT hgb).set k1 hT hgb).set k2 hT hgb).set k3 hT hgb).set k4 hT hgb).set k5 hT hgb
set_option maxHeartbeats 800000 in
theorem isPlain_any (kd q : Int) (i : Int) (s : ByteArray) (A3 A4 A5 A6 : Option Addr) (n3 c3 n4 c4 n5 c5 n6 c6 : Nat) (w : World) :
  Calls Tryz.prog 73 #[.agg #[.int .i64 kd, .int .i64 i, .string s, .slice A3 n3 c3, .slice A4 n4 c4, .slice A5 n5 c5, .slice A6 n6 c6], .int .i64 q] w fun e w' => e = .returned (.bool (decide (kd = q) && decide (n6 = 0))) ∧ Below w.heap.size w w' := by
 obtain ⟨W, hW⟩ : ∃ W, W = w.alloc (.cells #[.int .i64 kd, .int .i64 i, .string s, .slice A3 n3 c3, .slice A4 n4 c4, .slice A5 n5 c5, .slice A6 n6 c6] 27) := ⟨_, rfl⟩
 have hbW : Below w.heap.size w (w.alloc (.cells #[.int .i64 kd, .int .i64 i, .string s, .slice A3 n3 c3, .slice A4 n4 c4, .slice A5 n5 c5, .slice A6 n6 c6] 27)) := (Below.refl _ _).alloc (Nat.le_refl _) _
 by_cases hk : kd = q
 ·
  have hkb : (kd == q) = true := by rw [beq_iff_eq]; exact hk
  subst hk
  by_cases hn : n6 = 0
  ·
   subst hn
   go_enter Tryz.func73, Tryz.ntmps73
   go_wp2
   go_ret
   exact ⟨by simp, hbW⟩
  ·
   have hn2 : ¬ (n6 : Int) = 0 := by omega
   have hn3 : ((n6 : Int) == 0) = false := by rw [beq_eq_false_iff_ne]; exact hn2
   go_enter Tryz.func73, Tryz.ntmps73
   go_wp2
   go_ret
   exact ⟨by simp [hn], hbW⟩
 ·
  have hkb : (kd == q) = false := by rw [beq_eq_false_iff_ne]; exact hk
  go_enter Tryz.func73, Tryz.ntmps73
  go_wp2
  go_ret
  exact ⟨by simp [hk], hbW⟩
set_option maxRecDepth 100000 in
set_option maxHeartbeats 6400000 in
theorem writeList_any (k : Nat) (hP : Hid (WriteR k)) (B b : Nat) (l : Bs) (v : Vl) (cs : List Value) (w : World) (h : BufW B b l w) (hv : VS (k + 1) w B v cs) (hk : kindOf v = 7) (hok : okV v = true) (hT : TbH B w) (hlim : l.length + (bodyV v).length ≤ 140737488355328) :
  Calls Tryz.prog 31 #[.pointer (some ⟨b, 0, none⟩), .agg cs.toArray] w fun e w' => e = .returned (.tuple #[]) ∧ BufW B b (l ++ bodyV v) w' ∧ Wr B b w w' := by
 obtain ⟨kind, int, text, kids, keys, ents, labels⟩ := v
 have hk7 : kind = 7 := hk
 obtain ⟨a, b2, rfl, hoa, hob, hkb⟩ := kids_two hok hk7
 subst hk7
 have eb : bodyV (.mk 7 int text [a, b2] keys ents labels) = 91 :: (showV a ++ tlV b2) := by
  show 91 :: consL (shs [a, b2]) = _
  rw [consL_two]
 rw [eb] at hlim ⊢
 clear eb
 obtain ⟨uk, uy, ue, ul, rfl, _, _, _, hkk, hyy, hee, hll⟩ := hv
 obtain ⟨Ay, cy, rfl, _⟩ := hyy.form
 obtain ⟨Ae, ce, rfl, _⟩ := hee.form
 obtain ⟨Al, cl, rfl, _⟩ := hll.form
 obtain ⟨bk, off, ck, x0, x1, x2, x3, x4, x5, x6, hu, hbk, ⟨xa, hxa, hva⟩, c0, c1, c2, c3, c4, c5, c6⟩ := hkk.at7 (j := 0) (by simp)
 obtain ⟨bk', off', ck', z0, z1, z2, z3, z4, z5, z6, hu', hbk', ⟨xb, hxb, hvb⟩, d0, d1, d2, d3, d4, d5, d6⟩ := hkk.at7 (j := 1) (by simp)
 rw [hu] at hu'
 injection hu' with e1 _ e3
 injection e1 with e1
 injection e1 with e1 e2
 subst e1 e2 e3 hu
 have hxa' : a = xa := by simpa using hxa
 have hxb' : b2 = xb := by simpa using hxb
 subst hxa' hxb'
 clear hxa hxb hkk hyy hee hll hok hk
 obtain ⟨za, zi, zs, zA3, zn3, zc3, zA4, zn4, zc4, zA5, zn5, zc5, zA6, zn6, zc6, he7⟩ := hvb.form7
 simp only [List.cons.injEq, and_true] at he7
 obtain ⟨rfl, rfl, rfl, rfl, rfl, rfl, rfl⟩ := he7
 obtain ⟨qa, qi, qs, qA3, qn3, qc3, qA4, qn4, qc4, qA5, qn5, qc5, qA6, qn6, qc6, he7⟩ := hva.form7
 simp only [List.cons.injEq, and_true] at he7
 obtain ⟨rfl, rfl, rfl, rfl, rfl, rfl, rfl⟩ := he7
 obtain ⟨W, hW⟩ : ∃ W, W = w.alloc (.cells #[.int .i64 7, .int .i64 int, .string ⟨text.toArray⟩, .slice (some ⟨bk, off, none⟩) 2 ck, .slice Ay keys.length cy, .slice Ae ents.length ce, .slice Al labels.length cl] 27) := ⟨_, rfl⟩
 have kW : W.heap[w.heap.size]? = some (.cells #[.int .i64 7, .int .i64 int, .string ⟨text.toArray⟩, .slice (some ⟨bk, off, none⟩) 2 ck, .slice Ay keys.length cy, .slice Ae ents.length ce, .slice Al labels.length cl] 27 (0, 0)) := by rw [hW]; exact heap_alloc_new w _
 have hBW : BufW B b l W := by rw [hW]; exact h.alloc _
 have hWW : Wr B b w W := by rw [hW]; exact (Wr.refl _ _ _).alloc h.2 _
 have hne : w.heap.size ≠ b := by have := h.1.lt; omega
 have hBs := h.2
 simp only [Nat.zero_mul, Nat.add_zero, Nat.one_mul, Nat.add_assoc, Nat.reduceAdd] at c0 c1 c2 c3 c4 c5 c6 d0 d1 d2 d3 d4 d5 d6
 have hc0 := bufW B b l [91] W hBW (by simp only [List.length_cons, List.length_nil] at hlim ⊢; omega)
 have HLM := Lib.hid hlim
 have HT := Lib.hid hT
 have HKB := Lib.hid (And.intro hkb hob)
 have HVA := Lib.hid hva
 have HVB := Lib.hid hvb
 have HWW := Lib.hid hWW
 have HKW := Lib.hid kW
 clear hlim hT hkb hva hvb hBW hWW kW h hob
 go_enter Tryz.func31, Tryz.ntmps31
 go_wp2_with fail
 rw [← hW]
 clear hW
 refine hc0.mono ?_
 rintro e w1 ⟨rfl, h1, hb1⟩
 clear hc0
 have HW1 := Lib.hid (HWW.out.trans hb1)
 have k1 := hb1.box HKW.out hne
 have HK1 := Lib.hid k1
 have c0_ := (HW1.out.1.cell (p := ⟨bk, off, none⟩) hbk).trans c0
 have c1_ := (HW1.out.1.cell (p := ⟨bk, off + 1, none⟩) hbk).trans c1
 have c2_ := (HW1.out.1.cell (p := ⟨bk, off + 2, none⟩) hbk).trans c2
 have c3_ := (HW1.out.1.cell (p := ⟨bk, off + 3, none⟩) hbk).trans c3
 have c4_ := (HW1.out.1.cell (p := ⟨bk, off + 4, none⟩) hbk).trans c4
 have c5_ := (HW1.out.1.cell (p := ⟨bk, off + 5, none⟩) hbk).trans c5
 have c6_ := (HW1.out.1.cell (p := ⟨bk, off + 6, none⟩) hbk).trans c6
 have g3 := (Lib.cell_of_heap k1 3).trans rfl
 have hc1 := hP.out B b (l ++ [91]) a _ w1 h1 (VS.on HW1.out.1 HVA.out) hoa (HT.out.below HW1.out.1) (by have := HLM.out; simp only [List.length_cons, List.length_append, List.length_nil] at this ⊢; omega)
 clear h1 hb1 k1 c0 c1 c2 c3 c4 c5 c6 HWW hoa HKW
 go_wp2_with fail
 refine hc1.mono ?_
 rintro e w2 ⟨rfl, h2, hb2⟩
 clear hc1 g3 c0_ c1_ c2_ c3_ c4_ c5_ c6_
 have HW2 := Lib.hid (HW1.out.trans hb2)
 have k2 := hb2.box HK1.out hne
 have d0_ := (HW2.out.1.cell (p := ⟨bk, off + 7, none⟩) hbk).trans d0
 have d1_ := (HW2.out.1.cell (p := ⟨bk, off + 8, none⟩) hbk).trans d1
 have d2_ := (HW2.out.1.cell (p := ⟨bk, off + 9, none⟩) hbk).trans d2
 have d3_ := (HW2.out.1.cell (p := ⟨bk, off + 10, none⟩) hbk).trans d3
 have d4_ := (HW2.out.1.cell (p := ⟨bk, off + 11, none⟩) hbk).trans d4
 have d5_ := (HW2.out.1.cell (p := ⟨bk, off + 12, none⟩) hbk).trans d5
 have d6_ := (HW2.out.1.cell (p := ⟨bk, off + 13, none⟩) hbk).trans d6
 have g3 := (Lib.cell_of_heap k2 3).trans rfl
 obtain ⟨w3, hw3⟩ : ∃ w3, w3 = w2.alloc (.cells #[.int .i64 za, .int .i64 zi, .string zs, .slice zA3 zn3 zc3, .slice zA4 zn4 zc4, .slice zA5 zn5 zc5, .slice zA6 zn6 zc6] 27) := ⟨_, rfl⟩
 have h3 : BufW B b (l ++ 91 :: showV a) w3 := by rw [hw3, show l ++ 91 :: showV a = l ++ [91] ++ showV a by simp]; exact h2.alloc _
 have hW3 : Wr B b w w3 := by rw [hw3]; exact HW2.out.alloc h2.2 _
 have kb3 : w3.heap[w2.heap.size]? = some (.cells #[.int .i64 za, .int .i64 zi, .string zs, .slice zA3 zn3 zc3, .slice zA4 zn4 zc4, .slice zA5 zn5 zc5, .slice zA6 zn6 zc6] 27 (0, 0)) := by rw [hw3]; exact heap_alloc_new w2 _
 have hgb : w2.heap.size ≠ b := by have := h2.1.lt; omega
 have hgB : B ≤ w2.heap.size := h2.2
 have hgw : w.heap.size ≤ w2.heap.size := HW2.out.1.size
 have H3 := Lib.hid (And.intro h3 (And.intro hW3 kb3))
 have HVB3 := Lib.hid (VS.on hW3.1 HVB.out)
 clear h2 hb2 k2 d0 d1 d2 d3 d4 d5 d6 h3 hW3 kb3 HW1 HW2 HK1 HVA HVB
 go_wp2_with fail
 rw [← hw3]
 clear hw3 g3 d0_ d1_ d2_ d3_ d4_ d5_ d6_
 go_loopg [18] ((tlV b2).length + 1) (fun gk _ wr => ∃ (x : Vl) (q : Bs) (ma mi ms mA3 mn3 mc3 mA4 mn4 mc4 mA5 mn5 mc5 mA6 mn6 mc6 : _), BufW B b (l ++ q) wr ∧ Wr B b w wr ∧ wr.heap[w2.heap.size]? = some (.cells #[.int .i64 ma, .int .i64 mi, .string ms, .slice mA3 mn3 mc3, .slice mA4 mn4 mc4, .slice mA5 mn5 mc5, .slice mA6 mn6 mc6] 27 (0, 0)) ∧ VS k wr B x [.int .i64 ma, .int .i64 mi, .string ms, .slice mA3 mn3 mc3, .slice mA4 mn4 mc4, .slice mA5 mn5 mc5, .slice mA6 mn6 mc6] ∧ okV x = true ∧ (kindOf x = 5 ∨ kindOf x = 7) ∧ 91 :: (showV a ++ tlV b2) = q ++ tlV x ∧ (tlV x).length < gk)
 case atStart => exact ⟨b2, 91 :: showV a, _, _, _, _, _, _, _, _, _, _, _, _, _, _, _, H3.out.1, H3.out.2.1, H3.out.2.2, HVB3.out, HKB.out.2, HKB.out.1, rfl, Nat.lt_succ_self _⟩
 case round =>
  obtain ⟨x, q, ma, mi, ms, mA3, mn3, mc3, mA4, mn4, mc4, mA5, mn5, mc5, mA6, mn6, mc6, hB, hW0, hk, hx, hox, hkx, hq, hlt⟩ := hrel
  obtain ⟨k', rfl⟩ : ∃ k', k = k' + 1 := by
   cases k with
   | zero => exact hx.elim
   | succ k' => exact ⟨k', rfl⟩
  obtain ⟨kd, i2, t2, v2, y2, en2, l2⟩ := x
  have hx0 := hx
  obtain ⟨uk2, uy2, ue2, ul2, hcs, _, _, _, hkk2, hyy2, hee2, hll2⟩ := hx
  obtain ⟨Ak2, ck2, rfl, _⟩ := hkk2.form
  obtain ⟨Ay2, cy2, rfl, _⟩ := hyy2.form
  obtain ⟨Ae2, ce2, rfl, _⟩ := hee2.form
  obtain ⟨Al2, cl2, rfl, hl2m⟩ := hll2.form
  simp only [List.cons.injEq, and_true, Value.int.injEq, true_and, Value.string.injEq, Value.slice.injEq] at hcs
  obtain ⟨rfl, rfl, rfl, ⟨rfl, rfl, rfl⟩, ⟨rfl, rfl, rfl⟩, ⟨rfl, rfl, rfl⟩, ⟨rfl, rfl, rfl⟩⟩ := hcs
  have hlm := HLM.out
  rw [hq] at hlm
  obtain ⟨e0, e1, e2, e3, e4, e5, e6⟩ := cells7 hk
  obtain ⟨f0, f1, f2, f3, f4, f5, f6⟩ := frozen7 hk
  have hp1 := isPlain_any ma 7 mi ⟨t2.toArray⟩ mA3 mA4 mA5 mA6 v2.length mc3 y2.length mc4 en2.length mc5 l2.length mc6 wr
  have HQ := Lib.hid hq
  have HB := Lib.hid hB
  have HW0 := Lib.hid hW0
  have HKX := Lib.hid hk
  have HLM2 := Lib.hid hlm
  by_cases hpl : ma = 7 ∧ l2 = []
  ·
   obtain ⟨rfl, rfl⟩ := hpl
   obtain ⟨a2, b3, rfl, hoa2, hob2, hkb2⟩ := kids_two hox rfl
   have htl : tlV (.mk 7 mi t2 [a2, b3] y2 en2 []) = commaL ++ (showV a2 ++ tlV b3) := by rw [tlV_eq, if_pos ⟨rfl, rfl⟩, consL_two]
   rw [htl] at hq hlm hlt
   simp only [List.length_append, commaL, List.length_cons, List.length_nil] at hlm hlt
   obtain ⟨bk2, off2, cq2, x0', x1', x2', x3', x4', x5', x6', hu, hbk2, ⟨xa, hxa, hva⟩, c0, c1, c2, c3, c4, c5, c6⟩ := hkk2.at7 (j := 0) (by simp)
   obtain ⟨bk3, off3, cq3, z0, z1, z2, z3, z4, z5, z6, hu', hbk3, ⟨xb, hxb, hvb⟩, d0, d1, d2, d3, d4, d5, d6⟩ := hkk2.at7 (j := 1) (by simp)
   rw [hu] at hu'
   injection hu' with e1' _ e3'
   injection e1' with e1'
   injection e1' with e1' e2'
   subst e1' e2' e3'
   injection hu with hu1 _ hu3
   subst hu1 hu3
   have hxa' : a2 = xa := by simpa using hxa
   have hxb' : b3 = xb := by simpa using hxb
   subst hxa' hxb'
   obtain ⟨sa, si, ss, sA3, sn3, sc3, sA4, sn4, sc4, sA5, sn5, sc5, sA6, sn6, sc6, he7⟩ := hvb.form7
   simp only [List.cons.injEq, and_true] at he7
   obtain ⟨rfl, rfl, rfl, rfl, rfl, rfl, rfl⟩ := he7
   obtain ⟨ra, ri, rs, rA3, rn3, rc3, rA4, rn4, rc4, rA5, rn5, rc5, rA6, rn6, rc6, he7⟩ := hva.form7
   simp only [List.cons.injEq, and_true] at he7
   obtain ⟨rfl, rfl, rfl, rfl, rfl, rfl, rfl⟩ := he7
   simp only [Nat.zero_mul, Nat.add_zero, Nat.one_mul, Nat.add_assoc, Nat.reduceAdd] at c0 c1 c2 c3 c4 c5 c6 d0 d1 d2 d3 d4 d5 d6
   have HQ2 := Lib.hid hq
   have HLT := Lib.hid (And.intro hlt hlm)
   have HVX := Lib.hid (And.intro hva (And.intro hvb (And.intro hoa2 (And.intro hob2 hkb2))))
   rw [show (decide ((7 : Int) = 7) && decide (([] : List Bs).length = 0)) = true from rfl] at hp1
   clear hq hlm hlt hva hvb hx0 hkk2 hyy2 hee2 hll2 htl hk hox hl2m hB hW0 hkx hxa hxb HQ HLM2
   go_wp2_with fail
   refine hp1.mono ?_
   rintro e w4 ⟨rfl, hb4⟩
   clear hp1 e0 e1 e2 e3 e4 e5 e6 f0 f1 f2 f3 f4 f5 f6
   have h4 : BufW B b (l ++ q) w4 := ⟨HB.out.1.old hb4, Nat.le_trans HB.out.2 hb4.size⟩
   have k4 := (hb4.block _ (Array.getElem?_eq_some_iff.1 HKX.out).1).trans HKX.out
   have HW4 := Lib.hid (HW0.out.trans (Wr.of_below (b := b) hb4 HB.out.2))
   have hr4 : Below B wr w4 := hb4.mono HB.out.2
   have hc1 := bufW B b (l ++ q) [44, 32] w4 h4 (by have := HLT.out.2; simp only [List.length_append, List.length_cons, List.length_nil]; omega)
   have HK4 := Lib.hid k4
   have HR4 := Lib.hid hr4
   clear h4 k4 hr4 hb4
   go_wp2_with fail
   refine hc1.mono ?_
   rintro e w5 ⟨rfl, h5, hb5⟩
   clear hc1
   have k5 := hb5.box HK4.out hgb
   have hr5 := HR4.out.trans hb5.1
   have HW5 := Lib.hid (HW4.out.trans hb5)
   have c0_ := (hr5.cell (p := ⟨bk2, off2, none⟩) hbk2).trans c0
   have c1_ := (hr5.cell (p := ⟨bk2, off2 + 1, none⟩) hbk2).trans c1
   have c2_ := (hr5.cell (p := ⟨bk2, off2 + 2, none⟩) hbk2).trans c2
   have c3_ := (hr5.cell (p := ⟨bk2, off2 + 3, none⟩) hbk2).trans c3
   have c4_ := (hr5.cell (p := ⟨bk2, off2 + 4, none⟩) hbk2).trans c4
   have c5_ := (hr5.cell (p := ⟨bk2, off2 + 5, none⟩) hbk2).trans c5
   have c6_ := (hr5.cell (p := ⟨bk2, off2 + 6, none⟩) hbk2).trans c6
   have g3 := (Lib.cell_of_heap k5 3).trans rfl
   have hc2 := hP.out B b (l ++ q ++ [44, 32]) a2 _ w5 h5 (VS.on hr5 (VS.up (Nat.le_refl _) (Nat.le_succ _) HVX.out.1)) HVX.out.2.2.1 (HT.out.below HW5.out.1) (by have := HLT.out.2; simp only [List.length_append, List.length_cons, List.length_nil]; omega)
   have HR5 := Lib.hid hr5
   have HK5 := Lib.hid k5
   clear h5 hb5 k5 hr5 c0 c1 c2 c3 c4 c5 c6
   go_wp2_with fail
   refine hc2.mono ?_
   rintro e w6 ⟨rfl, h6, hb6⟩
   clear hc2 g3 c0_ c1_ c2_ c3_ c4_ c5_ c6_
   have k6 := hb6.box HK5.out hgb
   have hr6 := HR5.out.trans hb6.1
   have hW6 := HW5.out.trans hb6
   have d0_ := (hr6.cell (p := ⟨bk2, off2 + 7, none⟩) hbk2).trans d0
   have d1_ := (hr6.cell (p := ⟨bk2, off2 + 8, none⟩) hbk2).trans d1
   have d2_ := (hr6.cell (p := ⟨bk2, off2 + 9, none⟩) hbk2).trans d2
   have d3_ := (hr6.cell (p := ⟨bk2, off2 + 10, none⟩) hbk2).trans d3
   have d4_ := (hr6.cell (p := ⟨bk2, off2 + 11, none⟩) hbk2).trans d4
   have d5_ := (hr6.cell (p := ⟨bk2, off2 + 12, none⟩) hbk2).trans d5
   have d6_ := (hr6.cell (p := ⟨bk2, off2 + 13, none⟩) hbk2).trans d6
   obtain ⟨e0, e1, e2, e3, e4, e5, e6⟩ := cells7 k6
   obtain ⟨f0, f1, f2, f3, f4, f5, f6⟩ := frozen7 k6
   obtain ⟨V, hV⟩ : ∃ V, V = (((((((w6.setCell ⟨w2.heap.size, 0, none⟩ (.int .i64 sa)).setCell ⟨w2.heap.size, 1, none⟩ (.int .i64 si)).setCell ⟨w2.heap.size, 2, none⟩ (.string ss)).setCell ⟨w2.heap.size, 3, none⟩ (.slice sA3 sn3 sc3)).setCell ⟨w2.heap.size, 4, none⟩ (.slice sA4 sn4 sc4)).setCell ⟨w2.heap.size, 5, none⟩ (.slice sA5 sn5 sc5)).setCell ⟨w2.heap.size, 6, none⟩ (.slice sA6 sn6 sc6)) := ⟨_, rfl⟩
   have hBV : BufW B b (l ++ (q ++ commaL ++ showV a2)) V := by
    rw [hV, show l ++ (q ++ commaL ++ showV a2) = l ++ q ++ [44, 32] ++ showV a2 by simp [commaL]]
    exact bufw_set7 h6 k6 (by decide) hgb _ _ _ _ _ _ _
   have hWV : Wr B b w V := by rw [hV]; exact wr_set7 hW6 hgB hgw _ _ _ _ _ _ _
   have kV : V.heap[w2.heap.size]? = some (.cells #[.int .i64 sa, .int .i64 si, .string ss, .slice sA3 sn3 sc3, .slice sA4 sn4 sc4, .slice sA5 sn5 sc5, .slice sA6 sn6 sc6] 27 (0, 0)) := by rw [hV]; exact obj7 k6 (.int .i64 sa) (.int .i64 si) (.string ss) (.slice sA3 sn3 sc3) (.slice sA4 sn4 sc4) (.slice sA5 sn5 sc5) (.slice sA6 sn6 sc6)
   have hrV : Below B wr V := by rw [hV]; exact below_set75 hr6 hgB _ _ _ _ _ _ _
   have HVV := Lib.hid (VS.on hrV (VS.up (Nat.le_refl _) (Nat.le_succ _) HVX.out.2.1))
   have HF := Lib.hid (And.intro hBV (And.intro hWV kV))
   have HV := Lib.hid hV
   clear h6 hb6 k6 hr6 hW6 d0 d1 d2 d3 d4 d5 d6 hBV hWV kV hrV hV
   go_wp2
   go_roundg ((tlV b3).length + 1)
   case measure => have := HLT.out.1; omega
   case rel =>
    rw [← HV.out]
    obtain ⟨hBV, hWV, kV⟩ := HF.out
    exact ⟨b3, q ++ commaL ++ showV a2, _, _, _, _, _, _, _, _, _, _, _, _, _, _, _, hBV, hWV, kV, HVV.out, HVX.out.2.2.2.1, HVX.out.2.2.2.2, by rw [HQ2.out]; simp, Nat.lt_succ_self _⟩
  ·
   have hpf : (decide (ma = 7) && decide (l2.length = 0)) = false := by
    rw [Bool.and_eq_false_iff, decide_eq_false_iff_not, decide_eq_false_iff_not]
    by_cases h7 : ma = 7
    · exact .inr fun e => hpl ⟨h7, List.length_eq_zero_iff.1 e⟩
    · exact .inl h7
   rw [hpf] at hp1
   have HVX := Lib.hid hx0
   have HOX := Lib.hid hox
   have HPL := Lib.hid hpl
   have HKD := Lib.hid hkx
   generalize hn3 : v2.length = N3 at *
   generalize hn4 : y2.length = N4 at *
   generalize hn5 : en2.length = N5 at *
   generalize hn6 : l2.length = N6 at *
   have HN := Lib.hid hn6
   clear hn3 hn4 hn5 hn6 hq hlm hx0 hkk2 hyy2 hee2 hll2 hk hox hl2m hB hW0 hkx hpf hpl
   go_wp2_with fail
   refine hp1.mono ?_
   rintro e w4 ⟨rfl, hb4⟩
   clear hp1
   have hp2 := isPlain_any ma 5 mi ⟨t2.toArray⟩ mA3 mA4 mA5 mA6 N3 mc3 N4 mc4 N5 mc5 N6 mc6 w4
   have h4 : BufW B b (l ++ q) w4 := ⟨HB.out.1.old hb4, Nat.le_trans HB.out.2 hb4.size⟩
   have k4 := (hb4.block _ (Array.getElem?_eq_some_iff.1 HKX.out).1).trans HKX.out
   have HW4 := Lib.hid (HW0.out.trans (Wr.of_below (b := b) hb4 HB.out.2))
   have hr4 : Below B wr w4 := hb4.mono HB.out.2
   clear e0 e1 e2 e3 e4 e5 e6 f0 f1 f2 f3 f4 f5 f6
   obtain ⟨e0, e1, e2, e3, e4, e5, e6⟩ := cells7 k4
   have HK4 := Lib.hid k4
   have HR4 := Lib.hid hr4
   have HB4 := Lib.hid h4
   clear h4 k4 hr4 hb4
   by_cases hp5 : ma = 5 ∧ N6 = 0
   ·
    obtain ⟨rfl, rfl⟩ := hp5
    have hl2 : l2 = [] := List.length_eq_zero_iff.1 HN.out
    have htl : tlV (.mk 5 mi t2 v2 y2 en2 l2) = [93] := by rw [tlV_eq, hl2, if_neg (by simp), if_pos ⟨rfl, rfl⟩]
    have hq := HQ.out
    have hlm := HLM2.out
    rw [htl] at hq hlm
    have HQ3 := Lib.hid (And.intro hq hlm)
    rw [show (decide ((5 : Int) = 5) && decide ((0 : Nat) = 0)) = true from rfl] at hp2
    clear hq hlm htl
    go_wp2_with fail
    refine hp2.mono ?_
    rintro e w5 ⟨rfl, hb5⟩
    clear hp2 e0 e1 e2 e3 e4 e5 e6
    have h5 : BufW B b (l ++ q) w5 := ⟨HB4.out.1.old hb5, Nat.le_trans HB4.out.2 hb5.size⟩
    have HW5 := Lib.hid (HW4.out.trans (Wr.of_below (b := b) hb5 HB4.out.2))
    have hc1 := bufW B b (l ++ q) [93] w5 h5 (by have := HQ3.out.2; simp only [List.length_append, List.length_cons, List.length_nil] at this ⊢; omega)
    clear h5 hb5
    go_wp2_with fail
    refine hc1.mono ?_
    rintro e w6 ⟨rfl, h6, hb6⟩
    clear hc1
    go_wp2
    go_end0
    exact ⟨rfl, by rw [HQ3.out.1, ← List.append_assoc]; exact h6, HW5.out.trans hb6⟩
   ·
    have hpf : (decide (ma = 5) && decide (N6 = 0)) = false := by
     rw [Bool.and_eq_false_iff, decide_eq_false_iff_not, decide_eq_false_iff_not]
     by_cases h5 : ma = 5
     · exact .inr fun e => hp5 ⟨h5, e⟩
     · exact .inl h5
    rw [hpf] at hp2
    have htl : tlV (.mk ma mi t2 v2 y2 en2 l2) = [32, 124, 32] ++ showV (.mk ma mi t2 v2 y2 en2 l2) ++ [93] := by
     refine tlV_lab ?_
     show l2 ≠ []
     intro e
     have hN := HN.out
     rw [e] at hN
     rcases HKD.out with h5 | h7
     · exact hp5 ⟨h5, hN.symm⟩
     · exact HPL.out ⟨h7, e⟩
    have hq := HQ.out
    have hlm := HLM2.out
    rw [htl] at hq hlm
    simp only [List.length_append, List.length_cons, List.length_nil] at hlm
    have HQ3 := Lib.hid (And.intro hq hlm)
    clear hq hlm htl hpf hp5
    go_wp2_with fail
    refine hp2.mono ?_
    rintro e w5 ⟨rfl, hb5⟩
    clear hp2 e0 e1 e2 e3 e4 e5 e6
    have h5 : BufW B b (l ++ q) w5 := ⟨HB4.out.1.old hb5, Nat.le_trans HB4.out.2 hb5.size⟩
    have HW5 := Lib.hid (HW4.out.trans (Wr.of_below (b := b) hb5 HB4.out.2))
    have k5 := (hb5.block _ (Array.getElem?_eq_some_iff.1 HK4.out).1).trans HK4.out
    have HR5 := Lib.hid (HR4.out.trans (hb5.mono HB4.out.2))
    have hc1 := bufW B b (l ++ q) [32, 124, 32] w5 h5 (by have := HQ3.out.2; simp only [List.length_append, List.length_cons, List.length_nil] at this ⊢; omega)
    have HK5 := Lib.hid k5
    clear h5 hb5 k5
    go_wp2_with fail
    refine hc1.mono ?_
    rintro e w6 ⟨rfl, h6, hb6⟩
    clear hc1
    have k6 := hb6.box HK5.out hgb
    have hr6 := HR5.out.trans hb6.1
    have HW6 := Lib.hid (HW5.out.trans hb6)
    obtain ⟨e0, e1, e2, e3, e4, e5, e6⟩ := cells7 k6
    have hc2 := hP.out B b (l ++ q ++ [32, 124, 32]) _ _ w6 h6 (VS.on hr6 HVX.out) HOX.out (HT.out.below HW6.out.1) (by have := HQ3.out.2; simp only [List.length_append, List.length_cons, List.length_nil] at this ⊢; omega)
    clear h6 hb6 k6 hr6
    go_wp2_with fail
    refine hc2.mono ?_
    rintro e w7 ⟨rfl, h7, hb7⟩
    clear hc2 e0 e1 e2 e3 e4 e5 e6
    have HW7 := Lib.hid (HW6.out.trans hb7)
    have hc3 := bufW B b _ [93] w7 h7 (by have := HQ3.out.2; simp only [List.length_append, List.length_cons, List.length_nil] at this ⊢; omega)
    clear h7 hb7
    go_wp2_with fail
    refine hc3.mono ?_
    rintro e w8 ⟨rfl, h8, hb8⟩
    clear hc3
    go_wp2
    go_end0
    refine ⟨rfl, ?_, HW7.out.trans hb8⟩
    rw [HQ3.out.1]
    simpa using h8
end Go.Proofs.YtcjgaohblaidjaaGreatDoor
