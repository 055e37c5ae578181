/- What hasItsForm returns: what the kind of a value asks of the fields that it uses. -/
import Derived.Test.YtjfknigiehggkaaGreatVl11
namespace Go.Proofs.YtjfknigiehggkaaGreat
open Go Go.RowKit
theorem consB_len {l : List Vl} (h : l.length ≠ 2) : consB l = false := by
  match l, h with
  | [], _ => rfl
  | [_], _ => rfl
  | [_, _], h => exact absurd rfl h
  | _ :: _ :: _ :: _, _ => rfl
theorem kind_cell {k : Nat} {w : World} {B : Nat → Prop} {v : Vl} {cs : List Value} (h : VB k w B v cs) : cs[0]? = some (.int .i64 (kindOf v)) := by
  cases k with
  | zero => exact h.elim
  | succ k =>
    obtain ⟨kd, it, tx, kids, keys, ents, labs⟩ := v
    obtain ⟨uk, uy, ue, ul, rfl, _⟩ := h
    rfl
set_option maxRecDepth 100000 in
set_option maxHeartbeats 1600000 in
theorem form1_any (it : Int) (tx : List UInt8) (kids : List Vl) (keys : List (Int × List UInt8)) (ents : List En) (A Y E L : Option Addr) (c cy ce nl cl : Nat) (w : World) : Calls Tryz.prog 116 #[.agg #[.int .i64 1, .int .i64 it, .string ⟨tx.toArray⟩, .slice A kids.length c, .slice Y keys.length cy, .slice E ents.length ce, .slice L nl cl]] w fun e w' => e = .returned (.bool (kindB 1 it tx kids keys ents)) ∧ Below w.heap.size w w' := by
  have HK : Hid (kindB 1 it tx kids keys ents = true) := Lib.hid (by simp [kindB])
  generalize kindB 1 it tx kids keys ents = r at HK ⊢
  go_enter Tryz.func116, Tryz.ntmps116
  go_wp2
  all_goals go_ret
  all_goals exact ⟨ret_bool (by rw [HK.out]), (Below.refl _ _).alloc (Nat.le_refl _) _⟩
set_option maxRecDepth 100000 in
set_option maxHeartbeats 1600000 in
theorem form5_any (it : Int) (tx : List UInt8) (kids : List Vl) (keys : List (Int × List UInt8)) (ents : List En) (A Y E L : Option Addr) (c cy ce nl cl : Nat) (w : World) : Calls Tryz.prog 116 #[.agg #[.int .i64 5, .int .i64 it, .string ⟨tx.toArray⟩, .slice A kids.length c, .slice Y keys.length cy, .slice E ents.length ce, .slice L nl cl]] w fun e w' => e = .returned (.bool (kindB 5 it tx kids keys ents)) ∧ Below w.heap.size w w' := by
  have HK : Hid (kindB 5 it tx kids keys ents = true) := Lib.hid (by simp [kindB])
  generalize kindB 5 it tx kids keys ents = r at HK ⊢
  go_enter Tryz.func116, Tryz.ntmps116
  go_wp2
  all_goals go_ret
  all_goals exact ⟨ret_bool (by rw [HK.out]), (Below.refl _ _).alloc (Nat.le_refl _) _⟩
set_option maxRecDepth 100000 in
set_option maxHeartbeats 1600000 in
theorem form2_any (it : Int) (tx : List UInt8) (kids : List Vl) (keys : List (Int × List UInt8)) (ents : List En) (A Y E L : Option Addr) (c cy ce nl cl : Nat) (w : World) (ht : tx.length ≤ maxLen) : Calls Tryz.prog 116 #[.agg #[.int .i64 2, .int .i64 it, .string ⟨tx.toArray⟩, .slice A kids.length c, .slice Y keys.length cy, .slice E ents.length ce, .slice L nl cl]] w fun e w' => e = .returned (.bool (kindB 2 it tx kids keys ents)) ∧ Below w.heap.size w w' := by
  have HK : Hid (kindB 2 it tx kids keys ents = decide (tx.length ≤ 64)) := Lib.hid (by simp [kindB])
  unfold maxLen at ht
  generalize kindB 2 it tx kids keys ents = r at HK ⊢
  go_enter Tryz.func116, Tryz.ntmps116
  go_wp2
  all_goals go_ret
  all_goals exact ⟨ret_bool (by rw [HK.out]; simp; omega), (Below.refl _ _).alloc (Nat.le_refl _) _⟩
set_option maxRecDepth 100000 in
set_option maxHeartbeats 1600000 in
theorem form4_any (it : Int) (tx : List UInt8) (kids : List Vl) (keys : List (Int × List UInt8)) (ents : List En) (A Y E L : Option Addr) (c cy ce nl cl : Nat) (w : World) : Calls Tryz.prog 116 #[.agg #[.int .i64 4, .int .i64 it, .string ⟨tx.toArray⟩, .slice A kids.length c, .slice Y keys.length cy, .slice E ents.length ce, .slice L nl cl]] w fun e w' => e = .returned (.bool (kindB 4 it tx kids keys ents)) ∧ Below w.heap.size w w' := by
  have HK : Hid (kindB 4 it tx kids keys ents = decide (0 ≤ it)) := Lib.hid (by simp [kindB])
  generalize kindB 4 it tx kids keys ents = r at HK ⊢
  go_enter Tryz.func116, Tryz.ntmps116
  go_wp2
  all_goals go_ret
  all_goals exact ⟨ret_bool (by rw [HK.out]), (Below.refl _ _).alloc (Nat.le_refl _) _⟩
set_option maxRecDepth 100000 in
set_option maxHeartbeats 1600000 in
theorem form6_any (it : Int) (tx : List UInt8) (kids : List Vl) (keys : List (Int × List UInt8)) (ents : List En) (A Y E L : Option Addr) (c cy ce nl cl : Nat) (w : World) (hn : kids.length ≤ maxLen) : Calls Tryz.prog 116 #[.agg #[.int .i64 6, .int .i64 it, .string ⟨tx.toArray⟩, .slice A kids.length c, .slice Y keys.length cy, .slice E ents.length ce, .slice L nl cl]] w fun e w' => e = .returned (.bool (kindB 6 it tx kids keys ents)) ∧ Below w.heap.size w w' := by
  have HK : Hid (kindB 6 it tx kids keys ents = decide (kids.length ≤ 4)) := Lib.hid (by simp [kindB])
  unfold maxLen at hn
  generalize kindB 6 it tx kids keys ents = r at HK ⊢
  go_enter Tryz.func116, Tryz.ntmps116
  go_wp2
  all_goals go_ret
  all_goals exact ⟨ret_bool (by rw [HK.out]; simp; omega), (Below.refl _ _).alloc (Nat.le_refl _) _⟩
set_option maxRecDepth 100000 in
set_option maxHeartbeats 1600000 in
theorem form3_any (it : Int) (tx : List UInt8) (kids : List Vl) (keys : List (Int × List UInt8)) (ents : List En) (A Y E L : Option Addr) (c cy ce nl cl : Nat) (w : World) (ht : tx.length ≤ maxLen) : Calls Tryz.prog 116 #[.agg #[.int .i64 3, .int .i64 it, .string ⟨tx.toArray⟩, .slice A kids.length c, .slice Y keys.length cy, .slice E ents.length ce, .slice L nl cl]] w fun e w' => e = .returned (.bool (kindB 3 it tx kids keys ents)) ∧ Below w.heap.size w w' := by
  have HK : Hid (kindB 3 it tx kids keys ents = atomB tx) := Lib.hid (by simp [kindB])
  have hc := fun W => isAtomL_any tx W ht
  generalize atomB tx = z at hc HK
  generalize kindB 3 it tx kids keys ents = r at HK ⊢
  go_enter Tryz.func116, Tryz.ntmps116
  go_wp2_with (go_at_call 92; refine (hc _).mono ?_; rintro e w1 ⟨rfl, hb1⟩; refine Hid.out ?_)
  refine Lib.hid ?_
  clear hc
  go_wp2
  go_ret
  exact ⟨ret_bool HK.out.symm, ((Below.refl w.heap.size w).alloc (Nat.le_refl _) _).trans (hb1.mono (by simp))⟩
set_option maxRecDepth 100000 in
set_option maxHeartbeats 1600000 in
theorem form7_any (k : Nat) (it : Int) (tx : List UInt8) (kids : List Vl) (keys : List (Int × List UInt8)) (ents : List En) (A Y E L : Option Addr) (c cy ce nl cl : Nat) (w : World) (hk : RowP w w.heap.size 7 (.slice A kids.length c) kids.length (fun j cs => ∃ x, kids[j]? = some x ∧ VS k w w.heap.size x cs)) : Calls Tryz.prog 116 #[.agg #[.int .i64 7, .int .i64 it, .string ⟨tx.toArray⟩, .slice A kids.length c, .slice Y keys.length cy, .slice E ents.length ce, .slice L nl cl]] w fun e w' => e = .returned (.bool (kindB 7 it tx kids keys ents)) ∧ Below w.heap.size w w' := by
  have HK : Hid (kindB 7 it tx kids keys ents = consB kids) := Lib.hid (by simp [kindB])
  obtain ⟨_, _, _, hkn⟩ := hk.form
  unfold maxLen at hkn
  generalize kindB 7 it tx kids keys ents = r at HK ⊢
  by_cases hn : kids.length = 2
  case neg =>
    have hq : ((kids.length : Int) == 2) = false := by rw [beq_eq_false_iff_ne]; omega
    have HU : Hid (r = false) := Lib.hid (by rw [HK.out]; exact consB_len hn)
    clear hk hn
    go_enter Tryz.func116, Tryz.ntmps116
    go_wp2
    go_ret
    exact ⟨ret_bool HU.out.symm, (Below.refl _ _).alloc (Nat.le_refl _) _⟩
  obtain ⟨x, y, rfl⟩ : ∃ x y, kids = [x, y] := by
    match kids, hn with
    | [x, y], _ => exact ⟨x, y, rfl⟩
  have HR : Hid (r = (decide (kindOf y = 5) || decide (kindOf y = 7))) := HK
  obtain ⟨b, off, cap0, x0, x1, x2, x3, x4, x5, x6, hu, hbH, ⟨x', hx, hv⟩, c0, -, -, -, -, -, -⟩ := hk.at7 (show 1 < [x, y].length by simp)
  simp only [List.getElem?_cons_succ, List.getElem?_cons_zero, Option.some.injEq] at hx
  subst hx
  have hkd := kind_cell hv
  simp only [List.getElem?_cons_zero, Option.some.injEq] at hkd
  subst hkd
  injection hu with hA _ hcap
  subst hA hcap
  generalize kindOf y = q at c0 HR
  have g0 : (w.alloc (.cells #[.int .i64 7, .int .i64 it, .string ⟨tx.toArray⟩, .slice (some ⟨b, off, none⟩) 2 c, .slice Y keys.length cy, .slice E ents.length ce, .slice L nl cl] 27)).cell? ⟨b, off + 7, none⟩ = some (.int .i64 q) := (((Below.refl w.heap.size w).alloc (Nat.le_refl _) _).cell (p := ⟨b, off + 7, none⟩) hbH).trans (by simpa using c0)
  clear hk hv c0 HK hn hkn
  by_cases h5 : q = 5
  · subst h5
    have HU : Hid (r = true) := Lib.hid (by rw [HR.out]; rfl)
    clear HR
    go_enter Tryz.func116, Tryz.ntmps116
    go_wp2
    go_ret
    exact ⟨ret_bool HU.out.symm, (Below.refl _ _).alloc (Nat.le_refl _) _⟩
  · have hq5 : (q == 5) = false := by rw [beq_eq_false_iff_ne]; exact h5
    have HU : Hid (r = (q == 7)) := Lib.hid (by rw [HR.out]; by_cases h7 : q = 7 <;> simp [h5, h7])
    clear HR h5
    go_enter Tryz.func116, Tryz.ntmps116
    go_wp2
    go_ret
    exact ⟨ret_bool HU.out.symm, (Below.refl _ _).alloc (Nat.le_refl _) _⟩
set_option maxRecDepth 100000 in
set_option maxHeartbeats 1600000 in
theorem form8_any (it : Int) (tx : List UInt8) (kids : List Vl) (keys : List (Int × List UInt8)) (ents : List En) (A Y E L : Option Addr) (c cy ce nl cl : Nat) (w : World) (hy : RowP w w.heap.size 2 (.slice Y keys.length cy) keys.length (fun j cs => ∃ x, keys[j]? = some x ∧ cs = [.int .i64 x.1, .string ⟨x.2.toArray⟩] ∧ (Lit.int .i64 x.1).wf = true ∧ x.2.length ≤ maxLen)) : Calls Tryz.prog 116 #[.agg #[.int .i64 8, .int .i64 it, .string ⟨tx.toArray⟩, .slice A kids.length c, .slice Y keys.length cy, .slice E ents.length ce, .slice L nl cl]] w fun e w' => e = .returned (.bool (kindB 8 it tx kids keys ents)) ∧ Below w.heap.size w w' := by
  have HK : Hid (kindB 8 it tx kids keys ents = (keys.all (fun x => keyB x.1 x.2) && decide (AscC cmpK keys) && decide (keys.length = kids.length))) := Lib.hid (by simp [kindB])
  obtain ⟨_, _, _, hyn⟩ := hy.form
  unfold maxLen at hyn
  have egv := enters_of Tryz.func55 (by kernel_rfl) rfl
  obtain ⟨W, hW⟩ : ∃ W, W = w.alloc (.cells #[.int .i64 8, .int .i64 it, .string ⟨tx.toArray⟩, .slice A kids.length c, .slice Y keys.length cy, .slice E ents.length ce, .slice L nl cl] 27) := ⟨_, rfl⟩
  have hbb : Below w.heap.size w W := by rw [hW]; exact (Below.refl _ _).alloc (Nat.le_refl _) _
  have hzz : w.heap.size < W.heap.size := by rw [hW]; simp
  have q0 : W.cell? ⟨w.heap.size, 0, none⟩ = some (.int .i64 8) := by rw [hW]; simp
  have q1 : W.cell? ⟨w.heap.size, 1, none⟩ = some (.int .i64 it) := by rw [hW]; simp
  have q2 : W.cell? ⟨w.heap.size, 2, none⟩ = some (.string ⟨tx.toArray⟩) := by rw [hW]; simp
  have q3 : W.cell? ⟨w.heap.size, 3, none⟩ = some (.slice A kids.length c) := by rw [hW]; simp
  have q4 : W.cell? ⟨w.heap.size, 4, none⟩ = some (.slice Y keys.length cy) := by rw [hW]; simp
  have q5 : W.cell? ⟨w.heap.size, 5, none⟩ = some (.slice E ents.length ce) := by rw [hW]; simp
  have q6 : W.cell? ⟨w.heap.size, 6, none⟩ = some (.slice L nl cl) := by rw [hW]; simp
  have HB := Lib.hid hbb
  have h1 : Hid (∀ V, Below w.heap.size w V → Calls Tryz.prog 54 #[.slice Y keys.length cy, .func (.func 55) #[] #[]] V fun e w' => e = .returned (.bool (keys.all fun x => keyB x.1 x.2)) ∧ Below V.heap.size V w') := Lib.hid fun V hV => all2 _ egv (fun x => keyB x.1 x.2) Y cy keys V (Lib.hid fun x U hx => validKeyL_any x U hx.2) ((hy.on hV fun _ _ h => h).mono hV.size fun _ _ h => h)
  have h2 : Hid (∀ V, Below w.heap.size w V → Calls Tryz.prog 57 #[.slice Y keys.length cy, .func (.func 58) #[] #[]] V fun e w' => e = .returned (.bool (decide (AscC cmpK keys))) ∧ Below V.heap.size V w') := Lib.hid fun V hV => asc2 Y cy keys V ((hy.on hV fun _ _ h => h).mono hV.size fun _ _ h => h)
  clear hy hbb egv
  generalize kindB 8 it tx kids keys ents = r at HK ⊢
  generalize (keys.all fun x => keyB x.1 x.2) = z1 at h1 HK
  generalize decide (AscC cmpK keys) = z2 at h2 HK
  by_cases hn : keys.length = kids.length
  case neg =>
    have hq : ((keys.length : Int) == (kids.length : Int)) = false := by rw [beq_eq_false_iff_ne]; omega
    have HU : Hid (r = false) := Lib.hid (by rw [HK.out]; simp [hn])
    clear hn
    go_enter Tryz.func116, Tryz.ntmps116
    go_wp2_with fail
    rw [← hW]
    clear hW
    go_wp2
    go_ret
    exact ⟨ret_bool HU.out.symm, HB.out⟩
  have hq : ((keys.length : Int) == (kids.length : Int)) = true := by rw [beq_iff_eq]; omega
  have HR : Hid (r = (z1 && z2)) := Lib.hid (by rw [HK.out]; simp [hn])
  have HN := Lib.hid hn
  clear hn HK
  go_enter Tryz.func116, Tryz.ntmps116
  go_wp2_with fail
  rw [← hW]
  clear hW
  go_wp2_with (go_at_call 54; refine (h1.out _ HB.out).mono ?_; rintro e w1 ⟨rfl, hb1⟩; refine Hid.out ?_)
  refine Lib.hid ?_
  have q4' : w1.cell? ⟨w.heap.size, 4, none⟩ = some (.slice Y keys.length cy) := (hb1.cell (p := ⟨_, 4, none⟩) hzz).trans q4
  have HB1 := Lib.hid (HB.out.trans (hb1.mono HB.out.size))
  clear hb1 q0 q1 q2 q3 q4 q5 q6
  cases z1
  · have HU : Hid (r = false) := Lib.hid (by rw [HR.out]; rfl)
    go_wp2
    go_ret
    exact ⟨ret_bool HU.out.symm, HB1.out⟩
  · have HU : Hid (r = z2) := Lib.hid (by rw [HR.out]; rfl)
    go_wp2_with (go_at_call 57; refine (h2.out _ HB1.out).mono ?_; rintro e w2 ⟨rfl, hb2⟩; refine Hid.out ?_)
    refine Lib.hid ?_
    go_wp2
    go_ret
    exact ⟨ret_bool HU.out.symm, HB1.out.trans (hb2.mono HB1.out.size)⟩
set_option maxRecDepth 100000 in
set_option maxHeartbeats 1600000 in
theorem form9_any (k : Nat) (it : Int) (tx : List UInt8) (kids : List Vl) (keys : List (Int × List UInt8)) (ents : List En) (A Y E L : Option Addr) (c cy ce nl cl : Nat) (w : World) (he : RowP w w.heap.size 9 (.slice E ents.length ce) ents.length (fun j cs => ∃ x, ents[j]? = some x ∧ ES (k + 1) w w.heap.size x cs)) : Calls Tryz.prog 116 #[.agg #[.int .i64 9, .int .i64 it, .string ⟨tx.toArray⟩, .slice A kids.length c, .slice Y keys.length cy, .slice E ents.length ce, .slice L nl cl]] w fun e w' => e = .returned (.bool (kindB 9 it tx kids keys ents)) ∧ Below w.heap.size w w' := by
  have HK : Hid (kindB 9 it tx kids keys ents = (decide (0 ≤ it ∧ it ≤ 4) && ents.all (entB it) && decide (AscC cmpE ents))) := Lib.hid (by simp [kindB])
  have egv := enters_of Tryz.func138 (by kernel_rfl) rfl
  obtain ⟨W, hW⟩ : ∃ W, W = w.alloc (.cells #[.int .i64 9, .int .i64 it, .string ⟨tx.toArray⟩, .slice A kids.length c, .slice Y keys.length cy, .slice E ents.length ce, .slice L nl cl] 27) := ⟨_, rfl⟩
  have hbb : Below w.heap.size w W := by rw [hW]; exact (Below.refl _ _).alloc (Nat.le_refl _) _
  have hzz : w.heap.size < W.heap.size := by rw [hW]; simp
  have q0 : W.cell? ⟨w.heap.size, 0, none⟩ = some (.int .i64 9) := by rw [hW]; simp
  have q1 : W.cell? ⟨w.heap.size, 1, none⟩ = some (.int .i64 it) := by rw [hW]; simp
  have q2 : W.cell? ⟨w.heap.size, 2, none⟩ = some (.string ⟨tx.toArray⟩) := by rw [hW]; simp
  have q3 : W.cell? ⟨w.heap.size, 3, none⟩ = some (.slice A kids.length c) := by rw [hW]; simp
  have q4 : W.cell? ⟨w.heap.size, 4, none⟩ = some (.slice Y keys.length cy) := by rw [hW]; simp
  have q5 : W.cell? ⟨w.heap.size, 5, none⟩ = some (.slice E ents.length ce) := by rw [hW]; simp
  have q6 : W.cell? ⟨w.heap.size, 6, none⟩ = some (.slice L nl cl) := by rw [hW]; simp
  have HB := Lib.hid hbb
  have hP : Hid (∀ (a b : En) (ca cb : List Value) (w : World), ES (k + 1) w w.heap.size a ca → ES (k + 1) w w.heap.size b cb → Calls Tryz.prog 104 #[.agg ca.toArray, .agg cb.toArray] w fun e w' => e = .returned (.int .i64 (cmpE a b)) ∧ Below w.heap.size w w') := Lib.hid fun a b ca cb w h1 h2 => entP_any (k + 1) (Lib.hid fun a b ca cb w h1 h2 => compareP_any (k + 1) a b ca cb w h1 h2) a b ca cb w h1 h2
  have h1 : Hid (∀ V, Below W.heap.size W V → Calls Tryz.prog 65 #[.slice E ents.length ce, .func (.func 138) #[] #[.pointer (some ⟨w.heap.size, 0, none⟩)]] V fun e w' => e = .returned (.bool (ents.all (entB it))) ∧ Below V.heap.size V w') := Lib.hid fun V hV => by
    have hwV := hbb.trans (hV.mono hbb.size)
    exact all9c (k + 1) _ egv _ (entB it) E ce ents V (Lib.hid fun e cs U hU he' => fitsC_any k e cs it w.heap.size U he' (Nat.lt_of_lt_of_le hzz (Nat.le_trans hV.size hU.size)) (((hV.trans (hU.mono hV.size)).cell (p := ⟨w.heap.size, 1, none⟩) hzz).trans q1)) ((he.on hwV fun _ _ ⟨x, h1, h2⟩ => ⟨x, h1, ES.up hwV.size (Nat.le_refl _) (ES.on hwV h2)⟩).mono hwV.size fun _ _ h => h)
  have h2 : Hid (∀ V, Below w.heap.size w V → Calls Tryz.prog 139 #[.slice E ents.length ce, .func (.func 104) #[] #[]] V fun e w' => e = .returned (.bool (decide (AscC cmpE ents))) ∧ Below V.heap.size V w') := Lib.hid fun V hV => asc9 (k + 1) hP E ce ents V ((he.on hV fun _ _ ⟨x, h1, h2⟩ => ⟨x, h1, ES.up hV.size (Nat.le_refl _) (ES.on hV h2)⟩).mono hV.size fun _ _ h => h)
  have h0 := validArity_any it
  have HB0 := Lib.hid (Below.refl W.heap.size W)
  clear he hbb egv hP
  generalize kindB 9 it tx kids keys ents = r at HK ⊢
  generalize decide (0 ≤ it ∧ it ≤ 4) = z0 at h0 HK
  generalize ents.all (entB it) = z1 at h1 HK
  generalize decide (AscC cmpE ents) = z2 at h2 HK
  have hmf : ∀ (fn : Fn) (first cap : Array Value) (w : World), (Instr.makeFunc fn first cap).run Tryz.prog w = .ok (.func fn first cap) w := fun _ _ _ _ => rfl
  go_enter Tryz.func116, Tryz.ntmps116
  go_wp2_with fail
  rw [← hW]
  clear hW
  go_wp2_with (go_at_call 64; refine (h0 _).mono ?_; rintro e w1 ⟨rfl, rfl⟩; refine Hid.out ?_)
  refine Lib.hid ?_
  cases z0
  · have HU : Hid (r = false) := Lib.hid (by rw [HK.out]; rfl)
    go_wp2
    go_ret
    exact ⟨ret_bool HU.out.symm, HB.out⟩
  go_wp2_with (go_at_call 65; refine (h1.out _ HB0.out).mono ?_; rintro e w1 ⟨rfl, hb1⟩; refine Hid.out ?_)
  refine Lib.hid ?_
  have q5' : w1.cell? ⟨w.heap.size, 5, none⟩ = some (.slice E ents.length ce) := (hb1.cell (p := ⟨_, 5, none⟩) hzz).trans q5
  have HB1 := Lib.hid (HB.out.trans (hb1.mono HB.out.size))
  clear hb1 q0 q1 q2 q3 q4 q5 q6
  cases z1
  · have HU : Hid (r = false) := Lib.hid (by rw [HK.out]; rfl)
    go_wp2
    go_ret
    exact ⟨ret_bool HU.out.symm, HB1.out⟩
  · have HU : Hid (r = z2) := Lib.hid (by rw [HK.out]; rfl)
    go_wp2_with (go_at_call 139; refine (h2.out _ HB1.out).mono ?_; rintro e w2 ⟨rfl, hb2⟩; refine Hid.out ?_)
    refine Lib.hid ?_
    go_wp2
    go_ret
    exact ⟨ret_bool HU.out.symm, HB1.out.trans (hb2.mono HB1.out.size)⟩
set_option maxRecDepth 100000 in
set_option maxHeartbeats 1600000 in
theorem formX_any (kd : Int) (it : Int) (tx : List UInt8) (kids : List Vl) (keys : List (Int × List UInt8)) (ents : List En) (A Y E L : Option Addr) (c cy ce nl cl : Nat) (w : World) (h1 : kd ≠ 1) (h5 : kd ≠ 5) (h2 : kd ≠ 2) (h3 : kd ≠ 3) (h4 : kd ≠ 4) (h6 : kd ≠ 6) (h7 : kd ≠ 7) (h8 : kd ≠ 8) (h9 : kd ≠ 9) : Calls Tryz.prog 116 #[.agg #[.int .i64 kd, .int .i64 it, .string ⟨tx.toArray⟩, .slice A kids.length c, .slice Y keys.length cy, .slice E ents.length ce, .slice L nl cl]] w fun e w' => e = .returned (.bool (kindB kd it tx kids keys ents)) ∧ Below w.heap.size w w' := by
  have HK : Hid (kindB kd it tx kids keys ents = false) := Lib.hid (by simp [kindB, h1, h5, h2, h3, h4, h6, h7, h8, h9])
  have q1 : (kd == 1) = false := by rw [beq_eq_false_iff_ne]; exact h1
  have q5 : (kd == 5) = false := by rw [beq_eq_false_iff_ne]; exact h5
  have q2 : (kd == 2) = false := by rw [beq_eq_false_iff_ne]; exact h2
  have q3 : (kd == 3) = false := by rw [beq_eq_false_iff_ne]; exact h3
  have q4 : (kd == 4) = false := by rw [beq_eq_false_iff_ne]; exact h4
  have q6 : (kd == 6) = false := by rw [beq_eq_false_iff_ne]; exact h6
  have q7 : (kd == 7) = false := by rw [beq_eq_false_iff_ne]; exact h7
  have q8 : (kd == 8) = false := by rw [beq_eq_false_iff_ne]; exact h8
  have q9 : (kd == 9) = false := by rw [beq_eq_false_iff_ne]; exact h9
  generalize kindB kd it tx kids keys ents = r at HK ⊢
  clear h1 h5 h2 h3 h4 h6 h7 h8 h9
  go_enter Tryz.func116, Tryz.ntmps116
  go_wp2
  go_ret
  exact ⟨ret_bool HK.out.symm, (Below.refl _ _).alloc (Nat.le_refl _) _⟩
theorem form_any (kd : Int) (k : Nat) (it : Int) (tx : List UInt8) (kids : List Vl) (keys : List (Int × List UInt8)) (ents : List En) (A Y E L : Option Addr) (c cy ce nl cl : Nat) (w : World) (ht : tx.length ≤ maxLen) (hk : RowP w w.heap.size 7 (.slice A kids.length c) kids.length (fun j cs => ∃ x, kids[j]? = some x ∧ VS k w w.heap.size x cs)) (hy : RowP w w.heap.size 2 (.slice Y keys.length cy) keys.length (fun j cs => ∃ x, keys[j]? = some x ∧ cs = [.int .i64 x.1, .string ⟨x.2.toArray⟩] ∧ (Lit.int .i64 x.1).wf = true ∧ x.2.length ≤ maxLen)) (he : RowP w w.heap.size 9 (.slice E ents.length ce) ents.length (fun j cs => ∃ x, ents[j]? = some x ∧ ES (k + 1) w w.heap.size x cs)) : Calls Tryz.prog 116 #[.agg #[.int .i64 kd, .int .i64 it, .string ⟨tx.toArray⟩, .slice A kids.length c, .slice Y keys.length cy, .slice E ents.length ce, .slice L nl cl]] w fun e w' => e = .returned (.bool (kindB kd it tx kids keys ents)) ∧ Below w.heap.size w w' := by
  obtain ⟨_, _, _, hkn⟩ := hk.form
  by_cases h1 : kd = 1
  · subst h1
    exact form1_any it tx kids keys ents A Y E L c cy ce nl cl w
  by_cases h5 : kd = 5
  · subst h5
    exact form5_any it tx kids keys ents A Y E L c cy ce nl cl w
  by_cases h2 : kd = 2
  · subst h2
    exact form2_any it tx kids keys ents A Y E L c cy ce nl cl w ht
  by_cases h3 : kd = 3
  · subst h3
    exact form3_any it tx kids keys ents A Y E L c cy ce nl cl w ht
  by_cases h4 : kd = 4
  · subst h4
    exact form4_any it tx kids keys ents A Y E L c cy ce nl cl w
  by_cases h6 : kd = 6
  · subst h6
    exact form6_any it tx kids keys ents A Y E L c cy ce nl cl w hkn
  by_cases h7 : kd = 7
  · subst h7
    exact form7_any k it tx kids keys ents A Y E L c cy ce nl cl w hk
  by_cases h8 : kd = 8
  · subst h8
    exact form8_any it tx kids keys ents A Y E L c cy ce nl cl w hy
  by_cases h9 : kd = 9
  · subst h9
    exact form9_any k it tx kids keys ents A Y E L c cy ce nl cl w he
  exact formX_any kd it tx kids keys ents A Y E L c cy ce nl cl w h1 h5 h2 h3 h4 h6 h7 h8 h9
end Go.Proofs.YtjfknigiehggkaaGreat
