/- What the program's comparisons of lists and of the plain fields of values return. -/
import Derived.Test.YtcjgaohblaidjaaGreatDoorVb01
import Derived.Test.YtcjgaohblaidjaaGreatDoorVb02
import Derived.Test.YtcjgaohblaidjaaGreatDoorVb03
import Derived.Test.YtcjgaohblaidjaaGreatDoorVb05
import Derived.Deep.LoopGhost
import Derived.Test.YtcjgaohblaidjaaGreatDoorVbShelf
import Derived.WalkLawsBesides
import Derived.Lib.AppendIntMem
namespace Go.Proofs.YtcjgaohblaidjaaGreatDoor
open Go Go.RowKit
set_option maxRecDepth 100000 in
set_option maxHeartbeats 1600000 in
theorem cmpls7 (k : Nat) (hP : Hid (∀ (a b : Vl) (ca cb : List Value) (w : World), VS k w w.heap.size a ca → VS k w w.heap.size b cb → Calls Tryz.prog 170 #[.agg ca.toArray, .agg cb.toArray] w fun e w' => e = .returned (.int .i64 (cmpV a b)) ∧ Below w.heap.size w w')) (A A' : Option Addr) (c c' : Nat) (l m : List (Vl)) (w : World) (hl : RowP w w.heap.size 7 (.slice A l.length c) l.length (fun j cs => ∃ x, l[j]? = some x ∧ VS k w w.heap.size x cs))
  (hm : RowP w w.heap.size 7 (.slice A' m.length c') m.length (fun j cs => ∃ x, m[j]? = some x ∧ VS k w w.heap.size x cs)) :
  Calls Tryz.prog 169 #[.slice A l.length c, .slice A' m.length c', .func (.func 170) #[] #[]] w fun e w' => e = .returned (.int .i64 (thn (cmpI l.length m.length) (cmpL cmpV l m))) ∧ Below w.heap.size w w' := by
 by_cases he : l.length = m.length
 ·
  have hc := cmpf7 k hP A A' c c' l m w hl hm he
  have hz : cmpI l.length m.length = 0 := cmpI_zero.2 (by omega)
  have HT : Hid (thn (cmpI l.length m.length) (cmpL cmpV l m) = cmpL cmpV l m) := Lib.hid (by rw [hz]; rfl)
  have hq : (cmpI l.length m.length != 0) = false := by rw [bne_eq_false_iff_eq]; exact hz
  clear hl hm he
  have hi := cmpInt_any l.length m.length w
  generalize cmpI (l.length : Int) (m.length : Int) = z at hz hq HT hi
  generalize cmpL cmpV l m = y at hc HT
  subst hz
  go_enter Tryz.func169, Tryz.ntmps169
  go_wp2_with (go_at_call 167; refine hi.mono ?_; rintro e w1 ⟨rfl, rfl⟩; refine Hid.out ?_)
  refine Lib.hid ?_
  go_wp2_with (go_at_call 180; refine hc.mono ?_; rintro e w2 ⟨rfl, hb⟩; refine Hid.out ?_)
  refine Lib.hid ?_
  go_wp2
  go_ret
  exact ⟨ret_i HT.out.symm, hb⟩
 ·
  have hz : cmpI l.length m.length ≠ 0 := fun h => he (by have := cmpI_zero.1 h; omega)
  have HT : Hid (thn (cmpI l.length m.length) (cmpL cmpV l m) = cmpI l.length m.length) := Lib.hid (thn_of hz _)
  have hq : (cmpI l.length m.length != 0) = true := by rw [bne_iff_ne]; exact hz
  clear hl hm he
  have hi := cmpInt_any l.length m.length w
  generalize cmpI (l.length : Int) (m.length : Int) = z at hz hq HT hi
  clear hz
  go_enter Tryz.func169, Tryz.ntmps169
  go_wp2_with (go_at_call 167; refine hi.mono ?_; rintro e w1 ⟨rfl, rfl⟩; refine Hid.out ?_)
  refine Lib.hid ?_
  go_wp2
  go_ret
  exact ⟨ret_i HT.out.symm, Below.refl _ _⟩
set_option maxRecDepth 100000 in
set_option maxHeartbeats 1600000 in
theorem cmpls9 (k : Nat) (hP : Hid (∀ (a b : En) (ca cb : List Value) (w : World), ES k w w.heap.size a ca → ES k w w.heap.size b cb → Calls Tryz.prog 150 #[.agg ca.toArray, .agg cb.toArray] w fun e w' => e = .returned (.int .i64 (cmpE a b)) ∧ Below w.heap.size w w')) (A A' : Option Addr) (c c' : Nat) (l m : List (En)) (w : World) (hl : RowP w w.heap.size 9 (.slice A l.length c) l.length (fun j cs => ∃ x, l[j]? = some x ∧ ES k w w.heap.size x cs))
  (hm : RowP w w.heap.size 9 (.slice A' m.length c') m.length (fun j cs => ∃ x, m[j]? = some x ∧ ES k w w.heap.size x cs)) :
  Calls Tryz.prog 191 #[.slice A l.length c, .slice A' m.length c', .func (.func 150) #[] #[]] w fun e w' => e = .returned (.int .i64 (thn (cmpI l.length m.length) (cmpL cmpE l m))) ∧ Below w.heap.size w w' := by
 by_cases he : l.length = m.length
 ·
  have hc := cmpf9 k hP A A' c c' l m w hl hm he
  have hz : cmpI l.length m.length = 0 := cmpI_zero.2 (by omega)
  have HT : Hid (thn (cmpI l.length m.length) (cmpL cmpE l m) = cmpL cmpE l m) := Lib.hid (by rw [hz]; rfl)
  have hq : (cmpI l.length m.length != 0) = false := by rw [bne_eq_false_iff_eq]; exact hz
  clear hl hm he
  have hi := cmpInt_any l.length m.length w
  generalize cmpI (l.length : Int) (m.length : Int) = z at hz hq HT hi
  generalize cmpL cmpE l m = y at hc HT
  subst hz
  go_enter Tryz.func191, Tryz.ntmps191
  go_wp2_with (go_at_call 167; refine hi.mono ?_; rintro e w1 ⟨rfl, rfl⟩; refine Hid.out ?_)
  refine Lib.hid ?_
  go_wp2_with (go_at_call 197; refine hc.mono ?_; rintro e w2 ⟨rfl, hb⟩; refine Hid.out ?_)
  refine Lib.hid ?_
  go_wp2
  go_ret
  exact ⟨ret_i HT.out.symm, hb⟩
 ·
  have hz : cmpI l.length m.length ≠ 0 := fun h => he (by have := cmpI_zero.1 h; omega)
  have HT : Hid (thn (cmpI l.length m.length) (cmpL cmpE l m) = cmpI l.length m.length) := Lib.hid (thn_of hz _)
  have hq : (cmpI l.length m.length != 0) = true := by rw [bne_iff_ne]; exact hz
  clear hl hm he
  have hi := cmpInt_any l.length m.length w
  generalize cmpI (l.length : Int) (m.length : Int) = z at hz hq HT hi
  clear hz
  go_enter Tryz.func191, Tryz.ntmps191
  go_wp2_with (go_at_call 167; refine hi.mono ?_; rintro e w1 ⟨rfl, rfl⟩; refine Hid.out ?_)
  refine Lib.hid ?_
  go_wp2
  go_ret
  exact ⟨ret_i HT.out.symm, Below.refl _ _⟩
set_option maxRecDepth 100000 in
set_option maxHeartbeats 1600000 in
theorem cmpls2 (A A' : Option Addr) (c c' : Nat) (l m : List (Int × List UInt8)) (w : World) (hl : RowP w w.heap.size 2 (.slice A l.length c) l.length (fun j cs => ∃ x, l[j]? = some x ∧ cs = [.int .i64 x.1, .string ⟨x.2.toArray⟩] ∧ (Lit.int .i64 x.1).wf = true ∧ x.2.length ≤ maxLen))
  (hm : RowP w w.heap.size 2 (.slice A' m.length c') m.length (fun j cs => ∃ x, m[j]? = some x ∧ cs = [.int .i64 x.1, .string ⟨x.2.toArray⟩] ∧ (Lit.int .i64 x.1).wf = true ∧ x.2.length ≤ maxLen)) :
  Calls Tryz.prog 190 #[.slice A l.length c, .slice A' m.length c', .func (.func 145) #[] #[]] w fun e w' => e = .returned (.int .i64 (thn (cmpI l.length m.length) (cmpL cmpK l m))) ∧ Below w.heap.size w w' := by
 by_cases he : l.length = m.length
 ·
  have hc := cmpf2 A A' c c' l m w hl hm he
  have hz : cmpI l.length m.length = 0 := cmpI_zero.2 (by omega)
  have HT : Hid (thn (cmpI l.length m.length) (cmpL cmpK l m) = cmpL cmpK l m) := Lib.hid (by rw [hz]; rfl)
  have hq : (cmpI l.length m.length != 0) = false := by rw [bne_eq_false_iff_eq]; exact hz
  clear hl hm he
  have hi := cmpInt_any l.length m.length w
  generalize cmpI (l.length : Int) (m.length : Int) = z at hz hq HT hi
  generalize cmpL cmpK l m = y at hc HT
  subst hz
  go_enter Tryz.func190, Tryz.ntmps190
  go_wp2_with (go_at_call 167; refine hi.mono ?_; rintro e w1 ⟨rfl, rfl⟩; refine Hid.out ?_)
  refine Lib.hid ?_
  go_wp2_with (go_at_call 196; refine hc.mono ?_; rintro e w2 ⟨rfl, hb⟩; refine Hid.out ?_)
  refine Lib.hid ?_
  go_wp2
  go_ret
  exact ⟨ret_i HT.out.symm, hb⟩
 ·
  have hz : cmpI l.length m.length ≠ 0 := fun h => he (by have := cmpI_zero.1 h; omega)
  have HT : Hid (thn (cmpI l.length m.length) (cmpL cmpK l m) = cmpI l.length m.length) := Lib.hid (thn_of hz _)
  have hq : (cmpI l.length m.length != 0) = true := by rw [bne_iff_ne]; exact hz
  clear hl hm he
  have hi := cmpInt_any l.length m.length w
  generalize cmpI (l.length : Int) (m.length : Int) = z at hz hq HT hi
  clear hz
  go_enter Tryz.func190, Tryz.ntmps190
  go_wp2_with (go_at_call 167; refine hi.mono ?_; rintro e w1 ⟨rfl, rfl⟩; refine Hid.out ?_)
  refine Lib.hid ?_
  go_wp2
  go_ret
  exact ⟨ret_i HT.out.symm, Below.refl _ _⟩
set_option maxRecDepth 100000 in
set_option maxHeartbeats 1600000 in
theorem cmpls1 (A A' : Option Addr) (c c' : Nat) (l m : List (List UInt8)) (w : World) (hl : RowP w w.heap.size 1 (.slice A l.length c) l.length (fun j cs => ∃ x, l[j]? = some x ∧ cs = [.string ⟨x.toArray⟩] ∧ x.length ≤ maxLen))
  (hm : RowP w w.heap.size 1 (.slice A' m.length c') m.length (fun j cs => ∃ x, m[j]? = some x ∧ cs = [.string ⟨x.toArray⟩] ∧ x.length ≤ maxLen)) :
  Calls Tryz.prog 192 #[.slice A l.length c, .slice A' m.length c', .func (.func 112) #[] #[]] w fun e w' => e = .returned (.int .i64 (thn (cmpI l.length m.length) (cmpL cmpT l m))) ∧ Below w.heap.size w w' := by
 by_cases he : l.length = m.length
 ·
  have hc := cmpf1 A A' c c' l m w hl hm he
  have hz : cmpI l.length m.length = 0 := cmpI_zero.2 (by omega)
  have HT : Hid (thn (cmpI l.length m.length) (cmpL cmpT l m) = cmpL cmpT l m) := Lib.hid (by rw [hz]; rfl)
  have hq : (cmpI l.length m.length != 0) = false := by rw [bne_eq_false_iff_eq]; exact hz
  clear hl hm he
  have hi := cmpInt_any l.length m.length w
  generalize cmpI (l.length : Int) (m.length : Int) = z at hz hq HT hi
  generalize cmpL cmpT l m = y at hc HT
  subst hz
  go_enter Tryz.func192, Tryz.ntmps192
  go_wp2_with (go_at_call 167; refine hi.mono ?_; rintro e w1 ⟨rfl, rfl⟩; refine Hid.out ?_)
  refine Lib.hid ?_
  go_wp2_with (go_at_call 198; refine hc.mono ?_; rintro e w2 ⟨rfl, hb⟩; refine Hid.out ?_)
  refine Lib.hid ?_
  go_wp2
  go_ret
  exact ⟨ret_i HT.out.symm, hb⟩
 ·
  have hz : cmpI l.length m.length ≠ 0 := fun h => he (by have := cmpI_zero.1 h; omega)
  have HT : Hid (thn (cmpI l.length m.length) (cmpL cmpT l m) = cmpI l.length m.length) := Lib.hid (thn_of hz _)
  have hq : (cmpI l.length m.length != 0) = true := by rw [bne_iff_ne]; exact hz
  clear hl hm he
  have hi := cmpInt_any l.length m.length w
  generalize cmpI (l.length : Int) (m.length : Int) = z at hz hq HT hi
  clear hz
  go_enter Tryz.func192, Tryz.ntmps192
  go_wp2_with (go_at_call 167; refine hi.mono ?_; rintro e w1 ⟨rfl, rfl⟩; refine Hid.out ?_)
  refine Lib.hid ?_
  go_wp2
  go_ret
  exact ⟨ret_i HT.out.symm, Below.refl _ _⟩
set_option maxHeartbeats 1600000 in
theorem cmpOwn_any (k i : Int) (t : List UInt8) (A1 A2 A3 A4 : Option Addr) (n1 c1 n2 c2 n3 c3 n4 c4 : Nat) (k' i' : Int) (t' : List UInt8) (A1' A2' A3' A4' : Option Addr) (n1' c1' n2' c2' n3' c3' n4' c4' : Nat) (w : World) :
  Calls Tryz.prog 189 #[.agg #[.int .i64 k, .int .i64 i, .string ⟨t.toArray⟩, .slice A1 n1 c1, .slice A2 n2 c2, .slice A3 n3 c3, .slice A4 n4 c4], .agg #[.int .i64 k', .int .i64 i', .string ⟨t'.toArray⟩, .slice A1' n1' c1', .slice A2' n2' c2', .slice A3' n3' c3', .slice A4' n4' c4']] w fun e w' => e = .returned (.int .i64 (thn (cmpI k k') (thn (cmpI i i') (cmpT t t')))) ∧ Below w.heap.size w w' := by
 have hk := fun W => cmpInt_any k k' W
 have hi := fun W => cmpInt64_any i i' W
 have ht : ∀ W, Calls Tryz.prog 112 #[.string ⟨t.toArray⟩, .string ⟨t'.toArray⟩] W fun e w' => e = .returned (.int .i64 (cmpT t t')) ∧ w' = W := fun W => strCmp_any ⟨t.toArray⟩ ⟨t'.toArray⟩ W
 generalize cmpI k k' = x at hk ⊢
 generalize cmpI i i' = y at hi ⊢
 generalize cmpT t t' = z at ht ⊢
 by_cases hx : x = 0
 ·
  subst hx
  by_cases hy : y = 0
  ·
   subst hy
   go_enter Tryz.func189, Tryz.ntmps189
   go_wp2_with (first | (go_at_call 167; refine (hk _).mono ?_; rintro e w' ⟨rfl, rfl⟩) | (go_at_call 195; refine (hi _).mono ?_; rintro e w' ⟨rfl, rfl⟩) | (go_at_call 112; refine (ht _).mono ?_; rintro e w' ⟨rfl, rfl⟩))
   go_ret
   exact ⟨rfl, ((Below.refl _ _).alloc (Nat.le_refl _) _).alloc (by simp) _⟩
  ·
   have hq : (y != 0) = true := by rw [bne_iff_ne]; exact hy
   have HT : Hid (thn 0 (thn y z) = y) := Lib.hid (by rw [thn_of hy]; rfl)
   clear hy
   go_enter Tryz.func189, Tryz.ntmps189
   go_wp2_with (first | (go_at_call 167; refine (hk _).mono ?_; rintro e w' ⟨rfl, rfl⟩) | (go_at_call 195; refine (hi _).mono ?_; rintro e w' ⟨rfl, rfl⟩) | (go_at_call 112; refine (ht _).mono ?_; rintro e w' ⟨rfl, rfl⟩))
   go_ret
   exact ⟨ret_i HT.out.symm, ((Below.refl _ _).alloc (Nat.le_refl _) _).alloc (by simp) _⟩
 ·
  have hq : (x != 0) = true := by rw [bne_iff_ne]; exact hx
  have HT : Hid (thn x (thn y z) = x) := Lib.hid (thn_of hx _)
  clear hx
  go_enter Tryz.func189, Tryz.ntmps189
  go_wp2_with (first | (go_at_call 167; refine (hk _).mono ?_; rintro e w' ⟨rfl, rfl⟩) | (go_at_call 195; refine (hi _).mono ?_; rintro e w' ⟨rfl, rfl⟩) | (go_at_call 112; refine (ht _).mono ?_; rintro e w' ⟨rfl, rfl⟩))
  go_ret
  exact ⟨ret_i HT.out.symm, ((Below.refl _ _).alloc (Nat.le_refl _) _).alloc (by simp) _⟩
end Go.Proofs.YtcjgaohblaidjaaGreatDoor
namespace Go.Proofs.YtcjgaohblaidjaaGreatDoor
open Go Go.RowKit
set_option maxRecDepth 100000 in
set_option maxHeartbeats 3200000 in
theorem entP_any (k : Nat) (hP : Hid (∀ (a b : Vl) (ca cb : List Value) (w : World), VS k w w.heap.size a ca → VS k w w.heap.size b cb → Calls Tryz.prog 170 #[.agg ca.toArray, .agg cb.toArray] w fun e w' => e = .returned (.int .i64 (cmpV a b)) ∧ Below w.heap.size w w'))
  (e e' : En) (cs cs' : List Value) (w : World) (he : ES k w w.heap.size e cs) (he' : ES k w w.heap.size e' cs') :
  Calls Tryz.prog 150 #[.agg cs.toArray, .agg cs'.toArray] w fun r w' => r = .returned (.int .i64 (cmpE e e')) ∧ Below w.heap.size w w' := by
 obtain ⟨l, f, r, rfl, ua, rs, rfl, hl, hr⟩ := he
 obtain ⟨m, f', r', rfl, ua', rs', rfl, hm, hr'⟩ := he'
 obtain ⟨A, c, rfl, _⟩ := hl.form
 obtain ⟨A', c', rfl, _⟩ := hm.form
 obtain ⟨a1, i1, s1, B1, n1, d1, B2, n2, d2, B3, n3, d3, B4, n4, d4, rfl⟩ := hr.form7
 obtain ⟨a1', i1', s1', B1', n1', d1', B2', n2', d2', B3', n3', d3', B4', n4', d4', rfl⟩ := hr'.form7
 obtain ⟨W, hW⟩ : ∃ W, W = ((w.alloc (.cells #[.slice A l.length c, .bool f, .int .i64 a1, .int .i64 i1, .string s1, .slice B1 n1 d1, .slice B2 n2 d2, .slice B3 n3 d3, .slice B4 n4 d4] 45)).alloc (.cells #[.slice A' m.length c', .bool f', .int .i64 a1', .int .i64 i1', .string s1', .slice B1' n1' d1', .slice B2' n2' d2', .slice B3' n3' d3', .slice B4' n4' d4'] 45)) := ⟨_, rfl⟩
 have hb : Below w.heap.size w W := by rw [hW]; exact ((Below.refl _ _).alloc (Nat.le_refl _) _).alloc (by simp) _
 have hz : W.heap.size = w.heap.size + 2 := by rw [hW]; simp
 have k1 : W.heap[w.heap.size]? = some (.cells #[.slice A l.length c, .bool f, .int .i64 a1, .int .i64 i1, .string s1, .slice B1 n1 d1, .slice B2 n2 d2, .slice B3 n3 d3, .slice B4 n4 d4] 45 (0, 0)) := by
  rw [hW, Below.heap_alloc _ _ _ (by simp)]
  exact heap_alloc_new w _
 have k2 : W.heap[w.heap.size + 1]? = some (.cells #[.slice A' m.length c', .bool f', .int .i64 a1', .int .i64 i1', .string s1', .slice B1' n1' d1', .slice B2' n2' d2', .slice B3' n3' d3', .slice B4' n4' d4'] 45 (0, 0)) := by
  rw [hW]
  exact new_at' _ (by simp)
 have hv := cmpls7 k hP A A' c c' l m W ((hl.on hb fun _ _ ⟨x, h1, h2⟩ => ⟨x, h1, VS.up hb.size (Nat.le_refl _) (VS.on hb h2)⟩).mono hb.size fun _ _ h => h) ((hm.on hb fun _ _ ⟨x, h1, h2⟩ => ⟨x, h1, VS.up hb.size (Nat.le_refl _) (VS.on hb h2)⟩).mono hb.size fun _ _ h => h)
 have e0 : W.cell? ⟨w.heap.size, 0, none⟩ = some (.slice A l.length c) := (Lib.cell_of_heap k1 0).trans rfl
 have e1 : W.cell? ⟨w.heap.size + 1, 0, none⟩ = some (.slice A' m.length c') := (Lib.cell_of_heap k2 0).trans rfl
 have K1 := Lib.hid k1
 have K2 := Lib.hid k2
 have HB := Lib.hid hb
 rw [← cmpVs_L] at hv
 have HR := Lib.hid hr
 have HR' := Lib.hid hr'
 have HT : Hid (cmpE (.mk l f r) (.mk m f' r') = thn (thn (cmpI l.length m.length) (cmpVs l m)) (thn (cmpF f f') (cmpV r r'))) := Lib.hid (by rw [cmpE, thn_assoc])
 generalize thn (cmpI l.length m.length) (cmpVs l m) = z at hv HT
 clear hl hm hr hr' k1 k2 hb
 go_enter Tryz.func150, Tryz.ntmps150
 go_wp2_with fail
 rw [← hW]
 clear hW
 go_wp2_with (go_at_call 169; refine hv.mono ?_; rintro e w1 ⟨rfl, hb1⟩; refine Hid.out ?_)
 refine Lib.hid ?_
 have HB1 := Lib.hid (HB.out.trans (hb1.mono HB.out.size))
 clear hv e0 e1
 by_cases h0 : z = 0
 ·
  have q : (z != 0) = false := by rw [bne_eq_false_iff_eq]; exact h0
  have HU : Hid (cmpE (.mk l f r) (.mk m f' r') = thn (cmpF f f') (cmpV r r')) := Lib.hid (by rw [HT.out, h0]; rfl)
  have g1 : w1.cell? ⟨w.heap.size, 1, none⟩ = some (.bool f) := (hb1.cell (p := ⟨_, 1, none⟩) (by show w.heap.size < _; omega)).trans ((Lib.cell_of_heap K1.out 1).trans rfl)
  have g2 : w1.cell? ⟨w.heap.size + 1, 1, none⟩ = some (.bool f') := (hb1.cell (p := ⟨_, 1, none⟩) (by show w.heap.size + 1 < _; omega)).trans ((Lib.cell_of_heap K2.out 1).trans rfl)
  by_cases hf : f = f'
  ·
   subst hf
   have HV : Hid (cmpE (.mk l f r) (.mk m f r') = cmpV r r') := Lib.hid (by rw [HU.out, cmpF, if_pos rfl]; rfl)
   have p2 : w1.cell? ⟨w.heap.size, 2, none⟩ = some (.int .i64 a1) := (hb1.cell (p := ⟨_, 2, none⟩) (by show w.heap.size < _; omega)).trans ((Lib.cell_of_heap K1.out 2).trans rfl)
   have p3 : w1.cell? ⟨w.heap.size, 3, none⟩ = some (.int .i64 i1) := (hb1.cell (p := ⟨_, 3, none⟩) (by show w.heap.size < _; omega)).trans ((Lib.cell_of_heap K1.out 3).trans rfl)
   have p4 : w1.cell? ⟨w.heap.size, 4, none⟩ = some (.string s1) := (hb1.cell (p := ⟨_, 4, none⟩) (by show w.heap.size < _; omega)).trans ((Lib.cell_of_heap K1.out 4).trans rfl)
   have p5 : w1.cell? ⟨w.heap.size, 5, none⟩ = some (.slice B1 n1 d1) := (hb1.cell (p := ⟨_, 5, none⟩) (by show w.heap.size < _; omega)).trans ((Lib.cell_of_heap K1.out 5).trans rfl)
   have p6 : w1.cell? ⟨w.heap.size, 6, none⟩ = some (.slice B2 n2 d2) := (hb1.cell (p := ⟨_, 6, none⟩) (by show w.heap.size < _; omega)).trans ((Lib.cell_of_heap K1.out 6).trans rfl)
   have p7 : w1.cell? ⟨w.heap.size, 7, none⟩ = some (.slice B3 n3 d3) := (hb1.cell (p := ⟨_, 7, none⟩) (by show w.heap.size < _; omega)).trans ((Lib.cell_of_heap K1.out 7).trans rfl)
   have p8 : w1.cell? ⟨w.heap.size, 8, none⟩ = some (.slice B4 n4 d4) := (hb1.cell (p := ⟨_, 8, none⟩) (by show w.heap.size < _; omega)).trans ((Lib.cell_of_heap K1.out 8).trans rfl)
   have r2 : w1.cell? ⟨w.heap.size + 1, 2, none⟩ = some (.int .i64 a1') := (hb1.cell (p := ⟨_, 2, none⟩) (by show w.heap.size + 1 < _; omega)).trans ((Lib.cell_of_heap K2.out 2).trans rfl)
   have r3 : w1.cell? ⟨w.heap.size + 1, 3, none⟩ = some (.int .i64 i1') := (hb1.cell (p := ⟨_, 3, none⟩) (by show w.heap.size + 1 < _; omega)).trans ((Lib.cell_of_heap K2.out 3).trans rfl)
   have r4 : w1.cell? ⟨w.heap.size + 1, 4, none⟩ = some (.string s1') := (hb1.cell (p := ⟨_, 4, none⟩) (by show w.heap.size + 1 < _; omega)).trans ((Lib.cell_of_heap K2.out 4).trans rfl)
   have r5 : w1.cell? ⟨w.heap.size + 1, 5, none⟩ = some (.slice B1' n1' d1') := (hb1.cell (p := ⟨_, 5, none⟩) (by show w.heap.size + 1 < _; omega)).trans ((Lib.cell_of_heap K2.out 5).trans rfl)
   have r6 : w1.cell? ⟨w.heap.size + 1, 6, none⟩ = some (.slice B2' n2' d2') := (hb1.cell (p := ⟨_, 6, none⟩) (by show w.heap.size + 1 < _; omega)).trans ((Lib.cell_of_heap K2.out 6).trans rfl)
   have r7 : w1.cell? ⟨w.heap.size + 1, 7, none⟩ = some (.slice B3' n3' d3') := (hb1.cell (p := ⟨_, 7, none⟩) (by show w.heap.size + 1 < _; omega)).trans ((Lib.cell_of_heap K2.out 7).trans rfl)
   have r8 : w1.cell? ⟨w.heap.size + 1, 8, none⟩ = some (.slice B4' n4' d4') := (hb1.cell (p := ⟨_, 8, none⟩) (by show w.heap.size + 1 < _; omega)).trans ((Lib.cell_of_heap K2.out 8).trans rfl)
   have hc := hP.out r r' _ _ w1 (VS.up HB1.out.size (Nat.le_refl _) (VS.on HB1.out HR.out)) (VS.up HB1.out.size (Nat.le_refl _) (VS.on HB1.out HR'.out))
   clear hb1 h0
   cases f
   all_goals
    go_wp2_with (go_at_call 170; refine hc.mono ?_; rintro e w2 ⟨rfl, hb2⟩; refine Hid.out ?_)
    refine Lib.hid ?_
    go_wp2
    go_ret
    exact ⟨ret_i (by rw [HV.out]), HB1.out.trans (hb2.mono HB1.out.size)⟩
  ·
   have HV : Hid (cmpE (.mk l f r) (.mk m f' r') = cmpF f f') := Lib.hid (by rw [HU.out]; exact thn_of (by rw [cmpF, if_neg hf]; cases f <;> simp) _)
   clear hb1 h0
   cases f <;> cases f'
   · exact absurd rfl hf
   ·
    clear hf
    go_wp2
    go_ret
    exact ⟨ret_i (by rw [HV.out]; rfl), HB1.out⟩
   ·
    clear hf
    go_wp2
    go_ret
    exact ⟨ret_i (by rw [HV.out]; rfl), HB1.out⟩
   · exact absurd rfl hf
 ·
  have q : (z != 0) = true := by rw [bne_iff_ne]; exact h0
  have HU : Hid (cmpE (.mk l f r) (.mk m f' r') = z) := Lib.hid (by rw [HT.out]; exact thn_of h0 _)
  clear h0 hb1
  go_wp2
  go_ret
  exact ⟨ret_i (by rw [HU.out]), HB1.out⟩
theorem ents_row {k : Nat} {w V : World} {u : Value} {ents : List En} (hV : Below w.heap.size w V) (h : RowP w w.heap.size 9 u ents.length (fun j cs => ∃ args fails result, ents[j]? = some (.mk args fails result) ∧ ∃ ua rs, cs = ua :: .bool fails :: rs ∧ RowP w w.heap.size 7 ua args.length (fun j cs => ∃ x, args[j]? = some x ∧ VS k w w.heap.size x cs) ∧ VS k w w.heap.size result rs)) :
  RowP V V.heap.size 9 u ents.length (fun j cs => ∃ x, ents[j]? = some x ∧ ES k V V.heap.size x cs) := by
 refine (h.on hV fun _ _ h => h).mono hV.size ?_
 rintro j cs ⟨args, fails, result, hx, ua, rs, hcs, ha, hr⟩
 have : ES k w w.heap.size (.mk args fails result) cs := ⟨args, fails, result, rfl, ua, rs, hcs, ha, hr⟩
 exact ⟨_, hx, ES.up hV.size (Nat.le_refl _) (ES.on hV this)⟩
end Go.Proofs.YtcjgaohblaidjaaGreatDoor
namespace Go.Proofs.YtcjgaohblaidjaaGreatDoor
open Go Go.RowKit
def frontV : Vl → Vl → Int
 | .mk kd it tx kids keys _ _, .mk kd' it' tx' kids' keys' _ _ =>
  thn (thn (cmpI kd kd') (thn (cmpI it it') (cmpT tx tx'))) (thn (thn (cmpI keys.length keys'.length) (cmpL cmpK keys keys')) (thn (cmpI kids.length kids'.length) (cmpL cmpV (kids.take (kids.length - 1)) (kids'.take (kids.length - 1)))))
def tailV : Vl → Vl → Int
 | .mk _ _ _ _ _ ents labs, .mk _ _ _ _ _ ents' labs' => thn (thn (cmpI ents.length ents'.length) (cmpL cmpE ents ents')) (thn (cmpI labs.length labs'.length) (cmpL cmpT labs labs'))
def kidsV : Vl → List Vl
 | .mk _ _ _ kids _ _ _ => kids
def Vl.kd' : Vl → Int
 | .mk kd _ _ _ _ _ _ => kd
def Vl.it' : Vl → Int
 | .mk _ it _ _ _ _ _ => it
def Vl.tx' : Vl → List UInt8
 | .mk _ _ tx _ _ _ _ => tx
def Vl.keys' : Vl → List (Int × List UInt8)
 | .mk _ _ _ _ keys _ _ => keys
theorem thn_zero_left (b : Int) : thn 0 b = b := rfl
theorem cmpL_last {α : Type} {c : α → α → Int} {l m : List α} {n : Nat} {x y : α} (hl : l.length = n + 1) (hm : m.length = n + 1) (hx : l[n]? = some x) (hy : m[n]? = some y) : cmpL c l m = thn (cmpL c (l.take n) (m.take n)) (c x y) := by
 have e1 : l = l.take n ++ [x] := by
  have : l.take (n + 1) = l.take n ++ [x] := by rw [List.take_add_one, hx]; rfl
  rw [← this, List.take_of_length_le (by omega)]
 have e2 : m = m.take n ++ [y] := by
  have : m.take (n + 1) = m.take n ++ [y] := by rw [List.take_add_one, hy]; rfl
  rw [← this, List.take_of_length_le (by omega)]
 have h := cmpL_app (c := c) (p := l.take n) (q := m.take n) [x] [y] (by rw [List.length_take, List.length_take]; omega)
 rw [← e1, ← e2] at h
 rw [h]
 simp only [cmpL, thn_zero_right]
theorem cmpV_split (a b : Vl) : cmpV a b = thn (thn (cmpI (a.kd') (b.kd')) (thn (cmpI a.it' b.it') (cmpT a.tx' b.tx'))) (thn (thn (cmpI a.keys'.length b.keys'.length) (cmpL cmpK a.keys' b.keys')) (thn (cmpI (kidsV a).length (kidsV b).length) (thn (cmpL cmpV (kidsV a) (kidsV b)) (tailV a b)))) := by
 obtain ⟨kd, it, tx, kids, keys, ents, labs⟩ := a
 obtain ⟨kd', it', tx', kids', keys', ents', labs'⟩ := b
 simp only [cmpV, cmpVs_L, cmpEs_L, thn_assoc, tailV, kidsV, Vl.kd', Vl.it', Vl.tx', Vl.keys']
theorem frontV_split (a b : Vl) : frontV a b = thn (thn (cmpI (a.kd') (b.kd')) (thn (cmpI a.it' b.it') (cmpT a.tx' b.tx'))) (thn (thn (cmpI a.keys'.length b.keys'.length) (cmpL cmpK a.keys' b.keys')) (thn (cmpI (kidsV a).length (kidsV b).length) (cmpL cmpV ((kidsV a).take ((kidsV a).length - 1)) ((kidsV b).take ((kidsV a).length - 1))))) := by
 obtain ⟨kd, it, tx, kids, keys, ents, labs⟩ := a
 obtain ⟨kd', it', tx', kids', keys', ents', labs'⟩ := b
 rfl
theorem cmpV_front_zero {a b : Vl} (h : frontV a b = 0) : (kidsV a).length = (kidsV b).length ∧ (kidsV a = [] → cmpV a b = tailV a b) ∧ ∀ n x y, (kidsV a).length = n + 1 → (kidsV a)[n]? = some x → (kidsV b)[n]? = some y → cmpV a b = thn (cmpV x y) (tailV a b) := by
 rw [frontV_split] at h
 obtain ⟨h1, h⟩ := thn_zero.1 h
 obtain ⟨h2, h⟩ := thn_zero.1 h
 obtain ⟨h3, h4⟩ := thn_zero.1 h
 have hlen : (kidsV a).length = (kidsV b).length := by have := cmpI_zero.1 h3; omega
 rw [cmpV_split, h1, h2, h3]
 simp only [thn_zero_left]
 refine ⟨hlen, fun hn => ?_, fun n x y hn hx hy => ?_⟩
 ·
  rw [hn]
  simp only [cmpL, thn_zero_left]
 ·
  rw [cmpL_last hn (by omega) hx hy]
  rw [hn] at h4
  simp only [Nat.add_sub_cancel] at h4
  rw [h4]
  simp only [thn_zero_left]
theorem cmpV_front_ne {a b : Vl} (h : frontV a b ≠ 0) : cmpV a b = frontV a b := by
 rw [frontV_split] at h ⊢
 rw [cmpV_split]
 by_cases h1 : thn (cmpI (a.kd') (b.kd')) (thn (cmpI a.it' b.it') (cmpT a.tx' b.tx')) = 0
 ·
  rw [h1] at h ⊢
  simp only [thn_zero_left] at h ⊢
  by_cases h2 : thn (cmpI a.keys'.length b.keys'.length) (cmpL cmpK a.keys' b.keys') = 0
  ·
   rw [h2] at h ⊢
   simp only [thn_zero_left] at h ⊢
   by_cases h3 : cmpI (kidsV a).length (kidsV b).length = 0
   ·
    rw [h3] at h ⊢
    simp only [thn_zero_left] at h ⊢
    have hlen : (kidsV a).length = (kidsV b).length := by have := cmpI_zero.1 h3; omega
    cases hn : (kidsV a).length with
    | zero => rw [hn] at h; exact absurd (by simp [cmpL]) h
    | succ n =>
     rw [hn] at h
     simp only [Nat.add_sub_cancel] at h ⊢
     have hx : (kidsV a)[n]? = some (kidsV a)[n] := List.getElem?_eq_getElem (by omega)
     have hy : (kidsV b)[n]? = some (kidsV b)[n] := List.getElem?_eq_getElem (by omega)
     rw [cmpL_last hn (by omega) hx hy, thn_assoc, thn_of h]
   · rw [thn_of h3, thn_of h3]
  · rw [thn_of h2, thn_of h2]
 · rw [thn_of h1, thn_of h1]
theorem rowVS_on {k : Nat} {w V : World} {A : Option Addr} {c : Nat} {l : List Vl} (hV : Below w.heap.size w V) (h : RowP w w.heap.size 7 (.slice A l.length c) l.length (fun j cs => ∃ x, l[j]? = some x ∧ VS k w w.heap.size x cs)) : RowP V V.heap.size 7 (.slice A l.length c) l.length (fun j cs => ∃ x, l[j]? = some x ∧ VS k V V.heap.size x cs) :=
 (h.on hV fun _ _ ⟨x, h1, h2⟩ => ⟨x, h1, VS.up hV.size (Nat.le_refl _) (VS.on hV h2)⟩).mono hV.size fun _ _ h => h
theorem rowVS_take {k : Nat} {w : World} {A : Option Addr} {c n p : Nat} {l : List Vl} (h : RowP w w.heap.size 7 (.slice A n c) n (fun j cs => ∃ x, l[j]? = some x ∧ VS k w w.heap.size x cs)) (hp : p ≤ n) : RowP w w.heap.size 7 (.slice A p c) p (fun j cs => ∃ x, (l.take p)[j]? = some x ∧ VS k w w.heap.size x cs) :=
 RowB.sub (RowB.take h hp c) (fun _ h => h) (fun _ _ ⟨hq, z, hz, hv⟩ => ⟨z, by rw [List.getElem?_take_of_lt hq]; exact hz, hv⟩)
set_option maxRecDepth 100000 in
set_option maxHeartbeats 6400000 in
theorem front_any (k : Nat) (IH : Hid (∀ (a b : Vl) (ca cb : List Value) (w : World), VS k w w.heap.size a ca → VS k w w.heap.size b cb → Calls Tryz.prog 170 #[.agg ca.toArray, .agg cb.toArray] w fun e w' => e = .returned (.int .i64 (cmpV a b)) ∧ Below w.heap.size w w')) (a b : Vl) (ca cb : List Value) (w : World) (h : VS (k + 1) w w.heap.size a ca) (h' : VS (k + 1) w w.heap.size b cb) :
  Calls Tryz.prog 181 #[.agg ca.toArray, .agg cb.toArray] w fun e w' => e = .returned (.int .i64 (frontV a b)) ∧ Below w.heap.size w w' := by
 obtain ⟨kd, it, tx, kids, keys, ents, labs⟩ := a
 obtain ⟨kd', it', tx', kids', keys', ents', labs'⟩ := b
 obtain ⟨uk, uy, ue, ul, rfl, _, _, _, hk, hy, he, hl⟩ := h
 obtain ⟨uk', uy', ue', ul', rfl, _, _, _, hk', hy', he', hl'⟩ := h'
 obtain ⟨A, c, rfl, hkl⟩ := hk.form
 have HKL := Lib.hid hkl
 clear hkl
 obtain ⟨A', c', rfl, _⟩ := hk'.form
 obtain ⟨Y, cy, rfl, _⟩ := hy.form
 obtain ⟨Y', cy', rfl, _⟩ := hy'.form
 obtain ⟨E, ce, rfl, _⟩ := he.form
 obtain ⟨E', ce', rfl, _⟩ := he'.form
 obtain ⟨L, cl, rfl, _⟩ := hl.form
 obtain ⟨L', cl', rfl, _⟩ := hl'.form
 have HCP := Lib.hid (And.intro hk.cap hk'.cap)
 obtain ⟨W, hW⟩ : ∃ W, W = (w.alloc (.cells #[.int .i64 kd, .int .i64 it, .string ⟨tx.toArray⟩, .slice A kids.length c, .slice Y keys.length cy, .slice E ents.length ce, .slice L labs.length cl] 27)).alloc (.cells #[.int .i64 kd', .int .i64 it', .string ⟨tx'.toArray⟩, .slice A' kids'.length c', .slice Y' keys'.length cy', .slice E' ents'.length ce', .slice L' labs'.length cl'] 27) := ⟨_, rfl⟩
 have hb : Below w.heap.size w W := by rw [hW]; exact ((Below.refl _ _).alloc (Nat.le_refl _) _).alloc (by simp) _
 have hz : W.heap.size = w.heap.size + 2 := by rw [hW]; simp
 have k1 : W.heap[w.heap.size]? = some (.cells #[.int .i64 kd, .int .i64 it, .string ⟨tx.toArray⟩, .slice A kids.length c, .slice Y keys.length cy, .slice E ents.length ce, .slice L labs.length cl] 27 (0, 0)) := by
  rw [hW, Below.heap_alloc _ _ _ (by simp)]
  exact heap_alloc_new w _
 have k2 : W.heap[w.heap.size + 1]? = some (.cells #[.int .i64 kd', .int .i64 it', .string ⟨tx'.toArray⟩, .slice A' kids'.length c', .slice Y' keys'.length cy', .slice E' ents'.length ce', .slice L' labs'.length cl'] 27 (0, 0)) := by
  rw [hW]
  exact new_at' _ (by simp)
 have hC0 := cmpOwn_any kd it tx A Y E L kids.length c keys.length cy ents.length ce labs.length cl kd' it' tx' A' Y' E' L' kids'.length c' keys'.length cy' ents'.length ce' labs'.length cl' W
 have HY : Hid (∀ V, Below w.heap.size w V → Calls Tryz.prog 190 #[.slice Y keys.length cy, .slice Y' keys'.length cy', .func (.func 145) #[] #[]] V fun e w' => e = .returned (.int .i64 (thn (cmpI keys.length keys'.length) (cmpL cmpK keys keys'))) ∧ Below V.heap.size V w') := Lib.hid fun V hV => cmpls2 Y Y' cy cy' keys keys' V ((hy.on hV fun _ _ h => h).mono hV.size fun _ _ h => h) ((hy'.on hV fun _ _ h => h).mono hV.size fun _ _ h => h)
 have HN : Hid (∀ V, Calls Tryz.prog 167 #[.int .i64 (kids.length : Int), .int .i64 (kids'.length : Int)] V fun e w' => e = .returned (.int .i64 (cmpI kids.length kids'.length)) ∧ w' = V) := Lib.hid fun V => cmpInt_any kids.length kids'.length V
 have HK : Hid (∀ m, kids.length = m + 1 → kids.length = kids'.length → ∀ V, Below w.heap.size w V → Calls Tryz.prog 180 #[.slice A m c, .slice A' m c', .func (.func 170) #[] #[]] V fun e w' => e = .returned (.int .i64 (cmpL cmpV (kids.take m) (kids'.take m))) ∧ Below V.heap.size V w') := Lib.hid fun m hm hm' V hV => by
  have e1 : (kids.take m).length = m := by rw [List.length_take]; omega
  have e2 : (kids'.take m).length = m := by rw [List.length_take]; omega
  have hh := cmpf7 k IH A A' c c' (kids.take m) (kids'.take m) V
  rw [e1, e2] at hh
  exact hh (rowVS_take (rowVS_on hV hk) (by omega)) (rowVS_take (rowVS_on hV hk') (by omega)) rfl
 clear hk hk' hy hy' he he' hl hl'
 have HT : Hid (frontV (.mk kd it tx kids keys ents labs) (.mk kd' it' tx' kids' keys' ents' labs') = thn (thn (cmpI kd kd') (thn (cmpI it it') (cmpT tx tx'))) (thn (thn (cmpI keys.length keys'.length) (cmpL cmpK keys keys')) (thn (cmpI kids.length kids'.length) (cmpL cmpV (kids.take (kids.length - 1)) (kids'.take (kids.length - 1)))))) := Lib.hid rfl
 have HL : Hid (cmpI kids.length kids'.length = 0 → kids.length = kids'.length) := Lib.hid fun h => by have := cmpI_zero.1 h; omega
 generalize thn (cmpI kd kd') (thn (cmpI it it') (cmpT tx tx')) = z0 at hC0 HT
 generalize thn (cmpI (keys.length : Int) (keys'.length : Int)) (cmpL cmpK keys keys') = z1 at HY HT
 generalize cmpI (kids.length : Int) (kids'.length : Int) = z2 at HN HT HL
 have HB := Lib.hid hb
 have K1 := Lib.hid k1
 have K2 := Lib.hid k2
 obtain ⟨q0, q1, q2, q3, q4, q5, q6⟩ := cells7 k1
 obtain ⟨r0, r1, r2, r3, r4, r5, r6⟩ := cells7 k2
 clear hb k1 k2
 generalize frontV (.mk kd it tx kids keys ents labs) (.mk kd' it' tx' kids' keys' ents' labs') = y at HT ⊢
 generalize hnk : kids.length = n at *
 generalize hnk' : kids'.length = n' at *
 have HNK := Lib.hid (And.intro hnk hnk')
 clear hnk hnk'
 go_enter Tryz.func181, Tryz.ntmps181
 go_wp2_with fail
 rw [← hW]
 clear hW
 go_wp2_with (go_at_call 189; refine hC0.mono ?_; rintro e w1 ⟨rfl, hb1⟩; refine Hid.out ?_)
 refine Lib.hid ?_
 have HB1 := Lib.hid (HB.out.trans (hb1.mono HB.out.size))
 have KA1 : Hid (w1.heap[w.heap.size]? = some (.cells #[.int .i64 kd, .int .i64 it, .string ⟨tx.toArray⟩, .slice A n c, .slice Y keys.length cy, .slice E ents.length ce, .slice L labs.length cl] 27 (0, 0))) := Lib.hid ((hb1.block _ (by omega)).trans K1.out)
 have KB1 : Hid (w1.heap[w.heap.size + 1]? = some (.cells #[.int .i64 kd', .int .i64 it', .string ⟨tx'.toArray⟩, .slice A' n' c', .slice Y' keys'.length cy', .slice E' ents'.length ce', .slice L' labs'.length cl'] 27 (0, 0))) := Lib.hid ((hb1.block _ (by omega)).trans K2.out)
 have hz1 : w.heap.size + 2 ≤ w1.heap.size := by have := hb1.size; omega
 clear hb1 hC0 q0 q1 q2 q3 q4 q5 q6 r0 r1 r2 r3 r4 r5 r6 hz
 by_cases h0 : z0 = 0
 case neg =>
  have hq : (z0 != 0) = true := by rw [bne_iff_ne]; exact h0
  have HU : Hid (y = z0) := Lib.hid (by rw [HT.out]; exact thn_of h0 _)
  clear h0
  go_wp2
  go_ret
  exact ⟨ret_i HU.out.symm, HB1.out⟩
 subst h0
 have p4 : w1.cell? ⟨w.heap.size, 4, none⟩ = some (.slice Y keys.length cy) := (Lib.cell_of_heap KA1.out 4).trans rfl
 have s4 : w1.cell? ⟨w.heap.size + 1, 4, none⟩ = some (.slice Y' keys'.length cy') := (Lib.cell_of_heap KB1.out 4).trans rfl
 go_wp2_with (go_at_call 190; refine (HY.out _ HB1.out).mono ?_; rintro e w2 ⟨rfl, hb2⟩; refine Hid.out ?_)
 refine Lib.hid ?_
 have HB2 := Lib.hid (HB1.out.trans (hb2.mono HB1.out.size))
 have KA2 : Hid (w2.heap[w.heap.size]? = some (.cells #[.int .i64 kd, .int .i64 it, .string ⟨tx.toArray⟩, .slice A n c, .slice Y keys.length cy, .slice E ents.length ce, .slice L labs.length cl] 27 (0, 0))) := Lib.hid ((hb2.block _ (by omega)).trans KA1.out)
 have KB2 : Hid (w2.heap[w.heap.size + 1]? = some (.cells #[.int .i64 kd', .int .i64 it', .string ⟨tx'.toArray⟩, .slice A' n' c', .slice Y' keys'.length cy', .slice E' ents'.length ce', .slice L' labs'.length cl'] 27 (0, 0))) := Lib.hid ((hb2.block _ (by omega)).trans KB1.out)
 have hz2 : w.heap.size + 2 ≤ w2.heap.size := by have := hb2.size; omega
 clear hb2 p4 s4 hz1
 by_cases h1 : z1 = 0
 case neg =>
  have hq : (z1 != 0) = true := by rw [bne_iff_ne]; exact h1
  have HU : Hid (y = z1) := Lib.hid (by rw [HT.out]; exact thn_of h1 _)
  clear h1
  go_wp2
  go_ret
  exact ⟨ret_i HU.out.symm, HB2.out⟩
 subst h1
 have p3 : w2.cell? ⟨w.heap.size, 3, none⟩ = some (.slice A n c) := (Lib.cell_of_heap KA2.out 3).trans rfl
 have s3 : w2.cell? ⟨w.heap.size + 1, 3, none⟩ = some (.slice A' n' c') := (Lib.cell_of_heap KB2.out 3).trans rfl
 go_wp2_with (go_at_call 167; refine (HN.out _).mono ?_; rintro e w3 ⟨rfl, rfl⟩; refine Hid.out ?_)
 refine Lib.hid ?_
 by_cases h2 : z2 = 0
 case neg =>
  have hq : (z2 != 0) = true := by rw [bne_iff_ne]; exact h2
  have HU : Hid (y = z2) := Lib.hid (by rw [HT.out]; exact thn_of h2 _)
  clear h2
  go_wp2
  go_ret
  exact ⟨ret_i HU.out.symm, HB2.out⟩
 subst h2
 have hnn := HL.out rfl
 by_cases hn0 : n = 0
 ·
  subst hn0
  have hnb : (((0 : Nat) : Int) == 0) = true := rfl
  have HU : Hid (y = 0) := Lib.hid (by
   rw [HT.out]
   simp [cmpL, thn])
  clear hnn
  go_wp2
  go_ret
  exact ⟨ret_i HU.out.symm, HB2.out⟩
 ·
  obtain ⟨m, hm⟩ : ∃ m, n = m + 1 := ⟨n - 1, by omega⟩
  have HU : Hid (y = cmpL cmpV (kids.take m) (kids'.take m)) := Lib.hid (by rw [HT.out, hm]; rfl)
  have hnb : ((n : Int) == 0) = false := by simp; omega
  have hcc := HK.out m hm hnn _ HB2.out.drew
  have hm1 : m ≤ c := by have := HCP.out.1; omega
  have hm2 : m ≤ c' := by have := HCP.out.2; omega
  have hmm : (n : Int) - 1 = (m : Int) := by omega
  have hwm : wrap64 (m : Int) = (m : Int) := by have := HKL.out; unfold wrap64; unfold maxLen at this; omega
  generalize cmpL cmpV (kids.take m) (kids'.take m) = x at HU hcc
  subst hnn
  clear hn0 hm
  go_wp2_with fail
  refine wp_region_held_drew (S := fun V => V.cell? ⟨w.heap.size, 3, none⟩ = some (.slice A n c) ∧ V.cell? ⟨w.heap.size + 1, 3, none⟩ = some (.slice A' n c')) (by kernel_rfl) ⟨p3, s3⟩ (fun hHeld => ?_)
  refine tk 0 hHeld ?_
  try simp only [Act.put, pA, pB, pC]
  refine tk 1 hHeld ?_
  try simp only [Act.put, pA, pB, pC]
  refine tk 2 hHeld ?_
  try simp only [Act.put, pA, pB, pC]
  refine tk 3 hHeld ?_
  try simp only [Act.put, pA, pB, pC]
  refine tk 4 hHeld ?_
  try simp only [Act.put, pA, pB, pC]
  refine tk 5 hHeld ?_
  try simp only [Act.put, pA, pB, pC]
  refine tk 6 hHeld ?_
  try simp only [Act.put, pA, pB, pC]
  refine tk 7 hHeld ?_
  try simp only [Act.put, pA, pB, pC]
  refine one_op 8 (by kernel_rfl) rfl (by rfl) (fun K hK => ?_)
  go_simp
  refine hcc.mono ?_
  rintro e w4 ⟨rfl, hb4⟩
  have HB4 := Lib.hid (HB2.out.drew.trans (hb4.mono HB2.out.drew.size))
  have hS4 : w4.cell? ⟨w.heap.size, 3, none⟩ = some (.slice A n c) ∧ w4.cell? ⟨w.heap.size + 1, 3, none⟩ = some (.slice A' n c') := ⟨(hb4.cell (p := ⟨_, 3, none⟩) (by show w.heap.size < w3.heap.size; omega)).trans p3, (hb4.cell (p := ⟨_, 3, none⟩) (by show w.heap.size + 1 < w3.heap.size; omega)).trans s3⟩
  refine hK _ _ hS4 ?_
  try simp only [Act.put, pA, pB, pC]
  refine tk 9 hS4 ?_
  try simp only [Act.put, pA, pB, pC]
  refine wpAnyH_done (by kernel_rfl) ?_ _
  go_wp2
  go_ret
  exact ⟨ret_i HU.out.symm, HB4.out⟩
end Go.Proofs.YtcjgaohblaidjaaGreatDoor
namespace Go.Proofs.YtcjgaohblaidjaaGreatDoor
open Go Go.RowKit
set_option maxRecDepth 100000 in
set_option maxHeartbeats 6400000 in
theorem behind_any (k : Nat) (IH : Hid (∀ (a b : Vl) (ca cb : List Value) (w : World), VS k w w.heap.size a ca → VS k w w.heap.size b cb → Calls Tryz.prog 170 #[.agg ca.toArray, .agg cb.toArray] w fun e w' => e = .returned (.int .i64 (cmpV a b)) ∧ Below w.heap.size w w')) (a b : Vl) (ca cb : List Value) (w : World) (h : VS (k + 1) w w.heap.size a ca) (h' : VS (k + 1) w w.heap.size b cb) :
  Calls Tryz.prog 182 #[.agg ca.toArray, .agg cb.toArray] w fun e w' => e = .returned (.int .i64 (tailV a b)) ∧ Below w.heap.size w w' := by
 have hP : Hid (∀ (a b : En) (ca cb : List Value) (w : World), ES k w w.heap.size a ca → ES k w w.heap.size b cb → Calls Tryz.prog 150 #[.agg ca.toArray, .agg cb.toArray] w fun e w' => e = .returned (.int .i64 (cmpE a b)) ∧ Below w.heap.size w w') := Lib.hid fun a b ca cb w h1 h2 => entP_any k IH a b ca cb w h1 h2
 obtain ⟨kd, it, tx, kids, keys, ents, labs⟩ := a
 obtain ⟨kd', it', tx', kids', keys', ents', labs'⟩ := b
 obtain ⟨uk, uy, ue, ul, rfl, _, _, _, hk, hy, he, hl⟩ := h
 obtain ⟨uk', uy', ue', ul', rfl, _, _, _, hk', hy', he', hl'⟩ := h'
 obtain ⟨A, c, rfl, _⟩ := hk.form
 obtain ⟨A', c', rfl, _⟩ := hk'.form
 obtain ⟨Y, cy, rfl, _⟩ := hy.form
 obtain ⟨Y', cy', rfl, _⟩ := hy'.form
 obtain ⟨E, ce, rfl, _⟩ := he.form
 obtain ⟨E', ce', rfl, _⟩ := he'.form
 obtain ⟨L, cl, rfl, _⟩ := hl.form
 obtain ⟨L', cl', rfl, _⟩ := hl'.form
 obtain ⟨W, hW⟩ : ∃ W, W = (w.alloc (.cells #[.int .i64 kd, .int .i64 it, .string ⟨tx.toArray⟩, .slice A kids.length c, .slice Y keys.length cy, .slice E ents.length ce, .slice L labs.length cl] 27)).alloc (.cells #[.int .i64 kd', .int .i64 it', .string ⟨tx'.toArray⟩, .slice A' kids'.length c', .slice Y' keys'.length cy', .slice E' ents'.length ce', .slice L' labs'.length cl'] 27) := ⟨_, rfl⟩
 have hb : Below w.heap.size w W := by rw [hW]; exact ((Below.refl _ _).alloc (Nat.le_refl _) _).alloc (by simp) _
 have hz : W.heap.size = w.heap.size + 2 := by rw [hW]; simp
 have k1 : W.heap[w.heap.size]? = some (.cells #[.int .i64 kd, .int .i64 it, .string ⟨tx.toArray⟩, .slice A kids.length c, .slice Y keys.length cy, .slice E ents.length ce, .slice L labs.length cl] 27 (0, 0)) := by
  rw [hW, Below.heap_alloc _ _ _ (by simp)]
  exact heap_alloc_new w _
 have k2 : W.heap[w.heap.size + 1]? = some (.cells #[.int .i64 kd', .int .i64 it', .string ⟨tx'.toArray⟩, .slice A' kids'.length c', .slice Y' keys'.length cy', .slice E' ents'.length ce', .slice L' labs'.length cl'] 27 (0, 0)) := by
  rw [hW]
  exact new_at' _ (by simp)
 have HE : Hid (∀ V, Below w.heap.size w V → Calls Tryz.prog 191 #[.slice E ents.length ce, .slice E' ents'.length ce', .func (.func 150) #[] #[]] V fun e w' => e = .returned (.int .i64 (thn (cmpI ents.length ents'.length) (cmpL cmpE ents ents'))) ∧ Below V.heap.size V w') := Lib.hid fun V hV => cmpls9 k hP E E' ce ce' ents ents' V (ents_row hV he) (ents_row hV he')
 have HL : Hid (∀ V, Below w.heap.size w V → Calls Tryz.prog 192 #[.slice L labs.length cl, .slice L' labs'.length cl', .func (.func 112) #[] #[]] V fun e w' => e = .returned (.int .i64 (thn (cmpI labs.length labs'.length) (cmpL cmpT labs labs'))) ∧ Below V.heap.size V w') := Lib.hid fun V hV => cmpls1 L L' cl cl' labs labs' V ((hl.on hV fun _ _ h => h).mono hV.size fun _ _ h => h) ((hl'.on hV fun _ _ h => h).mono hV.size fun _ _ h => h)
 clear hk hk' hy hy' he he' hl hl' hP
 have HT : Hid (tailV (.mk kd it tx kids keys ents labs) (.mk kd' it' tx' kids' keys' ents' labs') = thn (thn (cmpI ents.length ents'.length) (cmpL cmpE ents ents')) (thn (cmpI labs.length labs'.length) (cmpL cmpT labs labs'))) := Lib.hid rfl
 generalize thn (cmpI (ents.length : Int) (ents'.length : Int)) (cmpL cmpE ents ents') = z3 at HE HT
 generalize thn (cmpI (labs.length : Int) (labs'.length : Int)) (cmpL cmpT labs labs') = z4 at HL HT
 generalize tailV (.mk kd it tx kids keys ents labs) (.mk kd' it' tx' kids' keys' ents' labs') = y at HT ⊢
 have HB := Lib.hid hb
 have K1 := Lib.hid k1
 have K2 := Lib.hid k2
 have q5 : W.cell? ⟨w.heap.size, 5, none⟩ = some (.slice E ents.length ce) := (Lib.cell_of_heap k1 5).trans rfl
 have r5 : W.cell? ⟨w.heap.size + 1, 5, none⟩ = some (.slice E' ents'.length ce') := (Lib.cell_of_heap k2 5).trans rfl
 clear hb k1 k2
 go_enter Tryz.func182, Tryz.ntmps182
 go_wp2_with fail
 rw [← hW]
 clear hW
 go_wp2_with (go_at_call 191; refine (HE.out _ HB.out).mono ?_; rintro e w1 ⟨rfl, hb1⟩; refine Hid.out ?_)
 refine Lib.hid ?_
 have HB1 := Lib.hid (HB.out.trans (hb1.mono HB.out.size))
 have KA1 : Hid (w1.heap[w.heap.size]? = some (.cells #[.int .i64 kd, .int .i64 it, .string ⟨tx.toArray⟩, .slice A kids.length c, .slice Y keys.length cy, .slice E ents.length ce, .slice L labs.length cl] 27 (0, 0))) := Lib.hid ((hb1.block _ (by omega)).trans K1.out)
 have KB1 : Hid (w1.heap[w.heap.size + 1]? = some (.cells #[.int .i64 kd', .int .i64 it', .string ⟨tx'.toArray⟩, .slice A' kids'.length c', .slice Y' keys'.length cy', .slice E' ents'.length ce', .slice L' labs'.length cl'] 27 (0, 0))) := Lib.hid ((hb1.block _ (by omega)).trans K2.out)
 clear hb1 q5 r5 hz
 by_cases h0 : z3 = 0
 case neg =>
  have hq : (z3 != 0) = true := by rw [bne_iff_ne]; exact h0
  have HU : Hid (y = z3) := Lib.hid (by rw [HT.out]; exact thn_of h0 _)
  clear h0
  go_wp2
  go_ret
  exact ⟨ret_i HU.out.symm, HB1.out⟩
 subst h0
 have HU : Hid (y = z4) := Lib.hid (by rw [HT.out]; rfl)
 have p6 : w1.cell? ⟨w.heap.size, 6, none⟩ = some (.slice L labs.length cl) := (Lib.cell_of_heap KA1.out 6).trans rfl
 have s6 : w1.cell? ⟨w.heap.size + 1, 6, none⟩ = some (.slice L' labs'.length cl') := (Lib.cell_of_heap KB1.out 6).trans rfl
 go_wp2_with (go_at_call 192; refine (HL.out _ HB1.out).mono ?_; rintro e w2 ⟨rfl, hb2⟩; refine Hid.out ?_)
 refine Lib.hid ?_
 go_wp2
 go_ret
 exact ⟨ret_i HU.out.symm, HB1.out.trans (hb2.mono HB1.out.size)⟩
end Go.Proofs.YtcjgaohblaidjaaGreatDoor
namespace Go.Proofs.YtcjgaohblaidjaaGreatDoor
open Go Go.RowKit
theorem infoV : (Tryz.prog.info? 27).map (fun i => (i.zero, i.size, i.bytes)) = some (some (.agg #[.int .i64 0, .int .i64 0, .string ⟨#[]⟩, .slice none 0 0, .slice none 0 0, .slice none 0 0, .slice none 0 0]), 7, 128) := by kernel_rfl
theorem infoE : (Tryz.prog.info? 45).map (fun i => (i.zero, i.size, i.bytes)) = some (some (.agg #[.slice none 0 0, .bool false, .int .i64 0, .int .i64 0, .string ⟨#[]⟩, .slice none 0 0, .slice none 0 0, .slice none 0 0, .slice none 0 0]), 9, 160) := by kernel_rfl
theorem owns_below {H : Nat} {w w' : World} {base : Nat} {e : TypeId} {size : Nat} {v : Value} {n : Nat} {xs : List Value} (h : w.ownsRow base e size v n xs) (hb : Below H w w') (hv : ∀ g, v.ownBlock = some g → g < H) : w'.ownsRow base e size v n xs := by
 refine ⟨h.1, ?_⟩
 rcases h.2 with hn | ⟨g, cap, cur, rfl, h1, h2, h3⟩
 · exact .inl hn
 · exact .inr ⟨g, cap, cur, rfl, h1, (hb.block g (hv g rfl)).trans h2, h3⟩
abbrev Btw (lo hi : Nat) : Nat → Prop := fun b => lo ≤ b ∧ b < hi
def EB (k : Nat) (w : World) (B : Nat → Prop) (e : En) (cs : List Value) : Prop :=
 ∃ args fails result, e = .mk args fails result ∧ ∃ ua rs, cs = ua :: .bool fails :: rs ∧ RowB w B 7 ua args.length (fun j cs => ∃ x, args[j]? = some x ∧ VB k w B x cs) ∧ VB k w B result rs
theorem EB.keep {w w' : World} {B : Nat → Prop} (hw : Same B w w') {k : Nat} {v : En} {cs : List Value} (h : EB k w B v cs) : EB k w' B v cs := by
 obtain ⟨l, f, r, rfl, ua, rs, rfl, hl, hr⟩ := h
 exact ⟨l, f, r, rfl, ua, rs, rfl, hl.keep hw fun _ _ ⟨x, h1, h2⟩ => ⟨x, h1, VB.keep hw h2⟩, VB.keep hw hr⟩
theorem EB.sub {w : World} {B B' : Nat → Prop} (hB : ∀ b, B b → B' b) {k k' : Nat} {v : En} {cs : List Value} (hk : k ≤ k') (h : EB k w B v cs) : EB k' w B' v cs := by
 obtain ⟨l, f, r, rfl, ua, rs, rfl, hl, hr⟩ := h
 exact ⟨l, f, r, rfl, ua, rs, rfl, hl.sub hB fun _ _ ⟨x, h1, h2⟩ => ⟨x, h1, VB.sub hB hk h2⟩, VB.sub hB hk hr⟩
theorem EB.form9 {k : Nat} {w : World} {B : Nat → Prop} {v : En} {cs : List Value} (h : EB k w B v cs) :
  ∃ A0 n0 c0 f a i s A1 n1 c1 A2 n2 c2 A3 n3 c3 A4 n4 c4, cs = [.slice A0 n0 c0, .bool f, .int .i64 a, .int .i64 i, .string s, .slice A1 n1 c1, .slice A2 n2 c2, .slice A3 n3 c3, .slice A4 n4 c4] := by
 obtain ⟨l, f, r, rfl, ua, rs, rfl, hl, hr⟩ := h
 obtain ⟨A, c, rfl, _⟩ := hl.form
 obtain ⟨a, i, s, A1, n1, c1, A2, n2, c2, A3, n3, c3, A4, n4, c4, rfl⟩ := hr.form7
 exact ⟨_, _, _, _, _, _, _, _, _, _, _, _, _, _, _, _, _, _, _, rfl⟩
def EachI {α : Type} (T : World → (Nat → Prop) → α → List Value → Prop) (f : α → α) (e : TypeId) (c : Nat) (l : List α) (g j : Nat) (w : World) : Prop :=
 ∃ xs, w.ownsRow g e c (.slice (some ⟨g, 0, none⟩) l.length l.length) l.length xs ∧ g < w.heap.size ∧ ∀ q, q < j → ∃ x, l[q]? = some x ∧ T w (fun b => g < b ∧ b < w.heap.size) (f x) ((xs.drop (q * c)).take c)
theorem EachI.below {α : Type} {T : World → (Nat → Prop) → α → List Value → Prop} {f : α → α} {e : TypeId} {c : Nat} {l : List α} {g j : Nat} {w w' : World} (h : EachI T f e c l g j w) (hb : Below w.heap.size w w')
  (hT : ∀ x cs, T w (fun b => g < b ∧ b < w.heap.size) x cs → T w' (fun b => g < b ∧ b < w'.heap.size) x cs) : EachI T f e c l g j w' := by
 obtain ⟨xs, h1, h2, h3⟩ := h
 refine ⟨xs, owns_below h1 hb (fun g' hg => by simp [Value.ownBlock] at hg; omega), Nat.lt_of_lt_of_le h2 hb.size, fun q hq => ?_⟩
 obtain ⟨x, hx, ht⟩ := h3 q hq
 exact ⟨x, hx, hT _ _ ht⟩
theorem VB.later {k : Nat} {g : Nat} {w w' : World} (hb : Below w.heap.size w w') (x : Vl) (cs : List Value) (h : VB k w (fun b => g < b ∧ b < w.heap.size) x cs) : VB k w' (fun b => g < b ∧ b < w'.heap.size) x cs :=
 VB.sub (fun _ hb' => ⟨hb'.1, Nat.lt_of_lt_of_le hb'.2 hb.size⟩) (Nat.le_refl _) (VB.keep (.of_below hb fun _ h => h.2) h)
theorem EB.later {k : Nat} {g : Nat} {w w' : World} (hb : Below w.heap.size w w') (x : En) (cs : List Value) (h : EB k w (fun b => g < b ∧ b < w.heap.size) x cs) : EB k w' (fun b => g < b ∧ b < w'.heap.size) x cs :=
 EB.sub (fun _ hb' => ⟨hb'.1, Nat.lt_of_lt_of_le hb'.2 hb.size⟩) (Nat.le_refl _) (EB.keep (.of_below hb fun _ h => h.2) h)
end Go.Proofs.YtcjgaohblaidjaaGreatDoor
namespace Go.Proofs.YtcjgaohblaidjaaGreatDoor
open Go Go.RowKit
theorem flat_sub {α β : Type} {enc : α → List β} {c : Nat} (hc : ∀ x, (enc x).length = c) : ∀ {l : List α} {j : Nat} {x : α}, l[j]? = some x → ((l.flatMap enc).drop (j * c)).take c = enc x
 | [], j, x, h => by simp at h
 | a :: s, 0, x, h => by
  simp only [List.getElem?_cons_zero, Option.some.injEq] at h
  subst h
  simp [List.flatMap_cons, hc]
 | a :: s, j + 1, x, h => by
  simp only [List.getElem?_cons_succ] at h
  rw [List.flatMap_cons, List.drop_append, List.drop_eq_nil_of_le (by rw [hc, Nat.add_mul]; omega), hc, show (j + 1) * c - c = j * c by rw [Nat.add_mul]; omega, List.nil_append, flat_sub hc h]
theorem flat_at {α β : Type} {enc : α → List β} {c : Nat} (hc : ∀ x, (enc x).length = c) {l : List α} {q : Nat} {u : β} (h0 : 0 < c) (h : (l.flatMap enc)[q]? = some u) : ∃ x, l[q / c]? = some x ∧ (enc x)[q % c]? = some u := by
 have hlen : (l.flatMap enc).length = l.length * c := by
  clear h
  induction l with
  | nil => simp
  | cons a s ih => rw [List.flatMap_cons, List.length_append, ih, hc, List.length_cons, Nat.add_mul]; omega
 have hq : q < l.length * c := by
  have := (List.getElem?_eq_some_iff.1 h).1
  omega
 have hd : q / c < l.length := Nat.div_lt_of_lt_mul (by rwa [Nat.mul_comm])
 refine ⟨l[q / c], List.getElem?_eq_getElem hd, ?_⟩
 have e := flat_sub hc (List.getElem?_eq_getElem hd)
 rw [← e, List.getElem?_take_of_lt (Nat.mod_lt _ h0), List.getElem?_drop, show q / c * c + q % c = q by rw [Nat.mul_comm]; exact Nat.div_add_mod q c]
 exact h
end Go.Proofs.YtcjgaohblaidjaaGreatDoor
namespace Go.Proofs.YtcjgaohblaidjaaGreatDoor
open Go Go.RowKit
theorem formatInt_any (n : Int) (hn : (Lit.int .i64 n).wf = true) (w : World) (hT : Tb w) :
  Calls Tryz.prog 37 #[.int .i64 n, .int .i64 10] w fun e w' => e = .returned (.string ⟨(Lib.itoa n).toArray⟩) ∧ Below w.heap.size w w' := by
 have hr : -9223372036854775808 ≤ n ∧ n ≤ 9223372036854775807 := by
  simp [Lit.wf, IntKind.min, IntKind.max, IntKind.signed, IntKind.bits] at hn
  omega
 refine (Tryz.strconv_FormatInt_10 n hr.1 hr.2 w hT).mono ?_
 rintro e w' ⟨rfl, k, os, rfl⟩
 exact ⟨rfl, Lib.below_grow _ w (Nat.le_refl _) k os⟩
end Go.Proofs.YtcjgaohblaidjaaGreatDoor
namespace Go.Proofs.YtcjgaohblaidjaaGreatDoor
open Go Go.RowKit
end Go.Proofs.YtcjgaohblaidjaaGreatDoor
