/- What the program's comparisons of lists and of the plain fields of values return. -/
import Derived.Test.YtpgnkfobgjplmaaCmpFunc
namespace Go.Proofs.Ytpgnkfobgjplmaa
open Go Go.RowKit
set_option maxRecDepth 100000 in
set_option maxHeartbeats 1600000 in
theorem cmpls7 (k : Nat) (hP : Hid (∀ (a b : Vl) (ca cb : List Value) (w : World), VS k w w.heap.size a ca → VS k w w.heap.size b cb → Calls Try.prog 12 #[.agg ca.toArray, .agg cb.toArray] w fun e w' => e = .returned (.int .i64 (cmpV a b)) ∧ Below w.heap.size w w')) (A A' : Option Addr) (c c' : Nat) (l m : List (Vl)) (w : World) (hl : RowP w w.heap.size 7 (.slice A l.length c) l.length (fun j cs => ∃ x, l[j]? = some x ∧ VS k w w.heap.size x cs))
    (hm : RowP w w.heap.size 7 (.slice A' m.length c') m.length (fun j cs => ∃ x, m[j]? = some x ∧ VS k w w.heap.size x cs)) :
    Calls Try.prog 57 #[.slice A l.length c, .slice A' m.length c', .func (.func 12) #[] #[]] w fun e w' => e = .returned (.int .i64 (thn (cmpI l.length m.length) (cmpL cmpV l m))) ∧ Below w.heap.size w w' := by
  by_cases he : l.length = m.length
  · have hc := cmpf7 k hP A A' c c' l m w hl hm he
    have hz : cmpI l.length m.length = 0 := cmpI_zero.2 (by omega)
    have HT : Hid (thn (cmpI l.length m.length) (cmpL cmpV l m) = cmpL cmpV l m) := Lib.hid (by rw [hz]; rfl)
    have hq : (cmpI l.length m.length != 0) = false := by rw [bne_eq_false_iff_eq]; exact hz
    clear hl hm he
    have hi := cmpInt_any l.length m.length w
    generalize cmpI (l.length : Int) (m.length : Int) = z at hz hq HT hi
    generalize cmpL cmpV l m = y at hc HT
    subst hz
    go_enter Try.func57, Try.ntmps57
    go_wp2_with (go_at_call 42; refine hi.mono ?_; rintro e w1 ⟨rfl, rfl⟩; refine Hid.out ?_)
    refine Lib.hid ?_
    go_wp2_with (go_at_call 43; refine hc.mono ?_; rintro e w2 ⟨rfl, hb⟩; refine Hid.out ?_)
    refine Lib.hid ?_
    go_wp2
    go_ret
    exact ⟨ret_i HT.out.symm, hb⟩
  · have hz : cmpI l.length m.length ≠ 0 := fun h => he (by have := cmpI_zero.1 h; omega)
    have HT : Hid (thn (cmpI l.length m.length) (cmpL cmpV l m) = cmpI l.length m.length) := Lib.hid (thn_of hz _)
    have hq : (cmpI l.length m.length != 0) = true := by rw [bne_iff_ne]; exact hz
    clear hl hm he
    have hi := cmpInt_any l.length m.length w
    generalize cmpI (l.length : Int) (m.length : Int) = z at hz hq HT hi
    clear hz
    go_enter Try.func57, Try.ntmps57
    go_wp2_with (go_at_call 42; refine hi.mono ?_; rintro e w1 ⟨rfl, rfl⟩; refine Hid.out ?_)
    refine Lib.hid ?_
    go_wp2
    go_ret
    exact ⟨ret_i HT.out.symm, Below.refl _ _⟩
set_option maxRecDepth 100000 in
set_option maxHeartbeats 1600000 in
theorem cmpls9 (k : Nat) (hP : Hid (∀ (a b : En) (ca cb : List Value) (w : World), ES k w w.heap.size a ca → ES k w w.heap.size b cb → Calls Try.prog 45 #[.agg ca.toArray, .agg cb.toArray] w fun e w' => e = .returned (.int .i64 (cmpE a b)) ∧ Below w.heap.size w w')) (A A' : Option Addr) (c c' : Nat) (l m : List (En)) (w : World) (hl : RowP w w.heap.size 9 (.slice A l.length c) l.length (fun j cs => ∃ x, l[j]? = some x ∧ ES k w w.heap.size x cs))
    (hm : RowP w w.heap.size 9 (.slice A' m.length c') m.length (fun j cs => ∃ x, m[j]? = some x ∧ ES k w w.heap.size x cs)) :
    Calls Try.prog 44 #[.slice A l.length c, .slice A' m.length c', .func (.func 45) #[] #[]] w fun e w' => e = .returned (.int .i64 (thn (cmpI l.length m.length) (cmpL cmpE l m))) ∧ Below w.heap.size w w' := by
  by_cases he : l.length = m.length
  · have hc := cmpf9 k hP A A' c c' l m w hl hm he
    have hz : cmpI l.length m.length = 0 := cmpI_zero.2 (by omega)
    have HT : Hid (thn (cmpI l.length m.length) (cmpL cmpE l m) = cmpL cmpE l m) := Lib.hid (by rw [hz]; rfl)
    have hq : (cmpI l.length m.length != 0) = false := by rw [bne_eq_false_iff_eq]; exact hz
    clear hl hm he
    have hi := cmpInt_any l.length m.length w
    generalize cmpI (l.length : Int) (m.length : Int) = z at hz hq HT hi
    generalize cmpL cmpE l m = y at hc HT
    subst hz
    go_enter Try.func44, Try.ntmps44
    go_wp2_with (go_at_call 42; refine hi.mono ?_; rintro e w1 ⟨rfl, rfl⟩; refine Hid.out ?_)
    refine Lib.hid ?_
    go_wp2_with (go_at_call 56; refine hc.mono ?_; rintro e w2 ⟨rfl, hb⟩; refine Hid.out ?_)
    refine Lib.hid ?_
    go_wp2
    go_ret
    exact ⟨ret_i HT.out.symm, hb⟩
  · have hz : cmpI l.length m.length ≠ 0 := fun h => he (by have := cmpI_zero.1 h; omega)
    have HT : Hid (thn (cmpI l.length m.length) (cmpL cmpE l m) = cmpI l.length m.length) := Lib.hid (thn_of hz _)
    have hq : (cmpI l.length m.length != 0) = true := by rw [bne_iff_ne]; exact hz
    clear hl hm he
    have hi := cmpInt_any l.length m.length w
    generalize cmpI (l.length : Int) (m.length : Int) = z at hz hq HT hi
    clear hz
    go_enter Try.func44, Try.ntmps44
    go_wp2_with (go_at_call 42; refine hi.mono ?_; rintro e w1 ⟨rfl, rfl⟩; refine Hid.out ?_)
    refine Lib.hid ?_
    go_wp2
    go_ret
    exact ⟨ret_i HT.out.symm, Below.refl _ _⟩
set_option maxRecDepth 100000 in
set_option maxHeartbeats 1600000 in
theorem cmpls2 (A A' : Option Addr) (c c' : Nat) (l m : List (Int × List UInt8)) (w : World) (hl : RowP w w.heap.size 2 (.slice A l.length c) l.length (fun j cs => ∃ x, l[j]? = some x ∧ cs = [.int .i64 x.1, .string ⟨x.2.toArray⟩] ∧ (Lit.int .i64 x.1).wf = true ∧ x.2.length ≤ maxLen))
    (hm : RowP w w.heap.size 2 (.slice A' m.length c') m.length (fun j cs => ∃ x, m[j]? = some x ∧ cs = [.int .i64 x.1, .string ⟨x.2.toArray⟩] ∧ (Lit.int .i64 x.1).wf = true ∧ x.2.length ≤ maxLen)) :
    Calls Try.prog 40 #[.slice A l.length c, .slice A' m.length c', .func (.func 41) #[] #[]] w fun e w' => e = .returned (.int .i64 (thn (cmpI l.length m.length) (cmpL cmpK l m))) ∧ Below w.heap.size w w' := by
  by_cases he : l.length = m.length
  · have hc := cmpf2 A A' c c' l m w hl hm he
    have hz : cmpI l.length m.length = 0 := cmpI_zero.2 (by omega)
    have HT : Hid (thn (cmpI l.length m.length) (cmpL cmpK l m) = cmpL cmpK l m) := Lib.hid (by rw [hz]; rfl)
    have hq : (cmpI l.length m.length != 0) = false := by rw [bne_eq_false_iff_eq]; exact hz
    clear hl hm he
    have hi := cmpInt_any l.length m.length w
    generalize cmpI (l.length : Int) (m.length : Int) = z at hz hq HT hi
    generalize cmpL cmpK l m = y at hc HT
    subst hz
    go_enter Try.func40, Try.ntmps40
    go_wp2_with (go_at_call 42; refine hi.mono ?_; rintro e w1 ⟨rfl, rfl⟩; refine Hid.out ?_)
    refine Lib.hid ?_
    go_wp2_with (go_at_call 54; refine hc.mono ?_; rintro e w2 ⟨rfl, hb⟩; refine Hid.out ?_)
    refine Lib.hid ?_
    go_wp2
    go_ret
    exact ⟨ret_i HT.out.symm, hb⟩
  · have hz : cmpI l.length m.length ≠ 0 := fun h => he (by have := cmpI_zero.1 h; omega)
    have HT : Hid (thn (cmpI l.length m.length) (cmpL cmpK l m) = cmpI l.length m.length) := Lib.hid (thn_of hz _)
    have hq : (cmpI l.length m.length != 0) = true := by rw [bne_iff_ne]; exact hz
    clear hl hm he
    have hi := cmpInt_any l.length m.length w
    generalize cmpI (l.length : Int) (m.length : Int) = z at hz hq HT hi
    clear hz
    go_enter Try.func40, Try.ntmps40
    go_wp2_with (go_at_call 42; refine hi.mono ?_; rintro e w1 ⟨rfl, rfl⟩; refine Hid.out ?_)
    refine Lib.hid ?_
    go_wp2
    go_ret
    exact ⟨ret_i HT.out.symm, Below.refl _ _⟩
set_option maxRecDepth 100000 in
set_option maxHeartbeats 1600000 in
theorem cmpls1 (A A' : Option Addr) (c c' : Nat) (l m : List (List UInt8)) (w : World) (hl : RowP w w.heap.size 1 (.slice A l.length c) l.length (fun j cs => ∃ x, l[j]? = some x ∧ cs = [.string ⟨x.toArray⟩] ∧ x.length ≤ maxLen))
    (hm : RowP w w.heap.size 1 (.slice A' m.length c') m.length (fun j cs => ∃ x, m[j]? = some x ∧ cs = [.string ⟨x.toArray⟩] ∧ x.length ≤ maxLen)) :
    Calls Try.prog 46 #[.slice A l.length c, .slice A' m.length c', .func (.func 47) #[] #[]] w fun e w' => e = .returned (.int .i64 (thn (cmpI l.length m.length) (cmpL cmpT l m))) ∧ Below w.heap.size w w' := by
  by_cases he : l.length = m.length
  · have hc := cmpf1 A A' c c' l m w hl hm he
    have hz : cmpI l.length m.length = 0 := cmpI_zero.2 (by omega)
    have HT : Hid (thn (cmpI l.length m.length) (cmpL cmpT l m) = cmpL cmpT l m) := Lib.hid (by rw [hz]; rfl)
    have hq : (cmpI l.length m.length != 0) = false := by rw [bne_eq_false_iff_eq]; exact hz
    clear hl hm he
    have hi := cmpInt_any l.length m.length w
    generalize cmpI (l.length : Int) (m.length : Int) = z at hz hq HT hi
    generalize cmpL cmpT l m = y at hc HT
    subst hz
    go_enter Try.func46, Try.ntmps46
    go_wp2_with (go_at_call 42; refine hi.mono ?_; rintro e w1 ⟨rfl, rfl⟩; refine Hid.out ?_)
    refine Lib.hid ?_
    go_wp2_with (go_at_call 58; refine hc.mono ?_; rintro e w2 ⟨rfl, hb⟩; refine Hid.out ?_)
    refine Lib.hid ?_
    go_wp2
    go_ret
    exact ⟨ret_i HT.out.symm, hb⟩
  · have hz : cmpI l.length m.length ≠ 0 := fun h => he (by have := cmpI_zero.1 h; omega)
    have HT : Hid (thn (cmpI l.length m.length) (cmpL cmpT l m) = cmpI l.length m.length) := Lib.hid (thn_of hz _)
    have hq : (cmpI l.length m.length != 0) = true := by rw [bne_iff_ne]; exact hz
    clear hl hm he
    have hi := cmpInt_any l.length m.length w
    generalize cmpI (l.length : Int) (m.length : Int) = z at hz hq HT hi
    clear hz
    go_enter Try.func46, Try.ntmps46
    go_wp2_with (go_at_call 42; refine hi.mono ?_; rintro e w1 ⟨rfl, rfl⟩; refine Hid.out ?_)
    refine Lib.hid ?_
    go_wp2
    go_ret
    exact ⟨ret_i HT.out.symm, Below.refl _ _⟩
set_option maxHeartbeats 1600000 in
theorem cmpOwn_any (k i : Int) (t : List UInt8) (A1 A2 A3 A4 : Option Addr) (n1 c1 n2 c2 n3 c3 n4 c4 : Nat) (k' i' : Int) (t' : List UInt8) (A1' A2' A3' A4' : Option Addr) (n1' c1' n2' c2' n3' c3' n4' c4' : Nat) (w : World) :
    Calls Try.prog 39 #[.agg #[.int .i64 k, .int .i64 i, .string ⟨t.toArray⟩, .slice A1 n1 c1, .slice A2 n2 c2, .slice A3 n3 c3, .slice A4 n4 c4], .agg #[.int .i64 k', .int .i64 i', .string ⟨t'.toArray⟩, .slice A1' n1' c1', .slice A2' n2' c2', .slice A3' n3' c3', .slice A4' n4' c4']] w fun e w' => e = .returned (.int .i64 (thn (cmpI k k') (thn (cmpI i i') (cmpT t t')))) ∧ Below w.heap.size w w' := by
  have hk := fun W => cmpInt_any k k' W
  have hi := fun W => cmpInt64_any i i' W
  have ht : ∀ W, Calls Try.prog 47 #[.string ⟨t.toArray⟩, .string ⟨t'.toArray⟩] W fun e w' => e = .returned (.int .i64 (cmpT t t')) ∧ w' = W := fun W => strCmp_any ⟨t.toArray⟩ ⟨t'.toArray⟩ W
  generalize cmpI k k' = x at hk ⊢
  generalize cmpI i i' = y at hi ⊢
  generalize cmpT t t' = z at ht ⊢
  by_cases hx : x = 0
  · subst hx
    by_cases hy : y = 0
    · subst hy
      go_enter Try.func39, Try.ntmps39
      go_wp2_with (first | (go_at_call 42; refine (hk _).mono ?_; rintro e w' ⟨rfl, rfl⟩) | (go_at_call 53; refine (hi _).mono ?_; rintro e w' ⟨rfl, rfl⟩) | (go_at_call 47; refine (ht _).mono ?_; rintro e w' ⟨rfl, rfl⟩))
      go_ret
      exact ⟨rfl, ((Below.refl _ _).alloc (Nat.le_refl _) _).alloc (by simp) _⟩
    · have hq : (y != 0) = true := by rw [bne_iff_ne]; exact hy
      have HT : Hid (thn 0 (thn y z) = y) := Lib.hid (by rw [thn_of hy]; rfl)
      clear hy
      go_enter Try.func39, Try.ntmps39
      go_wp2_with (first | (go_at_call 42; refine (hk _).mono ?_; rintro e w' ⟨rfl, rfl⟩) | (go_at_call 53; refine (hi _).mono ?_; rintro e w' ⟨rfl, rfl⟩) | (go_at_call 47; refine (ht _).mono ?_; rintro e w' ⟨rfl, rfl⟩))
      go_ret
      exact ⟨ret_i HT.out.symm, ((Below.refl _ _).alloc (Nat.le_refl _) _).alloc (by simp) _⟩
  · have hq : (x != 0) = true := by rw [bne_iff_ne]; exact hx
    have HT : Hid (thn x (thn y z) = x) := Lib.hid (thn_of hx _)
    clear hx
    go_enter Try.func39, Try.ntmps39
    go_wp2_with (first | (go_at_call 42; refine (hk _).mono ?_; rintro e w' ⟨rfl, rfl⟩) | (go_at_call 53; refine (hi _).mono ?_; rintro e w' ⟨rfl, rfl⟩) | (go_at_call 47; refine (ht _).mono ?_; rintro e w' ⟨rfl, rfl⟩))
    go_ret
    exact ⟨ret_i HT.out.symm, ((Below.refl _ _).alloc (Nat.le_refl _) _).alloc (by simp) _⟩
end Go.Proofs.Ytpgnkfobgjplmaa
