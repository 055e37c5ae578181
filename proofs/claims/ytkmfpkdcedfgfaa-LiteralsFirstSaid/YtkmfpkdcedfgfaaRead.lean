/- What Valid, Contains and the document's ValidNames and HasName return. Condition: at most 10^6 strings. -/
import Derived.Test.YtkmfpkdcedfgfaaStd
import Derived.Test.YtkmfpkdcedfgfaaAmong
namespace Go.Proofs.Ytkmfpkdcedfgfaa
open Go.RowKit Go.Sort
theorem _root_.Go.Calls.flip {P : Program} {f : FuncId} {args : Array Value} {w : World} {v : Value} (h : Calls P f args w fun e w' => e = .returned v ∧ w = w') : Calls P f args w fun e w' => e = .returned v ∧ w' = w := h.mono fun _ _ ⟨he, hw⟩ => ⟨he, hw.symm⟩
theorem box_grown (w : World) (o : Obj) (q : Nat) : (w.alloc o).drewN q = grow (w.drewN q) #[o] := by rw [alloc_eq_grow]; rfl
theorem below_grow {B : Nat} {a w : World} (h : Below B a w) (hB : B ≤ w.heap.size) (q : Nat) (os : Array Obj) : Below B a (grow (w.drewN q) os) :=
  h.trans ⟨rfl, rfl, rfl, by simp [grow], fun k hk => by rw [heap_grow_old _ _ (by show k < w.heap.size; omega)]; rfl⟩
theorem _root_.Go.Calls.belowG {P : Program} {f : FuncId} {args : Array Value} {w : World} {v : Value} (h : Calls P f args w fun e w' => e = .returned v ∧ ∃ q os', w' = grow (w.drewN q) os') : Calls P f args w fun e w' => e = .returned v ∧ Below w.heap.size w w' :=
  h.mono fun _ _ ⟨he, q, os, hw⟩ => ⟨he, by rw [hw]; exact below_grow (Below.refl _ _) (Nat.le_refl _) q os⟩
theorem among_std (A : Option Addr) (n cap : Nat) (ss : List Strg) (x : Strg) (w : World) (B : Nat) (hR : NmS w B A n ss) (hn : n ≤ 1000000) :
    Calls Try.prog 33 #[.slice A n cap, .string ⟨x.toArray⟩] w fun e w' => e = .returned (.bool (decide (x ∈ ss))) ∧ w = w' := by
  have h := among_any A n cap B (ss.map mkB) ⟨x.toArray⟩ w hR.strS hn
  rw [lists_map] at h
  exact h
set_option maxRecDepth 100000 in
set_option maxHeartbeats 1600000 in
theorem valid_gr (co : Bool) (A : Option Addr) (n c : Nat) (ss : List Strg) (w : World) (hR : NmS w w.heap.size A n ss) (hn : n ≤ 1000000) :
    Calls Try.prog 12 #[.agg #[.bool co, .slice A n c]] w fun e w' => e = .returned (.bool (decide (Asc ss))) ∧ ∃ q os', w' = grow (w.drewN q) os' := by
  have hb0 : Below w.heap.size w (w.alloc (.cells #[.bool co, .slice A n c] 24)) := (Below.refl _ _).alloc (Nat.le_refl _) _
  have HR := Lib.hid (hR.kept hb0 (by simp))
  have HB := Lib.hid hb0
  clear hR hb0
  go_enter Try.func12, Try.ntmps12
  go_wp2
  go_loopw [3] (fun i wr => ∃ k : Nat, i = .int .i64 k ∧ 1 ≤ k ∧ k ≤ n + 1 ∧ (∀ j x y, j + 1 < k → ss[j]? = some x → ss[j + 1]? = some y → bl x y = true) ∧ ∃ q, wr = (w.alloc (.cells #[.bool co, .slice A n c] 24)).drewN q) (fun i _ => n + 1 - (intOf i).toNat)
  case atStart => exact ⟨1, rfl, by omega, by omega, fun j x y h => by omega, 0, rfl⟩
  case round =>
    obtain ⟨k, rfl, hk1, hk, hno, q, rfl⟩ := hrel
    have HN := Lib.hid hno
    clear hno
    by_cases hkn : k < n
    · obtain ⟨b, off, s, rfl, hb, hx, hs, c1⟩ := HR.out.at hkn
      obtain ⟨b', off', t, hA, hb', hy, ht, c2⟩ := HR.out.at (show k - 1 < n by omega)
      injection hA with hA
      injection hA with e1 e2
      subst e1 e2
      have HX := Lib.hid hx
      have HY := Lib.hid hy
      have kn : (k : Int) < (n : Int) := by omega
      have k0 : (0 : Int) ≤ (k : Int) := by omega
      have i1 : IntKind.i64.wrap ((k : Int) - 1) = (k : Int) - 1 := IntWalk.i64_in _ (by omega)
      have i2 : (1 : Int) ≤ (k : Int) := by omega
      have i3 : ((k : Int) - 1).toNat = k - 1 := by omega
      have i4 : (k : Int) - 1 < (n : Int) := by omega
      clear hx hy
      by_cases he : bl t s = true
      · have qb : Op.bytesLess t s = true := he
        have HT : Hid (∀ j x y, j + 1 < k + 1 → ss[j]? = some x → ss[j + 1]? = some y → bl x y = true) := Lib.hid (fun j x y hj hx hy => by
          by_cases h : j + 1 < k
          · exact HN.out j x y h hx hy
          · obtain rfl : k = j + 1 := by omega
            rw [HX.out] at hy
            rw [show j + 1 - 1 = j by omega] at HY
            rw [HY.out] at hx
            injection hx with hx; injection hy with hy
            rw [← hx, ← hy]; exact he)
        clear he
        go_wp2
        go_quiet (fail)
        go_wp2
        all_goals go_roundw
        case rel => exact ⟨k + 1, by go_num, by omega, by omega, HT.out, _, by first | rfl | rw [World.drewN_drewN]⟩
        case measure => simp [intOf]; omega
      · have qb : Op.bytesLess t s = false := Bool.eq_false_iff.2 he
        have HT : Hid (decide (Asc ss) = false) := Lib.hid (by
          rw [decide_eq_false_iff_not]
          intro h
          exact he (asc_adj h HY.out (by rw [show k - 1 + 1 = k by omega]; exact HX.out)))
        clear he
        go_wp2
        go_quiet (fail)
        go_wp2
        all_goals go_ret
        all_goals exact ⟨ret_bool HT.out.symm, by first | exact ⟨_, _, box_grown _ _ _⟩ | (rw [World.drewN_drewN]; exact ⟨_, _, box_grown _ _ _⟩)⟩
    · have HT : Hid (decide (Asc ss) = true) := Lib.hid (decide_eq_true (asc_of_adj ss fun j x y hx hy => HN.out j x y (by
        have := (List.getElem?_eq_some_iff.1 hy).1
        have := HR.out.1
        omega) hx hy))
      go_wp2
      go_ret
      exact ⟨ret_bool HT.out.symm, _, _, box_grown _ _ _⟩
set_option maxRecDepth 100000 in
set_option maxHeartbeats 1600000 in
theorem refValid_gr (co : Bool) (A : Option Addr) (n c : Nat) (ss : List Strg) (w : World) (hR : NmS w w.heap.size A n ss) (hn : n ≤ 1000000) :
    Calls Try.prog 14 #[.agg #[.bool co, .slice A n c]] w fun e w' => e = .returned (.bool (decide (Asc ss))) ∧ ∃ q os', w' = grow (w.drewN q) os' := by
  have hb0 : Below w.heap.size w (w.alloc (.cells #[.bool co, .slice A n c] 24)) := (Below.refl _ _).alloc (Nat.le_refl _) _
  have HR := Lib.hid (hR.kept hb0 (by simp))
  have HB := Lib.hid hb0
  clear hR hb0
  go_enter Try.func14, Try.ntmps14
  go_wp2
  go_loopw [3] (fun i wr => ∃ k : Nat, i = .int .i64 k ∧ 1 ≤ k ∧ k ≤ n + 1 ∧ (∀ j x y, j + 1 < k → ss[j]? = some x → ss[j + 1]? = some y → bl x y = true) ∧ ∃ q, wr = (w.alloc (.cells #[.bool co, .slice A n c] 24)).drewN q) (fun i _ => n + 1 - (intOf i).toNat)
  case atStart => exact ⟨1, rfl, by omega, by omega, fun j x y h => by omega, 0, rfl⟩
  case round =>
    obtain ⟨k, rfl, hk1, hk, hno, q, rfl⟩ := hrel
    have HN := Lib.hid hno
    clear hno
    by_cases hkn : k < n
    · obtain ⟨b, off, s, rfl, hb, hx, hs, c1⟩ := HR.out.at hkn
      obtain ⟨b', off', t, hA, hb', hy, ht, c2⟩ := HR.out.at (show k - 1 < n by omega)
      injection hA with hA
      injection hA with e1 e2
      subst e1 e2
      have HX := Lib.hid hx
      have HY := Lib.hid hy
      have kn : (k : Int) < (n : Int) := by omega
      have k0 : (0 : Int) ≤ (k : Int) := by omega
      have i1 : IntKind.i64.wrap ((k : Int) - 1) = (k : Int) - 1 := IntWalk.i64_in _ (by omega)
      have i2 : (1 : Int) ≤ (k : Int) := by omega
      have i3 : ((k : Int) - 1).toNat = k - 1 := by omega
      have i4 : (k : Int) - 1 < (n : Int) := by omega
      clear hx hy
      by_cases he : bl t s = true
      · have qb : Op.bytesLess t s = true := he
        have HT : Hid (∀ j x y, j + 1 < k + 1 → ss[j]? = some x → ss[j + 1]? = some y → bl x y = true) := Lib.hid (fun j x y hj hx hy => by
          by_cases h : j + 1 < k
          · exact HN.out j x y h hx hy
          · obtain rfl : k = j + 1 := by omega
            rw [HX.out] at hy
            rw [show j + 1 - 1 = j by omega] at HY
            rw [HY.out] at hx
            injection hx with hx; injection hy with hy
            rw [← hx, ← hy]; exact he)
        clear he
        go_wp2
        go_quiet (fail)
        go_wp2
        all_goals go_roundw
        case rel => exact ⟨k + 1, by go_num, by omega, by omega, HT.out, _, by first | rfl | rw [World.drewN_drewN]⟩
        case measure => simp [intOf]; omega
      · have qb : Op.bytesLess t s = false := Bool.eq_false_iff.2 he
        have HT : Hid (decide (Asc ss) = false) := Lib.hid (by
          rw [decide_eq_false_iff_not]
          intro h
          exact he (asc_adj h HY.out (by rw [show k - 1 + 1 = k by omega]; exact HX.out)))
        clear he
        go_wp2
        go_quiet (fail)
        go_wp2
        all_goals go_ret
        all_goals exact ⟨ret_bool HT.out.symm, by first | exact ⟨_, _, box_grown _ _ _⟩ | (rw [World.drewN_drewN]; exact ⟨_, _, box_grown _ _ _⟩)⟩
    · have HT : Hid (decide (Asc ss) = true) := Lib.hid (decide_eq_true (asc_of_adj ss fun j x y hx hy => HN.out j x y (by
        have := (List.getElem?_eq_some_iff.1 hy).1
        have := HR.out.1
        omega) hx hy))
      go_wp2
      go_ret
      exact ⟨ret_bool HT.out.symm, _, _, box_grown _ _ _⟩
set_option maxRecDepth 100000 in
set_option maxHeartbeats 1600000 in
theorem contains_gr (co : Bool) (A : Option Addr) (n c : Nat) (ss : List Strg) (x : Strg) (w : World) (hR : NmS w w.heap.size A n ss) (hn : n ≤ 1000000) :
    Calls Try.prog 13 #[.agg #[.bool co, .slice A n c], .string ⟨x.toArray⟩] w fun e w' => e = .returned (.bool (inN co ss x)) ∧ ∃ q os', w' = grow (w.drewN q) os' := by
  have hb0 : Below w.heap.size w (w.alloc (.cells #[.bool co, .slice A n c] 24)) := (Below.refl _ _).alloc (Nat.le_refl _) _
  have hcn := fun q => (contains_std A n c ss x ((w.alloc (.cells #[.bool co, .slice A n c] 24)).drewN q) _ ((hR.kept hb0 (by simp)).drewN q) (by omega)).flip
  have HB := Lib.hid hb0
  have HT : Hid (inN co ss x = (decide (x ∈ ss) != co)) := Lib.hid rfl
  clear hR hb0
  generalize decide (x ∈ ss) = d at hcn HT
  go_enter Try.func13, Try.ntmps13
  go_wp2
  go_quiet ((go_at_call 29; refine Calls.quiet_of_same (hcn _)))
  go_wp2
  all_goals go_ret
  all_goals exact ⟨ret_bool (by rw [HT.out]; rfl), _, _, box_grown _ _ _⟩
set_option maxRecDepth 100000 in
set_option maxHeartbeats 1600000 in
theorem hasName_gr (co : Bool) (A : Option Addr) (n c : Nat) (ss : List Strg) (x : Strg) (w : World) (hR : NmS w w.heap.size A n ss) (hn : n ≤ 1000000) :
    Calls Try.prog 18 #[.agg #[.bool co, .slice A n c], .string ⟨x.toArray⟩] w fun e w' => e = .returned (.bool (inN co ss x)) ∧ ∃ q os', w' = grow (w.drewN q) os' := by
  have hb0 : Below w.heap.size w (w.alloc (.cells #[.bool co, .slice A n c] 24)) := (Below.refl _ _).alloc (Nat.le_refl _) _
  have hcn := fun q => (among_std A n c ss x ((w.alloc (.cells #[.bool co, .slice A n c] 24)).drewN q) _ ((hR.kept hb0 (by simp)).drewN q) (by omega)).flip
  have HB := Lib.hid hb0
  have HT : Hid (inN co ss x = (decide (x ∈ ss) != co)) := Lib.hid rfl
  clear hR hb0
  generalize decide (x ∈ ss) = d at hcn HT
  go_enter Try.func18, Try.ntmps18
  go_wp2
  go_quiet ((go_at_call 33; refine Calls.quiet_of_same (hcn _)))
  go_wp2
  all_goals go_ret
  all_goals exact ⟨ret_bool (by rw [HT.out]; rfl), _, _, box_grown _ _ _⟩
theorem valid_any (co : Bool) (A : Option Addr) (n c : Nat) (ss : List Strg) (w : World) (hR : NmS w w.heap.size A n ss) (hn : n ≤ 1000000) :
    Calls Try.prog 12 #[.agg #[.bool co, .slice A n c]] w fun e w' => e = .returned (.bool (decide (Asc ss))) ∧ Below w.heap.size w w' := (valid_gr co A n c ss w hR hn).belowG
theorem refValid_any (co : Bool) (A : Option Addr) (n c : Nat) (ss : List Strg) (w : World) (hR : NmS w w.heap.size A n ss) (hn : n ≤ 1000000) :
    Calls Try.prog 14 #[.agg #[.bool co, .slice A n c]] w fun e w' => e = .returned (.bool (decide (Asc ss))) ∧ Below w.heap.size w w' := (refValid_gr co A n c ss w hR hn).belowG
theorem contains_any (co : Bool) (A : Option Addr) (n c : Nat) (ss : List Strg) (x : Strg) (w : World) (hR : NmS w w.heap.size A n ss) (hn : n ≤ 1000000) :
    Calls Try.prog 13 #[.agg #[.bool co, .slice A n c], .string ⟨x.toArray⟩] w fun e w' => e = .returned (.bool (inN co ss x)) ∧ Below w.heap.size w w' := (contains_gr co A n c ss x w hR hn).belowG
theorem hasName_any (co : Bool) (A : Option Addr) (n c : Nat) (ss : List Strg) (x : Strg) (w : World) (hR : NmS w w.heap.size A n ss) (hn : n ≤ 1000000) :
    Calls Try.prog 18 #[.agg #[.bool co, .slice A n c], .string ⟨x.toArray⟩] w fun e w' => e = .returned (.bool (inN co ss x)) ∧ Below w.heap.size w w' := (hasName_gr co A n c ss x w hR hn).belowG
end Go.Proofs.Ytkmfpkdcedfgfaa
