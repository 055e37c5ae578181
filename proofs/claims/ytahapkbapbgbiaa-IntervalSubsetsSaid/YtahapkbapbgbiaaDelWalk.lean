/- The walk of slices.DeleteFunc(s, isEmpty) where s is a slice of the call's own: the ranges that are not empty are left. Condition: at most 10^9 ranges. -/
import Derived.Test.YtahapkbapbgbiaaDelete
namespace Go.Proofs.Ytahapkbapbgbiaa
open Go.RowKit
def neB (r : Rg) : Bool := !emptyB r
theorem filter_none {rs : List Rg} (h : ∀ r ∈ rs, emptyB r = false) : rs.filter neB = rs := by
  rw [List.filter_eq_self]
  intro r hr
  simp [neB, h r hr]
theorem first_empty (rs : List Rg) : (∀ r ∈ rs, emptyB r = false) ∨ ∃ (m : Nat) (x : Rg), rs[m]? = some x ∧ emptyB x = true ∧ ∀ (j : Nat) (r : Rg), j < m → rs[j]? = some r → emptyB r = false := by
  induction rs with
  | nil => exact .inl (by simp)
  | cons y l ih =>
    by_cases hy : emptyB y = true
    · exact .inr ⟨0, y, rfl, hy, fun j r hj => by omega⟩
    · have hy' : emptyB y = false := by simpa using hy
      rcases ih with h | ⟨m, x, h1, h2, h3⟩
      · refine .inl ?_
        intro r hr
        rcases List.mem_cons.1 hr with rfl | hr
        · exact hy'
        · exact h r hr
      · refine .inr ⟨m + 1, x, by simpa using h1, h2, ?_⟩
        intro j r hj hr
        cases j with
        | zero => simp at hr; subst hr; exact hy'
        | succ j => exact h3 j r (by omega) (by simpa using hr)
theorem filter_take_first {rs : List Rg} {m : Nat} {x : Rg} (hx : rs[m]? = some x) (hxe : emptyB x = true) (h : ∀ j r, j < m → rs[j]? = some r → emptyB r = false) : (rs.take (m + 1)).filter neB = rs.take m := by
  rw [List.take_add_one, hx, List.filter_append]
  have : (rs.take m).filter neB = rs.take m := by
    refine filter_none fun r hr => ?_
    obtain ⟨j, hj⟩ := List.mem_iff_getElem?.1 hr
    rw [List.getElem?_take] at hj
    split at hj
    · exact h j r (by assumption) hj
    · cases hj
  rw [this]
  simp [neB, hxe]
theorem filter_take_keep {rs : List Rg} {j : Nat} {x : Rg} (hx : rs[j]? = some x) (hxe : emptyB x = false) : (rs.take (j + 1)).filter neB = (rs.take j).filter neB ++ [x] := by
  rw [List.take_add_one, hx, List.filter_append]
  simp [neB, hxe]
theorem filter_take_drop {rs : List Rg} {j : Nat} {x : Rg} (hx : rs[j]? = some x) (hxe : emptyB x = true) : (rs.take (j + 1)).filter neB = (rs.take j).filter neB := by
  rw [List.take_add_one, hx, List.filter_append]
  simp [neB, hxe]
/-- the row while it is rewritten -/
structure DelInv (rs M : List Rg) (i j : Nat) : Prop where
  len : M.length = rs.length
  lt : i < j
  le : j ≤ rs.length
  done : M.take i = (rs.take j).filter neB
  rest : ∀ k, j ≤ k → M[k]? = rs[k]?
theorem DelInv.start {rs : List Rg} {m : Nat} {x : Rg} (hx : rs[m]? = some x) (hxe : emptyB x = true) (h : ∀ j r, j < m → rs[j]? = some r → emptyB r = false) : DelInv rs rs m (m + 1) :=
  ⟨rfl, by omega, by have := (List.getElem?_eq_some_iff.1 hx).1; omega, (filter_take_first hx hxe h).symm, fun _ _ => rfl⟩
theorem DelInv.skip {rs M : List Rg} {i j : Nat} {x : Rg} (h : DelInv rs M i j) (hx : rs[j]? = some x) (hxe : emptyB x = true) : DelInv rs M i (j + 1) :=
  ⟨h.len, by have := h.lt; omega, by have := (List.getElem?_eq_some_iff.1 hx).1; omega, by rw [filter_take_drop hx hxe]; exact h.done, fun k hk => h.rest k (by omega)⟩
theorem DelInv.keep {rs M : List Rg} {i j : Nat} {x : Rg} (h : DelInv rs M i j) (hx : rs[j]? = some x) (hxe : emptyB x = false) : DelInv rs (M.set i x) (i + 1) (j + 1) := by
  have hl := h.len
  have hlt := h.lt
  have hj := (List.getElem?_eq_some_iff.1 hx).1
  refine ⟨by simpa using hl, by omega, by omega, ?_, ?_⟩
  · rw [filter_take_keep hx hxe, ← h.done, List.take_add_one, List.getElem?_set_self (by omega), List.take_set_of_le (Nat.le_refl _)]
    rfl
  · intro k hk
    rw [List.getElem?_set_ne (by omega)]
    exact h.rest k (by omega)
theorem bcell {W w1 : World} (hb : Below W.heap.size W w1) : (∀ b o, b < W.heap.size → w1.cell? ⟨b, o, none⟩ = W.cell? ⟨b, o, none⟩) ∧ (∀ b o, b < W.heap.size → w1.frozen? ⟨b, o, none⟩ = W.frozen? ⟨b, o, none⟩) :=
  ⟨fun b o h => hb.cell (p := ⟨b, o, none⟩) h, fun b o h => hb.frozen (p := ⟨b, o, none⟩) h⟩
set_option maxHeartbeats 3200000 in
theorem deleteFunc_any (v : Value) (rs : List Rg) (w : World) (B : Nat) (hO : OwnR w B v rs) (hf : Fit rs) (hB : B ≤ w.heap.size) (hn : rs.length ≤ 1000000000) :
    Calls Try.prog 25 #[v, .func (.func 27) #[] #[]] w fun e w' => ∃ v', e = .returned v' ∧ OwnR w' B v' (rs.filter neB) ∧ Below B w w' := by
  rcases first_empty rs with h | ⟨m, x, hx, hxe, h⟩
  · obtain ⟨A, c, rfl⟩ := hO.form
    have hc := fun w' (hb : Below w.heap.size w w') => indexEmpty_none A rs.length c rs w' ((hO.rng hf).kept hb hb.size) hn h
    have HO := Lib.hid hO
    have HE := Lib.hid (filter_none h)
    clear hO h
    have hcw := hc w (Below.refl _ _)
    clear hc
    go_enter Try.func25, Try.ntmps25
    go_wp2_with (go_at_call 39; refine hcw.mono ?_; rintro e w' ⟨rfl, hb⟩)
    all_goals go_ret
    all_goals exact ⟨_, rfl, by rw [HE.out]; exact HO.out.old hb, hb.mono hB⟩
  · have hlen : 0 < rs.length := by have := (List.getElem?_eq_some_iff.1 hx).1; omega
    have hml : m < rs.length := (List.getElem?_eq_some_iff.1 hx).1
    obtain ⟨g, c, rfl, hBg, hgs, hlc⟩ := hO.formG hlen
    have hcw := indexEmpty_some (some ⟨g, 0, none⟩) rs.length c rs w m x (hO.rng hf) hn hx hxe h
    have HS := Lib.hid (DelInv.start hx hxe h)
    have HF := Lib.hid hf
    have HO := Lib.hid hO
    clear hO h hx hf
    obtain ⟨n, hnn⟩ : ∃ n, n = rs.length := ⟨_, rfl⟩
    rw [← hnn] at hcw hn hlen hml hlc
    have HN := Lib.hid hnn
    rw [← hnn]
    have q1 : ((m : Int) == -1) = false := by rw [beq_eq_false_iff_ne]; omega
    clear hnn
    go_enter Try.func25, Try.ntmps25
    go_wp2_with (go_at_call 39; refine hcw.mono ?_; rintro e w' ⟨rfl, hb⟩)
    go_loopw [5, 6, 7] (fun s5 s6 _ wr => ∃ (i j : Nat) (M : List Rg), s5 = .int .i64 i ∧ s6 = .int .i64 j ∧ DelInv rs M i j ∧ OwnR wr B (.slice (some ⟨g, 0, none⟩) n c) M ∧ Below B w wr) (fun _ s6 _ _ => n - (intOf s6).toNat)
    case atStart => exact ⟨m, m + 1, rs, rfl, by go_num, HS.out, by rw [HN.out]; exact HO.out.old hb, hb.mono hB⟩
    case round =>
      obtain ⟨i, j, M, rfl, rfl, hI, hM, hbw⟩ := hrel
      have HI := Lib.hid hI
      have HM := Lib.hid hM
      have hij := hI.lt
      have hjn : j ≤ n := by rw [HN.out]; exact hI.le
      have HL : Hid (M.length = n) := Lib.hid (by rw [HN.out]; exact hI.len)
      have hsz := hbw.size
      clear hI hM
      have hgw : g < wr.heap.size := by omega
      by_cases hlt : j < n
      · obtain ⟨r1, r2, hx⟩ : ∃ r1 r2, rs[j]? = some (r1, r2) := ⟨_, _, List.getElem?_eq_getElem (by have := HN.out; omega)⟩
        have hy : M[j]? = some (r1, r2) := (HI.out.rest j (Nat.le_refl _)).trans hx
        have c1 := HM.out.lo HL.out hy
        have c2 := HM.out.hi HL.out hy
        have HX := Lib.hid hx
        clear hx hy
        simp only at c1 c2
        have hm := fun w => isEmpty_any r1 r2 w
        cases he : emptyB (r1, r2)
        · rw [he] at hm
          have HE := Lib.hid he
          clear he
          obtain ⟨y1, y2, hz⟩ : ∃ y1 y2, M[i]? = some (y1, y2) := ⟨_, _, List.getElem?_eq_getElem (by have := HL.out; omega)⟩
          have d1 := HM.out.lo HL.out hz
          have d2 := HM.out.hi HL.out hz
          have f1 := HM.out.free HL.out (i * 2)
          have f2 := HM.out.free HL.out (i * 2 + 1)
          simp only at d1 d2
          clear hz
          go_wp2_with (go_at_call 27; refine (hm _).mono ?_; rintro e w' ⟨rfl, hb1⟩; refine Hid.out ?_)
          refine Lib.hid ?_
          obtain ⟨hcc, hff⟩ := bcell hb1
          have hgs1 : g < wr.heap.size + 1 := by omega
          go_wp2
          all_goals go_roundw
          case rel =>
            have hbA : Below wr.heap.size wr w' := ((Below.refl _ _).alloc (Nat.le_refl _) _).trans (hb1.mono (by simp))
            exact ⟨i + 1, j + 1, M.set i (r1, r2), by go_num, by go_num, HI.out.keep HX.out HE.out, (HM.out.old hbA).set HL.out i (r1, r2), ((hbw.trans (hbA.mono (by omega))).setCell (p := ⟨g, i * 2, none⟩) hBg _).setCell (p := ⟨g, i * 2 + 1, none⟩) hBg _⟩
          case measure => simp [intOf]; omega
        · rw [he] at hm
          have HE := Lib.hid he
          clear he
          go_wp2_with (go_at_call 27; refine (hm _).mono ?_; rintro e w' ⟨rfl, hb1⟩)
          all_goals go_roundw
          case rel => exact ⟨i, j + 1, M, rfl, by go_num, HI.out.skip HX.out HE.out, HM.out.old (((Below.refl _ _).alloc (Nat.le_refl _) _).trans (hb1.mono (by simp))), hbw.trans ((((Below.refl _ _).alloc (Nat.le_refl _) _).trans (hb1.mono (by simp))).mono (by omega))⟩
          case measure => simp [intOf]; omega
      · obtain rfl : j = n := by omega
        obtain ⟨w2, hcl, ho2, hg2⟩ := run_clearR HM.out HL.out i (c - i) hij
        have HT : Hid (M.take i = rs.filter neB) := Lib.hid (by rw [HI.out.done, HN.out, List.take_of_length_le (Nat.le_refl _)])
        have HO2 := Lib.hid ho2
        have HG2 := Lib.hid hg2
        clear ho2 hg2
        have ic : (i : Int) ≤ (j : Int) := by omega
        have jc : (j : Int) ≤ (c : Int) := by omega
        have ic2 : ¬ (c = i) := by omega
        go_wp2
        all_goals go_ret
        all_goals exact ⟨_, rfl, by rw [← HT.out]; exact HO2.out, hbw.grown HG2.out (by omega) (fun k hk => by injection hk with hk; omega)⟩
end Go.Proofs.Ytahapkbapbgbiaa
