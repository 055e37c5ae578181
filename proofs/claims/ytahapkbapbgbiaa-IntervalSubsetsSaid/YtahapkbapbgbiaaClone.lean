/- What slices.Clone, slices.ContainsFunc and Contains return at slices of ranges. Conditions: the slice reads as the ranges, at most 10^9 of them. -/
import Derived.Test.YtahapkbapbgbiaaRead
import Derived.Test.YtahapkbapbgbiaaShelf
namespace Go.Proofs.Ytahapkbapbgbiaa
open Go.RowKit
set_option maxHeartbeats 800000 in
theorem clone_zero (a : Addr) (c : Nat) (w : World) :
    Calls Try.prog 26 #[.slice (some a) 0 c] w fun e w' => ∃ v', e = .returned v' ∧ OwnR w' w.heap.size v' [] ∧ Below w.heap.size w w' := by
  obtain ⟨i0, hi, hz0, hz1, hz2⟩ := info_parts Try.infoR
  have q22 : ∀ (w : World) (a : Option Addr) (n c n' c' : Nat), (binOp .eql 22 (.slice a n c) (.slice none n' c')).run Try.prog w = .ok (.bool a.isNone) w := fun w a n c n' c' => Lib.run_eql_slice_nil w _ _ a n c n' c' Try.underlying22
  go_enter Try.func26, Try.ntmps26
  go_wp2_with (at_builtin; refine wpList_append_own _ rfl _ _ 22 rfl w.heap.size 35 i0 (.agg #[.int .i64 0, .int .i64 0]) 2 16 Try.underlying22 hi hz0 hz1 hz2 rfl (by decide) _ _ _ rfl (World.ownsRow_made w #[] 0 (Nat.le_refl _) (Nat.zero_le _) rfl) a 0 c [] rfl rfl (by intro j u hj; simp at hj) (by intro u hu; cases hu) (by unfold maxLen; omega) (by omega) (by simp) ?_)
  intro v' w1 hown hgrow hnil
  go_wp2
  go_ret
  refine ⟨v', rfl, ?_, ?_⟩
  · have : w1.ownsRow w.heap.size 35 2 v' 0 [] := by simpa using hown
    exact this
  · exact ((Below.refl _ w).alloc (Nat.le_refl _) _).grown hgrow (by simp) (by intro k hk; simp [Value.ownBlock] at hk; omega)
theorem flatR_at {w : World} {b off : Nat} {rs : List Rg} (h : ∀ j r, rs[j]? = some r → w.cell? ⟨b, off + j * 2, none⟩ = some (.int .i64 r.1) ∧ w.cell? ⟨b, off + j * 2 + 1, none⟩ = some (.int .i64 r.2)) :
    ∀ j u, (flatR rs)[j]? = some u → w.cell? ⟨b, off + j, none⟩ = some u := by
  intro j u hj
  have hl : j < rs.length * 2 := by
    have := (List.getElem?_eq_some_iff.1 hj).1
    rwa [flatR_length] at this
  have hx : rs[j / 2]? = some (rs[j / 2]'(by omega)) := List.getElem?_eq_getElem _
  have h1 := flatR_lo rs _ _ hx
  have h2 := flatR_hi rs _ _ hx
  have hc := h _ _ hx
  rcases Nat.mod_two_eq_zero_or_one j with e | e
  · have : j / 2 * 2 = j := by omega
    rw [this] at h1 hc
    rw [h1] at hj
    exact hc.1.trans hj
  · have : j / 2 * 2 + 1 = j := by omega
    rw [Nat.add_assoc, this] at hc
    rw [this] at h2
    rw [h2] at hj
    exact hc.2.trans hj
theorem clone_any (A : Option Addr) (n cap : Nat) (rs : List Rg) (w : World) (B : Nat) (hR : RngS w B A n rs) (hn : n ≤ 1000000000) :
    Calls Try.prog 26 #[.slice A n cap] w fun e w' => ∃ v', e = .returned v' ∧ OwnR w' w.heap.size v' rs ∧ Below w.heap.size w w' := by
  rcases Nat.eq_zero_or_pos n with h0 | h0
  · have hr : rs = [] := List.eq_nil_of_length_eq_zero (hR.1.symm.trans h0)
    subst hr
    subst h0
    rcases A with _ | a
    · have := AnyE.slices_Clone_nil Try.cloneR 0 cap w
      change Calls Try.prog 26 _ _ _ at this
      exact this.mono fun e w' ⟨he, hw⟩ => ⟨_, he, OwnR.nil _ _, by rw [hw]; exact Below.refl _ _⟩
    · exact clone_zero a cap w
  · obtain ⟨b, off, rfl, hb, hc⟩ := hR.2.2 h0
    obtain ⟨i0, hi, hz0, hz1, hz2⟩ := info_parts Try.infoR
    have := AnyE.slices_Clone Try.cloneR i0 (.agg #[.int .i64 0, .int .i64 0]) 2 16 hi hz0 hz1 hz2 rfl (by decide) Try.sizeOf35 b off n cap (flatR rs) w (by rw [flatR_length, ← hR.1]) (by unfold maxLen; omega) (by omega) (flatR_at hc) (flatR_one rs)
    change Calls Try.prog 26 _ _ _ at this
    refine this.mono fun e w' ⟨v', he, ho, _, hbl⟩ => ⟨v', he, ?_, hbl⟩
    unfold OwnR
    rw [← hR.1]
    exact ho
set_option maxHeartbeats 400000 in
/-- the closure of Contains -/
theorem between_any (a b x : Int) (Bx : Nat) (w : World) (hc : w.cell? ⟨Bx, 0, none⟩ = some (.int .i64 x)) :
    Calls Try.prog 33 #[.agg #[.int .i64 a, .int .i64 b], .pointer (some ⟨Bx, 0, none⟩)] w fun e w' => e = .returned (.bool (decide (a ≤ x) && decide (x ≤ b))) ∧ Below w.heap.size w w' := by
  have hc' : ∀ o, (w.alloc o).cell? ⟨Bx, 0, none⟩ = some (.int .i64 x) := fun o => Lib.cell?_alloc_some _ hc
  by_cases hx : a ≤ x
  · have q : decide (a ≤ x) = true := by simpa using hx
    go_enter Try.func33, Try.ntmps33
    go_wp2
    all_goals go_ret
    all_goals exact ⟨ret_bool (by simp_all), (Below.refl _ _).alloc (Nat.le_refl _) _⟩
  · have q : decide (a ≤ x) = false := by simpa using hx
    go_enter Try.func33, Try.ntmps33
    go_wp2
    all_goals go_ret
    all_goals exact ⟨ret_bool (by simp_all), (Below.refl _ _).alloc (Nat.le_refl _) _⟩
set_option maxHeartbeats 800000 in
theorem indexFunc_zero (A : Option Addr) (c : Nat) (f : Value) (w : World) :
    Calls Try.prog 39 #[.slice A 0 c, f] w fun e w' => e = .returned (.int .i64 (-1)) ∧ w = w' := by
  go_enter Try.func39, Try.ntmps39
  go_wp2
  go_loop [8] (fun i => i = .int .i64 0) (fun _ => 0)
  case atStart => rfl
  case round =>
    obtain rfl := hrel
    go_wp2
    all_goals go_ret
    all_goals exact ⟨rfl, rfl⟩
set_option maxHeartbeats 800000 in
theorem containsFunc_zero (A : Option Addr) (c : Nat) (f : Value) (w : World) :
    Calls Try.prog 32 #[.slice A 0 c, f] w fun e w' => e = .returned (.bool false) ∧ w = w' := by
  go_enter Try.func32, Try.ntmps32
  go_wp2_with (go_at_call 39; refine (indexFunc_zero _ _ _ _).mono ?_; rintro e w' ⟨rfl, rfl⟩)
  all_goals go_ret
  all_goals exact ⟨rfl, rfl⟩
theorem Below.down {B : Nat} {w w1 w2 : World} {o : Obj} (h : Below (w.alloc o).heap.size w1 w2) (hB : B ≤ w.heap.size) : Below B w1 w2 := h.mono (by simp; omega)
theorem containsFunc_any (A : Option Addr) (n cap : Nat) (rs : List Rg) (x : Int) (w : World) (Bx : Nat) (hR : RngS w w.heap.size A n rs) (hn : n ≤ 1000000000) (hBx : Bx < w.heap.size) (hx : w.cell? ⟨Bx, 0, none⟩ = some (.int .i64 x)) :
    Calls Try.prog 32 #[.slice A n cap, .func (.func 33) #[] #[.pointer (some ⟨Bx, 0, none⟩)]] w fun e w' => e = .returned (.bool (hasB rs x)) ∧ Below w.heap.size w w' := by
  rcases Nat.eq_zero_or_pos n with h0 | h0
  · have hr : rs = [] := List.eq_nil_of_length_eq_zero (hR.1.symm.trans h0)
    subst hr
    subst h0
    exact (containsFunc_zero A cap _ w).mono fun e w' ⟨he, hw⟩ => ⟨he, by rw [hw]; exact Below.refl _ _⟩
  · obtain ⟨b, off, rfl, hb, hc⟩ := hR.2.2 h0
    have hp : PredBelow Try.prog 33 #[.pointer (some ⟨Bx, 0, none⟩)] (fun r : Rg => .agg (cellsR r).toArray) (fun r => decide (r.1 ≤ x) && decide (x ≤ r.2)) w := by
      intro W r hW
      exact (between_any r.1 r.2 x Bx W ((hW.cell (p := ⟨Bx, 0, none⟩) hBx).trans hx)).mono fun e w' ⟨he, hbl⟩ => ⟨he, hW.trans (hbl.mono hW.size)⟩
    have := AnyQ.slices_ContainsFunc Try.containsR 2 Try.isAgg35 Try.sizeOf35 cellsR (fun _ => rfl) (fun r : Rg => decide (r.1 ≤ x) && decide (x ≤ r.2)) 33 #[.pointer (some ⟨Bx, 0, none⟩)] (enters_of Try.func33 (by kernel_rfl) rfl) b off n cap rs w hp (by rw [hR.1]; exact Nat.le_refl _) (by omega) hb (by
      intro j hj i v hi
      have hx2 : rs[j]? = some rs[j]! := by rw [getElem!_pos rs j hj]; exact List.getElem?_eq_getElem hj
      have h2 := hc j _ hx2
      generalize rs[j]! = r at hi h2
      simp only [cellsR] at hi
      match i, hi with
      | 0, hi => simp at hi; rw [← hi]; exact h2.1
      | 1, hi => simp at hi; rw [← hi]; exact h2.2)
    change Calls Try.prog 32 _ _ _ at this
    refine this.mono fun e w' ⟨he, hbl⟩ => ⟨?_, hbl⟩
    rw [he]
    refine ret_bool ?_
    rw [List.take_of_length_le (by rw [hR.1]; exact Nat.le_refl _)]
    rfl
set_option maxHeartbeats 800000 in
theorem contains_any (A : Option Addr) (n cap : Nat) (rs : List Rg) (x : Int) (w : World) (hR : RngS w w.heap.size A n rs) (hn : n ≤ 1000000000) :
    Calls Try.prog 11 #[.slice A n cap, .int .i64 x] w fun e w' => e = .returned (.bool (hasB rs x)) ∧ Below w.heap.size w w' := by
  have HR := Lib.hid hR
  clear hR
  have hb0 : Below w.heap.size w (w.alloc (.cells #[.int .i64 x] 2)) := (Below.refl _ _).alloc (Nat.le_refl _) _
  go_enter Try.func11, Try.ntmps11
  go_wp2_with fail
  refine (containsFunc_any A n cap rs x _ w.heap.size (HR.out.kept hb0 (by simp)) hn (by simp) (by simp)).mono ?_
  rintro e w' ⟨rfl, hb1⟩
  go_wp2
  all_goals go_ret
  all_goals exact ⟨rfl, hb0.trans (hb1.mono (by simp))⟩
end Go.Proofs.Ytahapkbapbgbiaa
