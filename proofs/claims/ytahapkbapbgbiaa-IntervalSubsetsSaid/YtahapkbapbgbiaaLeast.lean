/- What Least returns: the member with the least absolute value, the positive one of two. Condition: at most 10^6 ranges. -/
import Derived.Test.YtahapkbapbgbiaaRead
namespace Go.Proofs.Ytahapkbapbgbiaa
open Go.RowKit
/-- y is before x: closer to 0, or as close and greater -/
def before (y x : Int) : Prop := absI y < absI x ∨ absI y = absI x ∧ x < y
theorem closer_iff (a b : Int) : closerB a b = true ↔ before a b := by unfold closerB before; simp
/-- x is the member with the least absolute value -/
def IsLeast (P : Int → Prop) (x : Int) : Prop := P x ∧ ∀ y, P y → ¬ before y x
theorem before_total {a b : Int} (h1 : ¬ before a b) (h2 : ¬ before b a) : a = b := by
  have ha := absI_cases a
  have hb := absI_cases b
  unfold before at h1 h2
  omega
theorem least_unique {P : Int → Prop} {a b : Int} (ha : IsLeast P a) (hb : IsLeast P b) : a = b := before_total (hb.2 a ha.1) (ha.2 b hb.1)
theorem before_trans {a b c : Int} (h1 : before a b) (h2 : before b c) : before a c := by unfold before at *; omega
theorem near_least {r : Rg} (h : r.1 ≤ r.2) : IsLeast (inR r) (nearZ r) := by
  unfold IsLeast inR nearZ
  refine ⟨by omega, fun y hy => ?_⟩
  have h1 := absI_cases y
  have h2 := absI_cases (min (max 0 r.1) r.2)
  unfold before
  omega
theorem near_fit {r : Rg} (h : Fit1 r) : LO ≤ nearZ r ∧ nearZ r ≤ HI := by unfold nearZ Fit1 LO HI at *; omega
/-- the result after the first k ranges -/
def LeastInv (rs : List Rg) (k : Nat) (x : Int) (found : Bool) : Prop :=
  (found = false ∧ x = 0 ∧ ∀ y, ¬ hasI (rs.take k) y) ∨ (found = true ∧ IsLeast (hasI (rs.take k)) x ∧ LO ≤ x ∧ x ≤ HI)
theorem LeastInv.skip {rs : List Rg} {k : Nat} {x : Int} {f : Bool} {r : Rg} (h : LeastInv rs k x f) (hr : rs[k]? = some r) (he : r.2 < r.1) : LeastInv rs (k + 1) x f := by
  have e : ∀ y, hasI (rs.take (k + 1)) y ↔ hasI (rs.take k) y := fun y => by
    rw [List.take_add_one, hr]
    refine (hasI_snoc _ _ _).trans ⟨?_, .inl⟩
    rintro (h | h)
    · exact h
    · unfold inR at h; omega
  rcases h with ⟨a, b, c⟩ | ⟨a, b, c⟩
  · exact .inl ⟨a, b, fun y hy => c y ((e y).1 hy)⟩
  · exact .inr ⟨a, ⟨(e x).2 b.1, fun y hy => b.2 y ((e y).1 hy)⟩, c⟩
theorem LeastInv.take {rs : List Rg} {k : Nat} {x : Int} {f : Bool} {r : Rg} (h : LeastInv rs k x f) (hr : rs[k]? = some r) (hf : Fit1 r) (he : r.1 ≤ r.2) (hc : f = false ∨ closerB (nearZ r) x = true) : LeastInv rs (k + 1) (nearZ r) true := by
  have e : ∀ y, hasI (rs.take (k + 1)) y ↔ hasI (rs.take k) y ∨ inR r y := fun y => by
    rw [List.take_add_one, hr]; exact hasI_snoc _ _ _
  have hn := near_least he
  refine .inr ⟨rfl, ⟨(e _).2 (.inr hn.1), fun y hy => ?_⟩, near_fit hf⟩
  rcases (e y).1 hy with hy | hy
  · rcases h with ⟨_, _, c⟩ | ⟨a, b, _⟩
    · exact absurd hy (c y)
    · rcases hc with hc | hc
      · rw [hc] at a; cases a
      · exact fun q => b.2 y hy (before_trans q ((closer_iff _ _).1 hc))
  · exact hn.2 y hy
theorem LeastInv.keep {rs : List Rg} {k : Nat} {x : Int} {r : Rg} (h : LeastInv rs k x true) (hr : rs[k]? = some r) (he : r.1 ≤ r.2) (hc : closerB (nearZ r) x = false) : LeastInv rs (k + 1) x true := by
  have e : ∀ y, hasI (rs.take (k + 1)) y ↔ hasI (rs.take k) y ∨ inR r y := fun y => by
    rw [List.take_add_one, hr]; exact hasI_snoc _ _ _
  have hn := near_least he
  have hc' : ¬ before (nearZ r) x := fun q => by rw [(closer_iff _ _).2 q] at hc; cases hc
  rcases h with ⟨a, _, _⟩ | ⟨_, b, c⟩
  · cases a
  · refine .inr ⟨rfl, ⟨(e _).2 (.inl b.1), fun y hy => ?_⟩, c⟩
    rcases (e y).1 hy with hy | hy
    · exact b.2 y hy
    · intro q
      have h1 := hn.2 y hy
      have a1 := absI_cases y
      have a2 := absI_cases x
      have a3 := absI_cases (nearZ r)
      unfold before at q h1 hc'
      omega
theorem LeastInv.low {rs : List Rg} {k : Nat} {x : Int} {f : Bool} (h : LeastInv rs k x f) : LO ≤ x ∧ x ≤ HI := by
  rcases h with ⟨_, b, _⟩ | ⟨_, _, c⟩
  · subst b; unfold LO HI; omega
  · exact c
/-- what Least returns -/
def LeastRes (rs : List Rg) (x : Int) (found : Bool) : Prop := LeastInv rs rs.length x found
theorem leastRes_unique {rs : List Rg} {x y : Int} {f g : Bool} (h : LeastRes rs x f) (h' : LeastRes rs y g) : x = y ∧ f = g := by
  rcases h with ⟨a, b, c⟩ | ⟨a, b, _⟩
  · rcases h' with ⟨a', b', _⟩ | ⟨_, b', _⟩
    · exact ⟨by omega, by rw [a, a']⟩
    · exact absurd b'.1 (c y)
  · rcases h' with ⟨_, _, c'⟩ | ⟨a', b', _⟩
    · exact absurd b.1 (c' x)
    · exact ⟨least_unique b b', by rw [a, a']⟩
def RetL (rs : List Rg) (w : World) (e : Ending) (w' : World) : Prop := ∃ x f, e = .returned (.tuple #[.int .i64 x, .bool f]) ∧ LeastRes rs x f ∧ Below w.heap.size w w'
set_option maxRecDepth 100000 in
set_option maxHeartbeats 3200000 in
theorem least_any (A : Option Addr) (n c : Nat) (rs : List Rg) (w : World) (hR : RngS w w.heap.size A n rs) (hn : n ≤ 1000000000) :
    Calls Try.prog 22 #[.slice A n c] w (RetL rs w) := by
  have HR := Lib.hid hR
  clear hR
  go_enter Try.func22, Try.ntmps22
  go_wp2
  go_loopw [2, 3, 5, 6, 9] (fun xv fv _ _ i wr => ∃ (k : Nat) (x : Int) (f : Bool), i = .int .i64 k ∧ xv = .int .i64 x ∧ fv = .bool f ∧ k ≤ n ∧ LeastInv rs k x f ∧ Below w.heap.size w wr) (fun _ _ _ _ i _ => n - (intOf i).toNat)
  case atStart => exact ⟨0, 0, false, rfl, rfl, rfl, by omega, .inl ⟨rfl, rfl, fun y hy => hasI_nil y hy⟩, Below.refl _ _⟩
  case round =>
    obtain ⟨k, x, f, rfl, rfl, rfl, hk, hI, hbw⟩ := hrel
    have HI0 := Lib.hid hI
    have hsw := hbw.size
    clear hI
    by_cases hkn : k < n
    · obtain ⟨b, off, r1, r2, rfl, hbl, hx, hf, c1, c2⟩ := (HR.out.below hbw).at hkn
      have HX := Lib.hid hx
      have HFX := Lib.hid hf
      clear hx hf
      have hm := fun w => isEmpty_any r1 r2 w
      have hz := fun w => nearestZero_any r1 r2 w
      have hbA : Below wr.heap.size wr (wr.alloc (.cells #[.int .i64 r1, .int .i64 r2] 35)) := (Below.refl _ _).alloc (Nat.le_refl _) _
      have hbx := hbw.trans (hbA.mono hsw)
      by_cases hne : r1 ≤ r2
      · have he : emptyB (r1, r2) = false := by unfold emptyB; rw [decide_eq_false_iff_not]; simp only; omega
        rw [he] at hm
        clear he
        have HNE := Lib.hid hne
        clear hne
        obtain ⟨z, hzz⟩ : ∃ z, z = nearZ (r1, r2) := ⟨_, rfl⟩
        rw [← hzz] at hz
        have HZ := Lib.hid hzz
        clear hzz
        cases f with
        | false =>
          have HIN : Hid (LeastInv rs (k + 1) z true) := Lib.hid (by rw [HZ.out]; exact HI0.out.take HX.out HFX.out HNE.out (.inl rfl))
          go_wp2_with (first | (go_at_call 27; refine (hm _).mono ?_; rintro e w3 ⟨rfl, hb3⟩; refine Hid.out ?_) | fail)
          refine Lib.hid ?_
          have hs3 := hb3.size
          have t1 : w3.cell? ⟨wr.heap.size, 0, none⟩ = some (.int .i64 r1) := (hb3.cell (p := ⟨wr.heap.size, 0, none⟩) (by simp)).trans (by simp)
          have t2 : w3.cell? ⟨wr.heap.size, 1, none⟩ = some (.int .i64 r2) := (hb3.cell (p := ⟨wr.heap.size, 1, none⟩) (by simp)).trans (by simp)
          go_wp2_with (first | (go_at_call 37; refine (hz _).mono ?_; rintro e w4 ⟨rfl, hb4⟩; refine Hid.out ?_) | fail)
          refine Lib.hid ?_
          go_wp2
          all_goals go_roundw
          case rel => exact ⟨k + 1, z, true, by go_num, rfl, rfl, by omega, HIN.out, hbx.trans ((hb3.mono (by simp; omega)).trans (hb4.mono (by simp at hs3; omega)))⟩
          case measure => simp [intOf]; omega
        | true =>
          have hcl := fun w => isCloser_any z x w (by rw [HZ.out]; exact near_fit HFX.out) HI0.out.low
          cases hcb : closerB z x
          · rw [hcb] at hcl
            have HIN : Hid (LeastInv rs (k + 1) x true) := Lib.hid (HI0.out.keep HX.out HNE.out (by rw [← HZ.out]; exact hcb))
            clear hcb
            go_wp2_with (first | (go_at_call 27; refine (hm _).mono ?_; rintro e w3 ⟨rfl, hb3⟩; refine Hid.out ?_) | fail)
            refine Lib.hid ?_
            have hs3 := hb3.size
            have t1 : w3.cell? ⟨wr.heap.size, 0, none⟩ = some (.int .i64 r1) := (hb3.cell (p := ⟨wr.heap.size, 0, none⟩) (by simp)).trans (by simp)
            have t2 : w3.cell? ⟨wr.heap.size, 1, none⟩ = some (.int .i64 r2) := (hb3.cell (p := ⟨wr.heap.size, 1, none⟩) (by simp)).trans (by simp)
            go_wp2_with (first | (go_at_call 37; refine (hz _).mono ?_; rintro e w4 ⟨rfl, hb4⟩; refine Hid.out ?_) | fail)
            refine Lib.hid ?_
            go_wp2_with (go_at_call 38; refine (hcl _).mono ?_; rintro e w5 ⟨rfl, rfl⟩)
            all_goals go_roundw
            case rel => exact ⟨k + 1, x, true, by go_num, rfl, rfl, by omega, HIN.out, hbx.trans ((hb3.mono (by simp; omega)).trans (hb4.mono (by simp at hs3; omega)))⟩
            case measure => simp [intOf]; omega
          · rw [hcb] at hcl
            have HIN : Hid (LeastInv rs (k + 1) z true) := Lib.hid (by rw [HZ.out]; exact HI0.out.take HX.out HFX.out HNE.out (.inr (by rw [← HZ.out]; exact hcb)))
            clear hcb
            go_wp2_with (first | (go_at_call 27; refine (hm _).mono ?_; rintro e w3 ⟨rfl, hb3⟩; refine Hid.out ?_) | fail)
            refine Lib.hid ?_
            have hs3 := hb3.size
            have t1 : w3.cell? ⟨wr.heap.size, 0, none⟩ = some (.int .i64 r1) := (hb3.cell (p := ⟨wr.heap.size, 0, none⟩) (by simp)).trans (by simp)
            have t2 : w3.cell? ⟨wr.heap.size, 1, none⟩ = some (.int .i64 r2) := (hb3.cell (p := ⟨wr.heap.size, 1, none⟩) (by simp)).trans (by simp)
            go_wp2_with (first | (go_at_call 37; refine (hz _).mono ?_; rintro e w4 ⟨rfl, hb4⟩; refine Hid.out ?_) | fail)
            refine Lib.hid ?_
            go_wp2_with (go_at_call 38; refine (hcl _).mono ?_; rintro e w5 ⟨rfl, rfl⟩)
            all_goals go_roundw
            case rel => exact ⟨k + 1, z, true, by go_num, rfl, rfl, by omega, HIN.out, hbx.trans ((hb3.mono (by simp; omega)).trans (hb4.mono (by simp at hs3; omega)))⟩
            case measure => simp [intOf]; omega
      · have he : emptyB (r1, r2) = true := by unfold emptyB; rw [decide_eq_true_eq]; simp only; omega
        rw [he] at hm
        clear he
        have HIN : Hid (LeastInv rs (k + 1) x f) := Lib.hid (HI0.out.skip HX.out (by simp only; omega))
        clear hne
        go_wp2_with (first | (go_at_call 27; refine (hm _).mono ?_; rintro e w3 ⟨rfl, hb3⟩) | fail)
        all_goals go_roundw
        case rel => exact ⟨k + 1, x, f, by go_num, rfl, rfl, by omega, HIN.out, hbx.trans (hb3.mono (by simp; omega))⟩
        case measure => simp [intOf]; omega
    · have HT : Hid (LeastRes rs x f) := Lib.hid (by
        have h1 := HI0.out
        rw [show k = rs.length by have := HR.out.1; omega] at h1
        exact h1)
      go_wp2
      all_goals go_ret2
      all_goals exact ⟨x, f, rfl, HT.out, hbw⟩
end Go.Proofs.Ytahapkbapbgbiaa
