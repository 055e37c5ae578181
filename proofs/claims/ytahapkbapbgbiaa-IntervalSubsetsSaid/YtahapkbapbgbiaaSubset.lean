/- What IsSubset and the document's SubsetRanges return: whether each member of the first set is one of the second. Condition: at most 800 ranges in each. -/
import Derived.Test.YtahapkbapbgbiaaLawKit
import Derived.Test.YtahapkbapbgbiaaInter
import Derived.Test.YtahapkbapbgbiaaRefCompl
import Derived.Test.YtahapkbapbgbiaaRefInter
namespace Go.Proofs.Ytahapkbapbgbiaa
open Go.RowKit
open Classical in
/-- each member of the first set is one of the second -/
noncomputable def subB (a b : List Rg) : Bool := decide (∀ x, hasI a x → hasI b x)
theorem subB_iff (a b : List Rg) : subB a b = true ↔ ∀ x, hasI a x → hasI b x := by unfold subB; simp
/-- nothing is in the first set and not in the second -/
theorem outside_nil {a b m : List Rg} (hf : Fit a) (hn : Nf m) (hm : ∀ x, hasI m x ↔ hasI a x ∧ Non (hasI b) x) : decide (m = []) = subB a b := by
  rw [Bool.eq_iff_iff, decide_eq_true_eq, subB_iff]
  constructor
  · intro e x hx
    have h1 := hm x
    rw [e] at h1
    have hr := hasI_fit hf hx
    by_cases hb : hasI b x
    · exact hb
    · exact absurd (h1.2 ⟨hx, hr.1, hr.2, hb⟩) (hasI_nil x)
  · intro h
    exact no_member hn fun x hx => by
      have h1 := (hm x).1 hx
      exact h1.2.2.2 (h x h1.1)
/-- the union with the second set is the second set -/
theorem union_same {a b m k : List Rg} (hm : Nf m) (hk : Nf k) (h1 : ∀ x, hasI m x ↔ hasI a x ∨ hasI b x) (h2 : ∀ x, hasI k x ↔ hasI b x) : decide (m = k) = subB a b := by
  rw [Bool.eq_iff_iff, decide_eq_true_eq, subB_iff]
  constructor
  · intro e x hx
    have := (h1 x).2 (.inl hx)
    rw [e] at this
    exact (h2 x).1 this
  · intro h
    exact eq_of_mem hm hk fun x => by
      rw [h1, h2]
      exact ⟨fun q => by rcases q with q | q; exact h x q; exact q, .inr⟩
/-- the intersection with the second set is the first set -/
theorem inter_same {a b m k : List Rg} (hm : Nf m) (hk : Nf k) (h1 : ∀ x, hasI m x ↔ hasI a x ∧ hasI b x) (h2 : ∀ x, hasI k x ↔ hasI a x) : decide (m = k) = subB a b := by
  rw [Bool.eq_iff_iff, decide_eq_true_eq, subB_iff]
  constructor
  · intro e x hx
    have := (h2 x).2 hx
    rw [← e] at this
    exact ((h1 x).1 this).2
  · intro h
    exact eq_of_mem hm hk fun x => by
      rw [h1, h2]
      exact ⟨fun q => q.1, fun q => ⟨q, h x q⟩⟩
theorem len_zero {m : List Rg} {n : Nat} (h : n = m.length) : ((n : Int) == 0) = decide (m = []) := by
  cases m with
  | nil => simp at h; subst h; rfl
  | cons r l => simp at h; subst h; simp; omega
set_option maxHeartbeats 1600000 in
theorem isSubset_any (A A' : Option Addr) (n c n' c' : Nat) (rs rs' : List Rg) (w : World) (hR : RngS w w.heap.size A n rs) (hR' : RngS w w.heap.size A' n' rs') (hn : n ≤ 800) (hn' : n' ≤ 800) :
    Calls Try.prog 20 #[.slice A n c, .slice A' n' c'] w fun e w' => e = .returned (.bool (subB rs rs')) ∧ Below w.heap.size w w' := by
  have hcc := complement_any A' n' c' rs' w hR' (by omega)
  have HR := Lib.hid hR
  clear hR hR'
  go_enter Try.func20, Try.ntmps20
  go_wp2_with (go_at_call 18; refine hcc.mono ?_; rintro e w1 ⟨N, hm1, hm2, hm3, hm4, A1, n1, c1, rfl, hr1, hb1⟩; refine Hid.out ?_)
  refine Lib.hid ?_
  have hs1 := hb1.size
  have hii := intersect_any A A1 n c n1 c1 rs N w1 (HR.out.kept hb1 hs1) hr1 (by omega) (by have := hr1.1; omega)
  have H3 := Lib.hid hm3
  clear hm1 hm2 hm3 hm4 hr1 hcc
  go_wp2_with (go_at_call 17; refine hii.mono ?_; rintro e w2 ⟨M, hm1, hm2, hm3, hm4, A2, n2, c2, rfl, hr2, hb2⟩; refine Hid.out ?_)
  refine Lib.hid ?_
  have HQ : Hid (((n2 : Int) == 0) = subB rs rs') := Lib.hid (by
    rw [len_zero hr2.1]
    exact outside_nil HR.out.2.1 hm2 (fun x => by rw [hm3, H3.out]))
  have HB := Lib.hid (hb1.trans (hb2.mono hs1))
  clear hm1 hm2 hm3 hm4 hr2 hii hb1 hb2
  go_wp2
  all_goals go_ret
  all_goals exact ⟨ret_bool HQ.out, HB.out⟩
set_option maxHeartbeats 1600000 in
theorem subsetRanges_any (A A' : Option Addr) (n c n' c' : Nat) (rs rs' : List Rg) (w : World) (hR : RngS w w.heap.size A n rs) (hR' : RngS w w.heap.size A' n' rs') (hn : n ≤ 800) (hn' : n' ≤ 800) :
    Calls Try.prog 21 #[.slice A n c, .slice A' n' c'] w fun e w' => e = .returned (.bool (subB rs rs')) ∧ Below w.heap.size w w' := by
  have hcc := refComplement_any A' n' c' rs' w hR' (by omega)
  have HR := Lib.hid hR
  clear hR hR'
  go_enter Try.func21, Try.ntmps21
  go_wp2_with (go_at_call 36; refine hcc.mono ?_; rintro e w1 ⟨N, hm1, hm2, hm3, hm4, A1, n1, c1, rfl, hr1, hb1⟩; refine Hid.out ?_)
  refine Lib.hid ?_
  have hs1 := hb1.size
  have hii := refIntersect_any A A1 n c n1 c1 rs N w1 (HR.out.kept hb1 hs1) hr1 (by omega) (by have := hr1.1; omega)
  have H3 := Lib.hid hm3
  clear hm1 hm2 hm3 hm4 hr1 hcc
  go_wp2_with (go_at_call 35; refine hii.mono ?_; rintro e w2 ⟨M, hm1, hm2, hm3, hm4, A2, n2, c2, rfl, hr2, hb2⟩; refine Hid.out ?_)
  refine Lib.hid ?_
  have HQ : Hid (((n2 : Int) == 0) = subB rs rs') := Lib.hid (by
    rw [len_zero hr2.1]
    exact outside_nil HR.out.2.1 hm2 (fun x => by rw [hm3, H3.out]))
  have HB := Lib.hid (hb1.trans (hb2.mono hs1))
  clear hm1 hm2 hm3 hm4 hr2 hii hb1 hb2
  go_wp2
  all_goals go_ret
  all_goals exact ⟨ret_bool HQ.out, HB.out⟩
end Go.Proofs.Ytahapkbapbgbiaa
