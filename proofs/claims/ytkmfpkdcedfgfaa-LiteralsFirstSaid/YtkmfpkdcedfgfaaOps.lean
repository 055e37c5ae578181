/- What Union, Intersect and IsSubset return. Condition: at most 10^6 strings each. -/
import Derived.Test.YtkmfpkdcedfgfaaCombOr
import Derived.Test.YtkmfpkdcedfgfaaCombAnd
import Derived.Test.YtkmfpkdcedfgfaaCombSub
namespace Go.Proofs.Ytkmfpkdcedfgfaa
open Go.RowKit Go.Sort
set_option maxRecDepth 100000 in
set_option maxHeartbeats 1600000 in
theorem union_any (co co' : Bool) (A A' : Option Addr) (n c n' c' : Nat) (rs rs' : List Strg) (w : World) (hR : NmS w w.heap.size A n rs) (hR' : NmS w w.heap.size A' n' rs') (hn : n ≤ 1000000) (hn' : n' ≤ 1000000) :
    Calls Try.prog 15 #[.agg #[.bool co, .slice A n c], .agg #[.bool co', .slice A' n' c']] w (RetN (co || co') (fun x => inN co rs x || inN co' rs' x) (n + n') w) := by
  have hb0 : Below w.heap.size w (((w.alloc (.cells #[.bool co, .slice A n c] 24)).alloc (.cells #[.bool co', .slice A' n' c'] 24)).alloc (.cells #[.bool false, .slice none 0 0] 24)) := (((Below.refl _ _).alloc (Nat.le_refl _) _).alloc (by simp; try omega) _).alloc (by simp; try omega) _
  have hcl := combine_or co co' A A' n c n' c' rs rs' (((w.alloc (.cells #[.bool co, .slice A n c] 24)).alloc (.cells #[.bool co', .slice A' n' c'] 24)).alloc (.cells #[.bool false, .slice none 0 0] 24)) (hR.kept hb0 (by simp; omega)) (hR'.kept hb0 (by simp; omega)) hn hn'
  have HC : Hid ((((w.alloc (.cells #[.bool co, .slice A n c] 24)).alloc (.cells #[.bool co', .slice A' n' c'] 24)).alloc (.cells #[.bool false, .slice none 0 0] 24)).heap[w.heap.size + 1 + 1]? = some (.cells #[.bool false, .slice none 0 0] 24 (0, 0))) := Lib.hid (new_at _ (by simp))
  have HB0 := Lib.hid hb0
  clear hb0 hR hR'
  have hfs := field_sorted
  go_enter Try.func15, Try.ntmps15
  go_wp2_with (go_at_call 30; refine hcl.mono ?_; rintro e w1 ⟨m, A2, cap2, rfl, ho, hsh, hset, hk, hb1⟩; refine Hid.out ?_)
  refine Lib.hid ?_
  have hcell : w1.heap[w.heap.size + 1 + 1]? = some (.cells #[.bool false, .slice none 0 0] 24 (0, 0)) := (hb1.block _ (by simp)).trans HC.out
  have c0 : w1.cell? ⟨w.heap.size + 1 + 1, 0, none⟩ = some (.bool false) := by rw [Lib.cell_of_heap hcell]; rfl
  have c1 : w1.cell? ⟨w.heap.size + 1 + 1, 1, none⟩ = some (.slice none 0 0) := by rw [Lib.cell_of_heap hcell]; rfl
  have f0 : w1.frozen? ⟨w.heap.size + 1 + 1, 0, none⟩ = false := Lib.frozen_of_heap hcell 0
  have f1 : w1.frozen? ⟨w.heap.size + 1 + 1, 1, none⟩ = false := Lib.frozen_of_heap hcell 1
  have ho' : OwnN w1 (w.heap.size + 1 + 1 + 1) (.slice A2 m.length cap2) m := ho.mono (by simp)
  have HO := Lib.hid ho'
  have HB := Lib.hid (HB0.out.trans (hb1.mono (by simp; try omega)))
  have HSET := Lib.hid hset
  clear hcell ho ho' hb1 hset hcl
  go_wp2
  refine bodyPost_ret (v := .agg #[.bool ((co || co')), .slice A2 m.length cap2]) (by simp [results, Try.results15, go_sem, c0, c1]) rfl ?_
  exact RetN.stored rfl HO.out (by omega) hsh HSET.out hk HB.out _ _
set_option maxRecDepth 100000 in
set_option maxHeartbeats 1600000 in
theorem intersect_any (co co' : Bool) (A A' : Option Addr) (n c n' c' : Nat) (rs rs' : List Strg) (w : World) (hR : NmS w w.heap.size A n rs) (hR' : NmS w w.heap.size A' n' rs') (hn : n ≤ 1000000) (hn' : n' ≤ 1000000) :
    Calls Try.prog 16 #[.agg #[.bool co, .slice A n c], .agg #[.bool co', .slice A' n' c']] w (RetN (co && co') (fun x => inN co rs x && inN co' rs' x) (n + n') w) := by
  have hb0 : Below w.heap.size w (((w.alloc (.cells #[.bool co, .slice A n c] 24)).alloc (.cells #[.bool co', .slice A' n' c'] 24)).alloc (.cells #[.bool false, .slice none 0 0] 24)) := (((Below.refl _ _).alloc (Nat.le_refl _) _).alloc (by simp; try omega) _).alloc (by simp; try omega) _
  have hcl := combine_and co co' A A' n c n' c' rs rs' (((w.alloc (.cells #[.bool co, .slice A n c] 24)).alloc (.cells #[.bool co', .slice A' n' c'] 24)).alloc (.cells #[.bool false, .slice none 0 0] 24)) (hR.kept hb0 (by simp; omega)) (hR'.kept hb0 (by simp; omega)) hn hn'
  have HC : Hid ((((w.alloc (.cells #[.bool co, .slice A n c] 24)).alloc (.cells #[.bool co', .slice A' n' c'] 24)).alloc (.cells #[.bool false, .slice none 0 0] 24)).heap[w.heap.size + 1 + 1]? = some (.cells #[.bool false, .slice none 0 0] 24 (0, 0))) := Lib.hid (new_at _ (by simp))
  have HB0 := Lib.hid hb0
  clear hb0 hR hR'
  have hfs := field_sorted
  go_enter Try.func16, Try.ntmps16
  go_wp2_with (go_at_call 30; refine hcl.mono ?_; rintro e w1 ⟨m, A2, cap2, rfl, ho, hsh, hset, hk, hb1⟩; refine Hid.out ?_)
  refine Lib.hid ?_
  have hcell : w1.heap[w.heap.size + 1 + 1]? = some (.cells #[.bool false, .slice none 0 0] 24 (0, 0)) := (hb1.block _ (by simp)).trans HC.out
  have c0 : w1.cell? ⟨w.heap.size + 1 + 1, 0, none⟩ = some (.bool false) := by rw [Lib.cell_of_heap hcell]; rfl
  have c1 : w1.cell? ⟨w.heap.size + 1 + 1, 1, none⟩ = some (.slice none 0 0) := by rw [Lib.cell_of_heap hcell]; rfl
  have f0 : w1.frozen? ⟨w.heap.size + 1 + 1, 0, none⟩ = false := Lib.frozen_of_heap hcell 0
  have f1 : w1.frozen? ⟨w.heap.size + 1 + 1, 1, none⟩ = false := Lib.frozen_of_heap hcell 1
  have ho' : OwnN w1 (w.heap.size + 1 + 1 + 1) (.slice A2 m.length cap2) m := ho.mono (by simp)
  have HO := Lib.hid ho'
  have HB := Lib.hid (HB0.out.trans (hb1.mono (by simp; try omega)))
  have HSET := Lib.hid hset
  clear hcell ho ho' hb1 hset hcl
  go_wp2
  refine bodyPost_ret (v := .agg #[.bool ((co && co')), .slice A2 m.length cap2]) (by simp [results, Try.results16, go_sem, c0, c1]) rfl ?_
  exact RetN.stored rfl HO.out (by omega) hsh HSET.out hk HB.out _ _
/-- whether each string of a set is in another -/
def subN (co : Bool) (l : List Strg) (co' : Bool) (l' : List Strg) : Prop := (co && !co') = false ∧ ∀ x, inN co l x = true → inN co' l' x = true
theorem subN_of {co co' c0 : Bool} {l l' m : List Strg} (hc : c0 = (co && !co')) (h : IsSet c0 m fun x => inN co l x && !inN co' l' x) : (c0 = false ∧ m.length = 0) ↔ subN co l co' l' := by
  constructor
  · rintro ⟨rfl, h0⟩
    obtain rfl : m = [] := List.eq_nil_of_length_eq_zero h0
    refine ⟨hc.symm, fun x hx => ?_⟩
    have := h.2 x
    simp only [inN] at this
    have h1 : inN co l x = true := hx
    unfold inN at h1
    cases h2 : inN co' l' x
    · exfalso
      unfold inN at h2
      rw [h1, h2] at this
      simp at this
    · rfl
  · rintro ⟨h1, h2⟩
    have hc0 : c0 = false := hc.trans h1
    subst hc0
    refine ⟨rfl, ?_⟩
    cases m with
    | nil => rfl
    | cons x m =>
      exfalso
      have := h.2 x
      have h3 : inN false (x :: m) x = true := by simp [inN]
      rw [h3] at this
      have h4 := this.symm
      simp only [Bool.and_eq_true, Bool.not_eq_true'] at h4
      have := h2 x h4.1
      rw [h4.2] at this; cases this
open Classical in
/-- .. as a Bool -/
noncomputable def subB (co : Bool) (l : List Strg) (co' : Bool) (l' : List Strg) : Bool := decide (subN co l co' l')
open Classical in
theorem subB_yes {co co' : Bool} {l l' : List Strg} (h : subN co l co' l') : subB co l co' l' = true := by unfold subB; exact decide_eq_true h
open Classical in
theorem subB_no {co co' : Bool} {l l' : List Strg} (h : ¬ subN co l co' l') : subB co l co' l' = false := by unfold subB; exact decide_eq_false h
open Classical in
theorem subB_iff {co co' : Bool} {l l' : List Strg} : subB co l co' l' = true ↔ subN co l co' l' := by unfold subB; exact decide_eq_true_iff
set_option maxRecDepth 100000 in
set_option maxHeartbeats 1600000 in
theorem isSubset_any (co co' : Bool) (A A' : Option Addr) (n c n' c' : Nat) (rs rs' : List Strg) (w : World) (hR : NmS w w.heap.size A n rs) (hR' : NmS w w.heap.size A' n' rs') (hn : n ≤ 1000000) (hn' : n' ≤ 1000000) :
    Calls Try.prog 22 #[.agg #[.bool co, .slice A n c], .agg #[.bool co', .slice A' n' c']] w fun e w' => e = .returned (.bool (subB co rs co' rs')) ∧ Below w.heap.size w w' := by
  obtain ⟨W0, hW0⟩ : ∃ W0, W0 = ((w.alloc (.cells #[.bool co, .slice A n c] 24)).alloc (.cells #[.bool co', .slice A' n' c'] 24)) := ⟨_, rfl⟩
  obtain ⟨hx1, hx2, hz0, hb0⟩ := boxes2 w (.cells #[.bool co, .slice A n c] 24 (0, 0)) (.cells #[.bool co', .slice A' n' c'] 24 (0, 0))
  rw [← hW0] at hx1 hx2 hz0 hb0
  have hcl := combine_sub co co' A A' n c n' c' rs rs' W0 (hR.kept hb0 (by omega)) (hR'.kept hb0 (by omega)) hn hn'
  have g1 := cell0 hx1
  have g2 := cell1 hx1
  have g3 := cell0 hx2
  have g4 := cell1 hx2
  have HB0 := Lib.hid hb0
  obtain ⟨c0, hc0⟩ : ∃ c0, c0 = (co && !co') := ⟨_, rfl⟩
  rw [← hc0] at hcl
  have HC0 := Lib.hid hc0
  clear hx1 hx2 hb0 hR hR' hc0
  go_enter Try.func22, Try.ntmps22
  go_wp2_with fail
  rw [← hW0]
  clear hW0
  go_wp2_with (go_at_call 30; refine hcl.mono ?_; rintro e w1 ⟨m, A2, cap2, rfl, ho, hsh, hset, hk, hb1⟩; refine Hid.out ?_)
  refine Lib.hid ?_
  have HB := Lib.hid (((HB0.out.trans (hb1.mono HB0.out.size)).alloc (Nat.le_trans HB0.out.size hb1.size) (.cells #[.bool c0, .slice A2 m.length cap2] 24)))
  have HQ := Lib.hid (subN_of HC0.out hset)
  generalize m.length = ml at HQ HB ⊢
  clear hcl ho hset hb1 hk
  cases c0
  · by_cases h0 : ml = 0
    · have hT : Hid (subB co rs co' rs' = true) := Lib.hid (subB_yes (HQ.out.1 ⟨rfl, h0⟩))
      subst h0
      go_wp2
      go_ret
      exact ⟨ret_bool hT.out.symm, HB.out⟩
    · have hT : Hid (subB co rs co' rs' = false) := Lib.hid (subB_no (fun h => h0 (HQ.out.2 h).2))
      have q : ((ml : Int) == 0) = false := by rw [beq_eq_false_iff_ne]; omega
      go_wp2
      go_ret
      exact ⟨ret_bool hT.out.symm, HB.out⟩
  · have hT : Hid (subB co rs co' rs' = false) := Lib.hid (subB_no (fun h => absurd (HQ.out.2 h).1 nofun))
    go_wp2
    go_ret
    exact ⟨ret_bool hT.out.symm, HB.out⟩
end Go.Proofs.Ytkmfpkdcedfgfaa
