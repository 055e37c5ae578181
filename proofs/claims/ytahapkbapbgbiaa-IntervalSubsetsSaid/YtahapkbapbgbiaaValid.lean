/- What Valid returns: whether the list is a normal form. Condition: at most 10^9 ranges. -/
import Derived.Test.YtahapkbapbgbiaaNorm
import Derived.Shelf.SlSortCmp.QuietGrown
namespace Go.Proofs.Ytahapkbapbgbiaa
open Go.RowKit
set_option maxHeartbeats 400000 in
theorem isEmpty_grow (a b : Int) (W : World) :
    Calls Try.prog 27 #[.agg #[.int .i64 a, .int .i64 b]] W fun e w' => e = .returned (.bool (emptyB (a, b))) ∧ ∃ q os', w' = Go.Sort.grow (W.drewN q) os' := by
  go_enter Try.func27, Try.ntmps27
  go_wp2
  all_goals go_ret
  all_goals exact ⟨ret_bool (by unfold emptyB; simp), 0, _, by rw [Go.Sort.alloc_eq_grow]; rfl⟩
theorem below_grow {B : Nat} {a w : World} (h : Below B a w) (hB : B ≤ w.heap.size) (n : Nat) (os : Array Obj) : Below B a (Go.Sort.grow (w.drewN n) os) :=
  h.trans ⟨rfl, rfl, rfl, by simp [Go.Sort.grow], fun k hk => Go.Sort.heap_grow_old (w.drewN n) os (by show k < w.heap.size; omega)⟩
set_option maxRecDepth 100000 in
set_option maxHeartbeats 6400000 in
theorem valid_any (A : Option Addr) (n cap : Nat) (rs : List Rg) (w : World) (hR : RngS w w.heap.size A n rs) (hn : n ≤ 1000000000) :
    Calls Try.prog 10 #[.slice A n cap] w fun e w' => e = .returned (.bool (nfB rs)) ∧ Below w.heap.size w w' := by
  have HR := Lib.hid hR
  clear hR
  go_enter Try.func10, Try.ntmps10
  go_wp2
  go_loopw [3, 4, 7] (fun _ _ i wr => ∃ k : Nat, i = .int .i64 k ∧ k ≤ n ∧ Nf (rs.take k) ∧ Below w.heap.size w wr) (fun _ _ i _ => n - (intOf i).toNat)
  case atStart => exact ⟨0, rfl, by omega, nf_take_zero _, Below.refl _ _⟩
  case round =>
    obtain ⟨k, rfl, hk, hno, hbw⟩ := hrel
    have HN := Lib.hid hno
    have hsw := hbw.size
    clear hno
    by_cases hkn : k < n
    · obtain ⟨b, off, r1, r2, rfl, hbl, hx, hf, c1, c2⟩ := (HR.out.below hbw).at hkn
      have HX := Lib.hid hx
      have HFX := Lib.hid hf
      clear hx hf
      have kn : (k : Int) < (n : Int) := by omega
      have k0 : (0 : Int) ≤ (k : Int) := by omega
      have hbA : Below wr.heap.size wr (wr.alloc (.cells #[.int .i64 r1, .int .i64 r2] 35)) := (Below.refl _ _).alloc (Nat.le_refl _) _
      have HBW : Hid (∀ w', Below wr.heap.size wr w' → Below w.heap.size w w') := Lib.hid (fun w' h => hbw.trans (h.mono hsw))
      have mixed := Try.sortR.mixed
      have l1 : ∀ n os, (Go.Sort.grow ((wr.alloc (.cells #[.int .i64 r1, .int .i64 r2] 35)).drewN n) os).cell? ⟨wr.heap.size, 0, none⟩ = some (.int .i64 r1) := cell_grown (by simp) (by simp)
      have l2 : ∀ n os, (Go.Sort.grow ((wr.alloc (.cells #[.int .i64 r1, .int .i64 r2] 35)).drewN n) os).cell? ⟨wr.heap.size, 1, none⟩ = some (.int .i64 r2) := cell_grown (by simp) (by simp)
      have HGR : Hid (∀ n os, Below wr.heap.size wr (Go.Sort.grow ((wr.alloc (.cells #[.int .i64 r1, .int .i64 r2] 35)).drewN n) os)) := Lib.hid (fun n os => below_grow hbA (by simp) n os)
      have hm := fun w => isEmpty_grow r1 r2 w
      have hm2 := fun w => isEmpty_any r1 r2 w
      by_cases he : r2 < r1
      · have q1 : emptyB (r1, r2) = true := by unfold emptyB; simpa using he
        rw [q1] at hm
        have HT := Lib.hid (nf_not_empty HX.out he)
        clear q1 he
        go_wp2_with fail
        generalize (wr.alloc (.cells #[.int .i64 r1, .int .i64 r2] 35)) = wA at l1 l2 HGR ⊢
        refine wp_region_quiet_grown mixed (by kernel_rfl) ?_
        repeat (first | go_big_quiet_skip | quiet_step ((go_at_call 27; exact Calls.grown_of (hm _))))
        refine wpQuiet_nil ?_
        intro _ hw'
        obtain ⟨⟨nq, osq⟩, hw''⟩ := hw'
        subst hw''
        have hbf := HBW.out _ (HGR.out nq osq)
        go_wp2
        all_goals go_ret
        all_goals exact ⟨ret_bool HT.out.symm, hbf⟩
      · have q1 : emptyB (r1, r2) = false := by unfold emptyB; simpa using he
        rw [q1] at hm hm2
        have HE := Lib.hid he
        clear q1 he
        by_cases hk1 : k = 0
        · have q2 : decide (0 < k) = false := by simp; omega
          have HT : Hid (Nf (rs.take (k + 1))) := Lib.hid (by subst hk1; exact nf_take_one HX.out (by have := HE.out; simp only; omega))
          clear hk1
          go_wp2_with fail
          generalize (wr.alloc (.cells #[.int .i64 r1, .int .i64 r2] 35)) = wA at l1 l2 HGR ⊢
          refine wp_region_quiet_grown mixed (by kernel_rfl) ?_
          repeat (first | go_big_quiet_skip | quiet_step ((go_at_call 27; exact Calls.grown_of (hm _))))
          refine wpQuiet_nil ?_
          intro _ hw'
          obtain ⟨⟨nq, osq⟩, hw''⟩ := hw'
          subst hw''
          have hbf := HBW.out _ (HGR.out nq osq)
          go_wp2
          all_goals go_roundw
          case rel => exact ⟨k + 1, by go_num, by omega, HT.out, hbf⟩
          case measure => simp [intOf]; omega
        · have q2 : decide (0 < k) = true := by simp; omega
          obtain ⟨b', off', p1, p2, hA, hb', hy, hg, d1, d2⟩ := (HR.out.below hbw).at (show k - 1 < n by omega)
          injection hA with hA
          injection hA with e1 e2
          subst e1 e2
          have HFY := Lib.hid hg
          have HY := Lib.hid hy
          have HX2 : Hid (rs[k - 1 + 1]? = some (r1, r2)) := Lib.hid (by rw [← HX.out]; congr 1; omega)
          have HN2 : Hid (Nf (rs.take (k - 1 + 1))) := Lib.hid (by have := HN.out; rwa [show k = k - 1 + 1 by omega] at this)
          have i1 : IntKind.i64.wrap ((k : Int) - 1) = (k : Int) - 1 := IntWalk.i64_in _ (by omega)
          have i2 : (1 : Int) ≤ (k : Int) := by omega
          have i3 : ((k : Int) - 1).toNat = k - 1 := by omega
          have i4 : (k : Int) - 1 < (n : Int) := by omega
          have hbl2 : b < wr.heap.size := by omega
          clear hk1 hy hg
          have HS1 : Hid (∀ q, ((wr.alloc (.cells #[.int .i64 r1, .int .i64 r2] 35)).drewN q).cell? ⟨wr.heap.size, 0, none⟩ = some (.int .i64 r1) ∧ ((wr.alloc (.cells #[.int .i64 r1, .int .i64 r2] 35)).drewN q).cell? ⟨wr.heap.size, 1, none⟩ = some (.int .i64 r2) ∧ ((wr.alloc (.cells #[.int .i64 r1, .int .i64 r2] 35)).drewN q).cell? ⟨b, off + (k - 1) * 2, none⟩ = some (.int .i64 p1) ∧ ((wr.alloc (.cells #[.int .i64 r1, .int .i64 r2] 35)).drewN q).cell? ⟨b, off + (k - 1) * 2 + 1, none⟩ = some (.int .i64 p2) ∧ wr.heap.size < ((wr.alloc (.cells #[.int .i64 r1, .int .i64 r2] 35)).drewN q).heap.size ∧ Below wr.heap.size wr ((wr.alloc (.cells #[.int .i64 r1, .int .i64 r2] 35)).drewN q)) := Lib.hid (fun q => by
            have hbq := below_drewN hbA q
            refine ⟨by simp, by simp, (hbq.cell (p := ⟨b, off + (k - 1) * 2, none⟩) hbl2).trans d1, (hbq.cell (p := ⟨b, off + (k - 1) * 2 + 1, none⟩) hbl2).trans d2, by simp, hbq⟩)
          have hgm := fun w => isGap_any p1 p2 r1 r2 w HFY.out HFX.out
          cases hgp : gapB (p1, p2) (r1, r2)
          · rw [hgp] at hgm
            have HT := Lib.hid (nf_not_gap HY.out HX2.out (by unfold gapB at hgp; simpa using hgp))
            clear hgp
            go_wp2_with fail
            go_region_held3 (fun wq => wq.cell? ⟨wr.heap.size, 0, none⟩ = some (.int .i64 r1) ∧ wq.cell? ⟨wr.heap.size, 1, none⟩ = some (.int .i64 r2) ∧ wq.cell? ⟨b, off + (k - 1) * 2, none⟩ = some (.int .i64 p1) ∧ wq.cell? ⟨b, off + (k - 1) * 2 + 1, none⟩ = some (.int .i64 p2) ∧ wr.heap.size < wq.heap.size ∧ Below wr.heap.size wr wq) (first | exact HS1.out _ | exact HS1.out 0 | exact HS1.out 1 | exact heldNormN rfl hbl2 (by assumption) (by assumption) | go_keep) (first | (go_at_call 27; refine (hm2 _).mono ?_; rintro e w' ⟨rfl, hb⟩) | (go_at_call 31; refine (hgm _).mono ?_; rintro e w' ⟨rfl, hb⟩))
            rename_i hSq
            have hbf := HBW.out _ hSq.2.2.2.2.2
            clear hSq
            go_wp2
            all_goals go_ret
            all_goals exact ⟨ret_bool HT.out.symm, hbf⟩
          · rw [hgp] at hgm
            have HT : Hid (Nf (rs.take (k + 1))) := Lib.hid (by
              have := nf_take_next HN2.out HY.out HX2.out (by have := HE.out; simp only; omega) (by unfold gapB at hgp; simpa using hgp)
              rwa [show k - 1 + 1 = k by omega] at this)
            clear hgp
            go_wp2_with fail
            go_region_held3 (fun wq => wq.cell? ⟨wr.heap.size, 0, none⟩ = some (.int .i64 r1) ∧ wq.cell? ⟨wr.heap.size, 1, none⟩ = some (.int .i64 r2) ∧ wq.cell? ⟨b, off + (k - 1) * 2, none⟩ = some (.int .i64 p1) ∧ wq.cell? ⟨b, off + (k - 1) * 2 + 1, none⟩ = some (.int .i64 p2) ∧ wr.heap.size < wq.heap.size ∧ Below wr.heap.size wr wq) (first | exact HS1.out _ | exact HS1.out 0 | exact HS1.out 1 | exact heldNormN rfl hbl2 (by assumption) (by assumption) | go_keep) (first | (go_at_call 27; refine (hm2 _).mono ?_; rintro e w' ⟨rfl, hb⟩) | (go_at_call 31; refine (hgm _).mono ?_; rintro e w' ⟨rfl, hb⟩))
            rename_i hSq
            have hbf := HBW.out _ hSq.2.2.2.2.2
            clear hSq
            go_wp2
            all_goals go_roundw
            case rel => exact ⟨k + 1, by go_num, by omega, HT.out, hbf⟩
            case measure => simp [intOf]; omega
    · have HT : Hid (nfB rs = true) := Lib.hid (nf_all HN.out (by have := HR.out.1; omega))
      go_wp2
      go_ret
      exact ⟨ret_bool HT.out.symm, hbw⟩
end Go.Proofs.Ytahapkbapbgbiaa
