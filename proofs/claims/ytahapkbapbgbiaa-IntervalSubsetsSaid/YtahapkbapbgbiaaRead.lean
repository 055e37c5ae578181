/- What the functions that read a slice of ranges return: membership, normal form, equality. Conditions: the slice reads as the ranges, fewer than 2^62 of them. -/
import Derived.Test.YtahapkbapbgbiaaSmall
import Derived.Laws.StructEq
namespace Go.Proofs.Ytahapkbapbgbiaa
open Go.RowKit
set_option maxHeartbeats 800000 in
theorem hasInt_any (A : Option Addr) (n cap : Nat) (rs : List Rg) (x : Int) (w : World) (B : Nat) (hR : RngS w B A n rs) (hn : n ≤ 1000000000) :
    Calls Try.prog 12 #[.slice A n cap, .int .i64 x] w fun e w' => e = .returned (.bool (hasB rs x)) ∧ w = w' := by
  have HR := Lib.hid hR
  clear hR
  go_enter Try.func12, Try.ntmps12
  go_wp2
  go_loop [5] (fun i => ∃ k : Nat, i = .int .i64 k ∧ k ≤ n ∧ hasB (rs.take k) x = false) (fun i => n - (intOf i).toNat)
  case atStart => exact ⟨0, rfl, by omega, rfl⟩
  case round =>
    obtain ⟨k, rfl, hk, hno⟩ := hrel
    have HN := Lib.hid hno
    clear hno
    by_cases hkn : k < n
    · obtain ⟨b, off, r1, r2, rfl, hb, hx, hf, c1, c2⟩ := HR.out.at hkn
      have HX := Lib.hid hx
      clear hx
      by_cases h1 : r1 ≤ x
      · by_cases h2 : x ≤ r2
        · have HT := Lib.hid (hasB_hit HX.out h1 h2)
          go_wp2
          all_goals go_ret
          all_goals exact ⟨ret_bool HT.out.symm, rfl⟩
        · have HT := Lib.hid (hasB_take HX.out HN.out (fun h => h2 h.2))
          go_wp2
          all_goals go_round
          case rel => exact ⟨k + 1, by go_num, by omega, HT.out⟩
          case measure => simp [intOf]; omega
      · have HT := Lib.hid (hasB_take HX.out HN.out (fun h => h1 h.1))
        go_wp2
        all_goals go_round
        case rel => exact ⟨k + 1, by go_num, by omega, HT.out⟩
        case measure => simp [intOf]; omega
    · have HT : Hid (hasB rs x = false) := Lib.hid (by rw [← HN.out, List.take_of_length_le (by have := HR.out.1; omega)])
      go_wp2
      go_ret
      exact ⟨ret_bool HT.out.symm, rfl⟩
set_option maxHeartbeats 1600000 in
theorem validRanges_any (A : Option Addr) (n cap : Nat) (rs : List Rg) (w : World) (B : Nat) (hR : RngS w B A n rs) (hn : n ≤ 1000000000) :
    Calls Try.prog 13 #[.slice A n cap] w fun e w' => e = .returned (.bool (nfB rs)) ∧ ∃ q, w' = w.drewN q := by
  have HR := Lib.hid hR
  clear hR
  go_enter Try.func13, Try.ntmps13
  go_wp2
  go_loopw [3] (fun i wr => ∃ k : Nat, i = .int .i64 k ∧ k ≤ n ∧ Nf (rs.take k) ∧ ∃ q, wr = w.drewN q) (fun i _ => n - (intOf i).toNat)
  case atStart => exact ⟨0, rfl, by omega, nf_take_zero _, 0, rfl⟩
  case round =>
    obtain ⟨k, rfl, hk, hno, q, rfl⟩ := hrel
    have HN := Lib.hid hno
    clear hno
    by_cases hkn : k < n
    · obtain ⟨b, off, r1, r2, rfl, hb, hx, hf, c1, c2⟩ := HR.out.at hkn
      have HX := Lib.hid hx
      clear hx
      have kn : (k : Int) < (n : Int) := by omega
      have k0 : (0 : Int) ≤ (k : Int) := by omega
      unfold Fit1 LO HI at hf
      simp only at hf
      by_cases he : r2 < r1
      · have q1 : decide (r2 < r1) = true := by simpa using he
        have HT := Lib.hid (nf_not_empty HX.out he)
        clear he
        go_wp2
        go_quiet (fail)
        go_wp2
        all_goals go_ret
        all_goals exact ⟨ret_bool HT.out.symm, _, by first | rfl | rw [World.drewN_drewN]⟩
      · have q1 : decide (r2 < r1) = false := by simpa using he
        have HE := Lib.hid he
        clear he
        by_cases hk1 : k = 0
        · have q2 : decide (0 < k) = false := by simp; omega
          have HT : Hid (Nf (rs.take (k + 1))) := Lib.hid (by subst hk1; exact nf_take_one HX.out (by have := HE.out; simp only; omega))
          clear hk1
          go_wp2
          go_quiet (fail)
          go_wp2
          all_goals go_roundw
          case rel => exact ⟨k + 1, by go_num, by omega, HT.out, _, by first | rfl | rw [World.drewN_drewN]⟩
          case measure => simp [intOf]; omega
        · have q2 : decide (0 < k) = true := by simp; omega
          obtain ⟨b', off', p1, p2, hA, hb', hy, hg, d1, d2⟩ := HR.out.at (show k - 1 < n by omega)
          injection hA with hA
          injection hA with e1 e2
          subst e1 e2
          unfold Fit1 LO HI at hg
          simp only at hg
          have HY := Lib.hid hy
          have HX2 : Hid (rs[k - 1 + 1]? = some (r1, r2)) := Lib.hid (by rw [← HX.out]; congr 1; omega)
          have HN2 : Hid (Nf (rs.take (k - 1 + 1))) := Lib.hid (by have := HN.out; rwa [show k = k - 1 + 1 by omega] at this)
          have w1 : IntKind.i64.wrap ((k : Int) - 1) = (k : Int) - 1 := IntWalk.i64_in _ (by omega)
          have w2 : (1 : Int) ≤ (k : Int) := by omega
          have w3 : ((k : Int) - 1).toNat = k - 1 := by omega
          have w4 : (k : Int) - 1 < (n : Int) := by omega
          clear hk1 hy
          by_cases hm : p2 = 9223372036854775807
          · have q3 : (p2 == 9223372036854775807) = true := by simpa using hm
            have HT := Lib.hid (nf_not_gap HY.out HX2.out (by simp only; omega))
            clear hm
            go_wp2
            go_quiet (fail)
            go_wp2
            all_goals go_ret
            all_goals exact ⟨ret_bool HT.out.symm, _, by first | rfl | rw [World.drewN_drewN]⟩
          · have q3 : (p2 == 9223372036854775807) = false := by simpa using hm
            have w5 : IntKind.i64.wrap (p2 + 1) = p2 + 1 := IntWalk.i64_in _ (by omega)
            by_cases hl : r1 ≤ p2 + 1
            · have q4 : decide (r1 ≤ p2 + 1) = true := by simpa using hl
              have HT := Lib.hid (nf_not_gap HY.out HX2.out (by simp only; omega))
              clear hm hl
              go_wp2
              go_quiet (fail)
              go_wp2
              all_goals go_ret
              all_goals exact ⟨ret_bool HT.out.symm, _, by first | rfl | rw [World.drewN_drewN]⟩
            · have q4 : decide (r1 ≤ p2 + 1) = false := by simpa using hl
              have HT : Hid (Nf (rs.take (k + 1))) := Lib.hid (by
                have := nf_take_next HN2.out HY.out HX2.out (by have := HE.out; simp only; omega) (by simp only; omega)
                rwa [show k - 1 + 1 = k by omega] at this)
              clear hm hl
              go_wp2
              go_quiet (fail)
              go_wp2
              all_goals go_roundw
              case rel => exact ⟨k + 1, by go_num, by omega, HT.out, _, by first | rfl | rw [World.drewN_drewN]⟩
              case measure => simp [intOf]; omega
    · have HT : Hid (nfB rs = true) := Lib.hid (nf_all HN.out (by have := HR.out.1; omega))
      go_wp2
      go_ret
      exact ⟨ret_bool HT.out.symm, q, rfl⟩
theorem Try.eqR (x y : Rg) (w : World) : (Op.equalIn 10000 35 (.agg #[.int .i64 x.1, .int .i64 x.2]) (.agg #[.int .i64 y.1, .int .i64 y.2])).run Try.prog w = .ok (x.1 == y.1 && x.2 == y.2) w := by
  have u2 := Try.underlying2
  have a2 := Try.isAgg2
  have z2 := Try.sizeOf2
  have hS : Try.prog.underlying 35 = some (.struct (Try.prog.fieldsOf 35)) := by kernel_rfl
  have hp : Try.prog.stoodInHeld 35 = false := by kernel_rfl
  rw [show (10000 : Nat) = 9999 + 1 from rfl, run_equalIn_agg w 9999 35 _ _ hS hp]
  simp only [Program.fieldsOf, Try.underlying35]
  go_simp
  by_cases h1 : x.1 = y.1 <;> by_cases h2 : x.2 = y.2 <;> simp [h1, h2]
theorem Try.neqR (x y : Rg) (w : World) : (binOp .neq 35 (.agg #[.int .i64 x.1, .int .i64 x.2]) (.agg #[.int .i64 y.1, .int .i64 y.2])).run Try.prog w = .ok (.bool (!(x.1 == y.1 && x.2 == y.2))) w := by
  rw [run_neq_struct, Try.eqR]; rfl
theorem Try.eqlR (x y : Rg) (w : World) : (binOp .eql 35 (.agg #[.int .i64 x.1, .int .i64 x.2]) (.agg #[.int .i64 y.1, .int .i64 y.2])).run Try.prog w = .ok (.bool (x.1 == y.1 && x.2 == y.2)) w := by
  rw [run_eql_struct, Try.eqR]; rfl
theorem Try.guardR (op : BinOp) (p q : Operand) (xs ys : Array Value) (w : World) : (eqGuard op 35 p q (.agg xs) (.agg ys)).run Try.prog w = .ok () w := run_eqGuard_agg w op 35 p q xs ys (by kernel_rfl)
theorem take_same {a b : List Rg} {k : Nat} {x : Rg} (h : a.take k = b.take k) (ha : a[k]? = some x) (hb : b[k]? = some x) : a.take (k + 1) = b.take (k + 1) := by
  rw [List.take_add_one, List.take_add_one, h, ha, hb]
theorem rng_ext {a b : List Rg} (hl : a.length = b.length) (h : a.take b.length = b.take b.length) : a = b := by
  rw [List.take_of_length_le (Nat.le_refl _), ← hl, List.take_of_length_le (Nat.le_refl _)] at h
  exact h
set_option maxHeartbeats 1600000 in
theorem same_any (A A' : Option Addr) (n n' cap cap' : Nat) (rs rs' : List Rg) (w : World) (B B' : Nat) (hR : RngS w B A n rs) (hR' : RngS w B' A' n' rs') (hn : n ≤ 1000000000) (hn' : n' ≤ 1000000000) :
    Calls Try.prog 14 #[.slice A n cap, .slice A' n' cap'] w fun e w' => e = .returned (.bool (decide (rs = rs'))) ∧ ∃ q, w' = w.drewN q := by
  have HR := Lib.hid hR
  have HR' := Lib.hid hR'
  clear hR hR'
  by_cases hnn : n = n'
  · subst hnn
    have q0 : ((n : Int) != (n : Int)) = false := by simp
    go_enter Try.func14, Try.ntmps14
    go_wp2
    go_loopw [5] (fun i wr => ∃ k : Nat, i = .int .i64 k ∧ k ≤ n ∧ rs.take k = rs'.take k ∧ ∃ q, wr = w.drewN q) (fun i _ => n - (intOf i).toNat)
    case atStart => exact ⟨0, rfl, by omega, rfl, 0, rfl⟩
    case round =>
      obtain ⟨k, rfl, hk, hno, q, rfl⟩ := hrel
      have HN := Lib.hid hno
      clear hno
      by_cases hkn : k < n
      · obtain ⟨b, off, r1, r2, rfl, hb, hx, hf, c1, c2⟩ := HR.out.at hkn
        obtain ⟨b', off', s1, s2, rfl, hb', hx', hf', d1, d2⟩ := HR'.out.at hkn
        have HX := Lib.hid hx
        have HX' := Lib.hid hx'
        clear hx hx'
        have kn : (k : Int) < (n : Int) := by omega
        have k0 : (0 : Int) ≤ (k : Int) := by omega
        have qg := Try.guardR
        by_cases he : r1 = s1 ∧ r2 = s2
        · have qn : ∀ w, (binOp .neq 35 (.agg #[.int .i64 r1, .int .i64 r2]) (.agg #[.int .i64 s1, .int .i64 s2])).run Try.prog w = .ok (.bool false) w := fun w => by rw [Try.neqR (r1, r2) (s1, s2)]; simp [he]
          have HT : Hid (rs.take (k + 1) = rs'.take (k + 1)) := Lib.hid (take_same HN.out HX.out (by rw [HX'.out, he.1, he.2]))
          clear he
          go_wp2
          go_quiet (fail)
          go_wp2
          all_goals go_roundw
          case rel => exact ⟨k + 1, by go_num, by omega, HT.out, _, by first | rfl | rw [World.drewN_drewN]⟩
          case measure => simp [intOf]; omega
        · have qn : ∀ w, (binOp .neq 35 (.agg #[.int .i64 r1, .int .i64 r2]) (.agg #[.int .i64 s1, .int .i64 s2])).run Try.prog w = .ok (.bool true) w := fun w => by
            rw [Try.neqR (r1, r2) (s1, s2)]
            have : (r1 == s1 && r2 == s2) = false := by
              rw [Bool.eq_false_iff]; intro h; simp at h; exact he h
            rw [this]; rfl
          have HT : Hid (decide (rs = rs') = false) := Lib.hid (by
            rw [decide_eq_false_iff_not]
            intro h
            have h1 := HX.out
            rw [h, HX'.out] at h1
            simp at h1
            exact he ⟨h1.1.symm, h1.2.symm⟩)
          clear he
          go_wp2
          go_quiet (fail)
          go_wp2
          all_goals go_ret
          all_goals exact ⟨ret_bool HT.out.symm, _, by first | rfl | rw [World.drewN_drewN]⟩
      · have HT : Hid (rs = rs') := Lib.hid (by have h1 := HN.out; rwa [List.take_of_length_le (by have := HR.out.1; omega), List.take_of_length_le (by have := HR'.out.1; omega)] at h1)
        go_wp2
        go_ret
        exact ⟨ret_bool (by simp [HT.out]), q, rfl⟩
  · have q0 : ((n : Int) != (n' : Int)) = true := by simp; omega
    have HT : Hid (rs ≠ rs') := Lib.hid (fun h => hnn (by rw [HR.out.1, HR'.out.1, h]))
    clear hnn
    go_enter Try.func14, Try.ntmps14
    go_wp2
    all_goals go_ret
    all_goals exact ⟨ret_bool (by simp [HT.out]), 0, rfl⟩
end Go.Proofs.Ytahapkbapbgbiaa
