/- What the laws' short and same return. Condition: at most 10^6 strings. -/
import Derived.Test.YtkmfpkdcedfgfaaRead
namespace Go.Proofs.Ytkmfpkdcedfgfaa
open Go.RowKit Go.Sort
set_option maxHeartbeats 800000 in
theorem short1_any (b : Nat) (A : Option Addr) (n c : Nat) (w : World) (h1 : w.cell? ⟨b, 1, none⟩ = some (.slice A n c)) (hn : n ≤ 9223372036854775807) :
    Calls Try.prog 8 #[.slice (some ⟨b, 0, none⟩) 1 1] w fun e w' => e = .returned (.bool (decide (n ≤ 40))) ∧ w = w' := by
  by_cases hs : n ≤ 40
  · have q : ¬ (40 : Int) < (n : Int) := by omega
    have HT : Hid (decide (n ≤ 40) = true) := Lib.hid (by simpa using hs)
    go_enter Try.func8, Try.ntmps8
    go_wp2
    go_loop [3] (fun i => i = .int .i64 0 ∨ i = .int .i64 1) (fun i => 1 - (intOf i).toNat)
    case atStart => exact .inl rfl
    case round =>
      obtain rfl | rfl := hrel
      · go_wp2
        all_goals go_round
        case rel => exact .inr (by go_num)
        case measure => simp [intOf]
      · go_wp2
        all_goals go_ret
        all_goals exact ⟨by first | rfl | exact ret_bool HT.out.symm, rfl⟩
  · have q : (40 : Int) < (n : Int) := by omega
    have HT : Hid (decide (n ≤ 40) = false) := Lib.hid (by simpa using hs)
    go_enter Try.func8, Try.ntmps8
    go_wp2
    go_loop [3] (fun i => i = .int .i64 0) (fun _ => 0)
    case atStart => rfl
    case round =>
      obtain rfl := hrel
      go_wp2
      all_goals go_ret
      all_goals exact ⟨by first | rfl | exact ret_bool HT.out.symm, rfl⟩
set_option maxHeartbeats 800000 in
theorem short2_any (b : Nat) (A A' : Option Addr) (n c n' c' : Nat) (w : World) (h1 : w.cell? ⟨b, 1, none⟩ = some (.slice A n c)) (h3 : w.cell? ⟨b, 3, none⟩ = some (.slice A' n' c')) (hn : n ≤ 9223372036854775807) (hn' : n' ≤ 9223372036854775807) :
    Calls Try.prog 8 #[.slice (some ⟨b, 0, none⟩) 2 2] w fun e w' => e = .returned (.bool (decide (n ≤ 40) && decide (n' ≤ 40))) ∧ w = w' := by
  by_cases hs : n ≤ 40
  · have q : ¬ (40 : Int) < (n : Int) := by omega
    by_cases hs' : n' ≤ 40
    · have q' : ¬ (40 : Int) < (n' : Int) := by omega
      have HT : Hid ((decide (n ≤ 40) && decide (n' ≤ 40)) = true) := Lib.hid (by simp [hs, hs'])
      go_enter Try.func8, Try.ntmps8
      go_wp2
      go_loop [3] (fun i => i = .int .i64 0 ∨ i = .int .i64 1 ∨ i = .int .i64 2) (fun i => 2 - (intOf i).toNat)
      case atStart => exact .inl rfl
      case round =>
        obtain rfl | rfl | rfl := hrel
        · go_wp2
          all_goals go_round
          case rel => exact .inr (.inl (by go_num))
          case measure => simp [intOf]
        · go_wp2
          all_goals go_round
          case rel => exact .inr (.inr (by go_num))
          case measure => simp [intOf]
        · go_wp2
          all_goals go_ret
          all_goals exact ⟨by first | rfl | exact ret_bool HT.out.symm, rfl⟩
    · have q' : (40 : Int) < (n' : Int) := by omega
      have HT : Hid ((decide (n ≤ 40) && decide (n' ≤ 40)) = false) := Lib.hid (by simp [hs, hs'])
      go_enter Try.func8, Try.ntmps8
      go_wp2
      go_loop [3] (fun i => i = .int .i64 0 ∨ i = .int .i64 1) (fun i => 1 - (intOf i).toNat)
      case atStart => exact .inl rfl
      case round =>
        obtain rfl | rfl := hrel
        · go_wp2
          all_goals go_round
          case rel => exact .inr (by go_num)
          case measure => simp [intOf]
        · go_wp2
          all_goals go_ret
          all_goals exact ⟨by first | rfl | exact ret_bool HT.out.symm, rfl⟩
  · have q : (40 : Int) < (n : Int) := by omega
    have HT : Hid ((decide (n ≤ 40) && decide (n' ≤ 40)) = false) := Lib.hid (by simp [hs])
    go_enter Try.func8, Try.ntmps8
    go_wp2
    go_loop [3] (fun i => i = .int .i64 0) (fun _ => 0)
    case atStart => rfl
    case round =>
      obtain rfl := hrel
      go_wp2
      all_goals go_ret
      all_goals exact ⟨by first | rfl | exact ret_bool HT.out.symm, rfl⟩
theorem take_same {l l' : List Strg} {k : Nat} {s : Strg} (h : l.take k = l'.take k) (h1 : l[k]? = some s) (h2 : l'[k]? = some s) : l.take (k + 1) = l'.take (k + 1) := by
  rw [List.take_add_one, List.take_add_one, h, h1, h2]
set_option maxRecDepth 100000 in
set_option maxHeartbeats 3200000 in
theorem same_any (co co' : Bool) (A A' : Option Addr) (n n' cap cap' : Nat) (rs rs' : List Strg) (w : World) (hR : NmS w w.heap.size A n rs) (hR' : NmS w w.heap.size A' n' rs') (hn : n ≤ 1000000) (hn' : n' ≤ 1000000) :
    Calls Try.prog 19 #[.agg #[.bool co, .slice A n cap], .agg #[.bool co', .slice A' n' cap']] w fun e w' => e = .returned (.bool (decide (co = co' ∧ rs = rs'))) ∧ Below w.heap.size w w' := by
  have hb0 : Below w.heap.size w ((w.alloc (.cells #[.bool co, .slice A n cap] 24)).alloc (.cells #[.bool co', .slice A' n' cap'] 24)) := ((Below.refl _ _).alloc (Nat.le_refl _) _).alloc (by simp) _
  have HR := Lib.hid (hR.kept hb0 (by simp; omega))
  have HR' := Lib.hid (hR'.kept hb0 (by simp; omega))
  have HB := Lib.hid hb0
  clear hR hR' hb0
  by_cases hcc : co = co'
  · subst hcc
    by_cases hnn : n = n'
    · subst hnn
      have q0 : ((n : Int) != (n : Int)) = false := by simp
      cases co
      all_goals
        go_enter Try.func19, Try.ntmps19
        go_wp2
        generalize hW : (World.alloc (World.alloc w (.cells #[.bool _, .slice A n cap] 24)) _) = W at HR HR' HB ⊢
        have d1 : W.cell? ⟨w.heap.size, 1, none⟩ = some (.slice A n cap) := by rw [← hW]; simp
        have d2 : W.cell? ⟨w.heap.size + 1, 1, none⟩ = some (.slice A' n cap') := by rw [← hW]; simp
        clear hW
        go_loopw [5] (fun i wr => ∃ k : Nat, i = .int .i64 k ∧ k ≤ n ∧ rs.take k = rs'.take k ∧ ∃ q, wr = W.drewN q) (fun i _ => n - (intOf i).toNat)
        case atStart => exact ⟨0, rfl, by omega, rfl, 0, rfl⟩
        case round =>
          obtain ⟨k, rfl, hk, hno, q, rfl⟩ := hrel
          have HN := Lib.hid hno
          clear hno
          by_cases hkn : k < n
          · obtain ⟨b, off, s, rfl, hb, hx, hs, c1⟩ := HR.out.at hkn
            obtain ⟨b', off', t, rfl, hb', hx', ht, c2⟩ := HR'.out.at hkn
            have HX := Lib.hid hx
            have HX' := Lib.hid hx'
            clear hx hx'
            have kn : (k : Int) < (n : Int) := by omega
            have k0 : (0 : Int) ≤ (k : Int) := by omega
            by_cases he : s = t
            · subst he
              have qs : (s == s) = true := by simp
              have HT : Hid (rs.take (k + 1) = rs'.take (k + 1)) := Lib.hid (take_same HN.out HX.out HX'.out)
              go_wp2
              go_quiet (fail)
              go_wp2
              all_goals go_roundw
              case rel => exact ⟨k + 1, by go_num, by omega, HT.out, _, by first | rfl | rw [World.drewN_drewN]⟩
              case measure => simp [intOf]; omega
            · have qs : (s == t) = false := by rw [beq_eq_false_iff_ne]; exact he
              have HT : Hid (rs ≠ rs') := Lib.hid (by
                intro h
                have h1 := HX.out
                rw [h, HX'.out] at h1
                injection h1 with h1
                exact he h1.symm)
              clear he
              go_wp2
              go_quiet (fail)
              go_wp2
              all_goals go_ret
              all_goals exact ⟨ret_bool (by simp [HT.out]), by first | exact below_drewN HB.out _ | (rw [World.drewN_drewN]; exact below_drewN HB.out _)⟩
          · have HT : Hid (rs = rs') := Lib.hid (by have h1 := HN.out; rwa [List.take_of_length_le (by have := HR.out.1; omega), List.take_of_length_le (by have := HR'.out.1; omega)] at h1)
            go_wp2
            go_ret
            exact ⟨ret_bool (by simp [HT.out]), below_drewN HB.out _⟩
    · have q0 : ((n : Int) != (n' : Int)) = true := by simp; omega
      have HT : Hid (rs ≠ rs') := Lib.hid (fun h => hnn (by rw [HR.out.1, HR'.out.1, h]))
      clear hnn
      cases co
      all_goals
        go_enter Try.func19, Try.ntmps19
        go_wp2
        all_goals go_ret
        all_goals exact ⟨ret_bool (by simp [HT.out]), HB.out⟩
  · cases co <;> cases co'
    case false.false => exact absurd rfl hcc
    case true.true => exact absurd rfl hcc
    all_goals
      clear hcc
      go_enter Try.func19, Try.ntmps19
      go_wp2
      all_goals go_ret
      all_goals exact ⟨ret_bool (by simp), HB.out⟩
end Go.Proofs.Ytkmfpkdcedfgfaa
