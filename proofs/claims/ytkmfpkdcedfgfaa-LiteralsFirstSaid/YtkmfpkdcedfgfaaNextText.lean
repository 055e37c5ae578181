/- What nextText does to a text of the call's own: the next text. Condition: the text has at most 1000 bytes. -/
import Derived.Test.YtkmfpkdcedfgfaaFirstFree
import Derived.Deep.Onto
namespace Go.Proofs.Ytkmfpkdcedfgfaa
open Go.RowKit
def goT : Nat → List UInt8 → List UInt8
  | 0, l => l ++ [0]
  | i + 1, l => if l.getD i 0 + 1 ≠ 0 then l.set i (l.getD i 0 + 1) else goT i (l.set i 0)
/-- the next text of any bytes -/
def nextT (l : List UInt8) : List UInt8 := goT l.length l
theorem goT_succ (i : Nat) (l : List UInt8) : goT (i + 1) l = if l.getD i 0 + 1 ≠ 0 then l.set i (l.getD i 0 + 1) else goT i (l.set i 0) := rfl
set_option maxHeartbeats 1600000 in
theorem nextText_any (B : Nat) (v : Value) (l : List UInt8) (w : World) (h : OwnB w B v l) (hnil : l = [] → v = .slice none 0 0) (hm : l.length ≤ 1000) (hBw : B ≤ w.heap.size) :
    Calls Try.prog 60 #[v] w fun e w' => ∃ v', e = .returned v' ∧ OwnB w' B v' (nextT l) ∧ Below B w w' := by
  by_cases hl : 0 < l.length
  · obtain ⟨g, cap, rfl, hBg, hcap⟩ := h.form hl
    obtain ⟨n, hn⟩ : ∃ n, n = l.length := ⟨_, rfl⟩
    rw [← hn] at h hm hl hcap ⊢
    have HN := Lib.hid hn
    clear hn hnil
    have HG := Lib.hid (show nextT l = goT n l by unfold nextT; rw [HN.out])
    go_enter Try.func60, Try.ntmps60
    go_wp2_with fail
    go_loopw [3] (fun i wr => ∃ (j : Nat) (cur : List UInt8), i = .int .i64 ((j : Int) - 1) ∧ j ≤ n ∧ cur.length = n ∧ OwnB wr B (.slice (some ⟨g, 0, none⟩) n cap) cur ∧ Hid (nextT l = goT j cur) ∧ Below B w wr) (fun i _ => (intOf i + 1).toNat)
    case atStart => exact ⟨n, l, rfl, Nat.le_refl _, HN.out.symm, h, HG, Below.refl _ _⟩
    case round =>
      obtain ⟨j, cur, rfl, hj, hcl, hB, HQ, hb⟩ := hrel
      have hsr := hb.size
      have HC := Lib.hid hcl
      clear hcl
      cases j with
      | zero =>
        have hgo : Hid (nextT l = cur ++ [0]) := Lib.hid HQ.out
        have hlc : cur.length + 1 ≤ 140737488355328 := by rw [HC.out]; omega
        go_wp2_with (at_builtin; refine wp_app_u8 rfl _ _ rfl B _ _ rfl hB [0] 1 1 rfl _ rfl rfl hlc (by omega) ?_; intro v' w1 hown' hbl; refine Hid.out ?_)
        refine Lib.hid ?_
        go_wp2
        go_ret
        exact ⟨_, rfl, by rw [hgo.out]; exact hown', hb.trans hbl⟩
      | succ j =>
        obtain ⟨x, hx, c1⟩ := hB.cellX HC.out j (by omega)
        have HX := Lib.hid hx
        clear hx
        have f1 := hB.free HC.out j
        have ej : ((j + 1 : Nat) : Int) - 1 = (j : Int) := by omega
        rw [ej]
        have hlt := x.toNat_lt
        have hplus : (((x + 1 : UInt8).toNat : Nat) : Int) = ((x.toNat : Int) + 1) % 256 := by rw [UInt8.toNat_add]; simp
        have HP := Lib.hid hplus
        clear hplus
        by_cases hx1 : (x.toNat : Int) = 255
        · have hz : x + 1 = 0 := UInt8.toNat_inj.1 (by have := HP.out; have : ((0 : UInt8)).toNat = 0 := rfl; omega)
          have hgo : Hid (nextT l = goT j (cur.set j 0)) := Lib.hid (by
            rw [HQ.out, goT_succ, ← HX.out, hz, if_neg (by simp)])
          have hB2 : OwnB (wr.setCell ⟨g, j, none⟩ (.int .u8 0)) B (.slice (some ⟨g, 0, none⟩) n cap) (cur.set j 0) := hB.set HC.out j 0
          clear hz
          go_wp2
          go_roundw
          case rel => exact ⟨j, _, by go_num, by omega, by rw [List.length_set]; exact HC.out, hB2, hgo, hb.setCell (p := ⟨g, j, none⟩) hBg _⟩
          case measure => first | (simp [intOf]; done) | (simp [intOf]; omega)
        · have hz : x + 1 ≠ 0 := by
            intro e; have h1 := HP.out; rw [e] at h1
            have : ((0 : UInt8)).toNat = 0 := rfl
            omega
          have hgo : Hid (nextT l = cur.set j (x + 1)) := Lib.hid (by
            rw [HQ.out, goT_succ, ← HX.out, if_pos hz])
          have hB2 := hB.set HC.out j (x + 1)
          rw [HP.out, show ((x.toNat : Int) + 1) % 256 = (x.toNat : Int) + 1 by omega] at hB2
          clear hz
          have hnz : (((x.toNat : Int) + 1) != 0) = true := by rw [bne_iff_ne]; omega
          have hx2 : (x.toNat : Int) + 1 < 256 := by omega
          go_wp2
          go_ret
          exact ⟨_, rfl, by rw [hgo.out]; exact hB2, hb.setCell (p := ⟨g, j, none⟩) hBg _⟩
  · obtain rfl : l = [] := List.eq_nil_of_length_eq_zero (by omega)
    obtain rfl := hnil rfl
    have hgo : Hid (nextT [] = [0]) := Lib.hid rfl
    clear hnil
    go_enter Try.func60, Try.ntmps60
    go_wp2
    refine wp_loop_rounds 1 ?_
    rw [rounds_succ]
    go_wp2_with (at_builtin; refine wp_app_u8 rfl _ _ rfl B _ _ rfl h [0] 1 1 rfl _ rfl rfl (by simp) hBw ?_; intro v' w1 hown' hbl; refine Hid.out ?_)
    refine Lib.hid ?_
    go_wp2
    go_ret
    exact ⟨_, rfl, by rw [hgo.out]; exact hown', hbl⟩
end Go.Proofs.Ytkmfpkdcedfgfaa
