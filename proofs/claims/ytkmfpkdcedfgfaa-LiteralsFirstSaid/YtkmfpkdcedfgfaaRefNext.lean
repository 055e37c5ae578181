/- What the document's next returns: the next name over two alphabets. Conditions: the name and the alphabets have at most 1000 bytes. -/
import Derived.Test.YtkmfpkdcedfgfaaNextAtom
import Derived.Laws.AppendOwnNone
import Derived.BigQuiet
import Derived.Deep.LoopGhost
import Derived.Deep.QuietTactic
namespace Go.Proofs.Ytkmfpkdcedfgfaa
open Go.RowKit
/-- the place of x in a list, its length if it isn't there -/
def idx : List UInt8 → UInt8 → Nat
  | [], _ => 0
  | a :: r, x => if a = x then 0 else idx r x + 1
theorem idx_le : ∀ (l : List UInt8) (x : UInt8), idx l x ≤ l.length
  | [], _ => Nat.le_refl _
  | a :: r, x => by
    unfold idx; split
    · omega
    · have := idx_le r x; simp; omega
theorem idx_at : ∀ (l : List UInt8) (x : UInt8) (m : Nat), (∀ q, q < m → l.getD q 0 ≠ x) → m ≤ l.length → (m = l.length ∨ l.getD m 0 = x) → idx l x = m
  | [], _, m, _, hm, _ => by simp at hm; subst hm; rfl
  | a :: r, x, 0, _, _, h => by
    rcases h with h | h
    · simp at h
    · simp at h; simp [idx, h]
  | a :: r, x, m + 1, hq, hm, h => by
    have h0 : a ≠ x := by simpa using hq 0 (by omega)
    unfold idx
    rw [if_neg h0, idx_at r x m (fun q hlt => by simpa using hq (q + 1) (by omega)) (by simpa using hm) (by simpa using h)]
theorem ba_head (s : ByteArray) (h : 0 < s.size) : s.data.toList.headD 0 = s[0]'h := by
  obtain ⟨⟨l⟩⟩ := s
  cases l with
  | nil => exact absurd h (by decide)
  | cons a r => rfl
theorem ba_getD (s : ByteArray) (q : Nat) (h : q < s.size) : s.data.toList.getD q 0 = s[q]'h := by
  rw [List.getD_eq_getElem?_getD, List.getElem?_eq_getElem (by simpa using h)]
  rfl
def goR (F O : List UInt8) : Nat → List UInt8 → List UInt8
  | 0, l => F.headD 0 :: List.replicate l.length (O.headD 0)
  | i + 1, l => if idx (if i = 0 then F else O) (l.getD i 0) + 1 < (if i = 0 then F else O).length then l.set i ((if i = 0 then F else O).getD (idx (if i = 0 then F else O) (l.getD i 0) + 1) 0)
      else goR F O i (l.set i ((if i = 0 then F else O).headD 0))
/-- the document's next name over two alphabets -/
def nextR (F O l : List UInt8) : List UInt8 := goR F O l.length l
set_option maxRecDepth 100000 in
set_option maxHeartbeats 3200000 in
theorem refNext_any (B : Nat) (v : Value) (l : List UInt8) (F O : ByteArray) (w : World) (h : OwnB w B v l) (hnil : l = [] → v = .slice none 0 0) (hm : l.length ≤ 1000) (_hBw : B ≤ w.heap.size) (hF : 0 < F.size) (hO : 0 < O.size) (hF2 : F.size ≤ 1000) (hO2 : O.size ≤ 1000) :
    Calls Try.prog 51 #[v, .string F, .string O] w fun e w' => ∃ v', e = .returned v' ∧ OwnB w' w.heap.size v' (nextR F.data.toList O.data.toList l) ∧ Below w.heap.size w w' := by
  by_cases hl : 0 < l.length
  · obtain ⟨g0, cap0, rfl, hBg, hcap⟩ := h.form hl
    obtain ⟨n, hn⟩ : ∃ n, n = l.length := ⟨_, rfl⟩
    rw [← hn] at h hm hl hcap ⊢
    have HN := Lib.hid hn
    clear hn
    have h0 : OwnB w w.heap.size (.slice none 0 0) [] := World.ownsRow_nil _ _ _ _
    obtain ⟨i0, hi, hz0, hz1, hz2⟩ := info_parts Try.infoU8
    have hcells : ∀ j u, (Lib.byteCells l)[j]? = some u → w.cell? ((⟨g0, 0, none⟩ : Addr).add j) = some u := World.ownsRow.cells h rfl
    have hone := Lib.byteCells_one l
    have hlen : (Lib.byteCells l).length = n * 1 := by rw [Lib.byteCells_length, HN.out]; omega
    go_enter Try.func51, Try.ntmps51
    go_wp2_with (at_builtin; refine wpList_append_own _ rfl _ _ 61 rfl w.heap.size 5 i0 (.int .u8 0) 1 1 Try.underlying61 hi hz0 hz1 hz2 rfl (by decide) _ 0 [] rfl h0 ⟨g0, 0, none⟩ n cap0 (Lib.byteCells l) rfl hlen hcells hone (by unfold maxLen; omega) (by omega) (Nat.le_refl _) ?_; intro v1 w1 hown1 hg1 _; refine Hid.out ?_)
    have hO1 : OwnB w1 w.heap.size v1 l := by
      unfold OwnB
      rw [← HN.out]
      simpa using hown1
    have hB1 : Below w.heap.size w w1 := (Below.refl _ _).grown hg1 (Nat.le_refl _) (fun j hj => by cases hj)
    obtain ⟨g, cap, rfl, hBg1, hcap1⟩ := hO1.form (by rw [← HN.out]; exact hl)
    rw [← HN.out] at hO1 hcap1 ⊢
    have HR := Lib.hid (show nextR F.data.toList O.data.toList l = goR F.data.toList O.data.toList n l by unfold nextR; rw [HN.out])
    have hs1 := hB1.size
    clear hown1 hg1 h0 hcells hone hlen h hi hz0 hz1 hz2
    refine Lib.hid ?_
    go_wp2_with fail
    go_loopw [8, 9, 10] (fun i _ _ wr => ∃ (j : Nat) (cur : List UInt8), i = .int .i64 ((j : Int) - 1) ∧ j ≤ n ∧ cur.length = n ∧ OwnB wr w.heap.size (.slice (some ⟨g, 0, none⟩) n cap) cur ∧ Hid (nextR F.data.toList O.data.toList l = goR F.data.toList O.data.toList j cur) ∧ Below w.heap.size w wr) (fun i _ _ _ => (intOf i + 1).toNat)
    case atStart => exact ⟨n, l, rfl, Nat.le_refl _, HN.out.symm, hO1, HR, hB1⟩
    case round =>
      obtain ⟨j, cur, rfl, hj, hcl, hB, HQ, hb⟩ := hrel
      have hsr := hb.size
      have HC := Lib.hid hcl
      clear hcl
      cases j with
      | zero =>
        have hgo : Hid (nextR F.data.toList O.data.toList l = (F[0]'hF) :: List.replicate n (O[0]'hO)) := Lib.hid (by
          rw [HQ.out]; unfold goR; rw [HC.out, ba_head F hF, ba_head O hO])
        have hf0 : OwnB (wr.alloc (.cells #[.int .u8 (F[0]'hF).toNat] 5)) w.heap.size (.slice (some ⟨wr.heap.size, 0, none⟩) 1 1) [F[0]'hF] := OwnB.lit wr w.heap.size hsr [F[0]'hF] #[.int .u8 (F[0]'hF).toNat] 1 rfl rfl (by simp [maxLen])
        have HF0 := Lib.hid hf0
        clear hf0
        have hbz : Below w.heap.size w (wr.alloc (.cells #[.int .u8 (F[0]'hF).toNat] 5)) := hb.alloc hsr _
        go_wp2_with fail
        go_loopg [7] n (fun gk v wi => ∃ q : Nat, q + gk = n ∧ OwnB wi w.heap.size v ((F[0]'hF) :: List.replicate q (O[0]'hO)) ∧ Below w.heap.size w wi)
        case atStart => exact ⟨0, by omega, HF0.out, hbz⟩
        case round =>
          rename_i wi _
          obtain ⟨q, hq, hBq, hbq⟩ := hrel
          have hsq := hbq.size
          have hlen : ((F[0]'hF) :: List.replicate q (O[0]'hO)).length = q + 1 := by simp
          obtain ⟨g2, cap2, hv, hBg2, hcap2⟩ := hBq.form (by omega)
          rw [hlen] at hv
          subst hv
          have HQ2 := Lib.hid hq
          have HLN := Lib.hid hlen
          clear hq hlen
          by_cases hqn : q < n
          · go_wp2_with (at_builtin; refine wp_app_u8 rfl _ _ rfl w.heap.size _ _ rfl hBq [O[0]'hO] 1 1 rfl _ rfl rfl (by rw [HLN.out]; omega) hsq ?_; intro v' w1 hown' hbl; refine Hid.out ?_)
            refine Lib.hid ?_
            go_wp2
            go_roundg (n - q - 1)
            case measure => have := HQ2.out; omega
            case rel => exact ⟨q + 1, by omega, by rw [List.replicate_succ', ← List.cons_append]; exact hown', hbq.trans hbl⟩
          · have hqe : Hid (q = n) := Lib.hid (by have := HQ2.out; omega)
            go_wp2
            go_ret
            exact ⟨_, rfl, by rw [hgo.out, ← hqe.out]; exact hBq, hbq⟩
      | succ j =>
        obtain ⟨x, hx, c1⟩ := hB.cellX HC.out j (by omega)
        have HX := Lib.hid hx
        clear hx
        have f1 := hB.free HC.out j
        have ej : ((j + 1 : Nat) : Int) - 1 = (j : Int) := by omega
        rw [ej]
        by_cases hj0 : j = 0
        · have hsel : (if j = 0 then F.data.toList else O.data.toList) = F.data.toList := if_pos hj0
          have HSEL := Lib.hid hsel
          have HJ := Lib.hid hj0
          have hj1 : ((j : Int) == 0) = true := by rw [beq_iff_eq]; omega
          clear hsel hj0
          have HSA := Lib.hid (show F.data.toList.length = F.size by simp)
          have HHD := Lib.hid (ba_head F (by omega))
          go_wp2_with fail
          go_loopw [10] (fun m wi => ∃ (q : Nat), m = .int .i64 q ∧ q ≤ F.size ∧ (∀ p, p < q → F.data.toList.getD p 0 ≠ x) ∧ ∃ nq, wi = wr.drewN nq) (fun m _ => F.size - (intOf m).toNat)
          case atStart => exact ⟨0, rfl, by omega, fun p hp => by omega, 0, rfl⟩
          case round =>
            obtain ⟨q, rfl, hq, hno, nq, rfl⟩ := hrel
            have HNO := Lib.hid hno
            clear hno
            by_cases hlt : q < F.size
            · have i0 : (q : Int) < (F.size : Int) := by omega
              have HG := Lib.hid (ba_getD F q hlt)
              by_cases he : F[q]'hlt = x
              · have hidx : Hid (idx F.data.toList x = q) := Lib.hid (idx_at _ _ _ HNO.out (by rw [HSA.out]; omega) (.inr (by rw [HG.out]; exact he)))
                have he1 : (((F[q]'hlt).toNat : Int) != (x.toNat : Int)) = false := by rw [he]; simp
                have HE := Lib.hid he
                clear he
                by_cases hnx : q + 1 < F.size
                · have hgo : Hid (nextR F.data.toList O.data.toList l = cur.set j (F[q + 1]'hnx)) := Lib.hid (by
                    rw [HQ.out]; unfold goR; simp only [HSEL.out]
                    rw [← HX.out, hidx.out, if_pos (by rw [HSA.out]; exact hnx), ba_getD _ _ hnx])
                  have hB2 := hB.set HC.out j (F[q + 1]'hnx)
                  have i1 : (q : Int) + 1 < (F.size : Int) := by omega
                  go_wp2_with fail
                  go_quiet (fail)
                  go_wp2
                  go_ret
                  exact ⟨_, rfl, by rw [hgo.out]; exact hB2, (hb.setCell (p := ⟨g, j, none⟩) hBg1 _).trans ⟨rfl, rfl, rfl, by simp, fun _ _ => rfl⟩⟩
                · have hgo : Hid (nextR F.data.toList O.data.toList l = goR F.data.toList O.data.toList j (cur.set j (F[0]'(by omega)))) := Lib.hid (by
                    rw [HQ.out]; conv => lhs; unfold goR
                    simp only [HSEL.out]
                    rw [← HX.out, hidx.out, if_neg (by rw [HSA.out]; exact hnx), HHD.out])
                  have hB2 := hB.set HC.out j (F[0]'(by omega))
                  have i1 : (F.size : Int) ≤ (q : Int) + 1 := by omega
                  go_wp2_with fail
                  go_quiet (fail)
                  go_wp2
                  go_roundw
                  case rel => exact ⟨j, _, by go_num, by omega, by rw [List.length_set]; exact HC.out, hB2, hgo, (hb.setCell (p := ⟨g, j, none⟩) hBg1 _).trans ⟨rfl, rfl, rfl, by simp, fun _ _ => rfl⟩⟩
                  case measure => first | (simp [intOf]; done) | (simp [intOf]; omega)
              · have he1 : (((F[q]'hlt).toNat : Int) != (x.toNat : Int)) = true := by
                  rw [bne_iff_ne]; intro e; exact he (UInt8.toNat_inj.1 (by omega))
                have HE := Lib.hid he
                clear he
                go_wp2_with fail
                go_quiet (fail)
                go_wp2
                go_roundw
                case rel => exact ⟨q + 1, by go_num, by omega, (by
                  intro p hp e
                  by_cases hpq : p = q
                  · subst hpq; exact HE.out (HG.out.symm.trans e)
                  · exact HNO.out p (by omega) e), _, rfl⟩
                case measure => simp [intOf]; omega
            · have i0 : (F.size : Int) ≤ (q : Int) := by omega
              have hidx : Hid (idx F.data.toList x = q) := Lib.hid (idx_at _ _ _ HNO.out (by rw [HSA.out]; omega) (.inl (by rw [HSA.out]; omega)))
              have hd : decide ((q : Int) < (F.size : Int)) = false := by simp; omega
              have hnx : ¬ q + 1 < F.size := by omega
              have hgo : Hid (nextR F.data.toList O.data.toList l = goR F.data.toList O.data.toList j (cur.set j (F[0]'(by omega)))) := Lib.hid (by
                rw [HQ.out]; conv => lhs; unfold goR
                simp only [HSEL.out]
                rw [← HX.out, hidx.out, if_neg (by rw [HSA.out]; exact hnx), HHD.out])
              have hB2 := hB.set HC.out j (F[0]'(by omega))
              have i1 : (F.size : Int) ≤ (q : Int) + 1 := by omega
              go_wp2_with fail
              go_quiet (fail)
              go_wp2
              go_roundw
              case rel => exact ⟨j, _, by go_num, by omega, by rw [List.length_set]; exact HC.out, hB2, hgo, (hb.setCell (p := ⟨g, j, none⟩) hBg1 _).trans ⟨rfl, rfl, rfl, by simp, fun _ _ => rfl⟩⟩
              case measure => first | (simp [intOf]; done) | (simp [intOf]; omega)
        · have hsel : (if j = 0 then F.data.toList else O.data.toList) = O.data.toList := if_neg hj0
          have HSEL := Lib.hid hsel
          have hj1 : ((j : Int) == 0) = false := by rw [beq_eq_false_iff_ne]; omega
          clear hsel hj0
          have HSA := Lib.hid (show O.data.toList.length = O.size by simp)
          have HHD := Lib.hid (ba_head O (by omega))
          go_wp2_with fail
          go_loopw [10] (fun m wi => ∃ (q : Nat), m = .int .i64 q ∧ q ≤ O.size ∧ (∀ p, p < q → O.data.toList.getD p 0 ≠ x) ∧ ∃ nq, wi = wr.drewN nq) (fun m _ => O.size - (intOf m).toNat)
          case atStart => exact ⟨0, rfl, by omega, fun p hp => by omega, 0, rfl⟩
          case round =>
            obtain ⟨q, rfl, hq, hno, nq, rfl⟩ := hrel
            have HNO := Lib.hid hno
            clear hno
            by_cases hlt : q < O.size
            · have i0 : (q : Int) < (O.size : Int) := by omega
              have HG := Lib.hid (ba_getD O q hlt)
              by_cases he : O[q]'hlt = x
              · have hidx : Hid (idx O.data.toList x = q) := Lib.hid (idx_at _ _ _ HNO.out (by rw [HSA.out]; omega) (.inr (by rw [HG.out]; exact he)))
                have he1 : (((O[q]'hlt).toNat : Int) != (x.toNat : Int)) = false := by rw [he]; simp
                have HE := Lib.hid he
                clear he
                by_cases hnx : q + 1 < O.size
                · have hgo : Hid (nextR F.data.toList O.data.toList l = cur.set j (O[q + 1]'hnx)) := Lib.hid (by
                    rw [HQ.out]; unfold goR; simp only [HSEL.out]
                    rw [← HX.out, hidx.out, if_pos (by rw [HSA.out]; exact hnx), ba_getD _ _ hnx])
                  have hB2 := hB.set HC.out j (O[q + 1]'hnx)
                  have i1 : (q : Int) + 1 < (O.size : Int) := by omega
                  go_wp2_with fail
                  go_quiet (fail)
                  go_wp2
                  go_ret
                  exact ⟨_, rfl, by rw [hgo.out]; exact hB2, (hb.setCell (p := ⟨g, j, none⟩) hBg1 _).trans ⟨rfl, rfl, rfl, by simp, fun _ _ => rfl⟩⟩
                · have hgo : Hid (nextR F.data.toList O.data.toList l = goR F.data.toList O.data.toList j (cur.set j (O[0]'(by omega)))) := Lib.hid (by
                    rw [HQ.out]; conv => lhs; unfold goR
                    simp only [HSEL.out]
                    rw [← HX.out, hidx.out, if_neg (by rw [HSA.out]; exact hnx), HHD.out])
                  have hB2 := hB.set HC.out j (O[0]'(by omega))
                  have i1 : (O.size : Int) ≤ (q : Int) + 1 := by omega
                  go_wp2_with fail
                  go_quiet (fail)
                  go_wp2
                  go_roundw
                  case rel => exact ⟨j, _, by go_num, by omega, by rw [List.length_set]; exact HC.out, hB2, hgo, (hb.setCell (p := ⟨g, j, none⟩) hBg1 _).trans ⟨rfl, rfl, rfl, by simp, fun _ _ => rfl⟩⟩
                  case measure => first | (simp [intOf]; done) | (simp [intOf]; omega)
              · have he1 : (((O[q]'hlt).toNat : Int) != (x.toNat : Int)) = true := by
                  rw [bne_iff_ne]; intro e; exact he (UInt8.toNat_inj.1 (by omega))
                have HE := Lib.hid he
                clear he
                go_wp2_with fail
                go_quiet (fail)
                go_wp2
                go_roundw
                case rel => exact ⟨q + 1, by go_num, by omega, (by
                  intro p hp e
                  by_cases hpq : p = q
                  · subst hpq; exact HE.out (HG.out.symm.trans e)
                  · exact HNO.out p (by omega) e), _, rfl⟩
                case measure => simp [intOf]; omega
            · have i0 : (O.size : Int) ≤ (q : Int) := by omega
              have hidx : Hid (idx O.data.toList x = q) := Lib.hid (idx_at _ _ _ HNO.out (by rw [HSA.out]; omega) (.inl (by rw [HSA.out]; omega)))
              have hd : decide ((q : Int) < (O.size : Int)) = false := by simp; omega
              have hnx : ¬ q + 1 < O.size := by omega
              have hgo : Hid (nextR F.data.toList O.data.toList l = goR F.data.toList O.data.toList j (cur.set j (O[0]'(by omega)))) := Lib.hid (by
                rw [HQ.out]; conv => lhs; unfold goR
                simp only [HSEL.out]
                rw [← HX.out, hidx.out, if_neg (by rw [HSA.out]; exact hnx), HHD.out])
              have hB2 := hB.set HC.out j (O[0]'(by omega))
              have i1 : (O.size : Int) ≤ (q : Int) + 1 := by omega
              go_wp2_with fail
              go_quiet (fail)
              go_wp2
              go_roundw
              case rel => exact ⟨j, _, by go_num, by omega, by rw [List.length_set]; exact HC.out, hB2, hgo, (hb.setCell (p := ⟨g, j, none⟩) hBg1 _).trans ⟨rfl, rfl, rfl, by simp, fun _ _ => rfl⟩⟩
              case measure => first | (simp [intOf]; done) | (simp [intOf]; omega)
  · obtain rfl : l = [] := List.eq_nil_of_length_eq_zero (by omega)
    obtain rfl := hnil rfl
    have hgo : Hid (nextR F.data.toList O.data.toList [] = [F[0]'hF]) := Lib.hid (by
      show goR _ _ 0 [] = _
      unfold goR; rw [ba_head F hF]; rfl)
    have h0 : OwnB w w.heap.size (.slice none 0 0) [] := World.ownsRow_nil _ _ _ _
    obtain ⟨i0, hi, hz0, hz1, hz2⟩ := info_parts Try.infoU8
    have hf0 : OwnB (w.alloc (.cells #[.int .u8 (F[0]'hF).toNat] 5)) w.heap.size (.slice (some ⟨w.heap.size, 0, none⟩) 1 1) [F[0]'hF] := OwnB.lit w w.heap.size (Nat.le_refl _) [F[0]'hF] #[.int .u8 (F[0]'hF).toNat] 1 rfl rfl (by simp [maxLen])
    have HF0 := Lib.hid hf0
    clear hf0 hnil
    go_enter Try.func51, Try.ntmps51
    go_wp2_with (at_builtin; refine wpList_append_own_none rfl _ _ 61 rfl w.heap.size 5 i0 1 Try.underlying61 hi _ 0 [] rfl h0 rfl ?_; refine Hid.out ?_)
    refine Lib.hid ?_
    go_wp2
    refine wp_loop_rounds 1 ?_
    rw [rounds_succ]
    go_wp2
    refine wp_loop_rounds 1 ?_
    rw [rounds_succ]
    go_wp2
    go_ret
    exact ⟨_, rfl, by rw [hgo.out]; exact HF0.out, (Below.refl _ _).alloc (Nat.le_refl _) _⟩
end Go.Proofs.Ytkmfpkdcedfgfaa
