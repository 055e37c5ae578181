/- slices.CompactFunc at entries of the call's own: neighbours that are equal are told once. -/
import Derived.Test.YtjfknigiehggkaaGreatVl24
import Derived.Test.YtjfknigiehggkaaGreatVl26
namespace Go.Proofs.YtjfknigiehggkaaGreat
open Go Go.RowKit
theorem ddP_step {ts : List En} {j : Nat} (h : ∀ q, 1 ≤ q → q < j → nb ts q = false) : ∀ i, i ≤ j → i ≤ ts.length → ddP ts i = ts.take i
  | 0, _, _ => by simp [ddP]
  | i + 1, h1, h2 => by
    rw [ddP, ddP_step h i (by omega) (by omega), List.take_add_one]
    have : nb ts i = false := by
      rcases Nat.eq_zero_or_pos i with h0 | h0
      · subst h0
        cases hn : nb ts 0
        · rfl
        · exact absurd ((nb_iff (by omega)).1 hn).1 (by omega)
      · exact h i h0 (by omega)
    rw [this]; simp
theorem ddP_yes {ts : List En} {j : Nat} (h : nb ts j = true) : ddP ts (j + 1) = ddP ts j := by rw [ddP, if_pos h]
theorem ddP_no {ts : List En} {j : Nat} {x : En} (h : nb ts j = false) (hx : ts[j]? = some x) : ddP ts (j + 1) = ddP ts j ++ [x] := by rw [ddP, if_neg (by rw [h]; decide), hx]; rfl
/-- the first m entries of a row of n -/
def EntCut (k g m n : Nat) (ts : List En) (w : World) : Prop :=
  ∃ xs, w.ownsRow g 55 9 (.slice (some ⟨g, 0, none⟩) m n) m xs ∧ g < w.heap.size ∧ ts.length = m ∧ ∀ q, q < m → ∃ x, ts[q]? = some x ∧ EB k w (fun b => g < b ∧ b < w.heap.size) x ((xs.drop (q * 9)).take 9)
theorem take_slice {xs : List Value} {q i : Nat} (h : q < i) : ((xs.take (i * 9)).drop (q * 9)).take 9 = (xs.drop (q * 9)).take 9 := by
  have : (q + 1) * 9 ≤ i * 9 := Nat.mul_le_mul_right _ h
  apply List.ext_getElem?
  intro r
  by_cases hr : r < 9
  · rw [List.getElem?_take_of_lt hr, List.getElem?_take_of_lt hr, List.getElem?_drop, List.getElem?_drop, List.getElem?_take_of_lt (by omega)]
  · rw [List.getElem?_take_eq_none (by omega), List.getElem?_take_eq_none (by omega)]
set_option maxRecDepth 100000 in
set_option maxHeartbeats 12800000 in
theorem compactE_any (k g n : Nat) (ts : List En) (w : World) (hrow : EntRow k g n ts w) (hn : n ≤ 100000000) :
    Calls Tryz.prog 105 #[.slice (some ⟨g, 0, none⟩) n n, .func (.func 106) #[] #[]] w fun e w' => ∃ m, e = .returned (.slice (some ⟨g, 0, none⟩) m n) ∧ EntCut k g m n (ddP ts n) w' ∧ Below g w w' := by
  have htl : ts.length = n := hrow.choose_spec.2.2.1
  by_cases h2 : n < 2
  · have q1 : decide ((n : Int) < 2) = true := by rw [decide_eq_true_eq]; omega
    have HR : Hid (EntCut k g n n (ddP ts n) w) := Lib.hid (by
      rw [ddP_step (j := n) (fun q h1 h3 => by omega) n (Nat.le_refl _) (by omega), List.take_of_length_le (by omega)]
      exact hrow)
    clear h2 hrow htl
    go_enter Tryz.func105, Tryz.ntmps105
    go_wp2
    go_ret
    exact ⟨_, rfl, HR.out, Below.refl _ _⟩
  have q1 : decide ((n : Int) < 2) = false := by rw [decide_eq_false_iff_not]; omega
  have egq := enters_of Tryz.func106 (by kernel_rfl) rfl
  have HR := Lib.hid hrow
  have HN := Lib.hid (And.intro htl (And.intro hn (show 2 ≤ n by omega)))
  clear hrow htl hn h2
  go_enter Tryz.func105, Tryz.ntmps105
  go_wp2_with fail
  clear q1
  go_loopw [5] (fun i wr => ∃ j : Nat, i = .int .i64 j ∧ 1 ≤ j ∧ j ≤ n ∧ (∀ q, 1 ≤ q → q < j → nb ts q = false) ∧ Hid (EntRow k g n ts wr) ∧ Hid (Below w.heap.size w wr)) (fun i _ => n - (intOf i).toNat)
  case atStart => exact ⟨1, rfl, Nat.le_refl _, by have := HN.out; omega, fun q _ _ => by omega, HR, Lib.hid (Below.refl _ _)⟩
  case round =>
    obtain ⟨j, rfl, hj1, hj, hnb, HE, HB⟩ := hrel
    have HNB := Lib.hid hnb
    clear hnb
    by_cases hjn : j < n
    · obtain ⟨jm, hjm⟩ : ∃ jm, j = jm + 1 := ⟨j - 1, by omega⟩
      obtain ⟨x, x0, x1, x2, x3, x4, x5, x6, x7, x8, hx, hEx, c0, c1, c2, c3, c4, c5, c6, c7, c8⟩ := HE.out.at hjn
      obtain ⟨p, p0, p1, p2, p3, p4, p5, p6, p7, p8, hp, hEp, d0, d1, d2, d3, d4, d5, d6, d7, d8⟩ := HE.out.at (q := jm) (by omega)
      have HXE := Lib.hid (And.intro hEx hEp)
      have HXP := Lib.hid (And.intro hx hp)
      have hgl : g < wr.heap.size := HE.out.choose_spec.2.1
      have HS : Hid (∀ V, Below wr.heap.size wr V → V.cell? ⟨g, j * 9, none⟩ = some x0 ∧ V.cell? ⟨g, j * 9 + 1, none⟩ = some x1 ∧ V.cell? ⟨g, j * 9 + 2, none⟩ = some x2 ∧ V.cell? ⟨g, j * 9 + 3, none⟩ = some x3 ∧ V.cell? ⟨g, j * 9 + 4, none⟩ = some x4 ∧ V.cell? ⟨g, j * 9 + 5, none⟩ = some x5 ∧ V.cell? ⟨g, j * 9 + 6, none⟩ = some x6 ∧ V.cell? ⟨g, j * 9 + 7, none⟩ = some x7 ∧ V.cell? ⟨g, j * 9 + 8, none⟩ = some x8 ∧ V.cell? ⟨g, jm * 9, none⟩ = some p0 ∧ V.cell? ⟨g, jm * 9 + 1, none⟩ = some p1 ∧ V.cell? ⟨g, jm * 9 + 2, none⟩ = some p2 ∧ V.cell? ⟨g, jm * 9 + 3, none⟩ = some p3 ∧ V.cell? ⟨g, jm * 9 + 4, none⟩ = some p4 ∧ V.cell? ⟨g, jm * 9 + 5, none⟩ = some p5 ∧ V.cell? ⟨g, jm * 9 + 6, none⟩ = some p6 ∧ V.cell? ⟨g, jm * 9 + 7, none⟩ = some p7 ∧ V.cell? ⟨g, jm * 9 + 8, none⟩ = some p8) := Lib.hid fun V hV => ⟨(hV.cell (p := ⟨g, _, none⟩) hgl).trans c0, (hV.cell (p := ⟨g, _, none⟩) hgl).trans c1, (hV.cell (p := ⟨g, _, none⟩) hgl).trans c2, (hV.cell (p := ⟨g, _, none⟩) hgl).trans c3, (hV.cell (p := ⟨g, _, none⟩) hgl).trans c4, (hV.cell (p := ⟨g, _, none⟩) hgl).trans c5, (hV.cell (p := ⟨g, _, none⟩) hgl).trans c6, (hV.cell (p := ⟨g, _, none⟩) hgl).trans c7, (hV.cell (p := ⟨g, _, none⟩) hgl).trans c8, (hV.cell (p := ⟨g, _, none⟩) hgl).trans d0, (hV.cell (p := ⟨g, _, none⟩) hgl).trans d1, (hV.cell (p := ⟨g, _, none⟩) hgl).trans d2, (hV.cell (p := ⟨g, _, none⟩) hgl).trans d3, (hV.cell (p := ⟨g, _, none⟩) hgl).trans d4, (hV.cell (p := ⟨g, _, none⟩) hgl).trans d5, (hV.cell (p := ⟨g, _, none⟩) hgl).trans d6, (hV.cell (p := ⟨g, _, none⟩) hgl).trans d7, (hV.cell (p := ⟨g, _, none⟩) hgl).trans d8⟩
      have heq : Hid (∀ V, Below wr.heap.size wr V → Calls Tryz.prog 106 #[.agg #[x0, x1, x2, x3, x4, x5, x6, x7, x8], .agg #[p0, p1, p2, p3, p4, p5, p6, p7, p8]] V fun r w' => r = .returned (.bool (nb ts j)) ∧ Below V.heap.size V w') := Lib.hid fun V hV => by
        have h := eqE_any k x p [x0, x1, x2, x3, x4, x5, x6, x7, x8] [p0, p1, p2, p3, p4, p5, p6, p7, p8] V (EB.sub (fun b hb => by have := hb.2; have := hV.size; omega) (Nat.le_refl _) (EB.keep (.of_below hV fun _ h => h.2) HXE.out.1)) (EB.sub (fun b hb => by have := hb.2; have := hV.size; omega) (Nat.le_refl _) (EB.keep (.of_below hV fun _ h => h.2) HXE.out.2))
        rw [← nb_eq (by omega) (show ts[j - 1]? = some p by rw [show j - 1 = jm by omega]; exact HXP.out.2) HXP.out.1] at h
        exact h
      generalize hz : nb ts j = z at heq
      have HZ := Lib.hid hz
      have HBD : Hid (Below wr.heap.size wr wr.drew) := Lib.hid (Below.refl _ _).drew
      have kn : (j : Int) < (n : Int) := by omega
      have k0 : (0 : Int) ≤ (j : Int) := by omega
      have qm : IntKind.i64.wrap ((j : Int) - 1) = (jm : Int) := by rw [IntWalk.i64_in _ (by have := HN.out; omega)]; omega
      have km : (jm : Int) < (n : Int) := by omega
      have km0 : (0 : Int) ≤ (jm : Int) := by omega
      have hwj : IntKind.i64.wrap ((j : Int) + 1) = (j : Int) + 1 := IntWalk.i64_in _ (by have := HN.out; omega)
      have HJ := Lib.hid (And.intro hjn (And.intro hj1 hjm))
      clear hjm hz hx hp hEx hEp c0 d0 c1 d1 c2 d2 c3 d3 c4 d4 c5 d5 c6 d6 c7 d7 c8 d8 hj hj1 hjn
      go_wp2_with fail
      refine wp_region_held_drew (S := fun V => V.cell? ⟨g, j * 9, none⟩ = some x0 ∧ V.cell? ⟨g, j * 9 + 1, none⟩ = some x1 ∧ V.cell? ⟨g, j * 9 + 2, none⟩ = some x2 ∧ V.cell? ⟨g, j * 9 + 3, none⟩ = some x3 ∧ V.cell? ⟨g, j * 9 + 4, none⟩ = some x4 ∧ V.cell? ⟨g, j * 9 + 5, none⟩ = some x5 ∧ V.cell? ⟨g, j * 9 + 6, none⟩ = some x6 ∧ V.cell? ⟨g, j * 9 + 7, none⟩ = some x7 ∧ V.cell? ⟨g, j * 9 + 8, none⟩ = some x8 ∧ V.cell? ⟨g, jm * 9, none⟩ = some p0 ∧ V.cell? ⟨g, jm * 9 + 1, none⟩ = some p1 ∧ V.cell? ⟨g, jm * 9 + 2, none⟩ = some p2 ∧ V.cell? ⟨g, jm * 9 + 3, none⟩ = some p3 ∧ V.cell? ⟨g, jm * 9 + 4, none⟩ = some p4 ∧ V.cell? ⟨g, jm * 9 + 5, none⟩ = some p5 ∧ V.cell? ⟨g, jm * 9 + 6, none⟩ = some p6 ∧ V.cell? ⟨g, jm * 9 + 7, none⟩ = some p7 ∧ V.cell? ⟨g, jm * 9 + 8, none⟩ = some p8) (by kernel_rfl) (HS.out _ HBD.out) (fun hHeld => ?_)
      refine tk 0 hHeld ?_
      try simp only [Act.put, pA, pB, pC]
      refine tk 1 hHeld ?_
      try simp only [Act.put, pA, pB, pC]
      refine tk 2 hHeld ?_
      try simp only [Act.put, pA, pB, pC]
      refine tk 3 hHeld ?_
      try simp only [Act.put, pA, pB, pC]
      refine tk 4 hHeld ?_
      try simp only [Act.put, pA, pB, pC]
      refine tk 5 hHeld ?_
      try simp only [Act.put, pA, pB, pC]
      refine tk 6 hHeld ?_
      try simp only [Act.put, pA, pB, pC]
      refine tk 7 hHeld ?_
      try simp only [Act.put, pA, pB, pC]
      refine tk 8 hHeld ?_
      try simp only [Act.put, pA, pB, pC]
      refine tk 9 hHeld ?_
      try simp only [Act.put, pA, pB, pC]
      refine one_op 10 (by kernel_rfl) rfl (by rfl) (fun K hK => ?_)
      go_simp
      refine (heq.out _ HBD.out).mono ?_
      rintro e w2 ⟨rfl, hb2⟩
      have HB2 := Lib.hid (HBD.out.trans (hb2.mono HBD.out.size))
      have hS2 := HS.out w2 HB2.out
      refine hK _ _ hS2 ?_
      try simp only [Act.put, pA, pB, pC]
      refine wpAnyH_done (by kernel_rfl) ?_ _
      cases z
      · go_wp2_with fail
        go_roundw
        case rel => exact ⟨j + 1, by go_num, by omega, by have := HJ.out; omega, fun q h1 h3 => by
          rcases Nat.lt_or_ge q j with h4 | h4
          · exact HNB.out q h1 h4
          · have : q = j := by omega
            rw [this]; exact HZ.out, Lib.hid (HE.out.below HB2.out), Lib.hid (HB.out.trans (HB2.out.mono HB.out.size))⟩
        case measure => simp [intOf]; try omega
      · have icn : ¬ (n = j) := by have := HJ.out; omega
        have icj : (j : Int) ≤ (n : Int) := by have := HJ.out; omega
        have HE2 := Lib.hid (HE.out.below HB2.out)
        have HBW2 : Hid (Below g w w2) := Lib.hid ((HB.out.trans (HB2.out.mono HB.out.size)).mono (Nat.le_of_lt HR.out.choose_spec.2.1))
        clear kn k0 qm km km0 hwj heq hgl hS2
        go_wp2_with fail
        go_loopw [5, 7] (fun i i2 wq => ∃ (ki k2 : Nat) (M : List En), i = .int .i64 ki ∧ i2 = .int .i64 k2 ∧ j ≤ ki ∧ 1 ≤ k2 ∧ ki + 1 ≤ j + k2 ∧ j + k2 ≤ n ∧ M.length = n ∧ (∀ q, ki ≤ q → M[q]? = ts[q]?) ∧ M.take ki = ddP ts (j + k2) ∧ Hid (EntRow k g n M wq) ∧ Hid (Below g w wq)) (fun _ i2 _ => n - (intOf i2).toNat)
        case atStart => exact ⟨j, 1, ts, rfl, rfl, Nat.le_refl _, Nat.le_refl _, by omega, by have := HJ.out; omega, HN.out.1, fun _ _ => rfl, by rw [ddP_yes HZ.out, ddP_step HNB.out j (Nat.le_refl _) (by have := HN.out; have := HJ.out; omega)], HE2, HBW2⟩
        case round =>
          rename World => wq
          obtain ⟨ki, k2, M, rfl, rfl, hk1, hk2, hk3, hk4, hML, hMT, hMD, HM, HBM⟩ := hrel
          have HMT := Lib.hid (And.intro hML (And.intro hMT hMD))
          have HKK := Lib.hid (And.intro hk1 (And.intro hk2 (And.intro hk3 hk4)))
          clear hML hMT hMD
          by_cases hjk : j + k2 < n
          · obtain ⟨km, hkm⟩ : ∃ km, k2 = km + 1 := ⟨k2 - 1, by omega⟩
            obtain ⟨x, x0, x1, x2, x3, x4, x5, x6, x7, x8, hx, hEx, c0, c1, c2, c3, c4, c5, c6, c7, c8⟩ := HM.out.at hjk
            obtain ⟨p, p0, p1, p2, p3, p4, p5, p6, p7, p8, hp, hEp, d0, d1, d2, d3, d4, d5, d6, d7, d8⟩ := HM.out.at (q := j + km) (by omega)
            rw [HMT.out.2.1 _ (by omega)] at hx hp
            have HXE := Lib.hid (And.intro hEx hEp)
            have HXP := Lib.hid (And.intro hx hp)
            have hgl : g < wq.heap.size := HM.out.choose_spec.2.1
            simp only [Nat.add_mul] at c0 d0 c1 d1 c2 d2 c3 d3 c4 d4 c5 d5 c6 d6 c7 d7 c8 d8
            have HS : Hid (∀ V, Below wq.heap.size wq V → V.cell? ⟨g, j * 9 + k2 * 9, none⟩ = some x0 ∧ V.cell? ⟨g, j * 9 + k2 * 9 + 1, none⟩ = some x1 ∧ V.cell? ⟨g, j * 9 + k2 * 9 + 2, none⟩ = some x2 ∧ V.cell? ⟨g, j * 9 + k2 * 9 + 3, none⟩ = some x3 ∧ V.cell? ⟨g, j * 9 + k2 * 9 + 4, none⟩ = some x4 ∧ V.cell? ⟨g, j * 9 + k2 * 9 + 5, none⟩ = some x5 ∧ V.cell? ⟨g, j * 9 + k2 * 9 + 6, none⟩ = some x6 ∧ V.cell? ⟨g, j * 9 + k2 * 9 + 7, none⟩ = some x7 ∧ V.cell? ⟨g, j * 9 + k2 * 9 + 8, none⟩ = some x8 ∧ V.cell? ⟨g, j * 9 + km * 9, none⟩ = some p0 ∧ V.cell? ⟨g, j * 9 + km * 9 + 1, none⟩ = some p1 ∧ V.cell? ⟨g, j * 9 + km * 9 + 2, none⟩ = some p2 ∧ V.cell? ⟨g, j * 9 + km * 9 + 3, none⟩ = some p3 ∧ V.cell? ⟨g, j * 9 + km * 9 + 4, none⟩ = some p4 ∧ V.cell? ⟨g, j * 9 + km * 9 + 5, none⟩ = some p5 ∧ V.cell? ⟨g, j * 9 + km * 9 + 6, none⟩ = some p6 ∧ V.cell? ⟨g, j * 9 + km * 9 + 7, none⟩ = some p7 ∧ V.cell? ⟨g, j * 9 + km * 9 + 8, none⟩ = some p8) := Lib.hid fun V hV => ⟨(hV.cell (p := ⟨g, _, none⟩) hgl).trans c0, (hV.cell (p := ⟨g, _, none⟩) hgl).trans c1, (hV.cell (p := ⟨g, _, none⟩) hgl).trans c2, (hV.cell (p := ⟨g, _, none⟩) hgl).trans c3, (hV.cell (p := ⟨g, _, none⟩) hgl).trans c4, (hV.cell (p := ⟨g, _, none⟩) hgl).trans c5, (hV.cell (p := ⟨g, _, none⟩) hgl).trans c6, (hV.cell (p := ⟨g, _, none⟩) hgl).trans c7, (hV.cell (p := ⟨g, _, none⟩) hgl).trans c8, (hV.cell (p := ⟨g, _, none⟩) hgl).trans d0, (hV.cell (p := ⟨g, _, none⟩) hgl).trans d1, (hV.cell (p := ⟨g, _, none⟩) hgl).trans d2, (hV.cell (p := ⟨g, _, none⟩) hgl).trans d3, (hV.cell (p := ⟨g, _, none⟩) hgl).trans d4, (hV.cell (p := ⟨g, _, none⟩) hgl).trans d5, (hV.cell (p := ⟨g, _, none⟩) hgl).trans d6, (hV.cell (p := ⟨g, _, none⟩) hgl).trans d7, (hV.cell (p := ⟨g, _, none⟩) hgl).trans d8⟩
            have heq : Hid (∀ V, Below wq.heap.size wq V → Calls Tryz.prog 106 #[.agg #[x0, x1, x2, x3, x4, x5, x6, x7, x8], .agg #[p0, p1, p2, p3, p4, p5, p6, p7, p8]] V fun r w' => r = .returned (.bool (nb ts (j + k2))) ∧ Below V.heap.size V w') := Lib.hid fun V hV => by
              have h := eqE_any k x p [x0, x1, x2, x3, x4, x5, x6, x7, x8] [p0, p1, p2, p3, p4, p5, p6, p7, p8] V (EB.sub (fun b hb => by have := hb.2; have := hV.size; omega) (Nat.le_refl _) (EB.keep (.of_below hV fun _ h => h.2) HXE.out.1)) (EB.sub (fun b hb => by have := hb.2; have := hV.size; omega) (Nat.le_refl _) (EB.keep (.of_below hV fun _ h => h.2) HXE.out.2))
              rw [← nb_eq (by omega) (show ts[j + k2 - 1]? = some p by rw [show j + k2 - 1 = j + km by omega]; exact HXP.out.2) HXP.out.1] at h
              exact h
            generalize hz : nb ts (j + k2) = z at heq
            have HZ2 := Lib.hid hz
            have HBD : Hid (Below wq.heap.size wq wq.drew) := Lib.hid (Below.refl _ _).drew
            have kn : (k2 : Int) < ((n - j : Nat) : Int) := by omega
            have k0 : (0 : Int) ≤ (k2 : Int) := by omega
            have qm : IntKind.i64.wrap ((k2 : Int) - 1) = (km : Int) := by rw [IntWalk.i64_in _ (by have := HN.out; omega)]; omega
            have kmn : (km : Int) < ((n - j : Nat) : Int) := by omega
            have km0 : (0 : Int) ≤ (km : Int) := by omega
            have hw2 : IntKind.i64.wrap ((k2 : Int) + 1) = (k2 : Int) + 1 := IntWalk.i64_in _ (by have := HN.out; omega)
            have hwi : IntKind.i64.wrap ((ki : Int) + 1) = (ki : Int) + 1 := IntWalk.i64_in _ (by have := HN.out; omega)
            have HJK := Lib.hid (And.intro hjk hkm)
            clear hkm hz hx hp hEx hEp c0 d0 c1 d1 c2 d2 c3 d3 c4 d4 c5 d5 c6 d6 c7 d7 c8 d8 hk1 hk2 hk3 hk4 hjk
            go_wp2_with fail
            refine wp_region_held_drew (S := fun V => V.cell? ⟨g, j * 9 + k2 * 9, none⟩ = some x0 ∧ V.cell? ⟨g, j * 9 + k2 * 9 + 1, none⟩ = some x1 ∧ V.cell? ⟨g, j * 9 + k2 * 9 + 2, none⟩ = some x2 ∧ V.cell? ⟨g, j * 9 + k2 * 9 + 3, none⟩ = some x3 ∧ V.cell? ⟨g, j * 9 + k2 * 9 + 4, none⟩ = some x4 ∧ V.cell? ⟨g, j * 9 + k2 * 9 + 5, none⟩ = some x5 ∧ V.cell? ⟨g, j * 9 + k2 * 9 + 6, none⟩ = some x6 ∧ V.cell? ⟨g, j * 9 + k2 * 9 + 7, none⟩ = some x7 ∧ V.cell? ⟨g, j * 9 + k2 * 9 + 8, none⟩ = some x8 ∧ V.cell? ⟨g, j * 9 + km * 9, none⟩ = some p0 ∧ V.cell? ⟨g, j * 9 + km * 9 + 1, none⟩ = some p1 ∧ V.cell? ⟨g, j * 9 + km * 9 + 2, none⟩ = some p2 ∧ V.cell? ⟨g, j * 9 + km * 9 + 3, none⟩ = some p3 ∧ V.cell? ⟨g, j * 9 + km * 9 + 4, none⟩ = some p4 ∧ V.cell? ⟨g, j * 9 + km * 9 + 5, none⟩ = some p5 ∧ V.cell? ⟨g, j * 9 + km * 9 + 6, none⟩ = some p6 ∧ V.cell? ⟨g, j * 9 + km * 9 + 7, none⟩ = some p7 ∧ V.cell? ⟨g, j * 9 + km * 9 + 8, none⟩ = some p8) (by kernel_rfl) (HS.out _ HBD.out) (fun hHeld => ?_)
            refine tk 0 hHeld ?_
            try simp only [Act.put, pA, pB, pC]
            refine tk 1 hHeld ?_
            try simp only [Act.put, pA, pB, pC]
            refine tk 2 hHeld ?_
            try simp only [Act.put, pA, pB, pC]
            refine tk 3 hHeld ?_
            try simp only [Act.put, pA, pB, pC]
            refine tk 4 hHeld ?_
            try simp only [Act.put, pA, pB, pC]
            refine tk 5 hHeld ?_
            try simp only [Act.put, pA, pB, pC]
            refine tk 6 hHeld ?_
            try simp only [Act.put, pA, pB, pC]
            refine tk 7 hHeld ?_
            try simp only [Act.put, pA, pB, pC]
            refine tk 8 hHeld ?_
            try simp only [Act.put, pA, pB, pC]
            refine tk 9 hHeld ?_
            try simp only [Act.put, pA, pB, pC]
            refine one_op 10 (by kernel_rfl) rfl (by rfl) (fun K hK => ?_)
            go_simp
            refine (heq.out _ HBD.out).mono ?_
            rintro e w5 ⟨rfl, hb5⟩
            have HB5 := Lib.hid (HBD.out.trans (hb5.mono HBD.out.size))
            have hS5 := HS.out w5 HB5.out
            refine hK _ _ hS5 ?_
            try simp only [Act.put, pA, pB, pC]
            refine tk 11 hS5 ?_
            try simp only [Act.put, pA, pB, pC]
            refine wpAnyH_done (by kernel_rfl) ?_ _
            have HE5 := Lib.hid (HM.out.below HB5.out)
            have HBW5 : Hid (Below g w w5) := Lib.hid (HBM.out.trans (HB5.out.mono (Nat.le_of_lt HM.out.choose_spec.2.1)))
            cases z
            · obtain ⟨ye, y0, y1, y2, y3, y4, y5, y6, y7, y8, _, _, s0, s1, s2, s3, s4, s5, s6, s7, s8⟩ := HE5.out.at (q := ki) (by have := HKK.out; have := HJK.out; omega)
              have z0 := HE5.out.fz (ki * 9)
              have z1 := HE5.out.fz (ki * 9 + 1)
              have z2 := HE5.out.fz (ki * 9 + 2)
              have z3 := HE5.out.fz (ki * 9 + 3)
              have z4 := HE5.out.fz (ki * 9 + 4)
              have z5 := HE5.out.fz (ki * 9 + 5)
              have z6 := HE5.out.fz (ki * 9 + 6)
              have z7 := HE5.out.fz (ki * 9 + 7)
              have z8 := HE5.out.fz (ki * 9 + 8)
              obtain ⟨a0, a1, a2, a3, a4, a5, a6, a7, a8, _⟩ := hS5
              have kin : (ki : Int) < (n : Int) := by have := HKK.out; have := HJK.out; omega
              have ki0 : (0 : Int) ≤ (ki : Int) := by omega
              have HXV : Hid (EB k w5 (fun b => g < b ∧ b < w5.heap.size) x [x0, x1, x2, x3, x4, x5, x6, x7, x8]) := Lib.hid (EB.later HB5.out x _ HXE.out.1)
              obtain ⟨F0, f0, g0, ff, fa, fi, fs, F1, f1, g1, F2, f2, g2, F3, f3, g3, F4, f4, g4, hxf⟩ := HXE.out.1.form9
              simp only [List.cons.injEq, and_true] at hxf
              obtain ⟨rfl, rfl, rfl, rfl, rfl, rfl, rfl, rfl, rfl⟩ := hxf
              clear heq hgl
              go_wp2_with fail
              go_roundw
              case rel =>
                have hst := EntRow.store (x := x) rfl HE5.out (show ki < n by have := HKK.out; have := HJK.out; omega) HXV.out
                have hkk := HKK.out
                have hjj := HJK.out
                refine ⟨ki + 1, k2 + 1, M.set ki x, by go_num, by go_num, by omega, by omega, by omega, by omega, by rw [List.length_set]; exact HMT.out.1, fun q hq => ?_, ?_, Lib.hid hst, Lib.hid (Below.setCell (Below.setCell (Below.setCell (Below.setCell (Below.setCell (Below.setCell (Below.setCell (Below.setCell (Below.setCell (HBW5.out) (p := ⟨g, _, none⟩) (Nat.le_refl _) _) (p := ⟨g, _, none⟩) (Nat.le_refl _) _) (p := ⟨g, _, none⟩) (Nat.le_refl _) _) (p := ⟨g, _, none⟩) (Nat.le_refl _) _) (p := ⟨g, _, none⟩) (Nat.le_refl _) _) (p := ⟨g, _, none⟩) (Nat.le_refl _) _) (p := ⟨g, _, none⟩) (Nat.le_refl _) _) (p := ⟨g, _, none⟩) (Nat.le_refl _) _) (p := ⟨g, _, none⟩) (Nat.le_refl _) _)⟩
                · rw [List.getElem?_set_ne (by omega)]
                  exact HMT.out.2.1 q (by omega)
                · have hkl : ki < M.length := by have := HMT.out.1; omega
                  rw [show j + (k2 + 1) = (j + k2) + 1 by omega, ddP_no HZ2.out HXP.out.1, ← HMT.out.2.2, List.take_add_one, List.getElem?_set_self hkl, List.take_set_of_le (Nat.le_refl _)]
                  rfl
              case measure => have := HJK.out; simp [intOf]; omega
            · clear heq hgl
              go_wp2_with fail
              go_roundw
              case rel =>
                have hkk := HKK.out
                have hjj := HJK.out
                exact ⟨ki, k2 + 1, M, rfl, by go_num, by omega, by omega, by omega, by omega, HMT.out.1, HMT.out.2.1, by rw [show j + (k2 + 1) = (j + k2) + 1 by omega, ddP_yes HZ2.out]; exact HMT.out.2.2, HE5, HBW5⟩
              case measure => have := HJK.out; simp [intOf]; omega
          · have hend : j + k2 = n := by omega
            have hkin : ki < n := by omega
            have hMH := HM.out
            obtain ⟨xs, h1, hg1, hl1, hel⟩ := hMH
            obtain ⟨w3, hcl, hown, hgr⟩ := run_clearE h1 ki (n - ki) hkin
            have hb3 : Below g w w3 := HBM.out.grown hgr (Nat.le_of_lt hg1) (fun q hq => by injection hq with hq; omega)
            have hs3 : Same (fun b => g < b ∧ b < wq.heap.size) wq w3 := ⟨hgr.size, fun b i hb hl => World.cell?_of_block (hgr.block b hl fun e => by injection e with e; have := hb.1; omega)⟩
            have HFIN : Hid (EntCut k g ki n (ddP ts n) w3) := Lib.hid (by
              have hd : M.take ki = ddP ts n := by rw [HMT.out.2.2, hend]
              refine ⟨_, hown, Nat.lt_of_lt_of_le hg1 hgr.size, by rw [← hd, List.length_take]; omega, fun q hq => ?_⟩
              obtain ⟨x, hx, hE⟩ := hel q (by omega)
              refine ⟨x, by rw [← hd, List.getElem?_take_of_lt hq]; exact hx, ?_⟩
              rw [take_slice hq]
              exact EB.sub (fun b hb => ⟨hb.1, Nat.lt_of_lt_of_le hb.2 hgr.size⟩) (Nat.le_refl _) (EB.keep hs3 hE))
            have HB3 := Lib.hid hb3
            have kjn : ¬ (k2 : Int) < ((n - j : Nat) : Int) := by omega
            have ikn : ¬ (n = ki) := by omega
            have ikc : (ki : Int) ≤ (n : Int) := by omega
            have ik0 : (0 : Int) ≤ (ki : Int) := by omega
            clear hend hkin h1 hg1 hl1 hel hown hgr hb3 hs3 hk1 hk2 hk3 hk4 hjk
            go_wp2
            go_ret
            exact ⟨_, rfl, HFIN.out, HB3.out⟩

    · obtain rfl : j = n := by omega
      have HFIN : Hid (EntCut k g j j (ddP ts j) wr) := Lib.hid (by
        rw [ddP_step HNB.out j (Nat.le_refl _) (by have := HN.out; omega), List.take_of_length_le (by have := HN.out; omega)]
        exact HE.out)
      have HB3 : Hid (Below g w wr) := Lib.hid (HB.out.mono (Nat.le_of_lt HR.out.choose_spec.2.1))
      clear hj1 hj hjn
      go_wp2
      go_ret
      exact ⟨_, rfl, HFIN.out, HB3.out⟩
end Go.Proofs.YtjfknigiehggkaaGreat
