/- What the document's Valid returns, given what it finds at each node. -/
import Derived.Test.YtjfknigiehggkaaGreatVv01
import Derived.Test.YtjfknigiehggkaaGreatVv11
namespace Go.Proofs.YtjfknigiehggkaaGreat
open Go Go.RowKit
/-- one node is valid, whatever its parts are -/
def nodeV : Vl → Bool
  | .mk k i t v y e l => labelsB l && usesB k i t v y e && kindB k i t v y e
def NodeOk : Prop := ∀ (k : Nat) (v : Vl) (cs : List Value) (w : World), VS k w w.heap.size v cs → Calls Tryz.prog 85 #[.agg cs.toArray] w fun e w' => e = .returned (.bool (nodeV v)) ∧ Below w.heap.size w w'
theorem all_step {α : Type} {p : α → Bool} {l : List α} {j : Nat} {x : α} (h : l[j]? = some x) : (l.take (j + 1)).all p = ((l.take j).all p && p x) := by
  rw [List.take_add_one, h, List.all_append]
  simp
theorem all_false {α : Type} {p : α → Bool} {l : List α} {j : Nat} {x : α} (h : l[j]? = some x) (hx : p x = false) : l.all p = false := by
  rw [List.all_eq_false]
  exact ⟨x, List.mem_of_getElem? h, by simp [hx]⟩
set_option maxRecDepth 100000 in
set_option maxHeartbeats 6400000 in
theorem refValid_any (hN : Hid NodeOk) : ∀ (k : Nat) (v : Vl) (cs : List Value) (w : World), VS k w w.heap.size v cs →
    Calls Tryz.prog 43 #[.agg cs.toArray] w fun e w' => e = .returned (.bool (okV v)) ∧ Below w.heap.size w w' := by
  intro k
  induction k with
  | zero => intro v cs w h; exact h.elim
  | succ k ih =>
    intro v cs w h
    have hNd := fun V (hV : Below w.heap.size w V) => hN.out (k + 1) v cs V (VS.up hV.size (Nat.le_refl _) (VS.on hV h))
    obtain ⟨kind, int, text, kids, keys, ents, labels⟩ := v
    obtain ⟨uk, uy, ue, ul, rfl, _, _, _, hk, hyy, he, hll⟩ := h
    obtain ⟨A, cap, rfl, hkl⟩ := hk.form
    obtain ⟨A', cap', rfl, hel⟩ := he.form
    unfold maxLen at hkl hel
    have HKI := Lib.hid hk
    have HEN := Lib.hid he
    clear hk he hyy hll
    have IH := Lib.hid ih
    clear ih
    have HR : Hid (okV (.mk kind int text kids keys ents labels) = (nodeV (.mk kind int text kids keys ents labels) && kids.all okV && ents.all okE)) := Lib.hid (by rw [okV, okVs_all, okEs_all]; rfl)
    generalize okV (.mk kind int text kids keys ents labels) = y at HR ⊢
    generalize nodeV (.mk kind int text kids keys ents labels) = z1 at hNd HR
    obtain ⟨W, hW⟩ : ∃ W, W = w.alloc (.cells #[.int .i64 kind, .int .i64 int, .string ⟨text.toArray⟩, .slice A kids.length cap, uy, .slice A' ents.length cap', ul] 27) := ⟨_, rfl⟩
    have hbl : Below w.heap.size w W := by rw [hW]; exact (Below.refl _ _).alloc (Nat.le_refl _) _
    have d0 : W.cell? ⟨w.heap.size, 0, none⟩ = some (.int .i64 kind) := by rw [hW]; simp
    have d1 : W.cell? ⟨w.heap.size, 1, none⟩ = some (.int .i64 int) := by rw [hW]; simp
    have d2 : W.cell? ⟨w.heap.size, 2, none⟩ = some (.string ⟨text.toArray⟩) := by rw [hW]; simp
    have d3 : W.cell? ⟨w.heap.size, 3, none⟩ = some (.slice A kids.length cap) := by rw [hW]; simp
    have d4 : W.cell? ⟨w.heap.size, 4, none⟩ = some uy := by rw [hW]; simp
    have d5 : W.cell? ⟨w.heap.size, 5, none⟩ = some (.slice A' ents.length cap') := by rw [hW]; simp
    have d6 : W.cell? ⟨w.heap.size, 6, none⟩ = some ul := by rw [hW]; simp
    have hlt : w.heap.size < W.heap.size := by rw [hW]; simp
    have h1 := hNd W hbl
    have HB := Lib.hid hbl
    clear hbl hNd
    go_enter Tryz.func43, Tryz.ntmps43
    go_wp2_with fail
    rw [← hW]
    clear hW
    go_wp2_with (go_at_call 85; refine h1.mono ?_; rintro e w1 ⟨rfl, hb1⟩; refine Hid.out ?_)
    refine Lib.hid ?_
    clear h1
    cases z1
    · have HU : Hid (y = false) := Lib.hid (by rw [HR.out]; rfl)
      go_wp2
      go_ret
      exact ⟨ret_bool HU.out.symm, HB.out.trans (hb1.mono HB.out.size)⟩
    have e3' : w1.cell? ⟨w.heap.size, 3, none⟩ = some (.slice A kids.length cap) := (hb1.cell (p := ⟨w.heap.size, 3, none⟩) hlt).trans d3
    have e5' : w1.cell? ⟨w.heap.size, 5, none⟩ = some (.slice A' ents.length cap') := (hb1.cell (p := ⟨w.heap.size, 5, none⟩) hlt).trans d5
    have hlt1 : w.heap.size < w1.heap.size := Nat.lt_of_lt_of_le hlt hb1.size
    replace HB : Hid (Below w.heap.size w w1) := Lib.hid (HB.out.trans (hb1.mono HB.out.size))
    clear d0 d1 d2 d3 d4 d5 d6 hlt hb1
    go_wp2_with fail
    go_loopw [3] (fun i wr => ∃ j : Nat, i = .int .i64 j ∧ j ≤ kids.length ∧ (kids.take j).all okV = true ∧ Below w1.heap.size w1 wr) (fun i _ => kids.length - (intOf i).toNat)
    case atStart => exact ⟨0, rfl, by omega, by simp, Below.refl _ _⟩
    case round =>
      obtain ⟨j, rfl, hj, hall, hb⟩ := hrel
      have HALL := Lib.hid hall
      clear hall
      have e3 : wr.cell? ⟨w.heap.size, 3, none⟩ = some (.slice A kids.length cap) := (hb.cell (p := ⟨w.heap.size, 3, none⟩) hlt1).trans e3'
      have e5 : wr.cell? ⟨w.heap.size, 5, none⟩ = some (.slice A' ents.length cap') := (hb.cell (p := ⟨w.heap.size, 5, none⟩) hlt1).trans e5'
      by_cases hjn : j < kids.length
      · have hbw : Below w.heap.size w wr := HB.out.trans (hb.mono HB.out.size)
        obtain ⟨b, off, cap0, x0, x1, x2, x3, x4, x5, x6, hu, hbH, ⟨x, hx, hv⟩, c0, c1, c2, c3, c4, c5, c6⟩ := (HKI.out.on hbw (fun _ _ h => h)).at7 hjn
        injection hu with hA _ hcap
        subst hA hcap
        have HST := Lib.hid (all_step (p := okV) hx)
        have HFA := Lib.hid (fun h => all_false (p := okV) hx h)
        have hc := IH.out x _ wr (VS.up hbw.size (Nat.le_refl _) (VS.on hbw hv))
        have kn : (j : Int) < (kids.length : Int) := by omega
        have k0 : (0 : Int) ≤ (j : Int) := by omega
        have HV := Lib.hid hb
        have HBW := Lib.hid hbw
        clear hx hv hb hbw
        generalize okV x = z at hc HST HFA
        go_wp2_with (go_at_call 43; refine hc.mono ?_; rintro e w2 ⟨rfl, hb2⟩; refine Hid.out ?_)
        refine Lib.hid ?_
        clear hc
        cases z
        · have HU : Hid (y = false) := Lib.hid (by rw [HR.out, HFA.out rfl]; simp)
          have HBF := Lib.hid (HBW.out.trans (hb2.mono HBW.out.size))
          clear hb2
          go_wp2
          go_ret
          exact ⟨ret_bool HU.out.symm, HBF.out⟩
        · have HN1 := Lib.hid (HV.out.trans (hb2.mono HV.out.size))
          clear hb2
          go_wp2
          go_roundw
          case rel => exact ⟨j + 1, by go_num, by omega, by rw [HST.out, HALL.out]; rfl, HN1.out⟩
          case measure => simp [intOf]; omega
      · have HKA : Hid (kids.all okV = true) := Lib.hid (by
          have hke : kids.take j = kids := List.take_of_length_le (by omega)
          rw [← hke]; exact HALL.out)
        go_wp2_with fail
        rename World => V
        have HBW := Lib.hid (HB.out.trans (hb.mono HB.out.size))
        have hlt2 : w.heap.size < V.heap.size := Nat.lt_of_lt_of_le hlt1 hb.size
        clear e3' e5' e3 hb hj hjn hlt1 HALL
        go_loopw [4] (fun i w2 => ∃ j : Nat, i = .int .i64 j ∧ j ≤ ents.length ∧ (ents.take j).all okE = true ∧ Below V.heap.size V w2) (fun i _ => ents.length - (intOf i).toNat)
        case atStart => exact ⟨0, rfl, by omega, by simp, Below.refl _ _⟩
        case round =>
          obtain ⟨j, rfl, hj, hall, hb⟩ := hrel
          have HALL := Lib.hid hall
          clear hall
          have f5 : wr.cell? ⟨w.heap.size, 5, none⟩ = some (.slice A' ents.length cap') := (hb.cell (p := ⟨w.heap.size, 5, none⟩) hlt2).trans e5
          by_cases hjn : j < ents.length
          · have hbw : Below w.heap.size w wr := HBW.out.trans (hb.mono HBW.out.size)
            obtain ⟨b, off, cap0, ya, yb, x0, x1, x2, x3, x4, x5, x6, hu, hbH, ⟨args, fails, result, hx, ua, rs, hcs, ha, hr⟩, c0, c1, c2, c3, c4, c5, c6, c7, c8⟩ := (HEN.out.on hbw (fun _ _ h => h)).at9 hjn
            injection hu with hA _ hcap
            subst hA hcap
            simp only [List.cons.injEq] at hcs
            obtain ⟨rfl, rfl, rfl⟩ := hcs
            obtain ⟨A2, cap2, rfl, hal⟩ := ha.form
            unfold maxLen at hal
            obtain ⟨a, i, st, A3, n3, c3', A4, n4, c4', A5, n5, c5', A6, n6, c6', he7⟩ := hr.form7
            simp only [List.cons.injEq, and_true] at he7
            obtain ⟨rfl, rfl, rfl, rfl, rfl, rfl, rfl⟩ := he7
            have HST := Lib.hid (all_step (p := okE) hx)
            have HFA := Lib.hid (fun h => all_false (p := okE) hx h)
            have HE : Hid (okE (.mk args fails result) = (args.all okV && (fails || okV result))) := Lib.hid (by rw [okE, okVs_all])
            generalize okE (.mk args fails result) = zE at HST HFA HE
            have kn : (j : Int) < (ents.length : Int) := by omega
            have k0 : (0 : Int) ≤ (j : Int) := by omega
            have HV := Lib.hid hb
            have HAR := Lib.hid ha
            have HRS := Lib.hid hr
            have HBW2 := Lib.hid hbw
            have HJN := Lib.hid hjn
            clear hx ha hr hbw hb hj hjn
            go_wp2_with fail
            rename World => U
            obtain ⟨W2, hW2⟩ : ∃ W2, W2 = U.alloc (.cells #[.slice A2 args.length cap2, .bool fails, .int .i64 a, .int .i64 i, .string st, .slice A3 n3 c3', .slice A4 n4 c4', .slice A5 n5 c5', .slice A6 n6 c6'] 55) := ⟨_, rfl⟩
            have hb2 : Below U.heap.size U W2 := by rw [hW2]; exact (Below.refl _ _).alloc (Nat.le_refl _) _
            have q0 : W2.cell? ⟨U.heap.size, 0, none⟩ = some (.slice A2 args.length cap2) := by rw [hW2]; simp
            have q1 : W2.cell? ⟨U.heap.size, 1, none⟩ = some (.bool fails) := by rw [hW2]; simp
            have HQ : Hid (W2.cell? ⟨U.heap.size, 2, none⟩ = some (.int .i64 a) ∧ W2.cell? ⟨U.heap.size, 3, none⟩ = some (.int .i64 i) ∧ W2.cell? ⟨U.heap.size, 4, none⟩ = some (.string st) ∧ W2.cell? ⟨U.heap.size, 5, none⟩ = some (.slice A3 n3 c3') ∧ W2.cell? ⟨U.heap.size, 6, none⟩ = some (.slice A4 n4 c4') ∧ W2.cell? ⟨U.heap.size, 7, none⟩ = some (.slice A5 n5 c5') ∧ W2.cell? ⟨U.heap.size, 8, none⟩ = some (.slice A6 n6 c6')) := Lib.hid (by rw [hW2]; simp)
            have hlt3 : U.heap.size < W2.heap.size := by rw [hW2]; simp
            rw [← hW2]
            clear hW2
            have HB2 := Lib.hid hb2
            have HBU := Lib.hid (HBW2.out.trans (hb2.mono HBW2.out.size))
            have HVU := Lib.hid (HV.out.trans (hb2.mono HV.out.size))
            clear hb2 c0 c1 c2 c3 c4 c5 c6 c7 c8 f5
            rename ((j : Int) < (ents.length : Int)) => kj
            rename ((0 : Int) ≤ (j : Int)) => kj0
            go_loopw [6] (fun i w3 => ∃ q : Nat, i = .int .i64 q ∧ q ≤ args.length ∧ (args.take q).all okV = true ∧ Below W2.heap.size W2 w3) (fun i _ => args.length - (intOf i).toNat)
            case atStart => exact ⟨0, rfl, by omega, by simp, Below.refl _ _⟩
            case round =>
              obtain ⟨q, rfl, hq, hall, hb⟩ := hrel
              have HALL3 := Lib.hid hall
              clear hall
              have r0 : wr.cell? ⟨U.heap.size, 0, none⟩ = some (.slice A2 args.length cap2) := (hb.cell (p := ⟨U.heap.size, 0, none⟩) hlt3).trans q0
              by_cases hqn : q < args.length
              · have hbw : Below w.heap.size w wr := HBU.out.trans (hb.mono HBU.out.size)
                obtain ⟨b2, off2, cap3, x0, x1, x2, x3, x4, x5, x6, hu, hbH, ⟨x, hx, hv⟩, c0, c1, c2, c3, c4, c5, c6⟩ := (HAR.out.on hbw (fun _ _ h => h)).at7 hqn
                injection hu with hA _ hcap
                subst hA hcap
                have HST3 := Lib.hid (all_step (p := okV) hx)
                have HFA3 := Lib.hid (fun h => all_false (p := okV) hx h)
                have hc := IH.out x _ wr (VS.up hbw.size (Nat.le_refl _) (VS.on hbw hv))
                have kn : (q : Int) < (args.length : Int) := by omega
                have k0 : (0 : Int) ≤ (q : Int) := by omega
                have HV3 := Lib.hid hb
                have HBW3 := Lib.hid hbw
                clear hx hv hb hbw
                generalize okV x = z at hc HST3 HFA3
                go_wp2_with (go_at_call 43; refine hc.mono ?_; rintro e w4 ⟨rfl, hb4⟩; refine Hid.out ?_)
                refine Lib.hid ?_
                clear hc
                cases z
                · have HU : Hid (y = false) := Lib.hid (by rw [HR.out, HFA.out (by rw [HE.out, HFA3.out rfl]; rfl)]; simp)
                  have HBF := Lib.hid (HBW3.out.trans (hb4.mono HBW3.out.size))
                  clear hb4
                  go_wp2
                  go_ret
                  exact ⟨ret_bool HU.out.symm, HBF.out⟩
                · have HN1 := Lib.hid (HV3.out.trans (hb4.mono HV3.out.size))
                  clear hb4
                  go_wp2
                  go_roundw
                  case rel => exact ⟨q + 1, by go_num, by omega, by rw [HST3.out, HALL3.out]; rfl, HN1.out⟩
                  case measure => simp [intOf]; omega
              · have HAA : Hid (args.all okV = true) := Lib.hid (by
                  have hke : args.take q = args := List.take_of_length_le (by omega)
                  rw [← hke]; exact HALL3.out)
                have r1 : wr.cell? ⟨U.heap.size, 1, none⟩ = some (.bool fails) := (hb.cell (p := ⟨U.heap.size, 1, none⟩) hlt3).trans q1
                have HVW := Lib.hid (HVU.out.trans (hb.mono HVU.out.size))
                have HBW4 := Lib.hid (HBU.out.trans (hb.mono HBU.out.size))
                cases fails
                · obtain ⟨s2, s3, s4, s5, s6, s7, s8⟩ := HQ.out
                  have r2 := (hb.cell (p := ⟨U.heap.size, 2, none⟩) hlt3).trans s2
                  have r3 := (hb.cell (p := ⟨U.heap.size, 3, none⟩) hlt3).trans s3
                  have r4 := (hb.cell (p := ⟨U.heap.size, 4, none⟩) hlt3).trans s4
                  have r5 := (hb.cell (p := ⟨U.heap.size, 5, none⟩) hlt3).trans s5
                  have r6 := (hb.cell (p := ⟨U.heap.size, 6, none⟩) hlt3).trans s6
                  have r7 := (hb.cell (p := ⟨U.heap.size, 7, none⟩) hlt3).trans s7
                  have r8 := (hb.cell (p := ⟨U.heap.size, 8, none⟩) hlt3).trans s8
                  have hbo := HBW4.out.mono (Nat.le_refl _)
                  have hcr := IH.out result _ wr (VS.up HBW4.out.size (Nat.le_refl _) (VS.on HBW4.out HRS.out))
                  have HE2 : Hid (zE = okV result) := Lib.hid (by rw [HE.out, HAA.out]; rfl)
                  clear s2 s3 s4 s5 s6 s7 s8 hb hbo
                  generalize okV result = z at hcr HE2
                  go_wp2_with (go_at_call 43; refine hcr.mono ?_; rintro e w5 ⟨rfl, hb5⟩; refine Hid.out ?_)
                  refine Lib.hid ?_
                  clear hcr
                  cases z
                  · have HU : Hid (y = false) := Lib.hid (by rw [HR.out, HFA.out HE2.out]; simp)
                    have HBF := Lib.hid (HBW4.out.trans (hb5.mono HBW4.out.size))
                    clear hb5
                    go_wp2
                    go_ret
                    exact ⟨ret_bool HU.out.symm, HBF.out⟩
                  · have HN1 := Lib.hid (HVW.out.trans (hb5.mono HVW.out.size))
                    clear hb5
                    go_wp2
                    go_roundw
                    case rel => exact ⟨j + 1, by go_num, by have := HJN.out; omega, by rw [HST.out, HALL.out, HE2.out]; rfl, HN1.out⟩
                    case measure => have := HJN.out; simp [intOf]; omega
                · have HE2 : Hid (zE = true) := Lib.hid (by rw [HE.out, HAA.out]; rfl)
                  clear hb
                  go_wp2
                  go_roundw
                  case rel => exact ⟨j + 1, by go_num, by have := HJN.out; omega, by rw [HST.out, HALL.out, HE2.out]; rfl, HVW.out⟩
                  case measure => have := HJN.out; simp [intOf]; omega
          · have HU : Hid (y = true) := Lib.hid (by
              have hke : ents.take j = ents := List.take_of_length_le (by omega)
              rw [HR.out, HKA.out, ← hke, HALL.out]; rfl)
            have HBF := Lib.hid (HBW.out.trans (hb.mono HBW.out.size))
            clear hb
            go_wp2
            go_ret
            exact ⟨ret_bool HU.out.symm, HBF.out⟩
end Go.Proofs.YtjfknigiehggkaaGreat
namespace Go.Proofs.YtjfknigiehggkaaGreat
open Go Go.RowKit
theorem less_cmpT (a b : List UInt8) : Op.bytesLess a b = decide (cmpT a b < 0) := by
  have h := bytes_cmpT a b
  have hr := compare_lt (a := a) (b := b)
  cases hl : Op.bytesLess a b
  · by_cases he : a = b
    · subst he
      have := (cmpT_zero (a := a) (b := a)).2 rfl
      simp; omega
    · have h1 := compare_gt hl he
      have h2 : Lib.compareBytes a b = cmpT a b := h
      rw [h1] at h2
      simp; omega
  · have h1 := hr hl
    have h2 : Lib.compareBytes a b = cmpT a b := h
    rw [h1] at h2
    symm; simp; omega
/-- one more label -/
theorem labelsB_step {l : List (List UInt8)} {j : Nat} {x : List UInt8} (hx : l[j]? = some x) (h : labelsB (l.take j) = true) (h2 : varB x = true) (h3 : j = 0 ∨ ∃ p, l[j - 1]? = some p ∧ cmpT p x < 0) : labelsB (l.take (j + 1)) = true := by
  unfold labelsB at h ⊢
  rw [Bool.and_eq_true, decide_eq_true_eq] at h ⊢
  have hlt := (List.getElem?_eq_some_iff.1 hx).1
  refine ⟨by rw [all_step hx, h.1, h2]; rfl, ascC_of totT fun r a b ha hb => ?_⟩
  have hb' := (List.getElem?_eq_some_iff.1 hb).1
  rw [List.length_take] at hb'
  rw [List.getElem?_take_of_lt (by omega)] at ha hb
  by_cases hr : r + 1 = j
  · subst hr
    rw [hb] at hx
    injection hx with hx
    subst hx
    rcases h3 with h3 | ⟨p, hp, hc⟩
    · omega
    · rw [Nat.add_sub_cancel, ha] at hp
      injection hp with hp
      subst hp
      exact hc
  · exact ascC_at h.2 (i := r) (j := r + 1) (by rw [List.getElem?_take_of_lt (by omega)]; exact ha) (by rw [List.getElem?_take_of_lt (by omega)]; exact hb) (by omega)
theorem labelsB_no {l : List (List UInt8)} {j : Nat} {x : List UInt8} (hx : l[j]? = some x) (h : varB x = false ∨ 0 < j ∧ ∃ p, l[j - 1]? = some p ∧ ¬ cmpT p x < 0) : labelsB l = false := by
  unfold labelsB
  rcases h with h | ⟨h0, p, hp, hc⟩
  · rw [all_false hx h]; rfl
  · rw [Bool.and_eq_false_iff]
    exact .inr (decide_eq_false fun h => hc (ascC_at h hp hx (by omega)))
/-- all elements pass, in ascending order -/
def allAsc {α : Type} (p : α → Bool) (c : α → α → Int) (l : List α) : Bool := l.all p && decide (AscC c l)
theorem allAsc_nil {α : Type} (p : α → Bool) (c : α → α → Int) : allAsc p c [] = true := by simp [allAsc, AscC]
theorem allAsc_step {α : Type} {p : α → Bool} {c : α → α → Int} (T : Tot c) {l : List α} {j : Nat} {x : α} (hx : l[j]? = some x) (h : allAsc p c (l.take j) = true) (h2 : p x = true) (h3 : j = 0 ∨ ∃ q, l[j - 1]? = some q ∧ c q x < 0) : allAsc p c (l.take (j + 1)) = true := by
  unfold allAsc at h ⊢
  rw [Bool.and_eq_true, decide_eq_true_eq] at h ⊢
  have hlt := (List.getElem?_eq_some_iff.1 hx).1
  refine ⟨by rw [all_step hx, h.1, h2]; rfl, ascC_of T fun r a b ha hb => ?_⟩
  have hb' := (List.getElem?_eq_some_iff.1 hb).1
  rw [List.length_take] at hb'
  rw [List.getElem?_take_of_lt (by omega)] at ha hb
  by_cases hr : r + 1 = j
  · subst hr
    rw [hb] at hx
    injection hx with hx
    subst hx
    rcases h3 with h3 | ⟨q, hp, hc⟩
    · omega
    · rw [Nat.add_sub_cancel, ha] at hp
      injection hp with hp
      subst hp
      exact hc
  · exact ascC_at h.2 (i := r) (j := r + 1) (by rw [List.getElem?_take_of_lt (by omega)]; exact ha) (by rw [List.getElem?_take_of_lt (by omega)]; exact hb) (by omega)
theorem allAsc_no {α : Type} {p : α → Bool} {c : α → α → Int} {l : List α} {j : Nat} {x : α} (hx : l[j]? = some x) (h : p x = false ∨ 0 < j ∧ ∃ q, l[j - 1]? = some q ∧ ¬ c q x < 0) : allAsc p c l = false := by
  unfold allAsc
  rcases h with h | ⟨h0, q, hp, hc⟩
  · rw [all_false hx h]; rfl
  · rw [Bool.and_eq_false_iff]
    exact .inr (decide_eq_false fun h => hc (ascC_at h hp hx (by omega)))
end Go.Proofs.YtjfknigiehggkaaGreat
