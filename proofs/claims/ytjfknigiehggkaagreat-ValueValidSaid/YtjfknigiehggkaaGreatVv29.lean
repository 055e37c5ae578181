/- What the document's test of a node returns for a map: its labels, then its keys. -/
import Derived.Test.YtjfknigiehggkaaGreatVv12
import Derived.Test.YtjfknigiehggkaaGreatVv13
import Derived.Test.YtjfknigiehggkaaGreatVv28
namespace Go.Proofs.YtjfknigiehggkaaGreat
open Go Go.RowKit
set_option maxRecDepth 100000 in
set_option maxHeartbeats 6400000 in
theorem refNode8 (k : Nat) (v : Vl) (cs : List Value) (w : World) (h : VS k w w.heap.size v cs) (hkd : kindOf v = 8) : Calls Tryz.prog 85 #[.agg cs.toArray] w fun e w' => e = .returned (.bool (nodeV v)) ∧ Below w.heap.size w w' := by
  cases k with
  | zero => exact h.elim
  | succ k =>
  obtain ⟨kind, int, text, kids, keys, ents, labs⟩ := v
  have HKD := Lib.hid hkd
  clear hkd
  obtain ⟨uk, uy, ue, ul, rfl, wf1, wf2, wf3, hk, hyy, he, hll⟩ := h
  obtain ⟨A, cA, rfl, hkl⟩ := hk.form
  obtain ⟨Y, cY, rfl, hyl⟩ := hyy.form
  obtain ⟨E, cE, rfl, hel⟩ := he.form
  obtain ⟨L, cL, rfl, hll'⟩ := hll.form
  have HKI := Lib.hid hk
  have HKE := Lib.hid hyy
  have HEN := Lib.hid he
  have HLL := Lib.hid hll
  have HLN := Lib.hid (And.intro wf3 (And.intro hkl (And.intro hyl (And.intro hel hll'))))
  clear hk hyy he hll wf1 wf2 wf3 hkl hyl hel hll'
  have HR : Hid (nodeV (.mk kind int text kids keys ents labs) = (labelsB labs && usesB kind int text kids keys ents && kindB kind int text kids keys ents)) := Lib.hid rfl
  generalize nodeV (.mk kind int text kids keys ents labs) = y at HR ⊢
  obtain ⟨W, hW⟩ : ∃ W, W = w.alloc (.cells #[.int .i64 kind, .int .i64 int, .string ⟨text.toArray⟩, .slice A kids.length cA, .slice Y keys.length cY, .slice E ents.length cE, .slice L labs.length cL] 27) := ⟨_, rfl⟩
  have hbl : Below w.heap.size w W := by rw [hW]; exact (Below.refl _ _).alloc (Nat.le_refl _) _
  have d0 : W.cell? ⟨w.heap.size, 0, none⟩ = some (.int .i64 kind) := by rw [hW]; simp
  have d1 : W.cell? ⟨w.heap.size, 1, none⟩ = some (.int .i64 int) := by rw [hW]; simp
  have d2 : W.cell? ⟨w.heap.size, 2, none⟩ = some (.string ⟨text.toArray⟩) := by rw [hW]; simp
  have d3 : W.cell? ⟨w.heap.size, 3, none⟩ = some (.slice A kids.length cA) := by rw [hW]; simp
  have d4 : W.cell? ⟨w.heap.size, 4, none⟩ = some (.slice Y keys.length cY) := by rw [hW]; simp
  have d5 : W.cell? ⟨w.heap.size, 5, none⟩ = some (.slice E ents.length cE) := by rw [hW]; simp
  have d6 : W.cell? ⟨w.heap.size, 6, none⟩ = some (.slice L labs.length cL) := by rw [hW]; simp
  have hlt : w.heap.size < W.heap.size := by rw [hW]; simp
  have HB := Lib.hid hbl
  clear hbl
  go_enter Tryz.func85, Tryz.ntmps85
  go_wp2_with fail
  rw [← hW]
  clear hW
  generalize hnl : labs.length = nl at *
  have HNL := Lib.hid hnl
  clear hnl
  go_loopw [3] (fun i wr => ∃ j : Nat, i = .int .i64 j ∧ j ≤ nl ∧ labelsB (labs.take j) = true ∧ Below W.heap.size W wr) (fun i _ => nl - (intOf i).toNat)
  case atStart => exact ⟨0, rfl, by omega, by simp [labelsB, AscC], Below.refl _ _⟩
  case round =>
    obtain ⟨j, rfl, hj, hall, hb⟩ := hrel
    have HALL := Lib.hid hall
    clear hall
    have e6 : wr.cell? ⟨w.heap.size, 6, none⟩ = some (.slice L nl cL) := (hb.cell (p := ⟨w.heap.size, 6, none⟩) hlt).trans d6
    by_cases hjn : j < nl
    · have hbw : Below w.heap.size w wr := HB.out.trans (hb.mono HB.out.size)
      obtain ⟨b, off, cap0, x0, hu, hbH, ⟨x, hx, hxs, hxl⟩, c0⟩ := (HLL.out.on hbw (fun _ _ h => h)).at1 (j := j) (by have := HNL.out; omega)
      injection hu with hA hNN hcc
      subst hA hcc
      clear hNN
      simp only [List.cons.injEq, and_true] at hxs
      subst hxs
      have hvc := refIsVariable_any ⟨x.toArray⟩ wr.drew (by simpa [ByteArray.size] using hxl)
      rw [show (⟨x.toArray⟩ : ByteArray).data.toList = x from rfl] at hvc
      have HX := Lib.hid hx
      have HV := Lib.hid hb
      have HBW := Lib.hid hbw
      have kn : (j : Int) < (nl : Int) := by omega
      have k0 : (0 : Int) ≤ (j : Int) := by omega
      have HVX : Hid (varB x = varB x) := Lib.hid rfl
      generalize hvx : varB x = z at hvc
      have HVZ := Lib.hid hvx
      clear hx hb hbw hvx HVX
      cases z
      · have HU : Hid (y = false) := Lib.hid (by rw [HR.out, labelsB_no HX.out (.inl HVZ.out)]; rfl)
        go_wp2_with fail
        refine wp_region_held_drew (S := fun V => V.cell? ⟨w.heap.size, 6, none⟩ = some (.slice (some ⟨b, off, none⟩) nl cL) ∧ V.cell? ⟨b, off + j, none⟩ = some (.string ⟨x.toArray⟩)) (by kernel_rfl) ⟨e6, c0⟩ (fun hHeld => ?_)
        refine tk 0 hHeld ?_
        try simp only [Act.put, pA, pB, pC]
        refine tk 1 hHeld ?_
        try simp only [Act.put, pA, pB, pC]
        refine tk 2 hHeld ?_
        try simp only [Act.put, pA, pB, pC]
        refine tk 3 hHeld ?_
        try simp only [Act.put, pA, pB, pC]
        refine tk 4 hHeld ?_
        try simp only [Act.put, pA, pB, pC]
        refine one_op 5 (by kernel_rfl) rfl (by rfl) (fun K hK => ?_)
        go_simp
        refine hvc.mono ?_
        rintro e w2 ⟨rfl, hw2⟩
        subst hw2
        refine hK _ _ hHeld ?_
        try simp only [Act.put, pA, pB, pC]
        refine tk 6 hHeld ?_
        try simp only [Act.put, pA, pB, pC]
        refine tk 7 hHeld ?_
        try simp only [Act.put, pA, pB, pC]
        refine tu 8 hHeld ?_
        try simp only [Act.put, pA, pB, pC]
        refine tu 9 hHeld ?_
        try simp only [Act.put, pA, pB, pC]
        refine tu 10 hHeld ?_
        try simp only [Act.put, pA, pB, pC]
        refine tu 11 hHeld ?_
        try simp only [Act.put, pA, pB, pC]
        refine tu 12 hHeld ?_
        try simp only [Act.put, pA, pB, pC]
        refine tu 13 hHeld ?_
        try simp only [Act.put, pA, pB, pC]
        refine tu 14 hHeld ?_
        try simp only [Act.put, pA, pB, pC]
        refine tu 15 hHeld ?_
        try simp only [Act.put, pA, pB, pC]
        refine tu 16 hHeld ?_
        try simp only [Act.put, pA, pB, pC]
        refine tu 17 hHeld ?_
        try simp only [Act.put, pA, pB, pC]
        refine tu 18 hHeld ?_
        try simp only [Act.put, pA, pB, pC]
        refine tu 19 hHeld ?_
        try simp only [Act.put, pA, pB, pC]
        refine tu 20 hHeld ?_
        try simp only [Act.put, pA, pB, pC]
        refine tu 21 hHeld ?_
        try simp only [Act.put, pA, pB, pC]
        refine tu 22 hHeld ?_
        try simp only [Act.put, pA, pB, pC]
        refine tu 23 hHeld ?_
        try simp only [Act.put, pA, pB, pC]
        refine tk 24 hHeld ?_
        try simp only [Act.put, pA, pB, pC]
        refine wpAnyH_done (by kernel_rfl) ?_ _
        go_wp2
        go_ret
        exact ⟨ret_bool HU.out.symm, HBW.out.drew⟩
      · by_cases hj0 : j = 0
        · subst hj0
          have HST := Lib.hid (labelsB_step HX.out HALL.out HVZ.out (.inl rfl))
          have q0 : decide ((0 : Int) < ((0 : Nat) : Int)) = false := rfl
          go_wp2_with fail
          refine wp_region_held_drew (S := fun V => V.cell? ⟨w.heap.size, 6, none⟩ = some (.slice (some ⟨b, off, none⟩) nl cL) ∧ V.cell? ⟨b, off, none⟩ = some (.string ⟨x.toArray⟩)) (by kernel_rfl) ⟨e6, by simpa using c0⟩ (fun hHeld => ?_)
          refine tk 0 hHeld ?_
          try simp only [Act.put, pA, pB, pC]
          refine tk 1 hHeld ?_
          try simp only [Act.put, pA, pB, pC]
          refine tk 2 hHeld ?_
          try simp only [Act.put, pA, pB, pC]
          refine tk 3 hHeld ?_
          try simp only [Act.put, pA, pB, pC]
          refine tk 4 hHeld ?_
          try simp only [Act.put, pA, pB, pC]
          refine one_op 5 (by kernel_rfl) rfl (by rfl) (fun K hK => ?_)
          go_simp
          refine hvc.mono ?_
          rintro e w2 ⟨rfl, hw2⟩
          subst hw2
          refine hK _ _ hHeld ?_
          try simp only [Act.put, pA, pB, pC]
          refine tk 6 hHeld ?_
          try simp only [Act.put, pA, pB, pC]
          refine tk 7 hHeld ?_
          try simp only [Act.put, pA, pB, pC]
          refine tk 8 hHeld ?_
          try simp only [Act.put, pA, pB, pC]
          refine tk 9 hHeld ?_
          try simp only [Act.put, pA, pB, pC]
          refine tk 10 hHeld ?_
          try simp only [Act.put, pA, pB, pC]
          refine tu 11 hHeld ?_
          try simp only [Act.put, pA, pB, pC]
          refine tu 12 hHeld ?_
          try simp only [Act.put, pA, pB, pC]
          refine tu 13 hHeld ?_
          try simp only [Act.put, pA, pB, pC]
          refine tu 14 hHeld ?_
          try simp only [Act.put, pA, pB, pC]
          refine tu 15 hHeld ?_
          try simp only [Act.put, pA, pB, pC]
          refine tu 16 hHeld ?_
          try simp only [Act.put, pA, pB, pC]
          refine tu 17 hHeld ?_
          try simp only [Act.put, pA, pB, pC]
          refine tu 18 hHeld ?_
          try simp only [Act.put, pA, pB, pC]
          refine tu 19 hHeld ?_
          try simp only [Act.put, pA, pB, pC]
          refine tu 20 hHeld ?_
          try simp only [Act.put, pA, pB, pC]
          refine tu 21 hHeld ?_
          try simp only [Act.put, pA, pB, pC]
          refine tu 22 hHeld ?_
          try simp only [Act.put, pA, pB, pC]
          refine tk 23 hHeld ?_
          try simp only [Act.put, pA, pB, pC]
          refine tk 24 hHeld ?_
          try simp only [Act.put, pA, pB, pC]
          refine wpAnyH_done (by kernel_rfl) ?_ _
          go_wp2_with fail
          go_roundw
          case rel => exact ⟨0 + 1, by go_num, by omega, HST.out, HV.out.drew⟩
          case measure => simp [intOf]; omega
        · obtain ⟨m, hm⟩ : ∃ m, j = m + 1 := ⟨j - 1, by omega⟩
          obtain ⟨b', off', cap1, x1, hu, _, ⟨p, hp, hps, hpl⟩, c1⟩ := (HLL.out.on HBW.out (fun _ _ h => h)).at1 (j := m) (by have := HNL.out; omega)
          injection hu with hA hNN hcc
          injection hA with hA
          injection hA with g1 g2
          subst g1 g2
          clear hNN hcc
          simp only [List.cons.injEq, and_true] at hps
          subst hps
          have HP : Hid (labs[j - 1]? = some p) := Lib.hid (by rw [hm, Nat.add_sub_cancel]; exact hp)
          have HJ0 : Hid (0 < j) := Lib.hid (by omega)
          have q0 : decide (0 < j) = true := by rw [decide_eq_true_eq]; omega
          have qm : IntKind.i64.wrap ((j : Int) - 1) = (m : Int) := by rw [IntWalk.i64_in _ (by have := HLN.out.2.2.2.2; have := HNL.out; unfold maxLen at *; omega)]; omega
          have km : (m : Int) < (nl : Int) := by omega
          have km0 : (0 : Int) ≤ (m : Int) := by omega
          have hlc := less_cmpT p x
          generalize hgz : Op.bytesLess p x = g at hlc
          have HGC := Lib.hid hlc
          clear hp hm hlc hj0
          cases g
          · have HU : Hid (y = false) := Lib.hid (by rw [HR.out, labelsB_no HX.out (.inr ⟨HJ0.out, p, HP.out, by have := HGC.out; simpa using this.symm⟩)]; rfl)
            go_wp2_with fail
            refine wp_region_held_drew (S := fun V => V.cell? ⟨w.heap.size, 6, none⟩ = some (.slice (some ⟨b, off, none⟩) nl cL) ∧ V.cell? ⟨b, off + j, none⟩ = some (.string ⟨x.toArray⟩) ∧ V.cell? ⟨b, off + m, none⟩ = some (.string ⟨p.toArray⟩)) (by kernel_rfl) ⟨e6, c0, c1⟩ (fun hHeld => ?_)
            refine tk 0 hHeld ?_
            try simp only [Act.put, pA, pB, pC]
            refine tk 1 hHeld ?_
            try simp only [Act.put, pA, pB, pC]
            refine tk 2 hHeld ?_
            try simp only [Act.put, pA, pB, pC]
            refine tk 3 hHeld ?_
            try simp only [Act.put, pA, pB, pC]
            refine tk 4 hHeld ?_
            try simp only [Act.put, pA, pB, pC]
            refine one_op 5 (by kernel_rfl) rfl (by rfl) (fun K hK => ?_)
            go_simp
            refine hvc.mono ?_
            rintro e w2 ⟨rfl, hw2⟩
            subst hw2
            refine hK _ _ hHeld ?_
            try simp only [Act.put, pA, pB, pC]
            refine tk 6 hHeld ?_
            try simp only [Act.put, pA, pB, pC]
            refine tk 7 hHeld ?_
            try simp only [Act.put, pA, pB, pC]
            refine tk 8 hHeld ?_
            try simp only [Act.put, pA, pB, pC]
            refine tk 9 hHeld ?_
            try simp only [Act.put, pA, pB, pC]
            refine tk 10 hHeld ?_
            try simp only [Act.put, pA, pB, pC]
            refine tk 11 hHeld ?_
            try simp only [Act.put, pA, pB, pC]
            refine tk 12 hHeld ?_
            try simp only [Act.put, pA, pB, pC]
            refine tk 13 hHeld ?_
            try simp only [Act.put, pA, pB, pC]
            refine tk 14 hHeld ?_
            try simp only [Act.put, pA, pB, pC]
            refine tk 15 hHeld ?_
            try simp only [Act.put, pA, pB, pC]
            refine tk 16 hHeld ?_
            try simp only [Act.put, pA, pB, pC]
            refine tk 17 hHeld ?_
            try simp only [Act.put, pA, pB, pC]
            refine tk 18 hHeld ?_
            try simp only [Act.put, pA, pB, pC]
            refine tk 19 hHeld ?_
            try simp only [Act.put, pA, pB, pC]
            refine tk 20 hHeld ?_
            try simp only [Act.put, pA, pB, pC]
            refine tk 21 hHeld ?_
            try simp only [Act.put, pA, pB, pC]
            refine tk 22 hHeld ?_
            try simp only [Act.put, pA, pB, pC]
            refine tk 23 hHeld ?_
            try simp only [Act.put, pA, pB, pC]
            refine tk 24 hHeld ?_
            try simp only [Act.put, pA, pB, pC]
            refine wpAnyH_done (by kernel_rfl) ?_ _
            go_wp2
            go_ret
            exact ⟨ret_bool HU.out.symm, HBW.out.drew⟩
          · have HST := Lib.hid (labelsB_step HX.out HALL.out HVZ.out (.inr ⟨p, HP.out, by have := HGC.out; simpa using this.symm⟩))
            have qj : IntKind.i64.wrap ((j : Int) + 1) = (j : Int) + 1 := IntWalk.i64_in _ (by have := HLN.out.2.2.2.2; have := HNL.out; unfold maxLen at *; omega)
            go_wp2_with fail
            refine wp_region_held_drew (S := fun V => V.cell? ⟨w.heap.size, 6, none⟩ = some (.slice (some ⟨b, off, none⟩) nl cL) ∧ V.cell? ⟨b, off + j, none⟩ = some (.string ⟨x.toArray⟩) ∧ V.cell? ⟨b, off + m, none⟩ = some (.string ⟨p.toArray⟩)) (by kernel_rfl) ⟨e6, c0, c1⟩ (fun hHeld => ?_)
            refine tk 0 hHeld ?_
            try simp only [Act.put, pA, pB, pC]
            refine tk 1 hHeld ?_
            try simp only [Act.put, pA, pB, pC]
            refine tk 2 hHeld ?_
            try simp only [Act.put, pA, pB, pC]
            refine tk 3 hHeld ?_
            try simp only [Act.put, pA, pB, pC]
            refine tk 4 hHeld ?_
            try simp only [Act.put, pA, pB, pC]
            refine one_op 5 (by kernel_rfl) rfl (by rfl) (fun K hK => ?_)
            go_simp
            refine hvc.mono ?_
            rintro e w2 ⟨rfl, hw2⟩
            subst hw2
            refine hK _ _ hHeld ?_
            try simp only [Act.put, pA, pB, pC]
            refine tk 6 hHeld ?_
            try simp only [Act.put, pA, pB, pC]
            refine tk 7 hHeld ?_
            try simp only [Act.put, pA, pB, pC]
            refine tk 8 hHeld ?_
            try simp only [Act.put, pA, pB, pC]
            refine tk 9 hHeld ?_
            try simp only [Act.put, pA, pB, pC]
            refine tk 10 hHeld ?_
            try simp only [Act.put, pA, pB, pC]
            refine tk 11 hHeld ?_
            try simp only [Act.put, pA, pB, pC]
            refine tk 12 hHeld ?_
            try simp only [Act.put, pA, pB, pC]
            refine tk 13 hHeld ?_
            try simp only [Act.put, pA, pB, pC]
            refine tk 14 hHeld ?_
            try simp only [Act.put, pA, pB, pC]
            refine tk 15 hHeld ?_
            try simp only [Act.put, pA, pB, pC]
            refine tk 16 hHeld ?_
            try simp only [Act.put, pA, pB, pC]
            refine tk 17 hHeld ?_
            try simp only [Act.put, pA, pB, pC]
            refine tk 18 hHeld ?_
            try simp only [Act.put, pA, pB, pC]
            refine tk 19 hHeld ?_
            try simp only [Act.put, pA, pB, pC]
            refine tk 20 hHeld ?_
            try simp only [Act.put, pA, pB, pC]
            refine tk 21 hHeld ?_
            try simp only [Act.put, pA, pB, pC]
            refine tk 22 hHeld ?_
            try simp only [Act.put, pA, pB, pC]
            refine tk 23 hHeld ?_
            try simp only [Act.put, pA, pB, pC]
            refine tk 24 hHeld ?_
            try simp only [Act.put, pA, pB, pC]
            refine wpAnyH_done (by kernel_rfl) ?_ _
            go_wp2_with fail
            go_roundw
            case rel => exact ⟨j + 1, by go_num, by omega, HST.out, HV.out.drew⟩
            case measure => simp [intOf]; omega
    · have HLB : Hid (labelsB labs = true) := Lib.hid (by
        have hke : labs.take j = labs := List.take_of_length_le (by have := HNL.out; omega)
        rw [← hke]; exact HALL.out)
      have HBW := Lib.hid (HB.out.trans (hb.mono HB.out.size))
      have HLTr := Lib.hid (Nat.lt_of_lt_of_le hlt hb.size)
      have e0 : wr.cell? ⟨w.heap.size, 0, none⟩ = some (.int .i64 kind) := (hb.cell (p := ⟨w.heap.size, 0, none⟩) hlt).trans d0
      have e1 : wr.cell? ⟨w.heap.size, 1, none⟩ = some (.int .i64 int) := (hb.cell (p := ⟨w.heap.size, 1, none⟩) hlt).trans d1
      have e2 : wr.cell? ⟨w.heap.size, 2, none⟩ = some (.string ⟨text.toArray⟩) := (hb.cell (p := ⟨w.heap.size, 2, none⟩) hlt).trans d2
      have e3 : wr.cell? ⟨w.heap.size, 3, none⟩ = some (.slice A kids.length cA) := (hb.cell (p := ⟨w.heap.size, 3, none⟩) hlt).trans d3
      have e4 : wr.cell? ⟨w.heap.size, 4, none⟩ = some (.slice Y keys.length cY) := (hb.cell (p := ⟨w.heap.size, 4, none⟩) hlt).trans d4
      have e5 : wr.cell? ⟨w.heap.size, 5, none⟩ = some (.slice E ents.length cE) := (hb.cell (p := ⟨w.heap.size, 5, none⟩) hlt).trans d5
      clear d0 d1 d2 d3 d4 d5 d6 hb hlt hj HALL
      have jf : decide ((j : Int) < (nl : Int)) = false := by simp; omega
      have hk8 : kind = 8 := HKD.out
      clear HKD
      subst hk8
      have HRK : Hid (y = (usesN 8 int text kids.length keys.length ents.length && kindB 8 int text kids keys ents)) := Lib.hid (by rw [HR.out, HLB.out, usesB_N]; rfl)
      clear HR
      by_cases hc : int = 0
      case neg =>
        have HU : Hid (y = false) := Lib.hid (by rw [HRK.out]; simp [usesN, hc])
        have fi : (int != 0) = true := by simpa using hc
        clear hc
        go_wp2
        go_ret
        exact ⟨ret_bool HU.out.symm, HBW.out⟩
      have Hint := Lib.hid hc
      have fi : (int != 0) = false := by simpa using hc
      clear hc
      by_cases hc : text = []
      case neg =>
        have HU : Hid (y = false) := Lib.hid (by rw [HRK.out]; simp [usesN, hc])
        have ft := hc
        clear hc
        go_wp2
        go_ret
        exact ⟨ret_bool HU.out.symm, HBW.out⟩
      have Htext := Lib.hid hc
      have ft := hc
      clear hc
      by_cases hc : ents.length = 0
      case neg =>
        have HU : Hid (y = false) := Lib.hid (by rw [HRK.out]; simp [usesN, hc])
        have fents : 0 < ents.length := by omega
        have gents : decide ((0 : Int) < (ents.length : Int)) = true := by rw [decide_eq_true_eq]; omega
        clear hc
        go_wp2
        go_ret
        exact ⟨ret_bool HU.out.symm, HBW.out⟩
      have Hents := Lib.hid hc
      have fents : ¬ 0 < ents.length := by omega
      have gents : decide ((0 : Int) < (ents.length : Int)) = false := by rw [decide_eq_false_iff_not]; omega
      clear hc
      have HKY : Hid (y = (allAsc (fun x => keyB x.1 x.2) cmpK keys && decide (keys.length = kids.length))) := Lib.hid (by rw [HRK.out]; simp [usesN, kindB, allAsc, Hint.out, Htext.out, Hents.out])
      clear HRK
      generalize hnk : keys.length = nk at *
      have HNK := Lib.hid hnk
      clear hnk
      go_wp2_with fail
      clear fi ft fents gents jf hjn e6
      rename World => X
      go_loopw [7] (fun i w2 => ∃ q : Nat, i = .int .i64 q ∧ q ≤ nk ∧ allAsc (fun x => keyB x.1 x.2) cmpK (keys.take q) = true ∧ Below X.heap.size X w2) (fun i _ => nk - (intOf i).toNat)
      case atStart => exact ⟨0, rfl, by omega, by simp [allAsc, AscC], Below.refl _ _⟩
      case round =>
        obtain ⟨q, rfl, hq, hall, hb⟩ := hrel
        have HALL := Lib.hid hall
        clear hall
        have g4 : wr.cell? ⟨w.heap.size, 4, none⟩ = some (.slice Y nk cY) := (hb.cell (p := ⟨w.heap.size, 4, none⟩) HLTr.out).trans e4
        by_cases hqn : q < nk
        · obtain ⟨b, off, cap0, x0, x1, hu, hbH, ⟨x, hx, hxs, hwf, hxl⟩, c0, c1⟩ := (HKE.out.on HBW.out (fun _ _ h => h)).at2 (j := q) (by have := HNK.out; omega)
          injection hu with hA hNN hcc
          subst hA hcc
          clear hNN hwf
          simp only [List.cons.injEq, and_true] at hxs
          obtain ⟨rfl, rfl⟩ := hxs
          have hbX : b < X.heap.size := Nat.lt_of_lt_of_le hbH HBW.out.size
          have hvc : Hid (∀ U, Calls Tryz.prog 59 #[.agg #[.int .i64 x.1, .string ⟨x.2.toArray⟩]] U fun e w' => e = .returned (.bool (keyB x.1 x.2)) ∧ Below U.heap.size U w') := Lib.hid fun U => refValidKey_any x.1 ⟨x.2.toArray⟩ U (by simpa [ByteArray.size] using hxl)
          have HX := Lib.hid hx
          have HBW2 := Lib.hid hb
          have kn : (q : Int) < (nk : Int) := by omega
          have k0 : (0 : Int) ≤ (q : Int) := by omega
          generalize hvx : keyB x.1 x.2 = z at hvc
          have HVZ := Lib.hid hvx
          have HLT := Lib.hid (And.intro HLTr.out hbX)
          have HD := Lib.hid (And.intro e4 (And.intro c0 c1))
          have HE4 := Lib.hid e3
          clear hx hb hvx hbH hbX hxl e0 e1 e2 e3 e4 e5 c0 c1
          cases z
          · have HU : Hid (y = false) := Lib.hid (by rw [HKY.out, allAsc_no HX.out (.inl HVZ.out)]; rfl)
            have HS : Hid (∀ V, Below X.heap.size X V → V.cell? ⟨w.heap.size, 4, none⟩ = some (.slice (some ⟨b, off, none⟩) nk cY) ∧ V.cell? ⟨b, off + q * 2, none⟩ = some (.int .i64 x.1) ∧ V.cell? ⟨b, off + q * 2 + 1, none⟩ = some (.string ⟨x.2.toArray⟩)) := Lib.hid fun V hV => by
              have hz : X.heap.size ≤ V.heap.size := hV.size
              exact ⟨(hV.cell (p := ⟨w.heap.size, 4, none⟩) HLT.out.1).trans HD.out.1, (hV.cell (p := ⟨b, _, none⟩) HLT.out.2).trans HD.out.2.1, (hV.cell (p := ⟨b, _, none⟩) HLT.out.2).trans HD.out.2.2⟩
            go_wp2_with fail
            refine wp_region_held_drew (S := fun V => V.cell? ⟨w.heap.size, 4, none⟩ = some (.slice (some ⟨b, off, none⟩) nk cY) ∧ V.cell? ⟨b, off + q * 2, none⟩ = some (.int .i64 x.1) ∧ V.cell? ⟨b, off + q * 2 + 1, none⟩ = some (.string ⟨x.2.toArray⟩)) (by kernel_rfl) (HS.out _ HBW2.out.drew) (fun hHeld => ?_)
            refine tk 0 hHeld ?_
            try simp only [Act.put, pA, pB, pC]
            refine tk 1 hHeld ?_
            try simp only [Act.put, pA, pB, pC]
            refine tk 2 hHeld ?_
            try simp only [Act.put, pA, pB, pC]
            refine tk 3 hHeld ?_
            try simp only [Act.put, pA, pB, pC]
            refine tk 4 hHeld ?_
            try simp only [Act.put, pA, pB, pC]
            refine one_op 5 (by kernel_rfl) rfl (by rfl) (fun K hK => ?_)
            go_simp
            refine (hvc.out _).mono ?_
            rintro e w2 ⟨rfl, hb2⟩
            have HB2 := Lib.hid (HBW2.out.drew.trans (hb2.mono HBW2.out.drew.size))
            have hS2 := HS.out w2 HB2.out
            refine hK _ _ hS2 ?_
            try simp only [Act.put, pA, pB, pC]
            refine tk 6 hS2 ?_
            try simp only [Act.put, pA, pB, pC]
            refine tk 7 hS2 ?_
            try simp only [Act.put, pA, pB, pC]
            refine tu 8 hS2 ?_
            try simp only [Act.put, pA, pB, pC]
            refine tu 9 hS2 ?_
            try simp only [Act.put, pA, pB, pC]
            refine tu 10 hS2 ?_
            try simp only [Act.put, pA, pB, pC]
            refine tu 11 hS2 ?_
            try simp only [Act.put, pA, pB, pC]
            refine tu 12 hS2 ?_
            try simp only [Act.put, pA, pB, pC]
            refine tu 13 hS2 ?_
            try simp only [Act.put, pA, pB, pC]
            refine tu 14 hS2 ?_
            try simp only [Act.put, pA, pB, pC]
            refine tu 15 hS2 ?_
            try simp only [Act.put, pA, pB, pC]
            refine tu 16 hS2 ?_
            try simp only [Act.put, pA, pB, pC]
            refine tu 17 hS2 ?_
            try simp only [Act.put, pA, pB, pC]
            refine tu 18 hS2 ?_
            try simp only [Act.put, pA, pB, pC]
            refine tu 19 hS2 ?_
            try simp only [Act.put, pA, pB, pC]
            refine tu 20 hS2 ?_
            try simp only [Act.put, pA, pB, pC]
            refine tu 21 hS2 ?_
            try simp only [Act.put, pA, pB, pC]
            refine skip_op 22 (by kernel_rfl) rfl (by rfl) hS2 ?_
            try simp only [Act.put, pA, pB, pC]
            refine tu 23 hS2 ?_
            try simp only [Act.put, pA, pB, pC]
            refine tu 24 hS2 ?_
            try simp only [Act.put, pA, pB, pC]
            refine tk 25 hS2 ?_
            try simp only [Act.put, pA, pB, pC]
            refine wpAnyH_done (by kernel_rfl) ?_ _
            go_wp2
            go_ret
            exact ⟨ret_bool HU.out.symm, HBW.out.trans (HB2.out.mono HBW.out.size)⟩
          · by_cases hj0 : q = 0
            · subst hj0
              have HST := Lib.hid (allAsc_step totK (p := fun x => keyB x.1 x.2) HX.out HALL.out HVZ.out (.inl rfl))
              have q0 : decide ((0 : Int) < ((0 : Nat) : Int)) = false := rfl
              have HS : Hid (∀ V, Below X.heap.size X V → V.cell? ⟨w.heap.size, 4, none⟩ = some (.slice (some ⟨b, off, none⟩) nk cY) ∧ V.cell? ⟨b, off, none⟩ = some (.int .i64 x.1) ∧ V.cell? ⟨b, off + 1, none⟩ = some (.string ⟨x.2.toArray⟩)) := Lib.hid fun V hV => by
                have hz : X.heap.size ≤ V.heap.size := hV.size
                have h1 := (hV.cell (p := ⟨b, _, none⟩) HLT.out.2).trans HD.out.2.1
                have h2 := (hV.cell (p := ⟨b, _, none⟩) HLT.out.2).trans HD.out.2.2
                exact ⟨(hV.cell (p := ⟨w.heap.size, 4, none⟩) HLT.out.1).trans HD.out.1, by simpa using h1, by simpa using h2⟩
              go_wp2_with fail
              refine wp_region_held_drew (S := fun V => V.cell? ⟨w.heap.size, 4, none⟩ = some (.slice (some ⟨b, off, none⟩) nk cY) ∧ V.cell? ⟨b, off, none⟩ = some (.int .i64 x.1) ∧ V.cell? ⟨b, off + 1, none⟩ = some (.string ⟨x.2.toArray⟩)) (by kernel_rfl) (HS.out _ HBW2.out.drew) (fun hHeld => ?_)
              refine tk 0 hHeld ?_
              try simp only [Act.put, pA, pB, pC]
              refine tk 1 hHeld ?_
              try simp only [Act.put, pA, pB, pC]
              refine tk 2 hHeld ?_
              try simp only [Act.put, pA, pB, pC]
              refine tk 3 hHeld ?_
              try simp only [Act.put, pA, pB, pC]
              refine tk 4 hHeld ?_
              try simp only [Act.put, pA, pB, pC]
              refine one_op 5 (by kernel_rfl) rfl (by rfl) (fun K hK => ?_)
              go_simp
              refine (hvc.out _).mono ?_
              rintro e w2 ⟨rfl, hb2⟩
              have HB2 := Lib.hid (HBW2.out.drew.trans (hb2.mono HBW2.out.drew.size))
              have hS2 := HS.out w2 HB2.out
              refine hK _ _ hS2 ?_
              try simp only [Act.put, pA, pB, pC]
              refine tk 6 hS2 ?_
              try simp only [Act.put, pA, pB, pC]
              refine tk 7 hS2 ?_
              try simp only [Act.put, pA, pB, pC]
              refine tk 8 hS2 ?_
              try simp only [Act.put, pA, pB, pC]
              refine tk 9 hS2 ?_
              try simp only [Act.put, pA, pB, pC]
              refine tk 10 hS2 ?_
              try simp only [Act.put, pA, pB, pC]
              refine tu 11 hS2 ?_
              try simp only [Act.put, pA, pB, pC]
              refine tu 12 hS2 ?_
              try simp only [Act.put, pA, pB, pC]
              refine tu 13 hS2 ?_
              try simp only [Act.put, pA, pB, pC]
              refine tu 14 hS2 ?_
              try simp only [Act.put, pA, pB, pC]
              refine tu 15 hS2 ?_
              try simp only [Act.put, pA, pB, pC]
              refine tu 16 hS2 ?_
              try simp only [Act.put, pA, pB, pC]
              refine tu 17 hS2 ?_
              try simp only [Act.put, pA, pB, pC]
              refine tu 18 hS2 ?_
              try simp only [Act.put, pA, pB, pC]
              refine tu 19 hS2 ?_
              try simp only [Act.put, pA, pB, pC]
              refine tu 20 hS2 ?_
              try simp only [Act.put, pA, pB, pC]
              refine tu 21 hS2 ?_
              try simp only [Act.put, pA, pB, pC]
              refine skip_op 22 (by kernel_rfl) rfl (by rfl) hS2 ?_
              try simp only [Act.put, pA, pB, pC]
              refine tu 23 hS2 ?_
              try simp only [Act.put, pA, pB, pC]
              refine tk 24 hS2 ?_
              try simp only [Act.put, pA, pB, pC]
              refine tk 25 hS2 ?_
              try simp only [Act.put, pA, pB, pC]
              refine wpAnyH_done (by kernel_rfl) ?_ _
              go_wp2_with fail
              go_roundw
              case rel => exact ⟨0 + 1, by go_num, by omega, HST.out, HB2.out⟩
              case measure => simp [intOf]; omega
            · obtain ⟨m, hm⟩ : ∃ m, q = m + 1 := ⟨q - 1, by omega⟩
              obtain ⟨b', off', cap1, y0, y1, hu, _, ⟨p, hp, hps, _, _⟩, d0, d1⟩ := (HKE.out.on HBW.out (fun _ _ h => h)).at2 (j := m) (by have := HNK.out; omega)
              injection hu with hA hNN hcc
              injection hA with hA
              injection hA with g1 g2
              subst g1 g2
              clear hNN hcc
              simp only [List.cons.injEq, and_true] at hps
              obtain ⟨rfl, rfl⟩ := hps
              have HP : Hid (keys[q - 1]? = some p) := Lib.hid (by rw [hm, Nat.add_sub_cancel]; exact hp)
              have HJ0 : Hid (0 < q) := Lib.hid (by omega)
              have q0 : decide (0 < q) = true := by rw [decide_eq_true_eq]; omega
              have qm : IntKind.i64.wrap ((q : Int) - 1) = (m : Int) := by rw [IntWalk.i64_in _ (by have := HLN.out.2.2.1; have := HNK.out; unfold maxLen at *; omega)]; omega
              have km : (m : Int) < (nk : Int) := by omega
              have km0 : (0 : Int) ≤ (m : Int) := by omega
              have hcc2 : Hid (∀ U, Calls Tryz.prog 60 #[.agg #[.int .i64 p.1, .string ⟨p.2.toArray⟩], .agg #[.int .i64 x.1, .string ⟨x.2.toArray⟩]] U fun e w' => e = .returned (.int .i64 (cmpK p x)) ∧ Below U.heap.size U w') := Lib.hid fun U => refKeys_any p x U
              generalize hcz : cmpK p x = cz at hcc2
              have HCZ := Lib.hid hcz
              have HD2 := Lib.hid (And.intro d0 d1)
              clear hcz hp hm hj0 d0 d1
              have HS : Hid (∀ V, Below X.heap.size X V → V.cell? ⟨w.heap.size, 4, none⟩ = some (.slice (some ⟨b, off, none⟩) nk cY) ∧ V.cell? ⟨b, off + q * 2, none⟩ = some (.int .i64 x.1) ∧ V.cell? ⟨b, off + q * 2 + 1, none⟩ = some (.string ⟨x.2.toArray⟩) ∧ V.cell? ⟨b, off + m * 2, none⟩ = some (.int .i64 p.1) ∧ V.cell? ⟨b, off + m * 2 + 1, none⟩ = some (.string ⟨p.2.toArray⟩)) := Lib.hid fun V hV => by
                have hz : X.heap.size ≤ V.heap.size := hV.size
                exact ⟨(hV.cell (p := ⟨w.heap.size, 4, none⟩) HLT.out.1).trans HD.out.1, (hV.cell (p := ⟨b, _, none⟩) HLT.out.2).trans HD.out.2.1, (hV.cell (p := ⟨b, _, none⟩) HLT.out.2).trans HD.out.2.2, (hV.cell (p := ⟨b, _, none⟩) HLT.out.2).trans HD2.out.1, (hV.cell (p := ⟨b, _, none⟩) HLT.out.2).trans HD2.out.2⟩
              by_cases hcg : cz < 0
              · have qg : decide ((0 : Int) ≤ cz) = false := by rw [decide_eq_false_iff_not]; omega
                have HST := Lib.hid (allAsc_step totK (p := fun x => keyB x.1 x.2) HX.out HALL.out HVZ.out (.inr ⟨p, HP.out, by rw [HCZ.out]; exact hcg⟩))
                have qj : IntKind.i64.wrap ((q : Int) + 1) = (q : Int) + 1 := IntWalk.i64_in _ (by have := HLN.out.2.2.1; have := HNK.out; unfold maxLen at *; omega)
                clear hcg
                go_wp2_with fail
                refine wp_region_held_drew (S := fun V => V.cell? ⟨w.heap.size, 4, none⟩ = some (.slice (some ⟨b, off, none⟩) nk cY) ∧ V.cell? ⟨b, off + q * 2, none⟩ = some (.int .i64 x.1) ∧ V.cell? ⟨b, off + q * 2 + 1, none⟩ = some (.string ⟨x.2.toArray⟩) ∧ V.cell? ⟨b, off + m * 2, none⟩ = some (.int .i64 p.1) ∧ V.cell? ⟨b, off + m * 2 + 1, none⟩ = some (.string ⟨p.2.toArray⟩)) (by kernel_rfl) (HS.out _ HBW2.out.drew) (fun hHeld => ?_)
                refine tk 0 hHeld ?_
                try simp only [Act.put, pA, pB, pC]
                refine tk 1 hHeld ?_
                try simp only [Act.put, pA, pB, pC]
                refine tk 2 hHeld ?_
                try simp only [Act.put, pA, pB, pC]
                refine tk 3 hHeld ?_
                try simp only [Act.put, pA, pB, pC]
                refine tk 4 hHeld ?_
                try simp only [Act.put, pA, pB, pC]
                refine one_op 5 (by kernel_rfl) rfl (by rfl) (fun K hK => ?_)
                go_simp
                refine (hvc.out _).mono ?_
                rintro e w2 ⟨rfl, hb2⟩
                have HB2 := Lib.hid (HBW2.out.drew.trans (hb2.mono HBW2.out.drew.size))
                have hS2 := HS.out w2 HB2.out
                refine hK _ _ hS2 ?_
                try simp only [Act.put, pA, pB, pC]
                refine tk 6 hS2 ?_
                try simp only [Act.put, pA, pB, pC]
                refine tk 7 hS2 ?_
                try simp only [Act.put, pA, pB, pC]
                refine tk 8 hS2 ?_
                try simp only [Act.put, pA, pB, pC]
                refine tk 9 hS2 ?_
                try simp only [Act.put, pA, pB, pC]
                refine tk 10 hS2 ?_
                try simp only [Act.put, pA, pB, pC]
                refine tk 11 hS2 ?_
                try simp only [Act.put, pA, pB, pC]
                refine tk 12 hS2 ?_
                try simp only [Act.put, pA, pB, pC]
                refine tk 13 hS2 ?_
                try simp only [Act.put, pA, pB, pC]
                refine tk 14 hS2 ?_
                try simp only [Act.put, pA, pB, pC]
                refine tk 15 hS2 ?_
                try simp only [Act.put, pA, pB, pC]
                refine tk 16 hS2 ?_
                try simp only [Act.put, pA, pB, pC]
                refine tk 17 hS2 ?_
                try simp only [Act.put, pA, pB, pC]
                refine tk 18 hS2 ?_
                try simp only [Act.put, pA, pB, pC]
                refine tk 19 hS2 ?_
                try simp only [Act.put, pA, pB, pC]
                refine tk 20 hS2 ?_
                try simp only [Act.put, pA, pB, pC]
                refine tk 21 hS2 ?_
                try simp only [Act.put, pA, pB, pC]
                refine one_op 22 (by kernel_rfl) rfl (by rfl) (fun K hK => ?_)
                go_simp
                refine (hcc2.out w2).mono ?_
                rintro e w3 ⟨rfl, hb3⟩
                have HB3 := Lib.hid (HB2.out.trans (hb3.mono HB2.out.size))
                have hS3 := HS.out w3 HB3.out
                refine hK _ _ hS3 ?_
                try simp only [Act.put, pA, pB, pC]
                refine tk 23 hS3 ?_
                try simp only [Act.put, pA, pB, pC]
                refine tk 24 hS3 ?_
                try simp only [Act.put, pA, pB, pC]
                refine tk 25 hS3 ?_
                try simp only [Act.put, pA, pB, pC]
                refine wpAnyH_done (by kernel_rfl) ?_ _
                go_wp2_with fail
                go_roundw
                case rel => exact ⟨q + 1, by go_num, by omega, HST.out, HB3.out⟩
                case measure => simp [intOf]; omega
              · have qg : decide ((0 : Int) ≤ cz) = true := by rw [decide_eq_true_eq]; omega
                have HU : Hid (y = false) := Lib.hid (by rw [HKY.out, allAsc_no HX.out (.inr ⟨HJ0.out, p, HP.out, by rw [HCZ.out]; exact hcg⟩)]; rfl)
                clear hcg
                go_wp2_with fail
                refine wp_region_held_drew (S := fun V => V.cell? ⟨w.heap.size, 4, none⟩ = some (.slice (some ⟨b, off, none⟩) nk cY) ∧ V.cell? ⟨b, off + q * 2, none⟩ = some (.int .i64 x.1) ∧ V.cell? ⟨b, off + q * 2 + 1, none⟩ = some (.string ⟨x.2.toArray⟩) ∧ V.cell? ⟨b, off + m * 2, none⟩ = some (.int .i64 p.1) ∧ V.cell? ⟨b, off + m * 2 + 1, none⟩ = some (.string ⟨p.2.toArray⟩)) (by kernel_rfl) (HS.out _ HBW2.out.drew) (fun hHeld => ?_)
                refine tk 0 hHeld ?_
                try simp only [Act.put, pA, pB, pC]
                refine tk 1 hHeld ?_
                try simp only [Act.put, pA, pB, pC]
                refine tk 2 hHeld ?_
                try simp only [Act.put, pA, pB, pC]
                refine tk 3 hHeld ?_
                try simp only [Act.put, pA, pB, pC]
                refine tk 4 hHeld ?_
                try simp only [Act.put, pA, pB, pC]
                refine one_op 5 (by kernel_rfl) rfl (by rfl) (fun K hK => ?_)
                go_simp
                refine (hvc.out _).mono ?_
                rintro e w2 ⟨rfl, hb2⟩
                have HB2 := Lib.hid (HBW2.out.drew.trans (hb2.mono HBW2.out.drew.size))
                have hS2 := HS.out w2 HB2.out
                refine hK _ _ hS2 ?_
                try simp only [Act.put, pA, pB, pC]
                refine tk 6 hS2 ?_
                try simp only [Act.put, pA, pB, pC]
                refine tk 7 hS2 ?_
                try simp only [Act.put, pA, pB, pC]
                refine tk 8 hS2 ?_
                try simp only [Act.put, pA, pB, pC]
                refine tk 9 hS2 ?_
                try simp only [Act.put, pA, pB, pC]
                refine tk 10 hS2 ?_
                try simp only [Act.put, pA, pB, pC]
                refine tk 11 hS2 ?_
                try simp only [Act.put, pA, pB, pC]
                refine tk 12 hS2 ?_
                try simp only [Act.put, pA, pB, pC]
                refine tk 13 hS2 ?_
                try simp only [Act.put, pA, pB, pC]
                refine tk 14 hS2 ?_
                try simp only [Act.put, pA, pB, pC]
                refine tk 15 hS2 ?_
                try simp only [Act.put, pA, pB, pC]
                refine tk 16 hS2 ?_
                try simp only [Act.put, pA, pB, pC]
                refine tk 17 hS2 ?_
                try simp only [Act.put, pA, pB, pC]
                refine tk 18 hS2 ?_
                try simp only [Act.put, pA, pB, pC]
                refine tk 19 hS2 ?_
                try simp only [Act.put, pA, pB, pC]
                refine tk 20 hS2 ?_
                try simp only [Act.put, pA, pB, pC]
                refine tk 21 hS2 ?_
                try simp only [Act.put, pA, pB, pC]
                refine one_op 22 (by kernel_rfl) rfl (by rfl) (fun K hK => ?_)
                go_simp
                refine (hcc2.out w2).mono ?_
                rintro e w3 ⟨rfl, hb3⟩
                have HB3 := Lib.hid (HB2.out.trans (hb3.mono HB2.out.size))
                have hS3 := HS.out w3 HB3.out
                refine hK _ _ hS3 ?_
                try simp only [Act.put, pA, pB, pC]
                refine tk 23 hS3 ?_
                try simp only [Act.put, pA, pB, pC]
                refine tk 24 hS3 ?_
                try simp only [Act.put, pA, pB, pC]
                refine tk 25 hS3 ?_
                try simp only [Act.put, pA, pB, pC]
                refine wpAnyH_done (by kernel_rfl) ?_ _
                go_wp2
                go_ret
                exact ⟨ret_bool HU.out.symm, HBW.out.trans (HB3.out.mono HBW.out.size)⟩
        · have HKA : Hid (allAsc (fun x => keyB x.1 x.2) cmpK keys = true) := Lib.hid (by
            have hke : keys.take q = keys := List.take_of_length_le (by have := HNK.out; omega)
            rw [← hke]; exact HALL.out)
          have g3 : wr.cell? ⟨w.heap.size, 3, none⟩ = some (.slice A kids.length cA) := (hb.cell (p := ⟨w.heap.size, 3, none⟩) HLTr.out).trans e3
          have HBE := Lib.hid (HBW.out.trans (hb.mono HBW.out.size))
          clear hb e0 e1 e2 e3 e4 e5 HALL
          by_cases hl : nk = kids.length
          · have HU : Hid (y = true) := Lib.hid (by rw [HKY.out, HKA.out]; simp [hl])
            have fl : ((nk : Int) == (kids.length : Int)) = true := by rw [beq_iff_eq]; omega
            clear hl
            go_wp2
            go_ret
            exact ⟨ret_bool HU.out.symm, HBE.out⟩
          · have HU : Hid (y = false) := Lib.hid (by rw [HKY.out, HKA.out]; simp [hl])
            have fl : ((nk : Int) == (kids.length : Int)) = false := by rw [beq_eq_false_iff_ne]; omega
            clear hl
            go_wp2
            go_ret
            exact ⟨ret_bool HU.out.symm, HBE.out⟩
end Go.Proofs.YtjfknigiehggkaaGreat
