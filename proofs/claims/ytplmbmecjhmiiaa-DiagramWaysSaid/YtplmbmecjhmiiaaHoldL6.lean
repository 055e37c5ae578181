/- The law's holds and ints. -/
import Derived.Test.YtplmbmecjhmiiaaHold6
import Derived.Test.YtplmbmecjhmiiaaEval6
import Derived.Test.YtplmbmecjhmiiaaEq6
namespace Go.Proofs.Ytplmbmecjhmiiaa
open Go Go.RowKit
set_option maxRecDepth 100000 in
set_option maxHeartbeats 3200000 in
theorem holdsL_any (sp sn : Value) (p q : List Int) (a : Nat) (ha : a < 18446744073709551616) (hp : Lit12 p) (hq : Lit12 q) (w : World) (h1 : IntR w (fun b => b < w.heap.size) sp p) (h2 : IntR w (fun b => b < w.heap.size) sn q) :
    Calls Try.prog 24 #[.agg #[sp, sn], .int .u64 a] w fun e w' => e = .returned (.bool (hB (p, q) (sOf a))) ∧ Below w.heap.size w w' := by
  obtain ⟨A1, c1, rfl, m1⟩ := h1.form
  obtain ⟨A2, c2, rfl, m2⟩ := h2.form
  obtain ⟨W, hW⟩ : ∃ W, W = w.alloc (.cells #[.slice A1 p.length c1, .slice A2 q.length c2] 52) := ⟨_, rfl⟩
  have hb : Below w.heap.size w W := by rw [hW]; exact (Below.refl _ _).alloc (Nat.le_refl _) _
  have hz : W.heap.size = w.heap.size + 1 := by rw [hW]; simp
  have k0 : W.heap[w.heap.size]? = some (.cells #[.slice A1 p.length c1, .slice A2 q.length c2] 52 (0, 0)) := by rw [hW]; exact heap_alloc_new w _
  obtain ⟨n, hn⟩ : ∃ n, n = p.length := ⟨_, rfl⟩
  obtain ⟨m, hm⟩ : ∃ m, m = q.length := ⟨_, rfl⟩
  rw [← hn] at hW k0 h1 m1 ⊢
  rw [← hm] at hW k0 h2 m2 ⊢
  have HL := Lib.hid (And.intro hn (And.intro hm (And.intro m1 m2)))
  have HI := Lib.hid (And.intro h1 (And.intro h2 (And.intro hp (And.intro hq ha))))
  have HK : Hid (∀ V, Below W.heap.size W V → (V.cell? ⟨w.heap.size, 0, none⟩ = some (.slice A1 n c1) ∧ V.cell? ⟨w.heap.size, 1, none⟩ = some (.slice A2 m c2)) ∧ Below w.heap.size w V) := Lib.hid fun V hV => ⟨cells2 ((hV.block _ (by omega)).trans k0), hb.trans (hV.mono (by omega))⟩
  generalize hrr : hB (p, q) (sOf a) = r
  have HR := Lib.hid hrr
  have HB := Lib.hid hb
  clear hrr h1 h2 hp hq ha hb hz k0 m1 m2 hn hm
  go_enter Try.func24, Try.ntmps24
  go_wp2_with fail
  rw [← hW]
  clear hW
  go_loopw [5] (fun i wr => ∃ j : Nat, i = .int .i64 j ∧ j ≤ n ∧ Hid (∀ k, k < j → ∀ z, p[k]? = some z → sOf a z.toNat = true) ∧ Hid (Below W.heap.size W wr)) (fun i _ => n - (intOf i).toNat)
  case atStart => exact ⟨0, rfl, by omega, Lib.hid (fun k hk => absurd hk (by omega)), Lib.hid (Below.refl _ _)⟩
  case round =>
    obtain ⟨j, rfl, hj, h0, hwr⟩ := hrel
    obtain ⟨⟨y0, y1⟩, hbw⟩ := HK.out _ hwr.out
    by_cases hjn : j < n
    · obtain ⟨b, off, z, rfl, hbb, _, hx, c0⟩ := HI.out.1.at hjn
      have c0' := (hbw.cell (p := ⟨b, _, none⟩) hbb).trans c0
      obtain ⟨z0, z1⟩ := HI.out.2.2.1 z (List.mem_of_getElem? hx)
      obtain ⟨l, rfl⟩ : ∃ l : Nat, z = (l : Int) := ⟨z.toNat, by omega⟩
      have kn : (j : Int) < (n : Int) := by omega
      have k0 : (0 : Int) ≤ (j : Int) := by omega
      have hwj : IntKind.i64.wrap ((j : Int) + 1) = ((j + 1 : Nat) : Int) := by have := HL.out.2.2.1; rw [IntWalk.i64_in _ (by omega)]; omega
      have hwl : IntKind.u64.wrap (l : Int) = (l : Int) := by rw [IntKind.wrap_u64]; omega
      have HX := Lib.hid (And.intro hx (And.intro hjn hbw))
      have HA := Lib.hid HI.out.2.2.2.2
      have HML : Hid (min l 64 = l) := Lib.hid (Nat.min_eq_left (by omega))
      clear z0 z1 c0 hx hbb hj hjn hbw
      cases hbit : a.testBit l
      · have hq0 : bits .and .u64 ((a : Int) / 2 ^ (min l 64)) 1 = 0 := by rw [HML.out]; exact ubit_zero a l HA.out hbit
        have HBT := Lib.hid hbit
        clear hbit
        go_wp2
        go_ret
        refine ⟨?_, HX.out.2.2⟩
        rw [← HR.out, show hB (p, q) (sOf a) = false from by unfold hB; rw [all_false (p := fun l => sOf a l.toNat) HX.out.1 HBT.out]; rfl]
        rfl
      · have hq0 : bits .and .u64 ((a : Int) / 2 ^ (min l 64)) 1 = 1 := by rw [HML.out]; exact ubit_one a l HA.out hbit
        have HBT := Lib.hid hbit
        clear hbit
        go_wp2
        go_roundw
        case rel => exact ⟨j + 1, by go_num, by have := HX.out.2.1; omega, Lib.hid (fun k hk z hz => by
          rcases Nat.lt_or_eq_of_le (Nat.le_of_lt_succ hk) with h | h
          · exact h0.out k h z hz
          · rw [h, HX.out.1] at hz
            rw [← Option.some.inj hz]
            exact HBT.out), hwr⟩
        case measure => have := HX.out.2.1; simp [intOf]; omega
    · have q1 : ¬ (j : Int) < (n : Int) := by omega
      have hP := all_true (p := fun l => sOf a l.toNat) HL.out.1.symm (fun k hk => h0.out k (by omega))
      have HP := Lib.hid hP
      clear hP hj hjn h0 hbw
      go_wp2_with fail
      clear y0 y1 q1
      go_loopw [6] (fun i wr => ∃ j : Nat, i = .int .i64 j ∧ j ≤ m ∧ Hid (∀ k, k < j → ∀ z, q[k]? = some z → (!sOf a z.toNat) = true) ∧ Hid (Below W.heap.size W wr)) (fun i _ => m - (intOf i).toNat)
      case atStart => exact ⟨0, rfl, by omega, Lib.hid (fun k hk => absurd hk (by omega)), hwr⟩
      case round =>
        obtain ⟨j2, rfl, hj, h0, hwr2⟩ := hrel
        obtain ⟨⟨y0, y1⟩, hbw⟩ := HK.out _ hwr2.out
        by_cases hjn : j2 < m
        · obtain ⟨b, off, z, rfl, hbb, _, hx, c0⟩ := HI.out.2.1.at hjn
          have c0' := (hbw.cell (p := ⟨b, _, none⟩) hbb).trans c0
          obtain ⟨z0, z1⟩ := HI.out.2.2.2.1 z (List.mem_of_getElem? hx)
          obtain ⟨l, rfl⟩ : ∃ l : Nat, z = (l : Int) := ⟨z.toNat, by omega⟩
          have kn : (j2 : Int) < (m : Int) := by omega
          have k0 : (0 : Int) ≤ (j2 : Int) := by omega
          have hwj : IntKind.i64.wrap ((j2 : Int) + 1) = ((j2 + 1 : Nat) : Int) := by have := HL.out.2.2.2; rw [IntWalk.i64_in _ (by omega)]; omega
          have hwl : IntKind.u64.wrap (l : Int) = (l : Int) := by rw [IntKind.wrap_u64]; omega
          have HX := Lib.hid (And.intro hx (And.intro hjn hbw))
          have HA := Lib.hid HI.out.2.2.2.2
          have HML : Hid (min l 64 = l) := Lib.hid (Nat.min_eq_left (by omega))
          clear z0 z1 c0 hx hbb hj hjn hbw
          cases hbit : a.testBit l
          · have hq0 : bits .and .u64 ((a : Int) / 2 ^ (min l 64)) 1 = 0 := by rw [HML.out]; exact ubit_zero a l HA.out hbit
            have HBT := Lib.hid hbit
            clear hbit
            go_wp2
            go_roundw
            case rel => exact ⟨j2 + 1, by go_num, by have := HX.out.2.1; omega, Lib.hid (fun k hk z hz => by
              rcases Nat.lt_or_eq_of_le (Nat.le_of_lt_succ hk) with h | h
              · exact h0.out k h z hz
              · rw [h, HX.out.1] at hz
                rw [← Option.some.inj hz]
                show (!sOf a l) = true
                unfold sOf
                rw [HBT.out]; rfl), hwr2⟩
            case measure => have := HX.out.2.1; simp [intOf]; omega
          · have hq0 : bits .and .u64 ((a : Int) / 2 ^ (min l 64)) 1 = 1 := by rw [HML.out]; exact ubit_one a l HA.out hbit
            have HBT := Lib.hid hbit
            clear hbit
            go_wp2
            go_ret
            refine ⟨?_, HX.out.2.2⟩
            rw [← HR.out, show hB (p, q) (sOf a) = false from by
              unfold hB
              rw [all_false (p := fun l => !sOf a l.toNat) HX.out.1 (by show (!sOf a l) = false; unfold sOf; rw [HBT.out]; rfl), Bool.and_false]]
            rfl
        · have q1 : ¬ (j2 : Int) < (m : Int) := by omega
          have hQ := all_true (p := fun l => !sOf a l.toNat) HL.out.2.1.symm (fun k hk => h0.out k (by omega))
          have HQ := Lib.hid hQ
          have HBW := Lib.hid hbw
          clear hQ hj hjn h0 hbw
          go_wp2
          go_ret
          refine ⟨?_, HBW.out⟩
          rw [← HR.out, show hB (p, q) (sOf a) = true from by unfold hB; rw [HP.out, HQ.out]; rfl]
          rfl
set_option maxRecDepth 100000 in
set_option maxHeartbeats 3200000 in
theorem ints_any (sp sq : Value) (p q : List Int) (w : World) (h1 : IntR w (fun b => b < w.heap.size) sp p) (h2 : IntR w (fun b => b < w.heap.size) sq q) :
    Calls Try.prog 23 #[sp, sq] w fun e w' => e = .returned (.bool (decide (p = q))) ∧ Below w.heap.size w w' := by
  obtain ⟨A, c, rfl, m1⟩ := h1.form
  obtain ⟨B, d, rfl, m2⟩ := h2.form
  obtain ⟨n, hn⟩ : ∃ n, n = p.length := ⟨_, rfl⟩
  obtain ⟨m, hm⟩ : ∃ m, m = q.length := ⟨_, rfl⟩
  rw [← hn] at h1 m1 ⊢
  rw [← hm] at h2 m2 ⊢
  by_cases hnm : n = m
  · subst hnm
    have HN := Lib.hid h1
    have HM := Lib.hid h2
    have HL := Lib.hid (And.intro hn.symm hm.symm)
    generalize hrr : decide (p = q) = r
    have HR := Lib.hid hrr
    have HNN := Lib.hid m1
    clear hrr h1 h2 hn hm m1 m2
    go_enter Try.func23, Try.ntmps23
    go_wp2_with fail
    go_loopw [5] (fun i wr => ∃ j : Nat, i = .int .i64 j ∧ j ≤ n ∧ Hid (∀ k, k < j → p[k]? = q[k]?) ∧ Hid (Below w.heap.size w wr)) (fun i _ => n - (intOf i).toNat)
    case atStart => exact ⟨0, rfl, by omega, Lib.hid (fun k hk => absurd hk (by omega)), Lib.hid (Below.refl _ _)⟩
    case round =>
      obtain ⟨j, rfl, hj, h0, hwr⟩ := hrel
      by_cases hjn : j < n
      · obtain ⟨b1, o1, x, rfl, _, hbb, hx, c0⟩ := (HN.out.on hwr.out).at hjn
        obtain ⟨b2, o2, y, rfl, _, hbb2, hy, d0⟩ := (HM.out.on hwr.out).at hjn
        have kn : (j : Int) < (n : Int) := by omega
        have k0 : (0 : Int) ≤ (j : Int) := by omega
        have hwj : IntKind.i64.wrap ((j : Int) + 1) = ((j + 1 : Nat) : Int) := by have := HNN.out; rw [IntWalk.i64_in _ (by omega)]; omega
        have HX := Lib.hid (And.intro hx hy)
        have HJ := Lib.hid hjn
        have HC : Hid (∀ V, Below wr.heap.size wr V → (V.cell? ⟨b1, o1 + j, none⟩ = some (.int .i64 x) ∧ V.cell? ⟨b2, o2 + j, none⟩ = some (.int .i64 y))) := Lib.hid fun V hV => ⟨(hV.cell (p := ⟨b1, _, none⟩) hbb).trans c0, (hV.cell (p := ⟨b2, _, none⟩) hbb2).trans d0⟩
        clear c0 d0 hx hy hbb hbb2 hjn hj
        by_cases hxy : x = y
        · have hq : (x != y) = false := by simpa using hxy
          have HXY := Lib.hid hxy
          clear hxy
          go_wp2_with fail
          refine wp_region_held_drew (S := fun V => (V.cell? ⟨b1, o1 + j, none⟩ = some (.int .i64 x) ∧ V.cell? ⟨b2, o2 + j, none⟩ = some (.int .i64 y))) (by kernel_rfl) (HC.out _ (Below.refl _ wr).drew) (fun _ => ?_)
          refine tk 0 (HC.out _ (Below.refl _ wr).drew) ?_
          try simp only [Act.put, pA, pB, pC]
          refine tk 1 (HC.out _ (Below.refl _ wr).drew) ?_
          try simp only [Act.put, pA, pB, pC]
          refine tk 2 (HC.out _ (Below.refl _ wr).drew) ?_
          try simp only [Act.put, pA, pB, pC]
          refine tk 3 (HC.out _ (Below.refl _ wr).drew) ?_
          try simp only [Act.put, pA, pB, pC]
          refine tk 4 (HC.out _ (Below.refl _ wr).drew) ?_
          try simp only [Act.put, pA, pB, pC]
          refine tk 5 (HC.out _ (Below.refl _ wr).drew) ?_
          try simp only [Act.put, pA, pB, pC]
          refine tk 6 (HC.out _ (Below.refl _ wr).drew) ?_
          try simp only [Act.put, pA, pB, pC]
          refine tk 7 (HC.out _ (Below.refl _ wr).drew) ?_
          try simp only [Act.put, pA, pB, pC]
          refine tk 8 (HC.out _ (Below.refl _ wr).drew) ?_
          try simp only [Act.put, pA, pB, pC]
          refine wpAnyH_done (by kernel_rfl) ?_ _
          have HD := Lib.hid hwr.out.drew
          go_wp2
          go_roundw
          case rel => exact ⟨j + 1, by go_num, by have := HJ.out; omega, Lib.hid (fun k hk => by
            rcases Nat.lt_or_eq_of_le (Nat.le_of_lt_succ hk) with h | h
            · exact h0.out k h
            · rw [h, HX.out.1, HX.out.2, HXY.out]), HD⟩
          case measure => have := HJ.out; simp [intOf]; omega
        · have hq : (x != y) = true := by simpa using hxy
          have HXY := Lib.hid hxy
          clear hxy
          go_wp2_with fail
          refine wp_region_held_drew (S := fun V => (V.cell? ⟨b1, o1 + j, none⟩ = some (.int .i64 x) ∧ V.cell? ⟨b2, o2 + j, none⟩ = some (.int .i64 y))) (by kernel_rfl) (HC.out _ (Below.refl _ wr).drew) (fun _ => ?_)
          refine tk 0 (HC.out _ (Below.refl _ wr).drew) ?_
          try simp only [Act.put, pA, pB, pC]
          refine tk 1 (HC.out _ (Below.refl _ wr).drew) ?_
          try simp only [Act.put, pA, pB, pC]
          refine tk 2 (HC.out _ (Below.refl _ wr).drew) ?_
          try simp only [Act.put, pA, pB, pC]
          refine tk 3 (HC.out _ (Below.refl _ wr).drew) ?_
          try simp only [Act.put, pA, pB, pC]
          refine tk 4 (HC.out _ (Below.refl _ wr).drew) ?_
          try simp only [Act.put, pA, pB, pC]
          refine tk 5 (HC.out _ (Below.refl _ wr).drew) ?_
          try simp only [Act.put, pA, pB, pC]
          refine tk 6 (HC.out _ (Below.refl _ wr).drew) ?_
          try simp only [Act.put, pA, pB, pC]
          refine tk 7 (HC.out _ (Below.refl _ wr).drew) ?_
          try simp only [Act.put, pA, pB, pC]
          refine tk 8 (HC.out _ (Below.refl _ wr).drew) ?_
          try simp only [Act.put, pA, pB, pC]
          refine wpAnyH_done (by kernel_rfl) ?_ _
          have HD := Lib.hid hwr.out.drew
          go_wp2
          go_ret
          refine ⟨?_, HD.out⟩
          rw [← HR.out, show decide (p = q) = false from by
            rw [decide_eq_false_iff_not]
            intro e
            have h1 := HX.out.1
            rw [e, HX.out.2] at h1
            exact HXY.out (Option.some.inj h1).symm]
          rfl
      · have q1 : ¬ (j : Int) < (n : Int) := by omega
        have HF : Hid (r = true) := Lib.hid (by
          rw [← HR.out, decide_eq_true_eq]
          exact list_ext (by rw [HL.out.1, HL.out.2]) (fun k hk => h0.out k (by rw [HL.out.1] at hk; omega)))
        clear hjn hj
        go_wp2
        go_ret
        exact ⟨by rw [HF.out]; rfl, hwr.out⟩
  · have hd : decide (p = q) = false := by
      rw [decide_eq_false_iff_not]
      intro e
      rw [e] at hn
      omega
    rw [hd]
    have q1 : ((n : Int) != (m : Int)) = true := by simp; omega
    clear hd h1 h2 hn hm m1 m2
    go_enter Try.func23, Try.ntmps23
    go_wp2
    go_ret
    exact ⟨rfl, Below.refl _ _⟩
end Go.Proofs.Ytplmbmecjhmiiaa
