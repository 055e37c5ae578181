/- What ascending returns at entries, keys and texts. -/
import Derived.Test.YtjfknigiehggkaaGreatVl05
namespace Go.Proofs.YtjfknigiehggkaaGreat
open Go Go.RowKit
theorem ascC_at {α : Type} {c : α → α → Int} {l : List α} (h : AscC c l) {i j : Nat} {x y : α} (hx : l[i]? = some x) (hy : l[j]? = some y) (hij : i < j) : c x y < 0 := by
  have := List.pairwise_iff_getElem.1 h i j (List.getElem?_eq_some_iff.1 hx).1 (List.getElem?_eq_some_iff.1 hy).1 hij
  rwa [(List.getElem?_eq_some_iff.1 hx).2, (List.getElem?_eq_some_iff.1 hy).2] at this
theorem ascC_of {α : Type} {c : α → α → Int} (T : Tot c) : ∀ {l : List α}, (∀ r x y, l[r]? = some x → l[r + 1]? = some y → c x y < 0) → AscC c l
  | [], _ => List.Pairwise.nil
  | [a], _ => List.pairwise_cons.2 ⟨fun y hy => by simp at hy, List.Pairwise.nil⟩
  | a :: b :: s, h => by
    have h1 : AscC c (b :: s) := ascC_of T fun r x y hx hy => h (r + 1) x y (by simpa using hx) (by simpa using hy)
    have h2 : c a b < 0 := h 0 a b rfl rfl
    refine List.pairwise_cons.2 ⟨fun y hy => ?_, h1⟩
    rcases List.mem_cons.1 hy with rfl | hy
    · exact h2
    · exact T.trans a b y h2 ((List.pairwise_cons.1 h1).1 y hy)
theorem strCmpB_any (a b : List UInt8) (w : World) : Calls Tryz.prog 96 #[.string ⟨a.toArray⟩, .string ⟨b.toArray⟩] w fun e w' => e = .returned (.int .i64 (cmpT a b)) ∧ Below w.heap.size w w' := by
  refine (strCmp_any ⟨a.toArray⟩ ⟨b.toArray⟩ w).mono ?_
  rintro e w' ⟨rfl, rfl⟩
  exact ⟨rfl, Below.refl _ _⟩
set_option maxRecDepth 100000 in
set_option maxHeartbeats 3200000 in
theorem asc1 (A : Option Addr) (c : Nat) (l : List (List UInt8)) (w : World) (hl : RowP w w.heap.size 1 (.slice A l.length c) l.length (fun j cs => ∃ x, l[j]? = some x ∧ cs = [.string ⟨x.toArray⟩] ∧ x.length ≤ maxLen)) :
    Calls Tryz.prog 115 #[.slice A l.length c, .func (.func 96) #[] #[]] w fun e w' => e = .returned (.bool (decide (AscC cmpT l))) ∧ Below w.heap.size w w' := by
  have eg := enters_of Tryz.func96 (by kernel_rfl) rfl
  obtain ⟨_, _, _, hln⟩ := hl.form
  unfold maxLen at hln
  have HL := Lib.hid hl
  clear hl
  generalize hrr : decide (AscC cmpT l) = r
  have HR := Lib.hid hrr
  clear hrr
  go_enter Tryz.func115, Tryz.ntmps115
  go_wp2_with fail
  go_loopw [5, 6] (fun i _ wr => ∃ q : Nat, i = .int .i64 ((q : Int) + 1) ∧ (q + 1 ≤ l.length ∨ q = 0) ∧ Hid (∀ r x y, r < q → l[r]? = some x → l[r + 1]? = some y → cmpT x y < 0) ∧ Below w.heap.size w wr) (fun i _ _ => l.length + 1 - (intOf i).toNat)
  case atStart => exact ⟨0, rfl, by omega, Lib.hid (fun r x y h => absurd h (by omega)), Below.refl _ _⟩
  case round =>
    obtain ⟨j, rfl, hj, h0, hb⟩ := hrel
    by_cases hjn : j + 1 < l.length
    · obtain ⟨b, off, cap0, x0, hu, hbH, ⟨x, hx, hv⟩, c0⟩ := (HL.out.on hb (fun _ _ h => h)).at1 (show j < l.length by omega)
      obtain ⟨b', off', cap0', y0, hu', hbH', ⟨y, hy, hv'⟩, d0⟩ := (HL.out.on hb (fun _ _ h => h)).at1 hjn
      injection hu with hA _ hcap
      subst hA hcap
      injection hu' with hA' _ hcap'
      injection hA' with hA'
      injection hA' with hA1 hA2
      subst hA1 hA2 hcap'
      obtain ⟨hf, -⟩ := hv
      simp only [List.cons.injEq, and_true] at hf
      obtain rfl := hf
      obtain ⟨hf, -⟩ := hv'
      simp only [List.cons.injEq, and_true] at hf
      obtain rfl := hf
      have kn : ((j : Int) + 1) < (l.length : Int) := by omega
      have km : (j : Int) < (l.length : Int) := by omega
      have k0 : (0 : Int) ≤ (j : Int) := by omega
      have k1 : (0 : Int) ≤ (j : Int) + 1 := by omega
      have e1 : ((j : Int) + 1).toNat = j + 1 := by omega
      have e2 : ((j : Int) + 1 - 1) = (j : Int) := by omega
      have e3 : IntKind.i64.wrap (j : Int) = (j : Int) := IntWalk.i64_in _ (by omega)
      have e4 : IntKind.i64.wrap ((j : Int) + 1 - 1) = (j : Int) := by rw [e2, e3]
      have HV := Lib.hid hb
      have HX := Lib.hid (And.intro hx hy)
      have hz := hb.size
      have HK9 : Hid (∀ wq, Below wr.heap.size wr wq → wq.cell? ⟨b, off + j, none⟩ = some (.string ⟨x.toArray⟩) ∧ wq.cell? ⟨b, off + (j + 1), none⟩ = some (.string ⟨y.toArray⟩)) := Lib.hid (fun wq h => ⟨(h.cell (p := ⟨_, _, none⟩) (by show b < _; omega)).trans c0, (h.cell (p := ⟨_, _, none⟩) (by show b < _; omega)).trans d0⟩)
      clear hx hy hb c0 d0
      go_wp2_with fail
      refine wp_region_held_drew (S := fun wq => wq.cell? ⟨b, off + j, none⟩ = some (.string ⟨x.toArray⟩) ∧ wq.cell? ⟨b, off + (j + 1), none⟩ = some (.string ⟨y.toArray⟩)) (by kernel_rfl) (HK9.out _ (Below.refl _ _).drew) (fun _ => ?_)
      have hB9 : Below wr.heap.size wr wr.drew := (Below.refl _ _).drew
      refine tk 0 (HK9.out _ hB9) ?_
      try simp only [Act.put, pA, pB, pC]
      refine tk 1 (HK9.out _ hB9) ?_
      try simp only [Act.put, pA, pB, pC]
      refine tk 2 (HK9.out _ hB9) ?_
      try simp only [Act.put, pA, pB, pC]
      refine tk 3 (HK9.out _ hB9) ?_
      try simp only [Act.put, pA, pB, pC]
      refine tk 4 (HK9.out _ hB9) ?_
      try simp only [Act.put, pA, pB, pC]
      refine tk 5 (HK9.out _ hB9) ?_
      try simp only [Act.put, pA, pB, pC]
      refine tk 6 (HK9.out _ hB9) ?_
      try simp only [Act.put, pA, pB, pC]
      refine tk 7 (HK9.out _ hB9) ?_
      try simp only [Act.put, pA, pB, pC]
      refine tk 8 (HK9.out _ hB9) ?_
      try simp only [Act.put, pA, pB, pC]
      refine tk 9 (HK9.out _ hB9) ?_
      try simp only [Act.put, pA, pB, pC]
      refine one_op 10 (by kernel_rfl) rfl (by rfl) (fun K hK => ?_)
      go_simp
      refine (strCmpB_any x y _).mono ?_
      rintro e w10 ⟨rfl, hb10⟩
      have hB10 : Below wr.heap.size wr w10 := step_below hB9 (Nat.le_refl _) hb10
      clear hb10 hB9
      refine hK _ _ (HK9.out _ hB10) ?_
      try simp only [Act.put, pA, pB, pC]
      clear hK K
      refine tk 11 (HK9.out _ hB10) ?_
      try simp only [Act.put, pA, pB, pC]
      refine wpAnyH_done (by kernel_rfl) ?_ _
      generalize hzz : cmpT x y = z
      have HC := Lib.hid hzz
      clear hzz
      by_cases hz0 : 0 ≤ z
      · have HU : Hid (r = false) := Lib.hid (by rw [← HR.out, decide_eq_false_iff_not]; intro h; have := ascC_at h HX.out.1 HX.out.2 (Nat.lt_succ_self j); rw [HC.out] at this; omega)
        go_wp2
        go_ret
        exact ⟨ret_bool HU.out.symm, HV.out.trans (hB10.mono HV.out.size)⟩
      · have HC2 : Hid (∀ r x y, r < j + 1 → l[r]? = some x → l[r + 1]? = some y → cmpT x y < 0) := Lib.hid (by
          intro r x' y' hr h1 h2
          by_cases e : r = j
          · subst e
            rw [HX.out.1] at h1
            rw [HX.out.2] at h2
            injection h1 with h1
            injection h2 with h2
            subst h1 h2
            rw [HC.out]
            omega
          · exact h0.out r x' y' (by omega) h1 h2)
        go_wp2
        go_roundw
        case rel => exact ⟨j + 1, by go_num, by omega, HC2, HV.out.trans (hB10.mono HV.out.size)⟩
        case measure => simp [intOf]; omega
    · have HU : Hid (r = true) := Lib.hid (by rw [← HR.out, decide_eq_true_iff]; exact ascC_of totT fun r x y h1 h2 => h0.out r x y (by have := (List.getElem?_eq_some_iff.1 h2).1; omega) h1 h2)
      have kn : ¬ ((j : Int) + 1) < (l.length : Int) := by omega
      go_wp2
      go_ret
      exact ⟨ret_bool HU.out.symm, hb⟩
set_option maxRecDepth 100000 in
set_option maxHeartbeats 3200000 in
theorem asc2 (A : Option Addr) (c : Nat) (l : List (Int × List UInt8)) (w : World) (hl : RowP w w.heap.size 2 (.slice A l.length c) l.length (fun j cs => ∃ x, l[j]? = some x ∧ cs = [.int .i64 x.1, .string ⟨x.2.toArray⟩] ∧ (Lit.int .i64 x.1).wf = true ∧ x.2.length ≤ maxLen)) :
    Calls Tryz.prog 57 #[.slice A l.length c, .func (.func 58) #[] #[]] w fun e w' => e = .returned (.bool (decide (AscC cmpK l))) ∧ Below w.heap.size w w' := by
  have eg := enters_of Tryz.func58 (by kernel_rfl) rfl
  obtain ⟨_, _, _, hln⟩ := hl.form
  unfold maxLen at hln
  have HL := Lib.hid hl
  clear hl
  generalize hrr : decide (AscC cmpK l) = r
  have HR := Lib.hid hrr
  clear hrr
  go_enter Tryz.func57, Tryz.ntmps57
  go_wp2_with fail
  go_loopw [5, 6] (fun i _ wr => ∃ q : Nat, i = .int .i64 ((q : Int) + 1) ∧ (q + 1 ≤ l.length ∨ q = 0) ∧ Hid (∀ r x y, r < q → l[r]? = some x → l[r + 1]? = some y → cmpK x y < 0) ∧ Below w.heap.size w wr) (fun i _ _ => l.length + 1 - (intOf i).toNat)
  case atStart => exact ⟨0, rfl, by omega, Lib.hid (fun r x y h => absurd h (by omega)), Below.refl _ _⟩
  case round =>
    obtain ⟨j, rfl, hj, h0, hb⟩ := hrel
    by_cases hjn : j + 1 < l.length
    · obtain ⟨b, off, cap0, x0, x1, hu, hbH, ⟨x, hx, hv⟩, c0, c1⟩ := (HL.out.on hb (fun _ _ h => h)).at2 (show j < l.length by omega)
      obtain ⟨b', off', cap0', y0, y1, hu', hbH', ⟨y, hy, hv'⟩, d0, d1⟩ := (HL.out.on hb (fun _ _ h => h)).at2 hjn
      injection hu with hA _ hcap
      subst hA hcap
      injection hu' with hA' _ hcap'
      injection hA' with hA'
      injection hA' with hA1 hA2
      subst hA1 hA2 hcap'
      obtain ⟨hf, -, -⟩ := hv
      simp only [List.cons.injEq, and_true] at hf
      obtain ⟨rfl, rfl⟩ := hf
      obtain ⟨hf, -, -⟩ := hv'
      simp only [List.cons.injEq, and_true] at hf
      obtain ⟨rfl, rfl⟩ := hf
      have kn : ((j : Int) + 1) < (l.length : Int) := by omega
      have km : (j : Int) < (l.length : Int) := by omega
      have k0 : (0 : Int) ≤ (j : Int) := by omega
      have k1 : (0 : Int) ≤ (j : Int) + 1 := by omega
      have e1 : ((j : Int) + 1).toNat = j + 1 := by omega
      have e2 : ((j : Int) + 1 - 1) = (j : Int) := by omega
      have e3 : IntKind.i64.wrap (j : Int) = (j : Int) := IntWalk.i64_in _ (by omega)
      have e4 : IntKind.i64.wrap ((j : Int) + 1 - 1) = (j : Int) := by rw [e2, e3]
      have HV := Lib.hid hb
      have HX := Lib.hid (And.intro hx hy)
      have hz := hb.size
      have HK9 : Hid (∀ wq, Below wr.heap.size wr wq → wq.cell? ⟨b, off + j * 2, none⟩ = some (.int .i64 x.1) ∧ wq.cell? ⟨b, off + j * 2 + 1, none⟩ = some (.string ⟨x.2.toArray⟩) ∧ wq.cell? ⟨b, off + (j + 1) * 2, none⟩ = some (.int .i64 y.1) ∧ wq.cell? ⟨b, off + (j + 1) * 2 + 1, none⟩ = some (.string ⟨y.2.toArray⟩)) := Lib.hid (fun wq h => ⟨(h.cell (p := ⟨_, _, none⟩) (by show b < _; omega)).trans c0, (h.cell (p := ⟨_, _, none⟩) (by show b < _; omega)).trans c1, (h.cell (p := ⟨_, _, none⟩) (by show b < _; omega)).trans d0, (h.cell (p := ⟨_, _, none⟩) (by show b < _; omega)).trans d1⟩)
      clear hx hy hb c0 c1 d0 d1
      go_wp2_with fail
      refine wp_region_held_drew (S := fun wq => wq.cell? ⟨b, off + j * 2, none⟩ = some (.int .i64 x.1) ∧ wq.cell? ⟨b, off + j * 2 + 1, none⟩ = some (.string ⟨x.2.toArray⟩) ∧ wq.cell? ⟨b, off + (j + 1) * 2, none⟩ = some (.int .i64 y.1) ∧ wq.cell? ⟨b, off + (j + 1) * 2 + 1, none⟩ = some (.string ⟨y.2.toArray⟩)) (by kernel_rfl) (HK9.out _ (Below.refl _ _).drew) (fun _ => ?_)
      have hB9 : Below wr.heap.size wr wr.drew := (Below.refl _ _).drew
      refine tk 0 (HK9.out _ hB9) ?_
      try simp only [Act.put, pA, pB, pC]
      refine tk 1 (HK9.out _ hB9) ?_
      try simp only [Act.put, pA, pB, pC]
      refine tk 2 (HK9.out _ hB9) ?_
      try simp only [Act.put, pA, pB, pC]
      refine tk 3 (HK9.out _ hB9) ?_
      try simp only [Act.put, pA, pB, pC]
      refine tk 4 (HK9.out _ hB9) ?_
      try simp only [Act.put, pA, pB, pC]
      refine tk 5 (HK9.out _ hB9) ?_
      try simp only [Act.put, pA, pB, pC]
      refine tk 6 (HK9.out _ hB9) ?_
      try simp only [Act.put, pA, pB, pC]
      refine tk 7 (HK9.out _ hB9) ?_
      try simp only [Act.put, pA, pB, pC]
      refine tk 8 (HK9.out _ hB9) ?_
      try simp only [Act.put, pA, pB, pC]
      refine tk 9 (HK9.out _ hB9) ?_
      try simp only [Act.put, pA, pB, pC]
      refine one_op 10 (by kernel_rfl) rfl (by rfl) (fun K hK => ?_)
      go_simp
      refine (cmpKeys_any x y _).mono ?_
      rintro e w10 ⟨rfl, hb10⟩
      have hB10 : Below wr.heap.size wr w10 := step_below hB9 (Nat.le_refl _) hb10
      clear hb10 hB9
      refine hK _ _ (HK9.out _ hB10) ?_
      try simp only [Act.put, pA, pB, pC]
      clear hK K
      refine tk 11 (HK9.out _ hB10) ?_
      try simp only [Act.put, pA, pB, pC]
      refine wpAnyH_done (by kernel_rfl) ?_ _
      generalize hzz : cmpK x y = z
      have HC := Lib.hid hzz
      clear hzz
      by_cases hz0 : 0 ≤ z
      · have HU : Hid (r = false) := Lib.hid (by rw [← HR.out, decide_eq_false_iff_not]; intro h; have := ascC_at h HX.out.1 HX.out.2 (Nat.lt_succ_self j); rw [HC.out] at this; omega)
        go_wp2
        go_ret
        exact ⟨ret_bool HU.out.symm, HV.out.trans (hB10.mono HV.out.size)⟩
      · have HC2 : Hid (∀ r x y, r < j + 1 → l[r]? = some x → l[r + 1]? = some y → cmpK x y < 0) := Lib.hid (by
          intro r x' y' hr h1 h2
          by_cases e : r = j
          · subst e
            rw [HX.out.1] at h1
            rw [HX.out.2] at h2
            injection h1 with h1
            injection h2 with h2
            subst h1 h2
            rw [HC.out]
            omega
          · exact h0.out r x' y' (by omega) h1 h2)
        go_wp2
        go_roundw
        case rel => exact ⟨j + 1, by go_num, by omega, HC2, HV.out.trans (hB10.mono HV.out.size)⟩
        case measure => simp [intOf]; omega
    · have HU : Hid (r = true) := Lib.hid (by rw [← HR.out, decide_eq_true_iff]; exact ascC_of totK fun r x y h1 h2 => h0.out r x y (by have := (List.getElem?_eq_some_iff.1 h2).1; omega) h1 h2)
      have kn : ¬ ((j : Int) + 1) < (l.length : Int) := by omega
      go_wp2
      go_ret
      exact ⟨ret_bool HU.out.symm, hb⟩
set_option maxRecDepth 100000 in
set_option maxHeartbeats 3200000 in
theorem asc9 (k : Nat) (hP : Hid (∀ (a b : En) (ca cb : List Value) (w : World), ES k w w.heap.size a ca → ES k w w.heap.size b cb → Calls Tryz.prog 104 #[.agg ca.toArray, .agg cb.toArray] w fun e w' => e = .returned (.int .i64 (cmpE a b)) ∧ Below w.heap.size w w')) (A : Option Addr) (c : Nat) (l : List (En)) (w : World) (hl : RowP w w.heap.size 9 (.slice A l.length c) l.length (fun j cs => ∃ x, l[j]? = some x ∧ ES k w w.heap.size x cs)) :
    Calls Tryz.prog 139 #[.slice A l.length c, .func (.func 104) #[] #[]] w fun e w' => e = .returned (.bool (decide (AscC cmpE l))) ∧ Below w.heap.size w w' := by
  have eg := enters_of Tryz.func104 (by kernel_rfl) rfl
  obtain ⟨_, _, _, hln⟩ := hl.form
  unfold maxLen at hln
  have HL := Lib.hid hl
  clear hl
  generalize hrr : decide (AscC cmpE l) = r
  have HR := Lib.hid hrr
  clear hrr
  go_enter Tryz.func139, Tryz.ntmps139
  go_wp2_with fail
  go_loopw [5, 6] (fun i _ wr => ∃ q : Nat, i = .int .i64 ((q : Int) + 1) ∧ (q + 1 ≤ l.length ∨ q = 0) ∧ Hid (∀ r x y, r < q → l[r]? = some x → l[r + 1]? = some y → cmpE x y < 0) ∧ Below w.heap.size w wr) (fun i _ _ => l.length + 1 - (intOf i).toNat)
  case atStart => exact ⟨0, rfl, by omega, Lib.hid (fun r x y h => absurd h (by omega)), Below.refl _ _⟩
  case round =>
    obtain ⟨j, rfl, hj, h0, hb⟩ := hrel
    by_cases hjn : j + 1 < l.length
    · obtain ⟨b, off, cap0, x0, x1, x2, x3, x4, x5, x6, x7, x8, hu, hbH, ⟨x, hx, hv⟩, c0, c1, c2, c3, c4, c5, c6, c7, c8⟩ := (HL.out.on hb (fun _ _ h => h)).at9 (show j < l.length by omega)
      obtain ⟨b', off', cap0', y0, y1, y2, y3, y4, y5, y6, y7, y8, hu', hbH', ⟨y, hy, hv'⟩, d0, d1, d2, d3, d4, d5, d6, d7, d8⟩ := (HL.out.on hb (fun _ _ h => h)).at9 hjn
      injection hu with hA _ hcap
      subst hA hcap
      injection hu' with hA' _ hcap'
      injection hA' with hA'
      injection hA' with hA1 hA2
      subst hA1 hA2 hcap'
      obtain ⟨B01, n01, d01, g1, a1, i1, s1, B11, n11, d11, B21, n21, d21, B31, n31, d31, B41, n41, d41, hf⟩ := hv.form9
      simp only [List.cons.injEq, and_true] at hf
      obtain ⟨rfl, rfl, rfl, rfl, rfl, rfl, rfl, rfl, rfl⟩ := hf
      obtain ⟨B02, n02, d02, g2, a2, i2, s2, B12, n12, d12, B22, n22, d22, B32, n32, d32, B42, n42, d42, hf⟩ := hv'.form9
      simp only [List.cons.injEq, and_true] at hf
      obtain ⟨rfl, rfl, rfl, rfl, rfl, rfl, rfl, rfl, rfl⟩ := hf
      have kn : ((j : Int) + 1) < (l.length : Int) := by omega
      have km : (j : Int) < (l.length : Int) := by omega
      have k0 : (0 : Int) ≤ (j : Int) := by omega
      have k1 : (0 : Int) ≤ (j : Int) + 1 := by omega
      have e1 : ((j : Int) + 1).toNat = j + 1 := by omega
      have e2 : ((j : Int) + 1 - 1) = (j : Int) := by omega
      have e3 : IntKind.i64.wrap (j : Int) = (j : Int) := IntWalk.i64_in _ (by omega)
      have e4 : IntKind.i64.wrap ((j : Int) + 1 - 1) = (j : Int) := by rw [e2, e3]
      have HV := Lib.hid hb
      have HX := Lib.hid (And.intro hx hy)
      have hz := hb.size
      have HK9 : Hid (∀ wq, Below wr.heap.size wr wq → wq.cell? ⟨b, off + j * 9, none⟩ = some (.slice B01 n01 d01) ∧ wq.cell? ⟨b, off + j * 9 + 1, none⟩ = some (.bool g1) ∧ wq.cell? ⟨b, off + j * 9 + 2, none⟩ = some (.int .i64 a1) ∧ wq.cell? ⟨b, off + j * 9 + 3, none⟩ = some (.int .i64 i1) ∧ wq.cell? ⟨b, off + j * 9 + 4, none⟩ = some (.string s1) ∧ wq.cell? ⟨b, off + j * 9 + 5, none⟩ = some (.slice B11 n11 d11) ∧ wq.cell? ⟨b, off + j * 9 + 6, none⟩ = some (.slice B21 n21 d21) ∧ wq.cell? ⟨b, off + j * 9 + 7, none⟩ = some (.slice B31 n31 d31) ∧ wq.cell? ⟨b, off + j * 9 + 8, none⟩ = some (.slice B41 n41 d41) ∧ wq.cell? ⟨b, off + (j + 1) * 9, none⟩ = some (.slice B02 n02 d02) ∧ wq.cell? ⟨b, off + (j + 1) * 9 + 1, none⟩ = some (.bool g2) ∧ wq.cell? ⟨b, off + (j + 1) * 9 + 2, none⟩ = some (.int .i64 a2) ∧ wq.cell? ⟨b, off + (j + 1) * 9 + 3, none⟩ = some (.int .i64 i2) ∧ wq.cell? ⟨b, off + (j + 1) * 9 + 4, none⟩ = some (.string s2) ∧ wq.cell? ⟨b, off + (j + 1) * 9 + 5, none⟩ = some (.slice B12 n12 d12) ∧ wq.cell? ⟨b, off + (j + 1) * 9 + 6, none⟩ = some (.slice B22 n22 d22) ∧ wq.cell? ⟨b, off + (j + 1) * 9 + 7, none⟩ = some (.slice B32 n32 d32) ∧ wq.cell? ⟨b, off + (j + 1) * 9 + 8, none⟩ = some (.slice B42 n42 d42)) := Lib.hid (fun wq h => ⟨(h.cell (p := ⟨_, _, none⟩) (by show b < _; omega)).trans c0, (h.cell (p := ⟨_, _, none⟩) (by show b < _; omega)).trans c1, (h.cell (p := ⟨_, _, none⟩) (by show b < _; omega)).trans c2, (h.cell (p := ⟨_, _, none⟩) (by show b < _; omega)).trans c3, (h.cell (p := ⟨_, _, none⟩) (by show b < _; omega)).trans c4, (h.cell (p := ⟨_, _, none⟩) (by show b < _; omega)).trans c5, (h.cell (p := ⟨_, _, none⟩) (by show b < _; omega)).trans c6, (h.cell (p := ⟨_, _, none⟩) (by show b < _; omega)).trans c7, (h.cell (p := ⟨_, _, none⟩) (by show b < _; omega)).trans c8, (h.cell (p := ⟨_, _, none⟩) (by show b < _; omega)).trans d0, (h.cell (p := ⟨_, _, none⟩) (by show b < _; omega)).trans d1, (h.cell (p := ⟨_, _, none⟩) (by show b < _; omega)).trans d2, (h.cell (p := ⟨_, _, none⟩) (by show b < _; omega)).trans d3, (h.cell (p := ⟨_, _, none⟩) (by show b < _; omega)).trans d4, (h.cell (p := ⟨_, _, none⟩) (by show b < _; omega)).trans d5, (h.cell (p := ⟨_, _, none⟩) (by show b < _; omega)).trans d6, (h.cell (p := ⟨_, _, none⟩) (by show b < _; omega)).trans d7, (h.cell (p := ⟨_, _, none⟩) (by show b < _; omega)).trans d8⟩)
      have HVX : Hid (∀ wq, Below wr.heap.size wr wq → ES k wq wq.heap.size x [.slice B01 n01 d01, .bool g1, .int .i64 a1, .int .i64 i1, .string s1, .slice B11 n11 d11, .slice B21 n21 d21, .slice B31 n31 d31, .slice B41 n41 d41]) := Lib.hid (fun wq h => ES.up (Nat.le_trans hb.size h.size) (Nat.le_refl _) (ES.on (hb.trans (h.mono hb.size)) hv))
      have HVY : Hid (∀ wq, Below wr.heap.size wr wq → ES k wq wq.heap.size y [.slice B02 n02 d02, .bool g2, .int .i64 a2, .int .i64 i2, .string s2, .slice B12 n12 d12, .slice B22 n22 d22, .slice B32 n32 d32, .slice B42 n42 d42]) := Lib.hid (fun wq h => ES.up (Nat.le_trans hb.size h.size) (Nat.le_refl _) (ES.on (hb.trans (h.mono hb.size)) hv'))
      clear hx hy hb hv hv' c0 c1 c2 c3 c4 c5 c6 c7 c8 d0 d1 d2 d3 d4 d5 d6 d7 d8
      go_wp2_with fail
      refine wp_region_held_drew (S := fun wq => wq.cell? ⟨b, off + j * 9, none⟩ = some (.slice B01 n01 d01) ∧ wq.cell? ⟨b, off + j * 9 + 1, none⟩ = some (.bool g1) ∧ wq.cell? ⟨b, off + j * 9 + 2, none⟩ = some (.int .i64 a1) ∧ wq.cell? ⟨b, off + j * 9 + 3, none⟩ = some (.int .i64 i1) ∧ wq.cell? ⟨b, off + j * 9 + 4, none⟩ = some (.string s1) ∧ wq.cell? ⟨b, off + j * 9 + 5, none⟩ = some (.slice B11 n11 d11) ∧ wq.cell? ⟨b, off + j * 9 + 6, none⟩ = some (.slice B21 n21 d21) ∧ wq.cell? ⟨b, off + j * 9 + 7, none⟩ = some (.slice B31 n31 d31) ∧ wq.cell? ⟨b, off + j * 9 + 8, none⟩ = some (.slice B41 n41 d41) ∧ wq.cell? ⟨b, off + (j + 1) * 9, none⟩ = some (.slice B02 n02 d02) ∧ wq.cell? ⟨b, off + (j + 1) * 9 + 1, none⟩ = some (.bool g2) ∧ wq.cell? ⟨b, off + (j + 1) * 9 + 2, none⟩ = some (.int .i64 a2) ∧ wq.cell? ⟨b, off + (j + 1) * 9 + 3, none⟩ = some (.int .i64 i2) ∧ wq.cell? ⟨b, off + (j + 1) * 9 + 4, none⟩ = some (.string s2) ∧ wq.cell? ⟨b, off + (j + 1) * 9 + 5, none⟩ = some (.slice B12 n12 d12) ∧ wq.cell? ⟨b, off + (j + 1) * 9 + 6, none⟩ = some (.slice B22 n22 d22) ∧ wq.cell? ⟨b, off + (j + 1) * 9 + 7, none⟩ = some (.slice B32 n32 d32) ∧ wq.cell? ⟨b, off + (j + 1) * 9 + 8, none⟩ = some (.slice B42 n42 d42)) (by kernel_rfl) (HK9.out _ (Below.refl _ _).drew) (fun _ => ?_)
      have hB9 : Below wr.heap.size wr wr.drew := (Below.refl _ _).drew
      refine tk 0 (HK9.out _ hB9) ?_
      try simp only [Act.put, pA, pB, pC]
      refine tk 1 (HK9.out _ hB9) ?_
      try simp only [Act.put, pA, pB, pC]
      refine tk 2 (HK9.out _ hB9) ?_
      try simp only [Act.put, pA, pB, pC]
      refine tk 3 (HK9.out _ hB9) ?_
      try simp only [Act.put, pA, pB, pC]
      refine tk 4 (HK9.out _ hB9) ?_
      try simp only [Act.put, pA, pB, pC]
      refine tk 5 (HK9.out _ hB9) ?_
      try simp only [Act.put, pA, pB, pC]
      refine tk 6 (HK9.out _ hB9) ?_
      try simp only [Act.put, pA, pB, pC]
      refine tk 7 (HK9.out _ hB9) ?_
      try simp only [Act.put, pA, pB, pC]
      refine tk 8 (HK9.out _ hB9) ?_
      try simp only [Act.put, pA, pB, pC]
      refine tk 9 (HK9.out _ hB9) ?_
      try simp only [Act.put, pA, pB, pC]
      refine one_op 10 (by kernel_rfl) rfl (by rfl) (fun K hK => ?_)
      go_simp
      refine (hP.out x y _ _ _ (HVX.out _ hB9) (HVY.out _ hB9)).mono ?_
      rintro e w10 ⟨rfl, hb10⟩
      have hB10 : Below wr.heap.size wr w10 := step_below hB9 (Nat.le_refl _) hb10
      clear hb10 hB9
      refine hK _ _ (HK9.out _ hB10) ?_
      try simp only [Act.put, pA, pB, pC]
      clear hK K
      refine tk 11 (HK9.out _ hB10) ?_
      try simp only [Act.put, pA, pB, pC]
      refine wpAnyH_done (by kernel_rfl) ?_ _
      generalize hzz : cmpE x y = z
      have HC := Lib.hid hzz
      clear hzz
      by_cases hz0 : 0 ≤ z
      · have HU : Hid (r = false) := Lib.hid (by rw [← HR.out, decide_eq_false_iff_not]; intro h; have := ascC_at h HX.out.1 HX.out.2 (Nat.lt_succ_self j); rw [HC.out] at this; omega)
        go_wp2
        go_ret
        exact ⟨ret_bool HU.out.symm, HV.out.trans (hB10.mono HV.out.size)⟩
      · have HC2 : Hid (∀ r x y, r < j + 1 → l[r]? = some x → l[r + 1]? = some y → cmpE x y < 0) := Lib.hid (by
          intro r x' y' hr h1 h2
          by_cases e : r = j
          · subst e
            rw [HX.out.1] at h1
            rw [HX.out.2] at h2
            injection h1 with h1
            injection h2 with h2
            subst h1 h2
            rw [HC.out]
            omega
          · exact h0.out r x' y' (by omega) h1 h2)
        go_wp2
        go_roundw
        case rel => exact ⟨j + 1, by go_num, by omega, HC2, HV.out.trans (hB10.mono HV.out.size)⟩
        case measure => simp [intOf]; omega
    · have HU : Hid (r = true) := Lib.hid (by rw [← HR.out, decide_eq_true_iff]; exact ascC_of totE fun r x y h1 h2 => h0.out r x y (by have := (List.getElem?_eq_some_iff.1 h2).1; omega) h1 h2)
      have kn : ¬ ((j : Int) + 1) < (l.length : Int) := by omega
      go_wp2
      go_ret
      exact ⟨ret_bool HU.out.symm, hb⟩
end Go.Proofs.YtjfknigiehggkaaGreat
