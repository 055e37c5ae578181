/- What ascending returns at entries, keys and texts. -/
import Derived.Test.YtcjgaohblaidjaaGreatDoorVb01
import Derived.Test.YtcjgaohblaidjaaGreatDoorVb06
import Derived.Test.YtcjgaohblaidjaaGreatDoorVb07
namespace Go.Proofs.YtcjgaohblaidjaaGreatDoor
open Go Go.RowKit
theorem ascC_at {α : Type} {c : α → α → Int} {l : List α} (h : AscC c l) {i j : Nat} {x y : α} (hx : l[i]? = some x) (hy : l[j]? = some y) (hij : i < j) : c x y < 0 := by
 have := List.pairwise_iff_getElem.1 h i j (List.getElem?_eq_some_iff.1 hx).1 (List.getElem?_eq_some_iff.1 hy).1 hij
 rwa [(List.getElem?_eq_some_iff.1 hx).2, (List.getElem?_eq_some_iff.1 hy).2] at this
theorem ascC_of {α : Type} {c : α → α → Int} (T : Tot c) : ∀ {l : List α}, (∀ r x y, l[r]? = some x → l[r + 1]? = some y → c x y < 0) → AscC c l
 | [], _ => List.Pairwise.nil
 | [a], _ => List.pairwise_cons.2 ⟨fun y hy => by simp at hy, List.Pairwise.nil⟩
 | a :: b :: s, h => by
  have h1 : AscC c (b :: s) := ascC_of T fun r x y hx hy => h (r + 1) x y (by simpa using hx) (by simpa using hy)
  have h2 : c a b < 0 := h 0 a b rfl rfl
  refine List.pairwise_cons.2 ⟨fun y hy => ?_, h1⟩
  rcases List.mem_cons.1 hy with rfl | hy
  · exact h2
  · exact T.trans a b y h2 ((List.pairwise_cons.1 h1).1 y hy)
theorem strCmpB_any (a b : List UInt8) (w : World) : Calls Tryz.prog 112 #[.string ⟨a.toArray⟩, .string ⟨b.toArray⟩] w fun e w' => e = .returned (.int .i64 (cmpT a b)) ∧ Below w.heap.size w w' := by
 refine (strCmp_any ⟨a.toArray⟩ ⟨b.toArray⟩ w).mono ?_
 rintro e w' ⟨rfl, rfl⟩
 exact ⟨rfl, Below.refl _ _⟩
set_option maxRecDepth 100000 in
set_option maxHeartbeats 3200000 in
theorem asc1 (A : Option Addr) (c : Nat) (l : List (List UInt8)) (w : World) (hl : RowP w w.heap.size 1 (.slice A l.length c) l.length (fun j cs => ∃ x, l[j]? = some x ∧ cs = [.string ⟨x.toArray⟩] ∧ x.length ≤ maxLen)) :
  Calls Tryz.prog 111 #[.slice A l.length c, .func (.func 112) #[] #[]] w fun e w' => e = .returned (.bool (decide (AscC cmpT l))) ∧ Below w.heap.size w w' := by
 have eg := enters_of Tryz.func112 (by kernel_rfl) rfl
 obtain ⟨_, _, _, hln⟩ := hl.form
 unfold maxLen at hln
 have HL := Lib.hid hl
 clear hl
 generalize hrr : decide (AscC cmpT l) = r
 have HR := Lib.hid hrr
 clear hrr
 go_enter Tryz.func111, Tryz.ntmps111
 go_wp2_with fail
 go_loopw [5, 6] (fun i _ wr => ∃ q : Nat, i = .int .i64 ((q : Int) + 1) ∧ (q + 1 ≤ l.length ∨ q = 0) ∧ Hid (∀ r x y, r < q → l[r]? = some x → l[r + 1]? = some y → cmpT x y < 0) ∧ Below w.heap.size w wr) (fun i _ _ => l.length + 1 - (intOf i).toNat)
 case atStart => exact ⟨0, rfl, by omega, Lib.hid (fun r x y h => absurd h (by omega)), Below.refl _ _⟩
 case round =>
  obtain ⟨j, rfl, hj, h0, hb⟩ := hrel
  by_cases hjn : j + 1 < l.length
  ·
   obtain ⟨b, off, cap0, x0, hu, hbH, ⟨x, hx, hv⟩, c0⟩ := (HL.out.on hb (fun _ _ h => h)).at1 (show j < l.length by omega)
   obtain ⟨b', off', cap0', y0, hu', hbH', ⟨y, hy, hv'⟩, d0⟩ := (HL.out.on hb (fun _ _ h => h)).at1 hjn
   injection hu with hA _ hcap
   subst hA hcap
   injection hu' with hA' _ hcap'
   injection hA' with hA'
   injection hA' with hA1 hA2
   subst hA1 hA2 hcap'
   obtain ⟨hf, -⟩ := hv
   simp only [List.cons.injEq, and_true] at hf
   obtain rfl := hf
   obtain ⟨hf, -⟩ := hv'
   simp only [List.cons.injEq, and_true] at hf
   obtain rfl := hf
   have kn : ((j : Int) + 1) < (l.length : Int) := by omega
   have km : (j : Int) < (l.length : Int) := by omega
   have k0 : (0 : Int) ≤ (j : Int) := by omega
   have k1 : (0 : Int) ≤ (j : Int) + 1 := by omega
   have e1 : ((j : Int) + 1).toNat = j + 1 := by omega
   have e2 : ((j : Int) + 1 - 1) = (j : Int) := by omega
   have e3 : IntKind.i64.wrap (j : Int) = (j : Int) := IntWalk.i64_in _ (by omega)
   have e4 : IntKind.i64.wrap ((j : Int) + 1 - 1) = (j : Int) := by rw [e2, e3]
   have HV := Lib.hid hb
   have HX := Lib.hid (And.intro hx hy)
   have hz := hb.size
   have HK9 : Hid (∀ wq, Below wr.heap.size wr wq → wq.cell? ⟨b, off + j, none⟩ = some (.string ⟨x.toArray⟩) ∧ wq.cell? ⟨b, off + (j + 1), none⟩ = some (.string ⟨y.toArray⟩)) := Lib.hid (fun wq h => ⟨(h.cell (p := ⟨_, _, none⟩) (by show b < _; omega)).trans c0, (h.cell (p := ⟨_, _, none⟩) (by show b < _; omega)).trans d0⟩)
   clear hx hy hb c0 d0
   go_wp2_with fail
   refine wp_region_held_drew (S := fun wq => wq.cell? ⟨b, off + j, none⟩ = some (.string ⟨x.toArray⟩) ∧ wq.cell? ⟨b, off + (j + 1), none⟩ = some (.string ⟨y.toArray⟩)) (by kernel_rfl) (HK9.out _ (Below.refl _ _).drew) (fun _ => ?_)
   have hB9 : Below wr.heap.size wr wr.drew := (Below.refl _ _).drew
   refine tk 0 (HK9.out _ hB9) ?_
   try simp only [Act.put, pA, pB, pC]
   refine tk 1 (HK9.out _ hB9) ?_
   try simp only [Act.put, pA, pB, pC]
   refine tk 2 (HK9.out _ hB9) ?_
   try simp only [Act.put, pA, pB, pC]
   refine tk 3 (HK9.out _ hB9) ?_
   try simp only [Act.put, pA, pB, pC]
   refine tk 4 (HK9.out _ hB9) ?_
   try simp only [Act.put, pA, pB, pC]
   refine tk 5 (HK9.out _ hB9) ?_
   try simp only [Act.put, pA, pB, pC]
   refine tk 6 (HK9.out _ hB9) ?_
   try simp only [Act.put, pA, pB, pC]
   refine tk 7 (HK9.out _ hB9) ?_
   try simp only [Act.put, pA, pB, pC]
   refine tk 8 (HK9.out _ hB9) ?_
   try simp only [Act.put, pA, pB, pC]
   refine tk 9 (HK9.out _ hB9) ?_
   try simp only [Act.put, pA, pB, pC]
   refine one_op 10 (by kernel_rfl) rfl (by rfl) (fun K hK => ?_)
   go_simp
   refine (strCmpB_any x y _).mono ?_
   rintro e w10 ⟨rfl, hb10⟩
   have hB10 : Below wr.heap.size wr w10 := step_below hB9 (Nat.le_refl _) hb10
   clear hb10 hB9
   refine hK _ _ (HK9.out _ hB10) ?_
   try simp only [Act.put, pA, pB, pC]
   clear hK K
   refine tk 11 (HK9.out _ hB10) ?_
   try simp only [Act.put, pA, pB, pC]
   refine wpAnyH_done (by kernel_rfl) ?_ _
   generalize hzz : cmpT x y = z
   have HC := Lib.hid hzz
   clear hzz
   by_cases hz0 : 0 ≤ z
   ·
    have HU : Hid (r = false) := Lib.hid (by rw [← HR.out, decide_eq_false_iff_not]; intro h; have := ascC_at h HX.out.1 HX.out.2 (Nat.lt_succ_self j); rw [HC.out] at this; omega)
    go_wp2
    go_ret
    exact ⟨ret_bool HU.out.symm, HV.out.trans (hB10.mono HV.out.size)⟩
   ·
    have HC2 : Hid (∀ r x y, r < j + 1 → l[r]? = some x → l[r + 1]? = some y → cmpT x y < 0) := Lib.hid (by
     intro r x' y' hr h1 h2
     by_cases e : r = j
     ·
      subst e
      rw [HX.out.1] at h1
      rw [HX.out.2] at h2
      injection h1 with h1
      injection h2 with h2
      subst h1 h2
      rw [HC.out]
      omega
     · exact h0.out r x' y' (by omega) h1 h2)
    go_wp2
    go_roundw
    case rel => exact ⟨j + 1, by go_num, by omega, HC2, HV.out.trans (hB10.mono HV.out.size)⟩
    case measure => simp [intOf]; omega
  ·
   have HU : Hid (r = true) := Lib.hid (by rw [← HR.out, decide_eq_true_iff]; exact ascC_of totT fun r x y h1 h2 => h0.out r x y (by have := (List.getElem?_eq_some_iff.1 h2).1; omega) h1 h2)
   have kn : ¬ ((j : Int) + 1) < (l.length : Int) := by omega
   go_wp2
   go_ret
   exact ⟨ret_bool HU.out.symm, hb⟩
set_option maxRecDepth 100000 in
set_option maxHeartbeats 3200000 in
theorem asc2 (A : Option Addr) (c : Nat) (l : List (Int × List UInt8)) (w : World) (hl : RowP w w.heap.size 2 (.slice A l.length c) l.length (fun j cs => ∃ x, l[j]? = some x ∧ cs = [.int .i64 x.1, .string ⟨x.2.toArray⟩] ∧ (Lit.int .i64 x.1).wf = true ∧ x.2.length ≤ maxLen)) :
  Calls Tryz.prog 144 #[.slice A l.length c, .func (.func 145) #[] #[]] w fun e w' => e = .returned (.bool (decide (AscC cmpK l))) ∧ Below w.heap.size w w' := by
 have eg := enters_of Tryz.func145 (by kernel_rfl) rfl
 obtain ⟨_, _, _, hln⟩ := hl.form
 unfold maxLen at hln
 have HL := Lib.hid hl
 clear hl
 generalize hrr : decide (AscC cmpK l) = r
 have HR := Lib.hid hrr
 clear hrr
 go_enter Tryz.func144, Tryz.ntmps144
 go_wp2_with fail
 go_loopw [5, 6] (fun i _ wr => ∃ q : Nat, i = .int .i64 ((q : Int) + 1) ∧ (q + 1 ≤ l.length ∨ q = 0) ∧ Hid (∀ r x y, r < q → l[r]? = some x → l[r + 1]? = some y → cmpK x y < 0) ∧ Below w.heap.size w wr) (fun i _ _ => l.length + 1 - (intOf i).toNat)
 case atStart => exact ⟨0, rfl, by omega, Lib.hid (fun r x y h => absurd h (by omega)), Below.refl _ _⟩
 case round =>
  obtain ⟨j, rfl, hj, h0, hb⟩ := hrel
  by_cases hjn : j + 1 < l.length
  ·
   obtain ⟨b, off, cap0, x0, x1, hu, hbH, ⟨x, hx, hv⟩, c0, c1⟩ := (HL.out.on hb (fun _ _ h => h)).at2 (show j < l.length by omega)
   obtain ⟨b', off', cap0', y0, y1, hu', hbH', ⟨y, hy, hv'⟩, d0, d1⟩ := (HL.out.on hb (fun _ _ h => h)).at2 hjn
   injection hu with hA _ hcap
   subst hA hcap
   injection hu' with hA' _ hcap'
   injection hA' with hA'
   injection hA' with hA1 hA2
   subst hA1 hA2 hcap'
   obtain ⟨hf, -, -⟩ := hv
   simp only [List.cons.injEq, and_true] at hf
   obtain ⟨rfl, rfl⟩ := hf
   obtain ⟨hf, -, -⟩ := hv'
   simp only [List.cons.injEq, and_true] at hf
   obtain ⟨rfl, rfl⟩ := hf
   have kn : ((j : Int) + 1) < (l.length : Int) := by omega
   have km : (j : Int) < (l.length : Int) := by omega
   have k0 : (0 : Int) ≤ (j : Int) := by omega
   have k1 : (0 : Int) ≤ (j : Int) + 1 := by omega
   have e1 : ((j : Int) + 1).toNat = j + 1 := by omega
   have e2 : ((j : Int) + 1 - 1) = (j : Int) := by omega
   have e3 : IntKind.i64.wrap (j : Int) = (j : Int) := IntWalk.i64_in _ (by omega)
   have e4 : IntKind.i64.wrap ((j : Int) + 1 - 1) = (j : Int) := by rw [e2, e3]
   have HV := Lib.hid hb
   have HX := Lib.hid (And.intro hx hy)
   have hz := hb.size
   have HK9 : Hid (∀ wq, Below wr.heap.size wr wq → wq.cell? ⟨b, off + j * 2, none⟩ = some (.int .i64 x.1) ∧ wq.cell? ⟨b, off + j * 2 + 1, none⟩ = some (.string ⟨x.2.toArray⟩) ∧ wq.cell? ⟨b, off + (j + 1) * 2, none⟩ = some (.int .i64 y.1) ∧ wq.cell? ⟨b, off + (j + 1) * 2 + 1, none⟩ = some (.string ⟨y.2.toArray⟩)) := Lib.hid (fun wq h => ⟨(h.cell (p := ⟨_, _, none⟩) (by show b < _; omega)).trans c0, (h.cell (p := ⟨_, _, none⟩) (by show b < _; omega)).trans c1, (h.cell (p := ⟨_, _, none⟩) (by show b < _; omega)).trans d0, (h.cell (p := ⟨_, _, none⟩) (by show b < _; omega)).trans d1⟩)
   clear hx hy hb c0 c1 d0 d1
   go_wp2_with fail
   refine wp_region_held_drew (S := fun wq => wq.cell? ⟨b, off + j * 2, none⟩ = some (.int .i64 x.1) ∧ wq.cell? ⟨b, off + j * 2 + 1, none⟩ = some (.string ⟨x.2.toArray⟩) ∧ wq.cell? ⟨b, off + (j + 1) * 2, none⟩ = some (.int .i64 y.1) ∧ wq.cell? ⟨b, off + (j + 1) * 2 + 1, none⟩ = some (.string ⟨y.2.toArray⟩)) (by kernel_rfl) (HK9.out _ (Below.refl _ _).drew) (fun _ => ?_)
   have hB9 : Below wr.heap.size wr wr.drew := (Below.refl _ _).drew
   refine tk 0 (HK9.out _ hB9) ?_
   try simp only [Act.put, pA, pB, pC]
   refine tk 1 (HK9.out _ hB9) ?_
   try simp only [Act.put, pA, pB, pC]
   refine tk 2 (HK9.out _ hB9) ?_
   try simp only [Act.put, pA, pB, pC]
   refine tk 3 (HK9.out _ hB9) ?_
   try simp only [Act.put, pA, pB, pC]
   refine tk 4 (HK9.out _ hB9) ?_
   try simp only [Act.put, pA, pB, pC]
   refine tk 5 (HK9.out _ hB9) ?_
   try simp only [Act.put, pA, pB, pC]
   refine tk 6 (HK9.out _ hB9) ?_
   try simp only [Act.put, pA, pB, pC]
   refine tk 7 (HK9.out _ hB9) ?_
   try simp only [Act.put, pA, pB, pC]
   refine tk 8 (HK9.out _ hB9) ?_
   try simp only [Act.put, pA, pB, pC]
   refine tk 9 (HK9.out _ hB9) ?_
   try simp only [Act.put, pA, pB, pC]
   refine one_op 10 (by kernel_rfl) rfl (by rfl) (fun K hK => ?_)
   go_simp
   refine (cmpKeys_any x y _).mono ?_
   rintro e w10 ⟨rfl, hb10⟩
   have hB10 : Below wr.heap.size wr w10 := step_below hB9 (Nat.le_refl _) hb10
   clear hb10 hB9
   refine hK _ _ (HK9.out _ hB10) ?_
   try simp only [Act.put, pA, pB, pC]
   clear hK K
   refine tk 11 (HK9.out _ hB10) ?_
   try simp only [Act.put, pA, pB, pC]
   refine wpAnyH_done (by kernel_rfl) ?_ _
   generalize hzz : cmpK x y = z
   have HC := Lib.hid hzz
   clear hzz
   by_cases hz0 : 0 ≤ z
   ·
    have HU : Hid (r = false) := Lib.hid (by rw [← HR.out, decide_eq_false_iff_not]; intro h; have := ascC_at h HX.out.1 HX.out.2 (Nat.lt_succ_self j); rw [HC.out] at this; omega)
    go_wp2
    go_ret
    exact ⟨ret_bool HU.out.symm, HV.out.trans (hB10.mono HV.out.size)⟩
   ·
    have HC2 : Hid (∀ r x y, r < j + 1 → l[r]? = some x → l[r + 1]? = some y → cmpK x y < 0) := Lib.hid (by
     intro r x' y' hr h1 h2
     by_cases e : r = j
     ·
      subst e
      rw [HX.out.1] at h1
      rw [HX.out.2] at h2
      injection h1 with h1
      injection h2 with h2
      subst h1 h2
      rw [HC.out]
      omega
     · exact h0.out r x' y' (by omega) h1 h2)
    go_wp2
    go_roundw
    case rel => exact ⟨j + 1, by go_num, by omega, HC2, HV.out.trans (hB10.mono HV.out.size)⟩
    case measure => simp [intOf]; omega
  ·
   have HU : Hid (r = true) := Lib.hid (by rw [← HR.out, decide_eq_true_iff]; exact ascC_of totK fun r x y h1 h2 => h0.out r x y (by have := (List.getElem?_eq_some_iff.1 h2).1; omega) h1 h2)
   have kn : ¬ ((j : Int) + 1) < (l.length : Int) := by omega
   go_wp2
   go_ret
   exact ⟨ret_bool HU.out.symm, hb⟩
set_option maxRecDepth 100000 in
set_option maxHeartbeats 3200000 in
theorem asc9 (k : Nat) (hP : Hid (∀ (a b : En) (ca cb : List Value) (w : World), ES k w w.heap.size a ca → ES k w w.heap.size b cb → Calls Tryz.prog 150 #[.agg ca.toArray, .agg cb.toArray] w fun e w' => e = .returned (.int .i64 (cmpE a b)) ∧ Below w.heap.size w w')) (A : Option Addr) (c : Nat) (l : List (En)) (w : World) (hl : RowP w w.heap.size 9 (.slice A l.length c) l.length (fun j cs => ∃ x, l[j]? = some x ∧ ES k w w.heap.size x cs)) :
  Calls Tryz.prog 149 #[.slice A l.length c, .func (.func 150) #[] #[]] w fun e w' => e = .returned (.bool (decide (AscC cmpE l))) ∧ Below w.heap.size w w' := by
 have eg := enters_of Tryz.func150 (by kernel_rfl) rfl
 obtain ⟨_, _, _, hln⟩ := hl.form
 unfold maxLen at hln
 have HL := Lib.hid hl
 clear hl
 generalize hrr : decide (AscC cmpE l) = r
 have HR := Lib.hid hrr
 clear hrr
 go_enter Tryz.func149, Tryz.ntmps149
 go_wp2_with fail
 go_loopw [5, 6] (fun i _ wr => ∃ q : Nat, i = .int .i64 ((q : Int) + 1) ∧ (q + 1 ≤ l.length ∨ q = 0) ∧ Hid (∀ r x y, r < q → l[r]? = some x → l[r + 1]? = some y → cmpE x y < 0) ∧ Below w.heap.size w wr) (fun i _ _ => l.length + 1 - (intOf i).toNat)
 case atStart => exact ⟨0, rfl, by omega, Lib.hid (fun r x y h => absurd h (by omega)), Below.refl _ _⟩
 case round =>
  obtain ⟨j, rfl, hj, h0, hb⟩ := hrel
  by_cases hjn : j + 1 < l.length
  ·
   obtain ⟨b, off, cap0, x0, x1, x2, x3, x4, x5, x6, x7, x8, hu, hbH, ⟨x, hx, hv⟩, c0, c1, c2, c3, c4, c5, c6, c7, c8⟩ := (HL.out.on hb (fun _ _ h => h)).at9 (show j < l.length by omega)
   obtain ⟨b', off', cap0', y0, y1, y2, y3, y4, y5, y6, y7, y8, hu', hbH', ⟨y, hy, hv'⟩, d0, d1, d2, d3, d4, d5, d6, d7, d8⟩ := (HL.out.on hb (fun _ _ h => h)).at9 hjn
   injection hu with hA _ hcap
   subst hA hcap
   injection hu' with hA' _ hcap'
   injection hA' with hA'
   injection hA' with hA1 hA2
   subst hA1 hA2 hcap'
   obtain ⟨B01, n01, d01, g1, a1, i1, s1, B11, n11, d11, B21, n21, d21, B31, n31, d31, B41, n41, d41, hf⟩ := hv.form9
   simp only [List.cons.injEq, and_true] at hf
   obtain ⟨rfl, rfl, rfl, rfl, rfl, rfl, rfl, rfl, rfl⟩ := hf
   obtain ⟨B02, n02, d02, g2, a2, i2, s2, B12, n12, d12, B22, n22, d22, B32, n32, d32, B42, n42, d42, hf⟩ := hv'.form9
   simp only [List.cons.injEq, and_true] at hf
   obtain ⟨rfl, rfl, rfl, rfl, rfl, rfl, rfl, rfl, rfl⟩ := hf
   have kn : ((j : Int) + 1) < (l.length : Int) := by omega
   have km : (j : Int) < (l.length : Int) := by omega
   have k0 : (0 : Int) ≤ (j : Int) := by omega
   have k1 : (0 : Int) ≤ (j : Int) + 1 := by omega
   have e1 : ((j : Int) + 1).toNat = j + 1 := by omega
   have e2 : ((j : Int) + 1 - 1) = (j : Int) := by omega
   have e3 : IntKind.i64.wrap (j : Int) = (j : Int) := IntWalk.i64_in _ (by omega)
   have e4 : IntKind.i64.wrap ((j : Int) + 1 - 1) = (j : Int) := by rw [e2, e3]
   have HV := Lib.hid hb
   have HX := Lib.hid (And.intro hx hy)
   have hz := hb.size
   have HK9 : Hid (∀ wq, Below wr.heap.size wr wq → wq.cell? ⟨b, off + j * 9, none⟩ = some (.slice B01 n01 d01) ∧ wq.cell? ⟨b, off + j * 9 + 1, none⟩ = some (.bool g1) ∧ wq.cell? ⟨b, off + j * 9 + 2, none⟩ = some (.int .i64 a1) ∧ wq.cell? ⟨b, off + j * 9 + 3, none⟩ = some (.int .i64 i1) ∧ wq.cell? ⟨b, off + j * 9 + 4, none⟩ = some (.string s1) ∧ wq.cell? ⟨b, off + j * 9 + 5, none⟩ = some (.slice B11 n11 d11) ∧ wq.cell? ⟨b, off + j * 9 + 6, none⟩ = some (.slice B21 n21 d21) ∧ wq.cell? ⟨b, off + j * 9 + 7, none⟩ = some (.slice B31 n31 d31) ∧ wq.cell? ⟨b, off + j * 9 + 8, none⟩ = some (.slice B41 n41 d41) ∧ wq.cell? ⟨b, off + (j + 1) * 9, none⟩ = some (.slice B02 n02 d02) ∧ wq.cell? ⟨b, off + (j + 1) * 9 + 1, none⟩ = some (.bool g2) ∧ wq.cell? ⟨b, off + (j + 1) * 9 + 2, none⟩ = some (.int .i64 a2) ∧ wq.cell? ⟨b, off + (j + 1) * 9 + 3, none⟩ = some (.int .i64 i2) ∧ wq.cell? ⟨b, off + (j + 1) * 9 + 4, none⟩ = some (.string s2) ∧ wq.cell? ⟨b, off + (j + 1) * 9 + 5, none⟩ = some (.slice B12 n12 d12) ∧ wq.cell? ⟨b, off + (j + 1) * 9 + 6, none⟩ = some (.slice B22 n22 d22) ∧ wq.cell? ⟨b, off + (j + 1) * 9 + 7, none⟩ = some (.slice B32 n32 d32) ∧ wq.cell? ⟨b, off + (j + 1) * 9 + 8, none⟩ = some (.slice B42 n42 d42)) := Lib.hid (fun wq h => ⟨(h.cell (p := ⟨_, _, none⟩) (by show b < _; omega)).trans c0, (h.cell (p := ⟨_, _, none⟩) (by show b < _; omega)).trans c1, (h.cell (p := ⟨_, _, none⟩) (by show b < _; omega)).trans c2, (h.cell (p := ⟨_, _, none⟩) (by show b < _; omega)).trans c3, (h.cell (p := ⟨_, _, none⟩) (by show b < _; omega)).trans c4, (h.cell (p := ⟨_, _, none⟩) (by show b < _; omega)).trans c5, (h.cell (p := ⟨_, _, none⟩) (by show b < _; omega)).trans c6, (h.cell (p := ⟨_, _, none⟩) (by show b < _; omega)).trans c7, (h.cell (p := ⟨_, _, none⟩) (by show b < _; omega)).trans c8, (h.cell (p := ⟨_, _, none⟩) (by show b < _; omega)).trans d0, (h.cell (p := ⟨_, _, none⟩) (by show b < _; omega)).trans d1, (h.cell (p := ⟨_, _, none⟩) (by show b < _; omega)).trans d2, (h.cell (p := ⟨_, _, none⟩) (by show b < _; omega)).trans d3, (h.cell (p := ⟨_, _, none⟩) (by show b < _; omega)).trans d4, (h.cell (p := ⟨_, _, none⟩) (by show b < _; omega)).trans d5, (h.cell (p := ⟨_, _, none⟩) (by show b < _; omega)).trans d6, (h.cell (p := ⟨_, _, none⟩) (by show b < _; omega)).trans d7, (h.cell (p := ⟨_, _, none⟩) (by show b < _; omega)).trans d8⟩)
   have HVX : Hid (∀ wq, Below wr.heap.size wr wq → ES k wq wq.heap.size x [.slice B01 n01 d01, .bool g1, .int .i64 a1, .int .i64 i1, .string s1, .slice B11 n11 d11, .slice B21 n21 d21, .slice B31 n31 d31, .slice B41 n41 d41]) := Lib.hid (fun wq h => ES.up (Nat.le_trans hb.size h.size) (Nat.le_refl _) (ES.on (hb.trans (h.mono hb.size)) hv))
   have HVY : Hid (∀ wq, Below wr.heap.size wr wq → ES k wq wq.heap.size y [.slice B02 n02 d02, .bool g2, .int .i64 a2, .int .i64 i2, .string s2, .slice B12 n12 d12, .slice B22 n22 d22, .slice B32 n32 d32, .slice B42 n42 d42]) := Lib.hid (fun wq h => ES.up (Nat.le_trans hb.size h.size) (Nat.le_refl _) (ES.on (hb.trans (h.mono hb.size)) hv'))
   clear hx hy hb hv hv' c0 c1 c2 c3 c4 c5 c6 c7 c8 d0 d1 d2 d3 d4 d5 d6 d7 d8
   go_wp2_with fail
   refine wp_region_held_drew (S := fun wq => wq.cell? ⟨b, off + j * 9, none⟩ = some (.slice B01 n01 d01) ∧ wq.cell? ⟨b, off + j * 9 + 1, none⟩ = some (.bool g1) ∧ wq.cell? ⟨b, off + j * 9 + 2, none⟩ = some (.int .i64 a1) ∧ wq.cell? ⟨b, off + j * 9 + 3, none⟩ = some (.int .i64 i1) ∧ wq.cell? ⟨b, off + j * 9 + 4, none⟩ = some (.string s1) ∧ wq.cell? ⟨b, off + j * 9 + 5, none⟩ = some (.slice B11 n11 d11) ∧ wq.cell? ⟨b, off + j * 9 + 6, none⟩ = some (.slice B21 n21 d21) ∧ wq.cell? ⟨b, off + j * 9 + 7, none⟩ = some (.slice B31 n31 d31) ∧ wq.cell? ⟨b, off + j * 9 + 8, none⟩ = some (.slice B41 n41 d41) ∧ wq.cell? ⟨b, off + (j + 1) * 9, none⟩ = some (.slice B02 n02 d02) ∧ wq.cell? ⟨b, off + (j + 1) * 9 + 1, none⟩ = some (.bool g2) ∧ wq.cell? ⟨b, off + (j + 1) * 9 + 2, none⟩ = some (.int .i64 a2) ∧ wq.cell? ⟨b, off + (j + 1) * 9 + 3, none⟩ = some (.int .i64 i2) ∧ wq.cell? ⟨b, off + (j + 1) * 9 + 4, none⟩ = some (.string s2) ∧ wq.cell? ⟨b, off + (j + 1) * 9 + 5, none⟩ = some (.slice B12 n12 d12) ∧ wq.cell? ⟨b, off + (j + 1) * 9 + 6, none⟩ = some (.slice B22 n22 d22) ∧ wq.cell? ⟨b, off + (j + 1) * 9 + 7, none⟩ = some (.slice B32 n32 d32) ∧ wq.cell? ⟨b, off + (j + 1) * 9 + 8, none⟩ = some (.slice B42 n42 d42)) (by kernel_rfl) (HK9.out _ (Below.refl _ _).drew) (fun _ => ?_)
   have hB9 : Below wr.heap.size wr wr.drew := (Below.refl _ _).drew
   refine tk 0 (HK9.out _ hB9) ?_
   try simp only [Act.put, pA, pB, pC]
   refine tk 1 (HK9.out _ hB9) ?_
   try simp only [Act.put, pA, pB, pC]
   refine tk 2 (HK9.out _ hB9) ?_
   try simp only [Act.put, pA, pB, pC]
   refine tk 3 (HK9.out _ hB9) ?_
   try simp only [Act.put, pA, pB, pC]
   refine tk 4 (HK9.out _ hB9) ?_
   try simp only [Act.put, pA, pB, pC]
   refine tk 5 (HK9.out _ hB9) ?_
   try simp only [Act.put, pA, pB, pC]
   refine tk 6 (HK9.out _ hB9) ?_
   try simp only [Act.put, pA, pB, pC]
   refine tk 7 (HK9.out _ hB9) ?_
   try simp only [Act.put, pA, pB, pC]
   refine tk 8 (HK9.out _ hB9) ?_
   try simp only [Act.put, pA, pB, pC]
   refine tk 9 (HK9.out _ hB9) ?_
   try simp only [Act.put, pA, pB, pC]
   refine one_op 10 (by kernel_rfl) rfl (by rfl) (fun K hK => ?_)
   go_simp
   refine (hP.out x y _ _ _ (HVX.out _ hB9) (HVY.out _ hB9)).mono ?_
   rintro e w10 ⟨rfl, hb10⟩
   have hB10 : Below wr.heap.size wr w10 := step_below hB9 (Nat.le_refl _) hb10
   clear hb10 hB9
   refine hK _ _ (HK9.out _ hB10) ?_
   try simp only [Act.put, pA, pB, pC]
   clear hK K
   refine tk 11 (HK9.out _ hB10) ?_
   try simp only [Act.put, pA, pB, pC]
   refine wpAnyH_done (by kernel_rfl) ?_ _
   generalize hzz : cmpE x y = z
   have HC := Lib.hid hzz
   clear hzz
   by_cases hz0 : 0 ≤ z
   ·
    have HU : Hid (r = false) := Lib.hid (by rw [← HR.out, decide_eq_false_iff_not]; intro h; have := ascC_at h HX.out.1 HX.out.2 (Nat.lt_succ_self j); rw [HC.out] at this; omega)
    go_wp2
    go_ret
    exact ⟨ret_bool HU.out.symm, HV.out.trans (hB10.mono HV.out.size)⟩
   ·
    have HC2 : Hid (∀ r x y, r < j + 1 → l[r]? = some x → l[r + 1]? = some y → cmpE x y < 0) := Lib.hid (by
     intro r x' y' hr h1 h2
     by_cases e : r = j
     ·
      subst e
      rw [HX.out.1] at h1
      rw [HX.out.2] at h2
      injection h1 with h1
      injection h2 with h2
      subst h1 h2
      rw [HC.out]
      omega
     · exact h0.out r x' y' (by omega) h1 h2)
    go_wp2
    go_roundw
    case rel => exact ⟨j + 1, by go_num, by omega, HC2, HV.out.trans (hB10.mono HV.out.size)⟩
    case measure => simp [intOf]; omega
  ·
   have HU : Hid (r = true) := Lib.hid (by rw [← HR.out, decide_eq_true_iff]; exact ascC_of totE fun r x y h1 h2 => h0.out r x y (by have := (List.getElem?_eq_some_iff.1 h2).1; omega) h1 h2)
   have kn : ¬ ((j : Int) + 1) < (l.length : Int) := by omega
   go_wp2
   go_ret
   exact ⟨ret_bool HU.out.symm, hb⟩
end Go.Proofs.YtcjgaohblaidjaaGreatDoor
namespace Go.Proofs.YtcjgaohblaidjaaGreatDoor
open Go Go.RowKit
def usesN (k i : Int) (t : List UInt8) (v y e : Nat) : Bool :=
 (decide (k = 1 ∨ k = 4 ∨ k = 9) || decide (i = 0)) && (decide (k = 2 ∨ k = 3) || t.isEmpty) && (decide (k = 6 ∨ k = 7 ∨ k = 8) || decide (v = 0)) && (decide (k = 8) || decide (y = 0)) && (decide (k = 9) || decide (e = 0))
theorem empty_len {α : Type} (l : List α) : l.isEmpty = decide (l.length = 0) := by cases l <;> simp
theorem natB (n : Nat) : ((n : Int) == 0) = decide (n = 0) := by cases n with | zero => rfl | succ n => simp; omega
theorem usesB_N (k i : Int) (t : List UInt8) (v : List Vl) (y : List (Int × List UInt8)) (e : List En) : usesB k i t v y e = usesN k i t v.length y.length e.length := by
 unfold usesB usesN
 rw [empty_len v, empty_len y, empty_len e]
set_option maxRecDepth 100000 in
set_option maxHeartbeats 3200000 in
theorem uses_any (kd it : Int) (tx : List UInt8) (A Y E L : Option Addr) (nk ck ny cy ne ce nl cl : Nat) (w : World) :
  Calls Tryz.prog 109 #[.agg #[.int .i64 kd, .int .i64 it, .string ⟨tx.toArray⟩, .slice A nk ck, .slice Y ny cy, .slice E ne ce, .slice L nl cl]] w fun e w' => e = .returned (.bool (usesN kd it tx nk ny ne)) ∧ Below w.heap.size w w' := by
 by_cases h1 : kd = 1
 ·
  subst h1
  go_enter Tryz.func109, Tryz.ntmps109
  go_wp2
  all_goals go_ret
  all_goals exact ⟨ret_bool (by simp [usesN, natB, *]), (Below.refl _ _).alloc (Nat.le_refl _) _⟩
 by_cases h4 : kd = 4
 ·
  subst h4
  go_enter Tryz.func109, Tryz.ntmps109
  go_wp2
  all_goals go_ret
  all_goals exact ⟨ret_bool (by simp [usesN, natB, *]), (Below.refl _ _).alloc (Nat.le_refl _) _⟩
 by_cases h2 : kd = 2
 ·
  subst h2
  go_enter Tryz.func109, Tryz.ntmps109
  go_wp2
  all_goals go_ret
  all_goals exact ⟨ret_bool (by simp [usesN, natB, *]), (Below.refl _ _).alloc (Nat.le_refl _) _⟩
 by_cases h3 : kd = 3
 ·
  subst h3
  go_enter Tryz.func109, Tryz.ntmps109
  go_wp2
  all_goals go_ret
  all_goals exact ⟨ret_bool (by simp [usesN, natB, *]), (Below.refl _ _).alloc (Nat.le_refl _) _⟩
 by_cases h6 : kd = 6
 ·
  subst h6
  go_enter Tryz.func109, Tryz.ntmps109
  go_wp2
  all_goals go_ret
  all_goals exact ⟨ret_bool (by simp [usesN, natB, *]), (Below.refl _ _).alloc (Nat.le_refl _) _⟩
 by_cases h7 : kd = 7
 ·
  subst h7
  go_enter Tryz.func109, Tryz.ntmps109
  go_wp2
  all_goals go_ret
  all_goals exact ⟨ret_bool (by simp [usesN, natB, *]), (Below.refl _ _).alloc (Nat.le_refl _) _⟩
 by_cases h8 : kd = 8
 ·
  subst h8
  go_enter Tryz.func109, Tryz.ntmps109
  go_wp2
  all_goals go_ret
  all_goals exact ⟨ret_bool (by simp [usesN, natB, *]), (Below.refl _ _).alloc (Nat.le_refl _) _⟩
 by_cases h9 : kd = 9
 ·
  subst h9
  go_enter Tryz.func109, Tryz.ntmps109
  go_wp2
  all_goals go_ret
  all_goals exact ⟨ret_bool (by simp [usesN, *]), (Below.refl _ _).alloc (Nat.le_refl _) _⟩
 have q1 : (kd == 1) = false := by rw [beq_eq_false_iff_ne]; exact h1
 have q4 : (kd == 4) = false := by rw [beq_eq_false_iff_ne]; exact h4
 have q2 : (kd == 2) = false := by rw [beq_eq_false_iff_ne]; exact h2
 have q3 : (kd == 3) = false := by rw [beq_eq_false_iff_ne]; exact h3
 have q6 : (kd == 6) = false := by rw [beq_eq_false_iff_ne]; exact h6
 have q7 : (kd == 7) = false := by rw [beq_eq_false_iff_ne]; exact h7
 have q8 : (kd == 8) = false := by rw [beq_eq_false_iff_ne]; exact h8
 have q9 : (kd == 9) = false := by rw [beq_eq_false_iff_ne]; exact h9
 go_enter Tryz.func109, Tryz.ntmps109
 go_wp2
 all_goals go_ret
 all_goals exact ⟨ret_bool (by simp [usesN, natB, *]), (Below.refl _ _).alloc (Nat.le_refl _) _⟩
theorem isAtomL_any (s : List UInt8) (w : World) (hs : s.length ≤ maxLen) : Calls Tryz.prog 142 #[.string ⟨s.toArray⟩] w fun e w' => e = .returned (.bool (atomB s)) ∧ Below w.heap.size w w' := by
 refine (isAtom_any ⟨s.toArray⟩ w (by simpa [ByteArray.size] using hs)).mono ?_
 rintro e w' ⟨rfl, rfl⟩
 exact ⟨rfl, Below.refl _ _⟩
theorem isVarL_any (s : List UInt8) (w : World) (hs : s.length ≤ maxLen) : Calls Tryz.prog 89 #[.string ⟨s.toArray⟩] w fun e w' => e = .returned (.bool (varB s)) ∧ Below w.heap.size w w' := by
 refine (isVariable_any ⟨s.toArray⟩ w (by simpa [ByteArray.size] using hs)).mono ?_
 rintro e w' ⟨rfl, rfl⟩
 exact ⟨rfl, Below.refl _ _⟩
theorem validKeyL_any (x : Int × List UInt8) (w : World) (hs : x.2.length ≤ maxLen) : Calls Tryz.prog 118 #[.agg #[.int .i64 x.1, .string ⟨x.2.toArray⟩]] w fun e w' => e = .returned (.bool (keyB x.1 x.2)) ∧ Below w.heap.size w w' :=
 validKey_any x.1 ⟨x.2.toArray⟩ w (by simpa [ByteArray.size] using hs)
set_option maxHeartbeats 400000 in
theorem validArity_any (n : Int) (w : World) : Calls Tryz.prog 146 #[.int .i64 n] w fun e w' => e = .returned (.bool (decide (0 ≤ n ∧ n ≤ 4))) ∧ w' = w := by
 go_enter Tryz.func146, Tryz.ntmps146
 go_wp2
 all_goals go_ret
 all_goals exact ⟨ret_bool (by first | (simp_all; done) | (simp_all; omega)), rfl⟩
theorem equalP_any (k : Nat) (u v : Vl) (ca cb : List Value) (w : World) (ha : VS k w w.heap.size u ca) (hb : VS k w w.heap.size v cb) : Calls Tryz.prog 168 #[.agg ca.toArray, .agg cb.toArray] w fun e w' => e = .returned (.bool (decide (cmpV u v = 0))) ∧ Below w.heap.size w w' := by
 obtain ⟨a, i, s, B1, n1, d1, B2, n2, d2, B3, n3, d3, B4, n4, d4, rfl⟩ := ha.form7
 obtain ⟨a', i', s', B1', n1', d1', B2', n2', d2', B3', n3', d3', B4', n4', d4', rfl⟩ := hb.form7
 obtain ⟨W, hW⟩ : ∃ W, W = (w.alloc (.cells #[.int .i64 a, .int .i64 i, .string s, .slice B1 n1 d1, .slice B2 n2 d2, .slice B3 n3 d3, .slice B4 n4 d4] 27)).alloc (.cells #[.int .i64 a', .int .i64 i', .string s', .slice B1' n1' d1', .slice B2' n2' d2', .slice B3' n3' d3', .slice B4' n4' d4'] 27) := ⟨_, rfl⟩
 have hbb : Below w.heap.size w W := by rw [hW]; exact ((Below.refl _ _).alloc (Nat.le_refl _) _).alloc (by simp) _
 have q0 : W.cell? ⟨w.heap.size, 0, none⟩ = some (.int .i64 a) := by rw [hW]; simp
 have q1 : W.cell? ⟨w.heap.size, 1, none⟩ = some (.int .i64 i) := by rw [hW]; simp
 have q2 : W.cell? ⟨w.heap.size, 2, none⟩ = some (.string s) := by rw [hW]; simp
 have q3 : W.cell? ⟨w.heap.size, 3, none⟩ = some (.slice B1 n1 d1) := by rw [hW]; simp
 have q4 : W.cell? ⟨w.heap.size, 4, none⟩ = some (.slice B2 n2 d2) := by rw [hW]; simp
 have q5 : W.cell? ⟨w.heap.size, 5, none⟩ = some (.slice B3 n3 d3) := by rw [hW]; simp
 have q6 : W.cell? ⟨w.heap.size, 6, none⟩ = some (.slice B4 n4 d4) := by rw [hW]; simp
 have r0 : W.cell? ⟨w.heap.size + 1, 0, none⟩ = some (.int .i64 a') := by rw [hW]; simp
 have r1 : W.cell? ⟨w.heap.size + 1, 1, none⟩ = some (.int .i64 i') := by rw [hW]; simp
 have r2 : W.cell? ⟨w.heap.size + 1, 2, none⟩ = some (.string s') := by rw [hW]; simp
 have r3 : W.cell? ⟨w.heap.size + 1, 3, none⟩ = some (.slice B1' n1' d1') := by rw [hW]; simp
 have r4 : W.cell? ⟨w.heap.size + 1, 4, none⟩ = some (.slice B2' n2' d2') := by rw [hW]; simp
 have r5 : W.cell? ⟨w.heap.size + 1, 5, none⟩ = some (.slice B3' n3' d3') := by rw [hW]; simp
 have r6 : W.cell? ⟨w.heap.size + 1, 6, none⟩ = some (.slice B4' n4' d4') := by rw [hW]; simp
 have hc := compareP_any k u v _ _ W (VS.up hbb.size (Nat.le_refl _) (VS.on hbb ha)) (VS.up hbb.size (Nat.le_refl _) (VS.on hbb hb))
 have HB := Lib.hid hbb
 clear ha hb hbb
 generalize hz : decide (cmpV u v = 0) = r
 have HZ := Lib.hid hz
 clear hz
 generalize cmpV u v = z at hc HZ
 go_enter Tryz.func168, Tryz.ntmps168
 go_wp2_with fail
 rw [← hW]
 clear hW
 go_wp2_with (go_at_call 170; refine hc.mono ?_; rintro e w1 ⟨rfl, hb1⟩; refine Hid.out ?_)
 refine Lib.hid ?_
 clear hc
 go_wp2
 go_ret
 exact ⟨ret_bool (by rw [← HZ.out]; by_cases h : z = 0 <;> simp [h]), HB.out.trans (hb1.mono HB.out.size)⟩
theorem zeroRow (w : World) (B : Nat → Prop) (c : Nat) (R : Nat → List Value → Prop) : RowB w B c (.slice none 0 0) 0 R := ⟨none, 0, rfl, ⟨Nat.zero_le _, Nat.le_refl _⟩, fun h => absurd h (by omega)⟩
theorem zeroVB (k : Nat) (w : World) (B : Nat → Prop) : VB (k + 1) w B zeroV [.int .i64 0, .int .i64 0, .string ⟨#[]⟩, .slice none 0 0, .slice none 0 0, .slice none 0 0, .slice none 0 0] :=
 ⟨_, _, _, _, rfl, by decide, by decide, Nat.zero_le _, zeroRow _ _ _ _, zeroRow _ _ _ _, zeroRow _ _ _ _, zeroRow _ _ _ _⟩
set_option maxRecDepth 100000 in
set_option maxHeartbeats 1600000 in
theorem fits_any (k : Nat) (e : En) (cs : List Value) (n : Int) (w : World) (he : ES (k + 1) w w.heap.size e cs) : Calls Tryz.prog 148 #[.agg cs.toArray, .int .i64 n] w fun r w' => r = .returned (.bool (entB n e)) ∧ Below w.heap.size w w' := by
 obtain ⟨args, fl, r, rfl, ua, rs, rfl, hl, hr⟩ := he
 obtain ⟨A, cap, rfl, hal⟩ := hl.form
 obtain ⟨a, i, s, B1, n1, d1, B2, n2, d2, B3, n3, d3, B4, n4, d4, rfl⟩ := hr.form7
 unfold maxLen at hal
 obtain ⟨W, hW⟩ : ∃ W, W = w.alloc (.cells #[.slice A args.length cap, .bool fl, .int .i64 a, .int .i64 i, .string s, .slice B1 n1 d1, .slice B2 n2 d2, .slice B3 n3 d3, .slice B4 n4 d4] 45) := ⟨_, rfl⟩
 have hbb : Below w.heap.size w W := by rw [hW]; exact (Below.refl _ _).alloc (Nat.le_refl _) _
 have q0 : W.cell? ⟨w.heap.size, 0, none⟩ = some (.slice A args.length cap) := by rw [hW]; simp
 have q1 : W.cell? ⟨w.heap.size, 1, none⟩ = some (.bool fl) := by rw [hW]; simp
 have q2 : W.cell? ⟨w.heap.size, 2, none⟩ = some (.int .i64 a) := by rw [hW]; simp
 have q3 : W.cell? ⟨w.heap.size, 3, none⟩ = some (.int .i64 i) := by rw [hW]; simp
 have q4 : W.cell? ⟨w.heap.size, 4, none⟩ = some (.string s) := by rw [hW]; simp
 have q5 : W.cell? ⟨w.heap.size, 5, none⟩ = some (.slice B1 n1 d1) := by rw [hW]; simp
 have q6 : W.cell? ⟨w.heap.size, 6, none⟩ = some (.slice B2 n2 d2) := by rw [hW]; simp
 have q7 : W.cell? ⟨w.heap.size, 7, none⟩ = some (.slice B3 n3 d3) := by rw [hW]; simp
 have q8 : W.cell? ⟨w.heap.size, 8, none⟩ = some (.slice B4 n4 d4) := by rw [hW]; simp
 have hc := equalP_any (k + 1) r zeroV _ _ W (VS.up hbb.size (Nat.le_refl _) (VS.on hbb hr)) (zeroVB k W _)
 have HB := Lib.hid hbb
 clear hl hr hbb
 generalize hz : entB n (.mk args fl r) = y
 have HZ := Lib.hid hz
 clear hz
 have HE : Hid (entB n (.mk args fl r) = (decide ((args.length : Int) = n) && (!fl || decide (cmpV r zeroV = 0)))) := Lib.hid rfl
 generalize decide (cmpV r zeroV = 0) = z at hc HE
 by_cases hn : (args.length : Int) = n
 case neg =>
  have hq : ((args.length : Int) == n) = false := by rw [beq_eq_false_iff_ne]; exact hn
  have HU : Hid (y = false) := Lib.hid (by rw [← HZ.out, HE.out]; simp [hn])
  clear hn
  go_enter Tryz.func148, Tryz.ntmps148
  go_wp2_with fail
  rw [← hW]
  clear hW
  go_wp2
  go_ret
  exact ⟨ret_bool HU.out.symm, HB.out⟩
 have hq : ((args.length : Int) == n) = true := by rw [beq_iff_eq]; exact hn
 have HN := Lib.hid hn
 clear hn
 cases fl
 ·
  have HU : Hid (y = true) := Lib.hid (by rw [← HZ.out, HE.out]; simp [HN.out])
  go_enter Tryz.func148, Tryz.ntmps148
  go_wp2_with fail
  rw [← hW]
  clear hW
  go_wp2
  go_ret
  exact ⟨ret_bool HU.out.symm, HB.out⟩
 ·
  have HU : Hid (y = z) := Lib.hid (by rw [← HZ.out, HE.out]; simp [HN.out])
  go_enter Tryz.func148, Tryz.ntmps148
  go_wp2_with fail
  rw [← hW]
  clear hW
  go_wp2_with (go_at_call 168; refine hc.mono ?_; rintro e w1 ⟨rfl, hb1⟩; refine Hid.out ?_)
  refine Lib.hid ?_
  clear hc
  go_wp2
  go_ret
  exact ⟨ret_bool HU.out.symm, HB.out.trans (hb1.mono HB.out.size)⟩
set_option maxRecDepth 100000 in
set_option maxHeartbeats 1600000 in
theorem fitsC_any (k : Nat) (e : En) (cs : List Value) (n : Int) (b : Nat) (w : World) (he : ES (k + 1) w w.heap.size e cs) (hb : b < w.heap.size) (hn : w.cell? ⟨b, 1, none⟩ = some (.int .i64 n)) : Calls Tryz.prog 147 #[.agg cs.toArray, .pointer (some ⟨b, 0, none⟩)] w fun r w' => r = .returned (.bool (entB n e)) ∧ Below w.heap.size w w' := by
 obtain ⟨B0, n0, d0, f, a, i, s, B1, n1, d1, B2, n2, d2, B3, n3, d3, B4, n4, d4, rfl⟩ := he.form9
 obtain ⟨W, hW⟩ : ∃ W, W = w.alloc (.cells #[.slice B0 n0 d0, .bool f, .int .i64 a, .int .i64 i, .string s, .slice B1 n1 d1, .slice B2 n2 d2, .slice B3 n3 d3, .slice B4 n4 d4] 45) := ⟨_, rfl⟩
 have hbb : Below w.heap.size w W := by rw [hW]; exact (Below.refl _ _).alloc (Nat.le_refl _) _
 have q0 : W.cell? ⟨w.heap.size, 0, none⟩ = some (.slice B0 n0 d0) := by rw [hW]; simp
 have q1 : W.cell? ⟨w.heap.size, 1, none⟩ = some (.bool f) := by rw [hW]; simp
 have q2 : W.cell? ⟨w.heap.size, 2, none⟩ = some (.int .i64 a) := by rw [hW]; simp
 have q3 : W.cell? ⟨w.heap.size, 3, none⟩ = some (.int .i64 i) := by rw [hW]; simp
 have q4 : W.cell? ⟨w.heap.size, 4, none⟩ = some (.string s) := by rw [hW]; simp
 have q5 : W.cell? ⟨w.heap.size, 5, none⟩ = some (.slice B1 n1 d1) := by rw [hW]; simp
 have q6 : W.cell? ⟨w.heap.size, 6, none⟩ = some (.slice B2 n2 d2) := by rw [hW]; simp
 have q7 : W.cell? ⟨w.heap.size, 7, none⟩ = some (.slice B3 n3 d3) := by rw [hW]; simp
 have q8 : W.cell? ⟨w.heap.size, 8, none⟩ = some (.slice B4 n4 d4) := by rw [hW]; simp
 have hn2 : W.cell? ⟨b, 1, none⟩ = some (.int .i64 n) := (hbb.cell (p := ⟨b, 1, none⟩) hb).trans hn
 have hn3 := hn2
 rw [hW] at hn3
 have hc := fits_any k e _ n W (ES.up hbb.size (Nat.le_refl _) (ES.on hbb he))
 have HB := Lib.hid hbb
 clear he hbb hn hb
 generalize entB n e = y at hc ⊢
 go_enter Tryz.func147, Tryz.ntmps147
 go_wp2_with fail
 rw [← hW]
 clear hW
 go_wp2_with (go_at_call 148; refine hc.mono ?_; rintro e w1 ⟨rfl, hb1⟩; refine Hid.out ?_)
 refine Lib.hid ?_
 clear hc
 go_wp2
 go_ret
 exact ⟨rfl, HB.out.trans (hb1.mono HB.out.size)⟩
end Go.Proofs.YtcjgaohblaidjaaGreatDoor
namespace Go.Proofs.YtcjgaohblaidjaaGreatDoor
open Go Go.RowKit
def WriteR (k : Nat) : Prop := ∀ (B b : Nat) (l : Bs) (v : Vl) (cs : List Value) (w : World), BufW B b l w → VS k w B v cs → okV v = true → TbH B w → l.length + (showV v).length ≤ 140737488355328 →
 Calls Tryz.prog 17 #[.pointer (some ⟨b, 0, none⟩), .agg cs.toArray] w fun e w' => e = .returned (.tuple #[]) ∧ BufW B b (l ++ showV v) w' ∧ Wr B b w w'
theorem BufW.alloc {B b : Nat} {l : Bs} {w : World} (h : BufW B b l w) (o : Obj) : BufW B b l (w.alloc o) :=
 ⟨h.1.old ((Below.refl _ _).alloc (Nat.le_refl _) _), by have := h.2; simp; omega⟩
theorem Wr.alloc {B b : Nat} {w w' : World} (h : Wr B b w w') (hB : B ≤ w'.heap.size) (o : Obj) : Wr B b w (w'.alloc o) :=
 h.trans (Wr.of_below ((Below.refl _ _).alloc (Nat.le_refl _) _) hB)
theorem Wr.box {B b g : Nat} {w w' : World} {cs : Array Value} (h : Wr B b w w') (hg : w.heap[g]? = some (.cells cs 27 (0, 0))) (hb : g ≠ b) : w'.heap[g]? = some (.cells cs 27 (0, 0)) :=
 h.2 g _ hg (by intro e; injection e with e; exact hb e) (by intro c fz e; injection e with _ e _; exact absurd e (by decide))
set_option maxRecDepth 100000 in
set_option maxHeartbeats 3200000 in
theorem writeSeqV_any (k : Nat) (hP : Hid (WriteR k)) (B b : Nat) (l be en : Bs) (vs : List Vl) (A : Option Addr) (cap : Nat) (w : World) (h : BufW B b l w) (hR : RowP w B 7 (.slice A vs.length cap) vs.length (fun j cs => ∃ x, vs[j]? = some x ∧ VS k w B x cs)) (hok : ∀ x ∈ vs, okV x = true) (hT : TbH B w)
  (hlim : l.length + be.length + (sepL commaL (vs.map showV)).length + en.length ≤ 140737488355328) :
  Calls Tryz.prog 30 #[.pointer (some ⟨b, 0, none⟩), .string ⟨be.toArray⟩, .slice A vs.length cap, .func (.func 17) #[] #[], .string ⟨en.toArray⟩] w fun e w' => e = .returned (.tuple #[]) ∧ BufW B b (l ++ be ++ sepL commaL (vs.map showV) ++ en) w' ∧ Wr B b w w' := by
 obtain ⟨A0, cap0, hA0, hll⟩ := hR.form
 clear hA0 A0 cap0
 unfold maxLen at hll
 have hc0 := bufW B b l be w h (by omega)
 have HR := Lib.hid hR
 have HLM := Lib.hid hlim
 have HOK := Lib.hid hok
 have HT := Lib.hid hT
 clear h hR hlim hok hT
 go_enter Tryz.func30, Tryz.ntmps30
 go_wp2_with fail
 refine hc0.mono ?_
 rintro e w0 ⟨rfl, h0, hb0⟩
 have H0 := Lib.hid h0
 have HB0 := Lib.hid hb0
 clear hc0 h0 hb0
 go_wp2_with fail
 go_loopw [17] (fun iv wr => ∃ j : Nat, iv = .int .i64 j ∧ j ≤ vs.length ∧ BufW B b (l ++ be ++ sepL commaL ((vs.take j).map showV)) wr ∧ Wr B b w wr) (fun iv _ => vs.length - (intOf iv).toNat)
 case atStart => exact ⟨0, rfl, by omega, by simpa [sepL] using H0.out, HB0.out⟩
 case round =>
  obtain ⟨j, rfl, hj, hB, hb⟩ := hrel
  by_cases hjn : j < vs.length
  ·
   obtain ⟨bk, off, cp, x0, x1, x2, x3, x4, x5, x6, hu, hbk, ⟨x, hx, hv⟩, c0, c1, c2, c3, c4, c5, c6⟩ := (HR.out.on hb.1 (fun _ _ h => h)).at7 hjn
   injection hu with hA _ hcp
   subst hA hcp
   obtain ⟨za, zi, zs, Z3, n3, y3, Z4, n4, y4, Z5, n5, y5, Z6, n6, y6, he7⟩ := hv.form7
   simp only [List.cons.injEq, and_true] at he7
   obtain ⟨rfl, rfl, rfl, rfl, rfl, rfl, rfl⟩ := he7
   have kn : (j : Int) < (vs.length : Int) := by omega
   have k0 : (0 : Int) ≤ (j : Int) := by omega
   have hxo : okV x = true := HOK.out x (List.mem_of_getElem? hx)
   have hst := sep_step hx
   have hle := sep_take vs j hjn
   rw [hst] at hle
   simp only [List.length_append] at hle
   have hlm := HLM.out
   obtain ⟨V, hV⟩ : ∃ V, V = wr.alloc (.cells #[.int .i64 za, .int .i64 zi, .string zs, .slice Z3 n3 y3, .slice Z4 n4 y4, .slice Z5 n5 y5, .slice Z6 n6 y6] 27) := ⟨_, rfl⟩
   have kV : V.heap[wr.heap.size]? = some (.cells #[.int .i64 za, .int .i64 zi, .string zs, .slice Z3 n3 y3, .slice Z4 n4 y4, .slice Z5 n5 y5, .slice Z6 n6 y6] 27 (0, 0)) := by rw [hV]; exact heap_alloc_new wr _
   have hBV : BufW B b (l ++ be ++ sepL commaL ((vs.take j).map showV)) V := by rw [hV]; exact hB.alloc _
   have hWV : Wr B b w V := by rw [hV]; exact hb.alloc hB.2 _
   have hne : wr.heap.size ≠ b := by have := hB.1.lt; omega
   have HS : Hid (l ++ be ++ sepL commaL ((vs.take (j + 1)).map showV) = l ++ be ++ sepL commaL ((vs.take j).map showV) ++ preL commaL j ++ showV x) := Lib.hid (by rw [hst]; simp)
   have HC2 : Hid (∀ w1, BufW B b (l ++ be ++ sepL commaL ((vs.take j).map showV) ++ preL commaL j) w1 → Wr B b w w1 → Calls Tryz.prog 17 #[.pointer (some ⟨b, 0, none⟩), .agg #[.int .i64 za, .int .i64 zi, .string zs, .slice Z3 n3 y3, .slice Z4 n4 y4, .slice Z5 n5 y5, .slice Z6 n6 y6]] w1 fun e w' => e = .returned (.tuple #[]) ∧ BufW B b (l ++ be ++ sepL commaL ((vs.take j).map showV) ++ preL commaL j ++ showV x) w' ∧ Wr B b w1 w') := Lib.hid fun w1 h1 hw =>
    hP.out B b _ x _ w1 h1 (VS.on hw.1 hv) hxo (HT.out.below hw.1) (by simp only [List.length_append]; omega)
   have hlm2 : (l ++ be ++ sepL commaL ((vs.take j).map showV)).length + (preL commaL j).length ≤ 140737488355328 := by simp only [List.length_append]; omega
   have HWV := Lib.hid hWV
   clear hst hle hlm hx hv hb hB hWV hxo
   generalize l ++ be ++ sepL commaL ((vs.take j).map showV) = P at hBV HS HC2 hlm2
   by_cases h0 : j = 0
   ·
    subst h0
    have hp : preL commaL 0 = [] := rfl
    rw [hp] at HC2 HS
    simp only [List.append_nil] at HC2 HS
    simp only [Nat.zero_mul, Nat.add_zero] at c0 c1 c2 c3 c4 c5 c6
    have hc2 := HC2.out V hBV HWV.out
    clear HC2 hBV kV hlm2 hp
    go_wp2_with fail
    rw [← hV]
    clear hV
    refine hc2.mono ?_
    rintro e w2 ⟨rfl, h2, hb2⟩
    clear hc2
    go_wp2
    go_roundw
    case rel => exact ⟨1, by go_num, by omega, by rw [HS.out]; exact h2, HWV.out.trans hb2⟩
    case measure => simp [intOf]; omega
   ·
    have hp : preL commaL j = [44, 32] := if_neg h0
    have kp : (0 : Int) < (j : Int) := by omega
    rw [hp] at HC2 HS hlm2
    have hc1 := bufW B b P [44, 32] V hBV hlm2
    clear hBV hlm2 hp
    go_wp2_with fail
    rw [← hV]
    clear hV
    refine hc1.mono ?_
    rintro e w1 ⟨rfl, h1, hb1⟩
    clear hc1
    have k1 := hb1.box kV hne
    obtain ⟨e0, e1, e2, e3, e4, e5, e6⟩ := cells7 k1
    have HW1 := Lib.hid (HWV.out.trans hb1)
    have hc2 := HC2.out w1 h1 HW1.out
    clear HC2 h1 hb1 k1 kV c0 c1 c2 c3 c4 c5 c6
    go_wp2_with fail
    refine hc2.mono ?_
    rintro e w2 ⟨rfl, h2, hb2⟩
    clear hc2
    go_wp2
    go_roundw
    case rel => exact ⟨j + 1, by go_num, by omega, by rw [HS.out]; exact h2, HW1.out.trans hb2⟩
    case measure => simp [intOf]; omega
  ·
   have hke : vs.take j = vs := List.take_of_length_le (by omega)
   rw [hke] at hB
   have hjn' : ¬ (j : Int) < (vs.length : Int) := by omega
   have hc1 := bufW B b _ en wr hB (by have := HLM.out; simp only [List.length_append]; omega)
   have HB := Lib.hid hb
   clear hB hke hb
   go_wp2_with fail
   refine hc1.mono ?_
   rintro e w1 ⟨rfl, h1, hb1⟩
   clear hc1
   go_wp2
   go_end0
   exact ⟨rfl, h1, HB.out.trans hb1⟩
end Go.Proofs.YtcjgaohblaidjaaGreatDoor
namespace Go.Proofs.YtcjgaohblaidjaaGreatDoor
open Go Go.RowKit
theorem Wr.box9 {B b g : Nat} {w w' : World} {cs : Array Value} (h : Wr B b w w') (hg : w.heap[g]? = some (.cells cs 45 (0, 0))) (hb : g ≠ b) : w'.heap[g]? = some (.cells cs 45 (0, 0)) :=
 h.2 g _ hg (by intro e; injection e with e; exact hb e) (by intro c fz e; injection e with _ e _; exact absurd e (by decide))
set_option maxRecDepth 100000 in
set_option maxHeartbeats 3200000 in
theorem writeEntry_any (k : Nat) (hP : Hid (WriteR k)) (B b : Nat) (l : Bs) (ar : List Vl) (fa : Bool) (rs : Vl) (Aa : Option Addr) (ca : Nat) (rcs : List Value) (w : World) (h : BufW B b l w) (hR : RowP w B 7 (.slice Aa ar.length ca) ar.length (fun j cs => ∃ x, ar[j]? = some x ∧ VS k w B x cs)) (hv : VS k w B rs rcs)
  (hok : ∀ x ∈ ar, okV x = true) (hor : fa = true ∨ okV rs = true) (hT : TbH B w) (hlim : l.length + (showE (.mk ar fa rs)).length ≤ 140737488355328) :
  Calls Tryz.prog 34 #[.pointer (some ⟨b, 0, none⟩), .agg (.slice Aa ar.length ca :: .bool fa :: rcs).toArray] w fun e w' => e = .returned (.tuple #[]) ∧ BufW B b (l ++ showE (.mk ar fa rs)) w' ∧ Wr B b w w' := by
 obtain ⟨za, zi, zs, Z3, n3, y3, Z4, n4, y4, Z5, n5, y5, Z6, n6, y6, rfl⟩ := hv.form7
 obtain ⟨V, hV⟩ : ∃ V, V = w.alloc (.cells #[.slice Aa ar.length ca, .bool fa, .int .i64 za, .int .i64 zi, .string zs, .slice Z3 n3 y3, .slice Z4 n4 y4, .slice Z5 n5 y5, .slice Z6 n6 y6] 45) := ⟨_, rfl⟩
 have kV : V.heap[w.heap.size]? = some (.cells #[.slice Aa ar.length ca, .bool fa, .int .i64 za, .int .i64 zi, .string zs, .slice Z3 n3 y3, .slice Z4 n4 y4, .slice Z5 n5 y5, .slice Z6 n6 y6] 45 (0, 0)) := by rw [hV]; exact heap_alloc_new w _
 have hBV : BufW B b l V := by rw [hV]; exact h.alloc _
 have hWV : Wr B b w V := by rw [hV]; exact (Wr.refl B b w).alloc h.2 _
 have hne : w.heap.size ≠ b := by have := h.1.lt; omega
 have hsh : showE (.mk ar fa rs) = [40] ++ sepL commaL (ar.map showV) ++ [41, 32, 45, 62, 32] ++ (if fa then [33] else showV rs) := by rw [showE_eq]; simp
 rw [hsh] at hlim ⊢
 simp only [List.length_append] at hlim
 have hc := writeSeqV_any k hP B b l [40] [41, 32, 45, 62, 32] ar Aa ca V hBV (hR.on hWV.1 fun _ _ ⟨x, h1, h2⟩ => ⟨x, h1, VS.on hWV.1 h2⟩) hok (hT.below hWV.1) (by omega)
 have HC2 : fa = false → Hid (∀ w1, BufW B b (l ++ [40] ++ sepL commaL (ar.map showV) ++ [41, 32, 45, 62, 32]) w1 → Wr B b w w1 → Calls Tryz.prog 17 #[.pointer (some ⟨b, 0, none⟩), .agg #[.int .i64 za, .int .i64 zi, .string zs, .slice Z3 n3 y3, .slice Z4 n4 y4, .slice Z5 n5 y5, .slice Z6 n6 y6]] w1 fun e w' => e = .returned (.tuple #[]) ∧ BufW B b (l ++ [40] ++ sepL commaL (ar.map showV) ++ [41, 32, 45, 62, 32] ++ showV rs) w' ∧ Wr B b w1 w') := fun hf => Lib.hid fun w1 h1 hw =>
  hP.out B b _ rs _ w1 h1 (VS.on hw.1 hv) (hor.resolve_left (by rw [hf]; decide)) (hT.below hw.1) (by rw [hf] at hlim; simp only [Bool.false_eq_true, if_false] at hlim; simp only [List.length_append]; omega)
 have HC3 : fa = true → Hid (∀ w1, BufW B b (l ++ [40] ++ sepL commaL (ar.map showV) ++ [41, 32, 45, 62, 32]) w1 → Calls Tryz.prog 28 #[.pointer (some ⟨b, 0, none⟩), .string ⟨#[33]⟩] w1 fun e w' => e = .returned (.tuple #[.int .i64 1, .nilIface]) ∧ BufW B b (l ++ [40] ++ sepL commaL (ar.map showV) ++ [41, 32, 45, 62, 32] ++ [33]) w' ∧ Wr B b w1 w') := fun hf => Lib.hid fun w1 h1 =>
  bufW B b _ [33] w1 h1 (by rw [hf] at hlim; simp only [if_true] at hlim; simp only [List.length_append]; omega)
 have HWV := Lib.hid hWV
 have HE : Hid (l ++ ([40] ++ sepL commaL (ar.map showV) ++ [41, 32, 45, 62, 32] ++ (if fa then [33] else showV rs)) = l ++ [40] ++ sepL commaL (ar.map showV) ++ [41, 32, 45, 62, 32] ++ (if fa then [33] else showV rs)) := Lib.hid (by simp)
 rw [HE.out]
 clear HE hsh hlim hBV hWV h hR hv hok hor hT
 generalize l ++ [40] ++ sepL commaL (ar.map showV) ++ [41, 32, 45, 62, 32] = P at hc HC2 HC3 ⊢
 go_enter Tryz.func34, Tryz.ntmps34
 go_wp2_with fail
 rw [← hV]
 clear hV
 refine hc.mono ?_
 rintro e w1 ⟨rfl, h1, hb1⟩
 clear hc
 have k1 := hb1.box9 kV hne
 have HW1 := Lib.hid (HWV.out.trans hb1)
 have e1 : w1.cell? ⟨w.heap.size, 1, none⟩ = some (.bool fa) := (Lib.cell_of_heap k1 1).trans rfl
 have e2 : w1.cell? ⟨w.heap.size, 2, none⟩ = some (.int .i64 za) := (Lib.cell_of_heap k1 2).trans rfl
 have e3 : w1.cell? ⟨w.heap.size, 3, none⟩ = some (.int .i64 zi) := (Lib.cell_of_heap k1 3).trans rfl
 have e4 : w1.cell? ⟨w.heap.size, 4, none⟩ = some (.string zs) := (Lib.cell_of_heap k1 4).trans rfl
 have e5 : w1.cell? ⟨w.heap.size, 5, none⟩ = some (.slice Z3 n3 y3) := (Lib.cell_of_heap k1 5).trans rfl
 have e6 : w1.cell? ⟨w.heap.size, 6, none⟩ = some (.slice Z4 n4 y4) := (Lib.cell_of_heap k1 6).trans rfl
 have e7 : w1.cell? ⟨w.heap.size, 7, none⟩ = some (.slice Z5 n5 y5) := (Lib.cell_of_heap k1 7).trans rfl
 have e8 : w1.cell? ⟨w.heap.size, 8, none⟩ = some (.slice Z6 n6 y6) := (Lib.cell_of_heap k1 8).trans rfl
 clear k1 kV hb1
 cases fa with
 | true =>
  have hc3 := (HC3 rfl).out w1 h1
  clear HC2 HC3 h1
  go_wp2_with fail
  refine hc3.mono ?_
  rintro e w2 ⟨rfl, h2, hb2⟩
  clear hc3
  go_wp2
  refine bodyPost_ret (v := .tuple #[]) (by simp [results, Tryz.results34, go_sem]) rfl ?_
  exact ⟨rfl, h2, HW1.out.trans hb2⟩
 | false =>
  have hc2 := (HC2 rfl).out w1 h1 HW1.out
  clear HC2 HC3 h1
  go_wp2_with fail
  refine hc2.mono ?_
  rintro e w2 ⟨rfl, h2, hb2⟩
  clear hc2
  go_wp2
  go_end0
  exact ⟨rfl, h2, HW1.out.trans hb2⟩
end Go.Proofs.YtcjgaohblaidjaaGreatDoor
