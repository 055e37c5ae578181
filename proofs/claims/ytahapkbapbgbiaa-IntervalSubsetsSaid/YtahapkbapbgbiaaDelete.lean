/- What slices.DeleteFunc(s, isEmpty) returns where s is a slice of the call's own: the ranges that are not empty. Condition: at most 10^9 ranges. -/
import Derived.Test.YtahapkbapbgbiaaClone
namespace Go.Proofs.Ytahapkbapbgbiaa
open Go.RowKit
theorem flatR_set : ∀ (l : List Rg) (j : Nat) (r : Rg), ((flatR l).set (j * 2) (.int .i64 r.1)).set (j * 2 + 1) (.int .i64 r.2) = flatR (l.set j r)
  | [], j, r => by simp [flatR]
  | x :: l, 0, r => by
    rw [flatR_cons]
    show Value.int .i64 r.1 :: Value.int .i64 r.2 :: flatR l = flatR (r :: l)
    rw [flatR_cons]
  | x :: l, j + 1, r => by
    rw [flatR_cons, show (j + 1) * 2 + 1 = (j * 2 + 1) + 1 + 1 by omega, show (j + 1) * 2 = j * 2 + 1 + 1 by omega]
    rw [List.set_cons_succ, List.set_cons_succ, List.set_cons_succ, List.set_cons_succ, flatR_set l j r, List.set_cons_succ, flatR_cons]
theorem flatR_take : ∀ (l : List Rg) (i : Nat), (flatR l).take (i * 2) = flatR (l.take i)
  | l, 0 => by simp [flatR]
  | [], i + 1 => by simp [flatR]
  | x :: l, i + 1 => by
    rw [List.take_succ_cons, flatR_cons, flatR_cons, show (i + 1) * 2 = i * 2 + 1 + 1 by omega, List.take_succ_cons, List.take_succ_cons, flatR_take l i]
section
variable {w : World} {B g n cap : Nat} {rs : List Rg}
theorem OwnR.formG {v : Value} (h : OwnR w B v rs) (h0 : 0 < rs.length) : ∃ g c, v = .slice (some ⟨g, 0, none⟩) rs.length c ∧ B ≤ g ∧ g < w.heap.size ∧ rs.length ≤ c := by
  have hl := h.lt
  rcases h.2 with ⟨rfl, hz⟩ | ⟨g, cap, cur, rfl, hB, hg, hnc, _⟩
  · omega
  · exact ⟨g, cap, rfl, hB, (hl g rfl).2, hnc⟩
theorem OwnR.lo (h : OwnR w B (.slice (some ⟨g, 0, none⟩) n cap) rs) (hn : rs.length = n) {j : Nat} {r : Rg} (hj : rs[j]? = some r) : w.cell? ⟨g, j * 2, none⟩ = some (.int .i64 r.1) := by
  subst hn
  have hlt := (List.getElem?_eq_some_iff.1 hj).1
  rw [World.ownsRow.cellAt h (j * 2) (by omega), flatR_lo rs j r hj]
theorem OwnR.hi (h : OwnR w B (.slice (some ⟨g, 0, none⟩) n cap) rs) (hn : rs.length = n) {j : Nat} {r : Rg} (hj : rs[j]? = some r) : w.cell? ⟨g, j * 2 + 1, none⟩ = some (.int .i64 r.2) := by
  subst hn
  have hlt := (List.getElem?_eq_some_iff.1 hj).1
  rw [World.ownsRow.cellAt h (j * 2 + 1) (by omega), flatR_hi rs j r hj]
theorem OwnR.free (h : OwnR w B (.slice (some ⟨g, 0, none⟩) n cap) rs) (hn : rs.length = n) (j : Nat) : w.frozen? ⟨g, j, none⟩ = false := by
  subst hn
  exact World.ownsRow.frozenAt h j
theorem OwnR.set (h : OwnR w B (.slice (some ⟨g, 0, none⟩) n cap) rs) (hn : rs.length = n) (j : Nat) (r : Rg) :
    OwnR ((w.setCell ⟨g, j * 2, none⟩ (.int .i64 r.1)).setCell ⟨g, j * 2 + 1, none⟩ (.int .i64 r.2)) B (.slice (some ⟨g, 0, none⟩) n cap) (rs.set j r) := by
  subst hn
  unfold OwnR
  rw [List.length_set, ← flatR_set]
  exact (World.ownsRow.stored (World.ownsRow.stored h (j * 2) (.int .i64 r.1)).1 (j * 2 + 1) (.int .i64 r.2)).1
theorem OwnR.setHi (h : OwnR w B (.slice (some ⟨g, 0, none⟩) n cap) rs) (hn : rs.length = n) (j : Nat) (r : Rg) (y : Int) (hj : rs[j]? = some r) :
    OwnR (w.setCell ⟨g, j * 2 + 1, none⟩ (.int .i64 y)) B (.slice (some ⟨g, 0, none⟩) n cap) (rs.set j (r.1, y)) := by
  subst hn
  unfold OwnR
  rw [List.length_set, ← flatR_set]
  have e : (flatR rs).set (j * 2) (.int .i64 r.1) = flatR rs := by
    have h1 := flatR_lo rs j r hj
    apply List.ext_getElem?
    intro i
    rw [List.getElem?_set]
    split
    · rename_i hi; subst hi
      rw [h1]; split
      · rfl
      · rename_i hh; exact absurd (List.getElem?_eq_some_iff.1 h1).1 hh
    · rfl
  simp only
  rw [e]
  exact (World.ownsRow.stored h (j * 2 + 1) (.int .i64 y)).1
theorem OwnR.cut (h : OwnR w B (.slice (some ⟨g, 0, none⟩) n cap) rs) (hn : rs.length = n) (i : Nat) (hi : i ≤ n) : OwnR w B (.slice (some ⟨g, 0, none⟩) i cap) (rs.take i) := by
  subst hn
  have hl : (rs.take i).length = i := by rw [List.length_take]; omega
  refine ⟨flatR_length _, ?_⟩
  rcases h.2 with ⟨h', _⟩ | ⟨g', cap', cur, h', hb, hg, hnc, hcm, hcs, htake⟩
  · simp at h'
  · simp only [Value.slice.injEq, Option.some.injEq, Addr.mk.injEq, and_true, true_and] at h'
    obtain ⟨rfl, rfl⟩ := h'
    refine .inr ⟨g, cap, cur, by rw [hl], hb, hg, by rw [hl]; omega, hcm, hcs, ?_⟩
    rw [hl, ← flatR_take, ← htake, List.take_take, show min (i * 2) (rs.length * 2) = i * 2 by omega]
end
theorem zeroCellsR (n : Nat) : (Builtin.zeroCells #[.int .i64 0, .int .i64 0] n).toList = flatR (List.replicate n (0, 0)) := by
  apply List.ext_getElem?
  intro j
  by_cases hj : j < n * 2
  · have hx : (List.replicate n ((0 : Int), (0 : Int)))[j / 2]? = some (0, 0) := by rw [List.getElem?_replicate]; simp; omega
    have h1 := flatR_lo _ _ _ hx
    have h2 := flatR_hi _ _ _ hx
    have e1 : (Builtin.zeroCells #[.int .i64 0, .int .i64 0] n).toList[j]? = some (.int .i64 0) := by
      simp [Builtin.zeroCells, hj]
      rcases Nat.mod_two_eq_zero_or_one j with e | e <;> rw [e] <;> rfl
    rw [e1]
    rcases Nat.mod_two_eq_zero_or_one j with e | e
    · rw [show j / 2 * 2 = j by omega] at h1; exact h1.symm
    · rw [show j / 2 * 2 + 1 = j by omega] at h2; exact h2.symm
  · rw [List.getElem?_eq_none (by simp [Builtin.zeroCells]; omega), List.getElem?_eq_none (by rw [flatR_length]; simp; omega)]
/-- clear(s[i:]): what stands ahead of i stays -/
theorem run_clearR {w : World} {B g n cap : Nat} {rs : List Rg} (h : OwnR w B (.slice (some ⟨g, 0, none⟩) n cap) rs) (hn : rs.length = n) (i c : Nat) (hi : i < n) :
    ∃ w', (∀ ty, (Builtin.clear_ #[22] ty #[.slice (some ⟨g, i * 2, none⟩) (n - i) c]).run Try.prog w = .ok (.tuple #[]) w') ∧ OwnR w' B (.slice (some ⟨g, 0, none⟩) i cap) (rs.take i) ∧ w.grownBy w' (some g) := by
  subst hn
  have hl : (rs.take i).length = i := by rw [List.length_take]; omega
  rcases h.2 with ⟨h', _⟩ | ⟨g', cap', cur, h', hb, hg, hnc, hcm, hcs, htake⟩
  · simp at h'
  · simp only [Value.slice.injEq, Option.some.injEq, Addr.mk.injEq, and_true, true_and] at h'
    obtain ⟨rfl, rfl⟩ := h'
    have hst := run_storeCells_at (P := Try.prog) g (i * 2) 35 (flatR (List.replicate (rs.length - i) (0, 0))) 0 cur w hg (by rw [flatR_length]; simp; omega) (flatR_one _)
    simp only [Nat.add_zero] at hst
    have hv := Try.zeroValue35
    obtain ⟨m, hm⟩ : ∃ m, rs.length - i = m + 1 := ⟨rs.length - i - 1, by omega⟩
    refine ⟨w.setRow g (cur.toList.take (i * 2) ++ flatR (List.replicate (rs.length - i) (0, 0)) ++ cur.toList.drop (i * 2 + (flatR (List.replicate (rs.length - i) (0, 0))).length)).toArray, ?_, ⟨flatR_length _, .inr ⟨g, cap, _, by rw [hl], hb, setRow_heap w g cur _ 35 (0, 0) hg, by rw [hl]; omega, hcm, ?_, ?_⟩⟩, ⟨rfl, rfl, rfl, by simp, fun k _ hk => setRow_other w g k _ (fun e => hk (by simp [e]))⟩⟩
    · intro ty
      rw [← zeroCellsR] at hst
      rw [hm] at hst ⊢
      simp [Builtin.clear_, run_underlying Try.underlying22, hv, Value.cells, hst]
      rw [← zeroCellsR]
      simp
    · simp only [List.size_toArray, List.length_append, List.length_take, List.length_drop, Array.length_toList, flatR_length, List.length_replicate]
      omega
    · rw [hl, List.append_assoc]
      rw [List.take_append_of_le_length (by simp; omega), List.take_take, Nat.min_self, ← flatR_take, ← htake, List.take_take, show min (i * 2) (rs.length * 2) = i * 2 by omega]
set_option maxHeartbeats 800000 in
theorem indexEmpty_none (A : Option Addr) (n cap : Nat) (rs : List Rg) (w : World) (hR : RngS w w.heap.size A n rs) (hn : n ≤ 1000000000) (h : ∀ r ∈ rs, emptyB r = false) :
    Calls Try.prog 39 #[.slice A n cap, .func (.func 27) #[] #[]] w fun e w' => e = .returned (.int .i64 (-1)) ∧ Below w.heap.size w w' := by
  have HR := Lib.hid hR
  have HE := Lib.hid h
  clear hR h
  go_enter Try.func39, Try.ntmps39
  go_wp2
  go_loopw [5, 8] (fun _ i wr => ∃ k : Nat, i = .int .i64 k ∧ k ≤ n ∧ Below w.heap.size w wr) (fun _ i _ => n - (intOf i).toNat)
  case atStart => exact ⟨0, rfl, by omega, Below.refl _ _⟩
  case round =>
    obtain ⟨k, rfl, hk, hb⟩ := hrel
    by_cases hkn : k < n
    · obtain ⟨b, off, r1, r2, rfl, hbl, hx, hf, c1, c2⟩ := (HR.out.below hb).at hkn
      have q1 := HE.out _ (List.mem_of_getElem? hx)
      have hm := fun w => isEmpty_any r1 r2 w
      rw [q1] at hm
      have HX := Lib.hid hx
      clear hx q1
      go_wp2_with (first | (go_at_call 27; refine (hm _).mono ?_; rintro e w' ⟨rfl, hb1⟩))
      all_goals go_roundw
      case rel => exact ⟨k + 1, by go_num, by omega, hb.trans (hb1.mono hb.size)⟩
      case measure => simp [intOf]; omega
    · go_wp2
      go_ret
      exact ⟨rfl, hb⟩
set_option maxHeartbeats 800000 in
theorem indexEmpty_some (A : Option Addr) (n cap : Nat) (rs : List Rg) (w : World) (m : Nat) (x : Rg) (hR : RngS w w.heap.size A n rs) (hn : n ≤ 1000000000) (hx : rs[m]? = some x) (hxe : emptyB x = true) (h : ∀ j r, j < m → rs[j]? = some r → emptyB r = false) :
    Calls Try.prog 39 #[.slice A n cap, .func (.func 27) #[] #[]] w fun e w' => e = .returned (.int .i64 m) ∧ Below w.heap.size w w' := by
  have hmn : m < n := by have := (List.getElem?_eq_some_iff.1 hx).1; rw [hR.1]; exact this
  have HR := Lib.hid hR
  have HE := Lib.hid h
  have HM := Lib.hid hx
  clear hR h hx
  go_enter Try.func39, Try.ntmps39
  go_wp2
  go_loopw [5, 8] (fun _ i wr => ∃ k : Nat, i = .int .i64 k ∧ k ≤ m ∧ Below w.heap.size w wr) (fun _ i _ => n - (intOf i).toNat)
  case atStart => exact ⟨0, rfl, by omega, Below.refl _ _⟩
  case round =>
    obtain ⟨k, rfl, hk, hb⟩ := hrel
    have hkn : k < n := by omega
    obtain ⟨b, off, r1, r2, rfl, hbl, hx, hf, c1, c2⟩ := (HR.out.below hb).at hkn
    have hm := fun w => isEmpty_any r1 r2 w
    by_cases hkm : k < m
    · have q1 := HE.out k _ hkm hx
      rw [q1] at hm
      have HX := Lib.hid hx
      clear hx q1
      go_wp2_with (first | (go_at_call 27; refine (hm _).mono ?_; rintro e w' ⟨rfl, hb1⟩))
      all_goals go_roundw
      case rel => exact ⟨k + 1, by go_num, by omega, hb.trans (hb1.mono hb.size)⟩
      case measure => simp [intOf]; omega
    · obtain rfl : k = m := by omega
      have q1 : emptyB (r1, r2) = true := by
        have := HM.out; rw [hx] at this; injection this with this; rw [this]; exact hxe
      rw [q1] at hm
      have HX := Lib.hid hx
      clear hx q1
      go_wp2_with (first | (go_at_call 27; refine (hm _).mono ?_; rintro e w' ⟨rfl, hb1⟩))
      all_goals go_ret
      all_goals exact ⟨rfl, hb.trans (hb1.mono hb.size)⟩
end Go.Proofs.Ytahapkbapbgbiaa
