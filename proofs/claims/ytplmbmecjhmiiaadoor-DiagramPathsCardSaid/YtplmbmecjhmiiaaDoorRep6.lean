/- slices.Repeat of one number -1. -/
import Derived.Test.YtplmbmecjhmiiaaDoorMul6
import Derived.Test.YtplmbmecjhmiiaaDoorPar
import Derived.Laws.CopyRow
import Derived.Laws.MakeOwn
namespace Go.Proofs.YtplmbmecjhmiiaaDoor
open Go Go.RowKit
def m1 : Value := .int .i64 (-1)
/-- a copy of cells that are all -1 -/
theorem copy_m1 (w : World) (ty : TypeId) (g o dLen dCap : Nat) (a : Addr) (sLen sCap : Nat) (cur : Array Value) (m : Nat) (hg : w.heap[g]? = some (.cells cur 3 (0, 0))) (hm : m = Nat.min sLen dLen)
    (hsrc : ∀ j, j < m → w.cell? (a.add j) = some m1) (hfit : o + m ≤ cur.size) :
    ∃ w' cur', (Builtin.copy_ #[24, 24] ty #[.slice (some ⟨g, o, none⟩) dLen dCap, .slice (some a) sLen sCap]).run Tryd.prog w = .ok (.int .i64 (m : Int)) w' ∧ w'.heap[g]? = some (.cells cur' 3 (0, 0)) ∧ cur'.size = cur.size ∧
      (∀ j, j < o → cur'[j]? = cur[j]?) ∧ (∀ j, o ≤ j → j < o + m → cur'[j]? = some m1) ∧ Below g w w' := by
  have hr := run_copy_row (P := Tryd.prog) w 24 24 ty 3 g o dLen dCap a sLen sCap cur 3 (List.replicate m m1) Tryd.underlying24 (by kernel_rfl) hg (by simpa using hm)
    (fun j v hj => by
      have hj2 := List.getElem?_eq_some_iff.1 hj
      obtain ⟨h1, h2⟩ := hj2
      rw [List.length_replicate] at h1
      rw [List.getElem_replicate] at h2
      rw [← h2]; exact hsrc j h1) (by simpa using hfit) (fun v hv => by rw [(List.mem_replicate.1 hv).2]; rfl)
  rw [List.length_replicate] at hr
  refine ⟨_, _, hr, setRow_heap w g cur _ 3 (0, 0) hg, by simp; omega, fun j hj => ?_, fun j h1 h2 => ?_, ⟨rfl, rfl, rfl, by simp, fun b hb => setRow_other w g b _ (by omega)⟩⟩
  · simp only [List.getElem?_toArray, List.append_assoc]
    rw [List.getElem?_append_left (by simp; omega), List.getElem?_take_of_lt hj]
    simp
  · simp only [List.getElem?_toArray, List.append_assoc]
    rw [List.getElem?_append_right (by simp; omega), List.getElem?_append_left (by simp; omega), List.getElem?_eq_some_iff]
    exact ⟨by simp; omega, by simp⟩
theorem Tryd.infoInt : (Tryd.prog.info? 3).map (fun i => (i.zero, i.size, i.bytes)) = some (some (.int .i64 0), 1, 8) := by kernel_rfl
set_option maxRecDepth 100000 in
set_option maxHeartbeats 1600000 in
theorem repeat_any (n g : Nat) (hn : n ≤ 100000) (w : World) (hg : w.heap[g]? = some (.cells #[m1] 3 (0, 0))) :
    Calls Tryd.prog 41 #[.slice (some ⟨g, 0, none⟩) 1 1, .int .i64 n] w fun e w' => e = .returned (.slice (some ⟨w.heap.size, 0, none⟩) n n) ∧ (∃ cur : Array Value, w'.heap[w.heap.size]? = some (.cells cur 3 (0, 0)) ∧ cur.size = n ∧ ∀ j, j < n → cur[j]? = some m1) ∧ Below w.heap.size w w' := by
  have hlt : g < w.heap.size := (Array.getElem?_eq_some_iff.1 hg).1
  obtain ⟨i0, hi, hz0, hz1, hz2⟩ := info_parts Tryd.infoInt
  have hmk0 := run_makeSlice (P := Tryd.prog) w 24 3 i0 (.int .i64 0) Tryd.underlying24 hi hz0 .i64 .i64 n n (by omega) (Int.le_refl _) (by rw [hz1]; omega) (by rw [hz2]; omega) (by omega)
  rw [hz1] at hmk0
  simp only [Int.toNat_natCast, Nat.mul_one] at hmk0
  obtain ⟨z0, hzz⟩ : ∃ z0, z0 = madeCells (Value.int .i64 0).cells n := ⟨_, rfl⟩
  have hzs : z0.size = n := by rw [hzz]; simp [madeCells]
  rw [← hzz] at hmk0
  obtain ⟨W, hW⟩ : ∃ W, W = w.alloc (.cells z0 3) := ⟨_, rfl⟩
  have hb : Below w.heap.size w W := by rw [hW]; exact (Below.refl _ _).alloc (Nat.le_refl _) _
  have k1 : W.heap[w.heap.size]? = some (.cells z0 3 (0, 0)) := by rw [hW]; exact heap_alloc_new w _
  rw [← hW] at hmk0
  obtain ⟨w1, cur1, hcp, g1, g2, g3, g4, g5⟩ := copy_m1 W 3 w.heap.size 0 n n ⟨g, 0, none⟩ 1 1 z0 (Nat.min 1 n) k1 rfl (fun j hj => by
    have : Nat.min 1 n ≤ 1 := Nat.min_le_left _ _
    have hj0 : j = 0 := by omega
    subst hj0
    exact (Lib.cell_of_heap ((hb.block g hlt).trans hg) 0).trans rfl) (by have : Nat.min 1 n ≤ n := Nat.min_le_right _ _; omega)
  have hmul := mul_one n (by omega) w
  have eg := enters_of Tryd.func50 (by kernel_rfl) rfl
  have q0 : decide ((n : Int) < 0) = false := by rw [decide_eq_false_iff_not]; omega
  have wu1 : IntKind.u64.wrap (1 : Int) = 1 := rfl
  have wun : IntKind.u64.wrap (n : Int) = (n : Int) := by rw [IntKind.wrap_u64]; omega
  have win : IntKind.i64.wrap (n : Int) = (n : Int) := IntWalk.i64_in _ (by omega)
  have q2 : decide ((9223372036854775807 : Int) < (n : Int)) = false := by rw [decide_eq_false_iff_not]; omega
  have hN := Lib.hid hn
  have HB : Hid (Below w.heap.size w w1) := Lib.hid (hb.trans g5)
  have h1n : Hid (∀ j, j < Nat.min 1 n → cur1[j]? = some m1) := Lib.hid fun j hj => g4 j (Nat.zero_le _) (by omega)
  have hle : Nat.min 1 n ≤ n := Nat.min_le_right _ _
  have hpos : 0 < n → 0 < Nat.min 1 n := fun h => by have : Nat.min 1 n = 1 := Nat.min_eq_left h; omega
  have HL := Lib.hid (And.intro hle hpos)
  have HG := Lib.hid (And.intro g1 (g2.trans hzs))
  generalize Nat.min 1 n = c0 at *
  clear hle hpos g1 g2 g3 g4 g5 hb k1 hzs hzz hg hlt hW hi hz0 hz1 hz2 hn
  go_enter Tryd.func41, Tryd.ntmps41
  go_wp2_with fail
  refine hmul.mono ?_
  rintro e w' ⟨rfl, hww⟩
  subst w'
  clear hmul
  go_wp2_with fail
  go_loopw [8] (fun s8 wr => ∃ (k : Nat) (cur : Array Value), s8 = .int .i64 k ∧ k ≤ n ∧ (0 < n → 0 < k) ∧ Hid (wr.heap[w.heap.size]? = some (.cells cur 3 (0, 0)) ∧ cur.size = n ∧ ∀ j, j < k → cur[j]? = some m1) ∧ Hid (Below w.heap.size w wr)) (fun s8 _ => n - (intOf s8).toNat)
  case atStart => exact ⟨c0, cur1, rfl, HL.out.1, HL.out.2, Lib.hid ⟨HG.out.1, HG.out.2, h1n.out⟩, HB⟩
  case round =>
    obtain ⟨k, cur, rfl, hkn, hk0, HC, HBk⟩ := hrel
    by_cases hlt : k < n
    · have q1 : (k : Int) < (n : Int) := by omega
      obtain ⟨h1, h2, h3⟩ := HC.out
      have h1d : wr.drew.heap[w.heap.size]? = some (.cells cur 3 (0, 0)) := h1
      have hsz : ∀ V, (Go.sizeOf 3).run Tryd.prog V = .ok 1 V := fun V => by kernel_rfl
      have hs1 : ∀ V, (Instr.slice 24 (.slice (some ⟨w.heap.size, 0, none⟩) n n) (some (.int .i64 (k : Int))) none none).run Tryd.prog V = .ok (.slice (some ⟨w.heap.size, k, none⟩) (n - k) (n - k)) V := fun V => by
        have ht' : Tryd.prog.underlying 24 = some (.slice (Tryd.prog.elem 24)) := by kernel_rfl
        have he : Tryd.prog.elem 24 = 3 := by kernel_rfl
        rw [run_slice_l V 24 _ _ _ ht' .i64 _ (by omega) (by omega), he, hsz]
        have h0 : n ≠ k := by omega
        by_cases h1 : k = 0
        · subst h1; simp [Result.andThen, sliced, Addr.add, h0]
        · simp [Result.andThen, sliced, Addr.add, h0, h1]
      have hs2 : ∀ V, (Instr.slice 24 (.slice (some ⟨w.heap.size, 0, none⟩) n n) none (some (.int .i64 (k : Int))) none).run Tryd.prog V = .ok (.slice (some ⟨w.heap.size, 0, none⟩) k n) V := fun V => by
        have ht' : Tryd.prog.underlying 24 = some (.slice (Tryd.prog.elem 24)) := by kernel_rfl
        have he : Tryd.prog.elem 24 = 3 := by kernel_rfl
        rw [run_slice_h V 24 _ _ _ ht' .i64 _ (by omega) (by omega), he, hsz]
        have h0 : n ≠ 0 := by omega
        simp [Result.andThen, sliced, Addr.add, h0]
      obtain ⟨w2, cur2, hcp2, g1, g2, g3, g4, g5⟩ := copy_m1 wr.drew 3 w.heap.size k (n - k) (n - k) ⟨w.heap.size, 0, none⟩ k n cur (Nat.min k (n - k)) h1d rfl (fun j hj => by
        have : Nat.min k (n - k) ≤ k := Nat.min_le_left _ _
        have e := (Lib.cell_of_heap h1d j).trans (h3 j (by omega))
        by_cases hj0 : j = 0
        · subst hj0; simpa [Addr.add] using e
        · simpa [Addr.add, hj0] using e) (by have : Nat.min k (n - k) ≤ n - k := Nat.min_le_right _ _; omega)
      have hm1 : Nat.min k (n - k) ≤ n - k := Nat.min_le_right _ _
      have hm2 : 0 < Nat.min k (n - k) := Nat.lt_min.2 ⟨hk0 (by omega), by omega⟩
      generalize hm : Nat.min k (n - k) = m at *
      have hwm : IntKind.i64.wrap ((k : Int) + (m : Int)) = ((k + m : Nat) : Int) := by have := hN.out; rw [IntWalk.i64_in _ (by omega)]; omega
      have HM := Lib.hid (And.intro hm1 (And.intro hm2 hlt))
      have HC2 : Hid (w2.heap[w.heap.size]? = some (.cells cur2 3 (0, 0)) ∧ cur2.size = n ∧ ∀ j, j < k + m → cur2[j]? = some m1) := Lib.hid ⟨g1, g2.trans h2, fun j hj => by
        by_cases h : j < k
        · rw [g3 j h]; exact h3 j h
        · exact g4 j (by omega) hj⟩
      have HB2 : Hid (Below w.heap.size w w2) := Lib.hid (HBk.out.drew.trans g5)
      have HS := Lib.hid hs1
      have HS2 := Lib.hid hs2
      have HP := Lib.hid hcp2
      clear hm hm1 hm2 h1 h2 h3 h1d g1 g2 g3 g4 g5 hs1 hs2 hcp2 hsz hlt hk0 hkn HC HBk
      go_wp2_with fail
      refine wp_region_held_drew (S := fun _ => True) (by kernel_rfl) trivial (fun _ => ?_)
      refine tk 0 trivial ?_
      try simp only [Act.put, pA, pB, pC]
      refine tk 1 trivial ?_
      try simp only [Act.put, pA, pB, pC]
      refine tk 2 trivial ?_
      try simp only [Act.put, pA, pB, pC]
      refine tk 4 trivial ?_
      try simp only [Act.put, pA, pB, pC]
      refine tk 5 trivial ?_
      try simp only [Act.put, pA, pB, pC]
      have hs1 := HS.out
      refine tk 3 trivial ?_
      try simp only [Act.put, pA, pB, pC]
      have hs2 := HS2.out
      refine tk 6 trivial ?_
      try simp only [Act.put, pA, pB, pC]
      refine one_op 7 (by kernel_rfl) rfl (by rfl) (fun K hK => ?_)
      have hcp2 := HP.out
      clear hs1 hs2
      go_simp
      refine hK _ _ trivial ?_
      try simp only [Act.put, pA, pB, pC]
      clear hK K hcp2
      refine tk 8 trivial ?_
      try simp only [Act.put, pA, pB, pC]
      refine tk 9 trivial ?_
      try simp only [Act.put, pA, pB, pC]
      refine wpAnyH_done (by kernel_rfl) ?_ _
      go_roundw
      case rel => exact ⟨_, _, _, _, _, _, _, _, _, _, _, _, _, _, ⟨k + m, cur2, by go_num, by have := HM.out; omega, fun _ => by have := HM.out; omega, HC2, HB2⟩, rfl⟩
      case measure => have := HM.out; simp [intOf]; omega
    · have q1 : ¬ (k : Int) < (n : Int) := by omega
      have hkk : k = n := by omega
      have HF := Lib.hid (show (∃ cur : Array Value, wr.heap[w.heap.size]? = some (.cells cur 3 (0, 0)) ∧ cur.size = n ∧ ∀ j, j < n → cur[j]? = some m1) ∧ Below w.heap.size w wr from ⟨⟨cur, HC.out.1, HC.out.2.1, fun j hj => HC.out.2.2 j (by omega)⟩, HBk.out⟩)
      clear hkk hlt hk0 hkn
      go_wp2
      refine bodyPost_ret (v := .slice (some ⟨w.heap.size, 0, none⟩) n n) (by simp [results, Tryd.results41, go_sem]) rfl ?_
      exact ⟨rfl, HF.out⟩
end Go.Proofs.YtplmbmecjhmiiaaDoor
