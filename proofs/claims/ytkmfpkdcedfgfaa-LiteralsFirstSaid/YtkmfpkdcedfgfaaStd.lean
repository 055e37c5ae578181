/- What the standard library's functions on slices of strings return, and ascending. Condition: at most 10^6 strings. -/
import Derived.Test.YtkmfpkdcedfgfaaKit
namespace Go.Proofs.Ytkmfpkdcedfgfaa
open Go.RowKit Go.Sort
theorem own_of_put {w : World} {B g n cap q m : Nat} {ss : List Strg} {d : Array Strg} {os : Array Obj} (h : OwnN w B (.slice (some ⟨g, 0, none⟩) n cap) ss) (hn : ss.length = n) (hd : d.size = n) (hm : m ≤ n) :
    OwnN (grow (putRow encStr (Sort.ahead w q) g 0 d) os) B (.slice (some ⟨g, 0, none⟩) m cap) (d.toList.take m) ∧ w.grownBy (grow (putRow encStr (Sort.ahead w q) g 0 d) os) (some g) := by
  subst hn
  rcases h.2 with ⟨h', _⟩ | ⟨g', cap', cur, h', hb, hg, hnc, hcm, hcs, htake⟩
  · simp at h'
  · simp only [Value.slice.injEq, Option.some.injEq, Addr.mk.injEq, and_true, true_and] at h'
    obtain ⟨rfl, rfl⟩ := h'
    have hlt : g < w.heap.size := (Array.getElem?_eq_some_iff.1 hg).1
    have hh : (grow (putRow encStr (Sort.ahead w q) g 0 d) os).heap[g]? = some (.cells (putCells encStr 0 d cur) 9 (0, 0)) := by
      rw [heap_grow_old _ _ (by simpa [putRow, mapBlock, Sort.ahead] using hlt)]
      simp [putRow, mapBlock, Sort.ahead, Array.getElem?_modify, hg, onCells]
    have hl : (d.toList.take m).length = m := by rw [List.length_take, Array.length_toList]; omega
    refine ⟨⟨by simp, .inr ⟨g, cap, _, by rw [hl], hb, hh, by rw [hl]; omega, hcm, by simp [putCells, hcs], ?_⟩⟩, rfl, rfl, rfl, ?_, fun k hk hne => ?_⟩
    · rw [hl]
      apply List.ext_getElem?
      intro j
      by_cases hj : j < m
      · rw [List.getElem?_take_of_lt (by omega), Array.getElem?_toList, List.getElem?_map, List.getElem?_take_of_lt hj, Array.getElem?_toList]
        have hc : j < cur.size := by omega
        have hdj : j < d.size := by omega
        simp [putCells, hc, hdj]
      · rw [List.getElem?_take_eq_none (by omega), List.getElem?_eq_none (by rw [List.length_map, hl]; omega)]
    · simp [putRow, mapBlock, Sort.ahead, grow]
    · rw [heap_grow_old _ _ (by simpa [putRow, mapBlock, Sort.ahead] using hk)]
      have : g ≠ k := fun e => hne (by rw [e])
      simp [putRow, mapBlock, Sort.ahead, Array.getElem?_modify, this]
theorem sort_any (v : Value) (ss : List Strg) (w : World) (B : Nat) (hO : OwnN w B v ss) (hB : B ≤ w.heap.size) (hn : ss.length ≤ 1000000000) :
    Calls Try.prog 54 #[v] w fun e w' => e = .returned (.tuple #[]) ∧ OwnN w' B v (ss.mergeSort fun x y => decide (x ≤ y)) ∧ Below B w w' := by
  rcases Nat.eq_zero_or_pos ss.length with h0 | h0
  · have hr : ss = [] := List.eq_nil_of_length_eq_zero h0
    subst hr
    obtain ⟨A, c, rfl⟩ := hO.form
    exact (Try.slices_Sort_string_none A c w).mono fun e w' ⟨he, hw⟩ => ⟨he, by rw [hw, List.mergeSort_nil]; exact hO, by rw [hw]; exact Below.refl _ _⟩
  · obtain ⟨g, c, rfl, hBg, hgs, hlc⟩ := hO.formG h0
    refine (Try.slices_Sort_string g 0 c ss w (hO.holds rfl) hgs (by omega)).mono fun e w' ⟨he, q, os, hw⟩ => ?_
    have hl : (ss.mergeSort fun x y => decide (x ≤ y)).length = ss.length := List.length_mergeSort _
    have := own_of_put (q := q) (os := os) (m := ss.length) (d := (ss.mergeSort fun x y => decide (x ≤ y)).toArray) hO rfl (by simp) (Nat.le_refl _)
    rw [← hw] at this
    refine ⟨he, ?_, (Below.refl _ _).grown this.2 hB (fun k hk => by injection hk with hk; omega)⟩
    have h1 := this.1
    rw [List.take_of_length_le (by simp)] at h1
    simpa using h1
theorem compact_any (v : Value) (ss : List Strg) (w : World) (B : Nat) (hO : OwnN w B v ss) (hB : B ≤ w.heap.size) (hn : ss.length ≤ 1000000000) :
    Calls Try.prog 55 #[v] w fun e w' => ∃ v', e = .returned v' ∧ OwnN w' B v' (Lib.compact ss) ∧ Below B w w' := by
  rcases Nat.eq_zero_or_pos ss.length with h0 | h0
  · have hr : ss = [] := List.eq_nil_of_length_eq_zero h0
    subst hr
    obtain ⟨A, c, rfl⟩ := hO.form
    exact (Try.slices_Compact_string_empty A c w).mono fun e w' ⟨he, hw⟩ => ⟨_, he, by rw [hw]; exact hO, by rw [hw]; exact Below.refl _ _⟩
  · obtain ⟨g, c, rfl, hBg, hgs, hlc⟩ := hO.formG h0
    have hcl : (Lib.compact ss).length ≤ ss.length := by
      unfold Lib.compact Lib.compactUpTo
      rw [List.length_map]
      simpa using List.length_filter_le (Lib.keeps ss.toArray) (List.range ss.length)
    refine (Try.slices_Compact_string g 0 c ss w (hO.holds rfl) (by omega) hlc).mono fun e w' ⟨he, q, hw⟩ => ?_
    have := own_of_put (q := q) (os := #[]) (m := (Lib.compact ss).length) (d := (Lib.compact ss ++ List.replicate (ss.length - (Lib.compact ss).length) []).toArray) hO rfl (by simp; omega) hcl
    rw [grow_empty, ← hw] at this
    refine ⟨_, he, ?_, (Below.refl _ _).grown this.2 hB (fun k hk => by injection hk with hk; omega)⟩
    have h1 := this.1
    rw [List.toList_toArray, List.take_left] at h1
    exact h1
set_option maxHeartbeats 800000 in
theorem ascending_any (v : Value) (ss : List Strg) (w : World) (B : Nat) (hO : OwnN w B v ss) (hB : B ≤ w.heap.size) (hn : ss.length ≤ 1000000000) :
    Calls Try.prog 42 #[v] w fun e w' => ∃ v', e = .returned v' ∧ OwnN w' B v' (srt ss) ∧ Below B w w' := by
  have hs := sort_any v ss w B hO hB hn
  go_enter Try.func42, Try.ntmps42
  go_wp2_with (go_at_call 54; refine hs.mono ?_; rintro e w1 ⟨rfl, ho1, hb1⟩; refine Hid.out ?_)
  refine Lib.hid ?_
  have hc := compact_any v _ w1 B ho1 (Nat.le_trans hB hb1.size) (by rw [List.length_mergeSort]; exact hn)
  clear hs ho1
  go_wp2_with (go_at_call 55; refine hc.mono ?_; rintro e w2 ⟨v2, rfl, ho2, hb2⟩; refine Hid.out ?_)
  refine Lib.hid ?_
  go_wp2
  go_ret
  exact ⟨_, rfl, ho2, hb1.trans hb2⟩
theorem clone_any (A : Option Addr) (n cap : Nat) (ss : List Strg) (w : World) (B : Nat) (hR : NmS w B A n ss) (hn : n ≤ 1000000000) :
    Calls Try.prog 43 #[.slice A n cap] w fun e w' => ∃ v', e = .returned v' ∧ OwnN w' w.heap.size v' ss ∧ Below w.heap.size w w' := by
  rcases Nat.eq_zero_or_pos n with h0 | h0
  · have hr : ss = [] := List.eq_nil_of_length_eq_zero (hR.1.symm.trans h0)
    subst hr
    subst h0
    rcases A with _ | a
    · exact (Try.slices_Clone_string_nil 0 cap w).mono fun e w' ⟨he, hw⟩ => ⟨_, he, OwnN.nil _ _, by rw [hw]; exact Below.refl _ _⟩
    · exact (Try.slices_Clone_string_zero a cap w).mono fun e w' ⟨v', he, ho, _, hb⟩ => ⟨v', he, ho, hb⟩
  · obtain ⟨b, off, rfl, hb, hc⟩ := hR.2.2 h0
    refine (Try.slices_Clone_string b off n cap (ss.map mkB) w (by rw [List.length_map, hR.1]; omega) (by omega) (fun j hj => ?_)).mono fun e w' ⟨v', he, ho, _, hbl⟩ => ⟨v', he, ?_, hbl⟩
    · have hj' : j < ss.length := by simpa using hj
      rw [hc j _ (List.getElem?_eq_getElem hj'), List.getD_eq_getElem?_getD, List.getElem?_map, List.getElem?_eq_getElem hj']
      rfl
    · unfold OwnN
      rw [← hR.1]
      rw [List.take_of_length_le (by rw [List.length_map, hR.1]; omega), List.map_map] at ho
      exact ho
theorem contains_std (A : Option Addr) (n cap : Nat) (ss : List Strg) (x : Strg) (w : World) (B : Nat) (hR : NmS w B A n ss) (hn : n ≤ 1000000000) :
    Calls Try.prog 29 #[.slice A n cap, .string ⟨x.toArray⟩] w fun e w' => e = .returned (.bool (decide (x ∈ ss))) ∧ w = w' := by
  rcases Nat.eq_zero_or_pos n with h0 | h0
  · have hr : ss = [] := List.eq_nil_of_length_eq_zero (hR.1.symm.trans h0)
    subst hr
    subst h0
    exact (Try.slices_Contains_string_empty A cap _ w).mono fun e w' ⟨he, hw⟩ => ⟨he, hw.symm⟩
  · obtain ⟨b, off, rfl, hb, hc⟩ := hR.2.2 h0
    refine (Try.slices_Contains_string b off n cap (ss.map mkB) ⟨x.toArray⟩ w (by rw [List.length_map, hR.1]; omega) (by omega) (fun j hj => ?_)).mono fun e w' ⟨he, hw⟩ => ⟨?_, hw.symm⟩
    · have hj' : j < ss.length := by simpa using hj
      rw [hc j _ (List.getElem?_eq_getElem hj'), List.getD_eq_getElem?_getD, List.getElem?_map, List.getElem?_eq_getElem hj']
      rfl
    · rw [he, List.take_of_length_le (by rw [List.length_map, hR.1]; omega)]
      refine ret_bool ?_
      rw [Bool.eq_iff_iff, decide_eq_true_eq]
      unfold Lib.containsS
      rw [decide_eq_true_eq, Lib.idxOfS_nonneg_iff]
      constructor
      · intro hy
        obtain ⟨s, hs, he⟩ := List.mem_map.1 hy
        rw [← mkB_inj (t := x) he]; exact hs
      · intro hx
        exact List.mem_map.2 ⟨x, hx, rfl⟩
theorem split_at (x : Strg) : ∀ l, Asc l → ∃ k, k ≤ l.length ∧ (∀ t, t < k → bl (l.getD t x) x = true) ∧ (∀ t, k ≤ t → bl (l.getD t x) x = false)
  | [], _ => ⟨0, Nat.le_refl _, fun t ht => by omega, fun t _ => by simpa using bl_irrefl x⟩
  | a :: l, h => by
    have h' := List.pairwise_cons.1 h
    by_cases ha : bl a x = true
    · obtain ⟨k, h1, h2, h3⟩ := split_at x l h'.2
      refine ⟨k + 1, by simp; omega, fun t ht => ?_, fun t ht => ?_⟩
      · cases t with
        | zero => simpa using ha
        | succ t => simpa using h2 t (by omega)
      · cases t with
        | zero => omega
        | succ t => simpa using h3 t (by omega)
    · refine ⟨0, Nat.zero_le _, fun t ht => by omega, fun t _ => ?_⟩
      cases t with
      | zero => simpa using ha
      | succ t =>
        cases hq : bl ((a :: l).getD (t + 1) x) x
        · rfl
        · exfalso
          simp only [List.getD_cons_succ] at hq
          rw [List.getD_eq_getElem?_getD] at hq
          cases e : l[t]? with
          | none => rw [e] at hq; simp only [Option.getD_none] at hq; rw [bl_irrefl] at hq; cases hq
          | some y =>
            rw [e] at hq
            exact ha (bl_trans (h'.1 y (List.mem_of_getElem? e)) hq)
theorem bsearch_any (A : Option Addr) (n cap : Nat) (ss : List Strg) (x : Strg) (w : World) (B : Nat) (hR : NmS w B A n ss) (ha : Asc ss) (hn : n ≤ 1000000000) :
    Calls Try.prog 57 #[.slice A n cap, .string ⟨x.toArray⟩] w fun e w' => ∃ k : Int, e = .returned (.tuple #[.int .i64 k, .bool (decide (x ∈ ss))]) ∧ ∃ q, w' = w.drewN q := by
  rcases Nat.eq_zero_or_pos n with h0 | h0
  · have hr : ss = [] := List.eq_nil_of_length_eq_zero (hR.1.symm.trans h0)
    subst hr
    subst h0
    have h := Any2.slices_BinarySearch_string_empty Try.laysNm226 A cap ⟨x.toArray⟩ w
    exact Calls.mono (f := 57) h fun e w' ⟨he, hw⟩ => ⟨0, he, 0, hw⟩
  · obtain ⟨b, off, rfl, hb, hc⟩ := hR.2.2 h0
    obtain ⟨k, hk, hlo, hhi⟩ := split_at x ss ha
    have hl := hR.1
    have h := Any2.slices_BinarySearch_string Try.laysNm226 b off n cap (fun j => mkB (ss.getD j x)) ⟨x.toArray⟩ w (by omega) (fun j hj => by
      have hj' : j < ss.length := by omega
      rw [hc j _ (List.getElem?_eq_getElem hj'), List.getD_eq_getElem?_getD, List.getElem?_eq_getElem hj']
      rfl)
    have hbs : Lib.bsGo (fun t => Op.bytesLess (mkB (ss.getD t x)).toList (⟨x.toArray⟩ : ByteArray).toList) n 0 n = k := by
      refine Lib.bsGo_spec _ k (fun t ht => ?_) (fun t ht => ?_) n 0 n (by omega) (by omega) (by omega)
      · rw [Lib.toList_data, Lib.toList_data, mkB_list]; exact hlo t ht
      · rw [Lib.toList_data, Lib.toList_data, mkB_list]; exact hhi t ht
    rw [hbs] at h
    refine Calls.mono (f := 57) h fun e w' ⟨he, q, hw⟩ => ⟨k, ?_, q, hw⟩
    rw [he]
    refine congrArg (fun q => Ending.returned (.tuple #[.int .i64 (k : Int), .bool q])) ?_
    rw [decide_eq_decide]
    constructor
    · rintro ⟨h1, h2⟩
      have e : ss.getD k x = x := mkB_inj h2
      rw [List.getD_eq_getElem?_getD, List.getElem?_eq_getElem (show k < ss.length by omega)] at e
      rw [← e]; exact List.getElem_mem _
    · intro hx
      obtain ⟨j, hj, e⟩ := List.getElem_of_mem hx
      have hxj : ss[j]? = some x := by rw [List.getElem?_eq_getElem hj, e]
      have hjk : ¬ j < k := fun hlt => by
        have := hlo j hlt
        rw [List.getD_eq_getElem?_getD, hxj] at this
        simp only [Option.getD_some] at this
        rw [bl_irrefl] at this; cases this
      have hkj : ¬ k < j := fun hlt => by
        have hk' : k < ss.length := by omega
        have h1 := asc_at ha hlt (List.getElem?_eq_getElem hk') hxj
        have h2 := hhi k (Nat.le_refl _)
        rw [List.getD_eq_getElem?_getD, List.getElem?_eq_getElem hk'] at h2
        simp only [Option.getD_some] at h2
        rw [h1] at h2; cases h2
      obtain rfl : j = k := by omega
      refine ⟨by omega, ?_⟩
      rw [List.getD_eq_getElem?_getD, hxj]; rfl
set_option maxRecDepth 100000 in
set_option maxHeartbeats 800000 in
theorem grow_any (n : Nat) (w : World) (hn : n ≤ 1000000000) :
    Calls Try.prog 56 #[.slice none 0 0, .int .i64 n] w fun e w' => ∃ v, e = .returned v ∧ OwnN w' w.heap.size v [] ∧ Below w.heap.size w w' := by
  rcases Nat.eq_zero_or_pos n with h0 | h0
  · subst h0
    go_enter Try.func56, Try.ntmps56
    go_wp2
    all_goals go_ret
    all_goals exact ⟨_, rfl, OwnN.nil _ _, Below.refl _ _⟩
  · obtain ⟨i0, hi, hz0, hz1, hz2⟩ := info_parts Try.infoStr
    have happ := Lib.run_append_nil_zeros (P := Try.prog) w 22 3 22 9 i0 (.string ⟨#[]⟩) .i64 .i64 Try.underlying22 Try.underlying3 hi hz0 n (by omega) (by omega) (by omega) (by rw [hz2]; omega)
    generalize hcap : grownCap w n 0 9 = cap2 at happ
    have hcapge : n ≤ cap2 := by rw [← hcap]; exact grownCap_ge w _ 0 9
    have hcaple : cap2 ≤ maxLen := by rw [← hcap]; exact grownCap_le_maxLen w _ 0 9 (by unfold maxLen; omega)
    generalize hZ : (Builtin.zeroCells (Value.string ⟨#[]⟩).cells n ++ Builtin.zeroCells (Value.string ⟨#[]⟩).cells (cap2 - n)) = Z at happ
    have hZs : Z.size = cap2 * 1 := by rw [← hZ]; simp [size_zeroCells, Value.cells]; omega
    clear hcap hZ
    have HZ := Lib.hid hZs
    have HC := Lib.hid hcaple
    clear hZs hcaple
    go_enter Try.func56, Try.ntmps56
    go_wp2_with (at_builtin; refine Lib.wpList_append_run _ rfl _ _ _ _ rfl _ _ rfl rfl _ _ happ ?_)
    all_goals go_ret
    all_goals exact ⟨_, rfl, ⟨rfl, .inr ⟨w.heap.size, cap2, Z, rfl, Nat.le_refl _, heap_alloc_new w.drew _, Nat.zero_le _, HC.out, HZ.out, by simp⟩⟩, ((Below.refl _ _).drew).alloc (Nat.le_refl _) _⟩
set_option maxRecDepth 100000 in
set_option maxHeartbeats 1600000 in
theorem concat_any (A A' : Option Addr) (n c n' c' : Nat) (rs rs' : List Strg) (b : Nat) (w : World) (hR : NmS w w.heap.size A n rs) (hR' : NmS w w.heap.size A' n' rs') (hn : n ≤ 1000000) (hn' : n' ≤ 1000000) (hb : b < w.heap.size)
    (h0 : w.cell? ⟨b, 0, none⟩ = some (.slice A n c)) (h1 : w.cell? ⟨b, 1, none⟩ = some (.slice A' n' c')) :
    Calls Try.prog 45 #[.slice (some ⟨b, 0, none⟩) 2 2] w fun e w' => ∃ v, e = .returned v ∧ OwnN w' w.heap.size v (rs ++ rs') ∧ Below w.heap.size w w' := by
  have HR := Lib.hid hR
  have HR' := Lib.hid hR'
  clear hR hR'
  have hg := fun W => grow_any (n + n') W (by omega)
  go_enter Try.func45, Try.ntmps45
  go_wp2
  go_loop [3, 5, 11] (fun sz _ i => ∃ k : Nat, i = .int .i64 k ∧ ((k = 0 ∧ sz = .int .i64 0) ∨ (k = 1 ∧ sz = .int .i64 n) ∨ (k = 2 ∧ sz = .int .i64 (n + n' : Nat)))) (fun _ _ i => 2 - (intOf i).toNat)
  case atStart => exact ⟨0, rfl, .inl ⟨rfl, rfl⟩⟩
  case round =>
    obtain ⟨k, rfl, ⟨rfl, rfl⟩ | ⟨rfl, rfl⟩ | ⟨rfl, rfl⟩⟩ := hrel
    · go_wp2
      all_goals go_round
      case rel => exact ⟨1, by go_num, .inr (.inl ⟨rfl, by first | rfl | go_num | (simp)⟩)⟩
      case measure => simp [intOf]
    · go_wp2
      all_goals go_round
      case rel => exact ⟨2, by go_num, .inr (.inr ⟨rfl, by first | rfl | go_num | (simp)⟩)⟩
      case measure => simp [intOf]
    · go_wp2_with (go_at_call 56; refine (hg _).mono ?_; rintro e w1 ⟨v1, rfl, ho1, hb1⟩; refine Hid.out ?_)
      refine Lib.hid ?_
      have hs1 := hb1.size
      have HO1 := Lib.hid ho1
      clear ho1
      go_wp2
      go_loopw [6, 8, 27] (fun v _ i wr => ∃ (k : Nat) (l : List Strg), i = .int .i64 k ∧ ((k = 0 ∧ l = []) ∨ (k = 1 ∧ l = rs) ∨ (k = 2 ∧ l = rs ++ rs')) ∧ OwnN wr w.heap.size v l ∧ Below w.heap.size w wr) (fun _ _ i _ => 2 - (intOf i).toNat)
      case atStart => exact ⟨0, [], rfl, .inl ⟨rfl, rfl⟩, HO1.out, hb1⟩
      case round =>
        obtain ⟨k, l, rfl, hk, hO, hbw⟩ := hrel
        have HO := Lib.hid hO
        have hsw := hbw.size
        have c0 : wr.cell? ⟨b, 0, none⟩ = some (.slice A n c) := (hbw.cell (p := ⟨b, 0, none⟩) hb).trans h0
        have c1 : wr.cell? ⟨b, 1, none⟩ = some (.slice A' n' c') := (hbw.cell (p := ⟨b, 1, none⟩) hb).trans h1
        clear hO h0 h1
        rcases hk with ⟨rfl, rfl⟩ | ⟨rfl, rfl⟩ | ⟨rfl, rfl⟩
        · go_wp2_with (at_builtin; (refine wp_app_src rfl _ _ rfl w.heap.size w.heap.size _ _ rfl HO.out A n c rs rfl (HR.out.below hbw) (by simp; omega) hsw ?_); intro v' w4 hown' hb4; refine Hid.out ?_)
          refine Lib.hid ?_
          go_wp2
          go_roundw
          case rel => exact ⟨1, rs, by go_num, .inr (.inl ⟨rfl, rfl⟩), hown', hbw.trans hb4⟩
          case measure => simp [intOf]
        · go_wp2_with (at_builtin; (refine wp_app_src rfl _ _ rfl w.heap.size w.heap.size _ _ rfl HO.out A' n' c' rs' rfl (HR'.out.below hbw) (by have := HR.out.1; omega) hsw ?_); intro v' w4 hown' hb4; refine Hid.out ?_)
          refine Lib.hid ?_
          go_wp2
          go_roundw
          case rel => exact ⟨2, l ++ rs', by go_num, .inr (.inr ⟨rfl, rfl⟩), hown', hbw.trans hb4⟩
          case measure => simp [intOf]
        · go_wp2
          all_goals go_ret
          all_goals exact ⟨_, rfl, HO.out, hbw⟩
end Go.Proofs.Ytkmfpkdcedfgfaa
