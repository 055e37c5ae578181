/- The order of keys, and the walk of the law IdentOrder: it returns true. -/
import Derived.Test.YtjinngobiefifaaDoorAwake
import Derived.Test.YtjinngobiefifaaDoorOrder
import Derived.Deep.RegionHeld3
import Derived.Test.YtjinngobiefifaaDoorParseKey
namespace Go.Proofs.YtjinngobiefifaaDoor
open Go.RowKit
theorem compare_self (a : List UInt8) : Lib.compareBytes a a = 0 := compare_eq rfl
theorem compareBytes_spec : ∀ (a b : List UInt8), (Lib.compareBytes a b = -1 ∨ Lib.compareBytes a b = 0 ∨ Lib.compareBytes a b = 1) ∧ Lib.compareBytes b a = -Lib.compareBytes a b ∧ (Lib.compareBytes a b = 0 ↔ a = b)
  | [], [] => by simp [Lib.compareBytes]
  | [], _ :: _ => by simp [Lib.compareBytes]
  | _ :: _, [] => by simp [Lib.compareBytes]
  | a :: x, b :: y => by
    have ih := compareBytes_spec x y
    unfold Lib.compareBytes
    by_cases h : a < b
    · have h2 : ¬ b < a := UInt8.not_lt.2 (UInt8.le_of_lt h)
      have hne : a ≠ b := by intro e; subst e; exact UInt8.lt_irrefl _ h
      simp [h, h2, hne]
    · by_cases h2 : b < a
      · have hne : a ≠ b := by intro e; subst e; exact UInt8.lt_irrefl _ h2
        simp [h, h2, hne]
      · have e : a = b := UInt8.le_antisymm (UInt8.not_lt.1 h2) (UInt8.not_lt.1 h)
        subst e
        simp only [if_neg h]
        refine ⟨ih.1, ih.2.1, ih.2.2.trans ?_⟩
        simp
theorem compareBytes_trans : ∀ (a b c : List UInt8), Lib.compareBytes a b ≤ 0 → Lib.compareBytes b c ≤ 0 → Lib.compareBytes a c ≤ 0 ∧ (Lib.compareBytes a b < 0 → Lib.compareBytes a c < 0) ∧ (Lib.compareBytes b c < 0 → Lib.compareBytes a c < 0)
  | [], [], [] => by simp [Lib.compareBytes]
  | [], [], _ :: _ => by simp [Lib.compareBytes]
  | [], _ :: _, [] => by simp [Lib.compareBytes]
  | [], _ :: _, _ :: _ => by simp [Lib.compareBytes]
  | _ :: _, [], _ => by simp [Lib.compareBytes]
  | _ :: _, _ :: _, [] => by simp [Lib.compareBytes]
  | a :: x, b :: y, c :: z => by
    have ih := compareBytes_trans x y z
    unfold Lib.compareBytes
    simp only [UInt8.lt_iff_toNat_lt]
    intro h1 h2
    by_cases p1 : a.toNat < b.toNat
    · by_cases p2 : b.toNat < c.toNat
      · have : a.toNat < c.toNat := by omega
        simp [this]
      · by_cases p3 : c.toNat < b.toNat
        · simp [p2, p3] at h2
        · have : a.toNat < c.toNat := by omega
          simp [this]
    · by_cases p1' : b.toNat < a.toNat
      · simp [p1, p1'] at h1
      · simp only [if_neg p1, if_neg p1'] at h1 ⊢
        by_cases p2 : b.toNat < c.toNat
        · have : a.toNat < c.toNat := by omega
          simp [this]
        · by_cases p3 : c.toNat < b.toNat
          · simp [p2, p3] at h2
          · have q1 : ¬ a.toNat < c.toNat := by omega
            have q2 : ¬ c.toNat < a.toNat := by omega
            simp only [if_neg p2, if_neg p3, if_neg q1, if_neg q2] at h2 ⊢
            exact ih h1 h2
theorem cmpKey_spec (k1 k2 : Int) (s1 s2 : List UInt8) : (cmpKey k1 s1 k2 s2 = -1 ∨ cmpKey k1 s1 k2 s2 = 0 ∨ cmpKey k1 s1 k2 s2 = 1) ∧ cmpKey k2 s2 k1 s1 = -cmpKey k1 s1 k2 s2 ∧ (cmpKey k1 s1 k2 s2 = 0 ↔ k1 = k2 ∧ s1 = s2) := by
  have h := compareBytes_spec s1 s2
  unfold cmpKey
  by_cases p : k1 < k2
  · have q : ¬ k2 < k1 := by omega
    have r : k1 ≠ k2 := by omega
    simp [p, q, r]
  · by_cases q : k2 < k1
    · have r : k1 ≠ k2 := by omega
      simp [p, q, r]
    · have r : k1 = k2 := by omega
      subst r
      simp only [if_neg p, true_and]
      exact h
theorem cmpKey_trans (k1 k2 k3 : Int) (s1 s2 s3 : List UInt8) (h1 : cmpKey k1 s1 k2 s2 ≤ 0) (h2 : cmpKey k2 s2 k3 s3 ≤ 0) : cmpKey k1 s1 k3 s3 ≤ 0 ∧ (cmpKey k1 s1 k2 s2 < 0 → cmpKey k1 s1 k3 s3 < 0) := by
  have h := compareBytes_trans s1 s2 s3
  unfold cmpKey at *
  by_cases p : k1 < k2
  · by_cases q : k2 < k3
    · have : k1 < k3 := by omega
      simp [this]
    · by_cases q' : k3 < k2
      · simp [q, q'] at h2
      · have : k1 < k3 := by omega
        simp [this]
  · by_cases p' : k2 < k1
    · simp [p, p'] at h1
    · by_cases q : k2 < k3
      · have : k1 < k3 := by omega
        simp [this]
      · by_cases q' : k3 < k2
        · simp [q, q'] at h2
        · have e1 : ¬ k1 < k3 := by omega
          have e2 : ¬ k3 < k1 := by omega
          simp only [if_neg p, if_neg p', if_neg q, if_neg q', if_neg e1, if_neg e2] at *
          exact ⟨(h h1 h2).1, (h h1 h2).2.1⟩
/-- three boxed keys in the blocks from B on, and the frame -/
def Held3 (w : World) (k1 k2 k3 : Int) (s1 s2 s3 : ByteArray) (wq : World) : Prop :=
  wq.cell? ⟨w.heap.size, 0, none⟩ = some (.int .i64 k1) ∧ wq.cell? ⟨w.heap.size, 1, none⟩ = some (.string s1) ∧ wq.cell? ⟨w.heap.size + 1, 0, none⟩ = some (.int .i64 k2) ∧ wq.cell? ⟨w.heap.size + 1, 1, none⟩ = some (.string s2) ∧
    wq.cell? ⟨w.heap.size + 1 + 1, 0, none⟩ = some (.int .i64 k3) ∧ wq.cell? ⟨w.heap.size + 1 + 1, 1, none⟩ = some (.string s3) ∧ w.heap.size + 2 < wq.heap.size ∧ Below w.heap.size w wq
theorem Held3.next {w wq w' : World} {k1 k2 k3 : Int} {s1 s2 s3 : ByteArray} (hb : Below wq.heap.size wq w') (h : Held3 w k1 k2 k3 s1 s2 s3 wq) : Held3 w k1 k2 k3 s1 s2 s3 w' := by
  obtain ⟨a1, a2, a3, a4, a5, a6, hz, hB⟩ := h
  exact ⟨(hb.cell (p := ⟨w.heap.size, 0, none⟩) (by simp; omega)).trans a1, (hb.cell (p := ⟨w.heap.size, 1, none⟩) (by simp; omega)).trans a2, (hb.cell (p := ⟨w.heap.size + 1, 0, none⟩) (by simp; omega)).trans a3, (hb.cell (p := ⟨w.heap.size + 1, 1, none⟩) (by simp; omega)).trans a4,
    (hb.cell (p := ⟨w.heap.size + 1 + 1, 0, none⟩) (by simp; omega)).trans a5, (hb.cell (p := ⟨w.heap.size + 1 + 1, 1, none⟩) (by simp; omega)).trans a6, by have := hb.size; omega, hB.trans (hb.mono (by omega))⟩
theorem third_box (w : World) (A B : Obj) (c d : Value) (T : TypeId) : (((w.alloc A).alloc B).alloc (.cells #[c, d] T)).heap[w.heap.size + 1 + 1]? = some (.cells #[c, d] T (0, 0)) := by
  have h := heap_alloc_new ((w.alloc A).alloc B) (.cells #[c, d] T)
  simpa using h
set_option maxRecDepth 100000 in
set_option maxHeartbeats 6400000 in
theorem identOrder_any (k1 k2 k3 : Int) (s1 s2 s3 : ByteArray) (w : World) (_h1 : s1.size ≤ maxLen) (_h2 : s2.size ≤ maxLen) (_h3 : s3.size ≤ maxLen) :
    Calls Tryd.prog 4 #[.agg #[.int .i64 k1, .string s1], .agg #[.int .i64 k2, .string s2], .agg #[.int .i64 k3, .string s3]] w fun e w' => e = .returned (.bool true) ∧ Below w.heap.size w w' := by
  obtain ⟨X, hX⟩ : ∃ X, cmpKey k1 s1.data.toList k2 s2.data.toList = X := ⟨_, rfl⟩
  obtain ⟨Y, hY⟩ : ∃ Y, cmpKey k2 s2.data.toList k3 s3.data.toList = Y := ⟨_, rfl⟩
  obtain ⟨Z, hZ⟩ : ∃ Z, cmpKey k1 s1.data.toList k3 s3.data.toList = Z := ⟨_, rfl⟩
  have p12 := cmpKey_spec k1 k2 s1.data.toList s2.data.toList
  have p23 := cmpKey_spec k2 k3 s2.data.toList s3.data.toList
  have p13 := cmpKey_spec k1 k3 s1.data.toList s3.data.toList
  have tr := cmpKey_trans k1 k2 k3 s1.data.toList s2.data.toList s3.data.toList
  have a12 := Lib.hid (fun w => compareKeys_any k1 k2 s1 s2 w)
  have a23 := Lib.hid (fun w => compareKeys_any k2 k3 s2 s3 w)
  have a13 := Lib.hid (fun w => compareKeys_any k1 k3 s1 s3 w)
  have a21 := Lib.hid (fun w => compareKeys_any k2 k1 s2 s1 w)
  have r12 := Lib.hid (fun w => refCompareKeys_any k1 k2 s1 s2 w)
  rw [p12.2.1] at a21
  rw [hX] at a12 a21 p12 tr r12
  rw [hY] at a23 p23 tr
  rw [hZ] at a13 p13 tr
  have KN : Hid (k1 = 0 → k2 = 1 → X = -1) := Lib.hid (by rintro rfl rfl; rw [← hX]; simp [cmpKey])
  clear hX hY hZ
  have P12 := Lib.hid p12
  have P23 := Lib.hid p23
  have P13 := Lib.hid p13
  have TR := Lib.hid tr
  clear p12 p23 p13 tr
  have hb0 : Below w.heap.size w (((w.alloc (.cells #[.int .i64 k1, .string s1] 23)).alloc (.cells #[.int .i64 k2, .string s2] 23)).alloc (.cells #[.int .i64 k3, .string s3] 23)).drew := ((((Below.refl _ _).alloc (Nat.le_refl _) _).alloc (by simp) _).alloc (by simp; omega) _).drew
  have h3b := third_box w (.cells #[.int .i64 k1, .string s1] 23) (.cells #[.int .i64 k2, .string s2] 23) (.int .i64 k3) (.string s3) 23
  have h5 : ((((w.alloc (.cells #[.int .i64 k1, .string s1] 23)).alloc (.cells #[.int .i64 k2, .string s2] 23)).alloc (.cells #[.int .i64 k3, .string s3] 23)).drew).cell? ⟨w.heap.size + 1 + 1, 0, none⟩ = some (.int .i64 k3) := by
    rw [Lib.cell_of_heap (w := World.drew _) h3b]; rfl
  have h6 : ((((w.alloc (.cells #[.int .i64 k1, .string s1] 23)).alloc (.cells #[.int .i64 k2, .string s2] 23)).alloc (.cells #[.int .i64 k3, .string s3] 23)).drew).cell? ⟨w.heap.size + 1 + 1, 1, none⟩ = some (.string s3) := by
    rw [Lib.cell_of_heap (w := World.drew _) h3b]; rfl
  have H3b := Lib.hid h3b
  clear h3b
  have h7 := Lib.hid (show Held3 w k1 k2 k3 s1 s2 s3 (((w.alloc (.cells #[.int .i64 k1, .string s1] 23)).alloc (.cells #[.int .i64 k2, .string s2] 23)).alloc (.cells #[.int .i64 k3, .string s3] 23)).drew by
    refine ⟨?_, ?_, ?_, ?_, h5, h6, ?_, hb0⟩
    · go_simp
    · go_simp
    · go_simp
    · go_simp
    · simp)
  clear h5 h6
  go_enter Tryd.func4, Tryd.ntmps4
  go_wp2_with fail
  go_region_held3 (fun wq => wq.cell? ⟨w.heap.size, 0, none⟩ = some (.int .i64 k1) ∧ wq.cell? ⟨w.heap.size, 1, none⟩ = some (.string s1) ∧ wq.cell? ⟨w.heap.size + 1, 0, none⟩ = some (.int .i64 k2) ∧ wq.cell? ⟨w.heap.size + 1, 1, none⟩ = some (.string s2) ∧ wq.cell? ⟨w.heap.size + 1 + 1, 0, none⟩ = some (.int .i64 k3) ∧ wq.cell? ⟨w.heap.size + 1 + 1, 1, none⟩ = some (.string s3) ∧ w.heap.size + 2 < wq.heap.size ∧ Below w.heap.size w wq) (first | exact h7.out | exact Held3.next (by assumption) (by assumption) | go_keep) (first | (go_at_call 17; ((with_reducible refine (a12.out _).mono ?_); rintro e w' ⟨rfl, hb⟩)) | (go_at_call 17; ((with_reducible refine (a23.out _).mono ?_); rintro e w' ⟨rfl, hb2⟩)) | (go_at_call 17; ((with_reducible refine (a13.out _).mono ?_); rintro e w' ⟨rfl, hb3⟩)))
  obtain ⟨c1, c2, c3, c4, c5, c6, c7, c8⟩ : Held3 w k1 k2 k3 s1 s2 s3 w' := by assumption
  have hH : Hid (Held3 w k1 k2 k3 s1 s2 s3 w') := Lib.hid ⟨c1, c2, c3, c4, c5, c6, c7, c8⟩
  have KE : Hid (X = 0 ↔ (k1 = k2 ∧ s1 = s2)) := Lib.hid (P12.out.2.2.trans ⟨fun h => ⟨h.1, by rw [← ba_mk s1, ← ba_mk s2, h.2]⟩, fun h => ⟨h.1, by rw [h.2]⟩⟩)
  have hx := P12.out.1
  have hy := P23.out.1
  have hz := P13.out.1
  have hbad : Hid (X ≤ 0 → Y ≤ 0 → Z ≤ 0 ∧ (X < 0 → Z < 0)) := TR
  clear c1 c2 c3 c4 c5 c6 c7 c8
  cases a0 : (k1 != 0)
  · cases a1 : (k2 != 1)
    · obtain rfl : X = -1 := KN.out (by simpa using a0) (by simpa using a1)
      have hk : (k1 == k2) = false := by simp at a0 a1; rw [beq_eq_false_iff_ne]; omega
      obtain ⟨c1, c2, c3, c4, c5, c6, c7, c8⟩ := hH.out
      go_wp2_with (first | (go_at_call 17; refine (a21.out _).mono ?_; rintro e w2 ⟨rfl, hb2⟩; obtain ⟨c1, c2, c3, c4, c5, c6, c7, c8⟩ := hH.out.next hb2) | (go_at_call 18; refine (r12.out _).mono ?_; rintro e w3 ⟨rfl, hb3⟩) | (go_at_call 16; refine (awake_any _).mono ?_; rintro e w4 ⟨rfl, hb4⟩))
      all_goals first | (go_ret; exact ⟨ret_bool (by have hbb := hbad.out; first | (simp; done) | (simp; omega)), (c8.trans (hb3.mono (by omega))).trans (hb4.mono (by have := hb3.size; omega))⟩) | (exfalso; have hb := hbad.out; omega)
    · by_cases hkk : k1 = k2
      · subst hkk
        by_cases hss : s1 = s2
        · subst hss
          obtain rfl : X = 0 := KE.out.2 ⟨rfl, rfl⟩
          obtain ⟨c1, c2, c3, c4, c5, c6, c7, c8⟩ := hH.out
          go_wp2_with (first | (go_at_call 17; refine (a21.out _).mono ?_; rintro e w2 ⟨rfl, hb2⟩; obtain ⟨c1, c2, c3, c4, c5, c6, c7, c8⟩ := hH.out.next hb2) | (go_at_call 18; refine (r12.out _).mono ?_; rintro e w3 ⟨rfl, hb3⟩) | (go_at_call 16; refine (awake_any _).mono ?_; rintro e w4 ⟨rfl, hb4⟩))
          all_goals first | (go_ret; exact ⟨ret_bool (by have hbb := hbad.out; first | (simp; done) | (simp; omega)), (c8.trans (hb3.mono (by omega))).trans (hb4.mono (by have := hb3.size; omega))⟩) | (exfalso; have hb := hbad.out; omega)
        · have q1 : (s1.toList == s2.toList) = false := by
            rw [Lib.toList_data, Lib.toList_data, beq_eq_false_iff_ne]; intro e; exact hss (by rw [← ba_mk s1, ← ba_mk s2, e])
          have hne : X ≠ 0 := fun e => hss (KE.out.1 e).2
          clear hss
          rcases hx with rfl | rfl | rfl
          · clear hne
            obtain ⟨c1, c2, c3, c4, c5, c6, c7, c8⟩ := hH.out
            go_wp2_with (first | (go_at_call 17; refine (a21.out _).mono ?_; rintro e w2 ⟨rfl, hb2⟩; obtain ⟨c1, c2, c3, c4, c5, c6, c7, c8⟩ := hH.out.next hb2) | (go_at_call 18; refine (r12.out _).mono ?_; rintro e w3 ⟨rfl, hb3⟩) | (go_at_call 16; refine (awake_any _).mono ?_; rintro e w4 ⟨rfl, hb4⟩))
            all_goals first | (go_ret; exact ⟨ret_bool (by have hbb := hbad.out; first | (simp; done) | (simp; omega)), (c8.trans (hb3.mono (by omega))).trans (hb4.mono (by have := hb3.size; omega))⟩) | (exfalso; have hb := hbad.out; omega)
          · exact absurd rfl hne
          · clear hne
            obtain ⟨c1, c2, c3, c4, c5, c6, c7, c8⟩ := hH.out
            go_wp2_with (first | (go_at_call 17; refine (a21.out _).mono ?_; rintro e w2 ⟨rfl, hb2⟩; obtain ⟨c1, c2, c3, c4, c5, c6, c7, c8⟩ := hH.out.next hb2) | (go_at_call 18; refine (r12.out _).mono ?_; rintro e w3 ⟨rfl, hb3⟩) | (go_at_call 16; refine (awake_any _).mono ?_; rintro e w4 ⟨rfl, hb4⟩))
            all_goals first | (go_ret; exact ⟨ret_bool (by have hbb := hbad.out; first | (simp; done) | (simp; omega)), (c8.trans (hb3.mono (by omega))).trans (hb4.mono (by have := hb3.size; omega))⟩) | (exfalso; have hb := hbad.out; omega)
      · have hk : (k1 == k2) = false := by rw [beq_eq_false_iff_ne]; exact hkk
        have hne : X ≠ 0 := fun e => hkk (KE.out.1 e).1
        clear hkk
        rcases hx with rfl | rfl | rfl
        · clear hne
          obtain ⟨c1, c2, c3, c4, c5, c6, c7, c8⟩ := hH.out
          go_wp2_with (first | (go_at_call 17; refine (a21.out _).mono ?_; rintro e w2 ⟨rfl, hb2⟩; obtain ⟨c1, c2, c3, c4, c5, c6, c7, c8⟩ := hH.out.next hb2) | (go_at_call 18; refine (r12.out _).mono ?_; rintro e w3 ⟨rfl, hb3⟩) | (go_at_call 16; refine (awake_any _).mono ?_; rintro e w4 ⟨rfl, hb4⟩))
          all_goals first | (go_ret; exact ⟨ret_bool (by have hbb := hbad.out; first | (simp; done) | (simp; omega)), (c8.trans (hb3.mono (by omega))).trans (hb4.mono (by have := hb3.size; omega))⟩) | (exfalso; have hb := hbad.out; omega)
        · exact absurd rfl hne
        · clear hne
          obtain ⟨c1, c2, c3, c4, c5, c6, c7, c8⟩ := hH.out
          go_wp2_with (first | (go_at_call 17; refine (a21.out _).mono ?_; rintro e w2 ⟨rfl, hb2⟩; obtain ⟨c1, c2, c3, c4, c5, c6, c7, c8⟩ := hH.out.next hb2) | (go_at_call 18; refine (r12.out _).mono ?_; rintro e w3 ⟨rfl, hb3⟩) | (go_at_call 16; refine (awake_any _).mono ?_; rintro e w4 ⟨rfl, hb4⟩))
          all_goals first | (go_ret; exact ⟨ret_bool (by have hbb := hbad.out; first | (simp; done) | (simp; omega)), (c8.trans (hb3.mono (by omega))).trans (hb4.mono (by have := hb3.size; omega))⟩) | (exfalso; have hb := hbad.out; omega)
  · by_cases hkk : k1 = k2
    · subst hkk
      by_cases hss : s1 = s2
      · subst hss
        obtain rfl : X = 0 := KE.out.2 ⟨rfl, rfl⟩
        obtain ⟨c1, c2, c3, c4, c5, c6, c7, c8⟩ := hH.out
        go_wp2_with (first | (go_at_call 17; refine (a21.out _).mono ?_; rintro e w2 ⟨rfl, hb2⟩; obtain ⟨c1, c2, c3, c4, c5, c6, c7, c8⟩ := hH.out.next hb2) | (go_at_call 18; refine (r12.out _).mono ?_; rintro e w3 ⟨rfl, hb3⟩) | (go_at_call 16; refine (awake_any _).mono ?_; rintro e w4 ⟨rfl, hb4⟩))
        all_goals first | (go_ret; exact ⟨ret_bool (by have hbb := hbad.out; first | (simp; done) | (simp; omega)), (c8.trans (hb3.mono (by omega))).trans (hb4.mono (by have := hb3.size; omega))⟩) | (exfalso; have hb := hbad.out; omega)
      · have q1 : (s1.toList == s2.toList) = false := by
          rw [Lib.toList_data, Lib.toList_data, beq_eq_false_iff_ne]; intro e; exact hss (by rw [← ba_mk s1, ← ba_mk s2, e])
        have hne : X ≠ 0 := fun e => hss (KE.out.1 e).2
        clear hss
        rcases hx with rfl | rfl | rfl
        · clear hne
          obtain ⟨c1, c2, c3, c4, c5, c6, c7, c8⟩ := hH.out
          go_wp2_with (first | (go_at_call 17; refine (a21.out _).mono ?_; rintro e w2 ⟨rfl, hb2⟩; obtain ⟨c1, c2, c3, c4, c5, c6, c7, c8⟩ := hH.out.next hb2) | (go_at_call 18; refine (r12.out _).mono ?_; rintro e w3 ⟨rfl, hb3⟩) | (go_at_call 16; refine (awake_any _).mono ?_; rintro e w4 ⟨rfl, hb4⟩))
          all_goals first | (go_ret; exact ⟨ret_bool (by have hbb := hbad.out; first | (simp; done) | (simp; omega)), (c8.trans (hb3.mono (by omega))).trans (hb4.mono (by have := hb3.size; omega))⟩) | (exfalso; have hb := hbad.out; omega)
        · exact absurd rfl hne
        · clear hne
          obtain ⟨c1, c2, c3, c4, c5, c6, c7, c8⟩ := hH.out
          go_wp2_with (first | (go_at_call 17; refine (a21.out _).mono ?_; rintro e w2 ⟨rfl, hb2⟩; obtain ⟨c1, c2, c3, c4, c5, c6, c7, c8⟩ := hH.out.next hb2) | (go_at_call 18; refine (r12.out _).mono ?_; rintro e w3 ⟨rfl, hb3⟩) | (go_at_call 16; refine (awake_any _).mono ?_; rintro e w4 ⟨rfl, hb4⟩))
          all_goals first | (go_ret; exact ⟨ret_bool (by have hbb := hbad.out; first | (simp; done) | (simp; omega)), (c8.trans (hb3.mono (by omega))).trans (hb4.mono (by have := hb3.size; omega))⟩) | (exfalso; have hb := hbad.out; omega)
    · have hk : (k1 == k2) = false := by rw [beq_eq_false_iff_ne]; exact hkk
      have hne : X ≠ 0 := fun e => hkk (KE.out.1 e).1
      clear hkk
      rcases hx with rfl | rfl | rfl
      · clear hne
        obtain ⟨c1, c2, c3, c4, c5, c6, c7, c8⟩ := hH.out
        go_wp2_with (first | (go_at_call 17; refine (a21.out _).mono ?_; rintro e w2 ⟨rfl, hb2⟩; obtain ⟨c1, c2, c3, c4, c5, c6, c7, c8⟩ := hH.out.next hb2) | (go_at_call 18; refine (r12.out _).mono ?_; rintro e w3 ⟨rfl, hb3⟩) | (go_at_call 16; refine (awake_any _).mono ?_; rintro e w4 ⟨rfl, hb4⟩))
        all_goals first | (go_ret; exact ⟨ret_bool (by have hbb := hbad.out; first | (simp; done) | (simp; omega)), (c8.trans (hb3.mono (by omega))).trans (hb4.mono (by have := hb3.size; omega))⟩) | (exfalso; have hb := hbad.out; omega)
      · exact absurd rfl hne
      · clear hne
        obtain ⟨c1, c2, c3, c4, c5, c6, c7, c8⟩ := hH.out
        go_wp2_with (first | (go_at_call 17; refine (a21.out _).mono ?_; rintro e w2 ⟨rfl, hb2⟩; obtain ⟨c1, c2, c3, c4, c5, c6, c7, c8⟩ := hH.out.next hb2) | (go_at_call 18; refine (r12.out _).mono ?_; rintro e w3 ⟨rfl, hb3⟩) | (go_at_call 16; refine (awake_any _).mono ?_; rintro e w4 ⟨rfl, hb4⟩))
        all_goals first | (go_ret; exact ⟨ret_bool (by have hbb := hbad.out; first | (simp; done) | (simp; omega)), (c8.trans (hb3.mono (by omega))).trans (hb4.mono (by have := hb3.size; omega))⟩) | (exfalso; have hb := hbad.out; omega)
end Go.Proofs.YtjinngobiefifaaDoor
