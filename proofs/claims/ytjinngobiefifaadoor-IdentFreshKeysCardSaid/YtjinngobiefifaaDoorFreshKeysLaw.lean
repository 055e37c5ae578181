/- The walk of the law IdentFreshKeys: it returns true. -/
import Derived.Test.YtjinngobiefifaaDoorRefFreshKey
import Derived.Test.YtjinngobiefifaaDoorNamesLaw
namespace Go.Proofs.YtjinngobiefifaaDoor
open Go.RowKit
theorem fk_unused {kind : Int} {ks : List (Int × ByteArray)} {r : Int} {t : List UInt8} (h : FK kind ks r t) (j : Nat) (x1 : Int) (x2 : ByteArray) (hj : ks[j]? = some (x1, x2)) (e1 : x1 = r) (e2 : x2.data.toList = t) : kind ≠ 0 ∧ kind ≠ 1 := by
  have hin : x1 = kind → x2.data.toList ∈ textsOf kind ks := by
    intro e
    unfold textsOf
    exact List.mem_map.2 ⟨(x1, x2), List.mem_filter.2 ⟨List.mem_of_getElem? hj, by simp [e]⟩, rfl⟩
  rcases h with ⟨hk, hr, N, _, ht, _, hout⟩ | ⟨hk, hr, N, _, ht, _, hout⟩ | ⟨h1, h2, _⟩
  · exact absurd (hin (by omega)) (by rw [e2, ht]; exact hout)
  · exact absurd (hin (by omega)) (by rw [e2, ht]; exact hout)
  · exact ⟨h1, h2⟩
theorem heldNext2 {w w1 wq w' : World} {a b : Value} (hsz : w.heap.size ≤ w1.heap.size) (hb : Below wq.heap.size wq w') (h : wq.cell? ⟨w1.heap.size, 0, none⟩ = some a ∧ wq.cell? ⟨w1.heap.size, 1, none⟩ = some b ∧ w1.heap.size < wq.heap.size ∧ Below w.heap.size w wq) :
    w'.cell? ⟨w1.heap.size, 0, none⟩ = some a ∧ w'.cell? ⟨w1.heap.size, 1, none⟩ = some b ∧ w1.heap.size < w'.heap.size ∧ Below w.heap.size w w' :=
  ⟨(hb.cell (p := ⟨w1.heap.size, 0, none⟩) h.2.2.1).trans h.1, (hb.cell (p := ⟨w1.heap.size, 1, none⟩) h.2.2.1).trans h.2.1, by have := hb.size; omega, h.2.2.2.trans (hb.mono (by omega))⟩
theorem KeyS.move {w w1 wq : World} {A : Option Addr} {n : Nat} {ks : List (Int × ByteArray)} {a b : Value} (hK : KeyS w w.heap.size A n ks) (h : wq.cell? ⟨w1.heap.size, 0, none⟩ = some a ∧ wq.cell? ⟨w1.heap.size, 1, none⟩ = some b ∧ w1.heap.size < wq.heap.size ∧ Below w.heap.size w wq) : KeyS wq wq.heap.size A n ks := by
  have hk := hK.below h.2.2.2
  refine ⟨hk.1, hk.2.1, fun hn => ?_⟩
  obtain ⟨b, off, h1, h2, h3⟩ := hk.2.2 hn
  exact ⟨b, off, h1, by have := h.2.2.2.size; omega, h3⟩
set_option maxRecDepth 100000 in
set_option maxHeartbeats 3200000 in
theorem identFreshKeys_any (kind : Int) (A : Option Addr) (n cap : Nat) (ks : List (Int × ByteArray)) (w : World) (hK : KeyS w w.heap.size A n ks) (hcap : n ≤ 9223372036854775807) :
    Calls Tryd.prog 9 #[.int .i64 kind, .slice A n cap] w fun e w' => e = .returned (.bool true) ∧ Below w.heap.size w w' := by
  have HK := Lib.hid hK
  clear hK
  by_cases hn : n ≤ 60
  · obtain ⟨r, t, hfk⟩ := fk_exists kind ks (by rw [← HK.out.1]; exact hn)
    have HFK := Lib.hid hfk
    clear hfk
    go_enter Tryd.func9, Tryd.ntmps9
    go_wp2_with fail
    refine (freshKey_any kind A n cap ks r t _ HK.out (by omega) HFK.out).mono ?_
    rintro e w1 ⟨rfl, hb1⟩
    have hsz1 := hb1.size
    have HK1 := Lib.hid (HK.out.below (hb1.trans ((Below.refl w.heap.size w1).alloc hsz1 (.cells #[.int .i64 r, .string ⟨t.toArray⟩] 23))))
    go_wp2_with fail
    go_loopw [6] (fun i wr => ∃ k : Nat, i = .int .i64 k ∧ k ≤ n ∧ ∃ nq, wr = (w1.alloc (.cells #[.int .i64 r, .string ⟨t.toArray⟩] 23)).drewN nq) (fun i _ => n - (intOf i).toNat)
    case atStart => exact ⟨0, rfl, by omega, 0, rfl⟩
    case round =>
      obtain ⟨k, rfl, hk, nq, rfl⟩ := hrel
      by_cases hkn : k < n
      · obtain ⟨b, off, rfl, hbl, hc⟩ := HK1.out.2.2 (by omega)
        obtain ⟨x, hx⟩ : ∃ x, ks[k]? = some x := ⟨ks[k]'(by have := HK.out.1; omega), List.getElem?_eq_getElem _⟩
        obtain ⟨x1, x2⟩ := x
        obtain ⟨hc1, hc2⟩ := hc k _ hx
        simp only at hc1 hc2
        have hi : (k : Int) < (n : Int) := by omega
        have hi2 : 0 ≤ (k : Int) ∧ (k : Int) < (n : Int) := by omega
        have hun := Lib.hid (fk_unused HFK.out k x1 x2 hx)
        clear hc hx
        by_cases e1 : x1 = r
        · have q1 : (x1 == r) = true := by rw [beq_iff_eq]; exact e1
          by_cases e2 : x2.data.toList = t
          · have q2 : (x2.toList == t) = true := by rw [Lib.toList_data, beq_iff_eq]; exact e2
            obtain ⟨h0, h1⟩ := hun.out e1 e2
            have q3 : (kind == 0) = false := by rw [beq_eq_false_iff_ne]; exact h0
            have q4 : (kind == 1) = false := by rw [beq_eq_false_iff_ne]; exact h1
            clear e1 e2 h0 h1
            go_wp2_with fail
            go_quiet (fail)
            go_wp2
            go_roundw
            case rel => exact ⟨k + 1, by go_num, by omega, _, rfl⟩
            case measure => simp [intOf]; omega
          · have q2 : (x2.toList == t) = false := by rw [Lib.toList_data, beq_eq_false_iff_ne]; exact e2
            clear e1 e2
            go_wp2_with fail
            go_quiet (fail)
            go_wp2
            go_roundw
            case rel => exact ⟨k + 1, by go_num, by omega, _, rfl⟩
            case measure => simp [intOf]; omega
        · have q1 : (x1 == r) = false := by rw [beq_eq_false_iff_ne]; exact e1
          clear e1
          go_wp2_with fail
          go_quiet (fail)
          go_wp2
          go_roundw
          case rel => exact ⟨k + 1, by go_num, by omega, _, rfl⟩
          case measure => simp [intOf]; omega
      · have hbw : Below w.heap.size w ((w1.alloc (.cells #[.int .i64 r, .string ⟨t.toArray⟩] 23)).drewN nq) := (hb1.alloc hsz1 _).trans ⟨rfl, rfl, rfl, Nat.le_refl _, fun _ _ => rfl⟩
        have hh : ((w1.alloc (.cells #[.int .i64 r, .string ⟨t.toArray⟩] 23)).drewN nq).heap[w1.heap.size]? = some (.cells #[.int .i64 r, .string ⟨t.toArray⟩] 23 (0, 0)) := heap_alloc_new w1 _
        have hst : (((w1.alloc (.cells #[.int .i64 r, .string ⟨t.toArray⟩] 23)).drewN nq).drew).cell? ⟨w1.heap.size, 0, none⟩ = some (.int .i64 r) ∧ (((w1.alloc (.cells #[.int .i64 r, .string ⟨t.toArray⟩] 23)).drewN nq).drew).cell? ⟨w1.heap.size, 1, none⟩ = some (.string ⟨t.toArray⟩) ∧ w1.heap.size < (((w1.alloc (.cells #[.int .i64 r, .string ⟨t.toArray⟩] 23)).drewN nq).drew).heap.size ∧ Below w.heap.size w (((w1.alloc (.cells #[.int .i64 r, .string ⟨t.toArray⟩] 23)).drewN nq).drew) := by
          refine ⟨?_, ?_, ?_, hbw.drew⟩
          · rw [Lib.cell_of_heap (w := World.drew (World.drewN _ nq)) hh]; rfl
          · rw [Lib.cell_of_heap (w := World.drew (World.drewN _ nq)) hh]; rfl
          · simp
        have HST := Lib.hid hst
        clear hh hst hbw
        go_wp2_with fail
        go_region_held3 (fun wq => wq.cell? ⟨w1.heap.size, 0, none⟩ = some (.int .i64 r) ∧ wq.cell? ⟨w1.heap.size, 1, none⟩ = some (.string ⟨t.toArray⟩) ∧ w1.heap.size < wq.heap.size ∧ Below w.heap.size w wq) (first | exact HST.out | exact heldNext2 hsz1 (by assumption) (by assumption) | go_keep) (first | (go_at_call 29; refine (refFreshKey_any kind A n cap ks r t _ (HK.out.move (w1 := w1) (by assumption)) (by omega) HFK.out).mono ?_; rintro e w' ⟨rfl, hb⟩) | (go_at_call 16; refine (awake_any _).mono ?_; rintro e w' ⟨rfl, hb2⟩))
        go_wp2
        go_ret
        exact ⟨ret_bool (by simp), (by assumption : _ ∧ _ ∧ _ ∧ Below w.heap.size w _).2.2.2⟩
  · go_enter Tryd.func9, Tryd.ntmps9
    go_wp2_with fail
    refine (awake_any _).mono ?_
    rintro e w3 ⟨rfl, hb3⟩
    go_wp2
    go_ret
    exact ⟨ret_bool (by simp), hb3⟩
end Go.Proofs.YtjinngobiefifaaDoor
