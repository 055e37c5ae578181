/- The walk of the law IdentNames: it returns true. -/
import Derived.Test.YtjinngobiefifaaDoorAwake
import Derived.Test.YtjinngobiefifaaDoorKeys
import Derived.Deep.RegionHeld3
import Derived.Deep.RegionWith
import Derived.StillTailTactics
namespace Go.Proofs.YtjinngobiefifaaDoor
open Go.RowKit
theorem heldNext {w wq w' : World} {a b : Value} (hb : Below wq.heap.size wq w') (h : wq.cell? ⟨w.heap.size, 0, none⟩ = some a ∧ wq.cell? ⟨w.heap.size, 1, none⟩ = some b ∧ w.heap.size < wq.heap.size ∧ Below w.heap.size w wq) :
    w'.cell? ⟨w.heap.size, 0, none⟩ = some a ∧ w'.cell? ⟨w.heap.size, 1, none⟩ = some b ∧ w.heap.size < w'.heap.size ∧ Below w.heap.size w w' :=
  ⟨(hb.cell (p := ⟨w.heap.size, 0, none⟩) h.2.2.1).trans h.1, (hb.cell (p := ⟨w.heap.size, 1, none⟩) h.2.2.1).trans h.2.1, by have := hb.size; omega, h.2.2.2.trans (hb.mono (by omega))⟩
set_option maxHeartbeats 1600000 in
theorem identNames_any (s t : ByteArray) (k : Int) (w : World) (hs : s.size ≤ maxLen) (ht : t.size ≤ maxLen) :
    Calls Tryd.prog 3 #[.string s, .agg #[.int .i64 k, .string t]] w fun e w' => e = .returned (.bool true) ∧ Below w.heap.size w w' := by
  have a1 := Lib.hid (fun w => isAtom_any s w hs)
  have a2 := Lib.hid (fun w => refIsAtom_any s w hs)
  have a3 := Lib.hid (fun w => isVariable_any s w hs)
  have a4 := Lib.hid (fun w => refIsVariable_any s w hs)
  have a5 := Lib.hid (fun w => validKey_any k t w ht)
  have a6 := Lib.hid (fun w => refValidKey_any k t w ht)
  obtain ⟨x, hx⟩ : ∃ x, atomB s.data.toList = x := ⟨_, rfl⟩
  obtain ⟨y, hy⟩ : ∃ y, varB s.data.toList = y := ⟨_, rfl⟩
  obtain ⟨z, hz⟩ : ∃ z, keyB k t.data.toList = z := ⟨_, rfl⟩
  rw [hx] at a1 a2
  rw [hy] at a3 a4
  rw [hz] at a5 a6
  clear hx hy hz
  have hb0 : Below w.heap.size w (w.alloc (.cells #[.int .i64 k, .string t] 23)).drew := ((Below.refl _ _).alloc (Nat.le_refl _) _).drew
  go_enter Tryd.func3, Tryd.ntmps3
  go_wp2_with fail
  go_region_held3 (fun wq => wq.cell? ⟨w.heap.size, 0, none⟩ = some (.int .i64 k) ∧ wq.cell? ⟨w.heap.size, 1, none⟩ = some (.string t) ∧ w.heap.size < wq.heap.size ∧ Below w.heap.size w wq) (first | exact heldNext (by assumption) (by assumption) | go_keep) (first | (go_at_call 10; refine (a1.out _).mono ?_; rintro e w' ⟨rfl, rfl⟩) | (go_at_call 11; refine (a2.out _).mono ?_; rintro e w' ⟨rfl, rfl⟩) | (go_at_call 12; refine (a3.out _).mono ?_; rintro e w' ⟨rfl, rfl⟩) | (go_at_call 13; refine (a4.out _).mono ?_; rintro e w' ⟨rfl, rfl⟩) | (go_at_call 14; refine (a5.out _).mono ?_; rintro e w' ⟨rfl, hb⟩) | (go_at_call 15; refine (a6.out _).mono ?_; rintro e w' ⟨rfl, hb2⟩) | (go_at_call 16; refine (awake_any _).mono ?_; rintro e w' ⟨rfl, hb3⟩))
  all_goals go_wp2
  all_goals go_ret
  all_goals exact ⟨ret_bool (by simp), (by assumption : _ ∧ _ ∧ _ ∧ Below w.heap.size w _).2.2.2⟩
end Go.Proofs.YtjinngobiefifaaDoor
