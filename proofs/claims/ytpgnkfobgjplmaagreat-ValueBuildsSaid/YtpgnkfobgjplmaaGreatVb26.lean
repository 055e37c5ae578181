/- What Tuple returns. -/
import Derived.Test.YtpgnkfobgjplmaaGreatVb25
namespace Go.Proofs.YtpgnkfobgjplmaaGreat
open Go Go.RowKit
set_option maxRecDepth 100000 in
set_option maxHeartbeats 3200000 in
theorem tuple_any (k : Nat) (A : Option Addr) (cap : Nat) (l : List Vl) (w : World) (hl : RowP w w.heap.size 7 (.slice A l.length cap) l.length (fun j cs => ∃ x, l[j]? = some x ∧ VS k w w.heap.size x cs)) (hn : l.length ≤ 1048576) (hs : smlVs l) :
    Calls Tryz.prog 13 #[.slice A l.length cap] w fun e w' => ∃ cs, e = .returned (.agg cs.toArray) ∧ VB (k + 1) w' (Btw w.heap.size w'.heap.size) (tupV l) cs ∧ Below w.heap.size w w' := by
  have eg := enters_of Tryz.func45 (by kernel_rfl) rfl
  obtain ⟨W, hW⟩ : ∃ W, W = w.alloc (.cells #[.int .i64 0, .int .i64 0, .string ⟨#[]⟩, .slice none 0 0, .slice none 0 0, .slice none 0 0, .slice none 0 0] 27) := ⟨_, rfl⟩
  have hbb : Below w.heap.size w W := by rw [hW]; exact (Below.refl _ _).alloc (Nat.le_refl _) _
  have hz : W.heap.size = w.heap.size + 1 := by rw [hW]; simp
  have k0 : W.heap[w.heap.size]? = some (.cells #[.int .i64 0, .int .i64 0, .string ⟨#[]⟩, .slice none 0 0, .slice none 0 0, .slice none 0 0, .slice none 0 0] 27 (0, 0)) := by rw [hW]; exact heap_alloc_new w _
  have hc := each7 k _ eg (fun x => x) (Lib.hid fun v cs w h1 h2 => clone_any k v cs w h1 h2) A cap l W ((hl.on hbb fun _ _ ⟨x, h1, h2⟩ => ⟨x, h1, VS.up hbb.size (Nat.le_refl _) (VS.on hbb h2)⟩).mono hbb.size fun _ _ h => h) hn hs
  have HB := Lib.hid hbb
  clear hl hbb eg hs
  go_enter Tryz.func13, Tryz.ntmps13
  go_wp2_with fail
  rw [← hW]
  clear hW
  refine hc.mono ?_
  rintro e w1 ⟨v, rfl, hr, hb1⟩
  clear hc
  obtain ⟨PA, pc, rfl, _⟩ := hr.form
  have k1 : w1.heap[w.heap.size]? = some (.cells #[.int .i64 0, .int .i64 0, .string ⟨#[]⟩, .slice none 0 0, .slice none 0 0, .slice none 0 0, .slice none 0 0] 27 (0, 0)) := (hb1.block _ (by omega)).trans k0
  have e0 : w1.cell? ⟨w.heap.size, 0, none⟩ = some (.int .i64 0) := (Lib.cell_of_heap k1 0).trans rfl
  have z0 := Lib.frozen_of_heap k1 0
  have e1 : w1.cell? ⟨w.heap.size, 1, none⟩ = some (.int .i64 0) := (Lib.cell_of_heap k1 1).trans rfl
  have z1 := Lib.frozen_of_heap k1 1
  have e2 : w1.cell? ⟨w.heap.size, 2, none⟩ = some (.string ⟨#[]⟩) := (Lib.cell_of_heap k1 2).trans rfl
  have z2 := Lib.frozen_of_heap k1 2
  have e3 : w1.cell? ⟨w.heap.size, 3, none⟩ = some (.slice none 0 0) := (Lib.cell_of_heap k1 3).trans rfl
  have z3 := Lib.frozen_of_heap k1 3
  have e4 : w1.cell? ⟨w.heap.size, 4, none⟩ = some (.slice none 0 0) := (Lib.cell_of_heap k1 4).trans rfl
  have z4 := Lib.frozen_of_heap k1 4
  have e5 : w1.cell? ⟨w.heap.size, 5, none⟩ = some (.slice none 0 0) := (Lib.cell_of_heap k1 5).trans rfl
  have z5 := Lib.frozen_of_heap k1 5
  have e6 : w1.cell? ⟨w.heap.size, 6, none⟩ = some (.slice none 0 0) := (Lib.cell_of_heap k1 6).trans rfl
  have z6 := Lib.frozen_of_heap k1 6
  go_wp2
  obtain ⟨V, hV⟩ : ∃ V, V = (((((((w1.setCell ⟨w.heap.size, 0, none⟩ (Value.int .i64 6)).setCell ⟨w.heap.size, 1, none⟩ (Value.int .i64 0)).setCell ⟨w.heap.size, 2, none⟩ (Value.string ⟨#[]⟩)).setCell ⟨w.heap.size, 3, none⟩ (Value.slice PA l.length pc)).setCell ⟨w.heap.size, 4, none⟩ (Value.slice none 0 0)).setCell ⟨w.heap.size, 5, none⟩ (Value.slice none 0 0)).setCell ⟨w.heap.size, 6, none⟩ (Value.slice none 0 0)) := ⟨_, rfl⟩
  rw [← hV]
  have hob : V.heap[w.heap.size]? = some (.cells #[Value.int .i64 6, Value.int .i64 0, Value.string ⟨#[]⟩, Value.slice PA l.length pc, Value.slice none 0 0, Value.slice none 0 0, Value.slice none 0 0] 27 (0, 0)) := by rw [hV]; exact obj7 k1 (Value.int .i64 6) (Value.int .i64 0) (Value.string ⟨#[]⟩) (Value.slice PA l.length pc) (Value.slice none 0 0) (Value.slice none 0 0) (Value.slice none 0 0)
  have hBV : Below w.heap.size w V := by rw [hV]; exact Below.setCell (Below.setCell (Below.setCell (Below.setCell (Below.setCell (Below.setCell (Below.setCell ((HB.out.trans (hb1.mono HB.out.size))) (p := ⟨w.heap.size, 0, none⟩) (Nat.le_refl _) _) (p := ⟨w.heap.size, 1, none⟩) (Nat.le_refl _) _) (p := ⟨w.heap.size, 2, none⟩) (Nat.le_refl _) _) (p := ⟨w.heap.size, 3, none⟩) (Nat.le_refl _) _) (p := ⟨w.heap.size, 4, none⟩) (Nat.le_refl _) _) (p := ⟨w.heap.size, 5, none⟩) (Nat.le_refl _) _) (p := ⟨w.heap.size, 6, none⟩) (Nat.le_refl _) _
  have hszV : V.heap.size = w1.heap.size := by rw [hV]; simp
  have hsm : Same (Btw W.heap.size w1.heap.size) w1 V := by rw [hV]; exact same_setCell (same_setCell (same_setCell (same_setCell (same_setCell (same_setCell (same_setCell ((Same.refl _ _)) (fun h => by have := h.1; omega)) (fun h => by have := h.1; omega)) (fun h => by have := h.1; omega)) (fun h => by have := h.1; omega)) (fun h => by have := h.1; omega)) (fun h => by have := h.1; omega)) (fun h => by have := h.1; omega)
  clear hV e0 z0 e1 z1 e2 z2 e3 z3 e4 z4 e5 z5 e6 z6
  have ps0 : V.cell? ⟨w.heap.size, 0, none⟩ = some (Value.int .i64 6) := (Lib.cell_of_heap hob 0).trans rfl
  have ps1 : V.cell? ⟨w.heap.size, 1, none⟩ = some (Value.int .i64 0) := (Lib.cell_of_heap hob 1).trans rfl
  have ps2 : V.cell? ⟨w.heap.size, 2, none⟩ = some (Value.string ⟨#[]⟩) := (Lib.cell_of_heap hob 2).trans rfl
  have ps3 : V.cell? ⟨w.heap.size, 3, none⟩ = some (Value.slice PA l.length pc) := (Lib.cell_of_heap hob 3).trans rfl
  have ps4 : V.cell? ⟨w.heap.size, 4, none⟩ = some (Value.slice none 0 0) := (Lib.cell_of_heap hob 4).trans rfl
  have ps5 : V.cell? ⟨w.heap.size, 5, none⟩ = some (Value.slice none 0 0) := (Lib.cell_of_heap hob 5).trans rfl
  have ps6 : V.cell? ⟨w.heap.size, 6, none⟩ = some (Value.slice none 0 0) := (Lib.cell_of_heap hob 6).trans rfl
  refine bodyPost_ret (v := .agg #[Value.int .i64 6, Value.int .i64 0, Value.string ⟨#[]⟩, Value.slice PA l.length pc, Value.slice none 0 0, Value.slice none 0 0, Value.slice none 0 0]) (by simp [results, Tryz.results13, go_sem, ps0, ps1, ps2, ps3, ps4, ps5, ps6]) rfl ?_
  have hs1 := hb1.size
  have hsub : ∀ b, Btw W.heap.size w1.heap.size b → Btw w.heap.size V.heap.size b := fun b h => ⟨by have := h.1; omega, by have := h.2; omega⟩
  refine ⟨_, rfl, ⟨_, _, _, _, rfl, by decide, by decide, Nat.zero_le _, (hr.keep hsm ?_).sub hsub fun _ _ h => h, zeroRw _ _ _ _, zeroRw _ _ _ _, zeroRw _ _ _ _⟩, hBV⟩
  rintro j cs ⟨x, hx, hv⟩
  exact ⟨x, hx, VB.sub hsub (Nat.le_refl _) (VB.keep hsm hv)⟩
end Go.Proofs.YtpgnkfobgjplmaaGreat
