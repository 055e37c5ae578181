/- What the source returns of names, words, labels, numbers and keys. -/
import Derived.Test.YtcjgaohblaidjaaGreatDoorVb08
import Derived.Test.YtcjgaohblaidjaaGreatDoorVb12
import Derived.Test.YtcjgaohblaidjaaGreatDoorVb13
namespace Go.Proofs.YtcjgaohblaidjaaGreatDoor
open Go Go.RowKit
def AtomN (s : List UInt8) : Prop := s = [97] ∨ s = [98] ∨ s = [111, 107] ∨ s = [101, 114, 114, 111, 114]
set_option maxRecDepth 100000 in
set_option maxHeartbeats 3200000 in
theorem atomName_any (h p : Nat) (w : World) (hS : SrcOk h p w) : Calls Tryz.prog 105 #[.pointer (some ⟨p, 0, none⟩)] w fun e w' => (∃ s : List UInt8, e = .returned (.string ⟨s.toArray⟩) ∧ AtomN s) ∧ SrcOk h p w' ∧ Eff p w w' := by
 have hlp := hS.lt
 have hba : Below w.heap.size w (w.alloc (.cells #[.string { data := #[97] }, .string { data := #[98] }, .string { data := #[111, 107] }, .string { data := #[101, 114, 114, 111, 114] }] 9)) := (Below.refl _ _).alloc (Nat.le_refl _) _
 have hc := next_any h p 4 _ (hS.below hba) (by omega) (by omega)
 have k0 := heap_alloc_new w (.cells #[.string { data := #[97] }, .string { data := #[98] }, .string { data := #[111, 107] }, .string { data := #[101, 114, 114, 111, 114] }] 9)
 have hE0 := Eff.of_below hba (Nat.le_of_lt hlp)
 go_enter Tryz.func105, Tryz.ntmps105
 go_wp2_with fail
 refine hc.mono ?_
 rintro e w1 ⟨j, rfl, j0, j1, hS1, hE⟩
 have k1 : w1.heap[w.heap.size]? = some (.cells #[.string { data := #[97] }, .string { data := #[98] }, .string { data := #[111, 107] }, .string { data := #[101, 114, 114, 111, 114] }] 9 (0, 0)) := (hE.other _ (by omega) (by simp)).trans k0
 have HF := Lib.hid (And.intro hS1 (hE0.trans hE))
 clear hc hE hS1 hba hE0 k0 hS hlp
 have hj : j = 0 ∨ j = 1 ∨ j = 2 ∨ j = 3 := by omega
 have c0 : w1.cell? ⟨w.heap.size, 0, none⟩ = some (.string { data := #[97] }) := (Lib.cell_of_heap k1 0).trans rfl
 have c1 : w1.cell? ⟨w.heap.size, 1, none⟩ = some (.string { data := #[98] }) := (Lib.cell_of_heap k1 1).trans rfl
 have c2 : w1.cell? ⟨w.heap.size, 2, none⟩ = some (.string { data := #[111, 107] }) := (Lib.cell_of_heap k1 2).trans rfl
 have c3 : w1.cell? ⟨w.heap.size, 3, none⟩ = some (.string { data := #[101, 114, 114, 111, 114] }) := (Lib.cell_of_heap k1 3).trans rfl
 clear k1
 rcases hj with rfl | rfl | rfl | rfl
 ·
  go_wp2
  go_ret
  exact ⟨⟨[97], rfl, by unfold AtomN; simp⟩, HF.out⟩
 ·
  go_wp2
  go_ret
  exact ⟨⟨[98], rfl, by unfold AtomN; simp⟩, HF.out⟩
 ·
  go_wp2
  go_ret
  exact ⟨⟨[111, 107], rfl, by unfold AtomN; simp⟩, HF.out⟩
 ·
  go_wp2
  go_ret
  exact ⟨⟨[101, 114, 114, 111, 114], rfl, by unfold AtomN; simp⟩, HF.out⟩
def WordN (s : List UInt8) : Prop := s = [] ∨ s = [115] ∨ s = [120, 32, 121] ∨ s = [97]
set_option maxRecDepth 100000 in
set_option maxHeartbeats 3200000 in
theorem word_any (h p : Nat) (w : World) (hS : SrcOk h p w) : Calls Tryz.prog 106 #[.pointer (some ⟨p, 0, none⟩)] w fun e w' => (∃ s : List UInt8, e = .returned (.string ⟨s.toArray⟩) ∧ WordN s) ∧ SrcOk h p w' ∧ Eff p w w' := by
 have hlp := hS.lt
 have hba : Below w.heap.size w (w.alloc (.cells #[.string { data := #[] }, .string { data := #[115] }, .string { data := #[120, 32, 121] }, .string { data := #[97] }] 9)) := (Below.refl _ _).alloc (Nat.le_refl _) _
 have hc := next_any h p 4 _ (hS.below hba) (by omega) (by omega)
 have k0 := heap_alloc_new w (.cells #[.string { data := #[] }, .string { data := #[115] }, .string { data := #[120, 32, 121] }, .string { data := #[97] }] 9)
 have hE0 := Eff.of_below hba (Nat.le_of_lt hlp)
 go_enter Tryz.func106, Tryz.ntmps106
 go_wp2_with fail
 refine hc.mono ?_
 rintro e w1 ⟨j, rfl, j0, j1, hS1, hE⟩
 have k1 : w1.heap[w.heap.size]? = some (.cells #[.string { data := #[] }, .string { data := #[115] }, .string { data := #[120, 32, 121] }, .string { data := #[97] }] 9 (0, 0)) := (hE.other _ (by omega) (by simp)).trans k0
 have HF := Lib.hid (And.intro hS1 (hE0.trans hE))
 clear hc hE hS1 hba hE0 k0 hS hlp
 have hj : j = 0 ∨ j = 1 ∨ j = 2 ∨ j = 3 := by omega
 have c0 : w1.cell? ⟨w.heap.size, 0, none⟩ = some (.string { data := #[] }) := (Lib.cell_of_heap k1 0).trans rfl
 have c1 : w1.cell? ⟨w.heap.size, 1, none⟩ = some (.string { data := #[115] }) := (Lib.cell_of_heap k1 1).trans rfl
 have c2 : w1.cell? ⟨w.heap.size, 2, none⟩ = some (.string { data := #[120, 32, 121] }) := (Lib.cell_of_heap k1 2).trans rfl
 have c3 : w1.cell? ⟨w.heap.size, 3, none⟩ = some (.string { data := #[97] }) := (Lib.cell_of_heap k1 3).trans rfl
 clear k1
 rcases hj with rfl | rfl | rfl | rfl
 ·
  go_wp2
  go_ret
  exact ⟨⟨[], rfl, by unfold WordN; simp⟩, HF.out⟩
 ·
  go_wp2
  go_ret
  exact ⟨⟨[115], rfl, by unfold WordN; simp⟩, HF.out⟩
 ·
  go_wp2
  go_ret
  exact ⟨⟨[120, 32, 121], rfl, by unfold WordN; simp⟩, HF.out⟩
 ·
  go_wp2
  go_ret
  exact ⟨⟨[97], rfl, by unfold WordN; simp⟩, HF.out⟩
def LabN (s : List UInt8) : Prop := s = [65] ∨ s = [66] ∨ s = [67]
set_option maxRecDepth 100000 in
set_option maxHeartbeats 3200000 in
theorem label_any (h p : Nat) (w : World) (hS : SrcOk h p w) : Calls Tryz.prog 62 #[.pointer (some ⟨p, 0, none⟩)] w fun e w' => (∃ s : List UInt8, e = .returned (.string ⟨s.toArray⟩) ∧ LabN s) ∧ SrcOk h p w' ∧ Eff p w w' := by
 have hlp := hS.lt
 have hba : Below w.heap.size w (w.alloc (.cells #[.string { data := #[65] }, .string { data := #[66] }, .string { data := #[67] }] 9)) := (Below.refl _ _).alloc (Nat.le_refl _) _
 have hc := next_any h p 3 _ (hS.below hba) (by omega) (by omega)
 have k0 := heap_alloc_new w (.cells #[.string { data := #[65] }, .string { data := #[66] }, .string { data := #[67] }] 9)
 have hE0 := Eff.of_below hba (Nat.le_of_lt hlp)
 go_enter Tryz.func62, Tryz.ntmps62
 go_wp2_with fail
 refine hc.mono ?_
 rintro e w1 ⟨j, rfl, j0, j1, hS1, hE⟩
 have k1 : w1.heap[w.heap.size]? = some (.cells #[.string { data := #[65] }, .string { data := #[66] }, .string { data := #[67] }] 9 (0, 0)) := (hE.other _ (by omega) (by simp)).trans k0
 have HF := Lib.hid (And.intro hS1 (hE0.trans hE))
 clear hc hE hS1 hba hE0 k0 hS hlp
 have hj : j = 0 ∨ j = 1 ∨ j = 2 := by omega
 have c0 : w1.cell? ⟨w.heap.size, 0, none⟩ = some (.string { data := #[65] }) := (Lib.cell_of_heap k1 0).trans rfl
 have c1 : w1.cell? ⟨w.heap.size, 1, none⟩ = some (.string { data := #[66] }) := (Lib.cell_of_heap k1 1).trans rfl
 have c2 : w1.cell? ⟨w.heap.size, 2, none⟩ = some (.string { data := #[67] }) := (Lib.cell_of_heap k1 2).trans rfl
 clear k1
 rcases hj with rfl | rfl | rfl
 ·
  go_wp2
  go_ret
  exact ⟨⟨[65], rfl, by unfold LabN; simp⟩, HF.out⟩
 ·
  go_wp2
  go_ret
  exact ⟨⟨[66], rfl, by unfold LabN; simp⟩, HF.out⟩
 ·
  go_wp2
  go_ret
  exact ⟨⟨[67], rfl, by unfold LabN; simp⟩, HF.out⟩
def NumN (x : Int) : Prop := (Lit.int .i64 x).wf = true
set_option maxRecDepth 100000 in
set_option maxHeartbeats 3200000 in
theorem number_any (h p : Nat) (w : World) (hS : SrcOk h p w) : Calls Tryz.prog 104 #[.pointer (some ⟨p, 0, none⟩)] w fun e w' => (∃ x : Int, e = .returned (.int .i64 x) ∧ NumN x) ∧ SrcOk h p w' ∧ Eff p w w' := by
 have hlp := hS.lt
 have hba : Below w.heap.size w (w.alloc (.cells #[.int .i64 (0), .int .i64 (1), .int .i64 (-1), .int .i64 (2), .int .i64 (3), .int .i64 (-2), .int .i64 (7), .int .i64 (-9223372036854775808), .int .i64 (9223372036854775807), .int .i64 (10)] 2)) := (Below.refl _ _).alloc (Nat.le_refl _) _
 have hc := next_any h p 10 _ (hS.below hba) (by omega) (by omega)
 have k0 := heap_alloc_new w (.cells #[.int .i64 (0), .int .i64 (1), .int .i64 (-1), .int .i64 (2), .int .i64 (3), .int .i64 (-2), .int .i64 (7), .int .i64 (-9223372036854775808), .int .i64 (9223372036854775807), .int .i64 (10)] 2)
 have hE0 := Eff.of_below hba (Nat.le_of_lt hlp)
 go_enter Tryz.func104, Tryz.ntmps104
 go_wp2_with fail
 refine hc.mono ?_
 rintro e w1 ⟨j, rfl, j0, j1, hS1, hE⟩
 have k1 : w1.heap[w.heap.size]? = some (.cells #[.int .i64 (0), .int .i64 (1), .int .i64 (-1), .int .i64 (2), .int .i64 (3), .int .i64 (-2), .int .i64 (7), .int .i64 (-9223372036854775808), .int .i64 (9223372036854775807), .int .i64 (10)] 2 (0, 0)) := (hE.other _ (by omega) (by simp)).trans k0
 have HF := Lib.hid (And.intro hS1 (hE0.trans hE))
 clear hc hE hS1 hba hE0 k0 hS hlp
 have hj : j = 0 ∨ j = 1 ∨ j = 2 ∨ j = 3 ∨ j = 4 ∨ j = 5 ∨ j = 6 ∨ j = 7 ∨ j = 8 ∨ j = 9 := by omega
 have c0 : w1.cell? ⟨w.heap.size, 0, none⟩ = some (.int .i64 (0)) := (Lib.cell_of_heap k1 0).trans rfl
 have c1 : w1.cell? ⟨w.heap.size, 1, none⟩ = some (.int .i64 (1)) := (Lib.cell_of_heap k1 1).trans rfl
 have c2 : w1.cell? ⟨w.heap.size, 2, none⟩ = some (.int .i64 (-1)) := (Lib.cell_of_heap k1 2).trans rfl
 have c3 : w1.cell? ⟨w.heap.size, 3, none⟩ = some (.int .i64 (2)) := (Lib.cell_of_heap k1 3).trans rfl
 have c4 : w1.cell? ⟨w.heap.size, 4, none⟩ = some (.int .i64 (3)) := (Lib.cell_of_heap k1 4).trans rfl
 have c5 : w1.cell? ⟨w.heap.size, 5, none⟩ = some (.int .i64 (-2)) := (Lib.cell_of_heap k1 5).trans rfl
 have c6 : w1.cell? ⟨w.heap.size, 6, none⟩ = some (.int .i64 (7)) := (Lib.cell_of_heap k1 6).trans rfl
 have c7 : w1.cell? ⟨w.heap.size, 7, none⟩ = some (.int .i64 (-9223372036854775808)) := (Lib.cell_of_heap k1 7).trans rfl
 have c8 : w1.cell? ⟨w.heap.size, 8, none⟩ = some (.int .i64 (9223372036854775807)) := (Lib.cell_of_heap k1 8).trans rfl
 have c9 : w1.cell? ⟨w.heap.size, 9, none⟩ = some (.int .i64 (10)) := (Lib.cell_of_heap k1 9).trans rfl
 clear k1
 rcases hj with rfl | rfl | rfl | rfl | rfl | rfl | rfl | rfl | rfl | rfl
 ·
  go_wp2
  go_ret
  exact ⟨⟨(0), rfl, by unfold NumN; decide⟩, HF.out⟩
 ·
  go_wp2
  go_ret
  exact ⟨⟨(1), rfl, by unfold NumN; decide⟩, HF.out⟩
 ·
  go_wp2
  go_ret
  exact ⟨⟨(-1), rfl, by unfold NumN; decide⟩, HF.out⟩
 ·
  go_wp2
  go_ret
  exact ⟨⟨(2), rfl, by unfold NumN; decide⟩, HF.out⟩
 ·
  go_wp2
  go_ret
  exact ⟨⟨(3), rfl, by unfold NumN; decide⟩, HF.out⟩
 ·
  go_wp2
  go_ret
  exact ⟨⟨(-2), rfl, by unfold NumN; decide⟩, HF.out⟩
 ·
  go_wp2
  go_ret
  exact ⟨⟨(7), rfl, by unfold NumN; decide⟩, HF.out⟩
 ·
  go_wp2
  go_ret
  exact ⟨⟨(-9223372036854775808), rfl, by unfold NumN; decide⟩, HF.out⟩
 ·
  go_wp2
  go_ret
  exact ⟨⟨(9223372036854775807), rfl, by unfold NumN; decide⟩, HF.out⟩
 ·
  go_wp2
  go_ret
  exact ⟨⟨(10), rfl, by unfold NumN; decide⟩, HF.out⟩
end Go.Proofs.YtcjgaohblaidjaaGreatDoor
