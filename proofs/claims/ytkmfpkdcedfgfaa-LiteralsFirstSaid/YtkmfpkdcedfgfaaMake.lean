/- What normalize, Finite, Cofinite and Complement return: the valid set of the strings given. Condition: at most 10^6 strings. -/
import Derived.Test.YtkmfpkdcedfgfaaRead
namespace Go.Proofs.Ytkmfpkdcedfgfaa
open Go.RowKit Go.Sort
theorem field_sorted (a b : Value) (w : World) : (Instr.field 45 (.agg #[a, b]) 0).run Try.prog w = .ok (.agg #[a, b]) w := by kernel_rfl
theorem new_at {w : World} {r : Nat} (o : Obj) (h : w.heap.size = r) : (w.alloc o).heap[r]? = some o := by subst h; exact heap_alloc_new _ _
theorem short_of {m ss : List Strg} (h : Short ss) (hm : ∀ x, x ∈ m → x ∈ ss) : Short m := fun s hs => h s (hm s hs)
theorem isSet_srt (co : Bool) (ss : List Strg) : IsSet co (srt ss) (inN co ss) := ⟨srt_asc ss, inN_mem (srt_mem ss)⟩
set_option maxRecDepth 100000 in
set_option maxHeartbeats 1600000 in
theorem normalize_any (co : Bool) (A : Option Addr) (n c : Nat) (ss : List Strg) (w : World) (hR : NmS w w.heap.size A n ss) (hn : n ≤ 1000000) :
    Calls Try.prog 28 #[.bool co, .slice A n c] w (RetN co (inN co ss) n w) := by
  have hb0 : Below w.heap.size w (w.alloc (.cells #[.bool false, .slice none 0 0] 45)) := (Below.refl _ _).alloc (Nat.le_refl _) _
  have hcl := clone_any A n c ss (w.alloc (.cells #[.bool false, .slice none 0 0] 45)) _ (hR.kept hb0 (by simp)) (by omega)
  have HSH := Lib.hid hR.2.1
  have HL := Lib.hid hR.1
  clear hR
  go_enter Try.func28, Try.ntmps28
  go_wp2_with (go_at_call 43; refine hcl.mono ?_; rintro e w1 ⟨v1, rfl, ho1, hb1⟩; refine Hid.out ?_)
  refine Lib.hid ?_
  have hs1 := hb1.size
  simp only [World.size_alloc] at hs1
  have has := ascending_any v1 ss w1 _ ho1 (by simp; omega) (by have := HL.out; omega)
  clear hcl ho1
  go_wp2_with (go_at_call 42; refine has.mono ?_; rintro e w2 ⟨v2, rfl, ho2, hb2⟩; refine Hid.out ?_)
  refine Lib.hid ?_
  have hb12 := hb1.trans hb2
  have hcell : w2.heap[w.heap.size]? = some (.cells #[.bool false, .slice none 0 0] 45 (0, 0)) := (hb12.block _ (by simp)).trans (heap_alloc_new w _)
  have c0 : w2.cell? ⟨w.heap.size, 0, none⟩ = some (.bool false) := by rw [Lib.cell_of_heap hcell]; rfl
  have c1 : w2.cell? ⟨w.heap.size, 1, none⟩ = some (.slice none 0 0) := by rw [Lib.cell_of_heap hcell]; rfl
  have f0 : w2.frozen? ⟨w.heap.size, 0, none⟩ = false := Lib.frozen_of_heap hcell 0
  have f1 : w2.frozen? ⟨w.heap.size, 1, none⟩ = false := Lib.frozen_of_heap hcell 1
  obtain ⟨A2, cap2, rfl⟩ := ho2.form
  rw [World.size_alloc] at ho2
  clear has hcell
  have HO := Lib.hid ho2
  have HB := Lib.hid (hb0.trans (hb12.mono (by simp)))
  clear ho2 hb0 hb1 hb2 hb12
  go_wp2
  refine bodyPost_ret (v := .agg #[.bool co, .slice A2 (srt ss).length cap2]) (by simp [results, Try.results28, go_sem, c0, c1]) rfl ?_
  exact RetN.stored rfl HO.out (Nat.le_refl _) (short_of HSH.out fun x hx => (srt_mem ss x).1 hx) (isSet_srt co ss) (by have := srt_len ss; have := HL.out; omega) HB.out _ _
set_option maxRecDepth 100000 in
set_option maxHeartbeats 1600000 in
theorem finite_any (A : Option Addr) (n c : Nat) (ss : List Strg) (w : World) (hR : NmS w w.heap.size A n ss) (hn : n ≤ 1000000) :
    Calls Try.prog 10 #[.slice A n c] w (RetN false (inN false ss) n w) := by
  have hb0 : Below w.heap.size w (w.alloc (.cells #[.bool false, .slice none 0 0] 24)) := (Below.refl _ _).alloc (Nat.le_refl _) _
  have hcl := normalize_any false A n c ss (w.alloc (.cells #[.bool false, .slice none 0 0] 24)) (hR.kept hb0 (by simp)) hn
  have HC : Hid ((w.alloc (.cells #[.bool false, .slice none 0 0] 24)).heap[w.heap.size]? = some (.cells #[.bool false, .slice none 0 0] 24 (0, 0))) := Lib.hid (new_at _ (by simp))
  have HB0 := Lib.hid hb0
  clear hb0 hR
  have hfs := field_sorted
  go_enter Try.func10, Try.ntmps10
  go_wp2_with (go_at_call 28; refine hcl.mono ?_; rintro e w1 ⟨m, A2, cap2, rfl, ho, hsh, hset, hk, hb1⟩; refine Hid.out ?_)
  refine Lib.hid ?_
  have hcell : w1.heap[w.heap.size]? = some (.cells #[.bool false, .slice none 0 0] 24 (0, 0)) := (hb1.block _ (by simp)).trans HC.out
  have c0 : w1.cell? ⟨w.heap.size, 0, none⟩ = some (.bool false) := by rw [Lib.cell_of_heap hcell]; rfl
  have c1 : w1.cell? ⟨w.heap.size, 1, none⟩ = some (.slice none 0 0) := by rw [Lib.cell_of_heap hcell]; rfl
  have f0 : w1.frozen? ⟨w.heap.size, 0, none⟩ = false := Lib.frozen_of_heap hcell 0
  have f1 : w1.frozen? ⟨w.heap.size, 1, none⟩ = false := Lib.frozen_of_heap hcell 1
  have ho' : OwnN w1 (w.heap.size + 1) (.slice A2 m.length cap2) m := ho.mono (by simp)
  have HO := Lib.hid ho'
  have HB := Lib.hid (HB0.out.trans (hb1.mono (by simp; try omega)))
  have HSET := Lib.hid hset
  clear hcell ho ho' hb1 hset hcl
  go_wp2
  refine bodyPost_ret (v := .agg #[.bool (false), .slice A2 m.length cap2]) (by simp [results, Try.results10, go_sem, c0, c1]) rfl ?_
  exact RetN.stored rfl HO.out (by omega) hsh HSET.out hk HB.out _ _
set_option maxRecDepth 100000 in
set_option maxHeartbeats 1600000 in
theorem cofinite_any (A : Option Addr) (n c : Nat) (ss : List Strg) (w : World) (hR : NmS w w.heap.size A n ss) (hn : n ≤ 1000000) :
    Calls Try.prog 11 #[.slice A n c] w (RetN true (inN true ss) n w) := by
  have hb0 : Below w.heap.size w (w.alloc (.cells #[.bool false, .slice none 0 0] 24)) := (Below.refl _ _).alloc (Nat.le_refl _) _
  have hcl := normalize_any true A n c ss (w.alloc (.cells #[.bool false, .slice none 0 0] 24)) (hR.kept hb0 (by simp)) hn
  have HC : Hid ((w.alloc (.cells #[.bool false, .slice none 0 0] 24)).heap[w.heap.size]? = some (.cells #[.bool false, .slice none 0 0] 24 (0, 0))) := Lib.hid (new_at _ (by simp))
  have HB0 := Lib.hid hb0
  clear hb0 hR
  have hfs := field_sorted
  go_enter Try.func11, Try.ntmps11
  go_wp2_with (go_at_call 28; refine hcl.mono ?_; rintro e w1 ⟨m, A2, cap2, rfl, ho, hsh, hset, hk, hb1⟩; refine Hid.out ?_)
  refine Lib.hid ?_
  have hcell : w1.heap[w.heap.size]? = some (.cells #[.bool false, .slice none 0 0] 24 (0, 0)) := (hb1.block _ (by simp)).trans HC.out
  have c0 : w1.cell? ⟨w.heap.size, 0, none⟩ = some (.bool false) := by rw [Lib.cell_of_heap hcell]; rfl
  have c1 : w1.cell? ⟨w.heap.size, 1, none⟩ = some (.slice none 0 0) := by rw [Lib.cell_of_heap hcell]; rfl
  have f0 : w1.frozen? ⟨w.heap.size, 0, none⟩ = false := Lib.frozen_of_heap hcell 0
  have f1 : w1.frozen? ⟨w.heap.size, 1, none⟩ = false := Lib.frozen_of_heap hcell 1
  have ho' : OwnN w1 (w.heap.size + 1) (.slice A2 m.length cap2) m := ho.mono (by simp)
  have HO := Lib.hid ho'
  have HB := Lib.hid (HB0.out.trans (hb1.mono (by simp; try omega)))
  have HSET := Lib.hid hset
  clear hcell ho ho' hb1 hset hcl
  go_wp2
  refine bodyPost_ret (v := .agg #[.bool (true), .slice A2 m.length cap2]) (by simp [results, Try.results11, go_sem, c0, c1]) rfl ?_
  exact RetN.stored rfl HO.out (by omega) hsh HSET.out hk HB.out _ _
set_option maxRecDepth 100000 in
set_option maxHeartbeats 1600000 in
theorem complement_any (co : Bool) (A : Option Addr) (n c : Nat) (ss : List Strg) (w : World) (hR : NmS w w.heap.size A n ss) (hn : n ≤ 1000000) :
    Calls Try.prog 17 #[.agg #[.bool co, .slice A n c]] w (RetN (!co) (inN (!co) ss) n w) := by
  have hb0 : Below w.heap.size w ((w.alloc (.cells #[.bool co, .slice A n c] 24)).alloc (.cells #[.bool false, .slice none 0 0] 24)) := ((Below.refl _ _).alloc (Nat.le_refl _) _).alloc (by simp; try omega) _
  have hcl := normalize_any (!co) A n c ss ((w.alloc (.cells #[.bool co, .slice A n c] 24)).alloc (.cells #[.bool false, .slice none 0 0] 24)) (hR.kept hb0 (by simp; omega)) hn
  have HC : Hid (((w.alloc (.cells #[.bool co, .slice A n c] 24)).alloc (.cells #[.bool false, .slice none 0 0] 24)).heap[w.heap.size + 1]? = some (.cells #[.bool false, .slice none 0 0] 24 (0, 0))) := Lib.hid (new_at _ (by simp))
  have HB0 := Lib.hid hb0
  clear hb0 hR
  have hfs := field_sorted
  go_enter Try.func17, Try.ntmps17
  go_wp2_with (go_at_call 28; refine hcl.mono ?_; rintro e w1 ⟨m, A2, cap2, rfl, ho, hsh, hset, hk, hb1⟩; refine Hid.out ?_)
  refine Lib.hid ?_
  have hcell : w1.heap[w.heap.size + 1]? = some (.cells #[.bool false, .slice none 0 0] 24 (0, 0)) := (hb1.block _ (by simp)).trans HC.out
  have c0 : w1.cell? ⟨w.heap.size + 1, 0, none⟩ = some (.bool false) := by rw [Lib.cell_of_heap hcell]; rfl
  have c1 : w1.cell? ⟨w.heap.size + 1, 1, none⟩ = some (.slice none 0 0) := by rw [Lib.cell_of_heap hcell]; rfl
  have f0 : w1.frozen? ⟨w.heap.size + 1, 0, none⟩ = false := Lib.frozen_of_heap hcell 0
  have f1 : w1.frozen? ⟨w.heap.size + 1, 1, none⟩ = false := Lib.frozen_of_heap hcell 1
  have ho' : OwnN w1 (w.heap.size + 1 + 1) (.slice A2 m.length cap2) m := ho.mono (by simp)
  have HO := Lib.hid ho'
  have HB := Lib.hid (HB0.out.trans (hb1.mono (by simp; try omega)))
  have HSET := Lib.hid hset
  clear hcell ho ho' hb1 hset hcl
  go_wp2
  refine bodyPost_ret (v := .agg #[.bool ((!co)), .slice A2 m.length cap2]) (by simp [results, Try.results17, go_sem, c0, c1]) rfl ?_
  exact RetN.stored rfl HO.out (by omega) hsh HSET.out hk HB.out _ _
end Go.Proofs.Ytkmfpkdcedfgfaa
