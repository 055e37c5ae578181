/- What write of the program writes at every valid value: its notation. Conditions: the table of powers of ten is laid outside the buffer's own memory; all that is written takes at most 2^47 bytes. -/
import Derived.Test.YtcjgaohblaidjaaGreatDoorVb01
import Derived.Test.YtcjgaohblaidjaaGreatDoorVb06
import Derived.Test.YtcjgaohblaidjaaGreatDoorVb10
namespace Go.Proofs.YtcjgaohblaidjaaGreatDoor
open Go Go.RowKit
set_option maxRecDepth 100000 in
set_option maxHeartbeats 3200000 in
theorem write1 (k : Nat) (_hP : Hid (WriteR k)) (B b : Nat) (l : Bs) (i : Int) (t : Bs) (kids : List Vl) (keys : List (Int × Bs)) (ents : List En) (labs : List Bs) (cs : List Value) (w : World) (h : BufW B b l w) (hv : VS (k + 1) w B (.mk 1 i t kids keys ents labs) cs) (hok : okV (.mk 1 i t kids keys ents labs) = true) (hT : TbH B w) (hlim : l.length + (showV (.mk 1 i t kids keys ents labs)).length ≤ 140737488355328) :
  Calls Tryz.prog 17 #[.pointer (some ⟨b, 0, none⟩), .agg cs.toArray] w fun e w' => e = .returned (.tuple #[]) ∧ BufW B b (l ++ showV (.mk 1 i t kids keys ents labs)) w' ∧ Wr B b w w' := by
 have hv0 := hv
 obtain ⟨uk, uy, ue, ul, rfl, _, hi, ht, hkk, hyy, hee, hll⟩ := hv
 obtain ⟨Ak, ck, rfl, hkl⟩ := hkk.form
 obtain ⟨Ay, cy, rfl, hyl⟩ := hyy.form
 obtain ⟨Ae, ce, rfl, hel⟩ := hee.form
 obtain ⟨Al, cl, rfl, hlbl⟩ := hll.form
 unfold maxLen at hkl hyl hel hlbl
 have hsh : showV (.mk 1 i t kids keys ents labs) = Lib.itoa i ++ labsL labs := by
  rw [showV_eq]
  have hb : bodyV (.mk 1 i t kids keys ents labs) = Lib.itoa i := by rfl
  rw [hb]
  rfl
 rw [hsh] at hlim ⊢
 clear hsh
 obtain ⟨W, hW⟩ : ∃ W, W = w.alloc (.cells #[.int .i64 1, .int .i64 i, .string ⟨t.toArray⟩, .slice Ak kids.length ck, .slice Ay keys.length cy, .slice Ae ents.length ce, .slice Al labs.length cl] 27) := ⟨_, rfl⟩
 have kW : W.heap[w.heap.size]? = some (.cells #[.int .i64 1, .int .i64 i, .string ⟨t.toArray⟩, .slice Ak kids.length ck, .slice Ay keys.length cy, .slice Ae ents.length ce, .slice Al labs.length cl] 27 (0, 0)) := by rw [hW]; exact heap_alloc_new w _
 have hw0 : BufW B b l W := by rw [hW]; exact h.alloc _
 have hWW : Wr B b w W := by rw [hW]; exact (Wr.refl _ _ _).alloc h.2 _
 have hne : w.heap.size ≠ b := by have := h.1.lt; omega
 have hle : l.length + (Lib.itoa i).length + (labsL labs).length ≤ 140737488355328 := by rw [List.length_append] at hlim; omega
 have hok0 := hok
 simp only [okV, okVs_all, okEs_all, Bool.and_eq_true, List.all_eq_true] at hok
 have HLE := Lib.hid hle
 have HT := Lib.hid hT
 have HWw0 := Lib.hid hWW
 have HKw0 := Lib.hid kW
 have HV := Lib.hid hv0
 have HOK := Lib.hid hok0
 have HKK := Lib.hid hkk
 have HEE := Lib.hid hee
 have HLL := Lib.hid hll
 have HOKS : Hid (∀ x ∈ kids, okV x = true) := Lib.hid hok.1.2
 have HOKE : Hid (∀ x ∈ ents, okE x = true) := Lib.hid hok.2
 skip
 clear hle hlim hT hWW kW hv0 hok0 hkk hyy hee hll hok h
 obtain ⟨w0, hw00⟩ : ∃ w0, w0 = W := ⟨_, rfl⟩
 subst hw00
 have hc := writeNumber_any B b (l) i hi w0 hw0 (HT.out.below HWw0.out.1) (by have := HLE.out; (try simp at this ⊢); omega)
 go_enter Tryz.func17, Tryz.ntmps17
 go_wp2_with fail
 rw [← hW]
 clear hW
 refine hc.mono ?_
 rintro e w1 ⟨rfl, hw1, hb1⟩
 clear hc  hw0
 have HWw1 := Lib.hid (HWw0.out.trans hb1)
 have hk1 := hb1.box HKw0.out hne
 have HKw1 := Lib.hid hk1
 obtain ⟨e0, e1, e2, e3, e4, e5, e6⟩ := cells7 hk1
 clear hk1 hb1
 have hc := writeLabels_any B b (l ++ Lib.itoa i) labs Al cl w1 hw1 (HLL.out.on HWw1.out.1 fun _ _ h => h) (by have := HLE.out; (try simp at this ⊢); omega)
 go_wp2_with fail
 refine hc.mono ?_
 rintro e wf ⟨rfl, hf, hbf⟩
 clear hc e0 e1 e2 e3 e4 e5 e6
 go_wp2
 go_end0
 exact ⟨rfl, by simpa using hf, HWw1.out.trans hbf⟩
set_option maxRecDepth 100000 in
set_option maxHeartbeats 3200000 in
theorem write2 (k : Nat) (_hP : Hid (WriteR k)) (B b : Nat) (l : Bs) (i : Int) (t : Bs) (kids : List Vl) (keys : List (Int × Bs)) (ents : List En) (labs : List Bs) (cs : List Value) (w : World) (h : BufW B b l w) (hv : VS (k + 1) w B (.mk 2 i t kids keys ents labs) cs) (hok : okV (.mk 2 i t kids keys ents labs) = true) (hT : TbH B w) (hlim : l.length + (showV (.mk 2 i t kids keys ents labs)).length ≤ 140737488355328) :
  Calls Tryz.prog 17 #[.pointer (some ⟨b, 0, none⟩), .agg cs.toArray] w fun e w' => e = .returned (.tuple #[]) ∧ BufW B b (l ++ showV (.mk 2 i t kids keys ents labs)) w' ∧ Wr B b w w' := by
 have hv0 := hv
 obtain ⟨uk, uy, ue, ul, rfl, _, hi, ht, hkk, hyy, hee, hll⟩ := hv
 obtain ⟨Ak, ck, rfl, hkl⟩ := hkk.form
 obtain ⟨Ay, cy, rfl, hyl⟩ := hyy.form
 obtain ⟨Ae, ce, rfl, hel⟩ := hee.form
 obtain ⟨Al, cl, rfl, hlbl⟩ := hll.form
 unfold maxLen at hkl hyl hel hlbl
 have hsh : showV (.mk 2 i t kids keys ents labs) = quoteL t ++ labsL labs := by
  rw [showV_eq]
  have hb : bodyV (.mk 2 i t kids keys ents labs) = quoteL t := by rfl
  rw [hb]
  rfl
 rw [hsh] at hlim ⊢
 clear hsh
 obtain ⟨W, hW⟩ : ∃ W, W = w.alloc (.cells #[.int .i64 2, .int .i64 i, .string ⟨t.toArray⟩, .slice Ak kids.length ck, .slice Ay keys.length cy, .slice Ae ents.length ce, .slice Al labs.length cl] 27) := ⟨_, rfl⟩
 have kW : W.heap[w.heap.size]? = some (.cells #[.int .i64 2, .int .i64 i, .string ⟨t.toArray⟩, .slice Ak kids.length ck, .slice Ay keys.length cy, .slice Ae ents.length ce, .slice Al labs.length cl] 27 (0, 0)) := by rw [hW]; exact heap_alloc_new w _
 have hw0 : BufW B b l W := by rw [hW]; exact h.alloc _
 have hWW : Wr B b w W := by rw [hW]; exact (Wr.refl _ _ _).alloc h.2 _
 have hne : w.heap.size ≠ b := by have := h.1.lt; omega
 have hle : l.length + (quoteL t).length + (labsL labs).length ≤ 140737488355328 := by rw [List.length_append] at hlim; omega
 have hok0 := hok
 simp only [okV, okVs_all, okEs_all, Bool.and_eq_true, List.all_eq_true] at hok
 have HLE := Lib.hid hle
 have HT := Lib.hid hT
 have HWw0 := Lib.hid hWW
 have HKw0 := Lib.hid kW
 have HV := Lib.hid hv0
 have HOK := Lib.hid hok0
 have HKK := Lib.hid hkk
 have HEE := Lib.hid hee
 have HLL := Lib.hid hll
 have HOKS : Hid (∀ x ∈ kids, okV x = true) := Lib.hid hok.1.2
 have HOKE : Hid (∀ x ∈ ents, okE x = true) := Lib.hid hok.2
 have htq : t.length ≤ 64 := by have h2 : decide (t.length ≤ 64) = true := hok.1.1.2; simpa using h2
 clear hle hlim hT hWW kW hv0 hok0 hkk hyy hee hll hok h
 obtain ⟨w0, hw00⟩ : ∃ w0, w0 = W := ⟨_, rfl⟩
 subst hw00
 have hc := quote_any ⟨t.toArray⟩ w0 (by show t.length ≤ _; omega)
 rw [show (⟨t.toArray⟩ : ByteArray).data.toList = t from rfl] at hc
 go_enter Tryz.func17, Tryz.ntmps17
 go_wp2_with fail
 rw [← hW]
 clear hW
 refine hc.mono ?_
 rintro e w1 ⟨rfl, hb1⟩
 clear hc
 have HWw1 := Lib.hid (HWw0.out.trans (Wr.of_below (b := b) hb1 hw0.2))
 have hw1' : BufW B b l w1 := ⟨hw0.1.old hb1, Nat.le_trans hw0.2 hb1.size⟩
 have HKw1 := Lib.hid ((hb1.block _ (Array.getElem?_eq_some_iff.1 HKw0.out).1).trans HKw0.out)
 clear hb1 hw0
 have hw1 := hw1'
 have hc := bufW B b (l) (quoteL t) w1 hw1 (by have := HLE.out; (try simp at this ⊢); omega)
 go_wp2_with fail
 refine hc.mono ?_
 rintro e w2 ⟨rfl, hw2, hb2⟩
 clear hc  hw1
 have HWw2 := Lib.hid (HWw1.out.trans hb2)
 have hk2 := hb2.box HKw1.out hne
 have HKw2 := Lib.hid hk2
 obtain ⟨e0, e1, e2, e3, e4, e5, e6⟩ := cells7 hk2
 clear hk2 hb2
 have hc := writeLabels_any B b (l ++ quoteL t) labs Al cl w2 hw2 (HLL.out.on HWw2.out.1 fun _ _ h => h) (by have := HLE.out; (try simp at this ⊢); omega)
 go_wp2_with fail
 refine hc.mono ?_
 rintro e wf ⟨rfl, hf, hbf⟩
 clear hc e0 e1 e2 e3 e4 e5 e6
 go_wp2
 go_end0
 exact ⟨rfl, by simpa using hf, HWw2.out.trans hbf⟩
set_option maxRecDepth 100000 in
set_option maxHeartbeats 3200000 in
theorem write3 (k : Nat) (_hP : Hid (WriteR k)) (B b : Nat) (l : Bs) (i : Int) (t : Bs) (kids : List Vl) (keys : List (Int × Bs)) (ents : List En) (labs : List Bs) (cs : List Value) (w : World) (h : BufW B b l w) (hv : VS (k + 1) w B (.mk 3 i t kids keys ents labs) cs) (hok : okV (.mk 3 i t kids keys ents labs) = true) (hT : TbH B w) (hlim : l.length + (showV (.mk 3 i t kids keys ents labs)).length ≤ 140737488355328) :
  Calls Tryz.prog 17 #[.pointer (some ⟨b, 0, none⟩), .agg cs.toArray] w fun e w' => e = .returned (.tuple #[]) ∧ BufW B b (l ++ showV (.mk 3 i t kids keys ents labs)) w' ∧ Wr B b w w' := by
 have hv0 := hv
 obtain ⟨uk, uy, ue, ul, rfl, _, hi, ht, hkk, hyy, hee, hll⟩ := hv
 obtain ⟨Ak, ck, rfl, hkl⟩ := hkk.form
 obtain ⟨Ay, cy, rfl, hyl⟩ := hyy.form
 obtain ⟨Ae, ce, rfl, hel⟩ := hee.form
 obtain ⟨Al, cl, rfl, hlbl⟩ := hll.form
 unfold maxLen at hkl hyl hel hlbl
 have hsh : showV (.mk 3 i t kids keys ents labs) = t ++ labsL labs := by
  rw [showV_eq]
  have hb : bodyV (.mk 3 i t kids keys ents labs) = t := by rfl
  rw [hb]
  rfl
 rw [hsh] at hlim ⊢
 clear hsh
 obtain ⟨W, hW⟩ : ∃ W, W = w.alloc (.cells #[.int .i64 3, .int .i64 i, .string ⟨t.toArray⟩, .slice Ak kids.length ck, .slice Ay keys.length cy, .slice Ae ents.length ce, .slice Al labs.length cl] 27) := ⟨_, rfl⟩
 have kW : W.heap[w.heap.size]? = some (.cells #[.int .i64 3, .int .i64 i, .string ⟨t.toArray⟩, .slice Ak kids.length ck, .slice Ay keys.length cy, .slice Ae ents.length ce, .slice Al labs.length cl] 27 (0, 0)) := by rw [hW]; exact heap_alloc_new w _
 have hw0 : BufW B b l W := by rw [hW]; exact h.alloc _
 have hWW : Wr B b w W := by rw [hW]; exact (Wr.refl _ _ _).alloc h.2 _
 have hne : w.heap.size ≠ b := by have := h.1.lt; omega
 have hle : l.length + (t).length + (labsL labs).length ≤ 140737488355328 := by rw [List.length_append] at hlim; omega
 have hok0 := hok
 simp only [okV, okVs_all, okEs_all, Bool.and_eq_true, List.all_eq_true] at hok
 have HLE := Lib.hid hle
 have HT := Lib.hid hT
 have HWw0 := Lib.hid hWW
 have HKw0 := Lib.hid kW
 have HV := Lib.hid hv0
 have HOK := Lib.hid hok0
 have HKK := Lib.hid hkk
 have HEE := Lib.hid hee
 have HLL := Lib.hid hll
 have HOKS : Hid (∀ x ∈ kids, okV x = true) := Lib.hid hok.1.2
 have HOKE : Hid (∀ x ∈ ents, okE x = true) := Lib.hid hok.2
 skip
 clear hle hlim hT hWW kW hv0 hok0 hkk hyy hee hll hok h
 obtain ⟨w0, hw00⟩ : ∃ w0, w0 = W := ⟨_, rfl⟩
 subst hw00
 have hc := bufW B b (l) t w0 hw0 (by have := HLE.out; (try simp at this ⊢); omega)
 go_enter Tryz.func17, Tryz.ntmps17
 go_wp2_with fail
 rw [← hW]
 clear hW
 refine hc.mono ?_
 rintro e w1 ⟨rfl, hw1, hb1⟩
 clear hc  hw0
 have HWw1 := Lib.hid (HWw0.out.trans hb1)
 have hk1 := hb1.box HKw0.out hne
 have HKw1 := Lib.hid hk1
 obtain ⟨e0, e1, e2, e3, e4, e5, e6⟩ := cells7 hk1
 clear hk1 hb1
 have hc := writeLabels_any B b (l ++ t) labs Al cl w1 hw1 (HLL.out.on HWw1.out.1 fun _ _ h => h) (by have := HLE.out; (try simp at this ⊢); omega)
 go_wp2_with fail
 refine hc.mono ?_
 rintro e wf ⟨rfl, hf, hbf⟩
 clear hc e0 e1 e2 e3 e4 e5 e6
 go_wp2
 go_end0
 exact ⟨rfl, by simpa using hf, HWw1.out.trans hbf⟩
set_option maxRecDepth 100000 in
set_option maxHeartbeats 3200000 in
theorem write4 (k : Nat) (_hP : Hid (WriteR k)) (B b : Nat) (l : Bs) (i : Int) (t : Bs) (kids : List Vl) (keys : List (Int × Bs)) (ents : List En) (labs : List Bs) (cs : List Value) (w : World) (h : BufW B b l w) (hv : VS (k + 1) w B (.mk 4 i t kids keys ents labs) cs) (hok : okV (.mk 4 i t kids keys ents labs) = true) (hT : TbH B w) (hlim : l.length + (showV (.mk 4 i t kids keys ents labs)).length ≤ 140737488355328) :
  Calls Tryz.prog 17 #[.pointer (some ⟨b, 0, none⟩), .agg cs.toArray] w fun e w' => e = .returned (.tuple #[]) ∧ BufW B b (l ++ showV (.mk 4 i t kids keys ents labs)) w' ∧ Wr B b w w' := by
 have hv0 := hv
 obtain ⟨uk, uy, ue, ul, rfl, _, hi, ht, hkk, hyy, hee, hll⟩ := hv
 obtain ⟨Ak, ck, rfl, hkl⟩ := hkk.form
 obtain ⟨Ay, cy, rfl, hyl⟩ := hyy.form
 obtain ⟨Ae, ce, rfl, hel⟩ := hee.form
 obtain ⟨Al, cl, rfl, hlbl⟩ := hll.form
 unfold maxLen at hkl hyl hel hlbl
 have hsh : showV (.mk 4 i t kids keys ents labs) = [35] ++ Lib.itoa i ++ labsL labs := by
  rw [showV_eq]
  have hb : bodyV (.mk 4 i t kids keys ents labs) = [35] ++ Lib.itoa i := by rfl
  rw [hb]
  rfl
 rw [hsh] at hlim ⊢
 clear hsh
 obtain ⟨W, hW⟩ : ∃ W, W = w.alloc (.cells #[.int .i64 4, .int .i64 i, .string ⟨t.toArray⟩, .slice Ak kids.length ck, .slice Ay keys.length cy, .slice Ae ents.length ce, .slice Al labs.length cl] 27) := ⟨_, rfl⟩
 have kW : W.heap[w.heap.size]? = some (.cells #[.int .i64 4, .int .i64 i, .string ⟨t.toArray⟩, .slice Ak kids.length ck, .slice Ay keys.length cy, .slice Ae ents.length ce, .slice Al labs.length cl] 27 (0, 0)) := by rw [hW]; exact heap_alloc_new w _
 have hw0 : BufW B b l W := by rw [hW]; exact h.alloc _
 have hWW : Wr B b w W := by rw [hW]; exact (Wr.refl _ _ _).alloc h.2 _
 have hne : w.heap.size ≠ b := by have := h.1.lt; omega
 have hle : l.length + ([35] ++ Lib.itoa i).length + (labsL labs).length ≤ 140737488355328 := by rw [List.length_append] at hlim; omega
 have hok0 := hok
 simp only [okV, okVs_all, okEs_all, Bool.and_eq_true, List.all_eq_true] at hok
 have HLE := Lib.hid hle
 have HT := Lib.hid hT
 have HWw0 := Lib.hid hWW
 have HKw0 := Lib.hid kW
 have HV := Lib.hid hv0
 have HOK := Lib.hid hok0
 have HKK := Lib.hid hkk
 have HEE := Lib.hid hee
 have HLL := Lib.hid hll
 have HOKS : Hid (∀ x ∈ kids, okV x = true) := Lib.hid hok.1.2
 have HOKE : Hid (∀ x ∈ ents, okE x = true) := Lib.hid hok.2
 skip
 clear hle hlim hT hWW kW hv0 hok0 hkk hyy hee hll hok h
 obtain ⟨w0, hw00⟩ : ∃ w0, w0 = W := ⟨_, rfl⟩
 subst hw00
 have hc := bufW B b (l) [35] w0 hw0 (by have := HLE.out; (try simp at this ⊢); omega)
 go_enter Tryz.func17, Tryz.ntmps17
 go_wp2_with fail
 rw [← hW]
 clear hW
 refine hc.mono ?_
 rintro e w1 ⟨rfl, hw1, hb1⟩
 clear hc  hw0
 have HWw1 := Lib.hid (HWw0.out.trans hb1)
 have hk1 := hb1.box HKw0.out hne
 have HKw1 := Lib.hid hk1
 obtain ⟨e0, e1, e2, e3, e4, e5, e6⟩ := cells7 hk1
 clear hk1 hb1
 have hc := writeNumber_any B b (l ++ [35]) i hi w1 hw1 (HT.out.below HWw1.out.1) (by have := HLE.out; (try simp at this ⊢); omega)
 go_wp2_with fail
 refine hc.mono ?_
 rintro e w2 ⟨rfl, hw2, hb2⟩
 clear hc e0 e1 e2 e3 e4 e5 e6 hw1
 have HWw2 := Lib.hid (HWw1.out.trans hb2)
 have hk2 := hb2.box HKw1.out hne
 have HKw2 := Lib.hid hk2
 obtain ⟨e0, e1, e2, e3, e4, e5, e6⟩ := cells7 hk2
 clear hk2 hb2
 have hc := writeLabels_any B b (l ++ [35] ++ Lib.itoa i) labs Al cl w2 hw2 (HLL.out.on HWw2.out.1 fun _ _ h => h) (by have := HLE.out; (try simp at this ⊢); omega)
 go_wp2_with fail
 refine hc.mono ?_
 rintro e wf ⟨rfl, hf, hbf⟩
 clear hc e0 e1 e2 e3 e4 e5 e6
 go_wp2
 go_end0
 exact ⟨rfl, by simpa using hf, HWw2.out.trans hbf⟩
set_option maxRecDepth 100000 in
set_option maxHeartbeats 3200000 in
theorem write5 (k : Nat) (_hP : Hid (WriteR k)) (B b : Nat) (l : Bs) (i : Int) (t : Bs) (kids : List Vl) (keys : List (Int × Bs)) (ents : List En) (labs : List Bs) (cs : List Value) (w : World) (h : BufW B b l w) (hv : VS (k + 1) w B (.mk 5 i t kids keys ents labs) cs) (hok : okV (.mk 5 i t kids keys ents labs) = true) (hT : TbH B w) (hlim : l.length + (showV (.mk 5 i t kids keys ents labs)).length ≤ 140737488355328) :
  Calls Tryz.prog 17 #[.pointer (some ⟨b, 0, none⟩), .agg cs.toArray] w fun e w' => e = .returned (.tuple #[]) ∧ BufW B b (l ++ showV (.mk 5 i t kids keys ents labs)) w' ∧ Wr B b w w' := by
 have hv0 := hv
 obtain ⟨uk, uy, ue, ul, rfl, _, hi, ht, hkk, hyy, hee, hll⟩ := hv
 obtain ⟨Ak, ck, rfl, hkl⟩ := hkk.form
 obtain ⟨Ay, cy, rfl, hyl⟩ := hyy.form
 obtain ⟨Ae, ce, rfl, hel⟩ := hee.form
 obtain ⟨Al, cl, rfl, hlbl⟩ := hll.form
 unfold maxLen at hkl hyl hel hlbl
 have hsh : showV (.mk 5 i t kids keys ents labs) = [91, 93] ++ labsL labs := by
  rw [showV_eq]
  have hb : bodyV (.mk 5 i t kids keys ents labs) = [91, 93] := by rfl
  rw [hb]
  rfl
 rw [hsh] at hlim ⊢
 clear hsh
 obtain ⟨W, hW⟩ : ∃ W, W = w.alloc (.cells #[.int .i64 5, .int .i64 i, .string ⟨t.toArray⟩, .slice Ak kids.length ck, .slice Ay keys.length cy, .slice Ae ents.length ce, .slice Al labs.length cl] 27) := ⟨_, rfl⟩
 have kW : W.heap[w.heap.size]? = some (.cells #[.int .i64 5, .int .i64 i, .string ⟨t.toArray⟩, .slice Ak kids.length ck, .slice Ay keys.length cy, .slice Ae ents.length ce, .slice Al labs.length cl] 27 (0, 0)) := by rw [hW]; exact heap_alloc_new w _
 have hw0 : BufW B b l W := by rw [hW]; exact h.alloc _
 have hWW : Wr B b w W := by rw [hW]; exact (Wr.refl _ _ _).alloc h.2 _
 have hne : w.heap.size ≠ b := by have := h.1.lt; omega
 have hle : l.length + ([91, 93]).length + (labsL labs).length ≤ 140737488355328 := by rw [List.length_append] at hlim; omega
 have hok0 := hok
 simp only [okV, okVs_all, okEs_all, Bool.and_eq_true, List.all_eq_true] at hok
 have HLE := Lib.hid hle
 have HT := Lib.hid hT
 have HWw0 := Lib.hid hWW
 have HKw0 := Lib.hid kW
 have HV := Lib.hid hv0
 have HOK := Lib.hid hok0
 have HKK := Lib.hid hkk
 have HEE := Lib.hid hee
 have HLL := Lib.hid hll
 have HOKS : Hid (∀ x ∈ kids, okV x = true) := Lib.hid hok.1.2
 have HOKE : Hid (∀ x ∈ ents, okE x = true) := Lib.hid hok.2
 skip
 clear hle hlim hT hWW kW hv0 hok0 hkk hyy hee hll hok h
 obtain ⟨w0, hw00⟩ : ∃ w0, w0 = W := ⟨_, rfl⟩
 subst hw00
 have hc := bufW B b (l) [91, 93] w0 hw0 (by have := HLE.out; (try simp at this ⊢); omega)
 go_enter Tryz.func17, Tryz.ntmps17
 go_wp2_with fail
 rw [← hW]
 clear hW
 refine hc.mono ?_
 rintro e w1 ⟨rfl, hw1, hb1⟩
 clear hc  hw0
 have HWw1 := Lib.hid (HWw0.out.trans hb1)
 have hk1 := hb1.box HKw0.out hne
 have HKw1 := Lib.hid hk1
 obtain ⟨e0, e1, e2, e3, e4, e5, e6⟩ := cells7 hk1
 clear hk1 hb1
 have hc := writeLabels_any B b (l ++ [91, 93]) labs Al cl w1 hw1 (HLL.out.on HWw1.out.1 fun _ _ h => h) (by have := HLE.out; (try simp at this ⊢); omega)
 go_wp2_with fail
 refine hc.mono ?_
 rintro e wf ⟨rfl, hf, hbf⟩
 clear hc e0 e1 e2 e3 e4 e5 e6
 go_wp2
 go_end0
 exact ⟨rfl, by simpa using hf, HWw1.out.trans hbf⟩
set_option maxRecDepth 100000 in
set_option maxHeartbeats 3200000 in
theorem write6 (k : Nat) (hP : Hid (WriteR k)) (B b : Nat) (l : Bs) (i : Int) (t : Bs) (kids : List Vl) (keys : List (Int × Bs)) (ents : List En) (labs : List Bs) (cs : List Value) (w : World) (h : BufW B b l w) (hv : VS (k + 1) w B (.mk 6 i t kids keys ents labs) cs) (hok : okV (.mk 6 i t kids keys ents labs) = true) (hT : TbH B w) (hlim : l.length + (showV (.mk 6 i t kids keys ents labs)).length ≤ 140737488355328) :
  Calls Tryz.prog 17 #[.pointer (some ⟨b, 0, none⟩), .agg cs.toArray] w fun e w' => e = .returned (.tuple #[]) ∧ BufW B b (l ++ showV (.mk 6 i t kids keys ents labs)) w' ∧ Wr B b w w' := by
 have hv0 := hv
 obtain ⟨uk, uy, ue, ul, rfl, _, hi, ht, hkk, hyy, hee, hll⟩ := hv
 obtain ⟨Ak, ck, rfl, hkl⟩ := hkk.form
 obtain ⟨Ay, cy, rfl, hyl⟩ := hyy.form
 obtain ⟨Ae, ce, rfl, hel⟩ := hee.form
 obtain ⟨Al, cl, rfl, hlbl⟩ := hll.form
 unfold maxLen at hkl hyl hel hlbl
 have hsh : showV (.mk 6 i t kids keys ents labs) = [123] ++ sepL commaL (kids.map showV) ++ [125] ++ labsL labs := by
  rw [showV_eq]
  have hb : bodyV (.mk 6 i t kids keys ents labs) = [123] ++ sepL commaL (kids.map showV) ++ [125] := by show 123 :: (sepL commaL (kids.map showV) ++ [125]) = _; simp
  rw [hb]
  rfl
 rw [hsh] at hlim ⊢
 clear hsh
 obtain ⟨W, hW⟩ : ∃ W, W = w.alloc (.cells #[.int .i64 6, .int .i64 i, .string ⟨t.toArray⟩, .slice Ak kids.length ck, .slice Ay keys.length cy, .slice Ae ents.length ce, .slice Al labs.length cl] 27) := ⟨_, rfl⟩
 have kW : W.heap[w.heap.size]? = some (.cells #[.int .i64 6, .int .i64 i, .string ⟨t.toArray⟩, .slice Ak kids.length ck, .slice Ay keys.length cy, .slice Ae ents.length ce, .slice Al labs.length cl] 27 (0, 0)) := by rw [hW]; exact heap_alloc_new w _
 have hw0 : BufW B b l W := by rw [hW]; exact h.alloc _
 have hWW : Wr B b w W := by rw [hW]; exact (Wr.refl _ _ _).alloc h.2 _
 have hne : w.heap.size ≠ b := by have := h.1.lt; omega
 have hle : l.length + ([123] ++ sepL commaL (kids.map showV) ++ [125]).length + (labsL labs).length ≤ 140737488355328 := by rw [List.length_append] at hlim; omega
 have hok0 := hok
 simp only [okV, okVs_all, okEs_all, Bool.and_eq_true, List.all_eq_true] at hok
 have HLE := Lib.hid hle
 have HT := Lib.hid hT
 have HWw0 := Lib.hid hWW
 have HKw0 := Lib.hid kW
 have HV := Lib.hid hv0
 have HOK := Lib.hid hok0
 have HKK := Lib.hid hkk
 have HEE := Lib.hid hee
 have HLL := Lib.hid hll
 have HOKS : Hid (∀ x ∈ kids, okV x = true) := Lib.hid hok.1.2
 have HOKE : Hid (∀ x ∈ ents, okE x = true) := Lib.hid hok.2
 skip
 clear hle hlim hT hWW kW hv0 hok0 hkk hyy hee hll hok h
 obtain ⟨w0, hw00⟩ : ∃ w0, w0 = W := ⟨_, rfl⟩
 subst hw00
 have hc := writeSeqV_any k hP B b (l) [123] [125] kids Ak ck w0 hw0 (HKK.out.on HWw0.out.1 fun _ _ ⟨x, h1, h2⟩ => ⟨x, h1, VS.on HWw0.out.1 h2⟩) HOKS.out (HT.out.below HWw0.out.1) (by have := HLE.out; (try simp at this ⊢); omega)
 go_enter Tryz.func17, Tryz.ntmps17
 go_wp2_with fail
 rw [← hW]
 clear hW
 refine hc.mono ?_
 rintro e w1 ⟨rfl, hw1, hb1⟩
 clear hc  hw0
 have HWw1 := Lib.hid (HWw0.out.trans hb1)
 have hk1 := hb1.box HKw0.out hne
 have HKw1 := Lib.hid hk1
 obtain ⟨e0, e1, e2, e3, e4, e5, e6⟩ := cells7 hk1
 clear hk1 hb1
 have hc := writeLabels_any B b (l ++ [123] ++ sepL commaL (kids.map showV) ++ [125]) labs Al cl w1 hw1 (HLL.out.on HWw1.out.1 fun _ _ h => h) (by have := HLE.out; (try simp at this ⊢); omega)
 go_wp2_with fail
 refine hc.mono ?_
 rintro e wf ⟨rfl, hf, hbf⟩
 clear hc e0 e1 e2 e3 e4 e5 e6
 go_wp2
 go_end0
 exact ⟨rfl, by simpa using hf, HWw1.out.trans hbf⟩
set_option maxRecDepth 100000 in
set_option maxHeartbeats 3200000 in
theorem write7 (k : Nat) (hP : Hid (WriteR k)) (B b : Nat) (l : Bs) (i : Int) (t : Bs) (kids : List Vl) (keys : List (Int × Bs)) (ents : List En) (labs : List Bs) (cs : List Value) (w : World) (h : BufW B b l w) (hv : VS (k + 1) w B (.mk 7 i t kids keys ents labs) cs) (hok : okV (.mk 7 i t kids keys ents labs) = true) (hT : TbH B w) (hlim : l.length + (showV (.mk 7 i t kids keys ents labs)).length ≤ 140737488355328) :
  Calls Tryz.prog 17 #[.pointer (some ⟨b, 0, none⟩), .agg cs.toArray] w fun e w' => e = .returned (.tuple #[]) ∧ BufW B b (l ++ showV (.mk 7 i t kids keys ents labs)) w' ∧ Wr B b w w' := by
 have hv0 := hv
 obtain ⟨uk, uy, ue, ul, rfl, _, hi, ht, hkk, hyy, hee, hll⟩ := hv
 obtain ⟨Ak, ck, rfl, hkl⟩ := hkk.form
 obtain ⟨Ay, cy, rfl, hyl⟩ := hyy.form
 obtain ⟨Ae, ce, rfl, hel⟩ := hee.form
 obtain ⟨Al, cl, rfl, hlbl⟩ := hll.form
 unfold maxLen at hkl hyl hel hlbl
 have hsh : showV (.mk 7 i t kids keys ents labs) = bodyV (.mk 7 i t kids keys ents labs) ++ labsL labs := by
  rw [showV_eq]
  have hb : bodyV (.mk 7 i t kids keys ents labs) = bodyV (.mk 7 i t kids keys ents labs) := by rfl
  rw [hb]
  rfl
 rw [hsh] at hlim ⊢
 clear hsh
 obtain ⟨W, hW⟩ : ∃ W, W = w.alloc (.cells #[.int .i64 7, .int .i64 i, .string ⟨t.toArray⟩, .slice Ak kids.length ck, .slice Ay keys.length cy, .slice Ae ents.length ce, .slice Al labs.length cl] 27) := ⟨_, rfl⟩
 have kW : W.heap[w.heap.size]? = some (.cells #[.int .i64 7, .int .i64 i, .string ⟨t.toArray⟩, .slice Ak kids.length ck, .slice Ay keys.length cy, .slice Ae ents.length ce, .slice Al labs.length cl] 27 (0, 0)) := by rw [hW]; exact heap_alloc_new w _
 have hw0 : BufW B b l W := by rw [hW]; exact h.alloc _
 have hWW : Wr B b w W := by rw [hW]; exact (Wr.refl _ _ _).alloc h.2 _
 have hne : w.heap.size ≠ b := by have := h.1.lt; omega
 have hle : l.length + (bodyV (.mk 7 i t kids keys ents labs)).length + (labsL labs).length ≤ 140737488355328 := by rw [List.length_append] at hlim; omega
 have hok0 := hok
 simp only [okV, okVs_all, okEs_all, Bool.and_eq_true, List.all_eq_true] at hok
 have HLE := Lib.hid hle
 have HT := Lib.hid hT
 have HWw0 := Lib.hid hWW
 have HKw0 := Lib.hid kW
 have HV := Lib.hid hv0
 have HOK := Lib.hid hok0
 have HKK := Lib.hid hkk
 have HEE := Lib.hid hee
 have HLL := Lib.hid hll
 have HOKS : Hid (∀ x ∈ kids, okV x = true) := Lib.hid hok.1.2
 have HOKE : Hid (∀ x ∈ ents, okE x = true) := Lib.hid hok.2
 skip
 clear hle hlim hT hWW kW hv0 hok0 hkk hyy hee hll hok h
 obtain ⟨w0, hw00⟩ : ∃ w0, w0 = W := ⟨_, rfl⟩
 subst hw00
 have hc := writeList_any k hP B b (l) (.mk 7 i t kids keys ents labs) _ w0 hw0 (VS.on HWw0.out.1 HV.out) rfl HOK.out (HT.out.below HWw0.out.1) (by have := HLE.out; omega)
 go_enter Tryz.func17, Tryz.ntmps17
 go_wp2_with fail
 rw [← hW]
 clear hW
 refine hc.mono ?_
 rintro e w1 ⟨rfl, hw1, hb1⟩
 clear hc  hw0
 have HWw1 := Lib.hid (HWw0.out.trans hb1)
 have hk1 := hb1.box HKw0.out hne
 have HKw1 := Lib.hid hk1
 obtain ⟨e0, e1, e2, e3, e4, e5, e6⟩ := cells7 hk1
 clear hk1 hb1
 have hc := writeLabels_any B b (l ++ bodyV (.mk 7 i t kids keys ents labs)) labs Al cl w1 hw1 (HLL.out.on HWw1.out.1 fun _ _ h => h) (by have := HLE.out; (try simp at this ⊢); omega)
 go_wp2_with fail
 refine hc.mono ?_
 rintro e wf ⟨rfl, hf, hbf⟩
 clear hc e0 e1 e2 e3 e4 e5 e6
 go_wp2
 go_end0
 exact ⟨rfl, by simpa using hf, HWw1.out.trans hbf⟩
set_option maxRecDepth 100000 in
set_option maxHeartbeats 3200000 in
theorem write8 (k : Nat) (hP : Hid (WriteR k)) (B b : Nat) (l : Bs) (i : Int) (t : Bs) (kids : List Vl) (keys : List (Int × Bs)) (ents : List En) (labs : List Bs) (cs : List Value) (w : World) (h : BufW B b l w) (hv : VS (k + 1) w B (.mk 8 i t kids keys ents labs) cs) (hok : okV (.mk 8 i t kids keys ents labs) = true) (hT : TbH B w) (hlim : l.length + (showV (.mk 8 i t kids keys ents labs)).length ≤ 140737488355328) :
  Calls Tryz.prog 17 #[.pointer (some ⟨b, 0, none⟩), .agg cs.toArray] w fun e w' => e = .returned (.tuple #[]) ∧ BufW B b (l ++ showV (.mk 8 i t kids keys ents labs)) w' ∧ Wr B b w w' := by
 have hv0 := hv
 obtain ⟨uk, uy, ue, ul, rfl, _, hi, ht, hkk, hyy, hee, hll⟩ := hv
 obtain ⟨Ak, ck, rfl, hkl⟩ := hkk.form
 obtain ⟨Ay, cy, rfl, hyl⟩ := hyy.form
 obtain ⟨Ae, ce, rfl, hel⟩ := hee.form
 obtain ⟨Al, cl, rfl, hlbl⟩ := hll.form
 unfold maxLen at hkl hyl hel hlbl
 have hsh : showV (.mk 8 i t kids keys ents labs) = bodyV (.mk 8 i t kids keys ents labs) ++ labsL labs := by
  rw [showV_eq]
  have hb : bodyV (.mk 8 i t kids keys ents labs) = bodyV (.mk 8 i t kids keys ents labs) := by rfl
  rw [hb]
  rfl
 rw [hsh] at hlim ⊢
 clear hsh
 obtain ⟨W, hW⟩ : ∃ W, W = w.alloc (.cells #[.int .i64 8, .int .i64 i, .string ⟨t.toArray⟩, .slice Ak kids.length ck, .slice Ay keys.length cy, .slice Ae ents.length ce, .slice Al labs.length cl] 27) := ⟨_, rfl⟩
 have kW : W.heap[w.heap.size]? = some (.cells #[.int .i64 8, .int .i64 i, .string ⟨t.toArray⟩, .slice Ak kids.length ck, .slice Ay keys.length cy, .slice Ae ents.length ce, .slice Al labs.length cl] 27 (0, 0)) := by rw [hW]; exact heap_alloc_new w _
 have hw0 : BufW B b l W := by rw [hW]; exact h.alloc _
 have hWW : Wr B b w W := by rw [hW]; exact (Wr.refl _ _ _).alloc h.2 _
 have hne : w.heap.size ≠ b := by have := h.1.lt; omega
 have hle : l.length + (bodyV (.mk 8 i t kids keys ents labs)).length + (labsL labs).length ≤ 140737488355328 := by rw [List.length_append] at hlim; omega
 have hok0 := hok
 simp only [okV, okVs_all, okEs_all, Bool.and_eq_true, List.all_eq_true] at hok
 have HLE := Lib.hid hle
 have HT := Lib.hid hT
 have HWw0 := Lib.hid hWW
 have HKw0 := Lib.hid kW
 have HV := Lib.hid hv0
 have HOK := Lib.hid hok0
 have HKK := Lib.hid hkk
 have HEE := Lib.hid hee
 have HLL := Lib.hid hll
 have HOKS : Hid (∀ x ∈ kids, okV x = true) := Lib.hid hok.1.2
 have HOKE : Hid (∀ x ∈ ents, okE x = true) := Lib.hid hok.2
 skip
 clear hle hlim hT hWW kW hv0 hok0 hkk hyy hee hll hok h
 obtain ⟨w0, hw00⟩ : ∃ w0, w0 = W := ⟨_, rfl⟩
 subst hw00
 have hc := writeMap_any k hP B b (l) i t kids keys ents labs _ w0 hw0 (VS.on HWw0.out.1 HV.out) HOK.out (HT.out.below HWw0.out.1) (by have := HLE.out; omega)
 go_enter Tryz.func17, Tryz.ntmps17
 go_wp2_with fail
 rw [← hW]
 clear hW
 refine hc.mono ?_
 rintro e w1 ⟨rfl, hw1, hb1⟩
 clear hc  hw0
 have HWw1 := Lib.hid (HWw0.out.trans hb1)
 have hk1 := hb1.box HKw0.out hne
 have HKw1 := Lib.hid hk1
 obtain ⟨e0, e1, e2, e3, e4, e5, e6⟩ := cells7 hk1
 clear hk1 hb1
 have hc := writeLabels_any B b (l ++ bodyV (.mk 8 i t kids keys ents labs)) labs Al cl w1 hw1 (HLL.out.on HWw1.out.1 fun _ _ h => h) (by have := HLE.out; (try simp at this ⊢); omega)
 go_wp2_with fail
 refine hc.mono ?_
 rintro e wf ⟨rfl, hf, hbf⟩
 clear hc e0 e1 e2 e3 e4 e5 e6
 go_wp2
 go_end0
 exact ⟨rfl, by simpa using hf, HWw1.out.trans hbf⟩
set_option maxRecDepth 100000 in
set_option maxHeartbeats 3200000 in
theorem write9 (k : Nat) (hP : Hid (WriteR k)) (B b : Nat) (l : Bs) (i : Int) (t : Bs) (kids : List Vl) (keys : List (Int × Bs)) (ents : List En) (labs : List Bs) (cs : List Value) (w : World) (h : BufW B b l w) (hv : VS (k + 1) w B (.mk 9 i t kids keys ents labs) cs) (hok : okV (.mk 9 i t kids keys ents labs) = true) (hT : TbH B w) (hlim : l.length + (showV (.mk 9 i t kids keys ents labs)).length ≤ 140737488355328) :
  Calls Tryz.prog 17 #[.pointer (some ⟨b, 0, none⟩), .agg cs.toArray] w fun e w' => e = .returned (.tuple #[]) ∧ BufW B b (l ++ showV (.mk 9 i t kids keys ents labs)) w' ∧ Wr B b w w' := by
 have hv0 := hv
 obtain ⟨uk, uy, ue, ul, rfl, _, hi, ht, hkk, hyy, hee, hll⟩ := hv
 obtain ⟨Ak, ck, rfl, hkl⟩ := hkk.form
 obtain ⟨Ay, cy, rfl, hyl⟩ := hyy.form
 obtain ⟨Ae, ce, rfl, hel⟩ := hee.form
 obtain ⟨Al, cl, rfl, hlbl⟩ := hll.form
 unfold maxLen at hkl hyl hel hlbl
 have hsh : showV (.mk 9 i t kids keys ents labs) = [102, 117, 110, 47] ++ Lib.itoa i ++ [123] ++ sepL commaL (ents.map showE) ++ [125] ++ labsL labs := by
  rw [showV_eq]
  have hb : bodyV (.mk 9 i t kids keys ents labs) = [102, 117, 110, 47] ++ Lib.itoa i ++ [123] ++ sepL commaL (ents.map showE) ++ [125] := by show [102, 117, 110, 47] ++ Lib.itoa i ++ [123] ++ (sepL commaL (ents.map showE) ++ [125]) = _; rw [← List.append_assoc]
  rw [hb]
  rfl
 rw [hsh] at hlim ⊢
 clear hsh
 obtain ⟨W, hW⟩ : ∃ W, W = w.alloc (.cells #[.int .i64 9, .int .i64 i, .string ⟨t.toArray⟩, .slice Ak kids.length ck, .slice Ay keys.length cy, .slice Ae ents.length ce, .slice Al labs.length cl] 27) := ⟨_, rfl⟩
 have kW : W.heap[w.heap.size]? = some (.cells #[.int .i64 9, .int .i64 i, .string ⟨t.toArray⟩, .slice Ak kids.length ck, .slice Ay keys.length cy, .slice Ae ents.length ce, .slice Al labs.length cl] 27 (0, 0)) := by rw [hW]; exact heap_alloc_new w _
 have hw0 : BufW B b l W := by rw [hW]; exact h.alloc _
 have hWW : Wr B b w W := by rw [hW]; exact (Wr.refl _ _ _).alloc h.2 _
 have hne : w.heap.size ≠ b := by have := h.1.lt; omega
 have hle : l.length + ([102, 117, 110, 47] ++ Lib.itoa i ++ [123] ++ sepL commaL (ents.map showE) ++ [125]).length + (labsL labs).length ≤ 140737488355328 := by rw [List.length_append] at hlim; omega
 have hok0 := hok
 simp only [okV, okVs_all, okEs_all, Bool.and_eq_true, List.all_eq_true] at hok
 have HLE := Lib.hid hle
 have HT := Lib.hid hT
 have HWw0 := Lib.hid hWW
 have HKw0 := Lib.hid kW
 have HV := Lib.hid hv0
 have HOK := Lib.hid hok0
 have HKK := Lib.hid hkk
 have HEE := Lib.hid hee
 have HLL := Lib.hid hll
 have HOKS : Hid (∀ x ∈ kids, okV x = true) := Lib.hid hok.1.2
 have HOKE : Hid (∀ x ∈ ents, okE x = true) := Lib.hid hok.2
 skip
 clear hle hlim hT hWW kW hv0 hok0 hkk hyy hee hll hok h
 obtain ⟨w0, hw00⟩ : ∃ w0, w0 = W := ⟨_, rfl⟩
 subst hw00
 have hc := bufW B b (l) [102, 117, 110, 47] w0 hw0 (by have := HLE.out; (try simp at this ⊢); omega)
 go_enter Tryz.func17, Tryz.ntmps17
 go_wp2_with fail
 rw [← hW]
 clear hW
 refine hc.mono ?_
 rintro e w1 ⟨rfl, hw1, hb1⟩
 clear hc  hw0
 have HWw1 := Lib.hid (HWw0.out.trans hb1)
 have hk1 := hb1.box HKw0.out hne
 have HKw1 := Lib.hid hk1
 obtain ⟨e0, e1, e2, e3, e4, e5, e6⟩ := cells7 hk1
 clear hk1 hb1
 have hc := writeNumber_any B b (l ++ [102, 117, 110, 47]) i hi w1 hw1 (HT.out.below HWw1.out.1) (by have := HLE.out; (try simp at this ⊢); omega)
 go_wp2_with fail
 refine hc.mono ?_
 rintro e w2 ⟨rfl, hw2, hb2⟩
 clear hc e0 e1 e2 e3 e4 e5 e6 hw1
 have HWw2 := Lib.hid (HWw1.out.trans hb2)
 have hk2 := hb2.box HKw1.out hne
 have HKw2 := Lib.hid hk2
 obtain ⟨e0, e1, e2, e3, e4, e5, e6⟩ := cells7 hk2
 clear hk2 hb2
 have hc := writeSeqE_any k hP B b (l ++ [102, 117, 110, 47] ++ Lib.itoa i) [123] [125] ents Ae ce w2 hw2 (HEE.out.on HWw2.out.1 fun _ _ ⟨args, fails, result, h1, ua, rs, h2, h3, h4⟩ => ⟨args, fails, result, h1, ua, rs, h2, h3.on HWw2.out.1 fun _ _ ⟨x, h5, h6⟩ => ⟨x, h5, VS.on HWw2.out.1 h6⟩, VS.on HWw2.out.1 h4⟩) HOKE.out (HT.out.below HWw2.out.1) (by have := HLE.out; (try simp at this ⊢); omega)
 go_wp2_with fail
 refine hc.mono ?_
 rintro e w3 ⟨rfl, hw3, hb3⟩
 clear hc e0 e1 e2 e3 e4 e5 e6 hw2
 have HWw3 := Lib.hid (HWw2.out.trans hb3)
 have hk3 := hb3.box HKw2.out hne
 have HKw3 := Lib.hid hk3
 obtain ⟨e0, e1, e2, e3, e4, e5, e6⟩ := cells7 hk3
 clear hk3 hb3
 have hc := writeLabels_any B b (l ++ [102, 117, 110, 47] ++ Lib.itoa i ++ [123] ++ sepL commaL (ents.map showE) ++ [125]) labs Al cl w3 hw3 (HLL.out.on HWw3.out.1 fun _ _ h => h) (by have := HLE.out; (try simp at this ⊢); omega)
 go_wp2_with fail
 refine hc.mono ?_
 rintro e wf ⟨rfl, hf, hbf⟩
 clear hc e0 e1 e2 e3 e4 e5 e6
 go_wp2
 go_end0
 exact ⟨rfl, by simpa using hf, HWw3.out.trans hbf⟩
theorem write_all : ∀ k, WriteR k
 | 0 => by intro B b l v cs w _ h; exact h.elim
 | k + 1 => by
  intro B b l v cs w h hv hok hT hlim
  have hP := Lib.hid (write_all k)
  obtain ⟨kd, i, t, kids, keys, ents, labs⟩ := v
  have hk : kindB kd i t kids keys ents = true := by
   have h2 := hok
   simp only [okV, Bool.and_eq_true] at h2
   exact h2.1.1.2
  rcases kinds hk with rfl | rfl | rfl | rfl | rfl | rfl | rfl | rfl | rfl
  · exact write1 k hP B b l i t kids keys ents labs cs w h hv hok hT hlim
  · exact write2 k hP B b l i t kids keys ents labs cs w h hv hok hT hlim
  · exact write3 k hP B b l i t kids keys ents labs cs w h hv hok hT hlim
  · exact write4 k hP B b l i t kids keys ents labs cs w h hv hok hT hlim
  · exact write5 k hP B b l i t kids keys ents labs cs w h hv hok hT hlim
  · exact write6 k hP B b l i t kids keys ents labs cs w h hv hok hT hlim
  · exact write7 k hP B b l i t kids keys ents labs cs w h hv hok hT hlim
  · exact write8 k hP B b l i t kids keys ents labs cs w h hv hok hT hlim
  · exact write9 k hP B b l i t kids keys ents labs cs w h hv hok hT hlim
end Go.Proofs.YtcjgaohblaidjaaGreatDoor
