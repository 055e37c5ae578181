/- What writeMap of the program writes, with write as it works on lower trees. -/
import Derived.Test.YtcjgaohblaidjaaGreatDoorVb03
import Derived.Test.YtcjgaohblaidjaaGreatDoorVb04
import Derived.Test.YtcjgaohblaidjaaGreatDoorVb09
namespace Go.Proofs.YtcjgaohblaidjaaGreatDoor
open Go Go.RowKit
theorem cellz2_ {w : World} {g : Nat} {e : TypeId} {z0 z1 : Value} (h : w.heap[g]? = some (.cells #[z0, z1] e (0, 0))) : w.cell? ⟨g, 0, none⟩ = some z0 ∧ w.cell? ⟨g, 1, none⟩ = some z1 :=
 ⟨(Lib.cell_of_heap h 0).trans rfl, (Lib.cell_of_heap h 1).trans rfl⟩
theorem Wr.boxK {B b g : Nat} {w w' : World} {cs : Array Value} (h : Wr B b w w') (hg : w.heap[g]? = some (.cells cs 80 (0, 0))) (hb : g ≠ b) : w'.heap[g]? = some (.cells cs 80 (0, 0)) :=
 h.2 g _ hg (by intro e; injection e with e; exact hb e) (by intro c fz e; injection e with _ e _; exact absurd e (by decide))
set_option maxRecDepth 100000 in
set_option maxHeartbeats 6400000 in
theorem writeMap_any (k : Nat) (hP : Hid (WriteR k)) (B b : Nat) (l : Bs) (i : Int) (t : Bs) (kids : List Vl) (keys : List (Int × Bs)) (ents : List En) (labs : List Bs) (cs : List Value) (w : World) (h : BufW B b l w) (hv : VS (k + 1) w B (.mk 8 i t kids keys ents labs) cs) (hok : okV (.mk 8 i t kids keys ents labs) = true) (hT : TbH B w) (hlim : l.length + (bodyV (.mk 8 i t kids keys ents labs)).length ≤ 140737488355328) :
  Calls Tryz.prog 32 #[.pointer (some ⟨b, 0, none⟩), .agg cs.toArray] w fun e w' => e = .returned (.tuple #[]) ∧ BufW B b (l ++ bodyV (.mk 8 i t kids keys ents labs)) w' ∧ Wr B b w w' := by
 obtain ⟨uk, uy, ue, ul, rfl, _, _, _, hkk, hyy, hee, hll⟩ := hv
 obtain ⟨Ak, ck, rfl, hkl⟩ := hkk.form
 obtain ⟨Ay, cy, rfl, hyl⟩ := hyy.form
 obtain ⟨Ae, ce, rfl, hel⟩ := hee.form
 obtain ⟨Al, cl, rfl, hlbl⟩ := hll.form
 unfold maxLen at hkl hyl hel hlbl
 simp only [okV, okVs_all, okEs_all, Bool.and_eq_true, List.all_eq_true] at hok
 have hk2 : (∀ x ∈ keys, keyB x.1 x.2 = true) ∧ keys.length = kids.length := by
  have h2 : (keys.all (fun x => keyB x.1 x.2) && decide (AscC cmpK keys) && decide (keys.length = kids.length)) = true := hok.1.1.2
  simp only [Bool.and_eq_true, decide_eq_true_eq, List.all_eq_true] at h2
  exact ⟨h2.1.1, h2.2⟩
 have hz : bodyV (.mk 8 i t kids keys ents labs) = [37, 123] ++ sepL commaL ((keys.zip kids).map fun x : (Int × Bs) × Vl => keyL x.1.1 x.1.2 ++ [58, 32] ++ showV x.2) ++ [125] := by
  show [37, 123] ++ (sepL commaL (List.zipWith (fun (x : Int × Bs) (z : Bs) => keyL x.1 x.2 ++ [58, 32] ++ z) keys (kids.map showV)) ++ [125]) = _
  have hz := zip_fields (keys.zip kids)
  rw [(zip_map keys kids hk2.2).1, (zip_map keys kids hk2.2).2] at hz
  rw [hz, List.append_assoc]
 rw [hz] at hlim ⊢
 obtain ⟨Z, hZ⟩ : ∃ Z : List Bs, Z = (keys.zip kids).map fun x : (Int × Bs) × Vl => keyL x.1.1 x.1.2 ++ [58, 32] ++ showV x.2 := ⟨_, rfl⟩
 rw [← hZ] at hlim ⊢
 have hZn : Z.length = keys.length := by rw [hZ, List.length_map, List.length_zip]; omega
 have HZ : Hid (∀ (j : Nat) (x : Int × Bs) (z : Vl), keys[j]? = some x → kids[j]? = some z → Z[j]? = some (keyL x.1 x.2 ++ [58, 32] ++ showV z)) := Lib.hid (by
  intro j x z h1 h2
  rw [hZ, List.getElem?_map, List.getElem?_zip_eq_some.2 (show keys[j]? = some (x, z).1 ∧ kids[j]? = some (x, z).2 from ⟨h1, h2⟩)]
  rfl)
 have HKB := Lib.hid hk2.1
 have HOKS : Hid (∀ x ∈ kids, okV x = true) := Lib.hid hok.1.2
 have HKN := Lib.hid hk2.2
 obtain ⟨W, hW⟩ : ∃ W, W = w.alloc (.cells #[.int .i64 8, .int .i64 i, .string ⟨t.toArray⟩, .slice Ak kids.length ck, .slice Ay keys.length cy, .slice Ae ents.length ce, .slice Al labs.length cl] 27) := ⟨_, rfl⟩
 have kW : W.heap[w.heap.size]? = some (.cells #[.int .i64 8, .int .i64 i, .string ⟨t.toArray⟩, .slice Ak kids.length ck, .slice Ay keys.length cy, .slice Ae ents.length ce, .slice Al labs.length cl] 27 (0, 0)) := by rw [hW]; exact heap_alloc_new w _
 have hBW : BufW B b l W := by rw [hW]; exact h.alloc _
 have hWW : Wr B b w W := by rw [hW]; exact (Wr.refl _ _ _).alloc h.2 _
 have hne : w.heap.size ≠ b := by have := h.1.lt; omega
 have hBs := h.2
 have hc0 := bufW B b l [37, 123] W hBW (by simp only [List.length_append, List.length_cons, List.length_nil] at hlim ⊢; omega)
 have HLM := Lib.hid hlim
 have HT := Lib.hid hT
 have HWW := Lib.hid hWW
 have HKW := Lib.hid kW
 have HKK := Lib.hid hkk
 have HYY := Lib.hid hyy
 have HZN := Lib.hid hZn
 clear hz hk2 hok hlim hZ hZn hT hWW kW hkk hyy hee hll hBW h
 go_enter Tryz.func32, Tryz.ntmps32
 go_wp2_with fail
 rw [← hW]
 clear hW
 refine hc0.mono ?_
 rintro e w1 ⟨rfl, h1, hb1⟩
 clear hc0
 have k1 := hb1.box HKW.out hne
 have H1 := Lib.hid (And.intro h1 (And.intro (HWW.out.trans hb1) k1))
 have g4 := (Lib.cell_of_heap k1 4).trans rfl
 clear h1 hb1 k1
 go_wp2_with fail
 clear g4
 go_loopw [11] (fun iv wr => ∃ j : Nat, iv = .int .i64 j ∧ j ≤ keys.length ∧ BufW B b (l ++ [37, 123] ++ sepL commaL (Z.take j)) wr ∧ Wr B b w wr ∧ wr.heap[w.heap.size]? = some (.cells #[.int .i64 8, .int .i64 i, .string ⟨t.toArray⟩, .slice Ak kids.length ck, .slice Ay keys.length cy, .slice Ae ents.length ce, .slice Al labs.length cl] 27 (0, 0))) (fun iv _ => keys.length - (intOf iv).toNat)
 case atStart => exact ⟨0, rfl, by omega, by simpa [sepL] using H1.out.1, H1.out.2.1, H1.out.2.2⟩
 case round =>
  obtain ⟨j, rfl, hj, hB, hb, hG⟩ := hrel
  by_cases hjn : j < keys.length
  ·
   obtain ⟨by0, offy, cpy, y0, y1, huy, hby, ⟨xk, hxk, hyc, _, hxl⟩, cy0, cy1⟩ := (HYY.out.on hb.1 (fun _ _ h => h)).at2 hjn
   injection huy with hAy _ hcy
   subst hAy hcy
   simp only [List.cons.injEq, and_true] at hyc
   obtain ⟨rfl, rfl⟩ := hyc
   obtain ⟨bk, off, cp, x0, x1, x2, x3, x4, x5, x6, hu, hbk, ⟨xv, hxv, hvv⟩, d0, d1, d2, d3, d4, d5, d6⟩ := HKK.out.at7 (show j < kids.length by rw [← HKN.out]; exact hjn)
   injection hu with hA _ hcp
   subst hA hcp
   obtain ⟨za, zi, zs, zA3, zn3, zc3, zA4, zn4, zc4, zA5, zn5, zc5, zA6, zn6, zc6, he7⟩ := hvv.form7
   simp only [List.cons.injEq, and_true] at he7
   obtain ⟨rfl, rfl, rfl, rfl, rfl, rfl, rfl⟩ := he7
   have kn : (j : Int) < (keys.length : Int) := by omega
   have kn2 : (j : Int) < (kids.length : Int) := by rw [← HKN.out]; exact kn
   have k0 : (0 : Int) ≤ (j : Int) := by omega
   have hzx := HZ.out j xk xv hxk hxv
   have hst := sepB_step5 (s := commaL) hzx
   have hle := sepB_take5 commaL Z j (by rw [HZN.out]; exact hjn)
   rw [hst] at hle
   simp only [List.length_append] at hle
   have hlm := HLM.out
   have hfl : formatL xk.1 (⟨xk.2.toArray⟩ : ByteArray).data.toList = keyL xk.1 xk.2 := by
    show formatL xk.1 xk.2 = _
    unfold formatL keyL
    rw [if_pos (HKB.out xk (List.mem_of_getElem? hxk))]
   have hxs : (⟨xk.2.toArray⟩ : ByteArray).size ≤ maxLen := hxl
   have HXV := Lib.hid hxv
   have HVV := Lib.hid hvv
   have hlm2 : (l ++ [37, 123] ++ sepL commaL (Z.take j)).length + (preL commaL j).length + (keyL xk.1 xk.2).length + 2 + (showV xv).length ≤ 140737488355328 := by simp only [List.length_append, List.length_cons, List.length_nil] at hlm ⊢; simp only [List.length_cons, List.length_nil] at hle; omega
   have HS0 : Hid (l ++ [37, 123] ++ sepL commaL (Z.take (j + 1)) = l ++ [37, 123] ++ sepL commaL (Z.take j) ++ preL commaL j ++ (keyL xk.1 xk.2 ++ [58, 32] ++ showV xv)) := Lib.hid (by rw [hst]; simp)
   obtain ⟨V, hV⟩ : ∃ V, V = wr.alloc (.cells #[.int .i64 xk.1, .string ⟨xk.2.toArray⟩] 80) := ⟨_, rfl⟩
   have kV : V.heap[wr.heap.size]? = some (.cells #[.int .i64 xk.1, .string ⟨xk.2.toArray⟩] 80 (0, 0)) := by rw [hV]; exact heap_alloc_new wr _
   have hBV : BufW B b (l ++ [37, 123] ++ sepL commaL (Z.take j)) V := by rw [hV]; exact hB.alloc _
   have hWV : Wr B b w V := by rw [hV]; exact hb.alloc hB.2 _
   have hGV : V.heap[w.heap.size]? = some (.cells #[.int .i64 8, .int .i64 i, .string ⟨t.toArray⟩, .slice (some ⟨bk, off, none⟩) kids.length ck, .slice (some ⟨by0, offy, none⟩) keys.length cy, .slice Ae ents.length ce, .slice Al labs.length cl] 27 (0, 0)) := by rw [hV]; exact (Below.heap_alloc _ _ _ (Array.getElem?_eq_some_iff.1 hG).1).trans hG
   have hgb : wr.heap.size ≠ b := by have := hB.1.lt; omega
   clear hst hle hlm hxk hxv hvv hzx hb hB hG hxl
   generalize l ++ [37, 123] ++ sepL commaL (Z.take j) = Pq at hBV HS0 hlm2
   by_cases h0 : j = 0
   ·
    subst h0
    have hp : preL commaL 0 = [] := rfl
    rw [hp] at HS0 hlm2
    simp only [Nat.zero_mul, Nat.add_zero] at cy0 cy1 d0 d1 d2 d3 d4 d5 d6
    have HS : Hid (l ++ [37, 123] ++ sepL commaL (Z.take (0 + 1)) = Pq ++ keyL xk.1 xk.2 ++ [58, 32] ++ showV xv) := Lib.hid (by rw [HS0.out]; simp)
    have HBx := Lib.hid hBV
    have HWx := Lib.hid hWV
    have HGx := Lib.hid hGV
    have HLx := Lib.hid hlm2
    clear hBV hWV hGV hlm2 HS0 kV hp
    have hfk := formatKey_any xk.1 ⟨xk.2.toArray⟩ V hxs
    rw [hfl] at hfk
    go_wp2_with fail
    rw [← hV]
    clear hV
    refine hfk.mono ?_
    rintro e w5 ⟨rfl, hb5⟩
    clear hfk
    have h5 : BufW B b (Pq) w5 := ⟨HBx.out.1.old hb5, Nat.le_trans HBx.out.2 hb5.size⟩
    have HW5 := Lib.hid (HWx.out.trans (Wr.of_below (b := b) hb5 HBx.out.2))
    have k5 := (hb5.block _ (Array.getElem?_eq_some_iff.1 HGx.out).1).trans HGx.out
    have hc1 := bufW B b (Pq) (keyL xk.1 xk.2) w5 h5 (by have := HLx.out; (try simp at this ⊢); omega)
    have HK5 := Lib.hid k5
    clear h5 hb5 k5 cy0 cy1
    go_wp2_with fail
    refine hc1.mono ?_
    rintro e w6 ⟨rfl, h6, hb6⟩
    clear hc1
    have k6 := hb6.box HK5.out hne
    have HW6 := Lib.hid (HW5.out.trans hb6)
    have hc2 := bufW B b (Pq ++ keyL xk.1 xk.2) [58, 32] w6 h6 (by have := HLx.out; simp only [List.length_append, List.length_cons, List.length_nil] at this ⊢; omega)
    have HK6 := Lib.hid k6
    clear h6 hb6 k6
    go_wp2_with fail
    refine hc2.mono ?_
    rintro e w7 ⟨rfl, h7, hb7⟩
    clear hc2
    have k7 := hb7.box HK6.out hne
    have HW7 := Lib.hid (HW6.out.trans hb7)
    have d0_ := (HW7.out.1.cell (p := ⟨bk, off, none⟩) hbk).trans d0
    have d1_ := (HW7.out.1.cell (p := ⟨bk, off + 1, none⟩) hbk).trans d1
    have d2_ := (HW7.out.1.cell (p := ⟨bk, off + 2, none⟩) hbk).trans d2
    have d3_ := (HW7.out.1.cell (p := ⟨bk, off + 3, none⟩) hbk).trans d3
    have d4_ := (HW7.out.1.cell (p := ⟨bk, off + 4, none⟩) hbk).trans d4
    have d5_ := (HW7.out.1.cell (p := ⟨bk, off + 5, none⟩) hbk).trans d5
    have d6_ := (HW7.out.1.cell (p := ⟨bk, off + 6, none⟩) hbk).trans d6
    have g3 := (Lib.cell_of_heap k7 3).trans rfl
    have hc3 := hP.out B b (Pq ++ keyL xk.1 xk.2 ++ [58, 32]) xv _ w7 h7 (VS.on HW7.out.1 HVV.out) (HOKS.out xv (List.mem_of_getElem? HXV.out)) (HT.out.below HW7.out.1) (by have := HLx.out; simp only [List.length_append, List.length_cons, List.length_nil] at this ⊢; omega)
    have HK7 := Lib.hid k7
    clear h7 hb7 k7
    go_wp2_with fail
    refine hc3.mono ?_
    rintro e w8 ⟨rfl, h8, hb8⟩
    clear hc3 g3 d0_ d1_ d2_ d3_ d4_ d5_ d6_
    have HR := Lib.hid (And.intro h8 (And.intro (HW7.out.trans hb8) (hb8.box HK7.out hne)))
    clear h8 hb8 d0 d1 d2 d3 d4 d5 d6
    go_wp2
    go_roundw
    case rel => exact ⟨1, by go_num, by omega, by rw [HS.out]; simpa using HR.out.1, HR.out.2.1, HR.out.2.2⟩
    case measure => simp [intOf]; omega
   ·
    have hp : preL commaL j = [44, 32] := if_neg h0
    have kp : (0 : Int) < (j : Int) := by omega
    rw [hp] at HS0 hlm2
    have HS : Hid (l ++ [37, 123] ++ sepL commaL (Z.take (j + 1)) = Pq ++ [44, 32] ++ keyL xk.1 xk.2 ++ [58, 32] ++ showV xv) := Lib.hid (by rw [HS0.out]; simp)
    have hc0 := bufW B b Pq [44, 32] V hBV (by simp only [List.length_cons, List.length_nil] at hlm2 ⊢; omega)
    have HWV := Lib.hid hWV
    have HGV := Lib.hid hGV
    have HKV := Lib.hid kV
    have HLx := Lib.hid hlm2
    clear hBV hWV hGV hlm2 HS0 kV hp
    go_wp2_with fail
    rw [← hV]
    clear hV
    refine hc0.mono ?_
    rintro e w4 ⟨rfl, h4, hb4⟩
    clear hc0 cy0 cy1
    have k4 := hb4.boxK HKV.out hgb
    obtain ⟨y0, y1⟩ := cellz2_ k4
    have HBx := Lib.hid h4
    have HWx := Lib.hid (HWV.out.trans hb4)
    have HGx := Lib.hid (hb4.box HGV.out hne)
    clear h4 hb4 k4
    have hfk := formatKey_any xk.1 ⟨xk.2.toArray⟩ w4 hxs
    rw [hfl] at hfk
    go_wp2_with fail
    refine hfk.mono ?_
    rintro e w5 ⟨rfl, hb5⟩
    clear hfk
    have h5 : BufW B b (Pq ++ [44, 32]) w5 := ⟨HBx.out.1.old hb5, Nat.le_trans HBx.out.2 hb5.size⟩
    have HW5 := Lib.hid (HWx.out.trans (Wr.of_below (b := b) hb5 HBx.out.2))
    have k5 := (hb5.block _ (Array.getElem?_eq_some_iff.1 HGx.out).1).trans HGx.out
    have hc1 := bufW B b (Pq ++ [44, 32]) (keyL xk.1 xk.2) w5 h5 (by have := HLx.out; (try simp at this ⊢); omega)
    have HK5 := Lib.hid k5
    clear h5 hb5 k5 y0 y1
    go_wp2_with fail
    refine hc1.mono ?_
    rintro e w6 ⟨rfl, h6, hb6⟩
    clear hc1
    have k6 := hb6.box HK5.out hne
    have HW6 := Lib.hid (HW5.out.trans hb6)
    have hc2 := bufW B b (Pq ++ [44, 32] ++ keyL xk.1 xk.2) [58, 32] w6 h6 (by have := HLx.out; simp only [List.length_append, List.length_cons, List.length_nil] at this ⊢; omega)
    have HK6 := Lib.hid k6
    clear h6 hb6 k6
    go_wp2_with fail
    refine hc2.mono ?_
    rintro e w7 ⟨rfl, h7, hb7⟩
    clear hc2
    have k7 := hb7.box HK6.out hne
    have HW7 := Lib.hid (HW6.out.trans hb7)
    have d0_ := (HW7.out.1.cell (p := ⟨bk, off + j * 7, none⟩) hbk).trans d0
    have d1_ := (HW7.out.1.cell (p := ⟨bk, off + j * 7 + 1, none⟩) hbk).trans d1
    have d2_ := (HW7.out.1.cell (p := ⟨bk, off + j * 7 + 2, none⟩) hbk).trans d2
    have d3_ := (HW7.out.1.cell (p := ⟨bk, off + j * 7 + 3, none⟩) hbk).trans d3
    have d4_ := (HW7.out.1.cell (p := ⟨bk, off + j * 7 + 4, none⟩) hbk).trans d4
    have d5_ := (HW7.out.1.cell (p := ⟨bk, off + j * 7 + 5, none⟩) hbk).trans d5
    have d6_ := (HW7.out.1.cell (p := ⟨bk, off + j * 7 + 6, none⟩) hbk).trans d6
    have g3 := (Lib.cell_of_heap k7 3).trans rfl
    have hc3 := hP.out B b (Pq ++ [44, 32] ++ keyL xk.1 xk.2 ++ [58, 32]) xv _ w7 h7 (VS.on HW7.out.1 HVV.out) (HOKS.out xv (List.mem_of_getElem? HXV.out)) (HT.out.below HW7.out.1) (by have := HLx.out; simp only [List.length_append, List.length_cons, List.length_nil] at this ⊢; omega)
    have HK7 := Lib.hid k7
    clear h7 hb7 k7
    go_wp2_with fail
    refine hc3.mono ?_
    rintro e w8 ⟨rfl, h8, hb8⟩
    clear hc3 g3 d0_ d1_ d2_ d3_ d4_ d5_ d6_
    have HR := Lib.hid (And.intro h8 (And.intro (HW7.out.trans hb8) (hb8.box HK7.out hne)))
    clear h8 hb8 d0 d1 d2 d3 d4 d5 d6
    go_wp2
    go_roundw
    case rel => exact ⟨j + 1, by go_num, by omega, by rw [HS.out]; simpa using HR.out.1, HR.out.2.1, HR.out.2.2⟩
    case measure => simp [intOf]; omega
  ·
   have hje : Z.take j = Z := List.take_of_length_le (by rw [HZN.out]; omega)
   rw [hje] at hB
   have hjn' : ¬ (j : Int) < (keys.length : Int) := by omega
   have hc1 := bufW B b _ [125] wr hB (by have := HLM.out; simp only [List.length_append, List.length_cons, List.length_nil] at this ⊢; omega)
   have HB := Lib.hid hb
   clear hB hje hb hG
   go_wp2_with fail
   refine hc1.mono ?_
   rintro e w1 ⟨rfl, h1, hb1⟩
   clear hc1
   go_wp2
   go_end0
   exact ⟨rfl, by simpa using h1, HB.out.trans hb1⟩
end Go.Proofs.YtcjgaohblaidjaaGreatDoor
