/- Valid, accept. -/
import Derived.Test.YtplmbmecjhmiiaaDoorDia6
import Derived.Test.YtplmbmecjhmiiaaDoorEq6
import Derived.Test.YtplmbmecjhmiiaaDoorResA6
namespace Go.Proofs.YtplmbmecjhmiiaaDoor
open Go Go.RowKit
/-- what Valid answers where the list is ordered -/
def same6 (us : List Nd) (x : Nat) : Bool := decide ((can (F us x) []).2 = x) && decide ((can (F us x) []).1 = us)
theorem ni_map_inj {l m : List Nd} (h : l.map ni = m.map ni) : l = m := by
  apply List.ext_getElem?
  intro i
  have := congrArg (fun z => z[i]?) h
  simp only [List.getElem?_map] at this
  cases h1 : l[i]? with
  | none =>
    cases h2 : m[i]? with
    | none => rfl
    | some b => rw [h1, h2] at this; cases this
  | some a =>
    cases h2 : m[i]? with
    | none => rw [h1, h2] at this; cases this
    | some b => rw [h1, h2] at this; exact congrArg some (ni_inj (Option.some.inj this))
set_option maxRecDepth 100000 in
set_option maxHeartbeats 1600000 in
theorem valid_ord (A : Option Addr) (n c : Nat) (us : List Nd) (x : Nat) (w : World) (h : NdR w (fun b => b < w.heap.size) A n c (us.map ni)) (hn : us.length = n) (hl : n ≤ 100000) (hO : Ord us) (hx : x < n + 2) :
    Calls Tryd.prog 8 #[.agg #[.slice A n c, .int .i64 x]] w fun e w' => e = .returned (.bool (same6 us x)) ∧ Below w.heap.size w w' := by
  obtain ⟨W, hW⟩ : ∃ W, W = w.alloc (.cells #[.slice A n c, .int .i64 x] 29) := ⟨_, rfl⟩
  have hb : Below w.heap.size w W := by rw [hW]; exact (Below.refl _ _).alloc (Nat.le_refl _) _
  have k5 : W.heap[w.heap.size]? = some (.cells #[.slice A n c, .int .i64 x] 29 (0, 0)) := by rw [hW]; exact heap_alloc_new w _
  have hz : W.heap.size = w.heap.size + 1 := by rw [hW]; simp
  have HN := Lib.hid h
  have HZ := Lib.hid (And.intro hz (And.intro hn (And.intro hl (And.intro hO hx))))
  have HB := Lib.hid hb
  have HK : Hid (∀ V, Below W.heap.size W V → V.heap[w.heap.size]? = some (.cells #[.slice A n c, .int .i64 x] 29 (0, 0)) ∧ Below w.heap.size w V) := Lib.hid fun V hV => ⟨(hV.block _ (by omega)).trans k5, hb.trans (hV.mono (by omega))⟩
  have hord := isOrdered_any A n c (us.map ni) (x : Int) W ((h.on hb).up fun b hb => by omega) (by omega)
  rw [ordI_of_ord hO (by omega)] at hord
  have hf12 := F12_F hO (r := x) (by omega)
  have HF := Lib.hid hf12
  have HR : Hid (∀ V, Below W.heap.size W V → Calls Tryd.prog 20 #[.agg #[.slice A n c, .int .i64 x], .int .i64 (-1), .bool false] V fun e w' => ∃ A' c' base, e = .returned (.agg #[.slice A' (can (F us x) []).1.length c', .int .i64 (can (F us x) []).2]) ∧ V.heap.size ≤ base ∧ OwnNd w' base (.slice A' (can (F us x) []).1.length c') (can (F us x) []).1 ∧ Below V.heap.size V w') := Lib.hid fun V hV => by
    have hbV := hb.trans (hV.mono (by omega))
    have := restrict_any A n c us x (-1) false V ((h.on hbV).up fun b hb => by have := hbV.size; omega) hn hO hx hl
    rw [cutI_none hf12 (.inl (by omega))] at this
    exact this
  have hs := can_small hf12
  have HS := Lib.hid hs
  unfold same6
  generalize hcan : can (F us x) [] = cn at *
  obtain ⟨nd, rt⟩ := cn
  dsimp only at HR hs ⊢
  have HC := Lib.hid hcan
  have HSS := Lib.hid hs
  obtain ⟨a0, a1⟩ := cells2 k5
  rw [hW] at a0 a1
  generalize hres : (decide (rt = x) && decide (nd = us)) = res
  have HRes := Lib.hid hres
  clear hcan hs h hn hl hO hx hf12 hb hz k5 HS hres
  go_enter Tryd.func8, Tryd.ntmps8
  go_wp2_with fail
  rw [← hW]
  clear hW a0 a1
  refine hord.mono ?_
  rintro e w1 ⟨rfl, hb1⟩
  have HB1 := Lib.hid hb1
  clear hord hb1
  obtain ⟨a0, a1⟩ := cells2 (HK.out _ HB1.out).1
  go_wp2_with fail
  clear a0 a1
  refine (HR.out w1 HB1.out).mono ?_
  rintro e w2 ⟨A', c', base, rfl, hbase, hO2, hb2⟩
  obtain ⟨V, hV⟩ : ∃ V, V = w2.alloc (.cells #[.slice A' nd.length c', .int .i64 rt] 29) := ⟨_, rfl⟩
  have hbV : Below w2.heap.size w2 V := by rw [hV]; exact (Below.refl _ _).alloc (Nat.le_refl _) _
  have kV : V.heap[w2.heap.size]? = some (.cells #[.slice A' nd.length c', .int .i64 rt] 29 (0, 0)) := by rw [hV]; exact heap_alloc_new w2 _
  have hb2' := HB1.out.trans (hb2.mono HB1.out.size)
  have hbVW := hb2'.trans (hbV.mono hb2'.size)
  have HV := Lib.hid (HK.out _ hbVW)
  have hnd := NdR_of_own hO2 (by have := HSS.out; omega)
  have hEq := equalNd_any A' A nd.length c' n c (nd.map ni) (us.map ni) V ((hnd.on hbV).up fun b hb => by have := hbV.size; omega) ((HN.out.on HV.out.2).up fun b hb => by have := HV.out.2.size; omega) (by have := HSS.out; omega)
  rw [show decide (nd.map ni = us.map ni) = decide (nd = us) from by rw [decide_eq_decide]; exact ⟨ni_map_inj, fun e => by rw [e]⟩] at hEq
  obtain ⟨v0, v1⟩ := cells2 kV
  obtain ⟨a0, a1⟩ := cells2 HV.out.1
  rw [hV] at v0 v1 a0 a1
  have q3 : ((rt : Int) == (x : Int)) = decide (rt = x) := by rw [Bool.eq_iff_iff]; simp; omega
  have HEq := Lib.hid hEq
  clear hEq hO2 hb2 hbV kV hb2' hbVW hnd hbase
  generalize hd1 : decide (rt = x) = d1 at *
  generalize hd2 : decide (nd = us) = d2 at *
  have HD := Lib.hid (And.intro hd1 hd2)
  clear hd1 hd2
  cases d1
  · go_wp2
    go_ret
    rw [← hV]
    exact ⟨rb6 (by rw [← HRes.out]; rfl), HV.out.2⟩
  · go_wp2_with fail
    rw [← hV]
    clear v0 v1 a0 a1 hV
    refine HEq.out.mono ?_
    rintro e w3 ⟨rfl, hb3⟩
    have HE := Lib.hid (HV.out.2.trans (hb3.mono HV.out.2.size))
    clear hb3
    go_wp2
    go_ret
    exact ⟨rb6 (by rw [← HRes.out]; rfl), HE.out⟩
theorem valid_not (A : Option Addr) (n c : Nat) (is : List (Int × Int × Int)) (q : Int) (w : World) (h : NdR w (fun b => b < w.heap.size) A n c is) (hn : n ≤ 4611686018427387904) (hO : ordI is q = false) :
    Calls Tryd.prog 8 #[.agg #[.slice A n c, .int .i64 q]] w fun e w' => e = .returned (.bool false) ∧ Below w.heap.size w w' := by
  obtain ⟨W, hW⟩ : ∃ W, W = w.alloc (.cells #[.slice A n c, .int .i64 q] 29) := ⟨_, rfl⟩
  have hb : Below w.heap.size w W := by rw [hW]; exact (Below.refl _ _).alloc (Nat.le_refl _) _
  have k5 : W.heap[w.heap.size]? = some (.cells #[.slice A n c, .int .i64 q] 29 (0, 0)) := by rw [hW]; exact heap_alloc_new w _
  have hord := isOrdered_any A n c is q W ((h.on hb).up fun b hh => by have := hb.size; omega) hn
  rw [hO] at hord
  obtain ⟨a0, a1⟩ := cells2 k5
  rw [hW] at a0 a1
  have HB := Lib.hid hb
  clear h hn hO hb k5
  go_enter Tryd.func8, Tryd.ntmps8
  go_wp2_with fail
  rw [← hW]
  clear hW a0 a1
  refine hord.mono ?_
  rintro e w1 ⟨rfl, hb1⟩
  have HB1 := Lib.hid (HB.out.trans (hb1.mono HB.out.size))
  clear hord hb1
  go_wp2
  go_ret
  exact ⟨rfl, HB1.out⟩
/-- the diagram of a function is valid -/
theorem valid_dia {f : BF} {v : Value} {w : World} (h : Dia f w w.heap.size v) : Calls Tryd.prog 8 #[v] w fun e w' => e = .returned (.bool true) ∧ Below w.heap.size w w' := by
  obtain ⟨hf, A, c, rfl, hN⟩ := h
  obtain ⟨_, hG, hr, hF⟩ := can_ok hf Good_nil
  have := valid_ord A _ c (can f []).1 (can f []).2 w hN rfl (by have := can_small hf; omega) hG.ord hr
  rw [show same6 (can f []).1 (can f []).2 = true from by unfold same6; rw [hF]; simp] at this
  exact this
theorem false_any (w : World) : Calls Tryd.prog 47 #[] w fun e w' => e = .returned (.agg #[.slice none 0 0, .int .i64 0]) ∧ Below w.heap.size w w' := by
  obtain ⟨f0, f1⟩ := cells2 (heap_alloc_new w (.cells #[.slice none 0 0, .int .i64 0] 29))
  go_enter Tryd.func47, Tryd.ntmps47
  go_wp2
  refine bodyPost_ret (v := .agg #[.slice none 0 0, .int .i64 0]) (by simp [results, Tryd.results47, go_sem, f0, f1]) rfl ?_
  exact ⟨rfl, (Below.refl _ _).alloc (Nat.le_refl _) _⟩
theorem true_any (w : World) : Calls Tryd.prog 14 #[] w fun e w' => e = .returned (.agg #[.slice none 0 0, .int .i64 1]) ∧ Below w.heap.size w w' := by
  obtain ⟨f0, f1⟩ := cells2 (heap_alloc_new w (.cells #[.slice none 0 0, .int .i64 1] 29))
  go_enter Tryd.func14, Tryd.ntmps14
  go_wp2
  refine bodyPost_ret (v := .agg #[.slice none 0 0, .int .i64 1]) (by simp [results, Tryd.results14, go_sem, f0, f1]) rfl ?_
  exact ⟨rfl, (Below.refl _ _).alloc (Nat.le_refl _) _⟩
set_option maxRecDepth 100000 in
set_option maxHeartbeats 1600000 in
/-- accept keeps the diagram of a function -/
theorem accept_dia {f : BF} {v : Value} {w : World} (h : Dia f w w.heap.size v) : Calls Tryd.prog 24 #[v] w fun e w' => e = .returned v ∧ Below w.heap.size w w' := by
  obtain ⟨hf, A, c, rfl, hN⟩ := h
  have hs := can_small hf
  obtain ⟨W, hW⟩ : ∃ W, W = (w.alloc (.cells #[.slice A (can f []).1.length c, .int .i64 (can f []).2] 29)).alloc (.cells #[.slice none 0 0, .int .i64 0] 29) := ⟨_, rfl⟩
  have hb : Below w.heap.size w W := by rw [hW]; exact ((Below.refl _ _).alloc (Nat.le_refl _) _).alloc (by simp) _
  have hval := valid_dia (f := f) (w := W) (v := .agg #[.slice A (can f []).1.length c, .int .i64 (can f []).2]) ⟨hf, A, c, rfl, (hN.on hb).up fun b hh => by have := hb.size; omega⟩
  have k5 : W.heap[w.heap.size]? = some (.cells #[.slice A (can f []).1.length c, .int .i64 (can f []).2] 29 (0, 0)) := by rw [hW]; exact (Below.heap_alloc _ _ _ (by simp)).trans (heap_alloc_new w _)
  have k6 : W.heap[w.heap.size + 1]? = some (.cells #[.slice none 0 0, .int .i64 0] 29 (0, 0)) := by rw [hW]; exact new_at' _ (by simp)
  generalize (can f []).1.length = n at *
  generalize ((can f []).2 : Int) = x at *
  obtain ⟨a0, a1⟩ := cells2 k5
  rw [hW] at a0 a1
  have HB := Lib.hid hb
  have HK := Lib.hid (And.intro k5 k6)
  clear hN hs hb k5 k6 hf
  go_enter Tryd.func24, Tryd.ntmps24
  go_wp2_with fail
  rw [← hW]
  clear hW a0 a1
  refine hval.mono ?_
  rintro e w1 ⟨rfl, hb1⟩
  have y5 := (hb1.block _ (lt_of_heap HK.out.1)).trans HK.out.1
  have y6 := (hb1.block _ (lt_of_heap HK.out.2)).trans HK.out.2
  have HB1 := Lib.hid (HB.out.trans (hb1.mono HB.out.size))
  clear hval hb1
  obtain ⟨a0, a1⟩ := cells2 y5
  obtain ⟨d0, d1⟩ := cells2 y6
  have z0 := Lib.frozen_of_heap y6 0
  have z1 := Lib.frozen_of_heap y6 1
  obtain ⟨V7, hV7⟩ : ∃ V7, V7 = (w1.setCell ⟨w.heap.size + 1, 0, none⟩ (.slice A n c)).setCell ⟨w.heap.size + 1, 1, none⟩ (.int .i64 x) := ⟨_, rfl⟩
  have kr7 : V7.heap[w.heap.size + 1]? = some (.cells #[.slice A n c, .int .i64 x] 29 (0, 0)) := by
    rw [hV7]
    have h0 := heap_setCell_same _ _ 0 _ _ (.slice A n c) y6
    have h1 := heap_setCell_same _ _ 1 _ _ (.int .i64 x) h0
    simpa using h1
  have hb7 : Below w.heap.size w V7 := by
    rw [hV7]
    exact (HB1.out.setCell (p := ⟨w.heap.size + 1, 0, none⟩) (by show w.heap.size ≤ w.heap.size + 1; omega) _).setCell (p := ⟨w.heap.size + 1, 1, none⟩) (by show w.heap.size ≤ w.heap.size + 1; omega) _
  have HF := Lib.hid hb7
  obtain ⟨f0, f1⟩ := cells2 kr7
  clear kr7 hb7 y5 y6
  go_wp2
  rw [← hV7]
  refine bodyPost_ret (v := .agg #[.slice A n c, .int .i64 x]) (by simp [results, Tryd.results24, go_sem, f0, f1]) rfl ?_
  exact ⟨rfl, HF.out⟩
end Go.Proofs.YtplmbmecjhmiiaaDoor
