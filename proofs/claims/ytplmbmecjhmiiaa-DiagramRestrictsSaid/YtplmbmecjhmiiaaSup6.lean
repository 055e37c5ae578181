/- Support: the literals of the nodes, ascending, each once. -/
import Derived.Test.YtplmbmecjhmiiaaStdI6
import Derived.Test.YtplmbmecjhmiiaaVal6
import Derived.Test.YtplmbmecjhmiiaaAnd6
import Derived.Test.YtplmbmecjhmiiaaEval6
namespace Go.Proofs.Ytplmbmecjhmiiaa
open Go Go.RowKit
theorem field_nodes (a b : Value) (w : World) : (Instr.field 24 (.agg #[a, b]) 0).run Try.prog w = .ok a w := by kernel_rfl
set_option maxRecDepth 100000 in
set_option maxHeartbeats 6400000 in
theorem support_dia {f : BF} {v : Value} {w : World} (h : Dia f w w.heap.size v) : Calls Try.prog 20 #[v] w fun e w' => ∃ v' L, e = .returned v' ∧ OwnI w' w.heap.size v' L ∧ L.Pairwise (· < ·) ∧ (∀ x : Int, x ∈ L ↔ ∃ n, n ∈ (can f []).1 ∧ (n.l : Int) = x) ∧ L.length ≤ 4095 ∧ Below w.heap.size w w' := by
  have HD := Lib.hid h
  obtain ⟨hf, A, c, rfl, hN⟩ := h
  have hs := can_small hf
  obtain ⟨W, hW⟩ : ∃ W, W = w.alloc (.cells #[.slice A (can f []).1.length c, .int .i64 (can f []).2] 24) := ⟨_, rfl⟩
  have hb : Below w.heap.size w W := by rw [hW]; exact (Below.refl _ _).alloc (Nat.le_refl _) _
  have kd : W.heap[w.heap.size]? = some (.cells #[.slice A (can f []).1.length c, .int .i64 (can f []).2] 24 (0, 0)) := by rw [hW]; exact heap_alloc_new w _
  have hacc := accept_dia (HD.out.on hb hb.size)
  obtain ⟨d0, d1⟩ := cells2 kd
  rw [hW] at d0 d1
  generalize (can f []).1 = us at *
  generalize (can f []).2 = x at *
  obtain ⟨n, hn⟩ : ∃ n, n = us.length := ⟨_, rfl⟩
  rw [← hn] at hN hs hW kd hacc d0 d1 ⊢
  have HN := Lib.hid (And.intro hN (And.intro hn.symm hs))
  have HW := Lib.hid hb
  clear hN hs hb kd hf hn HD
  go_enter Try.func20, Try.ntmps20
  go_wp2_with fail
  rw [← hW]
  clear hW d0 d1
  refine hacc.mono ?_
  rintro e w1 ⟨rfl, hb1⟩
  have HB1 := Lib.hid (HW.out.trans (hb1.mono HW.out.size))
  clear hacc hb1
  have hfld := field_nodes (.slice A n c) (.int .i64 x) w1
  go_wp2_with fail
  clear hfld
  go_loopw [3, 5, 10] (fun s _ i wr => ∃ (k : Nat) (Ao : Option Addr) (cap : Nat) (out : List Int), i = .int .i64 k ∧ k ≤ n ∧ s = .slice Ao k cap ∧ Hid (OwnI wr w.heap.size (.slice Ao k cap) out ∧ out = (us.take k).map (fun z => (z.l : Int)) ∧ out.length = k) ∧ Hid (Below w.heap.size w wr)) (fun _ _ i _ => n - (intOf i).toNat)
  case atStart => exact ⟨0, none, 0, [], rfl, by omega, rfl, Lib.hid ⟨OwnE.nil _ _ _ _ _, by simp, rfl⟩, HB1⟩
  case round =>
    obtain ⟨k, Ao, cap, out, rfl, hk, rfl, hO, hwr⟩ := hrel
    by_cases hkn : k < n
    · obtain ⟨gN, gn, gl⟩ := HN.out
      have hi : us[k]? = some us[k] := List.getElem?_eq_getElem (by omega)
      generalize us[k] = nd at hi
      obtain ⟨b, off, hA, hbb, c0, c1, c2⟩ := (gN.on hwr.out).node gn hi
      subst hA
      have kn : (k : Int) < (n : Int) := by omega
      have k0 : (0 : Int) ≤ (k : Int) := by omega
      have hwk : IntKind.i64.wrap ((k : Int) + 1) = ((k + 1 : Nat) : Int) := by rw [IntWalk.i64_in _ (by omega)]; omega
      obtain ⟨V4, hV4⟩ : ∃ V4, V4 = wr.alloc (.cells #[.int .i64 nd.l, .int .i64 nd.h, .int .i64 nd.o] 32) := ⟨_, rfl⟩
      have hb4 : Below wr.heap.size wr V4 := by rw [hV4]; exact (Below.refl _ _).alloc (Nat.le_refl _) _
      have k4 : V4.heap[wr.heap.size]? = some (.cells #[.int .i64 nd.l, .int .i64 nd.h, .int .i64 nd.o] 32 (0, 0)) := by rw [hV4]; exact heap_alloc_new wr _
      have hsz : V4.heap.size = wr.heap.size + 1 := by rw [hV4]; simp
      have hO4 : OwnI V4 w.heap.size (.slice Ao out.length cap) out := by rw [hO.out.2.2]; exact hO.out.1.old hb4
      obtain ⟨g, cap6, w6, hr6, hO6, hb6, _, _⟩ := app_i V4 w.heap.size _ out hO4 nd.l (by rw [hO.out.2.2]; omega) (by have := hwr.out.size; have := hb4.size; omega) 46
      rw [hO.out.2.2] at hr6 hO6
      have HO6 : Hid (OwnI w6 w.heap.size (.slice (some ⟨g, 0, none⟩) (k + 1) cap6) (out ++ [(nd.l : Int)]) ∧ out ++ [(nd.l : Int)] = (us.take (k + 1)).map (fun z => (z.l : Int)) ∧ (out ++ [(nd.l : Int)]).length = k + 1) := Lib.hid ⟨hO6, by rw [List.take_add_one, hi, hO.out.2.1]; simp, by simp [hO.out.2.2]⟩
      have HB6 := Lib.hid ((hwr.out.trans (hb4.mono hwr.out.size)).trans hb6)
      obtain ⟨f0, f1, f2⟩ := cells3 k4
      have HX := Lib.hid hkn
      rw [hsz] at hr6
      rw [hV4] at f0 f1 f2 hr6
      clear gN gn gl hbb hi hkn hk hb4 k4 hO4 hO6 hb6 hsz hV4
      go_wp2_with (at_builtin; refine Lib.wpList_append_run _ rfl _ _ 46 46 rfl _ _ rfl rfl _ w6 hr6 ?_)
      clear c0 c1 c2 f0 f1 f2 hr6
      go_wp2_with fail
      go_roundw
      case rel => exact ⟨k + 1, some ⟨g, 0, none⟩, cap6, _, by go_num, by have := HX.out; omega, by go_num, HO6, HB6⟩
      case measure => have := HX.out; simp [intOf]; omega
    · have q1 : ¬ (k : Int) < (n : Int) := by omega
      obtain rfl : k = n := by omega
      have hsort := sortI_any _ out wr w.heap.size hO.out.1 hwr.out.size (by have := hO.out.2.2; have := HN.out.2.2; omega)
      have hst := srtI_ok out
      have hlen := hst.2.2
      generalize hsm : (out.mergeSort fun x y => decide (x ≤ y)) = sm at *
      have HST : Hid ((Lib.compact sm).Pairwise (· < ·) ∧ (∀ x : Int, x ∈ Lib.compact sm ↔ ∃ n, n ∈ us ∧ (n.l : Int) = x) ∧ (Lib.compact sm).length ≤ 4095) := Lib.hid ⟨hst.1, fun x => (hst.2.1 x).trans (by
        rw [hO.out.2.1, List.take_of_length_le (by have := HN.out.2.1; omega), List.mem_map]), by have := hO.out.2.2; have := HN.out.2.2; omega⟩
      have HSL : Hid (sm.length ≤ 1000000) := Lib.hid (by rw [← hsm, List.length_mergeSort]; have := hO.out.2.2; have := HN.out.2.2; omega)
      have HS := Lib.hid hsort
      clear hst hlen hsm hsort hk hkn
      go_wp2_with fail
      refine HS.out.mono ?_
      rintro e w2 ⟨rfl, hO2, hb2⟩
      have HB2 := Lib.hid (hwr.out.trans (hb2.mono (Nat.le_refl _)))
      have HC := Lib.hid (compactI_any _ sm w2 w.heap.size hO2 HB2.out.size (by have := HSL.out; omega))
      clear hO2 hb2
      go_wp2_with fail
      refine HC.out.mono ?_
      rintro e w3 ⟨v3, rfl, hO3, hb3⟩
      have HZ : Hid (OwnI w3 w.heap.size v3 (Lib.compact sm) ∧ Below w.heap.size w w3) := Lib.hid ⟨hO3, HB2.out.trans hb3⟩
      clear hO3 hb3
      go_wp2
      go_ret
      exact ⟨v3, _, rfl, HZ.out.1, HST.out.1, HST.out.2.1, HST.out.2.2, HZ.out.2⟩
end Go.Proofs.Ytplmbmecjhmiiaa
