/- Restrict, on diagrams of functions. -/
import Derived.Test.YtplmbmecjhmiiaaAnd6
import Derived.Test.YtplmbmecjhmiiaaResA6
import Derived.Test.YtplmbmecjhmiiaaLits6
namespace Go.Proofs.Ytplmbmecjhmiiaa
open Go Go.RowKit
set_option maxRecDepth 100000 in
set_option maxHeartbeats 1600000 in
theorem restrict_dia {f : BF} {v1 : Value} {w : World} (h1 : Dia f w w.heap.size v1) (l : Int) (b : Bool) : Calls Try.prog 18 #[v1, .int .i64 l, .bool b] w fun e w' => ∃ v, e = .returned v ∧ Dia (cutI f l b) w' w'.heap.size v ∧ Below w.heap.size w w' := by
  have HD1 := Lib.hid h1
  obtain ⟨hf, A1, c1, rfl, hN1⟩ := h1
  obtain ⟨_, hG, hr1, hF1⟩ := can_ok hf Good_nil
  have hs1 := can_small hf
  obtain ⟨W, hW⟩ : ∃ W, W = (w.alloc (.cells #[.slice A1 (can f []).1.length c1, .int .i64 (can f []).2] 24)).alloc (.cells #[.slice none 0 0, .int .i64 0] 24) := ⟨_, rfl⟩
  have hb : Below w.heap.size w W := by rw [hW]; exact ((Below.refl _ _).alloc (Nat.le_refl _) _).alloc (by simp) _
  have hz : W.heap.size = w.heap.size + 2 := by rw [hW]; simp
  have k1 : W.heap[w.heap.size]? = some (.cells #[.slice A1 (can f []).1.length c1, .int .i64 (can f []).2] 24 (0, 0)) := by rw [hW]; exact (Below.heap_alloc _ _ _ (by simp)).trans (heap_alloc_new w _)
  have k3 : W.heap[w.heap.size + 1]? = some (.cells #[.slice none 0 0, .int .i64 0] 24 (0, 0)) := by rw [hW]; exact new_at' _ (by simp)
  have HK3 : Hid (∀ V, Below W.heap.size W V → V.heap[w.heap.size + 1]? = some (.cells #[.slice none 0 0, .int .i64 0] 24 (0, 0))) := Lib.hid fun V hV => (hV.block _ (by omega)).trans k3
  have HB := Lib.hid (And.intro hb hz)
  have HA1 : Hid (∀ V, Below W.heap.size W V → Calls Try.prog 33 #[.agg #[.slice A1 (can f []).1.length c1, .int .i64 (can f []).2]] V fun e w' => e = .returned (.agg #[.slice A1 (can f []).1.length c1, .int .i64 (can f []).2]) ∧ Below V.heap.size V w') := Lib.hid fun V hV => by
    have hbV := hb.trans (hV.mono (by omega))
    exact accept_dia (HD1.out.on hbV hbV.size)
  have HC : Hid (F12 (cutI f l b) ∧ ∀ V, Below W.heap.size W V → Calls Try.prog 28 #[.agg #[.slice A1 (can f []).1.length c1, .int .i64 (can f []).2], .int .i64 l, .bool b] V fun e w' => ∃ A c base, e = .returned (.agg #[.slice A (can (cutI f l b) []).1.length c, .int .i64 (can (cutI f l b) []).2]) ∧ V.heap.size ≤ base ∧ OwnNd w' base (.slice A (can (cutI f l b) []).1.length c) (can (cutI f l b) []).1 ∧ Below V.heap.size V w') := Lib.hid ⟨F12_cutI hf l b, fun V hV => by
    have hbV := hb.trans (hV.mono (by omega))
    have := restrict_any A1 (can f []).1.length c1 (can f []).1 (can f []).2 l b V ((hN1.on hbV).up fun b hb => by have := hbV.size; omega) rfl hG.ord hr1 (by omega)
    rw [hF1] at this
    exact this⟩
  generalize cutI f l b = fg at *
  generalize (can f []).1 = us1 at *
  generalize us1.length = n1 at *
  generalize ((can f []).2 : Int) = x1 at *
  obtain ⟨a0, a1⟩ := cells2 k1
  rw [hW] at a0 a1
  clear HD1 hf hb hz k1 k3 hN1 hG hr1 hF1 hs1
  go_enter Try.func18, Try.ntmps18
  go_wp2_with fail
  rw [← hW]
  clear hW a0 a1
  refine (HA1.out _ (Below.refl _ W)).mono ?_
  rintro e V1 ⟨rfl, hb1⟩
  have HB2 := Lib.hid hb1
  clear hb1
  go_wp2_with fail
  refine (HC.out.2 _ HB2.out).mono ?_
  rintro e V3 ⟨A, c, base, rfl, hbase, hO, hb3⟩
  have hB3 := HB2.out.trans (hb3.mono HB2.out.size)
  have hr := HK3.out _ hB3
  obtain ⟨V7, hV7, kr7, ko7, hb7, hD7⟩ := fill6 HC.out.1 hr hO (by have := HB2.out.size; have := HB.out.2; omega)
  have HB3 := Lib.hid hB3
  obtain ⟨d0, d1⟩ := cells2 hr
  have z0 := Lib.frozen_of_heap hr 0
  have z1 := Lib.frozen_of_heap hr 1
  have HF := Lib.hid (And.intro hD7 ((HB.out.1.trans (HB3.out.mono HB.out.1.size)).trans (hb7.mono (by omega))))
  clear hO hb3 hB3 hr hb7 hD7 ko7 hbase
  generalize (can fg []).1.length = n at *
  generalize ((can fg []).2 : Int) = x at *
  obtain ⟨f0, f1⟩ := cells2 kr7
  clear kr7
  go_wp2
  rw [← hV7]
  refine bodyPost_ret (v := .agg #[.slice A n c, .int .i64 x]) (by simp [results, Try.results18, go_sem, f0, f1]) rfl ?_
  exact ⟨_, rfl, HF.out.1, HF.out.2⟩
end Go.Proofs.Ytplmbmecjhmiiaa
