/- What the document's ParseKey returns. Condition: the string has at most 2^45 - 2 bytes. -/
import Derived.Test.YtjinngobiefifaaDoorRefUnquote
import Derived.Test.YtjinngobiefifaaDoorParseKey
namespace Go.Proofs.YtjinngobiefifaaDoor
open Go.RowKit
/-- what the document's ParseKey returns -/
def RKey (l : List UInt8) (w : World) (e : Ending) (w' : World) : Prop :=
  Below w.heap.size w w' ∧ ((∃ k t, Notes l k t ∧ e = .returned (.tuple #[.agg #[.int .i64 k, .string ⟨t.toArray⟩], .bool true])) ∨ ((∀ k t, ¬ Notes l k t) ∧ e = .returned (.tuple #[.agg #[.int .i64 0, .string ⟨#[]⟩], .bool false])))
theorem rKey_no {l : List UInt8} {w w' : World} (h : ∀ k t, ¬ Notes l k t) (hb : Below w.heap.size w w') : RKey l w (.returned (.tuple #[.agg #[.int .i64 0, .string ⟨#[]⟩], .bool false])) w' := ⟨hb, .inr ⟨h, rfl⟩⟩
theorem rKey_yes {l : List UInt8} {k : Int} {t : ByteArray} {w w' : World} (h : Notes l k t.data.toList) (hb : Below w.heap.size w w') : RKey l w (.returned (.tuple #[.agg #[.int .i64 k, .string t], .bool true])) w' :=
  ⟨hb, .inl ⟨k, t.data.toList, h, by rw [ba_mk]⟩⟩
theorem one_facts {w w1 : World} {a b : Value} {T : TypeId} (hb : Below (w.alloc (.cells #[a, b] T)).heap.size (w.alloc (.cells #[a, b] T)) w1) :
    w1.cell? ⟨w.heap.size, 0, none⟩ = some a ∧ w1.cell? ⟨w.heap.size, 1, none⟩ = some b ∧ w1.frozen? ⟨w.heap.size, 0, none⟩ = false ∧ w1.frozen? ⟨w.heap.size, 1, none⟩ = false ∧ w.heap.size < w1.heap.size := by
  have hz := hb.size
  have h0 : w1.heap[w.heap.size]? = some (.cells #[a, b] T (0, 0)) := by
    rw [hb.block _ (by simp)]
    exact heap_alloc_new w _
  refine ⟨?_, ?_, Lib.frozen_of_heap h0 0, Lib.frozen_of_heap h0 1, by simp at hz; omega⟩
  · rw [Lib.cell_of_heap h0]; rfl
  · rw [Lib.cell_of_heap h0]; rfl
theorem atom_first {l : List UInt8} (h : atomB l = true) : ¬ ∃ t, quoteL t = l := by
  rintro ⟨t, rfl⟩
  simp [atomB, nameB, lowB, quoteL] at h
set_option maxHeartbeats 1600000 in
theorem refParseKey_any (s : ByteArray) (w : World) (hs : s.size ≤ 35184372088830) : Calls Tryd.prog 25 #[.string s] w (RKey s.data.toList w) := by
  have hs' : s.size ≤ maxLen := by unfold maxLen; omega
  have hb0 : Below w.heap.size w (w.alloc (.cells #[.int .i64 0, .string ⟨#[]⟩] 23)) := (Below.refl _ _).alloc (Nat.le_refl _) _
  cases hk : atomB s.data.toList
  · go_enter Tryd.func25, Tryd.ntmps25
    go_wp2_with fail
    refine (refIsAtom_any _ _ hs').mono ?_
    rintro e w1 ⟨rfl, rfl⟩
    go_wp2_with fail
    refine (refUnquote_any _ _ hs).mono ?_
    rintro e w1 ⟨hb, ⟨t, ht, rfl⟩ | ⟨hno, rfl⟩⟩
    · obtain ⟨c0, c1, f0, f1, hz⟩ := one_facts hb
      have HT := Lib.hid ht
      clear ht
      have et : (⟨t.toArray⟩ : ByteArray).size = t.length := rfl
      by_cases h64 : t.length ≤ 64
      · have hy : Hid (Notes s.data.toList 1 t) := Lib.hid ⟨by simp [keyB, h64], .inr ⟨rfl, HT.out⟩⟩
        go_wp2
        refine bodyPost_ret (v := .tuple #[.agg #[.int .i64 1, .string ⟨t.toArray⟩], .bool true]) (by simp [results, Tryd.results25, go_sem, c0, c1]) rfl (rKey_yes hy.out ?_)
        exact ((hb0.trans (hb.mono (by simp))).setCell (p := ⟨w.heap.size, 0, none⟩) (Nat.le_refl _) _).setCell (p := ⟨w.heap.size, 1, none⟩) (Nat.le_refl _) _
      · have hn := Lib.hid (show ∀ k t, ¬ Notes s.data.toList k t by
          rintro k t' ⟨h1, ⟨rfl, rfl⟩ | ⟨rfl, h2⟩⟩
          · simp [keyB, hk] at h1
          · have := quoteL_inj (h2.trans HT.out.symm)
            subst this
            simp [keyB] at h1; omega)
        go_wp2
        refine bodyPost_ret (v := .tuple #[.agg #[.int .i64 0, .string ⟨#[]⟩], .bool false]) (by simp [results, Tryd.results25, go_sem, c0, c1]) rfl (rKey_no hn.out ?_)
        exact ((hb0.trans (hb.mono (by simp))).setCell (p := ⟨w.heap.size, 0, none⟩) (Nat.le_refl _) _).setCell (p := ⟨w.heap.size, 1, none⟩) (Nat.le_refl _) _
    · obtain ⟨c0, c1, f0, f1, hz⟩ := one_facts hb
      have hn := Lib.hid (show ∀ k t, ¬ Notes s.data.toList k t by
        rintro k t' ⟨h1, ⟨rfl, rfl⟩ | ⟨rfl, h2⟩⟩
        · simp [keyB, hk] at h1
        · exact hno _ h2)
      clear hno
      go_wp2
      refine bodyPost_ret (v := .tuple #[.agg #[.int .i64 0, .string ⟨#[]⟩], .bool false]) (by simp [results, Tryd.results25, go_sem, c0, c1]) rfl (rKey_no hn.out ?_)
      exact ((hb0.trans (hb.mono (by simp))).setCell (p := ⟨w.heap.size, 0, none⟩) (Nat.le_refl _) _).setCell (p := ⟨w.heap.size, 1, none⟩) (Nat.le_refl _) _
  · have hy : Hid (Notes s.data.toList 0 s.data.toList) := Lib.hid ⟨by simp [keyB, hk], .inl ⟨rfl, rfl⟩⟩
    go_enter Tryd.func25, Tryd.ntmps25
    go_wp2_with fail
    refine (refIsAtom_any _ _ hs').mono ?_
    rintro e w1 ⟨rfl, rfl⟩
    go_wp2
    refine bodyPost_ret (v := .tuple #[.agg #[.int .i64 0, .string s], .bool true]) (by simp [results, Tryd.results25, go_sem]) rfl (rKey_yes hy.out ?_)
    first | exact hb0 | exact (Below.refl _ _).alloc (Nat.le_refl _) _
end Go.Proofs.YtjinngobiefifaaDoor
