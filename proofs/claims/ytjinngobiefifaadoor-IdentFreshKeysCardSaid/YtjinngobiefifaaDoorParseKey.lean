/- What FormatKey and ParseKey return. Condition: the string has at most 2^47 bytes. -/
import Derived.Test.YtjinngobiefifaaDoorUnquote
import Derived.Test.YtjinngobiefifaaDoorKeys
namespace Go.Proofs.YtjinngobiefifaaDoor
open Go.RowKit
theorem bcell {W w1 : World} (hb : Below W.heap.size W w1) : (∀ b o, b < W.heap.size → w1.cell? ⟨b, o, none⟩ = W.cell? ⟨b, o, none⟩) ∧ (∀ b o, b < W.heap.size → w1.frozen? ⟨b, o, none⟩ = W.frozen? ⟨b, o, none⟩) :=
  ⟨fun b o h => hb.cell (p := ⟨b, o, none⟩) h, fun b o h => hb.frozen (p := ⟨b, o, none⟩) h⟩
/-- the notation of a key -/
def formatL (k : Int) (l : List UInt8) : List UInt8 := if keyB k l then (if k = 1 then quoteL l else l) else []
theorem ba_mk (s : ByteArray) : (⟨s.data.toList.toArray⟩ : ByteArray) = s := by
  obtain ⟨⟨l⟩⟩ := s
  rfl
set_option maxHeartbeats 800000 in
theorem formatKey_any (k : Int) (s : ByteArray) (w : World) (hs : s.size ≤ maxLen) :
    Calls Tryd.prog 23 #[.agg #[.int .i64 k, .string s]] w fun e w' => e = .returned (.string ⟨(formatL k s.data.toList).toArray⟩) ∧ Below w.heap.size w w' := by
  have hb0 : Below w.heap.size w (w.alloc (.cells #[.int .i64 k, .string s] 23)) := (Below.refl _ _).alloc (Nat.le_refl _) _
  cases hk : keyB k s.data.toList
  · have hf := Lib.hid (show formatL k s.data.toList = [] by simp [formatL, hk])
    go_enter Tryd.func23, Tryd.ntmps23
    go_wp2_with (go_at_call 14; refine (validKey_any _ _ _ hs).mono ?_; rintro e w1 ⟨rfl, hb⟩)
    go_ret
    exact ⟨by rw [hf.out]; rfl, hb0.trans (hb.mono (by simp))⟩
  · by_cases h1 : k = 1
    · subst h1
      have hf := Lib.hid (show formatL 1 s.data.toList = quoteL s.data.toList by simp [formatL, hk])
      have hs2 : s.size ≤ 35184372088830 := by
        simp [keyB] at hk; omega
      go_enter Tryd.func23, Tryd.ntmps23
      go_wp2_with fail
      refine (validKey_any _ _ _ hs).mono ?_
      rintro e w1 ⟨rfl, hb⟩
      obtain ⟨hc, hfz⟩ := bcell hb
      have hz := hb.size
      simp only [World.size_alloc] at hz
      go_wp2_with fail
      refine (quote_any _ _ hs2).mono ?_
      rintro e w2 ⟨rfl, hb2⟩
      go_wp2
      go_ret
      exact ⟨by rw [hf.out]; rfl, (hb0.trans (hb.mono (by simp))).trans (hb2.mono (by omega))⟩
    · have hf := Lib.hid (show formatL k s.data.toList = s.data.toList by simp [formatL, hk, h1])
      have h1b : (k == 1) = false := by simp [h1]
      go_enter Tryd.func23, Tryd.ntmps23
      go_wp2_with fail
      refine (validKey_any _ _ _ hs).mono ?_
      rintro e w1 ⟨rfl, hb⟩
      obtain ⟨hc, hfz⟩ := bcell hb
      have hz := hb.size
      simp only [World.size_alloc] at hz
      go_wp2
      go_ret
      exact ⟨by rw [hf.out, ba_mk]; rfl, hb0.trans (hb.mono (by simp))⟩
/-- the bytes l are the notation of the valid key (k, t) -/
def Notes (l : List UInt8) (k : Int) (t : List UInt8) : Prop := keyB k t = true ∧ ((k = 0 ∧ t = l) ∨ (k = 1 ∧ quoteL t = l))
/-- what ParseKey returns -/
def PKey (l : List UInt8) (w : World) (e : Ending) (w' : World) : Prop :=
  Below w.heap.size w w' ∧ ((∃ k t, Notes l k t ∧ e = .returned (.tuple #[.agg #[.int .i64 k, .string ⟨t.toArray⟩], .int .i64 0])) ∨ ((∀ k t, ¬ Notes l k t) ∧ e = .returned (.tuple #[.agg #[.int .i64 0, .string ⟨#[]⟩], .int .i64 5])))
theorem pKey_no {l : List UInt8} {w w' : World} (h : ∀ k t, ¬ Notes l k t) (hb : Below w.heap.size w w') : PKey l w (.returned (.tuple #[.agg #[.int .i64 0, .string ⟨#[]⟩], .int .i64 5])) w' := ⟨hb, .inr ⟨h, rfl⟩⟩
theorem pKey_yes {l : List UInt8} {k : Int} {t : ByteArray} {w w' : World} (h : Notes l k t.data.toList) (hb : Below w.heap.size w w') : PKey l w (.returned (.tuple #[.agg #[.int .i64 k, .string t], .int .i64 0])) w' :=
  ⟨hb, .inl ⟨k, t.data.toList, h, by rw [ba_mk]⟩⟩
theorem two_facts {w w1 : World} {a b c d : Value} {T : TypeId} (hb : Below ((w.alloc (.cells #[a, b] T)).alloc (.cells #[c, d] T)).heap.size ((w.alloc (.cells #[a, b] T)).alloc (.cells #[c, d] T)) w1) :
    w1.cell? ⟨w.heap.size, 0, none⟩ = some a ∧ w1.cell? ⟨w.heap.size, 1, none⟩ = some b ∧ w1.cell? ⟨w.heap.size + 1, 0, none⟩ = some c ∧ w1.cell? ⟨w.heap.size + 1, 1, none⟩ = some d ∧
    w1.frozen? ⟨w.heap.size, 0, none⟩ = false ∧ w1.frozen? ⟨w.heap.size, 1, none⟩ = false ∧ w1.frozen? ⟨w.heap.size + 1, 0, none⟩ = false ∧ w1.frozen? ⟨w.heap.size + 1, 1, none⟩ = false ∧ w.heap.size + 1 < w1.heap.size := by
  have hz := hb.size
  have h0 : w1.heap[w.heap.size]? = some (.cells #[a, b] T (0, 0)) := by
    rw [hb.block _ (by simp; omega)]
    rw [Below.heap_alloc _ _ _ (by simp)]
    exact heap_alloc_new w _
  have h1 : w1.heap[w.heap.size + 1]? = some (.cells #[c, d] T (0, 0)) := by
    rw [hb.block _ (by simp)]
    have := heap_alloc_new (w.alloc (.cells #[a, b] T)) (.cells #[c, d] T)
    simpa using this
  refine ⟨?_, ?_, ?_, ?_, Lib.frozen_of_heap h0 0, Lib.frozen_of_heap h0 1, Lib.frozen_of_heap h1 0, Lib.frozen_of_heap h1 1, by simp at hz; omega⟩
  · rw [Lib.cell_of_heap h0]; rfl
  · rw [Lib.cell_of_heap h0]; rfl
  · rw [Lib.cell_of_heap h1]; rfl
  · rw [Lib.cell_of_heap h1]; rfl
theorem notes_string {l t : List UInt8} (hp : Lib.hasPrefix l [34] = true) {k : Int} (h : Notes l k t) : k = 1 ∧ quoteL t = l := by
  obtain ⟨hk, ⟨rfl, rfl⟩ | h⟩ := h
  · simp only [keyB, if_true] at hk
    cases t with
    | nil => cases hp
    | cons a r =>
      have : a = 34 := by
        simp [Lib.hasPrefix] at hp
        exact hp.symm
      subst this
      simp [atomB, nameB, lowB] at hk
  · exact h
theorem notes_atom {l t : List UInt8} (hp : Lib.hasPrefix l [34] = false) {k : Int} (h : Notes l k t) : k = 0 ∧ t = l := by
  obtain ⟨hk, h | ⟨rfl, rfl⟩⟩ := h
  · exact h
  · simp [Lib.hasPrefix, quoteL] at hp
set_option maxHeartbeats 1600000 in
theorem parseKey_any (s : ByteArray) (w : World) (hs : s.size ≤ 140737488355328) : Calls Tryd.prog 24 #[.string s] w (PKey s.data.toList w) := by
  have hs' : s.size ≤ maxLen := by unfold maxLen; omega
  have hb0 : Below w.heap.size w ((w.alloc (.cells #[.int .i64 0, .string ⟨#[]⟩] 23)).alloc (.cells #[.int .i64 0, .string s] 23)) := ((Below.refl _ _).alloc (Nat.le_refl _) _).alloc (by simp) _
  cases hp : Lib.hasPrefix s.data.toList [34]
  · cases hk : keyB 0 s.data.toList
    · have hn := Lib.hid (show ∀ k t, ¬ Notes s.data.toList k t by
        intro k t h
        obtain ⟨rfl, rfl⟩ := notes_atom hp h
        exact absurd h.1 (by rw [hk]; decide))
      go_enter Tryd.func24, Tryd.ntmps24
      go_wp2_with fail
      refine (Tryd.strings_HasPrefix _ _ _).mono ?_
      rintro e w1 ⟨rfl, rfl⟩
      go_wp2_with fail
      refine (validKey_any _ _ _ hs').mono ?_
      rintro e w1 ⟨rfl, hb⟩
      obtain ⟨c0, c1, c2, c3, f0, f1, f2, f3, hz⟩ := two_facts hb
      go_wp2
      refine bodyPost_ret (v := .tuple #[.agg #[.int .i64 0, .string ⟨#[]⟩], .int .i64 5]) (by simp [results, Tryd.results24, go_sem, c0, c1]) rfl (pKey_no hn.out ?_)
      exact ((hb0.trans (hb.mono (by simp; omega))).setCell (p := ⟨w.heap.size, 0, none⟩) (Nat.le_refl _) _).setCell (p := ⟨w.heap.size, 1, none⟩) (Nat.le_refl _) _
    · have hy : Hid (Notes s.data.toList 0 s.data.toList) := Lib.hid ⟨hk, .inl ⟨rfl, rfl⟩⟩
      go_enter Tryd.func24, Tryd.ntmps24
      go_wp2_with fail
      refine (Tryd.strings_HasPrefix _ _ _).mono ?_
      rintro e w1 ⟨rfl, rfl⟩
      go_wp2_with fail
      refine (validKey_any _ _ _ hs').mono ?_
      rintro e w1 ⟨rfl, hb⟩
      obtain ⟨c0, c1, c2, c3, f0, f1, f2, f3, hz⟩ := two_facts hb
      go_wp2
      refine bodyPost_ret (v := .tuple #[.agg #[.int .i64 0, .string s], .int .i64 0]) (by simp [results, Tryd.results24, go_sem, c0, c1]) rfl (pKey_yes hy.out ?_)
      exact ((hb0.trans (hb.mono (by simp; omega))).setCell (p := ⟨w.heap.size, 0, none⟩) (Nat.le_refl _) _).setCell (p := ⟨w.heap.size, 1, none⟩) (Nat.le_refl _) _
  · go_enter Tryd.func24, Tryd.ntmps24
    go_wp2_with fail
    refine (Tryd.strings_HasPrefix _ _ _).mono ?_
    rintro e w1 ⟨rfl, rfl⟩
    go_wp2_with fail
    refine (unquote_any _ _ hs).mono ?_
    rintro e w1 ⟨hb, ⟨t, ht, rfl⟩ | ⟨hno, rfl⟩⟩
    · obtain ⟨c0, c1, c2, c3, f0, f1, f2, f3, hz⟩ := two_facts hb
      have HT := Lib.hid ht
      clear ht
      have htl : (⟨t.toArray⟩ : ByteArray).size ≤ maxLen := by
        have h1 := congrArg List.length HT.out
        have h2 : t.length ≤ (quoteL t).length := by
          simp only [quoteL, List.length_cons, List.length_append, List.length_nil]
          have : t.length ≤ (t.flatMap qByte).length := by
            clear HT h1
            induction t with
            | nil => simp
            | cons a r ih => have := qByte_pos a; simp only [List.flatMap_cons, List.length_append, List.length_cons]; omega
          omega
        have h3 := sizeList s
        show t.length ≤ maxLen
        omega
      go_wp2_with fail
      have HK := Lib.hid (show keyB 1 t = true ∨ keyB 1 t = false by cases keyB 1 t <;> simp)
      refine (validKey_any _ _ _ htl).mono ?_
      rintro e w2 ⟨rfl, hb2⟩
      have hz2 := hb2.size
      simp only [World.size_setCell] at hz2
      have d0 : w2.cell? ⟨w.heap.size, 0, none⟩ = some (.int .i64 0) := by rw [hb2.cell (by simp; omega)]; go_simp
      have d1 : w2.cell? ⟨w.heap.size, 1, none⟩ = some (.string ⟨#[]⟩) := by rw [hb2.cell (by simp; omega)]; go_simp
      have d2 : w2.cell? ⟨w.heap.size + 1, 0, none⟩ = some (.int .i64 1) := by rw [hb2.cell (by simp; omega)]; go_simp
      have d3 : w2.cell? ⟨w.heap.size + 1, 1, none⟩ = some (.string ⟨t.toArray⟩) := by rw [hb2.cell (by simp; omega)]; go_simp
      have g0 : w2.frozen? ⟨w.heap.size, 0, none⟩ = false := by rw [hb2.frozen (by simp; omega)]; go_simp
      have g1 : w2.frozen? ⟨w.heap.size, 1, none⟩ = false := by rw [hb2.frozen (by simp; omega)]; go_simp
      rcases HK.out with hk | hk
      · have hy : Hid (Notes s.data.toList 1 t) := Lib.hid ⟨hk, .inr ⟨rfl, HT.out⟩⟩
        go_wp2
        refine bodyPost_ret (v := .tuple #[.agg #[.int .i64 1, .string ⟨t.toArray⟩], .int .i64 0]) (by simp [results, Tryd.results24, go_sem, d0, d1]) rfl (pKey_yes hy.out ?_)
        exact (((((hb0.trans (hb.mono (by simp; omega))).setCell (p := ⟨w.heap.size + 1, 0, none⟩) (by simp) _).setCell (p := ⟨w.heap.size + 1, 1, none⟩) (by simp) _).trans (hb2.mono (by simp; omega))).setCell (p := ⟨w.heap.size, 0, none⟩) (Nat.le_refl _) _).setCell (p := ⟨w.heap.size, 1, none⟩) (Nat.le_refl _) _
      · have hn := Lib.hid (show ∀ k t, ¬ Notes s.data.toList k t by
          intro k t' h
          obtain ⟨rfl, h'⟩ := notes_string hp h
          have := quoteL_inj (h'.trans HT.out.symm)
          subst this
          exact absurd h.1 (by rw [hk]; decide))
        go_wp2
        refine bodyPost_ret (v := .tuple #[.agg #[.int .i64 0, .string ⟨#[]⟩], .int .i64 5]) (by simp [results, Tryd.results24, go_sem, d0, d1]) rfl (pKey_no hn.out ?_)
        exact (((((hb0.trans (hb.mono (by simp; omega))).setCell (p := ⟨w.heap.size + 1, 0, none⟩) (by simp) _).setCell (p := ⟨w.heap.size + 1, 1, none⟩) (by simp) _).trans (hb2.mono (by simp; omega))).setCell (p := ⟨w.heap.size, 0, none⟩) (Nat.le_refl _) _).setCell (p := ⟨w.heap.size, 1, none⟩) (Nat.le_refl _) _
    · obtain ⟨c0, c1, c2, c3, f0, f1, f2, f3, hz⟩ := two_facts hb
      have hn := Lib.hid (show ∀ k t, ¬ Notes s.data.toList k t by
        intro k t h
        exact hno _ (notes_string hp h).2)
      clear hno
      go_wp2
      refine bodyPost_ret (v := .tuple #[.agg #[.int .i64 0, .string ⟨#[]⟩], .int .i64 5]) (by simp [results, Tryd.results24, go_sem, c0, c1]) rfl (pKey_no hn.out ?_)
      exact ((hb0.trans (hb.mono (by simp; omega))).setCell (p := ⟨w.heap.size, 0, none⟩) (Nat.le_refl _) _).setCell (p := ⟨w.heap.size, 1, none⟩) (Nat.le_refl _) _
end Go.Proofs.YtjinngobiefifaaDoor
