/- The walk of the law IdentKeys: it returns true. -/
import Derived.Test.YtjinngobiefifaaDoorAwake
import Derived.Test.YtjinngobiefifaaDoorRefParseKey
namespace Go.Proofs.YtjinngobiefifaaDoor
open Go.RowKit
theorem cell_alloc {w : World} {a : Addr} {v : Value} (o : Obj) (h : w.cell? a = some v) : (w.alloc o).cell? a = some v := (World.cell?_alloc_lt w o a (World.block_lt_of_cell? _ _ h)).trans h
theorem flat_len (t : List UInt8) : t.length ≤ (t.flatMap qByte).length := by
  induction t with
  | nil => simp
  | cons a r ih => have := qByte_pos a; simp only [List.flatMap_cons, List.length_append, List.length_cons]; omega
theorem notes_format {k : Int} {t : List UInt8} (h : keyB k t = true) : Notes (formatL k t) k t := by
  refine ⟨h, ?_⟩
  unfold formatL
  rw [h, if_pos rfl]
  by_cases h1 : k = 1
  · subst h1; exact .inr ⟨rfl, by simp⟩
  · have h0 : k = 0 := by
      unfold keyB at h
      by_cases h0 : k = 0
      · exact h0
      · rw [if_neg h0, if_neg h1] at h; cases h
    exact .inl ⟨h0, by simp [h1]⟩
theorem notes_is_format {l t : List UInt8} {k : Int} (h : Notes l k t) : formatL k t = l := by
  obtain ⟨hk, ⟨rfl, rfl⟩ | ⟨rfl, rfl⟩⟩ := h
  · simp [formatL, hk]
  · simp [formatL, hk]
theorem notes_unique {l t t' : List UInt8} {k k' : Int} (h : Notes l k t) (h' : Notes l k' t') : k = k' ∧ t = t' := by
  cases hp : Lib.hasPrefix l [34]
  · obtain ⟨rfl, rfl⟩ := notes_atom hp h
    obtain ⟨rfl, rfl⟩ := notes_atom hp h'
    exact ⟨rfl, rfl⟩
  · obtain ⟨rfl, h1⟩ := notes_string hp h
    obtain ⟨rfl, h2⟩ := notes_string hp h'
    exact ⟨rfl, quoteL_inj (h1.trans h2.symm)⟩
theorem formatL_length (k : Int) (t : List UInt8) : (formatL k t).length ≤ 4 * t.length + 2 := by
  unfold formatL
  have := quoteL_length t
  split
  · split <;> omega
  · simp
theorem parseKey_format (k : Int) (t : ByteArray) (w : World) (ht : t.size ≤ 300) (h : keyB k t.data.toList = true) :
    Calls Tryd.prog 24 #[.string ⟨(formatL k t.data.toList).toArray⟩] w fun e w' => e = .returned (.tuple #[.agg #[.int .i64 k, .string t], .int .i64 0]) ∧ Below w.heap.size w w' := by
  have hl := formatL_length k t.data.toList
  have hs := sizeList t
  refine (parseKey_any ⟨(formatL k t.data.toList).toArray⟩ w (by show (formatL k t.data.toList).length ≤ 140737488355328; omega)).mono ?_
  rintro e w' ⟨hb, ⟨k', t', hn, he⟩ | ⟨hno, _⟩⟩
  · obtain ⟨rfl, rfl⟩ := notes_unique (notes_format h) hn
    rw [ba_mk] at he
    exact ⟨he, hb⟩
  · exact absurd (notes_format h) (hno _ _)
set_option maxRecDepth 100000 in
set_option maxHeartbeats 3200000 in
theorem identKeys_any (k : Int) (t s : ByteArray) (w : World) (ht : t.size ≤ maxLen) (hs : s.size ≤ maxLen) :
    Calls Tryd.prog 7 #[.agg #[.int .i64 k, .string t], .string s] w fun e w' => e = .returned (.bool true) ∧ Below w.heap.size w w' := by
  have ht' := ht
  have hs' := hs
  unfold maxLen at ht' hs'
  have hb0 : Below w.heap.size w (w.alloc (.cells #[.int .i64 k, .string t] 23)) := (Below.refl _ _).alloc (Nat.le_refl _) _
  by_cases h1 : s.size ≤ 300
  · by_cases h2 : t.size ≤ 300
    · cases hk : keyB k t.data.toList
      · have hf : formatL k t.data.toList = [] := by simp [formatL, hk]
        go_enter Tryd.func7, Tryd.ntmps7
        go_wp2_with fail
        refine (formatKey_any _ _ _ ht).mono ?_
        rintro e w1 ⟨rfl, hb1⟩
        rw [hf]
        obtain ⟨c0, c1, f0, f1, hz1⟩ := one_facts hb1
        have HF := Lib.hid hf
        clear hf
        go_wp2_with fail
        refine (refValidKey_any _ _ _ ht).mono ?_
        rintro e w2 ⟨rfl, hb2⟩
        have hz2 := hb2.size
        go_wp2_with fail
        refine (awake_any _).mono ?_
        rintro e w3 ⟨rfl, hb3⟩
        go_wp2
        go_ret
        exact ⟨ret_bool (by simp), ((hb0.trans (hb1.mono (by simp))).trans (hb2.mono (by omega))).trans (hb3.mono (by omega))⟩
      · go_enter Tryd.func7, Tryd.ntmps7
        go_wp2_with fail
        refine (formatKey_any _ _ _ ht).mono ?_
        rintro e w1 ⟨rfl, hb1⟩
        obtain ⟨c0, c1, f0, f1, hz1⟩ := one_facts hb1
        go_wp2_with fail
        refine (refValidKey_any _ _ _ ht).mono ?_
        rintro e w2 ⟨rfl, hb2⟩
        have hz2 := hb2.size
        go_wp2_with fail
        refine (parseKey_format k t _ h2 hk).mono ?_
        rintro e w3 ⟨rfl, hb3⟩
        have hz3 := hb3.size
        have a0 := cell_later hb3 (cell_later hb2 c0)
        have a1 := cell_later hb3 (cell_later hb2 c1)
        clear c0 c1 f0 f1
        go_wp2_with fail
        refine (parseKey_any s _ (by omega)).mono ?_
        rintro e w4 ⟨hb4, hc4⟩
        obtain ⟨d0, d1, _, _, hz4⟩ := one_facts hb4
        have b0 : w4.cell? ⟨w.heap.size, 0, none⟩ = some (.int .i64 k) := cell_later hb4 (cell_alloc _ a0)
        have b1 : w4.cell? ⟨w.heap.size, 1, none⟩ = some (.string t) := cell_later hb4 (cell_alloc _ a1)
        clear a0 a1
        have hB4 : Below w.heap.size w w4 := (((((hb0.trans (hb1.mono (by simp))).trans (hb2.mono (by omega))).trans (hb3.mono (by omega))).alloc (by omega) _).trans (hb4.mono (by simp; omega)))
        clear hb0 hb1 hb2 hb3 hb4
        rcases hc4 with ⟨k2, t2, hn, rfl⟩ | ⟨hno, rfl⟩
        · have HN := Lib.hid hn
          clear hn
          go_wp2_with fail
          refine (refParseKey_any s _ (by omega)).mono ?_
          rintro e w5 ⟨hb5, ⟨k3, t3, hn3, rfl⟩ | ⟨hno, rfl⟩⟩
          · obtain ⟨rfl, rfl⟩ := notes_unique HN.out hn3
            clear hn3
            obtain ⟨e0, e1, _, _, hz5⟩ := one_facts hb5
            have x0 : w5.cell? ⟨w.heap.size, 0, none⟩ = some (.int .i64 k) := cell_later hb5 (cell_alloc _ b0)
            have x1 : w5.cell? ⟨w.heap.size, 1, none⟩ = some (.string t) := cell_later hb5 (cell_alloc _ b1)
            have y0 : w5.cell? ⟨w3.heap.size, 0, none⟩ = some (.int .i64 k) := cell_later hb5 (cell_alloc _ d0)
            have y1 : w5.cell? ⟨w3.heap.size, 1, none⟩ = some (.string t) := cell_later hb5 (cell_alloc _ d1)
            clear b0 b1 d0 d1
            have htl : (⟨t2.toArray⟩ : ByteArray).size ≤ maxLen := by
              have h := notes_is_format HN.out
              have h2 := HN.out.2
              have h3 := sizeList s
              have h4 : t2.length ≤ s.size := by
                rcases h2 with ⟨_, e⟩ | ⟨_, e⟩
                · rw [e]; omega
                · have e2 := congrArg List.length e
                  have e3 := flat_len t2
                  simp only [quoteL, List.length_cons, List.length_append, List.length_nil] at e2
                  omega
              show t2.length ≤ maxLen
              unfold maxLen; omega
            have hfs := Lib.hid (notes_is_format HN.out)
            have q1 : (formatL k2 t2 == s.toList) = true := by rw [Lib.toList_data, beq_iff_eq]; exact hfs.out
            have K5 : ∃ K, K = Obj.cells #[.int .i64 k2, .string ⟨t2.toArray⟩] 23 := ⟨_, rfl⟩
            have g0 : (w5.alloc (.cells #[.int .i64 k2, .string ⟨t2.toArray⟩] 23)).cell? ⟨w.heap.size, 0, none⟩ = some (.int .i64 k) := cell_alloc _ x0
            have g1 : (w5.alloc (.cells #[.int .i64 k2, .string ⟨t2.toArray⟩] 23)).cell? ⟨w.heap.size, 1, none⟩ = some (.string t) := cell_alloc _ x1
            have g2 : (w5.alloc (.cells #[.int .i64 k2, .string ⟨t2.toArray⟩] 23)).cell? ⟨w3.heap.size, 0, none⟩ = some (.int .i64 k) := cell_alloc _ y0
            have g3 : (w5.alloc (.cells #[.int .i64 k2, .string ⟨t2.toArray⟩] 23)).cell? ⟨w3.heap.size, 1, none⟩ = some (.string t) := cell_alloc _ y1
            have g4 : (w5.alloc (.cells #[.int .i64 k2, .string ⟨t2.toArray⟩] 23)).cell? ⟨w4.heap.size, 0, none⟩ = some (.int .i64 k2) := cell_alloc _ e0
            have g5 : (w5.alloc (.cells #[.int .i64 k2, .string ⟨t2.toArray⟩] 23)).cell? ⟨w4.heap.size, 1, none⟩ = some (.string ⟨t2.toArray⟩) := cell_alloc _ e1
            have hB5 : Below w.heap.size w (w5.alloc (.cells #[.int .i64 k2, .string ⟨t2.toArray⟩] 23)) := ((hB4.alloc hB4.size _).trans (hb5.mono (by have := hB4.size; simp; omega))).alloc (by have := hB4.size; omega) _
            clear x0 x1 y0 y1 e0 e1 K5 hb5
            go_wp2_with fail
            refine (formatKey_any _ _ _ htl).mono ?_
            rintro e w6 ⟨rfl, hb6⟩
            go_wp2_with fail
            refine (awake_any _).mono ?_
            rintro e w7 ⟨rfl, hb7⟩
            go_wp2
            go_ret
            exact ⟨ret_bool (by simp), (hB5.trans (hb6.mono (by simp; omega))).trans (hb7.mono (by have := hb6.size; simp at this; omega))⟩
          · exact absurd HN.out (hno _ _)
        · have HN := Lib.hid hno
          clear hno
          go_wp2_with fail
          refine (refParseKey_any s _ (by omega)).mono ?_
          rintro e w5 ⟨hb5, ⟨k3, t3, hn3, rfl⟩ | ⟨_, rfl⟩⟩
          · exact absurd hn3 (HN.out _ _)
          · obtain ⟨e0, e1, _, _, hz5⟩ := one_facts hb5
            have x0 : w5.cell? ⟨w.heap.size, 0, none⟩ = some (.int .i64 k) := cell_later hb5 (cell_alloc _ b0)
            have x1 : w5.cell? ⟨w.heap.size, 1, none⟩ = some (.string t) := cell_later hb5 (cell_alloc _ b1)
            have y0 : w5.cell? ⟨w3.heap.size, 0, none⟩ = some (.int .i64 k) := cell_later hb5 (cell_alloc _ d0)
            have y1 : w5.cell? ⟨w3.heap.size, 1, none⟩ = some (.string t) := cell_later hb5 (cell_alloc _ d1)
            clear b0 b1 d0 d1
            have K5 : ∃ K, K = Obj.cells #[.int .i64 0, .string ⟨#[]⟩] 23 := ⟨_, rfl⟩
            have g0 : (w5.alloc (.cells #[.int .i64 0, .string ⟨#[]⟩] 23)).cell? ⟨w.heap.size, 0, none⟩ = some (.int .i64 k) := cell_alloc _ x0
            have g1 : (w5.alloc (.cells #[.int .i64 0, .string ⟨#[]⟩] 23)).cell? ⟨w.heap.size, 1, none⟩ = some (.string t) := cell_alloc _ x1
            have g2 : (w5.alloc (.cells #[.int .i64 0, .string ⟨#[]⟩] 23)).cell? ⟨w3.heap.size, 0, none⟩ = some (.int .i64 k) := cell_alloc _ y0
            have g3 : (w5.alloc (.cells #[.int .i64 0, .string ⟨#[]⟩] 23)).cell? ⟨w3.heap.size, 1, none⟩ = some (.string t) := cell_alloc _ y1
            have g4 : (w5.alloc (.cells #[.int .i64 0, .string ⟨#[]⟩] 23)).cell? ⟨w4.heap.size, 0, none⟩ = some (.int .i64 0) := cell_alloc _ e0
            have g5 : (w5.alloc (.cells #[.int .i64 0, .string ⟨#[]⟩] 23)).cell? ⟨w4.heap.size, 1, none⟩ = some (.string ⟨#[]⟩) := cell_alloc _ e1
            have hB5 : Below w.heap.size w (w5.alloc (.cells #[.int .i64 0, .string ⟨#[]⟩] 23)) := ((hB4.alloc hB4.size _).trans (hb5.mono (by have := hB4.size; simp; omega))).alloc (by have := hB4.size; omega) _
            clear x0 x1 y0 y1 e0 e1 K5 hb5
            go_wp2_with fail
            refine (awake_any _).mono ?_
            rintro e w7 ⟨rfl, hb7⟩
            go_wp2
            go_ret
            exact ⟨ret_bool (by simp), hB5.trans (hb7.mono (by simp; omega))⟩
    · go_enter Tryd.func7, Tryd.ntmps7
      go_wp2_with fail
      refine (awake_any _).mono ?_
      rintro e w3 ⟨rfl, hb3⟩
      go_wp2
      go_ret
      exact ⟨ret_bool (by simp), hb0.trans (hb3.mono (by simp))⟩
  · go_enter Tryd.func7, Tryd.ntmps7
    go_wp2_with fail
    refine (awake_any _).mono ?_
    rintro e w3 ⟨rfl, hb3⟩
    go_wp2
    go_ret
    exact ⟨ret_bool (by simp), hb0.trans (hb3.mono (by simp))⟩
end Go.Proofs.YtjinngobiefifaaDoor
