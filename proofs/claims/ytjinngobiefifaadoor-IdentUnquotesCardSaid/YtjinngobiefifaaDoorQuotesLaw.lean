/- The walks of the laws IdentQuotes and IdentUnquotes: they return true. -/
import Derived.Test.YtjinngobiefifaaDoorAwake
import Derived.Test.YtjinngobiefifaaDoorRefUnquote
namespace Go.Proofs.YtjinngobiefifaaDoor
open Go.RowKit
theorem unquote_quote (s : ByteArray) (w : World) (hs : s.size ≤ 400) :
    Calls Tryd.prog 20 #[.string ⟨(quoteL s.data.toList).toArray⟩] w fun e w' => e = .returned (.tuple #[.string s, .int .i64 0]) ∧ Below w.heap.size w w' := by
  have hl := quoteL_length s.data.toList
  have hsl := sizeList s
  refine (unquote_any ⟨(quoteL s.data.toList).toArray⟩ w (by show (quoteL s.data.toList).length ≤ 140737488355328; omega)).mono ?_
  rintro e w' ⟨hb, ⟨t, ht, he⟩ | ⟨hno, _⟩⟩
  · have : t = s.data.toList := quoteL_inj ht
    subst this
    rw [ba_mk] at he
    exact ⟨he, hb⟩
  · exact absurd rfl (hno s.data.toList)
set_option maxHeartbeats 800000 in
theorem identQuotes_any (s : ByteArray) (w : World) (hs : s.size ≤ maxLen) :
    Calls Tryd.prog 5 #[.string s] w fun e w' => e = .returned (.bool true) ∧ Below w.heap.size w w' := by
  unfold maxLen at hs
  by_cases h : s.size ≤ 400
  · go_enter Tryd.func5, Tryd.ntmps5
    go_wp2_with fail
    refine (quote_any s _ (by omega)).mono ?_
    rintro e w1 ⟨rfl, hb1⟩
    have hs1 := hb1.size
    go_wp2_with fail
    refine (unquote_quote s _ h).mono ?_
    rintro e w2 ⟨rfl, hb2⟩
    have hs2 := hb2.size
    go_wp2_with fail
    refine (refQuote_any s _ (by omega)).mono ?_
    rintro e w3 ⟨rfl, hb3⟩
    have hs3 := hb3.size
    go_wp2_with fail
    refine (awake_any _).mono ?_
    rintro e w4 ⟨rfl, hb4⟩
    go_wp2
    go_ret
    exact ⟨ret_bool (by simp), ((hb1.trans (hb2.mono hs1)).trans (hb3.mono (by omega))).trans (hb4.mono (by omega))⟩
  · go_enter Tryd.func5, Tryd.ntmps5
    go_wp2_with fail
    refine (awake_any _).mono ?_
    rintro e w4 ⟨rfl, hb4⟩
    go_wp2
    go_ret
    exact ⟨ret_bool (by simp), hb4⟩
set_option maxHeartbeats 1600000 in
theorem identUnquotes_any (s : ByteArray) (w : World) (hs : s.size ≤ maxLen) :
    Calls Tryd.prog 6 #[.string s] w fun e w' => e = .returned (.bool true) ∧ Below w.heap.size w w' := by
  unfold maxLen at hs
  by_cases h : s.size ≤ 400
  · go_enter Tryd.func6, Tryd.ntmps6
    go_wp2_with fail
    refine (unquote_any s _ (by omega)).mono ?_
    rintro e w1 ⟨hb1, ⟨t, ht, rfl⟩ | ⟨hno, rfl⟩⟩
    · have HT := Lib.hid ht
      clear ht
      have hs1 := hb1.size
      have htl : (⟨t.toArray⟩ : ByteArray).size ≤ 35184372088830 := by
        have h1 := congrArg List.length HT.out
        have h2 : t.length ≤ (t.flatMap qByte).length := by
          clear HT h1
          induction t with
          | nil => simp
          | cons a r ih => have := qByte_pos a; simp only [List.flatMap_cons, List.length_append, List.length_cons]; omega
        have h3 := sizeList s
        simp only [quoteL, List.length_cons, List.length_append, List.length_nil] at h1
        show t.length ≤ 35184372088830
        omega
      go_wp2_with fail
      refine (refUnquote_any s _ (by omega)).mono ?_
      rintro e w2 ⟨hb2, ⟨t2, ht2, rfl⟩ | ⟨hno, rfl⟩⟩
      · obtain rfl : t = t2 := quoteL_inj (HT.out.trans ht2.symm)
        clear ht2
        have hs2 := hb2.size
        go_wp2_with fail
        refine (quote_any _ _ htl).mono ?_
        rintro e w3 ⟨rfl, hb3⟩
        have hs3 := hb3.size
        have q1 : (quoteL t == s.toList) = true := by rw [Lib.toList_data, beq_iff_eq]; exact HT.out
        go_wp2_with fail
        refine (awake_any _).mono ?_
        rintro e w4 ⟨rfl, hb4⟩
        go_wp2
        go_ret
        exact ⟨ret_bool (by simp), ((hb1.trans (hb2.mono hs1)).trans (hb3.mono (by omega))).trans (hb4.mono (by omega))⟩
      · exact absurd HT.out (hno t)
    · have HN := Lib.hid hno
      clear hno
      have hs1 := hb1.size
      go_wp2_with fail
      refine (refUnquote_any s _ (by omega)).mono ?_
      rintro e w2 ⟨hb2, ⟨t2, ht2, rfl⟩ | ⟨_, rfl⟩⟩
      · exact absurd ht2 (HN.out t2)
      · have hs2 := hb2.size
        go_wp2_with fail
        refine (awake_any _).mono ?_
        rintro e w4 ⟨rfl, hb4⟩
        go_wp2
        go_ret
        exact ⟨ret_bool (by simp), (hb1.trans (hb2.mono hs1)).trans (hb4.mono (by omega))⟩
  · go_enter Tryd.func6, Tryd.ntmps6
    go_wp2_with fail
    refine (awake_any _).mono ?_
    rintro e w4 ⟨rfl, hb4⟩
    go_wp2
    go_ret
    exact ⟨ret_bool (by simp), hb4⟩
end Go.Proofs.YtjinngobiefifaaDoor
