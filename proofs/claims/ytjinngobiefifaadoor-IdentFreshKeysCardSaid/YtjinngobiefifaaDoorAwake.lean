/- What the statements' own check (awake) returns: true. -/
import Derived.Test.YtjinngobiefifaaDoorFreshAtom
import Derived.Test.YtjinngobiefifaaDoorParseKey
namespace Go.Proofs.YtjinngobiefifaaDoor
open Go.RowKit
theorem parseKey_ok (w : World) : Calls Tryd.prog 24 #[.string ⟨#[111, 107]⟩] w fun e w' => e = .returned (.tuple #[.agg #[.int .i64 0, .string ⟨#[111, 107]⟩], .int .i64 0]) ∧ Below w.heap.size w w' :=
  (parseKey_any ⟨#[111, 107]⟩ w (by decide)).mono fun e w' ⟨hb, hc⟩ => by
    have hn : Notes [111, 107] 0 [111, 107] := ⟨by decide, .inl ⟨rfl, rfl⟩⟩
    rcases hc with ⟨k, t, h, he⟩ | ⟨hno, _⟩
    · obtain ⟨rfl, rfl⟩ := notes_atom (l := [111, 107]) (by decide) h
      exact ⟨he, hb⟩
    · exact absurd hn (hno _ _)
theorem isAtom_at (s : ByteArray) (b : Bool) (hs : s.size ≤ maxLen) (h : atomB s.data.toList = b) (w : World) : Calls Tryd.prog 10 #[.string s] w fun e w' => e = .returned (.bool b) ∧ w = w' := by
  subst h; exact isAtom_any s w hs
theorem isVariable_at (s : ByteArray) (b : Bool) (hs : s.size ≤ maxLen) (h : varB s.data.toList = b) (w : World) : Calls Tryd.prog 12 #[.string s] w fun e w' => e = .returned (.bool b) ∧ w = w' := by
  subst h; exact isVariable_any s w hs
theorem quote_a (w : World) : Calls Tryd.prog 19 #[.string ⟨#[97]⟩] w fun e w' => e = .returned (.string ⟨#[34, 97, 34]⟩) ∧ Below w.heap.size w w' := quote_any ⟨#[97]⟩ w (by decide)
theorem fresh_a (w0 : World) : Calls Tryd.prog 26 #[.slice (some ⟨w0.heap.size, 0, none⟩) 1 1] (w0.alloc (.cells #[.string ⟨#[97]⟩] 9)) fun e w' => e = .returned (.string ⟨#[98]⟩) ∧ Below w0.heap.size w0 w' := by
  refine (freshAtom_any (some ⟨w0.heap.size, 0, none⟩) 1 1 1 [⟨#[97]⟩] (w0.alloc (.cells #[.string ⟨#[97]⟩] 9)) ⟨rfl, ?_, ?_⟩ (by decide) (by decide) (by decide) (by decide)).mono ?_
  · intro s hs
    simp only [List.mem_singleton] at hs
    subst hs; decide
  · intro _
    refine ⟨_, 0, rfl, by simp, ?_⟩
    intro j s hj
    have h1 := heap_alloc_new w0 (.cells #[.string ⟨#[97]⟩] 9)
    match j, hj with
    | 0, hj =>
      simp only [List.getElem?_cons_zero, Option.some.injEq] at hj
      subst hj
      rw [Lib.cell_of_heap h1]; rfl
  · rintro e w' ⟨he, hb⟩
    exact ⟨he, ((Below.refl _ _).alloc (Nat.le_refl _) _).trans (hb.mono (by simp))⟩
set_option maxHeartbeats 1600000 in
theorem awake_any (w : World) : Calls Tryd.prog 16 #[] w fun e w' => e = .returned (.bool true) ∧ Below w.heap.size w w' := by
  have a1 := isAtom_at ⟨#[97, 95, 49]⟩ true (by decide) (by decide)
  have a2 := isAtom_at ⟨#[65]⟩ false (by decide) (by decide)
  have a3 := isVariable_at ⟨#[65, 95, 98]⟩ true (by decide) (by decide)
  have A1 := Lib.hid a1
  have A2 := Lib.hid a2
  have A3 := Lib.hid a3
  clear a1 a2 a3
  go_enter Tryd.func16, Tryd.ntmps16
  go_wp2_with fail
  refine (parseKey_ok _).mono ?_
  rintro e w1 ⟨rfl, hb1⟩
  have hs1 := hb1.size
  go_wp2_with fail
  refine (A1.out _).mono ?_
  rintro e w2 ⟨rfl, rfl⟩
  go_wp2_with fail
  refine (A2.out _).mono ?_
  rintro e w2 ⟨rfl, rfl⟩
  go_wp2_with fail
  refine (A3.out _).mono ?_
  rintro e w2 ⟨rfl, rfl⟩
  go_wp2_with fail
  refine (quote_a _).mono ?_
  rintro e w2 ⟨rfl, hb2⟩
  go_wp2_with fail
  refine (fresh_a _).mono ?_
  rintro e w3 ⟨rfl, hb3⟩
  go_wp2
  go_ret
  refine ⟨rfl, ?_⟩
  have hs2 := hb2.size
  simp only [World.size_alloc] at hs2
  exact ((hb1.trans ((Below.refl _ w1).alloc hs1 _)).trans (hb2.mono (by simp; omega))).trans (hb3.mono (by omega))
end Go.Proofs.YtjinngobiefifaaDoor
