/- What the laws' sanity check returns: true. -/
import Derived.Test.YtkmfpkdcedfgfaaOps
import Derived.Test.YtkmfpkdcedfgfaaFirstName
namespace Go.Proofs.Ytkmfpkdcedfgfaa
open Go.RowKit Go.Sort
theorem short_lit (l : List Strg) (h : ∀ s ∈ l, s.length ≤ 4) : Short l := fun s hs => by have := h s hs; unfold maxLen; omega
theorem asc_two {a b : Strg} (h : bl a b = true) : Asc [a, b] := List.pairwise_cons.2 ⟨fun x hx => by rw [List.mem_singleton.1 hx]; exact h, asc_one b⟩
theorem awake_union {m m1 m2 : List Strg} (h1 : IsSet false m1 (inN false [[97]])) (h2 : IsSet true m2 (inN true [[97], [98]])) (h : IsSet true m fun x => inN false m1 x || inN true m2 x) : m = [[98]] := by
  refine isSet_unique h (isSet_self (asc_one [98])) fun x => ?_
  rw [h1.2 x, h2.2 x]
  unfold inN
  by_cases ha : x = [97]
  · subst ha; decide
  · by_cases hb : x = [98]
    · subst hb; decide
    · rw [decide_eq_false (by simpa using ha), decide_eq_false (by simp [ha, hb]), decide_eq_false (by simpa using hb)]; rfl
theorem awake_first {m : List Strg} (h : IsSet true m (inN true [[]])) : FirstR true m 1 [0] true := by
  have e : m = [[]] := isSet_unique h (isSet_self (asc_one [])) fun _ => rfl
  subst e
  refine .inr (.inl ⟨.inr rfl, rfl, rfl, .inr (.inl ⟨rfl, rfl, 1, by omega, by decide +kernel, fun j hj => ?_, ?_⟩)⟩)
  · obtain rfl : j = 0 := by omega
    rw [textsOf_keysOf]; decide +kernel
  · rw [textsOf_keysOf]; decide +kernel
set_option maxRecDepth 100000 in
set_option maxHeartbeats 3200000 in
theorem awake_any (w : World) : Calls Try.prog 9 #[] w fun e w' => e = .returned (.bool true) ∧ Below w.heap.size w w' := by
  have hb0 : Below w.heap.size w (w.alloc (.cells #[.string ⟨#[97]⟩] 9)) := (Below.refl _ _).alloc (Nat.le_refl _) _
  have hl0 := (OwnN.lit w w.heap.size (Nat.le_refl _) [[97]] #[.string ⟨#[97]⟩] 1 rfl rfl (by decide)).rng (short_lit _ (by decide))
  have hf0 := finite_any _ _ 1 _ _ hl0 (by omega)
  clear hl0
  go_enter Try.func9, Try.ntmps9
  go_wp2_with (go_at_call 10; refine hf0.mono ?_; rintro e w1 ⟨m1, A1, c1, rfl, ho1, hs1, hset1, hk1, hb1⟩; refine Hid.out ?_)
  refine Lib.hid ?_
  have hB1 := hb0.trans (hb1.mono (by simp))
  have hl1 := (OwnN.lit w1 w1.heap.size (Nat.le_refl _) [[97], [98]] #[.string ⟨#[97]⟩, .string ⟨#[98]⟩] 2 rfl rfl (by decide)).rng (short_lit _ (by decide))
  have hf1 := cofinite_any _ _ 2 _ _ hl1 (by omega)
  have hbx : Below w1.heap.size w1 (w1.alloc (.cells #[.string ⟨#[97]⟩, .string ⟨#[98]⟩] 9)) := (Below.refl _ _).alloc (Nat.le_refl _) _
  clear hb0 hb1 hl1 hf0
  go_wp2_with (go_at_call 11; refine hf1.mono ?_; rintro e w2 ⟨m2, A2, c2, rfl, ho2, hs2, hset2, hk2, hb2⟩; refine Hid.out ?_)
  refine Lib.hid ?_
  have hb12 := hbx.trans (hb2.mono (by simp))
  have hB2 := hB1.trans (hb12.mono hB1.size)
  have hun := union_any false true A1 A2 m1.length c1 m2.length c2 m1 m2 w2 ((ho1.rng hs1).on hb12) (ho2.rng hs2) (by omega) (by omega)
  have HS1 := Lib.hid hset1
  have HS2 := Lib.hid hset2
  clear hbx hb12 hb2 hf1 ho1 ho2 hset1 hset2
  go_wp2_with (go_at_call 15; refine hun.mono ?_; rintro e w3 ⟨m3, A3, c3, rfl, ho3, hs3, hset3, hk3, hb3⟩; refine Hid.out ?_)
  refine Lib.hid ?_
  have hm3 := awake_union HS1.out HS2.out hset3
  subst hm3
  have hB3 := hB2.trans (hb3.mono hB2.size)
  obtain ⟨b3, off3, s3, rfl, hbb3, hx3, hl3, cs3⟩ := (ho3.rng hs3).at (show 0 < 1 by omega)
  obtain rfl : s3 = [98] := by simpa using hx3.symm
  clear hset3 hun ho3 hx3 hb3
  have hbb : Below w3.heap.size w3 (w3.alloc (.cells #[.bool true, .slice (some ⟨b3, off3, none⟩) 1 c3] 24)) := (Below.refl _ _).alloc (Nat.le_refl _) _
  have hbc : Below w3.heap.size w3 ((w3.alloc (.cells #[.bool true, .slice (some ⟨b3, off3, none⟩) 1 c3] 24)).alloc (.cells #[.string ⟨#[]⟩] 9)) := hbb.alloc (by simp) _
  have hbx : (w3.alloc (.cells #[.bool true, .slice (some ⟨b3, off3, none⟩) 1 c3] 24)).heap[w3.heap.size]? = some (.cells #[.bool true, .slice (some ⟨b3, off3, none⟩) 1 c3] 24 (0, 0)) := heap_alloc_new w3 _
  have hl4 := (OwnN.lit (w3.alloc (.cells #[.bool true, .slice (some ⟨b3, off3, none⟩) 1 c3] 24)) _ (Nat.le_refl _) [[]] #[.string ⟨#[]⟩] 1 rfl rfl (by decide)).rng (short_lit _ (by decide))
  have hf4 := cofinite_any _ _ 1 _ _ hl4 (by omega)
  simp only [World.size_alloc] at hf4
  clear hl4 hbb
  go_wp2_with (go_at_call 11; refine hf4.mono ?_; rintro e w4 ⟨m4, A4, c4, rfl, ho4, hs4, hset4, hk4, hb4⟩; refine Hid.out ?_)
  refine Lib.hid ?_
  have hfst := first_any true A4 m4.length c4 m4 1 [0] true w4 (ho4.rng hs4) (by omega) (awake_first hset4)
  clear hf4 ho4 hset4
  go_wp2_with (go_at_call 25; refine hfst.mono ?_; rintro e w5 ⟨rfl, hb5⟩; refine Hid.out ?_)
  refine Lib.hid ?_
  have hb45 := (hb4.trans (hb5.mono hb4.size))
  have hb35 : Below w3.heap.size w3 w5 := hbc.trans (hb45.mono (by simp; omega))
  have hB5 := hB3.trans (hb35.mono hB3.size)
  have hx5 := (hb45.block w3.heap.size (by simp; omega)).trans ((Below.heap_alloc _ _ _ (by simp)).trans hbx)
  have g1 := cell0 hx5
  have g2 := cell1 hx5
  have g3 := (hb35.cell (p := ⟨b3, off3 + 0, none⟩) hbb3).trans cs3
  rw [Nat.add_zero] at g3
  have hl6 := (OwnN.lit w5 w5.heap.size (Nat.le_refl _) [[120], [121]] #[.string ⟨#[120]⟩, .string ⟨#[121]⟩] 2 rfl rfl (by decide)).rng (short_lit _ (by decide))
  have hf6 := finite_any _ _ 2 _ _ hl6 (by omega)
  have hby : Below w5.heap.size w5 (w5.alloc (.cells #[.string ⟨#[120]⟩, .string ⟨#[121]⟩] 9)) := (Below.refl _ _).alloc (Nat.le_refl _) _
  clear hfst hb4 hb5 hb45 hbc hbx hx5 cs3 hl6 hb35
  go_wp2_with (go_at_call 10; refine hf6.mono ?_; rintro e w6 ⟨m6, A6, c6, rfl, ho6, hs6, hset6, hk6, hb6⟩; refine Hid.out ?_)
  refine Lib.hid ?_
  have hcn := contains_any false A6 m6.length c6 m6 [121] w6 (ho6.rng hs6) (by omega)
  rw [show inN false m6 [121] = true from (hset6.2 [121]).trans (by decide)] at hcn
  have hB6 := hB5.trans ((hby.trans (hb6.mono (by simp))).mono hB5.size)
  clear hf6 ho6 hset6 hb6 hby
  go_wp2_with (go_at_call 13; refine hcn.mono ?_; rintro e w7 ⟨rfl, hb7⟩; refine Hid.out ?_)
  refine Lib.hid ?_
  go_wp2
  go_ret
  exact ⟨rfl, hB6.trans (hb7.mono hB6.size)⟩
end Go.Proofs.Ytkmfpkdcedfgfaa
