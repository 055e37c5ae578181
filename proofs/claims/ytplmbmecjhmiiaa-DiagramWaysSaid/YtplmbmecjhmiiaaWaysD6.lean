/- The document's Paths; how many paths hold. -/
import Derived.Test.YtplmbmecjhmiiaaWays6
import Derived.Test.YtplmbmecjhmiiaaHoldL6
namespace Go.Proofs.Ytplmbmecjhmiiaa
open Go Go.RowKit
theorem IntR_nil (w : World) (B : Nat → Prop) : IntR w B (.slice none 0 0) [] := ⟨none, 0, rfl, ⟨Nat.zero_le _, Nat.le_refl _⟩, fun h => absurd h (by simp)⟩
theorem hB_pos (p q : List Int) (l : Nat) (s : Nat → Bool) : hB (p ++ [(l : Int)], q) s = (hB (p, q) s && s l) := by
  unfold hB
  rw [List.all_append]
  simp [Bool.and_right_comm]
theorem hB_neg (p q : List Int) (l : Nat) (s : Nat → Bool) : hB (p, q ++ [(l : Int)]) s = (hB (p, q) s && !s l) := by
  unfold hB
  rw [List.all_append]
  simp [Bool.and_assoc]
/-- just one path holds where the diagram is true -/
theorem pth_held {us : List Nd} (hO : Ord us) (s : Nat → Bool) : ∀ (N r : Nat) (p q : List Int), r < us.length + 2 → 12 - litR us r < N → ((pth us N r p q).filter (fun x => hB x s)).length = if hB (p, q) s && F us r s then 1 else 0
  | 0, _, _, _, _, h => absurd h (by omega)
  | N + 1, r, p, q, hr, hN => by
    by_cases h0 : r = 0
    · subst h0; rw [pth_zero, F_zero]; simp [ffB]
    by_cases h1 : r = 1
    · subst h1
      rw [pth_one, F_one]
      cases h : hB (p, q) s <;> simp [ttB, h]
    obtain ⟨i, rfl⟩ : ∃ i, r = i + 2 := ⟨r - 2, by omega⟩
    have hi : i < us.length := by omega
    have hn : us[i]? = some us[i] := List.getElem?_eq_getElem hi
    generalize us[i] = n at hn
    obtain ⟨o1, o2, o3, o4, o5⟩ := hO i n hn
    rw [litR_node hn] at hN
    rw [pth_node hn, F_node hO hn, List.filter_append, List.length_append, pth_held hO s N n.h _ q (by omega) (by omega), pth_held hO s N n.o p _ (by omega) (by omega), hB_pos, hB_neg]
    cases s n.l <;> simp
/-- the literals of the paths exist -/
theorem pth_lit {us : List Nd} (hO : Ord us) : ∀ (N r : Nat) (p q : List Int), r < us.length + 2 → Lit12 p → Lit12 q → ∀ x, x ∈ pth us N r p q → (Lit12 x.1 ∧ Lit12 x.2) ∧ x.1.length ≤ p.length + N ∧ x.2.length ≤ q.length + N
  | 0, _, _, _, _, _, _, x, hx => by simp [pth] at hx
  | N + 1, r, p, q, hr, hp, hq, x, hx => by
    by_cases h0 : r = 0
    · subst h0; rw [pth_zero] at hx; simp at hx
    by_cases h1 : r = 1
    · subst h1
      rw [pth_one] at hx
      simp at hx
      subst hx
      exact ⟨⟨hp, hq⟩, Nat.le_add_right _ _, Nat.le_add_right _ _⟩
    obtain ⟨i, rfl⟩ : ∃ i, r = i + 2 := ⟨r - 2, by omega⟩
    have hi : i < us.length := by omega
    have hn : us[i]? = some us[i] := List.getElem?_eq_getElem hi
    generalize us[i] = n at hn
    obtain ⟨o1, o2, o3, o4, o5⟩ := hO i n hn
    have more : ∀ l : List Int, Lit12 l → Lit12 (l ++ [(n.l : Int)]) := fun l hl z hz => by
      rcases List.mem_append.1 hz with h | h
      · exact hl z h
      · simp at h
        omega
    rw [pth_node hn] at hx
    rcases List.mem_append.1 hx with h | h
    · have := pth_lit hO N n.h _ q (by omega) (more p hp) hq x h
      rw [List.length_append, List.length_singleton] at this
      exact ⟨this.1, by omega, by omega⟩
    · have := pth_lit hO N n.o p _ (by omega) hp (more q hq) x h
      rw [List.length_append, List.length_singleton] at this
      exact ⟨this.1, by omega, by omega⟩
set_option maxRecDepth 100000 in
set_option maxHeartbeats 3200000 in
/-- the document's Paths -/
theorem pathsD_any {f : BF} {v : Value} {w : World} (h : Dia f w w.heap.size v) : Calls Try.prog 22 #[v] w fun e w' => ∃ v', e = .returned v' ∧ OwnP (fun _ => False) w' 0 v' (pth (can f []).1 13 (can f []).2 [] []) ∧ Below w.heap.size w w' := by
  obtain ⟨hf, A, c, rfl, hN⟩ := h
  obtain ⟨_, hG, hr, _⟩ := can_ok hf Good_nil
  have hs := can_small hf
  have hO := hG.ord
  generalize (can f []).1 = us at *
  generalize (can f []).2 = x at *
  obtain ⟨W, hW⟩ : ∃ W, W = w.alloc (.cells #[.slice A us.length c, .int .i64 x] 24) := ⟨_, rfl⟩
  have hb : Below w.heap.size w W := by rw [hW]; exact (Below.refl _ _).alloc (Nat.le_refl _) _
  have k0 : W.heap[w.heap.size]? = some (.cells #[.slice A us.length c, .int .i64 x] 24 (0, 0)) := by rw [hW]; exact heap_alloc_new w _
  obtain ⟨y0, y1⟩ := cells2 k0
  have hcall := ways_any A us.length c x us rfl (by omega) hO 13 (fun _ => False) x [] [] (.slice none 0 0) (.slice none 0 0) W (fun _ h => h.elim) (IntR_nil _ _) (IntR_nil _ _) ((hN.on hb).up fun b hb' => Nat.lt_of_lt_of_le hb' hb.size) hr (by omega) (by simp)
  rw [hW] at y0 y1
  have HB := Lib.hid hb
  generalize us.length = n at *
  clear hf hN hG hr hs hO hb k0
  go_enter Try.func22, Try.ntmps22
  go_wp2_with fail
  rw [← hW]
  clear hW y0 y1
  refine hcall.mono ?_
  rintro e w' ⟨v', rfl, hO, _, hb'⟩
  have HZ := Lib.hid (And.intro hO (HB.out.trans (hb'.mono HB.out.size)))
  clear hO hb'
  go_wp2
  go_ret
  exact ⟨_, rfl, HZ.out.1, HZ.out.2⟩
end Go.Proofs.Ytplmbmecjhmiiaa
