/- What slices.Clone returns at labels and keys: the same elements in memory of the call's own. -/
import Derived.Test.YtpgnkfobgjplmaaGreatVb18
import Derived.Test.YtpgnkfobgjplmaaGreatShelf
import Derived.WalkLawsBesides
namespace Go.Proofs.YtpgnkfobgjplmaaGreat
open Go Go.RowKit
theorem flat_sub {α β : Type} {enc : α → List β} {c : Nat} (hc : ∀ x, (enc x).length = c) : ∀ {l : List α} {j : Nat} {x : α}, l[j]? = some x → ((l.flatMap enc).drop (j * c)).take c = enc x
  | [], j, x, h => by simp at h
  | a :: s, 0, x, h => by
    simp only [List.getElem?_cons_zero, Option.some.injEq] at h
    subst h
    simp [List.flatMap_cons, hc]
  | a :: s, j + 1, x, h => by
    simp only [List.getElem?_cons_succ] at h
    rw [List.flatMap_cons, List.drop_append, List.drop_eq_nil_of_le (by rw [hc, Nat.add_mul]; omega), hc, show (j + 1) * c - c = j * c by rw [Nat.add_mul]; omega, List.nil_append, flat_sub hc h]
theorem flat_at {α β : Type} {enc : α → List β} {c : Nat} (hc : ∀ x, (enc x).length = c) {l : List α} {q : Nat} {u : β} (h0 : 0 < c) (h : (l.flatMap enc)[q]? = some u) : ∃ x, l[q / c]? = some x ∧ (enc x)[q % c]? = some u := by
  have hlen : (l.flatMap enc).length = l.length * c := by
    clear h
    induction l with
    | nil => simp
    | cons a s ih => rw [List.flatMap_cons, List.length_append, ih, hc, List.length_cons, Nat.add_mul]; omega
  have hq : q < l.length * c := by
    have := (List.getElem?_eq_some_iff.1 h).1
    omega
  have hd : q / c < l.length := Nat.div_lt_of_lt_mul (by rwa [Nat.mul_comm])
  refine ⟨l[q / c], List.getElem?_eq_getElem hd, ?_⟩
  have e := flat_sub hc (List.getElem?_eq_getElem hd)
  rw [← e, List.getElem?_take_of_lt (Nat.mod_lt _ h0), List.getElem?_drop, show q / c * c + q % c = q by rw [Nat.mul_comm]; exact Nat.div_add_mod q c]
  exact h
theorem row_cells {α : Type} {w : World} {B : Nat → Prop} {c : Nat} {A : Option Addr} {cap : Nat} {l : List α} {enc : α → List Value} {R : Nat → List Value → Prop} (h0 : 0 < c) (hc : ∀ x, (enc x).length = c) (h : RowB w B c (.slice A l.length cap) l.length R) (hR : ∀ j cs, R j cs → ∃ x, l[j]? = some x ∧ cs = enc x) (hpos : 0 < l.length) :
    ∃ b off, A = some ⟨b, off, none⟩ ∧ ∀ q u, (l.flatMap enc)[q]? = some u → w.cell? ⟨b, off + q, none⟩ = some u := by
  obtain ⟨A', cap', h1, _, h3⟩ := h
  obtain ⟨b, off, rfl, _, _, h7⟩ := h3 hpos
  injection h1 with hA _ _
  refine ⟨b, off, hA, fun q u hq => ?_⟩
  obtain ⟨x, hx, hu⟩ := flat_at hc h0 hq
  obtain ⟨cs, h8, h9, h10⟩ := h7 (q / c) (List.getElem?_eq_some_iff.1 hx).1
  obtain ⟨y, hy, rfl⟩ := hR _ _ h10
  rw [hx] at hy
  injection hy with hy
  subst hy
  have := h9 (q % c) (Nat.mod_lt _ h0)
  rw [hu, Nat.add_assoc, show q / c * c + q % c = q by rw [Nat.mul_comm]; exact Nat.div_add_mod q c] at this
  exact this
def encS (x : List UInt8) : List Value := [.string ⟨x.toArray⟩]
def encY (x : Int × List UInt8) : List Value := [.int .i64 x.1, .string ⟨x.2.toArray⟩]
theorem infoS : (Tryz.prog.info? 9).map (fun i => (i.zero, i.size, i.bytes)) = some (some (.string ⟨#[]⟩), 1, 16) := by kernel_rfl
theorem infoY : (Tryz.prog.info? 74).map (fun i => (i.zero, i.size, i.bytes)) = some (some (.agg #[.int .i64 0, .string ⟨#[]⟩]), 2, 24) := by kernel_rfl
set_option maxHeartbeats 800000 in
theorem cloneS_zero (a : Addr) (c : Nat) (w : World) :
    Calls Tryz.prog 86 #[.slice (some a) 0 c] w fun e w' => ∃ v', e = .returned v' ∧ w'.ownsRow w.heap.size 9 1 v' 0 [] ∧ Below w.heap.size w w' := by
  obtain ⟨i0, hi, hz0, hz1, hz2⟩ := info_parts infoS
  have q22 : ∀ (w : World) (a : Option Addr) (n c n' c' : Nat), (binOp .eql 25 (.slice a n c) (.slice none n' c')).run Tryz.prog w = .ok (.bool a.isNone) w := fun w a n c n' c' => Lib.run_eql_slice_nil w _ _ a n c n' c' Tryz.underlying25
  go_enter Tryz.func86, Tryz.ntmps86
  go_wp2_with (at_builtin; refine wpList_append_own _ rfl _ _ 25 rfl w.heap.size 9 i0 (.string { data := #[] }) 1 16 Tryz.underlying25 hi hz0 hz1 hz2 rfl (by decide) _ _ _ rfl (World.ownsRow_made w #[] 0 (Nat.le_refl _) (Nat.zero_le _) rfl) a 0 c [] rfl rfl (by intro j u hj; simp at hj) (by intro u hu; cases hu) (by unfold maxLen; omega) (by omega) (by simp) ?_)
  intro v' w1 hown hgrow hnil
  go_wp2
  go_ret
  refine ⟨v', rfl, by simpa using hown, ?_⟩
  exact ((Below.refl _ w).alloc (Nat.le_refl _) _).grown hgrow (by simp) (by intro k hk; simp [Value.ownBlock] at hk; omega)
theorem cloneS_any (A : Option Addr) (cap : Nat) (l : List (List UInt8)) (w : World) (hl : RowP w w.heap.size 1 (.slice A l.length cap) l.length (fun j cs => ∃ x, l[j]? = some x ∧ cs = [.string ⟨x.toArray⟩] ∧ x.length ≤ maxLen)) (hn : l.length ≤ 1048576) :
    Calls Tryz.prog 86 #[.slice A l.length cap] w fun e w' => ∃ u, e = .returned u ∧ RowB w' (Btw w.heap.size w'.heap.size) 1 u l.length (fun j cs => ∃ x, l[j]? = some x ∧ cs = [.string ⟨x.toArray⟩] ∧ x.length ≤ maxLen) ∧ Below w.heap.size w w' := by
  rcases Nat.eq_zero_or_pos l.length with h0 | h0
  · have hr : l = [] := List.eq_nil_of_length_eq_zero h0
    subst hr
    rcases A with _ | a
    · have := AnyE.slices_Clone_nil Tryz.laysSlE041_f86 0 cap w
      change Calls Tryz.prog 86 _ _ _ at this
      refine this.mono ?_
      rintro e w' ⟨he, rfl⟩
      exact ⟨_, he, ⟨none, 0, rfl, ⟨Nat.zero_le _, Nat.le_refl _⟩, fun h => absurd h (by simp)⟩, Below.refl _ _⟩
    · refine (cloneS_zero a cap w).mono ?_
      rintro e w' ⟨v, he, hv, hb⟩
      exact ⟨v, he, row_of_owns hv (Nat.zero_le _) (fun g _ h h' => ⟨h, h'⟩) (fun j hj => absurd hj (by simp)) (by omega), hb⟩
  · have hlen : ∀ x, (encS x).length = 1 := fun _ => rfl
    obtain ⟨b, off, rfl, hcell⟩ := row_cells (enc := encS) (by omega) hlen hl (by rintro j cs ⟨x, hx, hcs, _⟩; exact ⟨x, hx, hcs⟩) h0
    obtain ⟨i0, hi, hz0, hz1, hz2⟩ := info_parts infoS
    have hfl : (l.flatMap encS).length = l.length * 1 := by
      clear hl hcell h0 hn
      induction l with
      | nil => rfl
      | cons a s ih => rw [List.flatMap_cons, List.length_append, ih, hlen, List.length_cons, Nat.add_mul]; omega
    have := AnyE.slices_Clone Tryz.laysSlE041_f86 i0 _ 1 16 hi hz0 hz1 hz2 rfl (by decide) (fun w => by kernel_rfl) b off l.length cap (l.flatMap encS) w hfl (by unfold maxLen; omega) (by omega) hcell (by intro u hu; obtain ⟨x, _, hx⟩ := List.mem_flatMap.1 hu; simp only [encS, List.mem_cons, List.not_mem_nil, or_false] at hx; (try rcases hx with rfl | rfl) <;> (try subst hx) <;> rfl)
    change Calls Tryz.prog 86 _ _ _ at this
    refine this.mono ?_
    rintro e w' ⟨v, he, hv, _, hb⟩
    refine ⟨v, he, row_of_owns hv (by unfold maxLen; omega) (fun g _ h h' => ⟨h, h'⟩) (fun j hj => ?_) (by omega), hb⟩
    have hx := List.getElem?_eq_getElem hj
    refine ⟨l[j], hx, ?_⟩
    rw [flat_sub hlen hx]
    obtain ⟨A', cap', h1, _, h3⟩ := hl
    obtain ⟨b', off', _, _, _, h7⟩ := h3 h0
    obtain ⟨cs, h8, h9, y, hy, hy2⟩ := h7 j hj
    rw [hx] at hy
    injection hy with hy
    subst hy
    exact ⟨rfl, hy2.2⟩
set_option maxHeartbeats 800000 in
theorem cloneY_zero (a : Addr) (c : Nat) (w : World) :
    Calls Tryz.prog 76 #[.slice (some a) 0 c] w fun e w' => ∃ v', e = .returned v' ∧ w'.ownsRow w.heap.size 74 2 v' 0 [] ∧ Below w.heap.size w w' := by
  obtain ⟨i0, hi, hz0, hz1, hz2⟩ := info_parts infoY
  have q22 : ∀ (w : World) (a : Option Addr) (n c n' c' : Nat), (binOp .eql 23 (.slice a n c) (.slice none n' c')).run Tryz.prog w = .ok (.bool a.isNone) w := fun w a n c n' c' => Lib.run_eql_slice_nil w _ _ a n c n' c' Tryz.underlying23
  go_enter Tryz.func76, Tryz.ntmps76
  go_wp2_with (at_builtin; refine wpList_append_own _ rfl _ _ 23 rfl w.heap.size 74 i0 (.agg #[.int .i64 0, .string { data := #[] }]) 2 24 Tryz.underlying23 hi hz0 hz1 hz2 rfl (by decide) _ _ _ rfl (World.ownsRow_made w #[] 0 (Nat.le_refl _) (Nat.zero_le _) rfl) a 0 c [] rfl rfl (by intro j u hj; simp at hj) (by intro u hu; cases hu) (by unfold maxLen; omega) (by omega) (by simp) ?_)
  intro v' w1 hown hgrow hnil
  go_wp2
  go_ret
  refine ⟨v', rfl, by simpa using hown, ?_⟩
  exact ((Below.refl _ w).alloc (Nat.le_refl _) _).grown hgrow (by simp) (by intro k hk; simp [Value.ownBlock] at hk; omega)
theorem cloneY_any (A : Option Addr) (cap : Nat) (l : List (Int × List UInt8)) (w : World) (hl : RowP w w.heap.size 2 (.slice A l.length cap) l.length (fun j cs => ∃ x, l[j]? = some x ∧ cs = [.int .i64 x.1, .string ⟨x.2.toArray⟩] ∧ (Lit.int .i64 x.1).wf = true ∧ x.2.length ≤ maxLen)) (hn : l.length ≤ 1048576) :
    Calls Tryz.prog 76 #[.slice A l.length cap] w fun e w' => ∃ u, e = .returned u ∧ RowB w' (Btw w.heap.size w'.heap.size) 2 u l.length (fun j cs => ∃ x, l[j]? = some x ∧ cs = [.int .i64 x.1, .string ⟨x.2.toArray⟩] ∧ (Lit.int .i64 x.1).wf = true ∧ x.2.length ≤ maxLen) ∧ Below w.heap.size w w' := by
  rcases Nat.eq_zero_or_pos l.length with h0 | h0
  · have hr : l = [] := List.eq_nil_of_length_eq_zero h0
    subst hr
    rcases A with _ | a
    · have := AnyE.slices_Clone_nil Tryz.laysSlE041_keys 0 cap w
      change Calls Tryz.prog 76 _ _ _ at this
      refine this.mono ?_
      rintro e w' ⟨he, rfl⟩
      exact ⟨_, he, ⟨none, 0, rfl, ⟨Nat.zero_le _, Nat.le_refl _⟩, fun h => absurd h (by simp)⟩, Below.refl _ _⟩
    · refine (cloneY_zero a cap w).mono ?_
      rintro e w' ⟨v, he, hv, hb⟩
      exact ⟨v, he, row_of_owns hv (Nat.zero_le _) (fun g _ h h' => ⟨h, h'⟩) (fun j hj => absurd hj (by simp)) (by omega), hb⟩
  · have hlen : ∀ x, (encY x).length = 2 := fun _ => rfl
    obtain ⟨b, off, rfl, hcell⟩ := row_cells (enc := encY) (by omega) hlen hl (by rintro j cs ⟨x, hx, hcs, _⟩; exact ⟨x, hx, hcs⟩) h0
    obtain ⟨i0, hi, hz0, hz1, hz2⟩ := info_parts infoY
    have hfl : (l.flatMap encY).length = l.length * 2 := by
      clear hl hcell h0 hn
      induction l with
      | nil => rfl
      | cons a s ih => rw [List.flatMap_cons, List.length_append, ih, hlen, List.length_cons, Nat.add_mul]; omega
    have := AnyE.slices_Clone Tryz.laysSlE041_keys i0 _ 2 24 hi hz0 hz1 hz2 rfl (by decide) (fun w => by kernel_rfl) b off l.length cap (l.flatMap encY) w hfl (by unfold maxLen; omega) (by omega) hcell (by intro u hu; obtain ⟨x, _, hx⟩ := List.mem_flatMap.1 hu; simp only [encY, List.mem_cons, List.not_mem_nil, or_false] at hx; (try rcases hx with rfl | rfl) <;> (try subst hx) <;> rfl)
    change Calls Tryz.prog 76 _ _ _ at this
    refine this.mono ?_
    rintro e w' ⟨v, he, hv, _, hb⟩
    refine ⟨v, he, row_of_owns hv (by unfold maxLen; omega) (fun g _ h h' => ⟨h, h'⟩) (fun j hj => ?_) (by omega), hb⟩
    have hx := List.getElem?_eq_getElem hj
    refine ⟨l[j], hx, ?_⟩
    rw [flat_sub hlen hx]
    obtain ⟨A', cap', h1, _, h3⟩ := hl
    obtain ⟨b', off', _, _, _, h7⟩ := h3 h0
    obtain ⟨cs, h8, h9, y, hy, hy2⟩ := h7 j hj
    rw [hx] at hy
    injection hy with hy
    subst hy
    exact ⟨rfl, hy2.2⟩
end Go.Proofs.YtpgnkfobgjplmaaGreat
