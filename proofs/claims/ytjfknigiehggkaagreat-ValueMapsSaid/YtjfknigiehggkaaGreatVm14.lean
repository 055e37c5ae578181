/- What slices.Clone returns at labels and keys: the same elements in memory of the call's own. -/
import Derived.Test.YtjfknigiehggkaaGreatVm00
import Derived.Test.YtjfknigiehggkaaGreatVm01
import Derived.Test.YtjfknigiehggkaaGreatVm03
import Derived.Test.YtjfknigiehggkaaGreatVm13
import Derived.Test.YtjfknigiehggkaaGreatShelf
import Derived.WalkLawsBesides
import Derived.Sort.Grow
import Derived.Test.YtjfknigiehggkaaGreatShelfB
import Derived.Shelf.SlSortCmp.NoneTotal
namespace Go.Proofs.YtjfknigiehggkaaGreat
open Go Go.RowKit
theorem flat_sub {α β : Type} {enc : α → List β} {c : Nat} (hc : ∀ x, (enc x).length = c) : ∀ {l : List α} {j : Nat} {x : α}, l[j]? = some x → ((l.flatMap enc).drop (j * c)).take c = enc x
  | [], j, x, h => by simp at h
  | a :: s, 0, x, h => by
    simp only [List.getElem?_cons_zero, Option.some.injEq] at h
    subst h
    simp [List.flatMap_cons, hc]
  | a :: s, j + 1, x, h => by
    simp only [List.getElem?_cons_succ] at h
    rw [List.flatMap_cons, List.drop_append, List.drop_eq_nil_of_le (by rw [hc, Nat.add_mul]; omega), hc, show (j + 1) * c - c = j * c by rw [Nat.add_mul]; omega, List.nil_append, flat_sub hc h]
theorem flat_at {α β : Type} {enc : α → List β} {c : Nat} (hc : ∀ x, (enc x).length = c) {l : List α} {q : Nat} {u : β} (h0 : 0 < c) (h : (l.flatMap enc)[q]? = some u) : ∃ x, l[q / c]? = some x ∧ (enc x)[q % c]? = some u := by
  have hlen : (l.flatMap enc).length = l.length * c := by
    clear h
    induction l with
    | nil => simp
    | cons a s ih => rw [List.flatMap_cons, List.length_append, ih, hc, List.length_cons, Nat.add_mul]; omega
  have hq : q < l.length * c := by
    have := (List.getElem?_eq_some_iff.1 h).1
    omega
  have hd : q / c < l.length := Nat.div_lt_of_lt_mul (by rwa [Nat.mul_comm])
  refine ⟨l[q / c], List.getElem?_eq_getElem hd, ?_⟩
  have e := flat_sub hc (List.getElem?_eq_getElem hd)
  rw [← e, List.getElem?_take_of_lt (Nat.mod_lt _ h0), List.getElem?_drop, show q / c * c + q % c = q by rw [Nat.mul_comm]; exact Nat.div_add_mod q c]
  exact h
theorem row_cells {α : Type} {w : World} {B : Nat → Prop} {c : Nat} {A : Option Addr} {cap : Nat} {l : List α} {enc : α → List Value} {R : Nat → List Value → Prop} (h0 : 0 < c) (hc : ∀ x, (enc x).length = c) (h : RowB w B c (.slice A l.length cap) l.length R) (hR : ∀ j cs, R j cs → ∃ x, l[j]? = some x ∧ cs = enc x) (hpos : 0 < l.length) :
    ∃ b off, A = some ⟨b, off, none⟩ ∧ ∀ q u, (l.flatMap enc)[q]? = some u → w.cell? ⟨b, off + q, none⟩ = some u := by
  obtain ⟨A', cap', h1, _, h3⟩ := h
  obtain ⟨b, off, rfl, _, _, h7⟩ := h3 hpos
  injection h1 with hA _ _
  refine ⟨b, off, hA, fun q u hq => ?_⟩
  obtain ⟨x, hx, hu⟩ := flat_at hc h0 hq
  obtain ⟨cs, h8, h9, h10⟩ := h7 (q / c) (List.getElem?_eq_some_iff.1 hx).1
  obtain ⟨y, hy, rfl⟩ := hR _ _ h10
  rw [hx] at hy
  injection hy with hy
  subst hy
  have := h9 (q % c) (Nat.mod_lt _ h0)
  rw [hu, Nat.add_assoc, show q / c * c + q % c = q by rw [Nat.mul_comm]; exact Nat.div_add_mod q c] at this
  exact this
def encS (x : List UInt8) : List Value := [.string ⟨x.toArray⟩]
def encY (x : Int × List UInt8) : List Value := [.int .i64 x.1, .string ⟨x.2.toArray⟩]
theorem infoS : (Tryz.prog.info? 9).map (fun i => (i.zero, i.size, i.bytes)) = some (some (.string ⟨#[]⟩), 1, 16) := by kernel_rfl
theorem infoY : (Tryz.prog.info? 74).map (fun i => (i.zero, i.size, i.bytes)) = some (some (.agg #[.int .i64 0, .string ⟨#[]⟩]), 2, 24) := by kernel_rfl
set_option maxHeartbeats 800000 in
theorem cloneS_zero (a : Addr) (c : Nat) (w : World) :
    Calls Tryz.prog 86 #[.slice (some a) 0 c] w fun e w' => ∃ v', e = .returned v' ∧ w'.ownsRow w.heap.size 9 1 v' 0 [] ∧ Below w.heap.size w w' := by
  obtain ⟨i0, hi, hz0, hz1, hz2⟩ := info_parts infoS
  have q22 : ∀ (w : World) (a : Option Addr) (n c n' c' : Nat), (binOp .eql 25 (.slice a n c) (.slice none n' c')).run Tryz.prog w = .ok (.bool a.isNone) w := fun w a n c n' c' => Lib.run_eql_slice_nil w _ _ a n c n' c' Tryz.underlying25
  go_enter Tryz.func86, Tryz.ntmps86
  go_wp2_with (at_builtin; refine wpList_append_own _ rfl _ _ 25 rfl w.heap.size 9 i0 (.string { data := #[] }) 1 16 Tryz.underlying25 hi hz0 hz1 hz2 rfl (by decide) _ _ _ rfl (World.ownsRow_made w #[] 0 (Nat.le_refl _) (Nat.zero_le _) rfl) a 0 c [] rfl rfl (by intro j u hj; simp at hj) (by intro u hu; cases hu) (by unfold maxLen; omega) (by omega) (by simp) ?_)
  intro v' w1 hown hgrow hnil
  go_wp2
  go_ret
  refine ⟨v', rfl, by simpa using hown, ?_⟩
  exact ((Below.refl _ w).alloc (Nat.le_refl _) _).grown hgrow (by simp) (by intro k hk; simp [Value.ownBlock] at hk; omega)
theorem cloneS_any (A : Option Addr) (cap : Nat) (l : List (List UInt8)) (w : World) (hl : RowP w w.heap.size 1 (.slice A l.length cap) l.length (fun j cs => ∃ x, l[j]? = some x ∧ cs = [.string ⟨x.toArray⟩] ∧ x.length ≤ maxLen)) (hn : l.length ≤ 1048576) :
    Calls Tryz.prog 86 #[.slice A l.length cap] w fun e w' => ∃ u, e = .returned u ∧ RowB w' (Btw w.heap.size w'.heap.size) 1 u l.length (fun j cs => ∃ x, l[j]? = some x ∧ cs = [.string ⟨x.toArray⟩] ∧ x.length ≤ maxLen) ∧ Below w.heap.size w w' := by
  rcases Nat.eq_zero_or_pos l.length with h0 | h0
  · have hr : l = [] := List.eq_nil_of_length_eq_zero h0
    subst hr
    rcases A with _ | a
    · have := AnyE.slices_Clone_nil Tryz.laysSlE041_f86 0 cap w
      change Calls Tryz.prog 86 _ _ _ at this
      refine this.mono ?_
      rintro e w' ⟨he, rfl⟩
      exact ⟨_, he, ⟨none, 0, rfl, ⟨Nat.zero_le _, Nat.le_refl _⟩, fun h => absurd h (by simp)⟩, Below.refl _ _⟩
    · refine (cloneS_zero a cap w).mono ?_
      rintro e w' ⟨v, he, hv, hb⟩
      exact ⟨v, he, row_of_owns hv (Nat.zero_le _) (fun g _ h h' => ⟨h, h'⟩) (fun j hj => absurd hj (by simp)) (by omega), hb⟩
  · have hlen : ∀ x, (encS x).length = 1 := fun _ => rfl
    obtain ⟨b, off, rfl, hcell⟩ := row_cells (enc := encS) (by omega) hlen hl (by rintro j cs ⟨x, hx, hcs, _⟩; exact ⟨x, hx, hcs⟩) h0
    obtain ⟨i0, hi, hz0, hz1, hz2⟩ := info_parts infoS
    have hfl : (l.flatMap encS).length = l.length * 1 := by
      clear hl hcell h0 hn
      induction l with
      | nil => rfl
      | cons a s ih => rw [List.flatMap_cons, List.length_append, ih, hlen, List.length_cons, Nat.add_mul]; omega
    have := AnyE.slices_Clone Tryz.laysSlE041_f86 i0 _ 1 16 hi hz0 hz1 hz2 rfl (by decide) (fun w => by kernel_rfl) b off l.length cap (l.flatMap encS) w hfl (by unfold maxLen; omega) (by omega) hcell (by intro u hu; obtain ⟨x, _, hx⟩ := List.mem_flatMap.1 hu; simp only [encS, List.mem_cons, List.not_mem_nil, or_false] at hx; (try rcases hx with rfl | rfl) <;> (try subst hx) <;> rfl)
    change Calls Tryz.prog 86 _ _ _ at this
    refine this.mono ?_
    rintro e w' ⟨v, he, hv, _, hb⟩
    refine ⟨v, he, row_of_owns hv (by unfold maxLen; omega) (fun g _ h h' => ⟨h, h'⟩) (fun j hj => ?_) (by omega), hb⟩
    have hx := List.getElem?_eq_getElem hj
    refine ⟨l[j], hx, ?_⟩
    rw [flat_sub hlen hx]
    obtain ⟨A', cap', h1, _, h3⟩ := hl
    obtain ⟨b', off', _, _, _, h7⟩ := h3 h0
    obtain ⟨cs, h8, h9, y, hy, hy2⟩ := h7 j hj
    rw [hx] at hy
    injection hy with hy
    subst hy
    exact ⟨rfl, hy2.2⟩
set_option maxHeartbeats 800000 in
theorem cloneY_zero (a : Addr) (c : Nat) (w : World) :
    Calls Tryz.prog 76 #[.slice (some a) 0 c] w fun e w' => ∃ v', e = .returned v' ∧ w'.ownsRow w.heap.size 74 2 v' 0 [] ∧ Below w.heap.size w w' := by
  obtain ⟨i0, hi, hz0, hz1, hz2⟩ := info_parts infoY
  have q22 : ∀ (w : World) (a : Option Addr) (n c n' c' : Nat), (binOp .eql 23 (.slice a n c) (.slice none n' c')).run Tryz.prog w = .ok (.bool a.isNone) w := fun w a n c n' c' => Lib.run_eql_slice_nil w _ _ a n c n' c' Tryz.underlying23
  go_enter Tryz.func76, Tryz.ntmps76
  go_wp2_with (at_builtin; refine wpList_append_own _ rfl _ _ 23 rfl w.heap.size 74 i0 (.agg #[.int .i64 0, .string { data := #[] }]) 2 24 Tryz.underlying23 hi hz0 hz1 hz2 rfl (by decide) _ _ _ rfl (World.ownsRow_made w #[] 0 (Nat.le_refl _) (Nat.zero_le _) rfl) a 0 c [] rfl rfl (by intro j u hj; simp at hj) (by intro u hu; cases hu) (by unfold maxLen; omega) (by omega) (by simp) ?_)
  intro v' w1 hown hgrow hnil
  go_wp2
  go_ret
  refine ⟨v', rfl, by simpa using hown, ?_⟩
  exact ((Below.refl _ w).alloc (Nat.le_refl _) _).grown hgrow (by simp) (by intro k hk; simp [Value.ownBlock] at hk; omega)
theorem cloneY_any (A : Option Addr) (cap : Nat) (l : List (Int × List UInt8)) (w : World) (hl : RowP w w.heap.size 2 (.slice A l.length cap) l.length (fun j cs => ∃ x, l[j]? = some x ∧ cs = [.int .i64 x.1, .string ⟨x.2.toArray⟩] ∧ (Lit.int .i64 x.1).wf = true ∧ x.2.length ≤ maxLen)) (hn : l.length ≤ 1048576) :
    Calls Tryz.prog 76 #[.slice A l.length cap] w fun e w' => ∃ u, e = .returned u ∧ RowB w' (Btw w.heap.size w'.heap.size) 2 u l.length (fun j cs => ∃ x, l[j]? = some x ∧ cs = [.int .i64 x.1, .string ⟨x.2.toArray⟩] ∧ (Lit.int .i64 x.1).wf = true ∧ x.2.length ≤ maxLen) ∧ Below w.heap.size w w' := by
  rcases Nat.eq_zero_or_pos l.length with h0 | h0
  · have hr : l = [] := List.eq_nil_of_length_eq_zero h0
    subst hr
    rcases A with _ | a
    · have := AnyE.slices_Clone_nil Tryz.laysSlE041_keys 0 cap w
      change Calls Tryz.prog 76 _ _ _ at this
      refine this.mono ?_
      rintro e w' ⟨he, rfl⟩
      exact ⟨_, he, ⟨none, 0, rfl, ⟨Nat.zero_le _, Nat.le_refl _⟩, fun h => absurd h (by simp)⟩, Below.refl _ _⟩
    · refine (cloneY_zero a cap w).mono ?_
      rintro e w' ⟨v, he, hv, hb⟩
      exact ⟨v, he, row_of_owns hv (Nat.zero_le _) (fun g _ h h' => ⟨h, h'⟩) (fun j hj => absurd hj (by simp)) (by omega), hb⟩
  · have hlen : ∀ x, (encY x).length = 2 := fun _ => rfl
    obtain ⟨b, off, rfl, hcell⟩ := row_cells (enc := encY) (by omega) hlen hl (by rintro j cs ⟨x, hx, hcs, _⟩; exact ⟨x, hx, hcs⟩) h0
    obtain ⟨i0, hi, hz0, hz1, hz2⟩ := info_parts infoY
    have hfl : (l.flatMap encY).length = l.length * 2 := by
      clear hl hcell h0 hn
      induction l with
      | nil => rfl
      | cons a s ih => rw [List.flatMap_cons, List.length_append, ih, hlen, List.length_cons, Nat.add_mul]; omega
    have := AnyE.slices_Clone Tryz.laysSlE041_keys i0 _ 2 24 hi hz0 hz1 hz2 rfl (by decide) (fun w => by kernel_rfl) b off l.length cap (l.flatMap encY) w hfl (by unfold maxLen; omega) (by omega) hcell (by intro u hu; obtain ⟨x, _, hx⟩ := List.mem_flatMap.1 hu; simp only [encY, List.mem_cons, List.not_mem_nil, or_false] at hx; (try rcases hx with rfl | rfl) <;> (try subst hx) <;> rfl)
    change Calls Tryz.prog 76 _ _ _ at this
    refine this.mono ?_
    rintro e w' ⟨v, he, hv, _, hb⟩
    refine ⟨v, he, row_of_owns hv (by unfold maxLen; omega) (fun g _ h h' => ⟨h, h'⟩) (fun j hj => ?_) (by omega), hb⟩
    have hx := List.getElem?_eq_getElem hj
    refine ⟨l[j], hx, ?_⟩
    rw [flat_sub hlen hx]
    obtain ⟨A', cap', h1, _, h3⟩ := hl
    obtain ⟨b', off', _, _, _, h7⟩ := h3 h0
    obtain ⟨cs, h8, h9, y, hy, hy2⟩ := h7 j hj
    rw [hx] at hy
    injection hy with hy
    subst hy
    exact ⟨rfl, hy2.2⟩
end Go.Proofs.YtjfknigiehggkaaGreat
namespace Go.Proofs.YtjfknigiehggkaaGreat
open Go Go.RowKit Go.Sort
theorem below_grow (w : World) (q : Nat) (os : Array Obj) : Below w.heap.size w (grow (w.drewN q) os) :=
  ⟨rfl, rfl, rfl, by simp [grow, World.drewN], fun k hk => by simp [grow, World.drewN, Array.getElem?_append_left hk]⟩
set_option maxHeartbeats 400000 in
theorem cmpKeysX (x y : Int × List UInt8) (w : World) :
    Calls Tryz.prog 58 #[.agg #[.int .i64 x.1, .string ⟨x.2.toArray⟩], .agg #[.int .i64 y.1, .string ⟨y.2.toArray⟩]] w fun e w' => e = .returned (.int .i64 (cmpK x y)) ∧ ∃ q os, w' = grow (w.drewN q) os := by
  obtain ⟨k1, s1⟩ := x
  obtain ⟨k2, s2⟩ := y
  by_cases h : k1 = k2
  · subst h
    have hc : cmpI k1 k1 = 0 := cmpI_zero.2 rfl
    have HT : Hid (cmpK (k1, s1) (k1, s2) = cmpT s1 s2) := Lib.hid (by simp only [cmpK, hc]; rfl)
    go_enter Tryz.func58, Tryz.ntmps58
    go_wp2_with (first | (go_at_call 95; refine (cmpInt_any _ _ _).mono ?_; rintro e w' ⟨rfl, rfl⟩) | (go_at_call 96; refine (strCmp_any _ _ _).mono ?_; rintro e w' ⟨rfl, rfl⟩))
    go_ret
    exact ⟨ret_i HT.out.symm, 0, _, by rw [alloc_eq_grow, alloc_eq_grow, grow_grow]; rfl⟩
  · have hz : cmpI k1 k2 ≠ 0 := fun h0 => h (cmpI_zero.1 h0)
    have hc : (cmpI k1 k2 != 0) = true := by rw [bne_iff_ne]; exact hz
    have HT : Hid (cmpK (k1, s1) (k2, s2) = cmpI k1 k2) := Lib.hid (by simp only [cmpK, thn_of hz])
    clear hz
    go_enter Tryz.func58, Tryz.ntmps58
    go_wp2_with (first | (go_at_call 95; refine (cmpInt_any _ _ _).mono ?_; rintro e w' ⟨rfl, rfl⟩) | (go_at_call 96; refine (strCmp_any _ _ _).mono ?_; rintro e w' ⟨rfl, rfl⟩))
    go_ret
    exact ⟨ret_i HT.out.symm, 0, _, by rw [alloc_eq_grow, alloc_eq_grow, grow_grow]; rfl⟩
set_option maxRecDepth 100000 in
set_option maxHeartbeats 1600000 in
theorem placeCmp (kb : Nat) (A : Option Addr) (n c : Nat) (keys : List (Int × List UInt8)) (hn : keys.length = n) (i j : Nat) (x y : Int × List UInt8) (hx : keys[i]? = some x) (hy : keys[j]? = some y) (w : World)
    (hk : w.cell? ⟨kb, 0, none⟩ = some (.slice A n c)) (hkb : kb < w.heap.size) (hK : RowP w w.heap.size 2 (.slice A n c) n (fun j cs => ∃ x, keys[j]? = some x ∧ cs = [.int .i64 x.1, .string ⟨x.2.toArray⟩] ∧ (Lit.int .i64 x.1).wf = true ∧ x.2.length ≤ maxLen)) :
    Calls Tryz.prog 94 #[.int .i64 i, .int .i64 j, .pointer (some ⟨kb, 0, none⟩)] w fun e w' => e = .returned (.int .i64 (cmpK x y)) ∧ ∃ q os, w' = grow (w.drewN q) os := by
  have hi := (List.getElem?_eq_some_iff.1 hx).1
  have hj := (List.getElem?_eq_some_iff.1 hy).1
  obtain ⟨b, off, cap0, x0, x1, hu, hb, ⟨x', hx', hxs, _, _⟩, c0, c1⟩ := RowB.at2 hK (j := i) (by omega)
  injection hu with hA _ hcc
  subst hA hcc
  obtain rfl : x = x' := by rw [hx] at hx'; injection hx' with h
  simp only [List.cons.injEq, and_true] at hxs
  obtain ⟨rfl, rfl⟩ := hxs
  obtain ⟨b', off', cap1, y0, y1, hu, _, ⟨y', hy', hys, _, _⟩, d0, d1⟩ := RowB.at2 hK (j := j) (by omega)
  injection hu with hA _ hcc
  injection hA with hA
  injection hA with g1 g2
  subst g1 g2
  obtain rfl : y = y' := by rw [hy] at hy'; injection hy' with h
  simp only [List.cons.injEq, and_true] at hys
  obtain ⟨rfl, rfl⟩ := hys
  have HS : Hid (∀ V, Below w.heap.size w V → V.cell? ⟨kb, 0, none⟩ = some (.slice (some ⟨b, off, none⟩) n c) ∧ V.cell? ⟨b, off + i * 2, none⟩ = some (.int .i64 x.1) ∧ V.cell? ⟨b, off + i * 2 + 1, none⟩ = some (.string ⟨x.2.toArray⟩) ∧ V.cell? ⟨b, off + j * 2, none⟩ = some (.int .i64 y.1) ∧ V.cell? ⟨b, off + j * 2 + 1, none⟩ = some (.string ⟨y.2.toArray⟩)) := Lib.hid fun V hV => ⟨(hV.cell (p := ⟨kb, 0, none⟩) hkb).trans hk, (hV.cell (p := ⟨b, _, none⟩) hb).trans c0, (hV.cell (p := ⟨b, _, none⟩) hb).trans c1, (hV.cell (p := ⟨b, _, none⟩) hb).trans d0, (hV.cell (p := ⟨b, _, none⟩) hb).trans d1⟩
  have ki : (i : Int) < (n : Int) := by omega
  have ki0 : (0 : Int) ≤ (i : Int) := by omega
  have kj : (j : Int) < (n : Int) := by omega
  have kj0 : (0 : Int) ≤ (j : Int) := by omega
  clear hk hK hx hy hx' hy' hi hj hn c0 c1 d0 d1 hkb hb hcc
  go_enter Tryz.func94, Tryz.ntmps94
  go_wp2_with fail
  refine wp_region_held_drew (S := fun V => V.cell? ⟨kb, 0, none⟩ = some (.slice (some ⟨b, off, none⟩) n c) ∧ V.cell? ⟨b, off + i * 2, none⟩ = some (.int .i64 x.1) ∧ V.cell? ⟨b, off + i * 2 + 1, none⟩ = some (.string ⟨x.2.toArray⟩) ∧ V.cell? ⟨b, off + j * 2, none⟩ = some (.int .i64 y.1) ∧ V.cell? ⟨b, off + j * 2 + 1, none⟩ = some (.string ⟨y.2.toArray⟩)) (by kernel_rfl) (HS.out _ (Below.refl _ _).drew) (fun hHeld => ?_)
  refine tk 0 hHeld ?_
  try simp only [Act.put, pA, pB, pC]
  refine tk 1 hHeld ?_
  try simp only [Act.put, pA, pB, pC]
  refine tk 2 hHeld ?_
  try simp only [Act.put, pA, pB, pC]
  refine tk 3 hHeld ?_
  try simp only [Act.put, pA, pB, pC]
  refine tk 4 hHeld ?_
  try simp only [Act.put, pA, pB, pC]
  refine tk 5 hHeld ?_
  try simp only [Act.put, pA, pB, pC]
  refine tk 6 hHeld ?_
  try simp only [Act.put, pA, pB, pC]
  refine tk 7 hHeld ?_
  try simp only [Act.put, pA, pB, pC]
  refine one_op 8 (by kernel_rfl) rfl (by rfl) (fun K hK => ?_)
  go_simp
  refine (cmpKeysX x y _).mono ?_
  rintro e w2 ⟨rfl, q, os, hw2⟩
  have hS2 := HS.out w2 (by rw [hw2]; exact (Below.refl _ _).drew.trans (show Below w.heap.size w.drew _ from below_grow w.drew q os))
  refine hK _ _ hS2 ?_
  try simp only [Act.put, pA, pB, pC]
  refine tk 9 hS2 ?_
  try simp only [Act.put, pA, pB, pC]
  refine wpAnyH_done (by kernel_rfl) ?_ _
  go_wp2
  go_ret
  exact ⟨rfl, 1 + q, os, by rw [hw2, World.drewN_drew]⟩
end Go.Proofs.YtjfknigiehggkaaGreat
namespace Go.Proofs.YtjfknigiehggkaaGreat
open Go Go.RowKit Go.Sort
theorem Tryz.infoInt : (Tryz.prog.info? 3).map (fun i => (i.zero, i.size, i.bytes)) = some (some (.int .i64 0), 1, 8) := by kernel_rfl
/-- the first j of the n integers that the row at block g owns are their own places -/
def PlI (g n j : Nat) (w : World) : Prop := ∃ xs, w.ownsRow g 3 1 (.slice (some ⟨g, 0, none⟩) n n) n xs ∧ g < w.heap.size ∧ ∀ q, q < j → xs[q]? = some (.int .i64 (q : Int))
theorem PlI.store {g n j : Nat} {w : World} (h : PlI g n j w) (hj : j < n) : PlI g n (j + 1) (w.setCell ⟨g, j, none⟩ (.int .i64 (j : Int))) := by
  obtain ⟨xs, h1, h2, h3⟩ := h
  refine ⟨_, (h1.stored j _).1, by simpa using h2, fun q hq => ?_⟩
  have hl := h1.1
  by_cases e : q = j
  · subst e
    rw [List.getElem?_set_self (by omega)]
  · rw [List.getElem?_set_ne (by omega)]
    exact h3 q (by omega)
theorem PlI.cell {g n j : Nat} {w : World} (h : PlI g n j w) {q : Nat} (hq : q < n) : ∃ u, w.cell? ⟨g, q, none⟩ = some u := by
  obtain ⟨xs, h1, h2, h3⟩ := h
  rw [h1.cellAt _ (by omega)]
  exact ⟨_, List.getElem?_eq_getElem (by rw [h1.1]; omega)⟩
theorem PlI.fz {g n j : Nat} {w : World} (h : PlI g n j w) (q : Nat) : w.frozen? ⟨g, q, none⟩ = false := by
  obtain ⟨xs, h1, h2, h3⟩ := h
  exact h1.frozenAt q
theorem PlI.at {g n : Nat} {w : World} (h : PlI g n n w) {q : Nat} (hq : q < n) : w.cell? ⟨g, q, none⟩ = some (.int .i64 (q : Int)) := by
  obtain ⟨xs, h1, h2, h3⟩ := h
  rw [h1.cellAt _ (by omega)]
  exact h3 q hq
theorem sortW_below {α : Type} [Inhabited α] (enc : α → Value) (V : World) (g m : Nat) (dk : Array α) (os : Array Obj) (H : Nat) (hH : H ≤ g) (hg : g < V.heap.size) : Below H V (sortWorld enc V g 0 m dk os) := by
  refine ⟨rfl, rfl, rfl, by simp [sortWorld, putRow, mapBlock, Sort.ahead, grow], fun k hk => ?_⟩
  unfold sortWorld
  rw [heap_grow_old _ _ (by simpa [putRow, mapBlock, Sort.ahead] using (show k < V.heap.size by omega))]
  have : g ≠ k := by omega
  simp [putRow, mapBlock, Sort.ahead, Array.getElem?_modify, this]
theorem swoKeys {α : Type} (f : α → Int × List UInt8) : SWO (ltOf fun p q => cmpK (f p) (f q)) where
  irrefl x := by have := (totK.zero (f x) (f x)).2 rfl; unfold ltOf; simp; omega
  trans x y z h1 h2 := by
    unfold ltOf at *
    simp only [decide_eq_true_eq] at *
    exact totK.trans _ _ _ h1 h2
  ntrans x y z h1 h2 := by
    unfold ltOf at *
    simp only [decide_eq_false_iff_not] at *
    intro h3
    have s1 := totK.swap (f x) (f y)
    have s2 := totK.swap (f y) (f z)
    by_cases e1 : cmpK (f x) (f y) = 0
    · have := (totK.zero _ _).1 e1
      rw [this] at h3
      exact h2 h3
    · have h4 : cmpK (f y) (f x) < 0 := by omega
      exact h2 (totK.trans _ _ _ h4 h3)
theorem sortNone (A : Option Addr) (c : Nat) (v : Value) (w : World) : Calls Tryz.prog 93 #[.slice A 0 c, v] w fun e w' => e = .returned (.tuple #[]) ∧ w' = w := by
  have h := AnyF.slices_SortFunc_none (P := Tryz.prog) (ρ := Tryz.sortI_ren) { Tryz.sortI with } A c v w
  exact h
set_option maxRecDepth 100000 in
set_option maxHeartbeats 3200000 in
theorem places_any (A : Option Addr) (n c : Nat) (keys : List (Int × List UInt8)) (hkn : keys.length = n) (w : World) (hK : RowP w w.heap.size 2 (.slice A n c) n (fun j cs => ∃ x, keys[j]? = some x ∧ cs = [.int .i64 x.1, .string ⟨x.2.toArray⟩] ∧ (Lit.int .i64 x.1).wf = true ∧ x.2.length ≤ maxLen)) (hn : n ≤ 100000) :
    Calls Tryz.prog 56 #[.slice A n c] w fun e w' => ∃ g : Nat, e = .returned (.slice (some ⟨g, 0, none⟩) n n) ∧ ∃ ps : List Nat, RowB w' (Btw w.heap.size w'.heap.size) 1 (.slice (some ⟨g, 0, none⟩) n n) n (fun j cs => ∃ p : Nat, ps[j]? = some p ∧ cs = [.int .i64 (p : Int)]) ∧
      ps.Perm (List.range n) ∧ ps.Pairwise (fun a b => ∀ x y, keys[a]? = some x → keys[b]? = some y → ¬ cmpK y x < 0) ∧ Below w.heap.size w w' := by
  obtain ⟨W0, hW0⟩ : ∃ W0, W0 = w.alloc (.cells #[.slice A n c] 23) := ⟨_, rfl⟩
  have hb0 : Below w.heap.size w W0 := by rw [hW0]; exact (Below.refl _ _).alloc (Nat.le_refl _) _
  have z0 : W0.heap.size = w.heap.size + 1 := by rw [hW0]; simp
  have c0 : W0.cell? ⟨w.heap.size, 0, none⟩ = some (.slice A n c) := by rw [hW0]; simp
  obtain ⟨i0, hi, hz0, hz1, hz2⟩ := info_parts Tryz.infoInt
  obtain ⟨W, hmk, hown, hgr⟩ := run_make_full (P := Tryz.prog) W0 W0.heap.size 28 3 i0 _ 1 Tryz.underlying28 hi hz0 hz1 .i64 .i64 n (by rw [hz2]; omega) (by unfold maxLen; omega) (Nat.le_refl _)
  have hbW : Below W0.heap.size W0 W := (Below.refl _ W0).grown hgr (Nat.le_refl _) (by intro k hk; cases hk)
  have hgW : W0.heap.size < W.heap.size := by
    obtain ⟨_, hc⟩ := hown
    rcases hc with ⟨h, _⟩ | ⟨g, cap, cur, h, _, hg, _⟩
    · simp at h
    · injection h with h1 _ _
      injection h1 with h1
      injection h1 with h1
      rw [h1]
      exact (Array.getElem?_eq_some_iff.1 hg).1
  have HI : Hid (PlI W0.heap.size n 0 W) := Lib.hid ⟨_, hown, hgW, fun q hq => absurd hq (by omega)⟩
  have HBW : Hid (Below w.heap.size w W) := Lib.hid (hb0.trans (hbW.mono hb0.size))
  have HKB : Hid (∀ V, Below W0.heap.size W V → V.cell? ⟨w.heap.size, 0, none⟩ = some (.slice A n c)) := Lib.hid fun V hV => ((hbW.trans hV).cell (p := ⟨w.heap.size, 0, none⟩) (by show w.heap.size < _; omega)).trans c0
  have HKR := Lib.hid hK
  have HN := Lib.hid (And.intro hkn (And.intro hn z0))
  generalize W0.heap.size = g at *
  have hgg : g = w.heap.size + 1 := z0
  rw [hW0] at hmk
  subst hgg
  clear hK hkn hn hown hbW hgr hi hz0 hz1 hz2 hgW hb0 z0 c0 hW0
  go_enter Tryz.func56, Tryz.ntmps56
  go_wp2_with fail
  clear hmk
  go_loopw [4, 10] (fun _ i wr => ∃ j : Nat, i = .int .i64 j ∧ j ≤ n ∧ Hid (PlI (w.heap.size + 1) n j wr) ∧ Hid (Below (w.heap.size + 1) W wr)) (fun _ i _ => n - (intOf i).toNat)
  case atStart => exact ⟨0, rfl, by omega, HI, Lib.hid (Below.refl _ _)⟩
  case round =>
    obtain ⟨j, rfl, hj, HJ, HB⟩ := hrel
    by_cases hjn : j < n
    · obtain ⟨u, hu⟩ := HJ.out.cell hjn
      have hf := HJ.out.fz j
      have kn : (j : Int) < (n : Int) := by omega
      have k0 : (0 : Int) ≤ (j : Int) := by omega
      have hnb := HN.out.2.1
      go_wp2_with fail
      go_roundw
      case rel => exact ⟨j + 1, by go_num, by omega, Lib.hid (HJ.out.store hjn), Lib.hid (HB.out.trans (Below.setCell (Below.refl _ _) (p := ⟨w.heap.size + 1, j, none⟩) (Nat.le_refl _) _))⟩
      case measure => simp [intOf]; try omega
    · obtain rfl : j = n := by omega
      have hkb := HKB.out wr HB.out
      have hbw : Below w.heap.size w wr := HBW.out.trans (HB.out.mono (by omega))
      have hgs : w.heap.size + 1 < wr.heap.size := HJ.out.choose_spec.2.1
      have HBw := Lib.hid hbw
      rcases Nat.eq_zero_or_pos j with h0 | h0
      · subst h0
        have hcon := sortNone (some ⟨w.heap.size + 1, 0, none⟩) 0 (.func (.func 94) #[] #[.pointer (some ⟨w.heap.size, 0, none⟩)]) wr
        clear hbw hj hjn hkb
        go_wp2_with fail
        refine hcon.mono ?_
        rintro e w1 ⟨rfl, rfl⟩
        go_wp2
        go_ret
        refine ⟨_, rfl, [], ⟨_, _, rfl, ⟨Nat.zero_le _, Nat.le_refl _⟩, fun h => absurd h (by omega)⟩, by simp, by simp, HBw.out⟩
      · have hlen := HN.out.1
        have hin : Inhabited {p : Nat // p < j} := ⟨⟨0, h0⟩⟩
        obtain ⟨d0, hd0⟩ : ∃ d0 : Array {p : Nat // p < j}, d0 = Array.ofFn (n := j) fun i => (⟨i.1, i.2⟩ : {p : Nat // p < j}) := ⟨_, rfl⟩
        have hds : d0.size = j := by rw [hd0]; simp
        have hdg : ∀ q, (hq : q < j) → d0[q]! = ⟨q, hq⟩ := fun q hq => by rw [getElem!_pos d0 q (by omega)]; simp [hd0]
        have hH : Holds (fun p : {p : Nat // p < j} => Value.int .i64 (p.1 : Int)) wr (w.heap.size + 1) 0 d0 := fun q hq => by
          rw [hds] at hq
          rw [hdg q hq, Nat.zero_add]
          exact ⟨HJ.out.at hq, HJ.out.fz q⟩
        have eg : ∀ args w, (callFunc 94 args).run Tryz.prog w = .ok (.enter 94 args) w := enters_of Tryz.func94 (by kernel_rfl) rfl
        have hcmp : CmpLays1 Tryz.prog 94 #[.pointer (some ⟨w.heap.size, 0, none⟩)] (fun p : {p : Nat // p < j} => Value.int .i64 (p.1 : Int)) (fun p q => cmpK (keys[p.1]'(by have := p.2; omega)) (keys[q.1]'(by have := q.2; omega))) (w.heap.size + 1) 0 d0.size wr := fun m os dk hdk x y => by
          have hb2 := sortW_below (fun p : {p : Nat // p < j} => Value.int .i64 (p.1 : Int)) wr (w.heap.size + 1) m dk os (w.heap.size + 1) (Nat.le_refl _) hgs
          have hb3 : Below w.heap.size w (sortWorld (fun p : {p : Nat // p < j} => Value.int .i64 (p.1 : Int)) wr (w.heap.size + 1) 0 m dk os) := hbw.trans (hb2.mono (by omega))
          exact placeCmp w.heap.size A j c keys hlen x.1 y.1 _ _ (List.getElem?_eq_getElem (by have := x.2; omega)) (List.getElem?_eq_getElem (by have := y.2; omega)) _ (HKB.out _ (HB.out.trans hb2)) (by have := hb3.size; have := hb2.size; omega) ((HKR.out.on hb3 fun _ _ h => h).mono hb3.size fun _ _ h => h)
        have hcon := Any.slices_SortFunc Tryz.sortI (fun p : {p : Nat // p < j} => Value.int .i64 (p.1 : Int)) (fun _ => rfl) (fun p q => cmpK (keys[p.1]'(by have := p.2; omega)) (keys[q.1]'(by have := q.2; omega))) (swoKeys fun p : {p : Nat // p < j} => keys[p.1]'(by have := p.2; omega)) 94 #[.pointer (some ⟨w.heap.size, 0, none⟩)] (w.heap.size + 1) 0 j d0 wr eg hcmp hH hgs (by have := HN.out.2.1; omega)
        change Calls Tryz.prog 93 _ _ _ at hcon
        have HG := Lib.hid (And.intro hds (And.intro hgs hH))
        rw [hds] at hcon
        clear hbw hj hjn hkb hH hcmp eg hdg h0
        have HHL := Lib.hid (And.intro hlen (And.intro hds hgs))
        go_wp2_with fail
        refine hcon.mono ?_
        rintro e w1 ⟨rfl, d', m, os, hp, hs, hw1⟩
        clear hcon
        have hb1 : Below (w.heap.size + 1) wr w1 := by rw [hw1]; exact sortW_below _ wr _ m d' os _ (Nat.le_refl _) HHL.out.2.2
        have hH1 := holds_sortWorld _ wr (w.heap.size + 1) 0 m d0 d' os HHL.out.2.2 HG.out.2.2 hp.1
        rw [← hw1] at hH1
        have HX := Lib.hid (And.intro hb1 (And.intro hH1 (And.intro hp hs)))
        have HD := Lib.hid hd0
        clear hw1 hb1 hH1 hp hs hd0
        go_wp2
        go_ret
        obtain ⟨hb1, hH1, hp, hs⟩ := HX.out
        have hd0 := HD.out
        have e1 := hp.1
        rw [hds] at e1
        have hps : ∀ q, (hq : q < j) → (d'.toList.map Subtype.val)[q]? = some (d'[q]!).1 := fun q hq => by
          rw [List.getElem?_map, Array.getElem?_toList, Array.getElem?_eq_getElem (by omega), getElem!_pos d' q (by omega)]; rfl
        refine ⟨_, rfl, d'.toList.map Subtype.val, ⟨_, _, rfl, ⟨by have := HN.out.2.1; unfold maxLen; omega, Nat.le_refl _⟩, fun _ => ⟨w.heap.size + 1, 0, rfl, ⟨by omega, Nat.lt_of_lt_of_le hgs hb1.size⟩, Nat.lt_of_lt_of_le hgs hb1.size, fun q hq => ⟨[.int .i64 ((d'[q]!).1 : Int)], rfl, fun i hi => ?_, (d'[q]!).1, hps q hq, rfl⟩⟩⟩, ?_, ?_, HBw.out.trans (hb1.mono (by omega))⟩
        · obtain rfl : i = 0 := by omega
          have := (hH1 q (by omega)).1
          rw [Nat.zero_add] at this
          simpa using this
        · have h3 := hp.2.2
          have e2 : (d'.extract 0 j).toList = d'.toList := by
            rw [Array.toList_extract]
            simp [List.take_of_length_le (show d'.toList.length ≤ j by simp; omega)]
          have e3 : (d0.extract 0 j).toList = d0.toList := by
            rw [Array.toList_extract]
            simp [List.take_of_length_le (show d0.toList.length ≤ j by simp; omega)]
          rw [e2, e3] at h3
          refine (h3.map Subtype.val).trans (List.Perm.of_eq ?_)
          apply List.ext_getElem
          · simp [hds]
          · intro q h1 h2
            simp [hd0]
        · rw [List.pairwise_iff_getElem]
          intro i q hi hq hiq x1 x2 y1 y2 hx hy
          simp only [List.length_map, Array.length_toList] at hi hq
          have h4 := hs i q (Nat.zero_le _) hiq (by omega)
          replace h4 := of_decide_eq_false h4
          simp only [List.getElem_map, Array.getElem_toList] at hx hy
          rw [getElem!_pos d' i hi, getElem!_pos d' q hq] at h4
          have hx' : keys[(d'[i]).1]'((List.getElem?_eq_some_iff.1 hx).1) = (x1, x2) := (List.getElem?_eq_some_iff.1 hx).2
          have hy' : keys[(d'[q]).1]'((List.getElem?_eq_some_iff.1 hy).1) = (y1, y2) := (List.getElem?_eq_some_iff.1 hy).2
          have h5 : ¬ cmpK (keys[(d'[q]).1]'((List.getElem?_eq_some_iff.1 hy).1)) (keys[(d'[i]).1]'((List.getElem?_eq_some_iff.1 hx).1)) < 0 := h4
          rw [hx', hy'] at h5
          exact Int.not_lt.1 h5
end Go.Proofs.YtjfknigiehggkaaGreat
namespace Go.Proofs.YtjfknigiehggkaaGreat
open Go Go.RowKit
/-- a slice of slices of integers, as it comes in -/
def RowII (w : World) (A : Option Addr) (n c : Nat) : Prop :=
  RowP w w.heap.size 1 (.slice A n c) n (fun _ cs => ∃ A' n' c', cs = [.slice A' n' c'] ∧ RowP w w.heap.size 1 (.slice A' n' c') n' (fun _ cs => ∃ x, cs = [.int .i64 x] ∧ (Lit.int .i64 x).wf = true))
/-- what drawn returns -/
def DrawnOk : Prop := ∀ (A : Option Addr) (n c : Nat) (w : World), RowP w w.heap.size 1 (.slice A n c) n (fun _ cs => ∃ x, cs = [.int .i64 x] ∧ (Lit.int .i64 x).wf = true) → n ≤ maxLen →
    Calls Tryz.prog 10 #[.slice A n c] w fun e w' => ∃ v cs, e = .returned (.agg cs.toArray) ∧ VB 4 w' (Btw w.heap.size w'.heap.size) v cs ∧ okV v = true ∧ sml v ∧ Below w.heap.size w w'
end Go.Proofs.YtjfknigiehggkaaGreat
namespace Go.Proofs.YtjfknigiehggkaaGreat
open Go.ChangeShapes Go.WideShapes Go.ChangeAt Go.RowKit Go.Joins Go.Deep
set_option maxRecDepth 100000 in
theorem rowI_of {H : Type} {enc : TypeId × Value → H} {W : World} {fuel : Nat} {u : Value} {x : DataW H × List MemPlace} (hf : DataW.trod enc Tryz.prog W 0 (fun _ => true) true fuel 28 [u] = some x) :
    ∃ A n c, u = .slice A n c ∧ RowP W W.heap.size 1 (.slice A n c) n (fun _ cs => ∃ x, cs = [.int .i64 x] ∧ (Lit.int .i64 x).wf = true) := by
  obtain ⟨l, hl⟩ := open_row (α := Int) (fun x cs => cs = [.int .i64 x] ∧ (Lit.int .i64 x).wf = true) Tryz.underlying28 (show Tryz.prog.cellsOf 3 = 1 by kernel_rfl) (by omega) hf (fun m cs z _ hz => by
    obtain ⟨i, e, _, wi⟩ := DataW.trod_int Tryz.underlying3 hz
    exact ⟨i, e, wi⟩)
  obtain ⟨A, c, hu, _⟩ := hl.form
  subst hu
  exact ⟨A, l.length, c, rfl, RowB.sub hl (fun _ h => h) (fun _ _ ⟨x, _, hx⟩ => ⟨x, hx⟩)⟩
set_option maxRecDepth 100000 in
theorem rowI_of_trod {H : Type} {enc : TypeId × Value → H} {W : World} {A : Option Addr} {n c : Nat} {d : DataW H} {p : List MemPlace} (h : DataW.Trod enc Tryz.prog W 0 (fun _ => true) true 28 (.slice A n c) d p) :
    RowP W W.heap.size 1 (.slice A n c) n (fun _ cs => ∃ x, cs = [.int .i64 x] ∧ (Lit.int .i64 x).wf = true) := by
  obtain ⟨fuel, hf⟩ := h
  have hf' : DataW.trod enc Tryz.prog W 0 (fun _ => true) true fuel 28 [.slice A n c] = some (d, p) := hf
  obtain ⟨A', n', c', hu, hR⟩ := rowI_of hf'
  injection hu with e1 e2 e3
  subst e1 e2 e3
  exact hR
set_option maxRecDepth 100000 in
theorem rowII_of_trod {H : Type} {enc : TypeId × Value → H} {W : World} {A : Option Addr} {n c : Nat} {d : DataW H} {p : List MemPlace} (h : DataW.Trod enc Tryz.prog W 0 (fun _ => true) true 35 (.slice A n c) d p) : RowII W A n c := by
  obtain ⟨fuel, hf⟩ := h
  have hf' : DataW.trod enc Tryz.prog W 0 (fun _ => true) true fuel 35 [.slice A n c] = some (d, p) := hf
  obtain ⟨l, hl⟩ := open_row (α := Unit) (fun _ cs => ∃ A' n' c', cs = [.slice A' n' c'] ∧ RowP W W.heap.size 1 (.slice A' n' c') n' (fun _ cs => ∃ x, cs = [.int .i64 x] ∧ (Lit.int .i64 x).wf = true)) Tryz.underlying35 (show Tryz.prog.cellsOf 28 = 1 by kernel_rfl) (by omega) hf' (fun m cs z _ hz => by
    have hz' := hz
    rcases DataW.trod_slice Tryz.underlying28 hz with ⟨h0, _⟩ | ⟨a, len, cap, elems, rest, m, _, hcs, _⟩
    · subst h0
      obtain ⟨A', n', c', hu, hR⟩ := rowI_of hz'
      exact ⟨(), A', n', c', by rw [hu], hR⟩
    · subst hcs
      obtain ⟨A', n', c', hu, hR⟩ := rowI_of hz'
      exact ⟨(), A', n', c', by rw [hu], hR⟩)
  obtain ⟨A', c', hu, _⟩ := hl.form
  injection hu with e1 e2 e3
  subst e1 e2 e3
  exact RowB.sub hl (fun _ h => h) (fun _ _ ⟨_, _, hx⟩ => hx)
theorem str_of (s : ByteArray) : ∃ x : List UInt8, s = ⟨x.toArray⟩ := ⟨s.data.toList, (str_cell s).symm⟩
end Go.Proofs.YtjfknigiehggkaaGreat
