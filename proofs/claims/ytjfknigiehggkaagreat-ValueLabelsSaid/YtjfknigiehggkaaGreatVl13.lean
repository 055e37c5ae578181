/- What slices.Clone returns at labels and keys: the same elements in memory of the call's own. -/
import Derived.Test.YtjfknigiehggkaaGreatVl00
import Derived.Test.YtjfknigiehggkaaGreatVl01
import Derived.Test.YtjfknigiehggkaaGreatVl02
import Derived.Test.YtjfknigiehggkaaGreatVl12
import Derived.Test.YtjfknigiehggkaaGreatVlShelf
import Derived.WalkLawsBesides
namespace Go.Proofs.YtjfknigiehggkaaGreat
open Go Go.RowKit
theorem flat_sub {α β : Type} {enc : α → List β} {c : Nat} (hc : ∀ x, (enc x).length = c) : ∀ {l : List α} {j : Nat} {x : α}, l[j]? = some x → ((l.flatMap enc).drop (j * c)).take c = enc x
  | [], j, x, h => by simp at h
  | a :: s, 0, x, h => by
    simp only [List.getElem?_cons_zero, Option.some.injEq] at h
    subst h
    simp [List.flatMap_cons, hc]
  | a :: s, j + 1, x, h => by
    simp only [List.getElem?_cons_succ] at h
    rw [List.flatMap_cons, List.drop_append, List.drop_eq_nil_of_le (by rw [hc, Nat.add_mul]; omega), hc, show (j + 1) * c - c = j * c by rw [Nat.add_mul]; omega, List.nil_append, flat_sub hc h]
theorem flat_at {α β : Type} {enc : α → List β} {c : Nat} (hc : ∀ x, (enc x).length = c) {l : List α} {q : Nat} {u : β} (h0 : 0 < c) (h : (l.flatMap enc)[q]? = some u) : ∃ x, l[q / c]? = some x ∧ (enc x)[q % c]? = some u := by
  have hlen : (l.flatMap enc).length = l.length * c := by
    clear h
    induction l with
    | nil => simp
    | cons a s ih => rw [List.flatMap_cons, List.length_append, ih, hc, List.length_cons, Nat.add_mul]; omega
  have hq : q < l.length * c := by
    have := (List.getElem?_eq_some_iff.1 h).1
    omega
  have hd : q / c < l.length := Nat.div_lt_of_lt_mul (by rwa [Nat.mul_comm])
  refine ⟨l[q / c], List.getElem?_eq_getElem hd, ?_⟩
  have e := flat_sub hc (List.getElem?_eq_getElem hd)
  rw [← e, List.getElem?_take_of_lt (Nat.mod_lt _ h0), List.getElem?_drop, show q / c * c + q % c = q by rw [Nat.mul_comm]; exact Nat.div_add_mod q c]
  exact h
theorem row_cells {α : Type} {w : World} {B : Nat → Prop} {c : Nat} {A : Option Addr} {cap : Nat} {l : List α} {enc : α → List Value} {R : Nat → List Value → Prop} (h0 : 0 < c) (hc : ∀ x, (enc x).length = c) (h : RowB w B c (.slice A l.length cap) l.length R) (hR : ∀ j cs, R j cs → ∃ x, l[j]? = some x ∧ cs = enc x) (hpos : 0 < l.length) :
    ∃ b off, A = some ⟨b, off, none⟩ ∧ ∀ q u, (l.flatMap enc)[q]? = some u → w.cell? ⟨b, off + q, none⟩ = some u := by
  obtain ⟨A', cap', h1, _, h3⟩ := h
  obtain ⟨b, off, rfl, _, _, h7⟩ := h3 hpos
  injection h1 with hA _ _
  refine ⟨b, off, hA, fun q u hq => ?_⟩
  obtain ⟨x, hx, hu⟩ := flat_at hc h0 hq
  obtain ⟨cs, h8, h9, h10⟩ := h7 (q / c) (List.getElem?_eq_some_iff.1 hx).1
  obtain ⟨y, hy, rfl⟩ := hR _ _ h10
  rw [hx] at hy
  injection hy with hy
  subst hy
  have := h9 (q % c) (Nat.mod_lt _ h0)
  rw [hu, Nat.add_assoc, show q / c * c + q % c = q by rw [Nat.mul_comm]; exact Nat.div_add_mod q c] at this
  exact this
def encS (x : List UInt8) : List Value := [.string ⟨x.toArray⟩]
def encY (x : Int × List UInt8) : List Value := [.int .i64 x.1, .string ⟨x.2.toArray⟩]
theorem infoS : (Tryz.prog.info? 9).map (fun i => (i.zero, i.size, i.bytes)) = some (some (.string ⟨#[]⟩), 1, 16) := by kernel_rfl
theorem infoY : (Tryz.prog.info? 74).map (fun i => (i.zero, i.size, i.bytes)) = some (some (.agg #[.int .i64 0, .string ⟨#[]⟩]), 2, 24) := by kernel_rfl
set_option maxHeartbeats 800000 in
theorem cloneS_zero (a : Addr) (c : Nat) (w : World) :
    Calls Tryz.prog 86 #[.slice (some a) 0 c] w fun e w' => ∃ v', e = .returned v' ∧ w'.ownsRow w.heap.size 9 1 v' 0 [] ∧ Below w.heap.size w w' := by
  obtain ⟨i0, hi, hz0, hz1, hz2⟩ := info_parts infoS
  have q22 : ∀ (w : World) (a : Option Addr) (n c n' c' : Nat), (binOp .eql 25 (.slice a n c) (.slice none n' c')).run Tryz.prog w = .ok (.bool a.isNone) w := fun w a n c n' c' => Lib.run_eql_slice_nil w _ _ a n c n' c' Tryz.underlying25
  go_enter Tryz.func86, Tryz.ntmps86
  go_wp2_with (at_builtin; refine wpList_append_own _ rfl _ _ 25 rfl w.heap.size 9 i0 (.string { data := #[] }) 1 16 Tryz.underlying25 hi hz0 hz1 hz2 rfl (by decide) _ _ _ rfl (World.ownsRow_made w #[] 0 (Nat.le_refl _) (Nat.zero_le _) rfl) a 0 c [] rfl rfl (by intro j u hj; simp at hj) (by intro u hu; cases hu) (by unfold maxLen; omega) (by omega) (by simp) ?_)
  intro v' w1 hown hgrow hnil
  go_wp2
  go_ret
  refine ⟨v', rfl, by simpa using hown, ?_⟩
  exact ((Below.refl _ w).alloc (Nat.le_refl _) _).grown hgrow (by simp) (by intro k hk; simp [Value.ownBlock] at hk; omega)
theorem cloneS_any (A : Option Addr) (cap : Nat) (l : List (List UInt8)) (w : World) (hl : RowP w w.heap.size 1 (.slice A l.length cap) l.length (fun j cs => ∃ x, l[j]? = some x ∧ cs = [.string ⟨x.toArray⟩] ∧ x.length ≤ maxLen)) (hn : l.length ≤ 1048576) :
    Calls Tryz.prog 86 #[.slice A l.length cap] w fun e w' => ∃ u, e = .returned u ∧ RowB w' (Btw w.heap.size w'.heap.size) 1 u l.length (fun j cs => ∃ x, l[j]? = some x ∧ cs = [.string ⟨x.toArray⟩] ∧ x.length ≤ maxLen) ∧ Below w.heap.size w w' := by
  rcases Nat.eq_zero_or_pos l.length with h0 | h0
  · have hr : l = [] := List.eq_nil_of_length_eq_zero h0
    subst hr
    rcases A with _ | a
    · have := AnyE.slices_Clone_nil Tryz.laysSlE041_f86 0 cap w
      change Calls Tryz.prog 86 _ _ _ at this
      refine this.mono ?_
      rintro e w' ⟨he, rfl⟩
      exact ⟨_, he, ⟨none, 0, rfl, ⟨Nat.zero_le _, Nat.le_refl _⟩, fun h => absurd h (by simp)⟩, Below.refl _ _⟩
    · refine (cloneS_zero a cap w).mono ?_
      rintro e w' ⟨v, he, hv, hb⟩
      exact ⟨v, he, row_of_owns hv (Nat.zero_le _) (fun g _ h h' => ⟨h, h'⟩) (fun j hj => absurd hj (by simp)) (by omega), hb⟩
  · have hlen : ∀ x, (encS x).length = 1 := fun _ => rfl
    obtain ⟨b, off, rfl, hcell⟩ := row_cells (enc := encS) (by omega) hlen hl (by rintro j cs ⟨x, hx, hcs, _⟩; exact ⟨x, hx, hcs⟩) h0
    obtain ⟨i0, hi, hz0, hz1, hz2⟩ := info_parts infoS
    have hfl : (l.flatMap encS).length = l.length * 1 := by
      clear hl hcell h0 hn
      induction l with
      | nil => rfl
      | cons a s ih => rw [List.flatMap_cons, List.length_append, ih, hlen, List.length_cons, Nat.add_mul]; omega
    have := AnyE.slices_Clone Tryz.laysSlE041_f86 i0 _ 1 16 hi hz0 hz1 hz2 rfl (by decide) (fun w => by kernel_rfl) b off l.length cap (l.flatMap encS) w hfl (by unfold maxLen; omega) (by omega) hcell (by intro u hu; obtain ⟨x, _, hx⟩ := List.mem_flatMap.1 hu; simp only [encS, List.mem_cons, List.not_mem_nil, or_false] at hx; (try rcases hx with rfl | rfl) <;> (try subst hx) <;> rfl)
    change Calls Tryz.prog 86 _ _ _ at this
    refine this.mono ?_
    rintro e w' ⟨v, he, hv, _, hb⟩
    refine ⟨v, he, row_of_owns hv (by unfold maxLen; omega) (fun g _ h h' => ⟨h, h'⟩) (fun j hj => ?_) (by omega), hb⟩
    have hx := List.getElem?_eq_getElem hj
    refine ⟨l[j], hx, ?_⟩
    rw [flat_sub hlen hx]
    obtain ⟨A', cap', h1, _, h3⟩ := hl
    obtain ⟨b', off', _, _, _, h7⟩ := h3 h0
    obtain ⟨cs, h8, h9, y, hy, hy2⟩ := h7 j hj
    rw [hx] at hy
    injection hy with hy
    subst hy
    exact ⟨rfl, hy2.2⟩
set_option maxHeartbeats 800000 in
theorem cloneY_zero (a : Addr) (c : Nat) (w : World) :
    Calls Tryz.prog 76 #[.slice (some a) 0 c] w fun e w' => ∃ v', e = .returned v' ∧ w'.ownsRow w.heap.size 74 2 v' 0 [] ∧ Below w.heap.size w w' := by
  obtain ⟨i0, hi, hz0, hz1, hz2⟩ := info_parts infoY
  have q22 : ∀ (w : World) (a : Option Addr) (n c n' c' : Nat), (binOp .eql 23 (.slice a n c) (.slice none n' c')).run Tryz.prog w = .ok (.bool a.isNone) w := fun w a n c n' c' => Lib.run_eql_slice_nil w _ _ a n c n' c' Tryz.underlying23
  go_enter Tryz.func76, Tryz.ntmps76
  go_wp2_with (at_builtin; refine wpList_append_own _ rfl _ _ 23 rfl w.heap.size 74 i0 (.agg #[.int .i64 0, .string { data := #[] }]) 2 24 Tryz.underlying23 hi hz0 hz1 hz2 rfl (by decide) _ _ _ rfl (World.ownsRow_made w #[] 0 (Nat.le_refl _) (Nat.zero_le _) rfl) a 0 c [] rfl rfl (by intro j u hj; simp at hj) (by intro u hu; cases hu) (by unfold maxLen; omega) (by omega) (by simp) ?_)
  intro v' w1 hown hgrow hnil
  go_wp2
  go_ret
  refine ⟨v', rfl, by simpa using hown, ?_⟩
  exact ((Below.refl _ w).alloc (Nat.le_refl _) _).grown hgrow (by simp) (by intro k hk; simp [Value.ownBlock] at hk; omega)
theorem cloneY_any (A : Option Addr) (cap : Nat) (l : List (Int × List UInt8)) (w : World) (hl : RowP w w.heap.size 2 (.slice A l.length cap) l.length (fun j cs => ∃ x, l[j]? = some x ∧ cs = [.int .i64 x.1, .string ⟨x.2.toArray⟩] ∧ (Lit.int .i64 x.1).wf = true ∧ x.2.length ≤ maxLen)) (hn : l.length ≤ 1048576) :
    Calls Tryz.prog 76 #[.slice A l.length cap] w fun e w' => ∃ u, e = .returned u ∧ RowB w' (Btw w.heap.size w'.heap.size) 2 u l.length (fun j cs => ∃ x, l[j]? = some x ∧ cs = [.int .i64 x.1, .string ⟨x.2.toArray⟩] ∧ (Lit.int .i64 x.1).wf = true ∧ x.2.length ≤ maxLen) ∧ Below w.heap.size w w' := by
  rcases Nat.eq_zero_or_pos l.length with h0 | h0
  · have hr : l = [] := List.eq_nil_of_length_eq_zero h0
    subst hr
    rcases A with _ | a
    · have := AnyE.slices_Clone_nil Tryz.laysSlE041_keys 0 cap w
      change Calls Tryz.prog 76 _ _ _ at this
      refine this.mono ?_
      rintro e w' ⟨he, rfl⟩
      exact ⟨_, he, ⟨none, 0, rfl, ⟨Nat.zero_le _, Nat.le_refl _⟩, fun h => absurd h (by simp)⟩, Below.refl _ _⟩
    · refine (cloneY_zero a cap w).mono ?_
      rintro e w' ⟨v, he, hv, hb⟩
      exact ⟨v, he, row_of_owns hv (Nat.zero_le _) (fun g _ h h' => ⟨h, h'⟩) (fun j hj => absurd hj (by simp)) (by omega), hb⟩
  · have hlen : ∀ x, (encY x).length = 2 := fun _ => rfl
    obtain ⟨b, off, rfl, hcell⟩ := row_cells (enc := encY) (by omega) hlen hl (by rintro j cs ⟨x, hx, hcs, _⟩; exact ⟨x, hx, hcs⟩) h0
    obtain ⟨i0, hi, hz0, hz1, hz2⟩ := info_parts infoY
    have hfl : (l.flatMap encY).length = l.length * 2 := by
      clear hl hcell h0 hn
      induction l with
      | nil => rfl
      | cons a s ih => rw [List.flatMap_cons, List.length_append, ih, hlen, List.length_cons, Nat.add_mul]; omega
    have := AnyE.slices_Clone Tryz.laysSlE041_keys i0 _ 2 24 hi hz0 hz1 hz2 rfl (by decide) (fun w => by kernel_rfl) b off l.length cap (l.flatMap encY) w hfl (by unfold maxLen; omega) (by omega) hcell (by intro u hu; obtain ⟨x, _, hx⟩ := List.mem_flatMap.1 hu; simp only [encY, List.mem_cons, List.not_mem_nil, or_false] at hx; (try rcases hx with rfl | rfl) <;> (try subst hx) <;> rfl)
    change Calls Tryz.prog 76 _ _ _ at this
    refine this.mono ?_
    rintro e w' ⟨v, he, hv, _, hb⟩
    refine ⟨v, he, row_of_owns hv (by unfold maxLen; omega) (fun g _ h h' => ⟨h, h'⟩) (fun j hj => ?_) (by omega), hb⟩
    have hx := List.getElem?_eq_getElem hj
    refine ⟨l[j], hx, ?_⟩
    rw [flat_sub hlen hx]
    obtain ⟨A', cap', h1, _, h3⟩ := hl
    obtain ⟨b', off', _, _, _, h7⟩ := h3 h0
    obtain ⟨cs, h8, h9, y, hy, hy2⟩ := h7 j hj
    rw [hx] at hy
    injection hy with hy
    subst hy
    exact ⟨rfl, hy2.2⟩
end Go.Proofs.YtjfknigiehggkaaGreat
namespace Go.Proofs.YtjfknigiehggkaaGreat
open Go Go.RowKit
set_option maxRecDepth 100000 in
set_option maxHeartbeats 3200000 in
theorem each9O (k F : Nat) (eg : ∀ args w, (callFunc F args).run Tryz.prog w = .ok (.enter F args) w) (f : En → En)
    (hF : Hid (∀ (v : En) (cs : List Value) (w : World), ES k w w.heap.size v cs → smlE v → Calls Tryz.prog F #[.agg cs.toArray] w fun e w' => ∃ cs', e = .returned (.agg cs'.toArray) ∧ EB k w' (fun b => w.heap.size ≤ b ∧ b < w'.heap.size) (f v) cs' ∧ Below w.heap.size w w'))
    (A : Option Addr) (cap : Nat) (l : List En) (w : World) (hl : RowP w w.heap.size 9 (.slice A l.length cap) l.length (fun j cs => ∃ x, l[j]? = some x ∧ ES k w w.heap.size x cs)) (hn : l.length ≤ 100000000) (hs : smlEs l) :
    Calls Tryz.prog 69 #[.slice A l.length cap, .func (.func F) #[] #[]] w fun e w' => ∃ u, e = .returned u ∧ ((l = [] ∧ u = .slice none 0 0) ∨ ∃ g, u = .slice (some ⟨g, 0, none⟩) l.length l.length ∧ w.heap.size ≤ g ∧ EachI (fun w B x cs => EB k w B x cs) f 55 9 l g l.length w') ∧ Below w.heap.size w w' := by
  rcases Nat.eq_zero_or_pos l.length with h0 | h0
  · have hr : l = [] := List.eq_nil_of_length_eq_zero h0
    subst hr
    clear hl hF
    go_enter Tryz.func69, Tryz.ntmps69
    go_wp2
    go_ret
    refine ⟨_, rfl, .inl (by simp), Below.refl _ _⟩
  · obtain ⟨i0, hi, hz0, hz1, hz2⟩ := info_parts infoE
    have HL := Lib.hid hl
    have HS := Lib.hid (smlEs_iff.1 hs)
    clear hl hs
    obtain ⟨W, hmk, hown, hgr⟩ := run_make_full (P := Tryz.prog) w w.heap.size 24 55 i0 _ 9 Tryz.underlying24 hi hz0 hz1 .i64 .i64 l.length (by rw [hz2]; omega) (by unfold maxLen; omega) (Nat.le_refl _)
    have hbW : Below w.heap.size w W := (Below.refl _ w).grown hgr (Nat.le_refl _) (by intro k hk; cases hk)
    have hgW : w.heap.size < W.heap.size := by
      obtain ⟨_, hc⟩ := hown
      rcases hc with ⟨h, _⟩ | ⟨g, cap, cur, h, _, hg, _⟩
      · simp at h
      · injection h with h1 _ _
        injection h1 with h1
        injection h1 with h1
        rw [h1]
        exact (Array.getElem?_eq_some_iff.1 hg).1
    have hI : EachI (fun w B x cs => EB k w B x cs) f 55 9 l w.heap.size 0 W := ⟨_, hown, hgW, fun q hq => absurd hq (by omega)⟩
    have HI := Lib.hid hI
    have HBW := Lib.hid hbW
    have n0 : ((l.length : Int) == 0) = false := by rw [beq_eq_false_iff_ne]; omega
    clear hown hbW hgr hi hz0 hz1 hz2 hgW hI
    go_enter Tryz.func69, Tryz.ntmps69
    go_wp2_with fail
    clear hmk
    go_loopw [6, 16] (fun _ i wr => ∃ j : Nat, i = .int .i64 j ∧ j ≤ l.length ∧ Hid (EachI (fun w B x cs => EB k w B x cs) f 55 9 l w.heap.size j wr) ∧ Hid (Below w.heap.size w wr)) (fun _ i _ => l.length - (intOf i).toNat)
    case atStart => exact ⟨0, rfl, by omega, HI, HBW⟩
    case round =>
      obtain ⟨j, rfl, hj, HJ, HB⟩ := hrel
      by_cases hjn : j < l.length
      · obtain ⟨b, off, cap0, x0, x1, x2, x3, x4, x5, x6, x7, x8, hu, hbH, ⟨x, hx, hv⟩, c0, c1, c2, c3, c4, c5, c6, c7, c8⟩ := (HL.out.on HB.out (fun _ _ h => h)).at9 hjn
        injection hu with hA _ hcap
        subst hA hcap
        obtain ⟨B0, n0, d0, g0, a, i, s, B1, n1, d1, B2, n2, d2, B3, n3, d3, B4, n4, d4, hf⟩ := hv.form9
        simp only [List.cons.injEq, and_true] at hf
        obtain ⟨rfl, rfl, rfl, rfl, rfl, rfl, rfl, rfl, rfl⟩ := hf
        have kn : (j : Int) < (l.length : Int) := by omega
        have k0 : (0 : Int) ≤ (j : Int) := by omega
        have HX := Lib.hid hx
        have HVX := Lib.hid hv
        have HSX := Lib.hid (HS.out x (List.mem_of_getElem? hx))
        clear hx hv
        go_wp2_with fail
        rename World => U
        obtain ⟨W2, hW2⟩ : ∃ W2, W2 = U.alloc (.cells #[.slice B0 n0 d0, .bool g0, .int .i64 a, .int .i64 i, .string s, .slice B1 n1 d1, .slice B2 n2 d2, .slice B3 n3 d3, .slice B4 n4 d4] 55) := ⟨_, rfl⟩
        have hb2 : Below U.heap.size U W2 := by rw [hW2]; exact (Below.refl _ _).alloc (Nat.le_refl _) _
        have q0 : W2.cell? ⟨U.heap.size, 0, none⟩ = some (.slice B0 n0 d0) := by rw [hW2]; simp
        have q1 : W2.cell? ⟨U.heap.size, 1, none⟩ = some (.bool g0) := by rw [hW2]; simp
        have q2 : W2.cell? ⟨U.heap.size, 2, none⟩ = some (.int .i64 a) := by rw [hW2]; simp
        have q3 : W2.cell? ⟨U.heap.size, 3, none⟩ = some (.int .i64 i) := by rw [hW2]; simp
        have q4 : W2.cell? ⟨U.heap.size, 4, none⟩ = some (.string s) := by rw [hW2]; simp
        have q5 : W2.cell? ⟨U.heap.size, 5, none⟩ = some (.slice B1 n1 d1) := by rw [hW2]; simp
        have q6 : W2.cell? ⟨U.heap.size, 6, none⟩ = some (.slice B2 n2 d2) := by rw [hW2]; simp
        have q7 : W2.cell? ⟨U.heap.size, 7, none⟩ = some (.slice B3 n3 d3) := by rw [hW2]; simp
        have q8 : W2.cell? ⟨U.heap.size, 8, none⟩ = some (.slice B4 n4 d4) := by rw [hW2]; simp
        have hbw := HB.out.trans (hb2.mono HB.out.size)
        have hc := hF.out x _ W2 (ES.up hbw.size (Nat.le_refl _) (ES.on hbw HVX.out)) HSX.out
        have HB2 := Lib.hid hbw
        have HU2 := Lib.hid hb2
        rw [← hW2]
        clear hW2 hb2 hbw c0 c1 c2 c3 c4 c5 c6 c7 c8
        go_wp2_with fail
        refine hc.mono ?_
        rintro e w1 ⟨cs', rfl, hvb, hb1⟩
        clear hc q0 q1 q2 q3 q4 q5 q6 q7 q8
        have hbu := HU2.out.trans (hb1.mono HU2.out.size)
        have HI1 := EachI.below HJ.out hbu (fun x cs h => EB.later hbu x cs h)
        have HBw := Lib.hid (HB2.out.trans (hb1.mono HB2.out.size))
        obtain ⟨B0', n0', d0', g0', a', i', s', B1', n1', d1', B2', n2', d2', B3', n3', d3', B4', n4', d4', rfl⟩ := hvb.form9
        have HVB : Hid (EB k w1 (fun b => w.heap.size < b ∧ b < w1.heap.size) (f x) [.slice B0' n0' d0', .bool g0', .int .i64 a', .int .i64 i', .string s', .slice B1' n1' d1', .slice B2' n2' d2', .slice B3' n3' d3', .slice B4' n4' d4']) := Lib.hid (EB.sub (fun b hb => ⟨by have := hb.1; have := HU2.out.size; have := HJ.out.choose_spec.2.1; omega, hb.2⟩) (Nat.le_refl _) hvb)
        have hcell : ∀ i, i < 9 → ∃ u, w1.cell? ⟨w.heap.size, j * 9 + i, none⟩ = some u := by
          intro i hi
          obtain ⟨ys, hy, _⟩ := HI1
          have hle : (j + 1) * 9 ≤ l.length * 9 := Nat.mul_le_mul_right _ hjn
          rw [hy.cellAt _ (by omega)]
          exact ⟨_, List.getElem?_eq_getElem (by rw [hy.1]; omega)⟩
        have hfz : ∀ i, w1.frozen? ⟨w.heap.size, i, none⟩ = false := by
          obtain ⟨ys, hy, _⟩ := HI1
          exact hy.frozenAt
        obtain ⟨y0, s0⟩ := hcell 0 (by omega)
        obtain ⟨y1, s1⟩ := hcell 1 (by omega)
        obtain ⟨y2, s2⟩ := hcell 2 (by omega)
        obtain ⟨y3, s3⟩ := hcell 3 (by omega)
        obtain ⟨y4, s4⟩ := hcell 4 (by omega)
        obtain ⟨y5, s5⟩ := hcell 5 (by omega)
        obtain ⟨y6, s6⟩ := hcell 6 (by omega)
        obtain ⟨y7, s7⟩ := hcell 7 (by omega)
        obtain ⟨y8, s8⟩ := hcell 8 (by omega)
        simp only [Nat.add_zero] at s0
        have z0 := hfz (j * 9)
        have z1 := hfz (j * 9 + 1)
        have z2 := hfz (j * 9 + 2)
        have z3 := hfz (j * 9 + 3)
        have z4 := hfz (j * 9 + 4)
        have z5 := hfz (j * 9 + 5)
        have z6 := hfz (j * 9 + 6)
        have z7 := hfz (j * 9 + 7)
        have z8 := hfz (j * 9 + 8)
        have HI2 := Lib.hid HI1
        clear hcell hfz HI1 hbu hvb hb1
        go_wp2
        clear s0 s1 s2 s3 s4 s5 s6 s7 s8 z0 z1 z2 z3 z4 z5 z6 z7 z8
        go_roundw
        case rel => exact ⟨j + 1, by go_num, by omega, Lib.hid (EachI.store9 rfl HI2.out HX.out HVB.out), Lib.hid (Below.setCell (Below.setCell (Below.setCell (Below.setCell (Below.setCell (Below.setCell (Below.setCell (Below.setCell (Below.setCell (HBw.out) (p := ⟨w.heap.size, j * 9, none⟩) (Nat.le_refl _) _) (p := ⟨w.heap.size, j * 9 + 1, none⟩) (Nat.le_refl _) _) (p := ⟨w.heap.size, j * 9 + 2, none⟩) (Nat.le_refl _) _) (p := ⟨w.heap.size, j * 9 + 3, none⟩) (Nat.le_refl _) _) (p := ⟨w.heap.size, j * 9 + 4, none⟩) (Nat.le_refl _) _) (p := ⟨w.heap.size, j * 9 + 5, none⟩) (Nat.le_refl _) _) (p := ⟨w.heap.size, j * 9 + 6, none⟩) (Nat.le_refl _) _) (p := ⟨w.heap.size, j * 9 + 7, none⟩) (Nat.le_refl _) _) (p := ⟨w.heap.size, j * 9 + 8, none⟩) (Nat.le_refl _) _)⟩
        case measure => simp [intOf]; omega
      · have hje : j = l.length := by omega
        have HJE := Lib.hid hje
        have kn : ¬ (j : Int) < (l.length : Int) := by omega
        clear hje
        go_wp2
        go_ret
        exact ⟨_, rfl, .inr ⟨_, rfl, Nat.le_refl _, HJE.out ▸ HJ.out⟩, HB.out⟩
end Go.Proofs.YtjfknigiehggkaaGreat
namespace Go.Proofs.YtjfknigiehggkaaGreat
open Go Go.RowKit
/-- what drawn returns -/
def DrawnOk : Prop := ∀ (A : Option Addr) (n c : Nat) (w : World), RowP w w.heap.size 1 (.slice A n c) n (fun _ cs => ∃ x, cs = [.int .i64 x] ∧ (Lit.int .i64 x).wf = true) → n ≤ maxLen →
    Calls Tryz.prog 10 #[.slice A n c] w fun e w' => ∃ v cs, e = .returned (.agg cs.toArray) ∧ VB 4 w' (Btw w.heap.size w'.heap.size) v cs ∧ okV v = true ∧ sml v ∧ Below w.heap.size w w'
end Go.Proofs.YtjfknigiehggkaaGreat
namespace Go.Proofs.YtjfknigiehggkaaGreat
open Go.ChangeShapes Go.WideShapes Go.ChangeAt Go.RowKit Go.Joins Go.Deep
set_option maxRecDepth 100000 in
theorem rowI_of {H : Type} {enc : TypeId × Value → H} {W : World} {fuel : Nat} {u : Value} {x : DataW H × List MemPlace} (hf : DataW.trod enc Tryz.prog W 0 (fun _ => true) true fuel 28 [u] = some x) :
    ∃ A n c, u = .slice A n c ∧ RowP W W.heap.size 1 (.slice A n c) n (fun _ cs => ∃ x, cs = [.int .i64 x] ∧ (Lit.int .i64 x).wf = true) := by
  obtain ⟨l, hl⟩ := open_row (α := Int) (fun x cs => cs = [.int .i64 x] ∧ (Lit.int .i64 x).wf = true) Tryz.underlying28 (show Tryz.prog.cellsOf 3 = 1 by kernel_rfl) (by omega) hf (fun m cs z _ hz => by
    obtain ⟨i, e, _, wi⟩ := DataW.trod_int Tryz.underlying3 hz
    exact ⟨i, e, wi⟩)
  obtain ⟨A, c, hu, _⟩ := hl.form
  subst hu
  exact ⟨A, l.length, c, rfl, RowB.sub hl (fun _ h => h) (fun _ _ ⟨x, _, hx⟩ => ⟨x, hx⟩)⟩
set_option maxRecDepth 100000 in
theorem rowI_of_trod {H : Type} {enc : TypeId × Value → H} {W : World} {A : Option Addr} {n c : Nat} {d : DataW H} {p : List MemPlace} (h : DataW.Trod enc Tryz.prog W 0 (fun _ => true) true 28 (.slice A n c) d p) :
    RowP W W.heap.size 1 (.slice A n c) n (fun _ cs => ∃ x, cs = [.int .i64 x] ∧ (Lit.int .i64 x).wf = true) := by
  obtain ⟨fuel, hf⟩ := h
  have hf' : DataW.trod enc Tryz.prog W 0 (fun _ => true) true fuel 28 [.slice A n c] = some (d, p) := hf
  obtain ⟨A', n', c', hu, hR⟩ := rowI_of hf'
  injection hu with e1 e2 e3
  subst e1 e2 e3
  exact hR
end Go.Proofs.YtjfknigiehggkaaGreat
