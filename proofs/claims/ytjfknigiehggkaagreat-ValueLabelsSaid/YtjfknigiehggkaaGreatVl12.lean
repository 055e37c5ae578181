/- What each returns at slices of values and of entries: the elements changed one by one, in memory of the call's own. -/
import Derived.Test.YtjfknigiehggkaaGreatVl00
import Derived.Test.YtjfknigiehggkaaGreatVl03
import Derived.Deep.LoopGhost
namespace Go.Proofs.YtjfknigiehggkaaGreat
open Go Go.RowKit
theorem infoV : (Tryz.prog.info? 27).map (fun i => (i.zero, i.size, i.bytes)) = some (some (.agg #[.int .i64 0, .int .i64 0, .string ⟨#[]⟩, .slice none 0 0, .slice none 0 0, .slice none 0 0, .slice none 0 0]), 7, 128) := by kernel_rfl
theorem infoE : (Tryz.prog.info? 55).map (fun i => (i.zero, i.size, i.bytes)) = some (some (.agg #[.slice none 0 0, .bool false, .int .i64 0, .int .i64 0, .string ⟨#[]⟩, .slice none 0 0, .slice none 0 0, .slice none 0 0, .slice none 0 0]), 9, 160) := by kernel_rfl
theorem owns_below {H : Nat} {w w' : World} {base : Nat} {e : TypeId} {size : Nat} {v : Value} {n : Nat} {xs : List Value} (h : w.ownsRow base e size v n xs) (hb : Below H w w') (hv : ∀ g, v.ownBlock = some g → g < H) : w'.ownsRow base e size v n xs := by
  refine ⟨h.1, ?_⟩
  rcases h.2 with hn | ⟨g, cap, cur, rfl, h1, h2, h3⟩
  · exact .inl hn
  · exact .inr ⟨g, cap, cur, rfl, h1, (hb.block g (hv g rfl)).trans h2, h3⟩
/-- the blocks from lo to below hi -/
abbrev Btw (lo hi : Nat) : Nat → Prop := fun b => lo ≤ b ∧ b < hi
/-- an entry lies in the nine cells cs, in blocks of B -/
def EB (k : Nat) (w : World) (B : Nat → Prop) (e : En) (cs : List Value) : Prop :=
  ∃ args fails result, e = .mk args fails result ∧ ∃ ua rs, cs = ua :: .bool fails :: rs ∧ RowB w B 7 ua args.length (fun j cs => ∃ x, args[j]? = some x ∧ VB k w B x cs) ∧ VB k w B result rs
theorem EB.keep {w w' : World} {B : Nat → Prop} (hw : Same B w w') {k : Nat} {v : En} {cs : List Value} (h : EB k w B v cs) : EB k w' B v cs := by
  obtain ⟨l, f, r, rfl, ua, rs, rfl, hl, hr⟩ := h
  exact ⟨l, f, r, rfl, ua, rs, rfl, hl.keep hw fun _ _ ⟨x, h1, h2⟩ => ⟨x, h1, VB.keep hw h2⟩, VB.keep hw hr⟩
theorem EB.sub {w : World} {B B' : Nat → Prop} (hB : ∀ b, B b → B' b) {k k' : Nat} {v : En} {cs : List Value} (hk : k ≤ k') (h : EB k w B v cs) : EB k' w B' v cs := by
  obtain ⟨l, f, r, rfl, ua, rs, rfl, hl, hr⟩ := h
  exact ⟨l, f, r, rfl, ua, rs, rfl, hl.sub hB fun _ _ ⟨x, h1, h2⟩ => ⟨x, h1, VB.sub hB hk h2⟩, VB.sub hB hk hr⟩
theorem EB.form9 {k : Nat} {w : World} {B : Nat → Prop} {v : En} {cs : List Value} (h : EB k w B v cs) :
    ∃ A0 n0 c0 f a i s A1 n1 c1 A2 n2 c2 A3 n3 c3 A4 n4 c4, cs = [.slice A0 n0 c0, .bool f, .int .i64 a, .int .i64 i, .string s, .slice A1 n1 c1, .slice A2 n2 c2, .slice A3 n3 c3, .slice A4 n4 c4] := by
  obtain ⟨l, f, r, rfl, ua, rs, rfl, hl, hr⟩ := h
  obtain ⟨A, c, rfl, _⟩ := hl.form
  obtain ⟨a, i, s, A1, n1, c1, A2, n2, c2, A3, n3, c3, A4, n4, c4, rfl⟩ := hr.form7
  exact ⟨_, _, _, _, _, _, _, _, _, _, _, _, _, _, _, _, _, _, _, rfl⟩
/-- the first j of the n elements that the row at block g owns are trees in later blocks -/
def EachI {α : Type} (T : World → (Nat → Prop) → α → List Value → Prop) (f : α → α) (e : TypeId) (c : Nat) (l : List α) (g j : Nat) (w : World) : Prop :=
  ∃ xs, w.ownsRow g e c (.slice (some ⟨g, 0, none⟩) l.length l.length) l.length xs ∧ g < w.heap.size ∧ ∀ q, q < j → ∃ x, l[q]? = some x ∧ T w (fun b => g < b ∧ b < w.heap.size) (f x) ((xs.drop (q * c)).take c)
theorem EachI.below {α : Type} {T : World → (Nat → Prop) → α → List Value → Prop} {f : α → α} {e : TypeId} {c : Nat} {l : List α} {g j : Nat} {w w' : World} (h : EachI T f e c l g j w) (hb : Below w.heap.size w w')
    (hT : ∀ x cs, T w (fun b => g < b ∧ b < w.heap.size) x cs → T w' (fun b => g < b ∧ b < w'.heap.size) x cs) : EachI T f e c l g j w' := by
  obtain ⟨xs, h1, h2, h3⟩ := h
  refine ⟨xs, owns_below h1 hb (fun g' hg => by simp [Value.ownBlock] at hg; omega), Nat.lt_of_lt_of_le h2 hb.size, fun q hq => ?_⟩
  obtain ⟨x, hx, ht⟩ := h3 q hq
  exact ⟨x, hx, hT _ _ ht⟩
theorem VB.later {k : Nat} {g : Nat} {w w' : World} (hb : Below w.heap.size w w') (x : Vl) (cs : List Value) (h : VB k w (fun b => g < b ∧ b < w.heap.size) x cs) : VB k w' (fun b => g < b ∧ b < w'.heap.size) x cs :=
  VB.sub (fun _ hb' => ⟨hb'.1, Nat.lt_of_lt_of_le hb'.2 hb.size⟩) (Nat.le_refl _) (VB.keep (.of_below hb fun _ h => h.2) h)
theorem EB.later {k : Nat} {g : Nat} {w w' : World} (hb : Below w.heap.size w w') (x : En) (cs : List Value) (h : EB k w (fun b => g < b ∧ b < w.heap.size) x cs) : EB k w' (fun b => g < b ∧ b < w'.heap.size) x cs :=
  EB.sub (fun _ hb' => ⟨hb'.1, Nat.lt_of_lt_of_le hb'.2 hb.size⟩) (Nat.le_refl _) (EB.keep (.of_below hb fun _ h => h.2) h)
theorem EachI.store7 {k : Nat} {f : Vl → Vl} {e : TypeId} {l : List Vl} {g j p : Nat} {w : World} {x : Vl} {v0 v1 v2 v3 v4 v5 v6 : Value} (hp : p = j * 7) (h : EachI (fun w B x cs => VB k w B x cs) f e 7 l g j w) (hx : l[j]? = some x)
    (hv : VB k w (fun b => g < b ∧ b < w.heap.size) (f x) [v0, v1, v2, v3, v4, v5, v6]) : EachI (fun w B x cs => VB k w B x cs) f e 7 l g (j + 1) (((((((w.setCell ⟨g, p, none⟩ v0).setCell ⟨g, p + 1, none⟩ v1).setCell ⟨g, p + 2, none⟩ v2).setCell ⟨g, p + 3, none⟩ v3).setCell ⟨g, p + 4, none⟩ v4).setCell ⟨g, p + 5, none⟩ v5).setCell ⟨g, p + 6, none⟩ v6) := by
  subst hp
  obtain ⟨xs, h1, h2, h3⟩ := h
  have hj : j < l.length := (List.getElem?_eq_some_iff.1 hx).1
  have hsame : Same (fun b => g < b ∧ b < w.heap.size) w (((((((w.setCell ⟨g, j * 7, none⟩ v0).setCell ⟨g, j * 7 + 1, none⟩ v1).setCell ⟨g, j * 7 + 2, none⟩ v2).setCell ⟨g, j * 7 + 3, none⟩ v3).setCell ⟨g, j * 7 + 4, none⟩ v4).setCell ⟨g, j * 7 + 5, none⟩ v5).setCell ⟨g, j * 7 + 6, none⟩ v6) := (fun s => s) (same_setCell (same_setCell (same_setCell (same_setCell (same_setCell (same_setCell (same_setCell (Same.refl _ _) (by omega)) (by omega)) (by omega)) (by omega)) (by omega)) (by omega)) (by omega))
  have hle : (j + 1) * 7 ≤ l.length * 7 := Nat.mul_le_mul_right _ hj
  have hxl := h1.1
  have o0 := (h1.stored (j * 7) v0).1
  have o1 := (o0.stored (j * 7 + 1) v1).1
  have o2 := (o1.stored (j * 7 + 2) v2).1
  have o3 := (o2.stored (j * 7 + 3) v3).1
  have o4 := (o3.stored (j * 7 + 4) v4).1
  have o5 := (o4.stored (j * 7 + 5) v5).1
  have o6 := (o5.stored (j * 7 + 6) v6).1
  refine ⟨_, o6, by simpa using h2, fun q hq => ?_⟩
  by_cases hqj : q = j
  · subst hqj
    refine ⟨x, hx, ?_⟩
    have e := sub_set7 (xs := xs) (p := q * 7) v0 v1 v2 v3 v4 v5 v6 (by omega)
    show VB k _ _ (f x) _
    rw [e]
    exact VB.sub (fun b hb => ⟨hb.1, by simpa using hb.2⟩) (Nat.le_refl _) (VB.keep hsame hv)
  · obtain ⟨y, hy, ht⟩ := h3 q (by omega)
    have hlq : (q + 1) * 7 ≤ j * 7 := Nat.mul_le_mul_right _ (by omega)
    refine ⟨y, hy, ?_⟩
    show VB k _ _ (f y) _
    rw [sub_set (by omega), sub_set (by omega), sub_set (by omega), sub_set (by omega), sub_set (by omega), sub_set (by omega), sub_set (by omega)]
    exact VB.sub (fun b hb => ⟨hb.1, by simpa using hb.2⟩) (Nat.le_refl _) (VB.keep hsame ht)
theorem EachI.store9 {k : Nat} {f : En → En} {e : TypeId} {l : List En} {g j p : Nat} {w : World} {x : En} {v0 v1 v2 v3 v4 v5 v6 v7 v8 : Value} (hp : p = j * 9) (h : EachI (fun w B x cs => EB k w B x cs) f e 9 l g j w) (hx : l[j]? = some x)
    (hv : EB k w (fun b => g < b ∧ b < w.heap.size) (f x) [v0, v1, v2, v3, v4, v5, v6, v7, v8]) : EachI (fun w B x cs => EB k w B x cs) f e 9 l g (j + 1) (((((((((w.setCell ⟨g, p, none⟩ v0).setCell ⟨g, p + 1, none⟩ v1).setCell ⟨g, p + 2, none⟩ v2).setCell ⟨g, p + 3, none⟩ v3).setCell ⟨g, p + 4, none⟩ v4).setCell ⟨g, p + 5, none⟩ v5).setCell ⟨g, p + 6, none⟩ v6).setCell ⟨g, p + 7, none⟩ v7).setCell ⟨g, p + 8, none⟩ v8) := by
  subst hp
  obtain ⟨xs, h1, h2, h3⟩ := h
  have hj : j < l.length := (List.getElem?_eq_some_iff.1 hx).1
  have hsame : Same (fun b => g < b ∧ b < w.heap.size) w (((((((((w.setCell ⟨g, j * 9, none⟩ v0).setCell ⟨g, j * 9 + 1, none⟩ v1).setCell ⟨g, j * 9 + 2, none⟩ v2).setCell ⟨g, j * 9 + 3, none⟩ v3).setCell ⟨g, j * 9 + 4, none⟩ v4).setCell ⟨g, j * 9 + 5, none⟩ v5).setCell ⟨g, j * 9 + 6, none⟩ v6).setCell ⟨g, j * 9 + 7, none⟩ v7).setCell ⟨g, j * 9 + 8, none⟩ v8) := (fun s => s) (same_setCell (same_setCell (same_setCell (same_setCell (same_setCell (same_setCell (same_setCell (same_setCell (same_setCell (Same.refl _ _) (by omega)) (by omega)) (by omega)) (by omega)) (by omega)) (by omega)) (by omega)) (by omega)) (by omega))
  have hle : (j + 1) * 9 ≤ l.length * 9 := Nat.mul_le_mul_right _ hj
  have hxl := h1.1
  have o0 := (h1.stored (j * 9) v0).1
  have o1 := (o0.stored (j * 9 + 1) v1).1
  have o2 := (o1.stored (j * 9 + 2) v2).1
  have o3 := (o2.stored (j * 9 + 3) v3).1
  have o4 := (o3.stored (j * 9 + 4) v4).1
  have o5 := (o4.stored (j * 9 + 5) v5).1
  have o6 := (o5.stored (j * 9 + 6) v6).1
  have o7 := (o6.stored (j * 9 + 7) v7).1
  have o8 := (o7.stored (j * 9 + 8) v8).1
  refine ⟨_, o8, by simpa using h2, fun q hq => ?_⟩
  by_cases hqj : q = j
  · subst hqj
    refine ⟨x, hx, ?_⟩
    have e := sub_set9 (xs := xs) (p := q * 9) v0 v1 v2 v3 v4 v5 v6 v7 v8 (by omega)
    show EB k _ _ (f x) _
    rw [e]
    exact EB.sub (fun b hb => ⟨hb.1, by simpa using hb.2⟩) (Nat.le_refl _) (EB.keep hsame hv)
  · obtain ⟨y, hy, ht⟩ := h3 q (by omega)
    have hlq : (q + 1) * 9 ≤ j * 9 := Nat.mul_le_mul_right _ (by omega)
    refine ⟨y, hy, ?_⟩
    show EB k _ _ (f y) _
    rw [sub_set (by omega), sub_set (by omega), sub_set (by omega), sub_set (by omega), sub_set (by omega), sub_set (by omega), sub_set (by omega), sub_set (by omega), sub_set (by omega)]
    exact EB.sub (fun b hb => ⟨hb.1, by simpa using hb.2⟩) (Nat.le_refl _) (EB.keep hsame ht)
set_option maxRecDepth 100000 in
set_option maxHeartbeats 3200000 in
theorem each7 (k F : Nat) (eg : ∀ args w, (callFunc F args).run Tryz.prog w = .ok (.enter F args) w) (f : Vl → Vl)
    (hF : Hid (∀ (v : Vl) (cs : List Value) (w : World), VS k w w.heap.size v cs → sml v → Calls Tryz.prog F #[.agg cs.toArray] w fun e w' => ∃ cs', e = .returned (.agg cs'.toArray) ∧ VB k w' (fun b => w.heap.size ≤ b ∧ b < w'.heap.size) (f v) cs' ∧ Below w.heap.size w w'))
    (A : Option Addr) (cap : Nat) (l : List Vl) (w : World) (hl : RowP w w.heap.size 7 (.slice A l.length cap) l.length (fun j cs => ∃ x, l[j]? = some x ∧ VS k w w.heap.size x cs)) (hn : l.length ≤ 1048576) (hs : smlVs l) :
    Calls Tryz.prog 44 #[.slice A l.length cap, .func (.func F) #[] #[]] w fun e w' => ∃ u, e = .returned u ∧ RowB w' (fun b => w.heap.size ≤ b ∧ b < w'.heap.size) 7 u l.length (fun j cs => ∃ x, l[j]? = some x ∧ VB k w' (fun b => w.heap.size ≤ b ∧ b < w'.heap.size) (f x) cs) ∧ Below w.heap.size w w' := by
  rcases Nat.eq_zero_or_pos l.length with h0 | h0
  · have hr : l = [] := List.eq_nil_of_length_eq_zero h0
    subst hr
    clear hl hF
    go_enter Tryz.func44, Tryz.ntmps44
    go_wp2
    go_ret
    exact ⟨_, rfl, ⟨none, 0, rfl, ⟨Nat.zero_le _, Nat.le_refl _⟩, fun h => absurd h (by simp)⟩, Below.refl _ _⟩
  · obtain ⟨i0, hi, hz0, hz1, hz2⟩ := info_parts infoV
    have HL := Lib.hid hl
    have HS := Lib.hid (smlVs_iff.1 hs)
    clear hl hs
    obtain ⟨W, hmk, hown, hgr⟩ := run_make_full (P := Tryz.prog) w w.heap.size 22 27 i0 _ 7 Tryz.underlying22 hi hz0 hz1 .i64 .i64 l.length (by rw [hz2]; omega) (by unfold maxLen; omega) (Nat.le_refl _)
    have hbW : Below w.heap.size w W := (Below.refl _ w).grown hgr (Nat.le_refl _) (by intro k hk; cases hk)
    have hgW : w.heap.size < W.heap.size := by
      obtain ⟨_, hc⟩ := hown
      rcases hc with ⟨h, _⟩ | ⟨g, cap, cur, h, _, hg, _⟩
      · simp at h
      · injection h with h1 _ _
        injection h1 with h1
        injection h1 with h1
        rw [h1]
        exact (Array.getElem?_eq_some_iff.1 hg).1
    have hI : EachI (fun w B x cs => VB k w B x cs) f 27 7 l w.heap.size 0 W := ⟨_, hown, hgW, fun q hq => absurd hq (by omega)⟩
    have HI := Lib.hid hI
    have HBW := Lib.hid hbW
    have n0 : ((l.length : Int) == 0) = false := by rw [beq_eq_false_iff_ne]; omega
    clear hown hbW hgr hi hz0 hz1 hz2 hgW hI
    go_enter Tryz.func44, Tryz.ntmps44
    go_wp2_with fail
    clear hmk
    go_loopw [6, 16] (fun _ i wr => ∃ j : Nat, i = .int .i64 j ∧ j ≤ l.length ∧ Hid (EachI (fun w B x cs => VB k w B x cs) f 27 7 l w.heap.size j wr) ∧ Hid (Below w.heap.size w wr)) (fun _ i _ => l.length - (intOf i).toNat)
    case atStart => exact ⟨0, rfl, by omega, HI, HBW⟩
    case round =>
      obtain ⟨j, rfl, hj, HJ, HB⟩ := hrel
      by_cases hjn : j < l.length
      · obtain ⟨b, off, cap0, x0, x1, x2, x3, x4, x5, x6, hu, hbH, ⟨x, hx, hv⟩, c0, c1, c2, c3, c4, c5, c6⟩ := (HL.out.on HB.out (fun _ _ h => h)).at7 hjn
        injection hu with hA _ hcap
        subst hA hcap
        obtain ⟨a, i, s, B1, n1, d1, B2, n2, d2, B3, n3, d3, B4, n4, d4, hf⟩ := hv.form7
        simp only [List.cons.injEq, and_true] at hf
        obtain ⟨rfl, rfl, rfl, rfl, rfl, rfl, rfl⟩ := hf
        have kn : (j : Int) < (l.length : Int) := by omega
        have k0 : (0 : Int) ≤ (j : Int) := by omega
        have HX := Lib.hid hx
        have HVX := Lib.hid hv
        have HSX := Lib.hid (HS.out x (List.mem_of_getElem? hx))
        clear hx hv
        go_wp2_with fail
        rename World => U
        obtain ⟨W2, hW2⟩ : ∃ W2, W2 = U.alloc (.cells #[.int .i64 a, .int .i64 i, .string s, .slice B1 n1 d1, .slice B2 n2 d2, .slice B3 n3 d3, .slice B4 n4 d4] 27) := ⟨_, rfl⟩
        have hb2 : Below U.heap.size U W2 := by rw [hW2]; exact (Below.refl _ _).alloc (Nat.le_refl _) _
        have q0 : W2.cell? ⟨U.heap.size, 0, none⟩ = some (.int .i64 a) := by rw [hW2]; simp
        have q1 : W2.cell? ⟨U.heap.size, 1, none⟩ = some (.int .i64 i) := by rw [hW2]; simp
        have q2 : W2.cell? ⟨U.heap.size, 2, none⟩ = some (.string s) := by rw [hW2]; simp
        have q3 : W2.cell? ⟨U.heap.size, 3, none⟩ = some (.slice B1 n1 d1) := by rw [hW2]; simp
        have q4 : W2.cell? ⟨U.heap.size, 4, none⟩ = some (.slice B2 n2 d2) := by rw [hW2]; simp
        have q5 : W2.cell? ⟨U.heap.size, 5, none⟩ = some (.slice B3 n3 d3) := by rw [hW2]; simp
        have q6 : W2.cell? ⟨U.heap.size, 6, none⟩ = some (.slice B4 n4 d4) := by rw [hW2]; simp
        have hbw := HB.out.trans (hb2.mono HB.out.size)
        have hc := hF.out x _ W2 (VS.up hbw.size (Nat.le_refl _) (VS.on hbw HVX.out)) HSX.out
        have HB2 := Lib.hid hbw
        have HU2 := Lib.hid hb2
        rw [← hW2]
        clear hW2 hb2 hbw c0 c1 c2 c3 c4 c5 c6
        go_wp2_with fail
        refine hc.mono ?_
        rintro e w1 ⟨cs', rfl, hvb, hb1⟩
        clear hc q0 q1 q2 q3 q4 q5 q6
        have hbu := HU2.out.trans (hb1.mono HU2.out.size)
        have HI1 := EachI.below HJ.out hbu (fun x cs h => VB.later hbu x cs h)
        have HBw := Lib.hid (HB2.out.trans (hb1.mono HB2.out.size))
        obtain ⟨a', i', s', B1', n1', d1', B2', n2', d2', B3', n3', d3', B4', n4', d4', rfl⟩ := hvb.form7
        have HVB : Hid (VB k w1 (fun b => w.heap.size < b ∧ b < w1.heap.size) (f x) [.int .i64 a', .int .i64 i', .string s', .slice B1' n1' d1', .slice B2' n2' d2', .slice B3' n3' d3', .slice B4' n4' d4']) := Lib.hid (VB.sub (fun b hb => ⟨by have := hb.1; have := HU2.out.size; have := HJ.out.choose_spec.2.1; omega, hb.2⟩) (Nat.le_refl _) hvb)
        have hcell : ∀ i, i < 7 → ∃ u, w1.cell? ⟨w.heap.size, j * 7 + i, none⟩ = some u := by
          intro i hi
          obtain ⟨ys, hy, _⟩ := HI1
          have hle : (j + 1) * 7 ≤ l.length * 7 := Nat.mul_le_mul_right _ hjn
          rw [hy.cellAt _ (by omega)]
          exact ⟨_, List.getElem?_eq_getElem (by rw [hy.1]; omega)⟩
        have hfz : ∀ i, w1.frozen? ⟨w.heap.size, i, none⟩ = false := by
          obtain ⟨ys, hy, _⟩ := HI1
          exact hy.frozenAt
        obtain ⟨y0, s0⟩ := hcell 0 (by omega)
        obtain ⟨y1, s1⟩ := hcell 1 (by omega)
        obtain ⟨y2, s2⟩ := hcell 2 (by omega)
        obtain ⟨y3, s3⟩ := hcell 3 (by omega)
        obtain ⟨y4, s4⟩ := hcell 4 (by omega)
        obtain ⟨y5, s5⟩ := hcell 5 (by omega)
        obtain ⟨y6, s6⟩ := hcell 6 (by omega)
        simp only [Nat.add_zero] at s0
        have z0 := hfz (j * 7)
        have z1 := hfz (j * 7 + 1)
        have z2 := hfz (j * 7 + 2)
        have z3 := hfz (j * 7 + 3)
        have z4 := hfz (j * 7 + 4)
        have z5 := hfz (j * 7 + 5)
        have z6 := hfz (j * 7 + 6)
        have HI2 := Lib.hid HI1
        clear hcell hfz HI1 hbu hvb hb1
        go_wp2
        clear s0 s1 s2 s3 s4 s5 s6 z0 z1 z2 z3 z4 z5 z6
        go_roundw
        case rel => exact ⟨j + 1, by go_num, by omega, Lib.hid (EachI.store7 rfl HI2.out HX.out HVB.out), Lib.hid (Below.setCell (Below.setCell (Below.setCell (Below.setCell (Below.setCell (Below.setCell (Below.setCell (HBw.out) (p := ⟨w.heap.size, j * 7, none⟩) (Nat.le_refl _) _) (p := ⟨w.heap.size, j * 7 + 1, none⟩) (Nat.le_refl _) _) (p := ⟨w.heap.size, j * 7 + 2, none⟩) (Nat.le_refl _) _) (p := ⟨w.heap.size, j * 7 + 3, none⟩) (Nat.le_refl _) _) (p := ⟨w.heap.size, j * 7 + 4, none⟩) (Nat.le_refl _) _) (p := ⟨w.heap.size, j * 7 + 5, none⟩) (Nat.le_refl _) _) (p := ⟨w.heap.size, j * 7 + 6, none⟩) (Nat.le_refl _) _)⟩
        case measure => simp [intOf]; omega
      · have hje : j = l.length := by omega
        have HJE := Lib.hid hje
        have kn : ¬ (j : Int) < (l.length : Int) := by omega
        clear hje
        go_wp2
        go_ret
        obtain ⟨xs, h1, h2, h3⟩ := HJ.out
        refine ⟨_, rfl, row_of_owns h1 (by unfold maxLen; omega) (fun g _ h h' => ⟨h, h'⟩) (fun q hq => ?_) (by omega), HB.out⟩
        obtain ⟨x, hx, hv⟩ := h3 q (by have := HJE.out; omega)
        exact ⟨x, hx, VB.sub (fun b hb => ⟨Nat.le_of_lt hb.1, hb.2⟩) (Nat.le_refl _) hv⟩
set_option maxRecDepth 100000 in
set_option maxHeartbeats 3200000 in
theorem each9 (k F : Nat) (eg : ∀ args w, (callFunc F args).run Tryz.prog w = .ok (.enter F args) w) (f : En → En)
    (hF : Hid (∀ (v : En) (cs : List Value) (w : World), ES k w w.heap.size v cs → smlE v → Calls Tryz.prog F #[.agg cs.toArray] w fun e w' => ∃ cs', e = .returned (.agg cs'.toArray) ∧ EB k w' (fun b => w.heap.size ≤ b ∧ b < w'.heap.size) (f v) cs' ∧ Below w.heap.size w w'))
    (A : Option Addr) (cap : Nat) (l : List En) (w : World) (hl : RowP w w.heap.size 9 (.slice A l.length cap) l.length (fun j cs => ∃ x, l[j]? = some x ∧ ES k w w.heap.size x cs)) (hn : l.length ≤ 100000000) (hs : smlEs l) :
    Calls Tryz.prog 69 #[.slice A l.length cap, .func (.func F) #[] #[]] w fun e w' => ∃ u, e = .returned u ∧ RowB w' (fun b => w.heap.size ≤ b ∧ b < w'.heap.size) 9 u l.length (fun j cs => ∃ x, l[j]? = some x ∧ EB k w' (fun b => w.heap.size ≤ b ∧ b < w'.heap.size) (f x) cs) ∧ Below w.heap.size w w' := by
  rcases Nat.eq_zero_or_pos l.length with h0 | h0
  · have hr : l = [] := List.eq_nil_of_length_eq_zero h0
    subst hr
    clear hl hF
    go_enter Tryz.func69, Tryz.ntmps69
    go_wp2
    go_ret
    exact ⟨_, rfl, ⟨none, 0, rfl, ⟨Nat.zero_le _, Nat.le_refl _⟩, fun h => absurd h (by simp)⟩, Below.refl _ _⟩
  · obtain ⟨i0, hi, hz0, hz1, hz2⟩ := info_parts infoE
    have HL := Lib.hid hl
    have HS := Lib.hid (smlEs_iff.1 hs)
    clear hl hs
    obtain ⟨W, hmk, hown, hgr⟩ := run_make_full (P := Tryz.prog) w w.heap.size 24 55 i0 _ 9 Tryz.underlying24 hi hz0 hz1 .i64 .i64 l.length (by rw [hz2]; omega) (by unfold maxLen; omega) (Nat.le_refl _)
    have hbW : Below w.heap.size w W := (Below.refl _ w).grown hgr (Nat.le_refl _) (by intro k hk; cases hk)
    have hgW : w.heap.size < W.heap.size := by
      obtain ⟨_, hc⟩ := hown
      rcases hc with ⟨h, _⟩ | ⟨g, cap, cur, h, _, hg, _⟩
      · simp at h
      · injection h with h1 _ _
        injection h1 with h1
        injection h1 with h1
        rw [h1]
        exact (Array.getElem?_eq_some_iff.1 hg).1
    have hI : EachI (fun w B x cs => EB k w B x cs) f 55 9 l w.heap.size 0 W := ⟨_, hown, hgW, fun q hq => absurd hq (by omega)⟩
    have HI := Lib.hid hI
    have HBW := Lib.hid hbW
    have n0 : ((l.length : Int) == 0) = false := by rw [beq_eq_false_iff_ne]; omega
    clear hown hbW hgr hi hz0 hz1 hz2 hgW hI
    go_enter Tryz.func69, Tryz.ntmps69
    go_wp2_with fail
    clear hmk
    go_loopw [6, 16] (fun _ i wr => ∃ j : Nat, i = .int .i64 j ∧ j ≤ l.length ∧ Hid (EachI (fun w B x cs => EB k w B x cs) f 55 9 l w.heap.size j wr) ∧ Hid (Below w.heap.size w wr)) (fun _ i _ => l.length - (intOf i).toNat)
    case atStart => exact ⟨0, rfl, by omega, HI, HBW⟩
    case round =>
      obtain ⟨j, rfl, hj, HJ, HB⟩ := hrel
      by_cases hjn : j < l.length
      · obtain ⟨b, off, cap0, x0, x1, x2, x3, x4, x5, x6, x7, x8, hu, hbH, ⟨x, hx, hv⟩, c0, c1, c2, c3, c4, c5, c6, c7, c8⟩ := (HL.out.on HB.out (fun _ _ h => h)).at9 hjn
        injection hu with hA _ hcap
        subst hA hcap
        obtain ⟨B0, n0, d0, g0, a, i, s, B1, n1, d1, B2, n2, d2, B3, n3, d3, B4, n4, d4, hf⟩ := hv.form9
        simp only [List.cons.injEq, and_true] at hf
        obtain ⟨rfl, rfl, rfl, rfl, rfl, rfl, rfl, rfl, rfl⟩ := hf
        have kn : (j : Int) < (l.length : Int) := by omega
        have k0 : (0 : Int) ≤ (j : Int) := by omega
        have HX := Lib.hid hx
        have HVX := Lib.hid hv
        have HSX := Lib.hid (HS.out x (List.mem_of_getElem? hx))
        clear hx hv
        go_wp2_with fail
        rename World => U
        obtain ⟨W2, hW2⟩ : ∃ W2, W2 = U.alloc (.cells #[.slice B0 n0 d0, .bool g0, .int .i64 a, .int .i64 i, .string s, .slice B1 n1 d1, .slice B2 n2 d2, .slice B3 n3 d3, .slice B4 n4 d4] 55) := ⟨_, rfl⟩
        have hb2 : Below U.heap.size U W2 := by rw [hW2]; exact (Below.refl _ _).alloc (Nat.le_refl _) _
        have q0 : W2.cell? ⟨U.heap.size, 0, none⟩ = some (.slice B0 n0 d0) := by rw [hW2]; simp
        have q1 : W2.cell? ⟨U.heap.size, 1, none⟩ = some (.bool g0) := by rw [hW2]; simp
        have q2 : W2.cell? ⟨U.heap.size, 2, none⟩ = some (.int .i64 a) := by rw [hW2]; simp
        have q3 : W2.cell? ⟨U.heap.size, 3, none⟩ = some (.int .i64 i) := by rw [hW2]; simp
        have q4 : W2.cell? ⟨U.heap.size, 4, none⟩ = some (.string s) := by rw [hW2]; simp
        have q5 : W2.cell? ⟨U.heap.size, 5, none⟩ = some (.slice B1 n1 d1) := by rw [hW2]; simp
        have q6 : W2.cell? ⟨U.heap.size, 6, none⟩ = some (.slice B2 n2 d2) := by rw [hW2]; simp
        have q7 : W2.cell? ⟨U.heap.size, 7, none⟩ = some (.slice B3 n3 d3) := by rw [hW2]; simp
        have q8 : W2.cell? ⟨U.heap.size, 8, none⟩ = some (.slice B4 n4 d4) := by rw [hW2]; simp
        have hbw := HB.out.trans (hb2.mono HB.out.size)
        have hc := hF.out x _ W2 (ES.up hbw.size (Nat.le_refl _) (ES.on hbw HVX.out)) HSX.out
        have HB2 := Lib.hid hbw
        have HU2 := Lib.hid hb2
        rw [← hW2]
        clear hW2 hb2 hbw c0 c1 c2 c3 c4 c5 c6 c7 c8
        go_wp2_with fail
        refine hc.mono ?_
        rintro e w1 ⟨cs', rfl, hvb, hb1⟩
        clear hc q0 q1 q2 q3 q4 q5 q6 q7 q8
        have hbu := HU2.out.trans (hb1.mono HU2.out.size)
        have HI1 := EachI.below HJ.out hbu (fun x cs h => EB.later hbu x cs h)
        have HBw := Lib.hid (HB2.out.trans (hb1.mono HB2.out.size))
        obtain ⟨B0', n0', d0', g0', a', i', s', B1', n1', d1', B2', n2', d2', B3', n3', d3', B4', n4', d4', rfl⟩ := hvb.form9
        have HVB : Hid (EB k w1 (fun b => w.heap.size < b ∧ b < w1.heap.size) (f x) [.slice B0' n0' d0', .bool g0', .int .i64 a', .int .i64 i', .string s', .slice B1' n1' d1', .slice B2' n2' d2', .slice B3' n3' d3', .slice B4' n4' d4']) := Lib.hid (EB.sub (fun b hb => ⟨by have := hb.1; have := HU2.out.size; have := HJ.out.choose_spec.2.1; omega, hb.2⟩) (Nat.le_refl _) hvb)
        have hcell : ∀ i, i < 9 → ∃ u, w1.cell? ⟨w.heap.size, j * 9 + i, none⟩ = some u := by
          intro i hi
          obtain ⟨ys, hy, _⟩ := HI1
          have hle : (j + 1) * 9 ≤ l.length * 9 := Nat.mul_le_mul_right _ hjn
          rw [hy.cellAt _ (by omega)]
          exact ⟨_, List.getElem?_eq_getElem (by rw [hy.1]; omega)⟩
        have hfz : ∀ i, w1.frozen? ⟨w.heap.size, i, none⟩ = false := by
          obtain ⟨ys, hy, _⟩ := HI1
          exact hy.frozenAt
        obtain ⟨y0, s0⟩ := hcell 0 (by omega)
        obtain ⟨y1, s1⟩ := hcell 1 (by omega)
        obtain ⟨y2, s2⟩ := hcell 2 (by omega)
        obtain ⟨y3, s3⟩ := hcell 3 (by omega)
        obtain ⟨y4, s4⟩ := hcell 4 (by omega)
        obtain ⟨y5, s5⟩ := hcell 5 (by omega)
        obtain ⟨y6, s6⟩ := hcell 6 (by omega)
        obtain ⟨y7, s7⟩ := hcell 7 (by omega)
        obtain ⟨y8, s8⟩ := hcell 8 (by omega)
        simp only [Nat.add_zero] at s0
        have z0 := hfz (j * 9)
        have z1 := hfz (j * 9 + 1)
        have z2 := hfz (j * 9 + 2)
        have z3 := hfz (j * 9 + 3)
        have z4 := hfz (j * 9 + 4)
        have z5 := hfz (j * 9 + 5)
        have z6 := hfz (j * 9 + 6)
        have z7 := hfz (j * 9 + 7)
        have z8 := hfz (j * 9 + 8)
        have HI2 := Lib.hid HI1
        clear hcell hfz HI1 hbu hvb hb1
        go_wp2
        clear s0 s1 s2 s3 s4 s5 s6 s7 s8 z0 z1 z2 z3 z4 z5 z6 z7 z8
        go_roundw
        case rel => exact ⟨j + 1, by go_num, by omega, Lib.hid (EachI.store9 rfl HI2.out HX.out HVB.out), Lib.hid (Below.setCell (Below.setCell (Below.setCell (Below.setCell (Below.setCell (Below.setCell (Below.setCell (Below.setCell (Below.setCell (HBw.out) (p := ⟨w.heap.size, j * 9, none⟩) (Nat.le_refl _) _) (p := ⟨w.heap.size, j * 9 + 1, none⟩) (Nat.le_refl _) _) (p := ⟨w.heap.size, j * 9 + 2, none⟩) (Nat.le_refl _) _) (p := ⟨w.heap.size, j * 9 + 3, none⟩) (Nat.le_refl _) _) (p := ⟨w.heap.size, j * 9 + 4, none⟩) (Nat.le_refl _) _) (p := ⟨w.heap.size, j * 9 + 5, none⟩) (Nat.le_refl _) _) (p := ⟨w.heap.size, j * 9 + 6, none⟩) (Nat.le_refl _) _) (p := ⟨w.heap.size, j * 9 + 7, none⟩) (Nat.le_refl _) _) (p := ⟨w.heap.size, j * 9 + 8, none⟩) (Nat.le_refl _) _)⟩
        case measure => simp [intOf]; omega
      · have hje : j = l.length := by omega
        have HJE := Lib.hid hje
        have kn : ¬ (j : Int) < (l.length : Int) := by omega
        clear hje
        go_wp2
        go_ret
        obtain ⟨xs, h1, h2, h3⟩ := HJ.out
        refine ⟨_, rfl, row_of_owns h1 (by unfold maxLen; omega) (fun g _ h h' => ⟨h, h'⟩) (fun q hq => ?_) (by omega), HB.out⟩
        obtain ⟨x, hx, hv⟩ := h3 q (by have := HJE.out; omega)
        exact ⟨x, hx, EB.sub (fun b hb => ⟨Nat.le_of_lt hb.1, hb.2⟩) (Nat.le_refl _) hv⟩
end Go.Proofs.YtjfknigiehggkaaGreat
