/- slices.Contains at terms. -/
import Derived.Test.YtplmbmecjhmiiaaDoorMapT6
import Derived.Test.YtplmbmecjhmiiaaDoorOrd6
import Derived.Test.YtplmbmecjhmiiaaDoorFix6
namespace Go.Proofs.YtplmbmecjhmiiaaDoor
open Go Go.RowKit
theorem eql_t (x y : Tm) (h : x ≠ y) (V : World) : (binOp .eql 64 (.agg #[.int .u64 x.1, .int .u64 x.2]) (.agg #[.int .u64 y.1, .int .u64 y.2])).run Tryd.prog V = .ok (.bool false) V := by
  obtain ⟨a, b⟩ := x
  obtain ⟨c, d⟩ := y
  go_simp
  intro h1 h2
  exact h (Prod.ext (by omega) (by omega))
theorem eql_t' (x : Tm) (V : World) : (binOp .eql 64 (.agg #[.int .u64 x.1, .int .u64 x.2]) (.agg #[.int .u64 x.1, .int .u64 x.2])).run Tryd.prog V = .ok (.bool true) V := by
  go_simp
/-- what Index gives: the first place, or -1 -/
def IxPost (l : List Tm) (x : Tm) (w : World) (e : Ending) (w' : World) : Prop := ∃ i : Int, e = .returned (.int .i64 i) ∧ (0 ≤ i ↔ x ∈ l) ∧ Below w.heap.size w w'
set_option maxRecDepth 100000 in
set_option maxHeartbeats 3200000 in
theorem index_any (v : Value) (l : List Tm) (x : Tm) (w : World) (h : TmR w (fun b => b < w.heap.size) v l) (hl : l.length ≤ 100000) :
    Calls Tryd.prog 48 #[v, .agg #[.int .u64 x.1, .int .u64 x.2]] w (IxPost l x w) := by
  obtain ⟨A, c, rfl⟩ := h.form
  obtain ⟨n, hn⟩ : ∃ n, n = l.length := ⟨_, rfl⟩
  rw [← hn] at hl h ⊢
  have HN := Lib.hid (And.intro h (And.intro hn.symm hl))
  obtain ⟨x1, x2⟩ := x
  dsimp only
  obtain ⟨W, hW⟩ : ∃ W, W = w.alloc (.cells #[.int .u64 x1, .int .u64 x2] 64) := ⟨_, rfl⟩
  have hb : Below w.heap.size w W := by rw [hW]; exact (Below.refl _ _).alloc (Nat.le_refl _) _
  have kx : W.heap[w.heap.size]? = some (.cells #[.int .u64 x1, .int .u64 x2] 64 (0, 0)) := by rw [hW]; exact heap_alloc_new w _
  have HK : Hid (∀ V, Below W.heap.size W V → (V.cell? ⟨w.heap.size, 0, none⟩ = some (.int .u64 x1) ∧ V.cell? ⟨w.heap.size, 1, none⟩ = some (.int .u64 x2)) ∧ Below w.heap.size w V) := Lib.hid fun V hV => ⟨cells2 ((hV.block _ (lt_of_heap kx)).trans kx), hb.trans (hV.mono hb.size)⟩
  clear h hl hn hb kx
  go_enter Tryd.func48, Tryd.ntmps48
  go_wp2_with fail
  rw [← hW]
  clear hW
  go_loopw [5, 8] (fun _ i wr => ∃ k : Nat, i = .int .i64 k ∧ k ≤ n ∧ Hid (∀ j, j < k → l[j]? ≠ some (x1, x2)) ∧ Hid (Below W.heap.size W wr)) (fun _ i _ => n - (intOf i).toNat)
  case atStart => exact ⟨0, rfl, by omega, Lib.hid (fun j hj => absurd hj (by omega)), Lib.hid (Below.refl _ _)⟩
  case round =>
    obtain ⟨k, rfl, hk, h0, hwr⟩ := hrel
    obtain ⟨⟨y0, y1⟩, hbw⟩ := HK.out _ hwr.out
    by_cases hkn : k < n
    · obtain ⟨gI, gn, gl⟩ := HN.out
      obtain ⟨b, off, y, rfl, hbl, hx, c0, c1⟩ := (gI.on hbw).at (show k < l.length by omega)
      have kn : (k : Int) < (n : Int) := by omega
      have k0 : (0 : Int) ≤ (k : Int) := by omega
      have hwk : IntKind.i64.wrap ((k : Int) + 1) = ((k + 1 : Nat) : Int) := by rw [IntWalk.i64_in _ (by omega)]; omega
      obtain ⟨z1, z2⟩ := y
      dsimp only at c0 c1
      have HX := Lib.hid (And.intro hkn hx)
      have HB := Lib.hid (hwr.out.drew)
      have HBW := Lib.hid hbw.drew
      have HE : Hid (wr.drew.cell? ⟨w.heap.size, 0, none⟩ = some (.int .u64 x1) ∧ wr.drew.cell? ⟨w.heap.size, 1, none⟩ = some (.int .u64 x2) ∧ wr.drew.cell? ⟨b, off + k * 2, none⟩ = some (.int .u64 z1) ∧ wr.drew.cell? ⟨b, off + k * 2 + 1, none⟩ = some (.int .u64 z2)) := Lib.hid ⟨y0, y1, c0, c1⟩
      by_cases hxy : ((x1, x2) : Tm) = (z1, z2)
      · have hm : ((x1, x2) : Tm) ∈ l := by rw [hxy]; exact List.mem_of_getElem? hx
        have HF : Hid (IxPost l (x1, x2) w (.returned (.int .i64 k)) wr.drew) := Lib.hid ⟨k, rfl, ⟨fun _ => hm, fun _ => by omega⟩, HBW.out⟩
        injection hxy with hx1 hx2
        subst hx1 hx2
        have hq := eql_t' (x1, x2)
        dsimp only at hq
        clear gI gn gl hkn hx hk hm hbl hbw
        go_wp2_with fail
        clear y0 y1 c0 c1
        refine wp_region_held_drew (S := fun V => V.cell? ⟨w.heap.size, 0, none⟩ = some (.int .u64 x1) ∧ V.cell? ⟨w.heap.size, 1, none⟩ = some (.int .u64 x2) ∧ V.cell? ⟨b, off + k * 2, none⟩ = some (.int .u64 x1) ∧ V.cell? ⟨b, off + k * 2 + 1, none⟩ = some (.int .u64 x2)) (by kernel_rfl) HE.out (fun _ => ?_)
        refine tk 0 (HE.out) ?_
        try simp only [Act.put, pA, pB, pC]
        refine tk 1 (HE.out) ?_
        try simp only [Act.put, pA, pB, pC]
        refine tk 2 (HE.out) ?_
        try simp only [Act.put, pA, pB, pC]
        refine tk 3 (HE.out) ?_
        try simp only [Act.put, pA, pB, pC]
        refine tk 4 (HE.out) ?_
        try simp only [Act.put, pA, pB, pC]
        refine tk 5 (HE.out) ?_
        try simp only [Act.put, pA, pB, pC]
        refine wpAnyH_done (by kernel_rfl) ?_ _
        clear hq
        go_wp2
        go_ret
        exact HF.out
      · have HN2 : Hid (∀ j, j < k + 1 → l[j]? ≠ some (x1, x2)) := Lib.hid fun j hj => by
          rcases Nat.lt_or_eq_of_le (Nat.le_of_lt_succ hj) with h | h
          · exact h0.out j h
          · rw [h, hx]; intro e; exact hxy (Option.some.inj e).symm
        have hq := eql_t (x1, x2) (z1, z2) hxy
        dsimp only at hq
        clear gI gn gl hkn hx hk hxy hbl hbw
        go_wp2_with fail
        clear y0 y1 c0 c1
        refine wp_region_held_drew (S := fun V => V.cell? ⟨w.heap.size, 0, none⟩ = some (.int .u64 x1) ∧ V.cell? ⟨w.heap.size, 1, none⟩ = some (.int .u64 x2) ∧ V.cell? ⟨b, off + k * 2, none⟩ = some (.int .u64 z1) ∧ V.cell? ⟨b, off + k * 2 + 1, none⟩ = some (.int .u64 z2)) (by kernel_rfl) HE.out (fun _ => ?_)
        refine tk 0 (HE.out) ?_
        try simp only [Act.put, pA, pB, pC]
        refine tk 1 (HE.out) ?_
        try simp only [Act.put, pA, pB, pC]
        refine tk 2 (HE.out) ?_
        try simp only [Act.put, pA, pB, pC]
        refine tk 3 (HE.out) ?_
        try simp only [Act.put, pA, pB, pC]
        refine tk 4 (HE.out) ?_
        try simp only [Act.put, pA, pB, pC]
        refine tk 5 (HE.out) ?_
        try simp only [Act.put, pA, pB, pC]
        refine wpAnyH_done (by kernel_rfl) ?_ _
        clear hq
        go_wp2
        go_roundw
        case rel => exact ⟨k + 1, by go_num, by have := HX.out.1; omega, HN2, HB⟩
        case measure => have := HX.out.1; simp [intOf]; omega
    · have q1 : ¬ (k : Int) < (n : Int) := by omega
      have HF : Hid (IxPost l (x1, x2) w (.returned (.int .i64 (-1))) wr) := Lib.hid ⟨-1, rfl, ⟨fun h => absurd h (by omega), fun h => by
        obtain ⟨j, hj⟩ := List.getElem?_of_mem h
        have hjl := (List.getElem?_eq_some_iff.1 hj).1
        exact absurd hj (h0.out j (by have := HN.out.2.1; omega))⟩, hbw⟩
      clear hk hkn hbw
      go_wp2
      go_ret
      exact HF.out
set_option maxRecDepth 100000 in
set_option maxHeartbeats 1600000 in
theorem contains_any (v : Value) (l : List Tm) (x : Tm) (w : World) (h : TmR w (fun b => b < w.heap.size) v l) (hl : l.length ≤ 100000) (b : Bool) (hb : b = true ↔ x ∈ l) :
    Calls Tryd.prog 33 #[v, .agg #[.int .u64 x.1, .int .u64 x.2]] w fun e w' => e = .returned (.bool b) ∧ Below w.heap.size w w' := by
  obtain ⟨W, hW⟩ : ∃ W, W = w.alloc (.cells #[.int .u64 x.1, .int .u64 x.2] 64) := ⟨_, rfl⟩
  have hbW : Below w.heap.size w W := by rw [hW]; exact (Below.refl _ _).alloc (Nat.le_refl _) _
  have kx : W.heap[w.heap.size]? = some (.cells #[.int .u64 x.1, .int .u64 x.2] 64 (0, 0)) := by rw [hW]; exact heap_alloc_new w _
  have HI := Lib.hid (index_any v l x W ((h.on hbW).up hbW.size) hl)
  have HB := Lib.hid (And.intro hbW hb)
  obtain ⟨x1, x2⟩ := x
  obtain ⟨d0, d1⟩ := cells2 kx
  dsimp only at *
  rw [hW] at d0 d1
  clear h hl hb hbW kx
  go_enter Tryd.func33, Tryd.ntmps33
  go_wp2_with fail
  rw [← hW]
  clear hW d0 d1
  refine HI.out.mono ?_
  rintro e w1 ⟨i, rfl, hi, hb1⟩
  have HZ := Lib.hid (HB.out.1.trans (hb1.mono HB.out.1.size))
  have he : decide (0 ≤ i) = b := by rw [Bool.eq_iff_iff, decide_eq_true_eq]; exact hi.trans HB.out.2.symm
  have HE := Lib.hid he
  clear hi hb1 he
  go_wp2
  go_ret
  exact ⟨rb6 HE.out, HZ.out⟩
end Go.Proofs.YtplmbmecjhmiiaaDoor
namespace Go.Proofs.YtplmbmecjhmiiaaDoor
open Go Go.RowKit
/-- what termsOf gives -/
def TsPost (l : List (List Int × List Int)) (w : World) (e : Ending) (w' : World) : Prop :=
  ((OkP l → ∃ v, e = .returned (.tuple #[v, .bool true]) ∧ OwnT w' w.heap.size v (termsL l)) ∧ (¬ OkP l → e = .returned (.tuple #[.slice none 0 0, .bool false]))) ∧ Below w.heap.size w w'
/-- the terms so far, and the map of them -/
structure TsR (w : World) (mb : Nat) (l : List (List Int × List Int)) (k r : Nat) (Ao : Option Addr) (cap : Nat) (V : World) : Prop where
  own : OwnT V w.heap.size (.slice Ao r cap) (termsL (l.take k))
  len : (termsL (l.take k)).length = r
  map : MapT V mb k (termsL (l.take k))
  lo : w.heap.size ≤ mb
  apart : (Value.slice Ao r cap).ownBlock ≠ some mb
  ok : OkP (l.take k)
  below : Below w.heap.size w V
theorem OwnT.kept1 {w w' : World} {base : Nat} {v : Value} {l : List Tm} (h : OwnT w base v l) (hs : w.heap.size ≤ w'.heap.size) (hb : ∀ g, v.ownBlock = some g → w'.heap[g]? = w.heap[g]?) : OwnT w' base v l := by
  obtain ⟨xs, ho, hx⟩ := h
  refine ⟨xs, ⟨ho.1, ?_⟩, fun j x hj => hx j x hj⟩
  rcases ho.2 with hn | ⟨g, cap, cur, rfl, hB, hg, rest⟩
  · exact .inl hn
  · exact .inr ⟨g, cap, cur, rfl, hB, (hb g rfl).trans hg, rest⟩
theorem MapT.more {w : World} {b n n' : Nat} {acc : List Tm} (h : MapT w b n acc) (hn : n ≤ n') : MapT w b n' acc := by
  obtain ⟨D, ⟨es, clock, hh, F, hs, hD⟩, h2⟩ := h
  exact ⟨D, ⟨es, clock, hh, F, by omega, hD⟩, h2⟩
theorem TsR.old {w : World} {mb : Nat} {l : List (List Int × List Int)} {k r : Nat} {Ao : Option Addr} {cap : Nat} {V V' : World} (h : TsR w mb l k r Ao cap V) (hb : Below V.heap.size V V') : TsR w mb l k r Ao cap V' :=
  ⟨h.own.old hb, h.len, h.map.kept (hb.block _ h.map.lt), h.lo, h.apart, h.ok, h.below.trans (hb.mono h.below.size)⟩
theorem okP_snoc {l : List (List Int × List Int)} {x : List Int × List Int} (h : OkP l) (hx : Lit12 x.1 ∧ Lit12 x.2) : OkP (l ++ [x]) := fun y hy => by
  rcases List.mem_append.1 hy with hy | hy
  · exact h y hy
  · rw [List.mem_singleton] at hy; subst hy; exact hx
set_option maxRecDepth 100000 in
set_option maxHeartbeats 6400000 in
theorem termsOf_any (v : Value) (l : List (List Int × List Int)) (w : World) (h : PthR w w.heap.size v l) (hl : l.length ≤ 1000) (hx : ∀ x, x ∈ l → x.1.length ≤ 1000 ∧ x.2.length ≤ 1000) :
    Calls Tryd.prog 15 #[v] w (TsPost l w) := by
  have hf := h
  obtain ⟨A, c, rfl, _⟩ := RowB.form hf
  obtain ⟨n, hn⟩ : ∃ n, n = l.length := ⟨_, rfl⟩
  rw [← hn] at hl h ⊢
  have HN := Lib.hid (And.intro h (And.intro hn.symm (And.intro hl hx)))
  have HF : Hid (∀ e w', TsPost l w e w' → TsPost l w e w') := Lib.hid fun _ _ h => h
  clear h hl hx hn hf
  go_enter Tryd.func15, Tryd.ntmps15
  have hmk := run_makeMap (P := Tryd.prog) 59 w
  go_wp2_with fail
  clear hmk
  have hM0 := MapT.made w
  have HR0 : Hid (TsR w w.heap.size l 0 0 none 0 (w.alloc (.map #[] 0))) := Lib.hid ⟨OwnE.nil _ _ _ _ _, rfl, hM0, Nat.le_refl _, by simp [Value.ownBlock], fun x hx => by simp at hx, (Below.refl _ _).alloc (Nat.le_refl _) _⟩
  clear hM0
  go_loopw [2, 6, 7, 8, 9, 10, 11, 15] (fun s _ _ _ _ _ _ i wr => ∃ (k r : Nat) (Ao : Option Addr) (cap : Nat), i = .int .i64 k ∧ k ≤ n ∧ s = .slice Ao r cap ∧ Hid (TsR w w.heap.size l k r Ao cap wr)) (fun _ _ _ _ _ _ _ i _ => n - (intOf i).toNat)
  case atStart => exact ⟨0, 0, none, 0, rfl, by omega, rfl, HR0⟩
  case round =>
    obtain ⟨k, r, Ao, cap, rfl, hk, rfl, hR⟩ := hrel
    by_cases hkn : k < n
    · obtain ⟨gP, gn, gl, gx⟩ := HN.out
      obtain ⟨b, off, x, s, t, rfl, _, hx, hs, ht, c0, c1⟩ := (gP.on hR.out.below).at gn hkn
      obtain ⟨lx1, lx2⟩ := gx x (List.mem_of_getElem? hx)
      have hr9 : r ≤ 1000 := by
        have h1 := hR.out.len
        have h2 := termsL_len (l.take k)
        rw [List.length_take] at h2
        omega
      obtain ⟨S1, c1s, rfl, _⟩ := RowB.form hs
      obtain ⟨S2, c2s, rfl, _⟩ := RowB.form ht
      have kn : (k : Int) < (n : Int) := by omega
      have k0 : (0 : Int) ≤ (k : Int) := by omega
      have hwk : IntKind.i64.wrap ((k : Int) + 1) = ((k + 1 : Nat) : Int) := by rw [IntWalk.i64_in _ (by omega)]; omega
      obtain ⟨V4, hV4⟩ : ∃ V4, V4 = wr.alloc (.cells #[.slice S1 x.1.length c1s, .slice S2 x.2.length c2s] 26) := ⟨_, rfl⟩
      have hb4 : Below wr.heap.size wr V4 := by rw [hV4]; exact (Below.refl _ _).alloc (Nat.le_refl _) _
      have k4 : V4.heap[wr.heap.size]? = some (.cells #[.slice S1 x.1.length c1s, .slice S2 x.2.length c2s] 26 (0, 0)) := by rw [hV4]; exact heap_alloc_new wr _
      have hR4 := hR.out.old hb4
      have HR4 := Lib.hid hR4
      have hs4 := RowB.on (H := w.heap.size) hs (hb4.mono hR.out.below.size) (fun _ _ h => h)
      have ht4 := RowB.on (H := w.heap.size) ht (hb4.mono hR.out.below.size) (fun _ _ h => h)
      have HS1 : Hid (∀ V, Below V4.heap.size V4 V → Calls Tryd.prog 30 #[.slice S1 x.1.length c1s] V (SetPost x.1 V)) := Lib.hid fun V hV => setOf_any _ _ V (RowB.sub (RowB.on hs4 (hV.mono hR4.below.size) (fun _ _ h => h)) (fun b hb => Nat.lt_of_lt_of_le hb (Nat.le_trans hR4.below.size hV.size)) (fun _ _ h => h)) (by omega)
      have HS2 : Hid (∀ V, Below V4.heap.size V4 V → Calls Tryd.prog 30 #[.slice S2 x.2.length c2s] V (SetPost x.2 V)) := Lib.hid fun V hV => setOf_any _ _ V (RowB.sub (RowB.on ht4 (hV.mono hR4.below.size) (fun _ _ h => h)) (fun b hb => Nat.lt_of_lt_of_le hb (Nat.le_trans hR4.below.size hV.size)) (fun _ _ h => h)) (by omega)
      have HK4 : Hid (∀ V, Below V4.heap.size V4 V → V.cell? ⟨wr.heap.size, 0, none⟩ = some (.slice S1 x.1.length c1s) ∧ V.cell? ⟨wr.heap.size, 1, none⟩ = some (.slice S2 x.2.length c2s)) := Lib.hid fun V hV => cells2 ((hV.block _ (lt_of_heap k4)).trans k4)
      have HX := Lib.hid (And.intro hkn (And.intro hx hr9))
      obtain ⟨f0, f1⟩ := HK4.out _ (Below.refl _ V4)
      rw [hV4] at f0 f1
      generalize x.1.length = p1 at *
      generalize x.2.length = p2 at *
      clear gP gn gl gx hx hs ht lx1 lx2 hr9 hkn hk hb4 k4 hR4 hs4 ht4 hR
      go_wp2_with fail
      rw [← hV4]
      clear hV4 c0 c1 f0 f1
      refine (HS1.out _ (Below.refl _ V4)).mono ?_
      rintro e V5 ⟨b1, z1, rfl, hb1, hz1, hbl5⟩
      have HB5 := Lib.hid hbl5
      have H1 := Lib.hid (And.intro hb1 hz1)
      obtain ⟨f0, f1⟩ := HK4.out _ HB5.out
      clear hb1 hz1 hbl5
      go_wp2_with fail
      clear f0 f1
      refine (HS2.out _ HB5.out).mono ?_
      rintro e V6 ⟨b2, z2, rfl, hb2, hz2, hbl6⟩
      have HB6 := Lib.hid (HB5.out.trans (hbl6.mono HB5.out.size))
      have H2 := Lib.hid (And.intro hb2 hz2)
      have HR6 := Lib.hid (HR4.out.old HB6.out)
      clear hb2 hz2 hbl6 HR4 HS1 HS2 HK4
      have HNO : Hid (¬ (Lit12 x.1 ∧ Lit12 x.2) → TsPost l w (.returned (.tuple #[.slice none 0 0, .bool false])) V6) := Lib.hid fun h => ⟨⟨fun hok => absurd (hok x (List.mem_of_getElem? HX.out.2.1)) h, fun _ => rfl⟩, HR6.out.below⟩
      cases b1
      · have HZ := Lib.hid (HNO.out fun h => absurd (H1.out.1.2 h.1) (by simp))
        clear HNO H1 H2
        go_wp2
        refine bodyPost_ret (v := .tuple #[.slice none 0 0, .bool false]) (by simp [results, Tryd.results15, go_sem]) rfl ?_
        exact HZ.out
      · cases b2
        · have HZ := Lib.hid (HNO.out fun h => absurd (H2.out.1.2 h.2) (by simp))
          clear HNO H1 H2
          go_wp2
          refine bodyPost_ret (v := .tuple #[.slice none 0 0, .bool false]) (by simp [results, Tryd.results15, go_sem]) rfl ?_
          exact HZ.out
        · have hl1 := H1.out.1.1 rfl
          have hl2 := H2.out.1.1 rfl
          have hz1 := H1.out.2 rfl
          have hz2 := H2.out.2 rfl
          have hw1 : WT z1 := by unfold WT; rw [hz1]; have := setB_lt hl1; omega
          have hw2 : WT z2 := by unfold WT; rw [hz2]; have := setB_lt hl2; omega
          have HT : Hid (l.take (k + 1) = l.take k ++ [x] ∧ termsL (l.take (k + 1)) = addT (termsL (l.take k)) (z1, z2) ∧ OkP (l.take (k + 1))) := Lib.hid (by
            have e : l.take (k + 1) = l.take k ++ [x] := by rw [List.take_add_one, HX.out.2.1]; rfl
            rw [e]
            exact ⟨rfl, by rw [termsL_snoc, ← hz1, ← hz2], okP_snoc HR6.out.ok ⟨hl1, hl2⟩⟩)
          obtain ⟨V7, hV7⟩ : ∃ V7, V7 = V6.alloc (.cells #[.int .u64 z1, .int .u64 z2] 64) := ⟨_, rfl⟩
          have hb7 : Below V6.heap.size V6 V7 := by rw [hV7]; exact (Below.refl _ _).alloc (Nat.le_refl _) _
          have k7 : V7.heap[V6.heap.size]? = some (.cells #[.int .u64 z1, .int .u64 z2] 64 (0, 0)) := by rw [hV7]; exact heap_alloc_new V6 _
          have hR7 := HR6.out.old hb7
          have HR7 := Lib.hid hR7
          have hne : w.heap.size ≠ V6.heap.size := by have := HR6.out.map.lt; omega
          have hlook := hR7.map.look (z1, z2) ⟨hw1, hw2⟩
          obtain ⟨w8, hput, hM8, hg8⟩ := hR7.map.put (by unfold maxLen; have := HX.out.1; have := HN.out.2.2.1; omega) (z1, z2) ⟨hw1, hw2⟩
          obtain ⟨f0, f1⟩ := cells2 k7
          unfold kvT at hlook hput
          dsimp only at hlook hput
          clear hl1 hl2 hz1 hz2 H1 H2 HNO
          by_cases hm : ((z1, z2) : Tm) ∈ termsL (l.take k)
          · have HR9 : Hid (TsR w w.heap.size l (k + 1) r Ao cap V7) := Lib.hid (by
              have e : termsL (l.take (k + 1)) = termsL (l.take k) := by rw [HT.out.2.1]; unfold addT; rw [if_pos hm]
              exact ⟨by rw [e]; exact hR7.own, by rw [e]; exact hR7.len, by rw [e]; exact hR7.map.more (by omega), hR7.lo, hR7.apart, HT.out.2.2, hR7.below⟩)
            rw [decide_eq_true hm] at hlook
            rw [hV7] at hlook f0 f1
            clear hm hR7 hb7 k7 hne hput hM8 hg8 hw1 hw2 HR7
            go_wp2_with fail
            rw [← hV7]
            clear hV7 hlook f0 f1
            go_roundw
            case rel => exact ⟨k + 1, r, Ao, cap, by go_num, by have := HX.out.1; omega, by go_num, HR9⟩
            case measure => have := HX.out.1; simp [intOf]; omega
          · have e : termsL (l.take (k + 1)) = termsL (l.take k) ++ [(z1, z2)] := by rw [HT.out.2.1]; unfold addT; rw [if_neg hm]
            have k8 : w8.heap[V6.heap.size]? = some (.cells #[.int .u64 z1, .int .u64 z2] 64 (0, 0)) := (hg8.block _ (lt_of_heap k7) (fun e => hne (by injection e with e; exact e.symm))).trans k7
            obtain ⟨e0, e1⟩ := cells2 k8
            have hO8 : OwnT w8 w.heap.size (.slice Ao (termsL (l.take k)).length cap) (termsL (l.take k)) := by
              rw [hR7.len]
              exact hR7.own.kept1 hg8.size fun g hg => hg8.block _ (own_same hR7.own g hg).2 (fun e => hR7.apart (by rw [hg, e]))
            have hb8 : Below w.heap.size w w8 := hR7.below.grown hg8 hR7.below.size (fun q hq => by injection hq with hq; omega)
            obtain ⟨g, cap9, w9, hr9, hO9, hb9, hk9, hg9⟩ := app_t w8 w.heap.size _ _ hO8 (z1, z2) (by rw [hR7.len]; have := HX.out.2.2; omega) hb8.size 43
            rw [hR7.len] at hr9 hO9 hk9 hg9
            dsimp only at hr9
            have HR9 : Hid (TsR w w.heap.size l (k + 1) (r + 1) (some ⟨g, 0, none⟩) cap9 w9) := Lib.hid ⟨by rw [e]; exact hO9, by rw [e, List.length_append, hR7.len]; rfl, by rw [e]; exact hM8.kept (hk9 _ hM8.lt (fun e => hR7.apart e.symm)), hR7.lo, fun e2 => by
              simp only [Value.ownBlock, Option.some.injEq] at e2
              rcases hg9 with h | h
              · exact hR7.apart (by rw [h, e2])
              · have := hM8.lt; omega, HT.out.2.2, hb8.trans hb9⟩
            rw [decide_eq_false hm] at hlook
            rw [hV7] at hlook f0 f1 hput
            clear hm hR7 hb7 k7 hne hM8 hg8 hw1 hw2 HR7 k8 hO8 hO9 hb9 hk9 hg9 hb8 e hV7
            go_wp2_with (at_builtin; refine Lib.wpList_append_run _ rfl _ _ 43 43 rfl _ _ rfl rfl _ w9 hr9 ?_)
            clear hlook f0 f1 hput e0 e1 hr9
            go_wp2_with fail
            go_roundw
            case rel => exact ⟨k + 1, r + 1, some ⟨g, 0, none⟩, cap9, by go_num, by have := HX.out.1; omega, by go_num, HR9⟩
            case measure => have := HX.out.1; simp [intOf]; omega
    · have q1 : ¬ (k : Int) < (n : Int) := by omega
      obtain rfl : k = n := by omega
      have HZ : Hid (TsPost l w (.returned (.tuple #[.slice Ao r cap, .bool true])) wr) := Lib.hid (by
        have hR' := hR.out
        have e : l.take k = l := List.take_of_length_le (by have := HN.out.2.1; omega)
        have hO := hR'.own
        have hok := hR'.ok
        rw [e] at hO hok
        exact ⟨⟨fun _ => ⟨_, rfl, hO⟩, fun h => absurd hok h⟩, hR'.below⟩)
      clear hk hkn hR
      go_wp2
      refine bodyPost_ret (v := .tuple #[.slice Ao r cap, .bool true]) (by simp [results, Tryd.results15, go_sem]) rfl ?_
      exact HZ.out
end Go.Proofs.YtplmbmecjhmiiaaDoor
