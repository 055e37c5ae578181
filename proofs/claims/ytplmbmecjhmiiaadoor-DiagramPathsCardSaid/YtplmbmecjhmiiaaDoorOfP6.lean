/- The document's OfPaths. -/
import Derived.Test.YtplmbmecjhmiiaaDoorHold6
import Derived.Test.YtplmbmecjhmiiaaDoorBox6
import Derived.Laws.MakeOwn
import Derived.Laws.OwnMore
namespace Go.Proofs.YtplmbmecjhmiiaaDoor
open Go Go.RowKit
/-- a row of paths in blocks below H -/
def PthR (w : World) (H : Nat) (v : Value) (l : List (List Int × List Int)) : Prop := RowB w (fun b => b < H) 2 v l.length (fun j cs => ∃ x, l[j]? = some x ∧ ∃ s t, cs = [s, t] ∧ IntR w (fun b => b < H) s x.1 ∧ IntR w (fun b => b < H) t x.2)
theorem PthR.on {w w' : World} {H : Nat} {v : Value} {l : List (List Int × List Int)} (h : PthR w H v l) (hb : Below H w w') : PthR w' H v l :=
  RowB.on h hb fun j cs ⟨x, hx, s, t, h1, h2, h3⟩ => ⟨x, hx, s, t, h1, h2.on hb, h3.on hb⟩
theorem PthR.at {w : World} {H : Nat} {A : Option Addr} {n c : Nat} {l : List (List Int × List Int)} (h : PthR w H (.slice A n c) l) (hl : l.length = n) {j : Nat} (hj : j < n) : ∃ b off x s t, A = some ⟨b, off, none⟩ ∧ b < H ∧ l[j]? = some x ∧ IntR w (fun b => b < H) s x.1 ∧ IntR w (fun b => b < H) t x.2 ∧ w.cell? ⟨b, off + j * 2, none⟩ = some s ∧ w.cell? ⟨b, off + j * 2 + 1, none⟩ = some t := by
  obtain ⟨A', cap, h1, _, h3⟩ := h
  injection h1 with e1 e2 e3
  subst e1
  obtain ⟨b, off, rfl, h5, h6, h7⟩ := h3 (by omega)
  obtain ⟨cs, h8, h9, x, hx, s, t, rfl, hs, ht⟩ := h7 j (by omega)
  have c0 := h9 0 (by omega)
  have c1 := h9 1 (by omega)
  exact ⟨b, off, x, s, t, rfl, h5, hx, hs, ht, by simpa using c0, by simpa using c1⟩
def OkP (l : List (List Int × List Int)) : Prop := ∀ x, x ∈ l → Lit12 x.1 ∧ Lit12 x.2
/-- the disjunction of paths -/
def fP (l : List (List Int × List Int)) : BF := fun s => l.any (fun x => hB x s)
theorem hB_12 {x : List Int × List Int} (h : Lit12 x.1 ∧ Lit12 x.2) {s t : Nat → Bool} (hs : ∀ k, k < 12 → s k = t k) : hB x s = hB x t := by
  have key : ∀ l : List Int, Lit12 l → ∀ z, z ∈ l → s z.toNat = t z.toNat := fun l hl z hz => hs _ (by have := hl z hz; omega)
  unfold hB
  congr 1
  · rw [Bool.eq_iff_iff, List.all_eq_true, List.all_eq_true]
    exact ⟨fun g z hz => by rw [← key _ h.1 z hz]; exact g z hz, fun g z hz => by rw [key _ h.1 z hz]; exact g z hz⟩
  · rw [Bool.eq_iff_iff, List.all_eq_true, List.all_eq_true]
    exact ⟨fun g z hz => by rw [← key _ h.2 z hz]; exact g z hz, fun g z hz => by rw [key _ h.2 z hz]; exact g z hz⟩
theorem fP_12 {l : List (List Int × List Int)} (h : OkP l) : F12 (fP l) := fun s t hs => by
  unfold fP
  rw [Bool.eq_iff_iff, List.any_eq_true, List.any_eq_true]
  exact ⟨fun ⟨x, hx, g⟩ => ⟨x, hx, by rw [← hB_12 (h x hx) hs]; exact g⟩, fun ⟨x, hx, g⟩ => ⟨x, hx, by rw [hB_12 (h x hx) hs]; exact g⟩⟩
def OfPost (l : List (List Int × List Int)) (w : World) (e : Ending) (w' : World) : Prop :=
  (OkP l → ∃ v, e = .returned (.tuple #[v, .bool true]) ∧ Dia (fP l) w' w'.heap.size v) ∧ (¬ OkP l → e = .returned (.tuple #[.agg #[.slice none 0 0, .int .i64 0], .bool false])) ∧ Below w.heap.size w w'
theorem Tryd.infoBool : (Tryd.prog.info? 4).map (fun i => (i.zero, i.size, i.bytes)) = some (some (.bool false), 1, 1) := by kernel_rfl
/-- two rows joined -/
theorem join_any (w : World) (H : Nat) (hH : H ≤ w.heap.size) (s t : Value) (p q : List Int) (hs : IntR w (fun b => b < H) s p) (ht : IntR w (fun b => b < H) t q) (hp : p.length ≤ 100000 ∧ q.length ≤ 100000) :
    ∃ v1 w1 v2 w2, (Builtin.append_ #[24, 24] 24 #[.slice none 0 0, s]).run Tryd.prog w = .ok v1 w1 ∧ (Builtin.append_ #[24, 24] 24 #[v1, t]).run Tryd.prog w1 = .ok v2 w2 ∧ Below w.heap.size w w1 ∧ Below w.heap.size w w2 ∧ IntR w2 (fun b => b < w2.heap.size) v2 (p ++ q) := by
  obtain ⟨i0, hi, hz0, hz1, hz2⟩ := info_parts Tryd.infoIntR
  have h1c : ∀ (x : Int) (w : World) (B : Nat → Prop) (cs : List Value), elI.E x w B cs → ∀ u ∈ cs, u.oneCell' = true := fun x w B cs h u hu => by rw [h] at hu; simp at hu; subst hu; rfl
  obtain ⟨A, c, rfl, _⟩ := hs.form
  obtain ⟨v1, w1, hr1, hO1, hb1, _, _⟩ := app_row elI 24 24 3 i0 (.int .i64 0) 1 8 Tryd.underlying24 hi hz0 hz1 hz2 rfl (by decide) (by decide) h1c w w.heap.size (.slice none 0 0) [] (OwnE.nil _ _ _ _ _) A p.length c p rfl (fun b => b < H) (RowB.sub hs (fun _ h => h) (fun j cs ⟨z, h1, h2⟩ => ⟨z, h1, h2⟩)) (by simp; omega) (Nat.le_refl _)
  rw [List.nil_append] at hO1
  have ht1 := ht.on (hb1.mono hH)
  obtain ⟨A2, c2, rfl, _⟩ := ht1.form
  obtain ⟨v2, w2, hr2, hO2, hb2, _, _⟩ := app_row elI 24 24 3 i0 (.int .i64 0) 1 8 Tryd.underlying24 hi hz0 hz1 hz2 rfl (by decide) (by decide) h1c w1 w.heap.size v1 p hO1 A2 q.length c2 q rfl (fun b => b < H) (RowB.sub ht1 (fun _ h => h) (fun j cs ⟨z, h1, h2⟩ => ⟨z, h1, h2⟩)) (by omega) hb1.size
  exact ⟨v1, w1, v2, w2, hr1, hr2, hb1, hb1.trans hb2, RowB.sub (OwnI.int hO2 (by rw [List.length_append]; unfold maxLen; omega)) (fun b hb => hb.2.1) (fun _ _ h => h)⟩
theorem fP_snoc {l : List (List Int × List Int)} {k : Nat} {x : List Int × List Int} (h : l[k]? = some x) (s : Nat → Bool) : fP (l.take (k + 1)) s = (fP (l.take k) s || hB x s) := by
  unfold fP
  rw [List.take_add_one, h, List.any_append]
  simp
/-- the table, filled before a, and for a by the first i paths -/
structure TS (l : List (List Int × List Int)) (w : World) (bt a i : Nat) (V : World) : Prop where
  t : ∃ cur : Array Value, V.heap[bt]? = some (.cells cur 4 (0, 0)) ∧ cur.size = 4096 ∧ (∀ k, k < a → cur[k]? = some (.bool (fP l (sOf k)))) ∧ (a < 4096 → cur[a]? = some (.bool (fP (l.take i) (sOf a)))) ∧ ∀ k, a < k → k < 4096 → cur[k]? = some (.bool false)
  r : V.heap[w.heap.size]? = some (.cells #[.slice none 0 0, .int .i64 0] 29 (0, 0))
  b : Below w.heap.size w V
  lt : w.heap.size < bt ∧ bt < V.heap.size
theorem TS.at {l : List (List Int × List Int)} {w : World} {bt a i : Nat} {V : World} (h : TS l w bt a i V) (ha : a < 4096) : V.cell? ⟨bt, a, none⟩ = some (.bool (fP (l.take i) (sOf a))) ∧ V.frozen? ⟨bt, a, none⟩ = false := by
  obtain ⟨cur, h1, _, _, h4, _⟩ := h.t
  exact ⟨(Lib.cell_of_heap h1 a).trans (h4 ha), Lib.frozen_of_heap h1 a⟩
theorem TS.old {l : List (List Int × List Int)} {w : World} {bt a i : Nat} {V V' : World} (h : TS l w bt a i V) (hb : Below V.heap.size V V') : TS l w bt a i V' := by
  obtain ⟨cur, h1, h2⟩ := h.t
  have := h.lt
  exact ⟨⟨cur, (hb.block _ (by omega)).trans h1, h2⟩, (hb.block _ (by omega)).trans h.r, h.b.trans (hb.mono (by omega)), by omega, Nat.lt_of_lt_of_le h.lt.2 hb.size⟩
theorem TS.put {l : List (List Int × List Int)} {w : World} {bt a i : Nat} {V : World} (h : TS l w bt a i V) (ha : a < 4096) {z : Bool} (hz : z = fP (l.take (i + 1)) (sOf a)) : TS l w bt a (i + 1) (V.setCell ⟨bt, a, none⟩ (.bool z)) := by
  obtain ⟨cur, h1, h2, h3, h4, h5⟩ := h.t
  have hlt := h.lt
  refine ⟨⟨_, heap_setCell_same _ _ a _ _ (.bool z) h1, by simpa using h2, fun k hk => ?_, fun _ => ?_, fun k hk hk2 => ?_⟩, (heap_setCell_other _ _ _ _ (show w.heap.size ≠ bt by omega)).trans h.r, h.b.setCell (p := ⟨bt, a, none⟩) (by show w.heap.size ≤ bt; omega) _, by simpa using hlt⟩
  · rw [Array.getElem?_setIfInBounds_ne (by omega)]; exact h3 k hk
  · rw [Array.getElem?_setIfInBounds_self_of_lt (by omega), hz]
  · rw [Array.getElem?_setIfInBounds_ne (by omega)]; exact h5 k hk hk2
theorem TS.stay {l : List (List Int × List Int)} {w : World} {bt a i : Nat} {V : World} (h : TS l w bt a i V) (hz : fP (l.take i) (sOf a) = fP (l.take (i + 1)) (sOf a)) : TS l w bt a (i + 1) V := by
  obtain ⟨cur, h1, h2, h3, h4, h5⟩ := h.t
  exact ⟨⟨cur, h1, h2, h3, fun ha => by rw [← hz]; exact h4 ha, h5⟩, h.r, h.b, h.lt⟩
theorem TS.next {l : List (List Int × List Int)} {w : World} {bt a : Nat} {V : World} (h : TS l w bt a l.length V) (ha : a < 4096) : TS l w bt (a + 1) 0 V := by
  obtain ⟨cur, h1, h2, h3, h4, h5⟩ := h.t
  refine ⟨⟨cur, h1, h2, fun k hk => ?_, fun h => h5 _ (by omega) h, fun k hk hk2 => h5 k (by omega) hk2⟩, h.r, h.b, h.lt⟩
  by_cases e : k = a
  · subst e
    have := h4 ha
    rw [List.take_length] at this
    exact this
  · exact h3 k (by omega)
theorem TS.tbl {l : List (List Int × List Int)} {w : World} {bt : Nat} {V : World} (h : TS l w bt 4096 0 V) : Tbl V bt (fP l) := by
  obtain ⟨cur, h1, h2, h3, h4, h5⟩ := h.t
  exact ⟨cur, h1, h2, h3⟩
theorem zero_fill {V : World} {z : Nat} (h : V.heap[z]? = some (.cells #[.slice none 0 0, .int .i64 0] 29 (0, 0))) : ∃ V7, V7 = (V.setCell ⟨z, 0, none⟩ (.slice none 0 0)).setCell ⟨z, 1, none⟩ (.int .i64 0) ∧ V7.cell? ⟨z, 0, none⟩ = some (.slice none 0 0) ∧ V7.cell? ⟨z, 1, none⟩ = some (.int .i64 0) ∧ Below z V V7 := by
  have h0 := heap_setCell_same _ _ 0 _ _ (.slice none 0 0) h
  have h1 := heap_setCell_same _ _ 1 _ _ (.int .i64 0) h0
  obtain ⟨c0, c1⟩ := cells2 (by simpa using h1)
  exact ⟨_, rfl, c0, c1, ((Below.refl z V).setCell (p := ⟨z, 0, none⟩) (Nat.le_refl _) _).setCell (p := ⟨z, 1, none⟩) (Nat.le_refl _) _⟩
set_option maxRecDepth 100000 in
set_option maxHeartbeats 6400000 in
theorem ofPaths_any (v : Value) (l : List (List Int × List Int)) (w : World) (h : PthR w w.heap.size v l) (hl : l.length ≤ 1000) (hx : ∀ x, x ∈ l → x.1.length ≤ 1000 ∧ x.2.length ≤ 1000) :
    Calls Tryd.prog 6 #[v] w (OfPost l w) := by
  have hh := h
  obtain ⟨A, cap, rfl, _⟩ := hh
  obtain ⟨W, hW⟩ : ∃ W, W = w.alloc (.cells #[.slice none 0 0, .int .i64 0] 29) := ⟨_, rfl⟩
  have hb : Below w.heap.size w W := by rw [hW]; exact (Below.refl _ _).alloc (Nat.le_refl _) _
  have hz : W.heap.size = w.heap.size + 1 := by rw [hW]; simp
  have kr : W.heap[w.heap.size]? = some (.cells #[.slice none 0 0, .int .i64 0] 29 (0, 0)) := by rw [hW]; exact heap_alloc_new w _
  obtain ⟨n, hn⟩ : ∃ n, n = l.length := ⟨_, rfl⟩
  rw [← hn] at h hl ⊢
  have HN := Lib.hid (And.intro hn (And.intro hl hx))
  have HP := Lib.hid h
  have HK : Hid (∀ V, Below W.heap.size W V → V.heap[w.heap.size]? = some (.cells #[.slice none 0 0, .int .i64 0] 29 (0, 0)) ∧ Below w.heap.size w V) := Lib.hid fun V hV => ⟨(hV.block _ (by omega)).trans kr, hb.trans (hV.mono (by omega))⟩
  have HZ := Lib.hid hz
  have HF : Hid (∀ e w', (OkP l → ∃ v, e = .returned (.tuple #[v, .bool true]) ∧ Dia (fP l) w' w'.heap.size v) → (¬ OkP l → e = .returned (.tuple #[.agg #[.slice none 0 0, .int .i64 0], .bool false])) → Below w.heap.size w w' → OfPost l w e w') := Lib.hid fun e w' a b c => ⟨a, b, c⟩
  generalize hPost : OfPost l w = Post at *
  clear hPost h hl hx hb hz kr hn
  go_enter Tryd.func6, Tryd.ntmps6
  go_wp2_with fail
  rw [← hW]
  clear hW
  go_loopw [4] (fun i wr => ∃ j : Nat, i = .int .i64 j ∧ j ≤ n ∧ Hid (∀ k x, k < j → l[k]? = some x → Lit12 x.1 ∧ Lit12 x.2) ∧ Hid (Below W.heap.size W wr)) (fun i _ => n - (intOf i).toNat)
  case atStart => exact ⟨0, rfl, by omega, Lib.hid (fun k x hk => absurd hk (by omega)), Lib.hid (Below.refl _ _)⟩
  case round =>
    obtain ⟨j, rfl, hj, h0, hwr⟩ := hrel
    by_cases hjn : j < n
    · obtain ⟨b, off, x, s, t, rfl, hbH, hx, hs, ht, e0, e1⟩ := (HP.out.on (HK.out _ hwr.out).2).at HN.out.1.symm hjn
      have hxl := HN.out.2.2 x (List.mem_of_getElem? hx)
      have kn : (j : Int) < (n : Int) := by omega
      have k0 : (0 : Int) ≤ (j : Int) := by omega
      have hwj : IntKind.i64.wrap ((j : Int) + 1) = ((j + 1 : Nat) : Int) := by have := HN.out.2.1; rw [IntWalk.i64_in _ (by omega)]; omega
      have hsz := (HK.out _ hwr.out).2.size
      obtain ⟨v1, w1, v2, w2, hr1, hr2, hb1, hb2, hall⟩ := join_any wr.drew w.heap.size hsz s t x.1 x.2 (hs.on ((Below.refl _ wr).drew.mono hsz)) (ht.on ((Below.refl _ wr).drew.mono hsz)) (by omega)
      obtain ⟨A1, c1, rfl, _⟩ := hs.form
      obtain ⟨A2, c2, rfl, _⟩ := ht.form
      obtain ⟨A3, c3, rfl, m3⟩ := hall.form
      generalize x.1.length = n1 at *
      generalize x.2.length = n2 at *
      have HC : Hid (∀ V, Below wr.heap.size wr V → (V.cell? ⟨b, off + j * 2, none⟩ = some (.slice A1 n1 c1) ∧ V.cell? ⟨b, off + j * 2 + 1, none⟩ = some (.slice A2 n2 c2))) := Lib.hid fun V hV => ⟨(hV.cell (p := ⟨b, _, none⟩) (by show b < _; omega)).trans e0, (hV.cell (p := ⟨b, _, none⟩) (by show b < _; omega)).trans e1⟩
      have HB1 : Hid (Below wr.heap.size wr w1) := Lib.hid ((Below.refl _ wr).drew.trans hb1)
      have HB2 : Hid (Below wr.heap.size wr w2) := Lib.hid ((Below.refl _ wr).drew.trans hb2)
      have HW2 : Hid (Below W.heap.size W w2) := Lib.hid (hwr.out.trans (HB2.out.mono hwr.out.size))
      have HX := Lib.hid (And.intro hx hjn)
      have HA := Lib.hid hall
      have HR1 := Lib.hid hr1
      have HR2 := Lib.hid hr2
      obtain ⟨m, hm⟩ : ∃ m, m = (x.1 ++ x.2).length := ⟨_, rfl⟩
      rw [← hm] at HA HR2 m3
      have HM := Lib.hid (And.intro hm m3)
      clear e0 e1 hs ht hx hbH hjn hj hr1 hr2 hall hb1 hb2 hxl hm m3 hsz
      go_wp2_with fail
      refine wp_region_held_drew (S := fun V => (V.cell? ⟨b, off + j * 2, none⟩ = some (.slice A1 n1 c1) ∧ V.cell? ⟨b, off + j * 2 + 1, none⟩ = some (.slice A2 n2 c2))) (by kernel_rfl) (HC.out _ (Below.refl _ wr).drew) (fun _ => ?_)
      refine tk 0 (HC.out _ (Below.refl _ wr).drew) ?_
      try simp only [Act.put, pA, pB, pC]
      refine tk 1 (HC.out _ (Below.refl _ wr).drew) ?_
      try simp only [Act.put, pA, pB, pC]
      refine tk 2 (HC.out _ (Below.refl _ wr).drew) ?_
      try simp only [Act.put, pA, pB, pC]
      refine tk 3 (HC.out _ (Below.refl _ wr).drew) ?_
      try simp only [Act.put, pA, pB, pC]
      refine tk 4 (HC.out _ (Below.refl _ wr).drew) ?_
      try simp only [Act.put, pA, pB, pC]
      refine tk 6 (HC.out _ (Below.refl _ wr).drew) ?_
      try simp only [Act.put, pA, pB, pC]
      refine tk 7 (HC.out _ (Below.refl _ wr).drew) ?_
      try simp only [Act.put, pA, pB, pC]
      refine tk 8 (HC.out _ (Below.refl _ wr).drew) ?_
      try simp only [Act.put, pA, pB, pC]
      refine tk 9 (HC.out _ (Below.refl _ wr).drew) ?_
      try simp only [Act.put, pA, pB, pC]
      refine tk 10 (HC.out _ (Below.refl _ wr).drew) ?_
      try simp only [Act.put, pA, pB, pC]
      refine one_op 5 (by kernel_rfl) rfl (by rfl) (fun K hK => ?_)
      refine Lib.wp_append_run _ _ _ _ _ rfl _ _ rfl rfl _ w1 HR1.out ?_
      refine hK _ _ (HC.out _ HB1.out) ?_
      try simp only [Act.put, pA, pB, pC]
      clear hK K
      refine one_op 11 (by kernel_rfl) rfl (by rfl) (fun K hK => ?_)
      refine Lib.wp_append_run _ _ _ _ _ rfl _ _ rfl rfl _ w2 HR2.out ?_
      refine hK _ _ (HC.out _ HB2.out) ?_
      try simp only [Act.put, pA, pB, pC]
      clear hK K
      refine tk 12 (HC.out _ HB2.out) ?_
      try simp only [Act.put, pA, pB, pC]
      refine wpAnyH_done (by kernel_rfl) ?_ _
      go_wp2_with fail
      go_loopw [6] (fun i V => ∃ k : Nat, i = .int .i64 k ∧ k ≤ m ∧ Hid (∀ q z, q < k → (x.1 ++ x.2)[q]? = some z → 0 ≤ z ∧ z < 12) ∧ Hid (Below w2.heap.size w2 V)) (fun i _ => m - (intOf i).toNat)
      case atStart => exact ⟨0, rfl, by omega, Lib.hid (fun q z hq => absurd hq (by omega)), Lib.hid (Below.refl _ _)⟩
      case round =>
        obtain ⟨k, rfl, hk, hk0, hV⟩ := hrel
        by_cases hkm : k < m
        · obtain ⟨b3, o3, z, rfl, _, hb3, hz, c0⟩ := HA.out.at hkm
          have c0' := (hV.out.cell (p := ⟨b3, _, none⟩) hb3).trans c0
          have kn2 : (k : Int) < (m : Int) := by omega
          have k02 : (0 : Int) ≤ (k : Int) := by omega
          have hwk : IntKind.i64.wrap ((k : Int) + 1) = ((k + 1 : Nat) : Int) := by have := HM.out.2; rw [IntWalk.i64_in _ (by omega)]; omega
          have HY := Lib.hid hz
          have HKM := Lib.hid hkm
          clear hz hb3 c0 hkm hk
          by_cases hz0 : z < 0
          · have NOK : OkP l → False := fun hok => by
              have h := hok x (List.mem_of_getElem? HX.out.1)
              have hm := List.mem_of_getElem? HY.out
              rcases List.mem_append.1 hm with hm | hm
              · have := h.1 z hm; omega
              · have := h.2 z hm; omega
            obtain ⟨kz, hbz⟩ := HK.out _ (HW2.out.trans (hV.out.mono HW2.out.size))
            obtain ⟨d0, d1⟩ := cells2 kz
            have z0 := Lib.frozen_of_heap kz 0
            have z1 := Lib.frozen_of_heap kz 1
            obtain ⟨V7, hV7, f0, f1, hb7⟩ := zero_fill kz
            have HE := Lib.hid (HF.out (.returned (.tuple #[.agg #[.slice none 0 0, .int .i64 0], .bool false])) V7 (fun hok => absurd (NOK hok) id) (fun _ => rfl) (hbz.trans hb7))
            clear kz hbz hb7
            go_wp2
            rw [← hV7]
            refine bodyPost_ret (v := .tuple #[.agg #[.slice none 0 0, .int .i64 0], .bool false]) (by simp [results, Tryd.results6, go_sem, f0, f1]) rfl ?_
            exact HE.out
          · by_cases hz12 : 12 ≤ z
            · have hlt : ¬ z < 0 := hz0
              have NOK : OkP l → False := fun hok => by
                have h := hok x (List.mem_of_getElem? HX.out.1)
                have hm := List.mem_of_getElem? HY.out
                rcases List.mem_append.1 hm with hm | hm
                · have := h.1 z hm; omega
                · have := h.2 z hm; omega
              obtain ⟨kz, hbz⟩ := HK.out _ (HW2.out.trans (hV.out.mono HW2.out.size))
              obtain ⟨d0, d1⟩ := cells2 kz
              have z0 := Lib.frozen_of_heap kz 0
              have z1 := Lib.frozen_of_heap kz 1
              obtain ⟨V7, hV7, f0, f1, hb7⟩ := zero_fill kz
              have HE := Lib.hid (HF.out (.returned (.tuple #[.agg #[.slice none 0 0, .int .i64 0], .bool false])) V7 (fun hok => absurd (NOK hok) id) (fun _ => rfl) (hbz.trans hb7))
              clear kz hbz hb7
              go_wp2
              rw [← hV7]
              refine bodyPost_ret (v := .tuple #[.agg #[.slice none 0 0, .int .i64 0], .bool false]) (by simp [results, Tryd.results6, go_sem, f0, f1]) rfl ?_
              exact HE.out
            · have HZZ := Lib.hid (And.intro hz0 hz12)
              have hge : ¬ 12 ≤ z := hz12
              go_wp2
              go_roundw
              case rel => exact ⟨k + 1, by go_num, by have := HKM.out; omega, Lib.hid (fun q y hq hy => by
                rcases Nat.lt_or_eq_of_le (Nat.le_of_lt_succ hq) with h | h
                · exact hk0.out q y h hy
                · rw [h, HY.out] at hy
                  have hy := Option.some.inj hy
                  have := HZZ.out
                  omega), hV⟩
              case measure => have := HKM.out; simp [intOf]; omega
        · have q1 : ¬ (k : Int) < (m : Int) := by omega
          have HOK : Hid (Lit12 x.1 ∧ Lit12 x.2) := Lib.hid (by
            have key : ∀ z, z ∈ x.1 ++ x.2 → 0 ≤ z ∧ z < 12 := fun z hz => by
              obtain ⟨q, hq, rfl⟩ := List.mem_iff_getElem.1 hz
              exact hk0.out q _ (by have := HM.out.1; omega) (List.getElem?_eq_getElem hq)
            exact ⟨fun z hz => key z (List.mem_append_left _ hz), fun z hz => key z (List.mem_append_right _ hz)⟩)
          have HBF := Lib.hid (HW2.out.trans (hV.out.mono HW2.out.size))
          clear hkm hk hk0
          go_wp2
          go_roundw
          case rel => exact ⟨j + 1, by go_num, by have := HX.out.2; omega, Lib.hid (fun q y hq hy => by
            rcases Nat.lt_or_eq_of_le (Nat.le_of_lt_succ hq) with h | h
            · exact h0.out q y h hy
            · rw [h, HX.out.1] at hy
              rw [← Option.some.inj hy]
              exact HOK.out), HBF⟩
          case measure => have := HX.out.2; simp [intOf]; omega
    · have q1 : ¬ (j : Int) < (n : Int) := by omega
      have hok : OkP l := fun y hy => by
        obtain ⟨k, hk, rfl⟩ := List.mem_iff_getElem.1 hy
        exact h0.out k _ (by have := HN.out.1; omega) (List.getElem?_eq_getElem hk)
      have HOK := Lib.hid hok
      obtain ⟨kz, hbw⟩ := HK.out _ hwr.out
      obtain ⟨i0, hi, hz0, hz1, hz2⟩ := info_parts Tryd.infoBool
      have hmk := run_makeSlice (P := Tryd.prog) wr 47 4 i0 (.bool false) Tryd.underlying47 hi hz0 .i64 .i64 4096 4096 (by omega) (Int.le_refl _) (by rw [hz1]; decide) (by rw [hz2]; decide) (by decide)
      rw [hz1] at hmk
      obtain ⟨t0, ht0⟩ : ∃ t0, t0 = madeCells (Value.bool false).cells ((4096 : Int).toNat * 1) := ⟨_, rfl⟩
      rw [← ht0] at hmk
      have hmk' : (Instr.makeSlice 47 (.int .i64 4096) (.int .i64 4096)).run Tryd.prog wr = .ok (.slice (some ⟨wr.heap.size, 0, none⟩) 4096 4096) (wr.alloc (.cells t0 4)) := hmk
      have htl : t0.toList = List.replicate 4096 (.bool false) := by rw [ht0]; exact toList_madeCells_one (.bool false) 4096
      have hts : t0.size = 4096 := by rw [← Array.length_toList, htl, List.length_replicate]
      have htc : ∀ k, k < 4096 → t0[k]? = some (.bool false) := fun k hk => by rw [← Array.getElem?_toList, htl, List.getElem?_replicate, if_pos hk]
      obtain ⟨W2, hW2⟩ : ∃ W2, W2 = wr.alloc (.cells t0 4) := ⟨_, rfl⟩
      obtain ⟨bt, hbt⟩ : ∃ bt, bt = wr.heap.size := ⟨_, rfl⟩
      have hlt : w.heap.size < bt := by have := hwr.out.size; have := HZ.out; omega
      have hb2 : Below wr.heap.size wr W2 := by rw [hW2]; exact (Below.refl _ _).alloc (Nat.le_refl _) _
      have hT0 : TS l w bt 0 0 W2 := by
        refine ⟨⟨t0, by rw [hW2, hbt]; exact heap_alloc_new wr _, hts, fun k hk => absurd hk (by omega), fun h => htc 0 h, fun k _ hk => htc k hk⟩, (hb2.block _ (by omega)).trans kz, hbw.trans (hb2.mono hbw.size), hlt, by rw [hW2]; simp; omega⟩
      have HT0 := Lib.hid hT0
      rw [← hW2, ← hbt] at hmk'
      clear hmk ht0 htl hts htc hi hz0 hz1 hz2 hb2 hT0 hok kz hbw hj hjn h0 hlt hbt hW2
      go_wp2_with fail
      clear hmk' q1
      go_loopw [8] (fun i wr => ∃ a : Nat, i = .int .i64 a ∧ a ≤ 4096 ∧ Hid (TS l w bt a 0 wr)) (fun i _ => 4096 - (intOf i).toNat)
      case atStart => exact ⟨0, rfl, by omega, HT0⟩
      case round =>
        obtain ⟨a, rfl, ha, hTS⟩ := hrel
        by_cases ha4 : a < 4096
        · have kna : (a : Int) < 4096 := by omega
          have k0a : (0 : Int) ≤ (a : Int) := by omega
          have hwa : IntKind.i64.wrap ((a : Int) + 1) = ((a + 1 : Nat) : Int) := by rw [IntWalk.i64_in _ (by omega)]; omega
          have HA4 := Lib.hid ha4
          clear ha ha4
          rename World => U0
          go_wp2_with fail
          go_loopw [9] (fun i wr => ∃ k : Nat, i = .int .i64 k ∧ k ≤ n ∧ Hid (TS l w bt a k wr)) (fun i _ => n - (intOf i).toNat)
          case atStart => exact ⟨0, rfl, by omega, hTS⟩
          case round =>
            obtain ⟨k, rfl, hk, hT⟩ := hrel
            by_cases hkn : k < n
            · obtain ⟨b, off, x, s, t, rfl, hbH, hx, hs, ht, e0, e1⟩ := (HP.out.on hT.out.b).at HN.out.1.symm hkn
              have kn : (k : Int) < (n : Int) := by omega
              have k0 : (0 : Int) ≤ (k : Int) := by omega
              have hwk : IntKind.i64.wrap ((k : Int) + 1) = ((k + 1 : Nat) : Int) := by have := HN.out.2.1; rw [IntWalk.i64_in _ (by omega)]; omega
              obtain ⟨c0, z0⟩ := hT.out.at HA4.out
              have hlit := HOK.out x (List.mem_of_getElem? hx)
              have hsz := hT.out.b.size
              have hcall := holds_any s t x.1 x.2 a HA4.out hlit.1 hlit.2 _ (RowB.sub hs (fun _ hb => by omega) (fun _ _ h => h)) (RowB.sub ht (fun _ hb => by omega) (fun _ _ h => h))
              have hsn := fP_snoc hx (sOf a)
              obtain ⟨A1, c1, rfl, _⟩ := hs.form
              obtain ⟨A2, c2, rfl, _⟩ := ht.form
              have HCALL := Lib.hid hcall
              have HSN := Lib.hid hsn
              have HKN := Lib.hid hkn
              generalize x.1.length = n1 at *
              generalize x.2.length = n2 at *
              clear hcall hsn hs ht hx hbH hlit hsz hk hkn
              generalize hcb : fP (l.take k) (sOf a) = cb at *
              cases cb
              · go_wp2_with fail
                clear e0 e1 c0 z0
                refine HCALL.out.mono ?_
                rintro e V' ⟨rfl, hb'⟩
                have hT' := hT.out.old hb'
                obtain ⟨c0, z0⟩ := hT'.at HA4.out
                have hT2 := hT'.put HA4.out (z := hB (x.1, x.2) (sOf a)) (by rw [HSN.out, Bool.false_or])
                have HT2 := Lib.hid hT2
                clear hT' hT2 hb'
                go_wp2
                go_roundw
                case rel => exact ⟨k + 1, by go_num, by have := HKN.out; omega, HT2⟩
                case measure => have := HKN.out; simp [intOf]; omega
              · have hT2 := hT.out.put HA4.out (z := true) (by rw [HSN.out, Bool.true_or])
                have hT3 := hT.out.stay (by rw [HSN.out, hcb, Bool.true_or])
                have HT2 := Lib.hid (And.intro hT2 hT3)
                clear hT2 hT3
                go_wp2
                go_roundw
                case rel => exact ⟨k + 1, by go_num, by have := HKN.out; omega, by first | exact Lib.hid HT2.out.2 | exact Lib.hid HT2.out.1⟩
                case measure => have := HKN.out; simp [intOf]; omega
            · have q1 : ¬ (k : Int) < (n : Int) := by omega
              have hkk : k = l.length := by have := HN.out.1; omega
              have hT2 := Lib.hid ((hkk ▸ hT.out).next HA4.out)
              clear hkk hk hkn
              go_wp2
              go_roundw
              case rel => exact ⟨a + 1, by go_num, by have := HA4.out; omega, hT2⟩
              case measure => have := HA4.out; simp [intOf]; omega
        · have q1 : ¬ (a : Int) < 4096 := by omega
          have hTF : TS l w bt 4096 0 _ := (show a = 4096 by omega) ▸ hTS.out
          have hcall := ofTable_any bt 4096 (fP l) (fP_12 HOK.out) _ hTF.tbl
          have HTF := Lib.hid hTF
          have HCALL := Lib.hid hcall
          clear hcall hTF ha ha4
          go_wp2_with fail
          refine HCALL.out.mono ?_
          rintro e V ⟨v, rfl, hd, hbv⟩
          obtain ⟨A9, n9, c9, x9, rfl⟩ := hd.form
          have hTV := HTF.out.old hbv
          have kr := hTV.r
          obtain ⟨d0, d1⟩ := cells2 kr
          have z0 := Lib.frozen_of_heap kr 0
          have z1 := Lib.frozen_of_heap kr 1
          have h0' := heap_setCell_same _ _ 0 _ _ (.slice A9 n9 c9) kr
          have h1' := heap_setCell_same _ _ 1 _ _ (.int .i64 x9) h0'
          obtain ⟨V7, hV7, _, _, hk7, _, _, _, _⟩ := box_fill kr (Nat.le_refl _) hd hTV.b
          have kr7 : V7.heap[w.heap.size]? = some (.cells #[.slice A9 n9 c9, .int .i64 x9] 29 (0, 0)) := by rw [hV7]; simpa using h1'
          have hb7 : Below w.heap.size w V7 := by rw [hV7]; exact (hTV.b.setCell (p := ⟨w.heap.size, 0, none⟩) (Nat.le_refl _) _).setCell (p := ⟨w.heap.size, 1, none⟩) (Nat.le_refl _) _
          obtain ⟨f0, f1⟩ := cells2 kr7
          have HE := Lib.hid (HF.out (.returned (.tuple #[.agg #[.slice A9 n9 c9, .int .i64 x9], .bool true])) V7 (fun _ => ⟨_, rfl, hk7 _ _ hd⟩) (fun hno => absurd HOK.out hno) hb7)
          clear hd hbv hTV kr h0' h1' hk7 kr7 hb7
          go_wp2
          rw [← hV7]
          refine bodyPost_ret (v := .tuple #[.agg #[.slice A9 n9 c9, .int .i64 x9], .bool true]) (by simp [results, Tryd.results6, go_sem, f0, f1]) rfl ?_
          exact HE.out
end Go.Proofs.YtplmbmecjhmiiaaDoor
