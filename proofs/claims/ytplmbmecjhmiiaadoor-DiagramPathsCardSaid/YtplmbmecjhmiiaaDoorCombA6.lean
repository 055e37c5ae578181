/- combine: the diagram of what choose makes of two diagrams' values. -/
import Derived.Test.YtplmbmecjhmiiaaDoorCombM6
import Derived.Laws.EntriesVeiled
namespace Go.Proofs.YtplmbmecjhmiiaaDoor
open Go Go.RowKit Go.Maps
/-- a new builder -/
def NBu (z : Nat) (v : Value) (q : Nat) (w : World) : Prop := ∃ p, v = .pointer (some ⟨p, 0, none⟩) ∧ z ≤ p ∧ z ≤ q ∧ w.heap[p]? = some (.cells #[.slice none 0 0, .map (some q)] 89 (0, 0)) ∧ w.heap[q]? = some (.map #[] 0)
/-- a new map -/
def NMa (z : Nat) (v : Value) (b : Nat) (w : World) : Prop := v = .map (some b) ∧ z ≤ b ∧ w.heap[b]? = some (.map #[] 0)
/-- a variable -/
def Vr (z : Nat) (T : TypeId) (v c : Value) (w : World) : Prop := ∃ b, v = .pointer (some ⟨b, 0, none⟩) ∧ z ≤ b ∧ w.heap[b]? = some (.cells #[c] T (0, 0))
theorem lt_of_heap {w : World} {b : Nat} {o : Obj} (h : w.heap[b]? = some o) : b < w.heap.size := (Array.getElem?_eq_some_iff.1 h).1
theorem NBu.old {z q : Nat} {v : Value} {w w' : World} (h : NBu z v q w) (hb : Below w.heap.size w w') : NBu z v q w' := by
  obtain ⟨p, h1, h2, h3, h4, h5⟩ := h
  exact ⟨p, h1, h2, h3, (hb.block _ (lt_of_heap h4)).trans h4, (hb.block _ (lt_of_heap h5)).trans h5⟩
theorem NMa.old {z b : Nat} {v : Value} {w w' : World} (h : NMa z v b w) (hb : Below w.heap.size w w') : NMa z v b w' := ⟨h.1, h.2.1, (hb.block _ (lt_of_heap h.2.2)).trans h.2.2⟩
theorem Vr.old {z : Nat} {T : TypeId} {v c : Value} {w w' : World} (h : Vr z T v c w) (hb : Below w.heap.size w w') : Vr z T v c w' := by
  obtain ⟨b, h1, h2, h3⟩ := h
  exact ⟨b, h1, h2, (hb.block _ (lt_of_heap h3)).trans h3⟩
theorem NBu.set {z q g i : Nat} {v x : Value} {w : World} (h : NBu z v q w) {c : Value} {T : TypeId} (hg : w.heap[g]? = some (.cells #[c] T (0, 0))) : NBu z v q (w.setCell ⟨g, i, none⟩ x) := by
  obtain ⟨p, h1, h2, h3, h4, h5⟩ := h
  exact ⟨p, h1, h2, h3, (heap_setCell_other _ _ _ _ (show p ≠ g from fun e => by subst e; rw [hg] at h4; injection h4 with h4; injection h4 with h4 _ _; simp at h4)).trans h4, (heap_setCell_other _ _ _ _ (show q ≠ g from fun e => by subst e; rw [hg] at h5; cases h5)).trans h5⟩
theorem NMa.set {z b g i : Nat} {v x : Value} {w : World} (h : NMa z v b w) {c : Value} {T : TypeId} (hg : w.heap[g]? = some (.cells #[c] T (0, 0))) : NMa z v b (w.setCell ⟨g, i, none⟩ x) :=
  ⟨h.1, h.2.1, (heap_setCell_other _ _ _ _ (show b ≠ g from fun e => by subst e; have := h.2.2; rw [hg] at this; cases this)).trans h.2.2⟩
theorem Vr.set {z g i : Nat} {T T' : TypeId} {v c c' x : Value} {w : World} (h : Vr z T v c w) (hg : w.heap[g]? = some (.cells #[c'] T' (0, 0))) (hT : T ≠ T') : Vr z T v c (w.setCell ⟨g, i, none⟩ x) := by
  obtain ⟨b, h1, h2, h3⟩ := h
  exact ⟨b, h1, h2, (heap_setCell_other _ _ _ _ (show b ≠ g from fun e => by subst e; rw [hg] at h3; injection h3 with h3; injection h3 with _ h3 _; exact hT h3.symm)).trans h3⟩
theorem MapF.empty {κ : Type} (k : TypeId) (kv : κ → Value) {w : World} {b : Nat} (h : w.heap[b]? = some (.map #[] 0)) : MapF k kv w b 0 (fun _ => none) := by
  obtain ⟨D, ⟨es, clock, hh, F, hs, hD⟩, h2⟩ := MapF.made k kv w
  rw [heap_alloc_new] at hh
  injection hh with hh
  injection hh with e1 e2
  subst e1 e2
  exact ⟨D, ⟨_, _, h, F, hs, hD⟩, h2⟩
theorem pow_ok (m : Nat) : 2 ^ (12 - m) ≤ 4096 := (Nat.pow_le_pow_right (by decide) (Nat.sub_le 12 m) : 2 ^ (12 - m) ≤ 2 ^ 12)
theorem ne_of_obj {w : World} {a b : Nat} {o o' : Obj} (h : w.heap[a]? = some o) (k : w.heap[b]? = some o') (hne : o ≠ o') : a ≠ b := fun e => by subst e; rw [h] at k; injection k with k; exact hne k
/-- the state at the first call of walk -/
theorem CE.start {w W wq : World} {A1 A2 : Option Addr} {c1 c2 x y fch p q b bd bs : Nat} {us vs : List Nd} {ch : Bool → Bool → Bool} (h1 : NdR w (fun b => b < w.heap.size) A1 us.length c1 (us.map ni)) (h2 : NdR w (fun b => b < w.heap.size) A2 vs.length c2 (vs.map ni)) (ou : Ord us) (ov : Ord vs) (hl : us.length ≤ 100000 ∧ vs.length ≤ 100000)
    (hbw : Below w.heap.size w W) (hz : W.heap.size = w.heap.size + 4) (ka : W.heap[w.heap.size]? = some (.cells #[.slice A1 us.length c1, .int .i64 x] 29 (0, 0))) (kb : W.heap[w.heap.size + 1]? = some (.cells #[.slice A2 vs.length c2, .int .i64 y] 29 (0, 0))) (kc : W.heap[w.heap.size + 1 + 1]? = some (.cells #[.func (.func fch) #[] #[]] 56 (0, 0)))
    (hB : Below W.heap.size W wq) (kp : wq.heap[p]? = some (.cells #[.slice none 0 0, .map (some q)] 89 (0, 0))) (kq : wq.heap[q]? = some (.map #[] 0)) (kr : wq.heap[b]? = some (.map #[] 0)) (hqb : q ≠ b) (kd : wq.heap[bd]? = some (.cells #[.pointer (some ⟨p, 0, none⟩)] 65 (0, 0))) (ks : wq.heap[bs]? = some (.cells #[.map (some b)] 80 (0, 0)))
    (lp : W.heap.size ≤ p) (lq : W.heap.size ≤ q) (lb : W.heap.size ≤ b) (_ : W.heap.size ≤ bd) (_ : W.heap.size ≤ bs) :
    (CE.mk (w.heap.size + 1 + 1) bs w.heap.size (w.heap.size + 1) wq.heap.size bd p q b (wq.heap.size + 1) w.heap.size A1 c1 (x : Int) A2 c2 (y : Int) us vs fch ch).Wf ∧ ∀ V, Below (wq.heap.size + 1) (wq.alloc (.cells #[.func (.func 44) #[] #[.pointer (some ⟨w.heap.size + 1 + 1, 0, none⟩), .pointer (some ⟨bs, 0, none⟩), .pointer (some ⟨w.heap.size, 0, none⟩), .pointer (some ⟨w.heap.size + 1, 0, none⟩), .pointer (some ⟨wq.heap.size, 0, none⟩), .pointer (some ⟨bd, 0, none⟩)]] 81)) V → (CE.mk (w.heap.size + 1 + 1) bs w.heap.size (w.heap.size + 1) wq.heap.size bd p q b (wq.heap.size + 1) w.heap.size A1 c1 (x : Int) A2 c2 (y : Int) us vs fch ch).St V [] 0 none := by
  have tp := lt_of_heap kp
  have tq := lt_of_heap kq
  have tr := lt_of_heap kr
  have td := lt_of_heap kd
  have ts := lt_of_heap ks
  have npq := ne_of_obj kp kq (by simp)
  have npb := ne_of_obj kp kr (by simp)
  have ndp := ne_of_obj kd kp (by simp)
  have ndq := ne_of_obj kd kq (by simp)
  have ndb := ne_of_obj kd kr (by simp)
  have nsp := ne_of_obj ks kp (by simp)
  have nsq := ne_of_obj ks kq (by simp)
  have nsb := ne_of_obj ks kr (by simp)
  have hWq := hB.size
  have hWf : (CE.mk (w.heap.size + 1 + 1) bs w.heap.size (w.heap.size + 1) wq.heap.size bd p q b (wq.heap.size + 1) w.heap.size A1 c1 (x : Int) A2 c2 (y : Int) us vs fch ch).Wf := by
    refine ⟨⟨?_, ?_, ?_, ?_, ?_, ?_, ?_⟩, ⟨?_, ?_, ?_, ?_, ?_, ?_⟩, ⟨?_, ?_, ?_, ?_⟩, ⟨?_, ?_⟩, ou, ov, hl⟩ <;> (try (intro hx; rcases hx with hx | hx | hx)) <;> (try dsimp only at *) <;> omega
  refine ⟨hWf, fun V hV => ?_⟩
  have K : ∀ (g : Nat) (o : Obj), wq.heap[g]? = some o → V.heap[g]? = some o := fun g o h => by
    have := lt_of_heap h
    exact (hV.block g (by omega)).trans ((Below.heap_alloc _ _ _ this).trans h)
  have KW : ∀ (g : Nat) (o : Obj), W.heap[g]? = some o → V.heap[g]? = some o := fun g o h => K g o ((hB.block g (lt_of_heap h)).trans h)
  have hwV : Below w.heap.size w V := hbw.trans ((hB.mono hbw.size).trans (((Below.refl wq.heap.size wq).alloc (Nat.le_refl _) _).mono (by omega) |>.trans (hV.mono (by omega))))
  have hsz : wq.heap.size + 1 ≤ V.heap.size := Nat.le_trans (by simp) hV.size
  refine ⟨⟨KW _ _ kc, K _ _ ks, KW _ _ ka, KW _ _ kb, (hV.block _ (Nat.lt_succ_self _)).trans (heap_alloc_new wq _), K _ _ kd, h1.on hwV, h2.on hwV⟩, ?_, Good_nil, fun _ => none, MapF.empty _ _ (K _ _ kr), fun _ _ h => by cases h⟩
  exact ⟨none, 0, 0, fun _ => none, K _ _ kp, OwnE.nil _ _ _ _ _, MapF.empty _ _ (K _ _ kq), Nat.le_refl _, fun x y => by simp, by dsimp only; omega, by dsimp only; omega, npq, by dsimp only; omega, rfl⟩
set_option maxRecDepth 100000 in
set_option maxHeartbeats 6400000 in
theorem combine_any (fch : Nat) (ch : Bool → Bool → Bool) (hch : Hid (∀ (x y : Bool) (w : World), Calls Tryd.prog fch #[.bool x, .bool y] w fun e w' => e = .returned (.bool (ch x y)) ∧ w = w')) (ech : ∀ args w, (callFunc fch args).run Tryd.prog w = .ok (.enter fch args) w)
    (A1 A2 : Option Addr) (n1 n2 c1 c2 : Nat) (us vs : List Nd) (x y : Nat) (w : World) (h1 : NdR w (fun b => b < w.heap.size) A1 n1 c1 (us.map ni)) (h2 : NdR w (fun b => b < w.heap.size) A2 n2 c2 (vs.map ni)) (e1 : us.length = n1) (e2 : vs.length = n2) (ou : Ord us) (ov : Ord vs) (hx : x < n1 + 2) (hy : y < n2 + 2) (hl : n1 ≤ 100000 ∧ n2 ≤ 100000) :
    Calls Tryd.prog 23 #[.agg #[.slice A1 n1 c1, .int .i64 x], .agg #[.slice A2 n2 c2, .int .i64 y], .func (.func fch) #[] #[]] w fun e w' => ∃ A c base, e = .returned (.agg #[.slice A (can (gP ch us vs x y) []).1.length c, .int .i64 (can (gP ch us vs x y) []).2]) ∧ w.heap.size ≤ base ∧ OwnNd w' base (.slice A (can (gP ch us vs x y) []).1.length c) (can (gP ch us vs x y) []).1 ∧ Below w.heap.size w w' := by
  have HH := Lib.hid (And.intro h1 (And.intro h2 (And.intro e1 (And.intro e2 (And.intro ou (And.intro ov (And.intro hx (And.intro hy hl))))))))
  clear h1 h2 e1 e2 ou ov hx hy
  obtain ⟨W, hWd⟩ : ∃ W, W = (((w.alloc (.cells #[.slice A1 n1 c1, .int .i64 x] 29)).alloc (.cells #[.slice A2 n2 c2, .int .i64 y] 29)).alloc (.cells #[.func (.func fch) #[] #[]] 56)).alloc (.cells #[.slice none 0 0, .int .i64 0] 29) := ⟨_, rfl⟩
  have hb : Below w.heap.size w W := by rw [hWd]; exact ((((Below.refl _ _).alloc (Nat.le_refl _) _).alloc (by simp) _).alloc (by simp <;> omega) _).alloc (by simp <;> omega) _
  obtain ⟨N, hN⟩ : ∃ N : Nat, N = n1 + n2 := ⟨_, rfl⟩
  have hw : IntKind.i64.wrap ((n1 : Int) + (n2 : Int)) = (N : Int) := by rw [IntWalk.i64_in _ (by omega)]; omega
  have HZ : Hid (W.heap.size = w.heap.size + 4 ∧ W.heap[w.heap.size]? = some (.cells #[.slice A1 n1 c1, .int .i64 x] 29 (0, 0)) ∧ W.heap[w.heap.size + 1]? = some (.cells #[.slice A2 n2 c2, .int .i64 y] 29 (0, 0)) ∧ W.heap[w.heap.size + 2]? = some (.cells #[.func (.func fch) #[] #[]] 56 (0, 0)) ∧ W.heap[w.heap.size + 3]? = some (.cells #[.slice none 0 0, .int .i64 0] 29 (0, 0))) := Lib.hid (by
    rw [hWd]
    refine ⟨by simp, ?_, ?_, ?_, ?_⟩
    · exact (Below.heap_alloc _ _ _ (by simp <;> omega)).trans ((Below.heap_alloc _ _ _ (by simp <;> omega)).trans ((Below.heap_alloc _ _ _ (by simp)).trans (heap_alloc_new w _)))
    · exact (Below.heap_alloc _ _ _ (by simp <;> omega)).trans ((Below.heap_alloc _ _ _ (by simp)).trans (new_at' _ (by simp)))
    · exact (Below.heap_alloc _ _ _ (by simp)).trans (new_at' _ (by simp))
    · exact new_at' _ (by simp))
  have HB := Lib.hid hb
  have HL := Lib.hid hl
  clear hN hb hl
  go_enter Tryd.func23, Tryd.ntmps23
  go_wp2_with fail
  rw [← hWd]
  clear hWd hw
  refine wp_region_held_drew (S := fun _ => True) (by kernel_rfl) trivial (fun _ => ?_)
  refine tk 0 (trivial) ?_
  try simp only [Act.put, pA, pB, pC]
  refine tk 2 (trivial) ?_
  try simp only [Act.put, pA, pB, pC]
  generalize hA : ({ tmps := _, defers := [] } : Act) = a0
  have hmk : ∀ U : World, (Instr.makeMap 80 (some (.int .i64 (N : Int)))).run Tryd.prog U = .ok (.map (some U.heap.size)) (U.alloc (.map #[] 0)) := fun U => by kernel_rfl
  refine wpAnyH_par (Bs := Bool × Bool × Bool × Bool × Bool × Bool) (L := fun ⟨b1, b3, b4, b5, b6, b7⟩ => #[true, b1, true, b3, b4, b5, b6, b7]) (chk := fun ⟨b1, b3, b4, b5, b6, b7⟩ i => (i == 1 && !b1) || ((i == 3 && !b3) || ((i == 4 && !b4) || ((i == 5 && !b5) || ((i == 6 && (b4 && (b1 && !b6))) || (i == 7 && (b5 && (b3 && (b6 && !b7))))))))) (full := fun ⟨b1, b3, b4, b5, b6, b7⟩ => b1 && (b3 && (b4 && (b5 && (b6 && b7))))) (by rintro ⟨b1, b3, b4, b5, b6, b7⟩; revert b1 b3 b4 b5 b6 b7; decide +kernel) (by rintro ⟨b1, b3, b4, b5, b6, b7⟩; revert b1 b3 b4 b5 b6 b7; decide +kernel)
    (Inv := fun ⟨b1, b3, b4, b5, b6, b7⟩ a wq => ∃ (u1 u3 u4 u5 : Value) (q b : Nat), a = ((((a0.put (some 19) u1).put (some 21) u3).put (some 8) u4).put (some 9) u5) ∧ Below W.heap.size W wq ∧ (b1 = true → NBu W.heap.size u1 q wq) ∧ (b3 = true → NMa W.heap.size u3 b wq) ∧ (b4 = true → Vr W.heap.size 65 u4 (if b6 then u1 else .pointer none) wq) ∧ (b5 = true → Vr W.heap.size 80 u5 (if b7 then u3 else .map none) wq) ∧ (b1 = true → b3 = true → q ≠ b) ∧ (b6 = true → b1 = true ∧ b4 = true) ∧ (b7 = true → b3 = true ∧ b5 = true)) ?_ ?_ (b := ⟨false, false, false, false, false, false⟩) rfl (by decide) ?_
  rotate_left
  · rintro ⟨b1, b3, b4, b5, b6, b7⟩ a wq i ⟨u1, u3, u4, u5, q, b, rfl, hB, h1, h3, h4, h5, hne, h6, h7⟩ hk
    simp only [Bool.or_eq_true, Bool.and_eq_true, beq_iff_eq, Bool.not_eq_true'] at hk
    subst hA
    have hzq : W.heap.size ≤ wq.heap.size := hB.size
    rcases hk with ⟨rfl, rfl⟩ | ⟨rfl, rfl⟩ | ⟨rfl, rfl⟩ | ⟨rfl, rfl⟩ | ⟨rfl, rfl, rfl, rfl⟩ | ⟨rfl, rfl, rfl, rfl, rfl⟩
    · have g6 : b6 = false := by cases b6; rfl; exact absurd (h6 rfl).1 (by simp)
      subst g6
      refine step_op rfl (by rfl) (fun K hK => ?_)
      simp only [Act.put, List.setIfInBounds_toArray, List.set_cons_zero, List.set_cons_succ]
      go_simp
      refine (newBuilder_any N wq).mono ?_
      rintro e w' ⟨rfl, hw'⟩
      have hb' : Below wq.heap.size wq w' := by rw [hw']; exact ((Below.refl _ _).alloc (Nat.le_refl _) _).alloc (by simp) _
      have hk0 : w'.heap[wq.heap.size]? = some (.map #[] 0) := by rw [hw']; exact (Below.heap_alloc _ _ _ (by simp)).trans (heap_alloc_new wq _)
      have hk1 : w'.heap[wq.heap.size + 1]? = some (.cells #[.slice none 0 0, .map (some wq.heap.size)] 89 (0, 0)) := by rw [hw']; exact new_at' _ (by simp)
      exact hK _ _ ⟨trivial, ⟨true, b3, b4, b5, false, b7⟩, rfl, _, u3, u4, u5, wq.heap.size, b, rfl, hB.trans (hb'.mono hzq), fun _ => ⟨_, rfl, by omega, hzq, hk1, hk0⟩, fun h => (h3 h).old hb', fun h => (h4 h).old hb', fun h => (h5 h).old hb', fun _ h e => by have := lt_of_heap (h3 h).2.2; omega, nofun, h7⟩
    · have g7 : b7 = false := by cases b7; rfl; exact absurd (h7 rfl).1 (by simp)
      subst g7
      have hb' : Below wq.heap.size wq (wq.alloc (.map #[] 0)) := (Below.refl _ _).alloc (Nat.le_refl _) _
      refine step_op rfl (by rfl) (fun K hK => ?_)
      simp only [Act.put, List.setIfInBounds_toArray, List.set_cons_zero, List.set_cons_succ]
      go_simp
      exact hK _ _ ⟨trivial, ⟨b1, true, b4, b5, b6, false⟩, rfl, u1, _, u4, u5, q, wq.heap.size, rfl, hB.trans (hb'.mono hzq), fun h => (h1 h).old hb', fun _ => ⟨rfl, hzq, heap_alloc_new wq _⟩, fun h => (h4 h).old hb', fun h => (h5 h).old hb', fun h _ e => by obtain ⟨_, _, _, _, _, g5⟩ := h1 h; have := lt_of_heap g5; omega, h6, nofun⟩
    · have g6 : b6 = false := by cases b6; rfl; exact absurd (h6 rfl).2 (by simp)
      subst g6
      have hb' : Below wq.heap.size wq (wq.alloc (.cells #[.pointer none] 65)) := (Below.refl _ _).alloc (Nat.le_refl _) _
      refine step_op rfl (by rfl) (fun K hK => ?_)
      simp only [Act.put, List.setIfInBounds_toArray, List.set_cons_zero, List.set_cons_succ]
      go_simp
      exact hK _ _ ⟨trivial, ⟨b1, b3, true, b5, false, b7⟩, rfl, u1, u3, _, u5, q, b, rfl, hB.trans (hb'.mono hzq), fun h => (h1 h).old hb', fun h => (h3 h).old hb', fun _ => ⟨_, rfl, hzq, heap_alloc_new wq _⟩, fun h => (h5 h).old hb', hne, nofun, h7⟩
    · have g7 : b7 = false := by cases b7; rfl; exact absurd (h7 rfl).2 (by simp)
      subst g7
      have hb' : Below wq.heap.size wq (wq.alloc (.cells #[.map none] 80)) := (Below.refl _ _).alloc (Nat.le_refl _) _
      refine step_op rfl (by rfl) (fun K hK => ?_)
      simp only [Act.put, List.setIfInBounds_toArray, List.set_cons_zero, List.set_cons_succ]
      go_simp
      exact hK _ _ ⟨trivial, ⟨b1, b3, b4, true, b6, false⟩, rfl, u1, u3, u4, _, q, b, rfl, hB.trans (hb'.mono hzq), fun h => (h1 h).old hb', fun h => (h3 h).old hb', fun h => (h4 h).old hb', fun _ => ⟨_, rfl, hzq, heap_alloc_new wq _⟩, hne, h6, nofun⟩
    · have g1 := h1 rfl
      obtain ⟨p, hp, -⟩ := g1
      obtain ⟨bd, rfl, hbd, kd⟩ := h4 rfl
      simp only [Bool.false_eq_true, if_false] at kd
      have t0 := (Lib.cell_of_heap kd 0).trans (show (#[.pointer none] : Array Value)[0]? = some (.pointer none) from rfl)
      have z0 := Lib.frozen_of_heap kd 0
      subst hp
      refine step_op rfl (by rfl) (fun K hK => ?_)
      simp only [Act.put, List.setIfInBounds_toArray, List.set_cons_zero, List.set_cons_succ]
      go_simp
      exact hK _ _ ⟨trivial, ⟨true, b3, true, b5, true, b7⟩, rfl, _, u3, _, u5, q, b, rfl, hB.setCell (p := ⟨bd, 0, none⟩) hbd _, fun _ => (h1 rfl).set kd, fun h => (h3 h).set kd, fun _ => ⟨bd, rfl, hbd, by simpa using heap_setCell_same _ _ 0 _ _ _ kd⟩, fun h => (h5 h).set kd (by decide), hne, fun _ => ⟨rfl, rfl⟩, h7⟩
    · have g3 := (h3 rfl).1
      obtain ⟨bs, rfl, hbs, kd⟩ := h5 rfl
      simp only [Bool.false_eq_true, if_false] at kd
      have t0 := (Lib.cell_of_heap kd 0).trans (show (#[.map none] : Array Value)[0]? = some (.map none) from rfl)
      have z0 := Lib.frozen_of_heap kd 0
      subst g3
      refine step_op rfl (by rfl) (fun K hK => ?_)
      simp only [Act.put, List.setIfInBounds_toArray, List.set_cons_zero, List.set_cons_succ]
      go_simp
      exact hK _ _ ⟨trivial, ⟨b1, true, b4, true, true, true⟩, rfl, u1, _, u4, _, q, b, rfl, hB.setCell (p := ⟨bs, 0, none⟩) hbs _, fun h => (h1 h).set kd, fun _ => (h3 rfl).set kd, fun h => (h4 h).set kd (by decide), fun _ => ⟨bs, rfl, hbs, by simpa using heap_setCell_same _ _ 0 _ _ _ kd⟩, hne, h6, fun _ => ⟨rfl, rfl⟩⟩
  · exact ⟨undef, undef, undef, undef, 0, 0, by subst hA; rfl, (Below.refl _ _).drew, nofun, nofun, nofun, nofun, nofun, nofun, nofun⟩
  rintro ⟨b1, b3, b4, b5, b6, b7⟩ a wq hf ⟨u1, u3, u4, u5, q, b, rfl, hB, h1, h3, h4, h5, hne, _, _⟩
  simp only [Bool.and_eq_true] at hf
  obtain ⟨rfl, rfl, rfl, rfl, rfl, rfl⟩ := hf
  subst hA
  obtain ⟨g1, g2, rfl, rfl, gou, gov, gx, gy, gl⟩ := HH.out
  obtain ⟨y0, y1, y2, y3, y4⟩ := HZ.out
  obtain ⟨p, rfl, lp, lq, kp, kq⟩ := h1 rfl
  obtain ⟨rfl, lb, kr⟩ := h3 rfl
  obtain ⟨bd, rfl, ld, kd⟩ := h4 rfl
  obtain ⟨bs, rfl, ls, ks⟩ := h5 rfl
  simp only [if_true] at kd ks
  obtain ⟨hWf, hSt⟩ := CE.start (ch := ch) g1 g2 gou gov gl HB.out y0 y1 y2 y3 hB kp kq kr (hne rfl rfl) kd ks lp lq lb ld ls
  have hres : ∀ V, Below W.heap.size W V → V.heap[w.heap.size + 1 + 1 + 1]? = some (.cells #[.slice none 0 0, .int .i64 0] 29 (0, 0)) := fun V hV => (hV.block _ (lt_of_heap y4)).trans y4
  have hbx : ∀ U, (CE.mk (w.heap.size + 1 + 1) bs w.heap.size (w.heap.size + 1) wq.heap.size bd p q b (wq.heap.size + 1) w.heap.size A1 c1 (x : Int) A2 c2 (y : Int) us vs fch ch).Box U → (U.cell? ⟨bd, 0, none⟩ = some (.pointer (some ⟨p, 0, none⟩)) ∧ U.cell? ⟨wq.heap.size, 0, none⟩ = some (.func (.func 44) #[] #[.pointer (some ⟨w.heap.size + 1 + 1, 0, none⟩), .pointer (some ⟨bs, 0, none⟩), .pointer (some ⟨w.heap.size, 0, none⟩), .pointer (some ⟨w.heap.size + 1, 0, none⟩), .pointer (some ⟨wq.heap.size, 0, none⟩), .pointer (some ⟨bd, 0, none⟩)]) ∧ U.cell? ⟨w.heap.size, 1, none⟩ = some (.int .i64 x) ∧ U.cell? ⟨w.heap.size + 1, 1, none⟩ = some (.int .i64 y)) := fun U h => ⟨(Lib.cell_of_heap h.d 0).trans rfl, (Lib.cell_of_heap h.fw 0).trans rfl, (cells2 h.a).2, (cells2 h.b).2⟩
  have HSt := Lib.hid hSt
  have HWf := Lib.hid hWf
  have HR := Lib.hid hres
  have HX := Lib.hid hbx
  have HBq := Lib.hid hB
  have HG := Lib.hid (And.intro gx (And.intro gy (And.intro y0 (And.intro lp (And.intro lq (And.intro lb (And.intro (lt_of_heap kp) (And.intro (lt_of_heap kq) (lt_of_heap kr)))))))))
  have eg : ∀ args w, (callFunc 44 args).run Tryd.prog w = .ok (.enter 44 args) w := enters_of Tryd.func44 (by kernel_rfl) rfl
  clear g1 g2 gou gov gx gy gl y0 y1 y2 y3 y4 h1 h3 h4 h5 hne lp lq lb ld ls kp kq kr kd ks hWf hSt hres hbx hB HH HZ HL hmk
  simp only [Act.put, List.setIfInBounds_toArray, List.set_cons_zero, List.set_cons_succ]
  go_wp2_with fail
  obtain ⟨V, hV⟩ : ∃ V, V = wq.alloc (.cells #[.func (.func 44) #[] #[.pointer (some ⟨w.heap.size + 1 + 1, 0, none⟩), .pointer (some ⟨bs, 0, none⟩), .pointer (some ⟨w.heap.size, 0, none⟩), .pointer (some ⟨w.heap.size + 1, 0, none⟩), .pointer (some ⟨wq.heap.size, 0, none⟩), .pointer (some ⟨bd, 0, none⟩)]] 81) := ⟨_, rfl⟩
  rw [← hV]
  have hV1 : Below (wq.heap.size + 1) (wq.alloc (.cells #[.func (.func 44) #[] #[.pointer (some ⟨w.heap.size + 1 + 1, 0, none⟩), .pointer (some ⟨bs, 0, none⟩), .pointer (some ⟨w.heap.size, 0, none⟩), .pointer (some ⟨w.heap.size + 1, 0, none⟩), .pointer (some ⟨wq.heap.size, 0, none⟩), .pointer (some ⟨bd, 0, none⟩)]] 81)) V := by rw [hV]; exact Below.refl _ _
  have hV2 : Below wq.heap.size wq V := by rw [hV]; exact (Below.refl _ _).alloc (Nat.le_refl _) _
  have HV1 := Lib.hid hV1.drew
  have HV2 := Lib.hid hV2.drew
  have HS0 := Lib.hid (HSt.out V.drew HV1.out)
  clear hV hV1 hV2
  refine wp_region_held_drew (S := fun U => U.cell? ⟨bd, 0, none⟩ = some (.pointer (some ⟨p, 0, none⟩)) ∧ U.cell? ⟨wq.heap.size, 0, none⟩ = some (.func (.func 44) #[] #[.pointer (some ⟨w.heap.size + 1 + 1, 0, none⟩), .pointer (some ⟨bs, 0, none⟩), .pointer (some ⟨w.heap.size, 0, none⟩), .pointer (some ⟨w.heap.size + 1, 0, none⟩), .pointer (some ⟨wq.heap.size, 0, none⟩), .pointer (some ⟨bd, 0, none⟩)]) ∧ U.cell? ⟨w.heap.size, 1, none⟩ = some (.int .i64 x) ∧ U.cell? ⟨w.heap.size + 1, 1, none⟩ = some (.int .i64 y)) (by kernel_rfl) (HX.out _ HS0.out.1) (fun _ => ?_)
  refine tk 0 (HX.out _ HS0.out.1) ?_
  try simp only [Act.put, pA, pB, pC]
  refine tk 1 (HX.out _ HS0.out.1) ?_
  try simp only [Act.put, pA, pB, pC]
  refine tk 2 (HX.out _ HS0.out.1) ?_
  try simp only [Act.put, pA, pB, pC]
  refine tk 3 (HX.out _ HS0.out.1) ?_
  try simp only [Act.put, pA, pB, pC]
  refine tk 4 (HX.out _ HS0.out.1) ?_
  try simp only [Act.put, pA, pB, pC]
  refine tk 5 (HX.out _ HS0.out.1) ?_
  try simp only [Act.put, pA, pB, pC]
  refine tk 6 (HX.out _ HS0.out.1) ?_
  try simp only [Act.put, pA, pB, pC]
  refine one_op 7 (by kernel_rfl) rfl (by rfl) (fun K hK => ?_)
  go_simp
  refine (walkC_any (CE.mk (w.heap.size + 1 + 1) bs w.heap.size (w.heap.size + 1) wq.heap.size bd p q b (wq.heap.size + 1) w.heap.size A1 c1 (x : Int) A2 c2 (y : Int) us vs fch ch) HWf.out hch ech 13 x y [] 0 none V.drew (by omega) ⟨HG.out.1, HG.out.2.1, HS0.out, Nat.le_trans (Nat.add_le_add_left (pow_ok _) 0) (by decide), Nat.le_trans (Nat.add_le_add_left (pow_ok _) 0) (by decide)⟩).mono ?_
  rintro e V5 ⟨rfl, ⟨k1, u1, hS1, _, _⟩, hK1⟩
  dsimp only at hS1
  have HS1 := Lib.hid hS1
  have HK1 := Lib.hid hK1
  clear hS1 hK1
  refine hK _ _ (HX.out _ HS1.out.1) ?_
  try simp only [Act.put, pA, pB, pC]
  clear hK K
  generalize hcan : can (gP ch us vs x y) [] = cn at *
  obtain ⟨nd, rt⟩ := cn
  have HC := Lib.hid hcan
  clear hcan
  dsimp only at HS1 ⊢
  refine one_op 8 (by kernel_rfl) rfl (by rfl) (fun K hK => ?_)
  go_simp
  refine (bdiagram_any p q (wq.heap.size + 1) nd (rt : Int) V5 u1 HS1.out.2.1).mono ?_
  rintro e V6 ⟨A, c, rfl, hO, hb6⟩
  have HBX := Lib.hid (HS1.out.1.keep HWf.out (Ke.of (hb6.mono HS1.out.2.1.base)))
  have hr6 : V6.heap[w.heap.size + 1 + 1 + 1]? = some (.cells #[.slice none 0 0, .int .i64 0] 29 (0, 0)) := by
    obtain ⟨_, _, y0, lp, lq, lb, _⟩ := HG.out
    have s1 := HBq.out.size
    have s2 := HV2.out.size
    have s3 := HK1.out.size
    refine (hb6.block _ (by omega)).trans ((HK1.out.block _ (by omega) fun h => ?_).trans (HR.out _ (HBq.out.trans (HV2.out.mono s1))))
    rcases h with h | h
    · rcases h with h | h | h <;> dsimp only at h <;> omega
    · cases h
  have hbw6 : Below w.heap.size w V6 := by
    obtain ⟨_, _, y0, lp, lq, lb, _⟩ := HG.out
    have s1 := HBq.out.size
    have s2 := HV2.out.size
    have s3 := HK1.out.size
    refine HB.out.trans ((HBq.out.mono (by omega)).trans ((HV2.out.mono (by omega)).trans (Below.trans (HK1.out.toBelow (by omega) fun b h => ?_) (hb6.mono (by omega)))))
    rcases h with h | h
    · rcases h with h | h | h <;> dsimp only at h <;> omega
    · cases h
  obtain ⟨d0, d1⟩ := cells2 hr6
  have z0 := Lib.frozen_of_heap hr6 0
  have z1 := Lib.frozen_of_heap hr6 1
  have HO := Lib.hid hO
  have HB6 := Lib.hid hbw6
  have HR6 := Lib.hid hr6
  clear hO hb6 hbw6 hr6
  refine hK _ _ (HX.out _ HBX.out) ?_
  try simp only [Act.put, pA, pB, pC]
  clear hK K
  refine one_op 9 (by kernel_rfl) rfl (by rfl) (fun K hK => ?_)
  go_simp
  obtain ⟨V7, hV7⟩ : ∃ V7, V7 = (V6.setCell ⟨w.heap.size + 1 + 1 + 1, 0, none⟩ (.slice A nd.length c)).setCell ⟨w.heap.size + 1 + 1 + 1, 1, none⟩ (.int .i64 rt) := ⟨_, rfl⟩
  rw [← hV7]
  have kr7 : V7.heap[w.heap.size + 1 + 1 + 1]? = some (.cells #[.slice A nd.length c, .int .i64 rt] 29 (0, 0)) := by
    rw [hV7]
    have h0 := heap_setCell_same _ _ 0 _ _ (.slice A nd.length c) HR6.out
    have h1 := heap_setCell_same _ _ 1 _ _ (.int .i64 rt) h0
    simpa using h1
  have ko : ∀ g, g ≠ w.heap.size + 1 + 1 + 1 → V7.heap[g]? = V6.heap[g]? := fun g hg => by rw [hV7]; exact (heap_setCell_other _ _ _ _ hg).trans (heap_setCell_other _ _ _ _ hg)
  have hS7 : (fun U => U.cell? ⟨bd, 0, none⟩ = some (.pointer (some ⟨p, 0, none⟩)) ∧ U.cell? ⟨wq.heap.size, 0, none⟩ = some (.func (.func 44) #[] #[.pointer (some ⟨w.heap.size + 1 + 1, 0, none⟩), .pointer (some ⟨bs, 0, none⟩), .pointer (some ⟨w.heap.size, 0, none⟩), .pointer (some ⟨w.heap.size + 1, 0, none⟩), .pointer (some ⟨wq.heap.size, 0, none⟩), .pointer (some ⟨bd, 0, none⟩)]) ∧ U.cell? ⟨w.heap.size, 1, none⟩ = some (.int .i64 x) ∧ U.cell? ⟨w.heap.size + 1, 1, none⟩ = some (.int .i64 y)) V7 := by
    have h := HBX.out
    exact ⟨(Lib.cell_of_heap ((ko _ (ne_of_obj h.d HR6.out (by simp))).trans h.d) 0).trans rfl, (Lib.cell_of_heap ((ko _ (ne_of_obj h.fw HR6.out (by simp))).trans h.fw) 0).trans rfl, (cells2 ((ko _ (show w.heap.size ≠ w.heap.size + 1 + 1 + 1 by omega)).trans h.a)).2, (cells2 ((ko _ (show w.heap.size + 1 ≠ w.heap.size + 1 + 1 + 1 by omega)).trans h.b)).2⟩
  have hO7 : OwnNd V7 (wq.heap.size + 1) (.slice A nd.length c) nd := by
    obtain ⟨_, _, y0, _⟩ := HG.out
    have s1 := HBq.out.size
    rw [hV7]
    exact OwnE.low (OwnE.low HO.out (by omega)) (by omega)
  have hb7 : Below w.heap.size w V7 := by
    rw [hV7]
    exact (HB6.out.setCell (p := ⟨w.heap.size + 1 + 1 + 1, 0, none⟩) (by show w.heap.size ≤ w.heap.size + 1 + 1 + 1; omega) _).setCell (p := ⟨w.heap.size + 1 + 1 + 1, 1, none⟩) (by show w.heap.size ≤ w.heap.size + 1 + 1 + 1; omega) _
  have HF := Lib.hid (And.intro hO7 hb7)
  obtain ⟨f0, f1⟩ := cells2 kr7
  clear hV7 kr7 ko d0 d1 z0 z1 hO7 hb7
  refine hK _ _ hS7 ?_
  try simp only [Act.put, pA, pB, pC]
  clear hK K hS7
  refine wpAnyH_done (by kernel_rfl) ?_ _
  go_wp2
  refine bodyPost_ret (v := .agg #[.slice A nd.length c, .int .i64 rt]) (by simp [results, Tryd.results23, go_sem, f0, f1]) rfl ?_
  rw [HC.out]
  obtain ⟨_, _, y0, _⟩ := HG.out
  have s1 := HBq.out.size
  exact ⟨A, c, rfl, wq.heap.size + 1, by omega, HF.out.1, HF.out.2⟩
end Go.Proofs.YtplmbmecjhmiiaaDoor
