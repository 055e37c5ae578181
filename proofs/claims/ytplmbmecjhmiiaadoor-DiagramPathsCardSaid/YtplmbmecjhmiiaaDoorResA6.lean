/- restrict: the diagram of a diagram's function with one literal fixed. -/
import Derived.Test.YtplmbmecjhmiiaaDoorResM6
import Derived.Test.YtplmbmecjhmiiaaDoorCombA6
import Derived.Test.YtplmbmecjhmiiaaDoorRep6
namespace Go.Proofs.YtplmbmecjhmiiaaDoor
open Go Go.RowKit Go.Maps
/-- the one cell -1 -/
def NOn (z : Nat) (v : Value) (w : World) : Prop := ∃ g, v = .slice (some ⟨g, 0, none⟩) 1 1 ∧ z ≤ g ∧ w.heap[g]? = some (.cells #[m1] 3 (0, 0))
/-- a row of n cells -1 -/
def NRo (z n : Nat) (v : Value) (b : Nat) (w : World) : Prop := v = .slice (some ⟨b, 0, none⟩) n n ∧ z ≤ b ∧ ∃ cur : Array Value, w.heap[b]? = some (.cells cur 3 (0, 0)) ∧ cur.size = n ∧ ∀ j, j < n → cur[j]? = some m1
theorem NOn.old {z : Nat} {v : Value} {w w' : World} (h : NOn z v w) (hb : Below w.heap.size w w') : NOn z v w' := by
  obtain ⟨p, h1, h2, h3⟩ := h
  exact ⟨p, h1, h2, (hb.block _ (lt_of_heap h3)).trans h3⟩
theorem NRo.old {z n b : Nat} {v : Value} {w w' : World} (h : NRo z n v b w) (hb : Below w.heap.size w w') : NRo z n v b w' := by
  obtain ⟨h1, h2, c, h3, h4⟩ := h
  exact ⟨h1, h2, c, (hb.block _ (lt_of_heap h3)).trans h3, h4⟩
theorem NOn.set {z g i : Nat} {v x : Value} {w : World} (h : NOn z v w) {c : Value} {T : TypeId} (hg : w.heap[g]? = some (.cells #[c] T (0, 0))) (hT : T ≠ 3) : NOn z v (w.setCell ⟨g, i, none⟩ x) := by
  obtain ⟨p, h1, h2, h3⟩ := h
  exact ⟨p, h1, h2, (heap_setCell_other _ _ _ _ (show p ≠ g from fun e => by subst e; rw [hg] at h3; injection h3 with h3; injection h3 with _ h3 _; exact hT h3)).trans h3⟩
theorem NRo.set {z n b g i : Nat} {v x : Value} {w : World} (h : NRo z n v b w) {c : Value} {T : TypeId} (hg : w.heap[g]? = some (.cells #[c] T (0, 0))) (hT : T ≠ 3) : NRo z n v b (w.setCell ⟨g, i, none⟩ x) := by
  obtain ⟨h1, h2, cu, h3, h4⟩ := h
  exact ⟨h1, h2, cu, (heap_setCell_other _ _ _ _ (show b ≠ g from fun e => by subst e; rw [hg] at h3; injection h3 with h3; injection h3 with _ h3 _; exact hT h3)).trans h3, h4⟩
/-- the state at the first call of walk -/
theorem RE.start {w W wq : World} {A1 : Option Addr} {c1 x p q rb bd bs : Nat} {us : List Nd} {l : Int} {v : Bool} {cur : Array Value} (h1 : NdR w (fun b => b < w.heap.size) A1 us.length c1 (us.map ni)) (ou : Ord us) (hl : us.length ≤ 100000)
    (hbw : Below w.heap.size w W) (hz : W.heap.size = w.heap.size + 4) (ka : W.heap[w.heap.size]? = some (.cells #[.slice A1 us.length c1, .int .i64 x] 29 (0, 0))) (kn : W.heap[w.heap.size + 1]? = some (.cells #[.int .i64 l] 3 (0, 0))) (kv : W.heap[w.heap.size + 1 + 1]? = some (.cells #[.bool v] 4 (0, 0)))
    (hB : Below W.heap.size W wq) (kp : wq.heap[p]? = some (.cells #[.slice none 0 0, .map (some q)] 89 (0, 0))) (kq : wq.heap[q]? = some (.map #[] 0)) (kr : wq.heap[rb]? = some (.cells cur 3 (0, 0))) (cs : cur.size = us.length) (cm : ∀ j, j < us.length → cur[j]? = some m1) (kd : wq.heap[bd]? = some (.cells #[.pointer (some ⟨p, 0, none⟩)] 65 (0, 0))) (ks : wq.heap[bs]? = some (.cells #[.slice (some ⟨rb, 0, none⟩) us.length us.length] 24 (0, 0)))
    (lp : W.heap.size ≤ p) (lq : W.heap.size ≤ q) (lr : W.heap.size ≤ rb) (_ : W.heap.size ≤ bd) (_ : W.heap.size ≤ bs) :
    (RE.mk bs w.heap.size (w.heap.size + 1) wq.heap.size (w.heap.size + 1 + 1) bd p q rb us.length (wq.heap.size + 1) w.heap.size A1 c1 (x : Int) us l v).Wf ∧ ∀ V, Below (wq.heap.size + 1) (wq.alloc (.cells #[.func (.func 42) #[] #[.pointer (some ⟨bs, 0, none⟩), .pointer (some ⟨w.heap.size, 0, none⟩), .pointer (some ⟨w.heap.size + 1, 0, none⟩), .pointer (some ⟨wq.heap.size, 0, none⟩), .pointer (some ⟨w.heap.size + 1 + 1, 0, none⟩), .pointer (some ⟨bd, 0, none⟩)]] 77)) V → (RE.mk bs w.heap.size (w.heap.size + 1) wq.heap.size (w.heap.size + 1 + 1) bd p q rb us.length (wq.heap.size + 1) w.heap.size A1 c1 (x : Int) us l v).St V [] none := by
  have tp := lt_of_heap kp
  have tq := lt_of_heap kq
  have tr := lt_of_heap kr
  have td := lt_of_heap kd
  have ts := lt_of_heap ks
  have npq := ne_of_obj kp kq (by simp)
  have npb := ne_of_obj kp kr (by simp)
  have nqb := ne_of_obj kq kr (by simp)
  have ndp := ne_of_obj kd kp (by simp)
  have ndq := ne_of_obj kd kq (by simp)
  have ndb := ne_of_obj kd kr (by simp)
  have nsp := ne_of_obj ks kp (by simp)
  have nsq := ne_of_obj ks kq (by simp)
  have nsb := ne_of_obj ks kr (by simp)
  have hWq := hB.size
  have hWf : (RE.mk bs w.heap.size (w.heap.size + 1) wq.heap.size (w.heap.size + 1 + 1) bd p q rb us.length (wq.heap.size + 1) w.heap.size A1 c1 (x : Int) us l v).Wf := by
    refine ⟨⟨?_, ?_, ?_, ?_, ?_, ?_, ?_⟩, ⟨?_, ?_, ?_, ?_, ?_, ?_⟩, ⟨?_, ?_, ?_, ?_⟩, ⟨?_, ?_⟩, ou, hl⟩ <;> (try (intro hx; rcases hx with hx | hx | hx)) <;> (try dsimp only at *) <;> omega
  refine ⟨hWf, fun V hV => ?_⟩
  have K : ∀ (g : Nat) (o : Obj), wq.heap[g]? = some o → V.heap[g]? = some o := fun g o h => by
    have := lt_of_heap h
    exact (hV.block g (by omega)).trans ((Below.heap_alloc _ _ _ this).trans h)
  have KW : ∀ (g : Nat) (o : Obj), W.heap[g]? = some o → V.heap[g]? = some o := fun g o h => K g o ((hB.block g (lt_of_heap h)).trans h)
  have hwV : Below w.heap.size w V := hbw.trans ((hB.mono hbw.size).trans (((Below.refl wq.heap.size wq).alloc (Nat.le_refl _) _).mono (by omega) |>.trans (hV.mono (by omega))))
  have hsz : wq.heap.size + 1 ≤ V.heap.size := Nat.le_trans (by simp) hV.size
  refine ⟨⟨K _ _ ks, KW _ _ ka, KW _ _ kn, (hV.block _ (Nat.lt_succ_self _)).trans (heap_alloc_new wq _), KW _ _ kv, K _ _ kd, h1.on hwV⟩, ?_, Good_nil, cur, K _ _ kr, cs, fun j hj => ⟨-1, cm j hj, .inl rfl⟩⟩
  exact ⟨none, 0, 0, fun _ => none, K _ _ kp, OwnE.nil _ _ _ _ _, MapF.empty _ _ (K _ _ kq), Nat.le_refl _, fun x y => by simp, by dsimp only; omega, by dsimp only; omega, npq, by dsimp only; omega, rfl⟩
set_option maxRecDepth 100000 in
set_option maxHeartbeats 6400000 in
theorem restrict_any (A1 : Option Addr) (n1 c1 : Nat) (us : List Nd) (x : Nat) (l : Int) (v : Bool) (w : World) (h1 : NdR w (fun b => b < w.heap.size) A1 n1 c1 (us.map ni)) (e1 : us.length = n1) (ou : Ord us) (hx : x < n1 + 2) (hl : n1 ≤ 100000) :
    Calls Tryd.prog 20 #[.agg #[.slice A1 n1 c1, .int .i64 x], .int .i64 l, .bool v] w fun e w' => ∃ A c base, e = .returned (.agg #[.slice A (can (cutI (F us x) l v) []).1.length c, .int .i64 (can (cutI (F us x) l v) []).2]) ∧ w.heap.size ≤ base ∧ OwnNd w' base (.slice A (can (cutI (F us x) l v) []).1.length c) (can (cutI (F us x) l v) []).1 ∧ Below w.heap.size w w' := by
  have HH := Lib.hid (And.intro h1 (And.intro e1 (And.intro ou (And.intro hx hl))))
  clear h1 e1 ou hx
  obtain ⟨W, hWd⟩ : ∃ W, W = (((w.alloc (.cells #[.slice A1 n1 c1, .int .i64 x] 29)).alloc (.cells #[.int .i64 l] 3)).alloc (.cells #[.bool v] 4)).alloc (.cells #[.slice none 0 0, .int .i64 0] 29) := ⟨_, rfl⟩
  have hb : Below w.heap.size w W := by rw [hWd]; exact ((((Below.refl _ _).alloc (Nat.le_refl _) _).alloc (by simp) _).alloc (by simp <;> omega) _).alloc (by simp <;> omega) _
  have HZ : Hid (W.heap.size = w.heap.size + 4 ∧ W.heap[w.heap.size]? = some (.cells #[.slice A1 n1 c1, .int .i64 x] 29 (0, 0)) ∧ W.heap[w.heap.size + 1]? = some (.cells #[.int .i64 l] 3 (0, 0)) ∧ W.heap[w.heap.size + 2]? = some (.cells #[.bool v] 4 (0, 0)) ∧ W.heap[w.heap.size + 3]? = some (.cells #[.slice none 0 0, .int .i64 0] 29 (0, 0))) := Lib.hid (by
    rw [hWd]
    refine ⟨by simp, ?_, ?_, ?_, ?_⟩
    · exact (Below.heap_alloc _ _ _ (by simp <;> omega)).trans ((Below.heap_alloc _ _ _ (by simp <;> omega)).trans ((Below.heap_alloc _ _ _ (by simp)).trans (heap_alloc_new w _)))
    · exact (Below.heap_alloc _ _ _ (by simp <;> omega)).trans ((Below.heap_alloc _ _ _ (by simp)).trans (new_at' _ (by simp)))
    · exact (Below.heap_alloc _ _ _ (by simp)).trans (new_at' _ (by simp))
    · exact new_at' _ (by simp))
  have HS : Hid (∀ V, Below W.heap.size W V → V.cell? ⟨w.heap.size, 0, none⟩ = some (.slice A1 n1 c1)) := Lib.hid fun V hV => (cells2 ((hV.block _ (lt_of_heap HZ.out.2.1)).trans HZ.out.2.1)).1
  have HB := Lib.hid hb
  have HL := Lib.hid hl
  clear hb hl
  go_enter Tryd.func20, Tryd.ntmps20
  go_wp2_with fail
  rw [← hWd]
  clear hWd
  refine wp_region_held_drew (S := fun U => U.cell? ⟨w.heap.size, 0, none⟩ = some (.slice A1 n1 c1)) (by kernel_rfl) (HS.out _ (Below.refl _ W).drew) (fun _ => ?_)
  refine tk 0 (HS.out _ (Below.refl _ W).drew) ?_
  try simp only [Act.put, pA, pB, pC]
  refine tk 1 (HS.out _ (Below.refl _ W).drew) ?_
  try simp only [Act.put, pA, pB, pC]
  refine tk 2 (HS.out _ (Below.refl _ W).drew) ?_
  try simp only [Act.put, pA, pB, pC]
  refine tk 5 (HS.out _ (Below.refl _ W).drew) ?_
  try simp only [Act.put, pA, pB, pC]
  refine tk 6 (HS.out _ (Below.refl _ W).drew) ?_
  try simp only [Act.put, pA, pB, pC]
  refine tk 7 (HS.out _ (Below.refl _ W).drew) ?_
  try simp only [Act.put, pA, pB, pC]
  generalize hA : ({ tmps := _, defers := [] } : Act) = a0
  refine wpAnyH_par (Bs := Bool × Bool × Bool × Bool × Bool × Bool × Bool) (L := fun ⟨b3, b4, b8, b9, b10, b11, b12⟩ => #[true, true, true, b3, b4, true, true, true, b8, b9, b10, b11, b12]) (chk := fun ⟨b3, b4, b8, b9, b10, b11, b12⟩ i => (i == 3 && !b3) || ((i == 4 && !b4) || ((i == 8 && (b3 && (b4 && !b8))) || ((i == 9 && !b9) || ((i == 10 && !b10) || ((i == 11 && (b9 && (b3 && (b8 && !b11)))) || (i == 12 && (b10 && (b8 && (b11 && !b12))))))))) ) (full := fun ⟨b3, b4, b8, b9, b10, b11, b12⟩ => b3 && (b4 && (b8 && (b9 && (b10 && (b11 && b12)))))) (by rintro ⟨b3, b4, b8, b9, b10, b11, b12⟩; revert b3 b4 b8 b9 b10 b11 b12; decide +kernel) (by rintro ⟨b3, b4, b8, b9, b10, b11, b12⟩; revert b3 b4 b8 b9 b10 b11 b12; decide +kernel)
    (Inv := fun ⟨b3, b4, b8, b9, b10, b11, b12⟩ a wq => ∃ (u13 u14 u18 u7 u8 : Value) (q rb : Nat), a = (((((a0.put (some 13) u13).put (some 14) u14).put (some 18) u18).put (some 7) u7).put (some 8) u8) ∧ Below W.heap.size W wq ∧ (b3 = true → NBu W.heap.size u13 q wq) ∧ (b4 = true → NOn W.heap.size u14 wq) ∧ (b8 = true → NRo W.heap.size n1 u18 rb wq) ∧ (b9 = true → Vr W.heap.size 65 u7 (if b11 then u13 else .pointer none) wq) ∧ (b10 = true → Vr W.heap.size 24 u8 (if b12 then u18 else .slice none 0 0) wq) ∧ (b8 = true → b3 = true) ∧ (b11 = true → b3 = true ∧ b9 = true) ∧ (b12 = true → b8 = true ∧ b10 = true)) ?_ ?_ (b := ⟨false, false, false, false, false, false, false⟩) rfl (by decide) ?_
  rotate_left
  · rintro ⟨b3, b4, b8, b9, b10, b11, b12⟩ a wq i ⟨u13, u14, u18, u7, u8, q, rb, rfl, hB, h3, h4, h8, h9, h10, g8, g11, g12⟩ hk
    simp only [Bool.or_eq_true, Bool.and_eq_true, beq_iff_eq, Bool.not_eq_true'] at hk
    subst hA
    have hzq : W.heap.size ≤ wq.heap.size := hB.size
    rcases hk with ⟨rfl, rfl⟩ | ⟨rfl, rfl⟩ | ⟨rfl, rfl, rfl, rfl⟩ | ⟨rfl, rfl⟩ | ⟨rfl, rfl⟩ | ⟨rfl, rfl, rfl, rfl, rfl⟩ | ⟨rfl, rfl, rfl, rfl, rfl⟩
    · have e8 : b8 = false := by cases b8; rfl; exact absurd (g8 rfl) (by simp)
      have e11 : b11 = false := by cases b11; rfl; exact absurd (g11 rfl).1 (by simp)
      subst e8 e11
      refine step_op rfl (by rfl) (fun K hK => ?_)
      simp only [Act.put, List.setIfInBounds_toArray, List.set_cons_zero, List.set_cons_succ]
      go_simp
      refine (newBuilder_any n1 wq).mono ?_
      rintro e w' ⟨rfl, hw'⟩
      have hb' : Below wq.heap.size wq w' := by rw [hw']; exact ((Below.refl _ _).alloc (Nat.le_refl _) _).alloc (by simp) _
      have hk0 : w'.heap[wq.heap.size]? = some (.map #[] 0) := by rw [hw']; exact (Below.heap_alloc _ _ _ (by simp)).trans (heap_alloc_new wq _)
      have hk1 : w'.heap[wq.heap.size + 1]? = some (.cells #[.slice none 0 0, .map (some wq.heap.size)] 89 (0, 0)) := by rw [hw']; exact new_at' _ (by simp)
      have hB' := hB.trans (hb'.mono hzq)
      exact hK _ _ ⟨HS.out _ hB', ⟨true, b4, false, b9, b10, false, b12⟩, rfl, _, u14, u18, u7, u8, wq.heap.size, rb, rfl, hB', fun _ => ⟨_, rfl, by omega, hzq, hk1, hk0⟩, fun h => (h4 h).old hb', nofun, fun h => (h9 h).old hb', fun h => (h10 h).old hb', nofun, nofun, fun h => absurd (g12 h).1 (by simp)⟩
    · have hb' : Below wq.heap.size wq (wq.alloc (.cells #[m1] 3)) := (Below.refl _ _).alloc (Nat.le_refl _) _
      have hB' := hB.trans (hb'.mono hzq)
      refine step_op rfl (by rfl) (fun K hK => ?_)
      simp only [Act.put, List.setIfInBounds_toArray, List.set_cons_zero, List.set_cons_succ]
      go_simp
      exact hK _ _ ⟨HS.out _ hB', ⟨b3, true, b8, b9, b10, b11, b12⟩, rfl, u13, _, u18, u7, u8, q, rb, rfl, hB', fun h => (h3 h).old hb', fun _ => ⟨_, rfl, hzq, heap_alloc_new wq _⟩, fun h => (h8 h).old hb', fun h => (h9 h).old hb', fun h => (h10 h).old hb', g8, g11, g12⟩
    · obtain ⟨g, rfl, lg, kg⟩ := h4 rfl
      have e12 : b12 = false := by cases b12; rfl; exact absurd (g12 rfl).1 (by simp)
      subst e12
      refine step_op rfl (by rfl) (fun K hK => ?_)
      simp only [Act.put, List.setIfInBounds_toArray, List.set_cons_zero, List.set_cons_succ]
      go_simp
      refine (repeat_any n1 g HL.out wq kg).mono ?_
      rintro e w' ⟨rfl, hcur, hb'⟩
      have hB' := hB.trans (hb'.mono hzq)
      exact hK _ _ ⟨HS.out _ hB', ⟨true, true, true, b9, b10, b11, false⟩, rfl, u13, _, _, u7, u8, q, wq.heap.size, rfl, hB', fun h => (h3 h).old hb', fun _ => ⟨g, rfl, lg, (hb'.block _ (lt_of_heap kg)).trans kg⟩, fun _ => ⟨rfl, hzq, hcur⟩, fun h => (h9 h).old hb', fun h => (h10 h).old hb', fun _ => rfl, g11, nofun⟩
    · have e11 : b11 = false := by cases b11; rfl; exact absurd (g11 rfl).2 (by simp)
      subst e11
      have hb' : Below wq.heap.size wq (wq.alloc (.cells #[.pointer none] 65)) := (Below.refl _ _).alloc (Nat.le_refl _) _
      have hB' := hB.trans (hb'.mono hzq)
      refine step_op rfl (by rfl) (fun K hK => ?_)
      simp only [Act.put, List.setIfInBounds_toArray, List.set_cons_zero, List.set_cons_succ]
      go_simp
      exact hK _ _ ⟨HS.out _ hB', ⟨b3, b4, b8, true, b10, false, b12⟩, rfl, u13, u14, u18, _, u8, q, rb, rfl, hB', fun h => (h3 h).old hb', fun h => (h4 h).old hb', fun h => (h8 h).old hb', fun _ => ⟨_, rfl, hzq, heap_alloc_new wq _⟩, fun h => (h10 h).old hb', g8, nofun, g12⟩
    · have e12 : b12 = false := by cases b12; rfl; exact absurd (g12 rfl).2 (by simp)
      subst e12
      have hb' : Below wq.heap.size wq (wq.alloc (.cells #[.slice none 0 0] 24)) := (Below.refl _ _).alloc (Nat.le_refl _) _
      have hB' := hB.trans (hb'.mono hzq)
      refine step_op rfl (by rfl) (fun K hK => ?_)
      simp only [Act.put, List.setIfInBounds_toArray, List.set_cons_zero, List.set_cons_succ]
      go_simp
      exact hK _ _ ⟨HS.out _ hB', ⟨b3, b4, b8, b9, true, b11, false⟩, rfl, u13, u14, u18, u7, _, q, rb, rfl, hB', fun h => (h3 h).old hb', fun h => (h4 h).old hb', fun h => (h8 h).old hb', fun h => (h9 h).old hb', fun _ => ⟨_, rfl, hzq, heap_alloc_new wq _⟩, g8, g11, nofun⟩
    · have g1 := h3 rfl
      obtain ⟨p, hp, -⟩ := g1
      obtain ⟨bd, rfl, hbd, kd⟩ := h9 rfl
      simp only [Bool.false_eq_true, if_false] at kd
      have t0 := (Lib.cell_of_heap kd 0).trans (show (#[.pointer none] : Array Value)[0]? = some (.pointer none) from rfl)
      have z0 := Lib.frozen_of_heap kd 0
      subst hp
      have hB' := hB.setCell (p := ⟨bd, 0, none⟩) hbd (.pointer (some ⟨p, 0, none⟩))
      refine step_op rfl (by rfl) (fun K hK => ?_)
      simp only [Act.put, List.setIfInBounds_toArray, List.set_cons_zero, List.set_cons_succ]
      go_simp
      exact hK _ _ ⟨HS.out _ hB', ⟨true, b4, true, true, b10, true, b12⟩, rfl, _, u14, u18, _, u8, q, rb, rfl, hB', fun _ => (h3 rfl).set kd, fun h => (h4 h).set kd (by decide), fun h => (h8 h).set kd (by decide), fun _ => ⟨bd, rfl, hbd, by simpa using heap_setCell_same _ _ 0 _ _ _ kd⟩, fun h => (h10 h).set kd (by decide), fun _ => rfl, fun _ => ⟨rfl, rfl⟩, g12⟩
    · have g3 := (h8 rfl).1
      obtain ⟨bs, rfl, hbs, kd⟩ := h10 rfl
      simp only [Bool.false_eq_true, if_false] at kd
      have t0 := (Lib.cell_of_heap kd 0).trans (show (#[.slice none 0 0] : Array Value)[0]? = some (.slice none 0 0) from rfl)
      have z0 := Lib.frozen_of_heap kd 0
      subst g3
      have hB' := hB.setCell (p := ⟨bs, 0, none⟩) hbs (.slice (some ⟨rb, 0, none⟩) n1 n1)
      refine step_op rfl (by rfl) (fun K hK => ?_)
      simp only [Act.put, List.setIfInBounds_toArray, List.set_cons_zero, List.set_cons_succ]
      go_simp
      exact hK _ _ ⟨HS.out _ hB', ⟨b3, b4, true, b9, true, true, true⟩, rfl, u13, u14, _, u7, _, q, rb, rfl, hB', fun h => (h3 h).set kd, fun h => (h4 h).set kd (by decide), fun _ => (h8 rfl).set kd (by decide), fun h => (h9 h).set kd (by decide), fun _ => ⟨bs, rfl, hbs, by simpa using heap_setCell_same _ _ 0 _ _ _ kd⟩, g8, g11, fun _ => ⟨rfl, rfl⟩⟩
  · exact ⟨undef, undef, undef, undef, undef, 0, 0, by subst hA; rfl, (Below.refl _ _).drew, nofun, nofun, nofun, nofun, nofun, nofun, nofun, nofun⟩
  rintro ⟨b3, b4, b8, b9, b10, b11, b12⟩ a wq hf ⟨u13, u14, u18, u7, u8, q, rb, rfl, hB, h3, h4, h8, h9, h10, _, _, _⟩
  simp only [Bool.and_eq_true] at hf
  obtain ⟨rfl, rfl, rfl, rfl, rfl, rfl, rfl⟩ := hf
  subst hA
  obtain ⟨g1, rfl, gou, gx, gl⟩ := HH.out
  obtain ⟨y0, y1, y2, y3, y4⟩ := HZ.out
  obtain ⟨p, rfl, lp, lq, kp, kq⟩ := h3 rfl
  obtain ⟨rfl, lr, cur, kr, cs, cm⟩ := h8 rfl
  obtain ⟨bd, rfl, ld, kd⟩ := h9 rfl
  obtain ⟨bs, rfl, ls, ks⟩ := h10 rfl
  simp only [if_true] at kd ks
  obtain ⟨hWf, hSt⟩ := RE.start (l := l) (v := v) g1 gou gl HB.out y0 y1 y2 y3 hB kp kq kr cs cm kd ks lp lq lr ld ls
  have hres : ∀ V, Below W.heap.size W V → V.heap[w.heap.size + 1 + 1 + 1]? = some (.cells #[.slice none 0 0, .int .i64 0] 29 (0, 0)) := fun V hV => (hV.block _ (lt_of_heap y4)).trans y4
  have hbx : ∀ U, (RE.mk bs w.heap.size (w.heap.size + 1) wq.heap.size (w.heap.size + 1 + 1) bd p q rb us.length (wq.heap.size + 1) w.heap.size A1 c1 (x : Int) us l v).Box U → (U.cell? ⟨bd, 0, none⟩ = some (.pointer (some ⟨p, 0, none⟩)) ∧ U.cell? ⟨wq.heap.size, 0, none⟩ = some (.func (.func 42) #[] #[.pointer (some ⟨bs, 0, none⟩), .pointer (some ⟨w.heap.size, 0, none⟩), .pointer (some ⟨w.heap.size + 1, 0, none⟩), .pointer (some ⟨wq.heap.size, 0, none⟩), .pointer (some ⟨w.heap.size + 1 + 1, 0, none⟩), .pointer (some ⟨bd, 0, none⟩)]) ∧ U.cell? ⟨w.heap.size, 1, none⟩ = some (.int .i64 x)) := fun U h => ⟨(Lib.cell_of_heap h.d 0).trans rfl, (Lib.cell_of_heap h.fw 0).trans rfl, (cells2 h.a).2⟩
  have HSt := Lib.hid hSt
  have HWf := Lib.hid hWf
  have HR := Lib.hid hres
  have HX := Lib.hid hbx
  have HBq := Lib.hid hB
  have HG := Lib.hid (And.intro gx (And.intro y0 (And.intro lp (And.intro lq (And.intro lr (And.intro (lt_of_heap kp) (And.intro (lt_of_heap kq) (lt_of_heap kr))))))))
  have eg : ∀ args w, (callFunc 42 args).run Tryd.prog w = .ok (.enter 42 args) w := enters_of Tryd.func42 (by kernel_rfl) rfl
  clear g1 gou gx gl y0 y1 y2 y3 y4 h3 h4 h8 h9 h10 lp lq lr ld ls kp kq kr kd ks cs cm hWf hSt hres hbx hB HH HZ HL HS
  simp only [Act.put, List.setIfInBounds_toArray, List.set_cons_zero, List.set_cons_succ]
  go_wp2_with fail
  obtain ⟨V, hV⟩ : ∃ V, V = wq.alloc (.cells #[.func (.func 42) #[] #[.pointer (some ⟨bs, 0, none⟩), .pointer (some ⟨w.heap.size, 0, none⟩), .pointer (some ⟨w.heap.size + 1, 0, none⟩), .pointer (some ⟨wq.heap.size, 0, none⟩), .pointer (some ⟨w.heap.size + 1 + 1, 0, none⟩), .pointer (some ⟨bd, 0, none⟩)]] 77) := ⟨_, rfl⟩
  rw [← hV]
  have hV1 : Below (wq.heap.size + 1) (wq.alloc (.cells #[.func (.func 42) #[] #[.pointer (some ⟨bs, 0, none⟩), .pointer (some ⟨w.heap.size, 0, none⟩), .pointer (some ⟨w.heap.size + 1, 0, none⟩), .pointer (some ⟨wq.heap.size, 0, none⟩), .pointer (some ⟨w.heap.size + 1 + 1, 0, none⟩), .pointer (some ⟨bd, 0, none⟩)]] 77)) V := by rw [hV]; exact Below.refl _ _
  have hV2 : Below wq.heap.size wq V := by rw [hV]; exact (Below.refl _ _).alloc (Nat.le_refl _) _
  have HV1 := Lib.hid hV1.drew
  have HV2 := Lib.hid hV2.drew
  have HS0 := Lib.hid (HSt.out V.drew HV1.out)
  clear hV hV1 hV2
  refine wp_region_held_drew (S := fun U => (U.cell? ⟨bd, 0, none⟩ = some (.pointer (some ⟨p, 0, none⟩)) ∧ U.cell? ⟨wq.heap.size, 0, none⟩ = some (.func (.func 42) #[] #[.pointer (some ⟨bs, 0, none⟩), .pointer (some ⟨w.heap.size, 0, none⟩), .pointer (some ⟨w.heap.size + 1, 0, none⟩), .pointer (some ⟨wq.heap.size, 0, none⟩), .pointer (some ⟨w.heap.size + 1 + 1, 0, none⟩), .pointer (some ⟨bd, 0, none⟩)]) ∧ U.cell? ⟨w.heap.size, 1, none⟩ = some (.int .i64 x))) (by kernel_rfl) (HX.out _ HS0.out.1) (fun _ => ?_)
  refine tk 0 (HX.out _ HS0.out.1) ?_
  try simp only [Act.put, pA, pB, pC]
  refine tk 1 (HX.out _ HS0.out.1) ?_
  try simp only [Act.put, pA, pB, pC]
  refine tk 2 (HX.out _ HS0.out.1) ?_
  try simp only [Act.put, pA, pB, pC]
  refine tk 3 (HX.out _ HS0.out.1) ?_
  try simp only [Act.put, pA, pB, pC]
  refine one_op 4 (by kernel_rfl) rfl (by rfl) (fun K hK => ?_)
  go_simp
  refine (walkR_any (RE.mk bs w.heap.size (w.heap.size + 1) wq.heap.size (w.heap.size + 1 + 1) bd p q rb us.length (wq.heap.size + 1) w.heap.size A1 c1 (x : Int) us l v) HWf.out 13 x [] none V.drew (by omega) ⟨HG.out.1, HS0.out, Nat.le_trans (Nat.add_le_add_left (pow_ok _) 0) (by decide)⟩).mono ?_
  rintro e V5 ⟨rfl, ⟨u1, hS1, _⟩, hK1⟩
  unfold RE.f at hS1
  dsimp only at hS1
  have HS1 := Lib.hid hS1
  have HK1 := Lib.hid hK1
  clear hS1 hK1
  refine hK _ _ (HX.out _ HS1.out.1) ?_
  try simp only [Act.put, pA, pB, pC]
  clear hK K
  unfold RE.f
  dsimp only
  generalize hcan : can (cutI (F us x) l v) [] = cn at *
  obtain ⟨nd, rt⟩ := cn
  have HC := Lib.hid hcan
  clear hcan
  dsimp only at HS1 ⊢
  refine one_op 5 (by kernel_rfl) rfl (by rfl) (fun K hK => ?_)
  go_simp
  refine (bdiagram_any p q (wq.heap.size + 1) nd (rt : Int) V5 u1 HS1.out.2.1).mono ?_
  rintro e V6 ⟨A, c, rfl, hO, hb6⟩
  have HBX := Lib.hid (HS1.out.1.keep HWf.out (Ke.of (hb6.mono HS1.out.2.1.base)))
  have hr6 : V6.heap[w.heap.size + 1 + 1 + 1]? = some (.cells #[.slice none 0 0, .int .i64 0] 29 (0, 0)) := by
    obtain ⟨_, y0, lp, lq, lb, _⟩ := HG.out
    have s1 := HBq.out.size
    have s2 := HV2.out.size
    have s3 := HK1.out.size
    refine (hb6.block _ (by omega)).trans ((HK1.out.block _ (by omega) fun h => ?_).trans (HR.out _ (HBq.out.trans (HV2.out.mono s1))))
    rcases h with h | h
    · rcases h with h | h | h <;> dsimp only at h <;> omega
    · cases h
  have hbw6 : Below w.heap.size w V6 := by
    obtain ⟨_, y0, lp, lq, lb, _⟩ := HG.out
    have s1 := HBq.out.size
    have s2 := HV2.out.size
    have s3 := HK1.out.size
    refine HB.out.trans ((HBq.out.mono (by omega)).trans ((HV2.out.mono (by omega)).trans (Below.trans (HK1.out.toBelow (by omega) fun b h => ?_) (hb6.mono (by omega)))))
    rcases h with h | h
    · rcases h with h | h | h <;> dsimp only at h <;> omega
    · cases h
  obtain ⟨d0, d1⟩ := cells2 hr6
  have z0 := Lib.frozen_of_heap hr6 0
  have z1 := Lib.frozen_of_heap hr6 1
  have HO := Lib.hid hO
  have HB6 := Lib.hid hbw6
  have HR6 := Lib.hid hr6
  clear hO hb6 hbw6 hr6
  refine hK _ _ (HX.out _ HBX.out) ?_
  try simp only [Act.put, pA, pB, pC]
  clear hK K
  refine one_op 6 (by kernel_rfl) rfl (by rfl) (fun K hK => ?_)
  go_simp
  obtain ⟨V7, hV7⟩ : ∃ V7, V7 = (V6.setCell ⟨w.heap.size + 1 + 1 + 1, 0, none⟩ (.slice A nd.length c)).setCell ⟨w.heap.size + 1 + 1 + 1, 1, none⟩ (.int .i64 rt) := ⟨_, rfl⟩
  rw [← hV7]
  have kr7 : V7.heap[w.heap.size + 1 + 1 + 1]? = some (.cells #[.slice A nd.length c, .int .i64 rt] 29 (0, 0)) := by
    rw [hV7]
    have h0 := heap_setCell_same _ _ 0 _ _ (.slice A nd.length c) HR6.out
    have h1 := heap_setCell_same _ _ 1 _ _ (.int .i64 rt) h0
    simpa using h1
  have ko : ∀ g, g ≠ w.heap.size + 1 + 1 + 1 → V7.heap[g]? = V6.heap[g]? := fun g hg => by rw [hV7]; exact (heap_setCell_other _ _ _ _ hg).trans (heap_setCell_other _ _ _ _ hg)
  have hS7 : (fun U => (U.cell? ⟨bd, 0, none⟩ = some (.pointer (some ⟨p, 0, none⟩)) ∧ U.cell? ⟨wq.heap.size, 0, none⟩ = some (.func (.func 42) #[] #[.pointer (some ⟨bs, 0, none⟩), .pointer (some ⟨w.heap.size, 0, none⟩), .pointer (some ⟨w.heap.size + 1, 0, none⟩), .pointer (some ⟨wq.heap.size, 0, none⟩), .pointer (some ⟨w.heap.size + 1 + 1, 0, none⟩), .pointer (some ⟨bd, 0, none⟩)]) ∧ U.cell? ⟨w.heap.size, 1, none⟩ = some (.int .i64 x))) V7 := by
    have h := HBX.out
    exact ⟨(Lib.cell_of_heap ((ko _ (ne_of_obj h.d HR6.out (by simp))).trans h.d) 0).trans rfl, (Lib.cell_of_heap ((ko _ (ne_of_obj h.fw HR6.out (by simp))).trans h.fw) 0).trans rfl, (cells2 ((ko _ (show w.heap.size ≠ w.heap.size + 1 + 1 + 1 by omega)).trans h.a)).2⟩
  have hO7 : OwnNd V7 (wq.heap.size + 1) (.slice A nd.length c) nd := by
    obtain ⟨_, y0, _⟩ := HG.out
    have s1 := HBq.out.size
    rw [hV7]
    exact OwnE.low (OwnE.low HO.out (by omega)) (by omega)
  have hb7 : Below w.heap.size w V7 := by
    rw [hV7]
    exact (HB6.out.setCell (p := ⟨w.heap.size + 1 + 1 + 1, 0, none⟩) (by show w.heap.size ≤ w.heap.size + 1 + 1 + 1; omega) _).setCell (p := ⟨w.heap.size + 1 + 1 + 1, 1, none⟩) (by show w.heap.size ≤ w.heap.size + 1 + 1 + 1; omega) _
  have HF := Lib.hid (And.intro hO7 hb7)
  obtain ⟨f0, f1⟩ := cells2 kr7
  clear hV7 kr7 ko d0 d1 z0 z1 hO7 hb7
  refine hK _ _ hS7 ?_
  try simp only [Act.put, pA, pB, pC]
  clear hK K hS7
  refine wpAnyH_done (by kernel_rfl) ?_ _
  go_wp2
  refine bodyPost_ret (v := .agg #[.slice A nd.length c, .int .i64 rt]) (by simp [results, Tryd.results20, go_sem, f0, f1]) rfl ?_
  rw [HC.out]
  obtain ⟨_, y0, _⟩ := HG.out
  have s1 := HBq.out.size
  exact ⟨A, c, wq.heap.size + 1, rfl, by omega, HF.out.1, HF.out.2⟩
end Go.Proofs.YtplmbmecjhmiiaaDoor
