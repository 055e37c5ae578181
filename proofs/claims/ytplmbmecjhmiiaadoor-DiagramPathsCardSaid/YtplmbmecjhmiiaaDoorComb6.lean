/- The walk of combine: two diagrams side by side, with a table of results. -/
import Derived.Test.YtplmbmecjhmiiaaDoorBuild6
import Derived.Test.YtplmbmecjhmiiaaDoorCombK6
namespace Go.Proofs.YtplmbmecjhmiiaaDoor
open Go Go.RowKit Go.Maps
/-- where combine's variables lie, and what they hold -/
structure CE where
  bc : Nat
  brs : Nat
  ba : Nat
  bb : Nat
  bw : Nat
  bd : Nat
  p : Nat
  q : Nat
  rb : Nat
  base : Nat
  H0 : Nat
  A1 : Option Addr
  c1 : Nat
  r1 : Int
  A2 : Option Addr
  c2 : Nat
  r2 : Int
  us : List Nd
  vs : List Nd
  fch : Nat
  ch : Bool → Bool → Bool
def CE.X (E : CE) : Nat → Prop := fun b => b = E.p ∨ b = E.q ∨ b = E.rb
structure CE.Wf (E : CE) : Prop where
  lt : E.bc < E.base ∧ E.brs < E.base ∧ E.ba < E.base ∧ E.bb < E.base ∧ E.bw < E.base ∧ E.bd < E.base ∧ E.rb < E.base
  nx : ¬ E.X E.bc ∧ ¬ E.X E.brs ∧ ¬ E.X E.ba ∧ ¬ E.X E.bb ∧ ¬ E.X E.bw ∧ ¬ E.X E.bd
  low : E.H0 ≤ E.p ∧ E.H0 ≤ E.q ∧ E.H0 ≤ E.rb ∧ E.H0 ≤ E.base
  ne : E.rb ≠ E.p ∧ E.rb ≠ E.q
  ou : Ord E.us
  ov : Ord E.vs
  len : E.us.length ≤ 100000 ∧ E.vs.length ≤ 100000
/-- the variables that stay -/
structure CE.Box (E : CE) (w : World) : Prop where
  c : w.heap[E.bc]? = some (.cells #[.func (.func E.fch) #[] #[]] 56 (0, 0))
  rs : w.heap[E.brs]? = some (.cells #[.map (some E.rb)] 80 (0, 0))
  a : w.heap[E.ba]? = some (.cells #[.slice E.A1 E.us.length E.c1, .int .i64 E.r1] 29 (0, 0))
  b : w.heap[E.bb]? = some (.cells #[.slice E.A2 E.vs.length E.c2, .int .i64 E.r2] 29 (0, 0))
  fw : w.heap[E.bw]? = some (.cells #[.func (.func 44) #[] #[.pointer (some ⟨E.bc, 0, none⟩), .pointer (some ⟨E.brs, 0, none⟩), .pointer (some ⟨E.ba, 0, none⟩), .pointer (some ⟨E.bb, 0, none⟩), .pointer (some ⟨E.bw, 0, none⟩), .pointer (some ⟨E.bd, 0, none⟩)]] 81 (0, 0))
  d : w.heap[E.bd]? = some (.cells #[.pointer (some ⟨E.p, 0, none⟩)] 65 (0, 0))
  ru : NdR w (fun b => b < E.H0) E.A1 E.us.length E.c1 (E.us.map ni)
  rv : NdR w (fun b => b < E.H0) E.A2 E.vs.length E.c2 (E.vs.map ni)
theorem NdR.keepX {w w' : World} {H base : Nat} {X : Nat → Prop} {A : Option Addr} {n c : Nat} {is : List (Int × Int × Int)} (h : NdR w (fun b => b < H) A n c is) (hk : Ke base X w w') (hH : ∀ b, b < H → b < base ∧ ¬ X b) : NdR w' (fun b => b < H) A n c is :=
  ⟨h.1, h.2.keep ⟨hk.size, fun b i hB _ => World.cell?_of_block (hk.block b (hH b hB).1 (hH b hB).2)⟩ fun _ _ h => h⟩
theorem CE.Wf.below {E : CE} (hW : E.Wf) : ∀ b, b < E.H0 → b < E.base ∧ ¬ E.X b := fun b hb => by
  obtain ⟨h1, h2, h3, h4⟩ := hW.low
  exact ⟨by omega, fun hx => by rcases hx with hx | hx | hx <;> omega⟩
theorem CE.Box.keep {E : CE} (hW : E.Wf) {w w' : World} (h : E.Box w) (hk : Ke E.base E.X w w') : E.Box w' := by
  obtain ⟨l1, l2, l3, l4, l5, l6, _⟩ := hW.lt
  obtain ⟨n1, n2, n3, n4, n5, n6⟩ := hW.nx
  exact ⟨(hk.block _ l1 n1).trans h.c, (hk.block _ l2 n2).trans h.rs, (hk.block _ l3 n3).trans h.a, (hk.block _ l4 n4).trans h.b, (hk.block _ l5 n5).trans h.fw, (hk.block _ l6 n6).trans h.d, h.ru.keepX hk hW.below, h.rv.keepX hk hW.below⟩
/-- what the table of results holds -/
def ResOf (E : CE) (ns : List Nd) (m : Int × Int → Option Int) : Prop := ∀ x y, m x = some y → ∃ a b r : Nat, x = ((a : Int), (b : Int)) ∧ y = (r : Int) ∧ r < ns.length + 2 ∧ F ns r = gP E.ch E.us E.vs a b
/-- the state between two calls: the nodes ns, at most k results -/
def CE.St (E : CE) (w : World) (ns : List Nd) (k : Nat) (u : Option Nat) : Prop :=
  E.Box w ∧ BldR w E.p E.q E.base ns u ∧ Good ns ∧ ∃ m, MapF 83 kv2 w E.rb k m ∧ ResOf E ns m
theorem BldR.own {w : World} {p q base : Nat} {ns : List Nd} {u : Option Nat} (h : BldR w p q base ns u) : ∀ g, u = some g → base ≤ g ∧ g < w.heap.size := by
  obtain ⟨A, c, k, m, h1, h2, h3, h4, h5, h6, h7, h8, h9, h10⟩ := h
  intro g hg
  exact own_blk h2 g (h10.trans hg)
theorem BldR.base {w : World} {p q base : Nat} {ns : List Nd} {u : Option Nat} (h : BldR w p q base ns u) : base ≤ w.heap.size := by
  obtain ⟨_, _, _, _, _, _, _, _, _, _, _, _, h, _⟩ := h
  exact h
theorem Nxt.trans {z z' : Nat} {u u' u'' : Option Nat} (h : Nxt z u u') (k : Nxt z' u' u'') (hz : z ≤ z') : Nxt z u u'' := by
  rcases k with rfl | k
  · exact h
  · exact .inr fun g e => by have := k g e; omega
/-- what a step changes: the blocks of X, and the own block -/
theorem Ke.low {X : Nat → Prop} {w w' : World} {z base : Nat} {u : Option Nat} (h : Ke z (fun b => X b ∨ some b = u) w w') (hz : base ≤ z) (hu : ∀ g, u = some g → base ≤ g) : Ke base X w w' :=
  ⟨h.below, fun b hb hx => h.block b (by omega) fun h => by
    rcases h with h | h
    · exact hx h
    · have := hu b h.symm; omega⟩
theorem Ke.nxt {X : Nat → Prop} {a b c : World} {z z' : Nat} {u u' : Option Nat} (h : Ke z (fun g => X g ∨ some g = u) a b) (k : Ke z' (fun g => X g ∨ some g = u') b c) (hn : Nxt z u u') (hz : z ≤ z') : Ke z (fun g => X g ∨ some g = u) a c :=
  ⟨h.below.trans k.below, fun g hg hx => (k.block g (by omega) fun hh => by
    rcases hh with hh | hh
    · exact hx (.inl hh)
    · rcases hn with e | hn
      · exact hx (.inr (hh.trans e))
      · have := hn g hh.symm; omega).trans (h.block g hg hx)⟩
theorem CE.St.old {E : CE} (hW : E.Wf) {w w' : World} {ns : List Nd} {k : Nat} {u : Option Nat} (h : E.St w ns k u) (hb : Below w.heap.size w w') : E.St w' ns k u := by
  obtain ⟨h1, h2, h3, m, h4, h5⟩ := h
  have hbs := h2.base
  exact ⟨h1.keep hW (Ke.of (hb.mono hbs)), h2.old hb, h3, m, h4.kept (hb.block _ h4.lt), h5⟩
theorem ResOf.app {E : CE} {ns ms : List Nd} {m : Int × Int → Option Int} (h : ResOf E ns m) : ResOf E (ns ++ ms) m := fun x y e => by
  obtain ⟨a, b, r, h1, h2, h3, h4⟩ := h x y e
  exact ⟨a, b, r, h1, h2, by rw [List.length_append]; omega, by rw [F_app h3]; exact h4⟩
/-- behind the call of reference: the table and the variables stay -/
theorem CE.St.ref {E : CE} (hW : E.Wf) {w w' : World} {ns ms : List Nd} {k : Nat} {u u' : Option Nat} (h : E.St w ns k u) (hk : Ke w.heap.size (fun b => b = E.p ∨ b = E.q ∨ some b = u) w w') (hB : BldR w' E.p E.q E.base (ns ++ ms) u') (hG : Good (ns ++ ms)) : E.St w' (ns ++ ms) k u' ∧ Ke w.heap.size (fun b => E.X b ∨ some b = u) w w' := by
  obtain ⟨h1, h2, h3, m, h4, h5⟩ := h
  have hbs := h2.base
  have hu := h2.own
  have l7 := hW.lt.2.2.2.2.2.2
  have hk' : Ke w.heap.size (fun b => E.X b ∨ some b = u) w w' := hk.sub fun b h => by
    rcases h with h | h | h
    · exact .inl (.inl h)
    · exact .inl (.inr (.inl h))
    · exact .inr h
  exact ⟨⟨h1.keep hW (hk'.low hbs fun g hg => (hu g hg).1), hB, hG, m, h4.kept (hk.block _ (by omega) fun h => by
    have := hW.ne
    rcases h with h | h | h
    · omega
    · omega
    · have := (hu _ h.symm).1; omega), h5.app⟩, hk'⟩
/-- behind the store into the table -/
theorem CE.St.put {E : CE} (hW : E.Wf) {w w' : World} {ns : List Nd} {k k' : Nat} {u : Option Nat} {m : Int × Int → Option Int} (h : E.St w ns k u) (hg : w.grownBy w' (some E.rb)) (hM : MapF 83 kv2 w' E.rb k' m) (hR : ResOf E ns m) : E.St w' ns k' u ∧ Ke w.heap.size (fun b => E.X b ∨ some b = u) w w' := by
  obtain ⟨h1, h2, h3, m0, h4, h5⟩ := h
  have hbs := h2.base
  have l7 := hW.lt.2.2.2.2.2.2
  have hne := hW.ne
  have hb0 : Below 0 w w' := (Below.refl 0 w).grown hg (Nat.zero_le _) (fun _ _ => Nat.zero_le _)
  have hkk : ∀ b, b < w.heap.size → b ≠ E.rb → w'.heap[b]? = w.heap[b]? := fun b hb hr => hg.block b hb (by intro e; injection e with e; exact hr e)
  refine ⟨⟨h1.keep hW ⟨hb0, fun b hb hx => hkk b (by omega) fun e => hx (.inr (.inr e))⟩, ?_, h3, m, hM, hR⟩, hb0, fun b hb hx => hkk b hb fun e => hx (.inl (.inr (.inr e)))⟩
  obtain ⟨A, c, k, m, g1, g2, g3, g4, g5, g6, g7, g8, g9, g10⟩ := h2
  refine ⟨A, c, k, m, (hkk _ (by omega) (Ne.symm hne.1)).trans g1, ?_, g3.kept (hkk _ (by omega) (Ne.symm hne.2)), g4, g5, g6, g7, g8, Nat.le_trans g9 hg.size, g10⟩
  exact OwnE.kept g2 hg.size fun b h1 h2 => hkk b h2 (by omega)
def CE.Pre (E : CE) (x y : Nat) (ns : List Nd) (k : Nat) (u : Option Nat) (w : World) : Prop :=
  x < E.us.length + 2 ∧ y < E.vs.length + 2 ∧ E.St w ns k u ∧ ns.length + 2 ^ (12 - litP E.us E.vs x y) ≤ 5000 ∧ k + 2 ^ (12 - litP E.us E.vs x y) ≤ 5000
def CE.Post (E : CE) (x y : Nat) (ns : List Nd) (k : Nat) (u : Option Nat) (w : World) (e : Ending) (w' : World) : Prop :=
  e = .returned (.int .i64 (can (gP E.ch E.us E.vs x y) ns).2) ∧ (∃ k' u', E.St w' (can (gP E.ch E.us E.vs x y) ns).1 k' u' ∧ k' + 1 ≤ k + 2 ^ (12 - litP E.us E.vs x y) ∧ Nxt w.heap.size u u') ∧ Ke w.heap.size (fun b => E.X b ∨ some b = u) w w'
theorem kv2_at (x y : Nat) : kv2 ((x : Int), (y : Int)) = .agg #[.int .i64 x, .int .i64 y] := rfl
theorem CE.key {E : CE} (hW : E.Wf) {x y : Nat} (hx : x < E.us.length + 2) (hy : y < E.vs.length + 2) : ∃ l, keyOf Tryd.prog 83 (kv2 ((x : Int), (y : Int))) = some l := by
  have h := hW.len
  exact key2_ok _ ⟨WalkArith.wf_i64 (by dsimp only; omega), WalkArith.wf_i64 (by dsimp only; omega)⟩
set_option maxRecDepth 100000 in
set_option maxHeartbeats 6400000 in
theorem walkC_const (E : CE) (hW : E.Wf) (hch : Hid (∀ (x y : Bool) (w : World), Calls Tryd.prog E.fch #[.bool x, .bool y] w fun e w' => e = .returned (.bool (E.ch x y)) ∧ w = w')) (ech : ∀ args w, (callFunc E.fch args).run Tryd.prog w = .ok (.enter E.fch args) w)
    (x y : Nat) (ns : List Nd) (k : Nat) (u : Option Nat) (w : World) (hP : E.Pre x y ns k u w) (hc : x < 2 ∧ y < 2) : Calls Tryd.prog 44 #[.agg #[.int .i64 x, .int .i64 y], .pointer (some ⟨E.bc, 0, none⟩), .pointer (some ⟨E.brs, 0, none⟩), .pointer (some ⟨E.ba, 0, none⟩), .pointer (some ⟨E.bb, 0, none⟩), .pointer (some ⟨E.bw, 0, none⟩), .pointer (some ⟨E.bd, 0, none⟩)] w (E.Post x y ns k u w) := by
  obtain ⟨hx, hy, hS, hln, hlk⟩ := hP
  obtain ⟨W, hWd⟩ : ∃ W, W = w.alloc (.cells #[.int .i64 x, .int .i64 y] 83) := ⟨_, rfl⟩
  have hb : Below w.heap.size w W := by rw [hWd]; exact (Below.refl _ _).alloc (Nat.le_refl _) _
  have hz : W.heap.size = w.heap.size + 1 := by rw [hWd]; simp
  have kn : W.heap[w.heap.size]? = some (.cells #[.int .i64 x, .int .i64 y] 83 (0, 0)) := by rw [hWd]; exact heap_alloc_new w _
  have hSW := hS.old hW hb
  obtain ⟨hBx, hBd, hG, m, hM, hRes⟩ := hSW
  have hcan := gP_const (ch := E.ch) (us := E.us) (vs := E.vs) hc.1 hc.2 hG
  have hpow : 1 ≤ 2 ^ (12 - litP E.us E.vs x y) := Nat.one_le_two_pow
  have HF : Hid (∀ e, e = Ending.returned (.int .i64 (((if E.ch (decide (x = 1)) (decide (y = 1)) then 1 else 0 : Nat)) : Int)) → E.Post x y ns k u w e W) := Lib.hid fun e he => by
    unfold CE.Post
    rw [hcan]
    exact ⟨he, ⟨k, u, ⟨hBx, hBd, hG, m, hM, hRes⟩, by omega, .inl rfl⟩, Ke.of hb⟩
  have q1 : decide ((x : Int) < 2) = true := by rw [decide_eq_true_eq]; omega
  have q2 : decide ((y : Int) < 2) = true := by rw [decide_eq_true_eq]; omega
  have q3 : ((x : Int) == 1) = decide (x = 1) := by rw [Bool.eq_iff_iff]; simp; omega
  have q4 : ((y : Int) == 1) = decide (y = 1) := by rw [Bool.eq_iff_iff]; simp; omega
  have e0 := (Lib.cell_of_heap hBx.c 0).trans (show (#[.func (.func E.fch) #[] #[]] : Array Value)[0]? = some (.func (.func E.fch) #[] #[]) from rfl)
  have hcc := hch.out (decide (x = 1)) (decide (y = 1)) W
  rw [hWd] at e0
  generalize decide (x = 1) = bx at *
  generalize decide (y = 1) = by' at *
  generalize hPost : E.Post x y ns k u w = Post at *
  clear hPost hS hBx hBd hG hM hRes hc hcan hpow hx hy hln hlk hb hz kn
  generalize E.ch bx by' = z at *
  have hct := constant_any z W
  go_enter Tryd.func44, Tryd.ntmps44
  go_wp2_with fail
  rw [← hWd]
  refine hcc.mono ?_
  rintro e w1 ⟨rfl, rfl⟩
  clear hcc hWd e0
  cases z
  · simp only [Bool.false_eq_true, if_false] at hct
    go_wp2
    all_goals exact HF.out _ rfl
  · simp only [if_true] at hct
    go_wp2
    all_goals exact HF.out _ rfl
set_option maxRecDepth 100000 in
set_option maxHeartbeats 6400000 in
theorem walkC_hitA (E : CE) (hW : E.Wf)
    (x y : Nat) (ns : List Nd) (k : Nat) (u : Option Nat) (w : World) (hP : E.Pre x y ns k u w) (hc : 2 ≤ x) (r : Nat) (hr : r < ns.length + 2) (hF : F ns r = gP E.ch E.us E.vs x y)
    (m : Int × Int → Option Int) (hM : MapF 83 kv2 w E.rb k m) (hm : m ((x : Int), (y : Int)) = some (r : Int)) : Calls Tryd.prog 44 #[.agg #[.int .i64 x, .int .i64 y], .pointer (some ⟨E.bc, 0, none⟩), .pointer (some ⟨E.brs, 0, none⟩), .pointer (some ⟨E.ba, 0, none⟩), .pointer (some ⟨E.bb, 0, none⟩), .pointer (some ⟨E.bw, 0, none⟩), .pointer (some ⟨E.bd, 0, none⟩)] w (E.Post x y ns k u w) := by
  obtain ⟨hx, hy, hS, hln, hlk⟩ := hP
  obtain ⟨W, hWd⟩ : ∃ W, W = w.alloc (.cells #[.int .i64 x, .int .i64 y] 83) := ⟨_, rfl⟩
  have hb : Below w.heap.size w W := by rw [hWd]; exact (Below.refl _ _).alloc (Nat.le_refl _) _
  have hz : W.heap.size = w.heap.size + 1 := by rw [hWd]; simp
  have kn : W.heap[w.heap.size]? = some (.cells #[.int .i64 x, .int .i64 y] 83 (0, 0)) := by rw [hWd]; exact heap_alloc_new w _
  have hSW := hS.old hW hb
  have hcan := can_old hSW.2.2.1 hr hF
  have hpow : 1 ≤ 2 ^ (12 - litP E.us E.vs x y) := Nat.one_le_two_pow
  have HF : Hid (∀ e, e = Ending.returned (.int .i64 (r : Int)) → E.Post x y ns k u w e W) := Lib.hid fun e he => by
    unfold CE.Post
    rw [hcan]
    exact ⟨he, ⟨k, u, hSW, by omega, .inl rfl⟩, Ke.of hb⟩
  have q1 : decide ((x : Int) < 2) = false := by rw [decide_eq_false_iff_not]; omega
  obtain ⟨cv, hlook, hcv⟩ := (hM.kept (hb.block _ hM.lt)).look keyed2 Tryd.underlying80 ((x : Int), (y : Int)) (CE.key hW hx hy)
  have hcv2 := hcv _ hm
  subst hcv2
  rw [hm, kv2_at] at hlook
  have e0 := (Lib.cell_of_heap hSW.1.rs 0).trans (show (#[.map (some E.rb)] : Array Value)[0]? = some (.map (some E.rb)) from rfl)
  rw [hWd] at e0 hlook
  generalize hPost : E.Post x y ns k u w = Post at *
  clear hPost hS hSW hcan hpow hx hy hln hlk hb hz kn hM hm hcv hF hr hc
  go_enter Tryd.func44, Tryd.ntmps44
  go_wp2
  rw [← hWd]
  exact HF.out _ rfl
set_option maxRecDepth 100000 in
set_option maxHeartbeats 6400000 in
theorem walkC_hitB (E : CE) (hW : E.Wf)
    (x y : Nat) (ns : List Nd) (k : Nat) (u : Option Nat) (w : World) (hP : E.Pre x y ns k u w) (hc : x < 2 ∧ 2 ≤ y) (r : Nat) (hr : r < ns.length + 2) (hF : F ns r = gP E.ch E.us E.vs x y)
    (m : Int × Int → Option Int) (hM : MapF 83 kv2 w E.rb k m) (hm : m ((x : Int), (y : Int)) = some (r : Int)) : Calls Tryd.prog 44 #[.agg #[.int .i64 x, .int .i64 y], .pointer (some ⟨E.bc, 0, none⟩), .pointer (some ⟨E.brs, 0, none⟩), .pointer (some ⟨E.ba, 0, none⟩), .pointer (some ⟨E.bb, 0, none⟩), .pointer (some ⟨E.bw, 0, none⟩), .pointer (some ⟨E.bd, 0, none⟩)] w (E.Post x y ns k u w) := by
  obtain ⟨hx, hy, hS, hln, hlk⟩ := hP
  obtain ⟨W, hWd⟩ : ∃ W, W = w.alloc (.cells #[.int .i64 x, .int .i64 y] 83) := ⟨_, rfl⟩
  have hb : Below w.heap.size w W := by rw [hWd]; exact (Below.refl _ _).alloc (Nat.le_refl _) _
  have hz : W.heap.size = w.heap.size + 1 := by rw [hWd]; simp
  have kn : W.heap[w.heap.size]? = some (.cells #[.int .i64 x, .int .i64 y] 83 (0, 0)) := by rw [hWd]; exact heap_alloc_new w _
  have hSW := hS.old hW hb
  have hcan := can_old hSW.2.2.1 hr hF
  have hpow : 1 ≤ 2 ^ (12 - litP E.us E.vs x y) := Nat.one_le_two_pow
  have HF : Hid (∀ e, e = Ending.returned (.int .i64 (r : Int)) → E.Post x y ns k u w e W) := Lib.hid fun e he => by
    unfold CE.Post
    rw [hcan]
    exact ⟨he, ⟨k, u, hSW, by omega, .inl rfl⟩, Ke.of hb⟩
  have q1 : decide ((x : Int) < 2) = true := by rw [decide_eq_true_eq]; omega
  have q2 : decide ((y : Int) < 2) = false := by rw [decide_eq_false_iff_not]; omega
  obtain ⟨cv, hlook, hcv⟩ := (hM.kept (hb.block _ hM.lt)).look keyed2 Tryd.underlying80 ((x : Int), (y : Int)) (CE.key hW hx hy)
  have hcv2 := hcv _ hm
  subst hcv2
  rw [hm, kv2_at] at hlook
  have e0 := (Lib.cell_of_heap hSW.1.rs 0).trans (show (#[.map (some E.rb)] : Array Value)[0]? = some (.map (some E.rb)) from rfl)
  rw [hWd] at e0 hlook
  generalize hPost : E.Post x y ns k u w = Post at *
  clear hPost hS hSW hcan hpow hx hy hln hlk hb hz kn hM hm hcv hF hr hc
  go_enter Tryd.func44, Tryd.ntmps44
  go_wp2
  rw [← hWd]
  exact HF.out _ rfl
end Go.Proofs.YtplmbmecjhmiiaaDoor
