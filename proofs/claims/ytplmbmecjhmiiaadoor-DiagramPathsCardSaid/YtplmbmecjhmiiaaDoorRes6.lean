/- The walk of restrict: a diagram with one literal fixed, and a row of results. -/
import Derived.Test.YtplmbmecjhmiiaaDoorCombM6
import Derived.Test.YtplmbmecjhmiiaaDoorCutI
namespace Go.Proofs.YtplmbmecjhmiiaaDoor
open Go Go.RowKit Go.Maps
/-- where restrict's variables lie, and what they hold -/
structure RE where
  bs : Nat
  ba : Nat
  bn : Nat
  bw : Nat
  bv : Nat
  bd : Nat
  p : Nat
  q : Nat
  rb : Nat
  rc : Nat
  base : Nat
  H0 : Nat
  A1 : Option Addr
  c1 : Nat
  r1 : Int
  us : List Nd
  l : Int
  v : Bool
def RE.X (E : RE) : Nat → Prop := fun b => b = E.p ∨ b = E.q ∨ b = E.rb
def RE.f (E : RE) (r : Nat) : BF := cutI (F E.us r) E.l E.v
structure RE.Wf (E : RE) : Prop where
  lt : E.bs < E.base ∧ E.ba < E.base ∧ E.bn < E.base ∧ E.bw < E.base ∧ E.bv < E.base ∧ E.bd < E.base ∧ E.rb < E.base
  nx : ¬ E.X E.bs ∧ ¬ E.X E.ba ∧ ¬ E.X E.bn ∧ ¬ E.X E.bw ∧ ¬ E.X E.bv ∧ ¬ E.X E.bd
  low : E.H0 ≤ E.p ∧ E.H0 ≤ E.q ∧ E.H0 ≤ E.rb ∧ E.H0 ≤ E.base
  ne : E.rb ≠ E.p ∧ E.rb ≠ E.q
  ou : Ord E.us
  len : E.us.length ≤ 100000
/-- the variables that stay -/
structure RE.Box (E : RE) (w : World) : Prop where
  s : w.heap[E.bs]? = some (.cells #[.slice (some ⟨E.rb, 0, none⟩) E.us.length E.rc] 24 (0, 0))
  a : w.heap[E.ba]? = some (.cells #[.slice E.A1 E.us.length E.c1, .int .i64 E.r1] 29 (0, 0))
  n : w.heap[E.bn]? = some (.cells #[.int .i64 E.l] 3 (0, 0))
  fw : w.heap[E.bw]? = some (.cells #[.func (.func 42) #[] #[.pointer (some ⟨E.bs, 0, none⟩), .pointer (some ⟨E.ba, 0, none⟩), .pointer (some ⟨E.bn, 0, none⟩), .pointer (some ⟨E.bw, 0, none⟩), .pointer (some ⟨E.bv, 0, none⟩), .pointer (some ⟨E.bd, 0, none⟩)]] 77 (0, 0))
  v : w.heap[E.bv]? = some (.cells #[.bool E.v] 4 (0, 0))
  d : w.heap[E.bd]? = some (.cells #[.pointer (some ⟨E.p, 0, none⟩)] 65 (0, 0))
  ru : NdR w (fun b => b < E.H0) E.A1 E.us.length E.c1 (E.us.map ni)
theorem RE.Wf.below {E : RE} (hW : E.Wf) : ∀ b, b < E.H0 → b < E.base ∧ ¬ E.X b := fun b hb => by
  obtain ⟨h1, h2, h3, h4⟩ := hW.low
  exact ⟨by omega, fun hx => by rcases hx with hx | hx | hx <;> omega⟩
theorem RE.Box.keep {E : RE} (hW : E.Wf) {w w' : World} (h : E.Box w) (hk : Ke E.base E.X w w') : E.Box w' := by
  obtain ⟨l1, l2, l3, l4, l5, l6, _⟩ := hW.lt
  obtain ⟨n1, n2, n3, n4, n5, n6⟩ := hW.nx
  exact ⟨(hk.block _ l1 n1).trans h.s, (hk.block _ l2 n2).trans h.a, (hk.block _ l3 n3).trans h.n, (hk.block _ l4 n4).trans h.fw, (hk.block _ l5 n5).trans h.v, (hk.block _ l6 n6).trans h.d, h.ru.keepX hk hW.below⟩
/-- a cell of the row of results: not known yet, or right -/
def RE.Ok (E : RE) (ns : List Nd) (j : Nat) (y : Int) : Prop := y = -1 ∨ ∃ r : Nat, y = (r : Int) ∧ r < ns.length + 2 ∧ F ns r = E.f (j + 2)
def RE.Res (E : RE) (ns : List Nd) (w : World) : Prop := ∃ cur : Array Value, w.heap[E.rb]? = some (.cells cur 3 (0, 0)) ∧ cur.size = E.us.length ∧ ∀ j, j < E.us.length → ∃ y : Int, cur[j]? = some (.int .i64 y) ∧ E.Ok ns j y
theorem RE.Ok.app {E : RE} {ns ms : List Nd} {j : Nat} {y : Int} (h : E.Ok ns j y) : E.Ok (ns ++ ms) j y := by
  rcases h with h | ⟨r, h1, h2, h3⟩
  · exact .inl h
  · exact .inr ⟨r, h1, by rw [List.length_append]; omega, by rw [F_app h2]; exact h3⟩
theorem RE.Res.kept {E : RE} {ns ms : List Nd} {w w' : World} (h : E.Res ns w) (hb : w'.heap[E.rb]? = w.heap[E.rb]?) : E.Res (ns ++ ms) w' := by
  obtain ⟨cur, h1, h2, h3⟩ := h
  exact ⟨cur, hb.trans h1, h2, fun j hj => by
    obtain ⟨y, g1, g2⟩ := h3 j hj
    exact ⟨y, g1, g2.app⟩⟩
theorem RE.Res.kept0 {E : RE} {ns : List Nd} {w w' : World} (h : E.Res ns w) (hb : w'.heap[E.rb]? = w.heap[E.rb]?) : E.Res ns w' := by
  obtain ⟨cur, h1, h2, h3⟩ := h
  exact ⟨cur, hb.trans h1, h2, h3⟩
/-- the state between two calls -/
def RE.St (E : RE) (w : World) (ns : List Nd) (u : Option Nat) : Prop := E.Box w ∧ BldR w E.p E.q E.base ns u ∧ Good ns ∧ E.Res ns w
theorem RE.Res.lt {E : RE} {ns : List Nd} {w : World} (h : E.Res ns w) : E.rb < w.heap.size := by
  obtain ⟨cur, h1, _⟩ := h
  exact (Array.getElem?_eq_some_iff.1 h1).1
theorem RE.St.old {E : RE} (hW : E.Wf) {w w' : World} {ns : List Nd} {u : Option Nat} (h : E.St w ns u) (hb : Below w.heap.size w w') : E.St w' ns u := by
  obtain ⟨h1, h2, h3, h4⟩ := h
  have hbs := h2.base
  exact ⟨h1.keep hW (Ke.of (hb.mono hbs)), h2.old hb, h3, h4.kept0 (hb.block _ h4.lt)⟩
theorem RE.St.ref {E : RE} (hW : E.Wf) {w w' : World} {ns ms : List Nd} {u u' : Option Nat} (h : E.St w ns u) (hk : Ke w.heap.size (fun b => b = E.p ∨ b = E.q ∨ some b = u) w w') (hB : BldR w' E.p E.q E.base (ns ++ ms) u') (hG : Good (ns ++ ms)) : E.St w' (ns ++ ms) u' ∧ Ke w.heap.size (fun b => E.X b ∨ some b = u) w w' := by
  obtain ⟨h1, h2, h3, h4⟩ := h
  have hbs := h2.base
  have hu := h2.own
  have l7 := hW.lt.2.2.2.2.2.2
  have hk' : Ke w.heap.size (fun b => E.X b ∨ some b = u) w w' := hk.sub fun b h => by
    rcases h with h | h | h
    · exact .inl (.inl h)
    · exact .inl (.inr (.inl h))
    · exact .inr h
  exact ⟨⟨h1.keep hW (hk'.low hbs fun g hg => (hu g hg).1), hB, hG, h4.kept (hk.block _ (by omega) fun h => by
    have := hW.ne
    rcases h with h | h | h
    · omega
    · omega
    · have := (hu _ h.symm).1; omega)⟩, hk'⟩
/-- behind the store of a result -/
theorem RE.St.put {E : RE} (hW : E.Wf) {w : World} {ns : List Nd} {u : Option Nat} (h : E.St w ns u) {j r : Nat} (hj : j < E.us.length) (hr : r < ns.length + 2) (hF : F ns r = E.f (j + 2)) :
    E.St (w.setCell ⟨E.rb, j, none⟩ (.int .i64 r)) ns u ∧ Ke w.heap.size (fun b => E.X b ∨ some b = u) w (w.setCell ⟨E.rb, j, none⟩ (.int .i64 r)) := by
  obtain ⟨h1, h2, h3, cur, c1, c2, c3⟩ := h
  have hbs := h2.base
  have l7 := hW.lt.2.2.2.2.2.2
  have hne := hW.ne
  have hkk : ∀ b, b ≠ E.rb → (w.setCell ⟨E.rb, j, none⟩ (.int .i64 r)).heap[b]? = w.heap[b]? := fun b hr => heap_setCell_other _ _ _ _ hr
  refine ⟨⟨h1.keep hW ((Ke.refl _ _ _).set (.inl (.inr (.inr rfl)))), ?_, h3, _, heap_setCell_same _ _ _ _ _ _ c1, by simpa using c2, fun k hk => ?_⟩, (Ke.refl _ _ _).set (.inl (.inl (.inr (.inr rfl))))⟩
  · obtain ⟨A, c, k, m, g1, g2, g3, g4, g5, g6, g7, g8, g9, g10⟩ := h2
    refine ⟨A, c, k, m, (hkk _ (Ne.symm hne.1)).trans g1, ?_, g3.kept (hkk _ (Ne.symm hne.2)), g4, g5, g6, g7, g8, by simpa using g9, g10⟩
    exact OwnE.kept g2 (by simp) fun b h1 h2 => hkk b (by omega)
  · by_cases e : k = j
    · subst e
      exact ⟨r, by rw [Array.getElem?_setIfInBounds_self_of_lt (by omega)], .inr ⟨r, rfl, hr, hF⟩⟩
    · obtain ⟨y, g1, g2⟩ := c3 k hk
      exact ⟨y, by rw [Array.getElem?_setIfInBounds_ne (Ne.symm e)]; exact g1, g2⟩
def RE.Pre (E : RE) (r : Nat) (ns : List Nd) (u : Option Nat) (w : World) : Prop :=
  r < E.us.length + 2 ∧ E.St w ns u ∧ ns.length + 2 ^ (12 - litR E.us r) ≤ 5000
def RE.Post (E : RE) (r : Nat) (ns : List Nd) (u : Option Nat) (w : World) (e : Ending) (w' : World) : Prop :=
  e = .returned (.int .i64 ((can (E.f r) ns).2 : Int)) ∧ (∃ u', E.St w' (can (E.f r) ns).1 u' ∧ Nxt w.heap.size u u') ∧ Ke w.heap.size (fun b => E.X b ∨ some b = u) w w'
/-- a call on a part: what it builds under names -/
abbrev RE.Sub (E : RE) (V : World) (u : Option Nat) (n1 : List Nd) (r1 : Nat) (e : Ending) (w' : World) : Prop := e = .returned (.int .i64 (r1 : Int)) ∧ (∃ u1, E.St w' n1 u1 ∧ Nxt V.heap.size u u1) ∧ Ke V.heap.size (fun b => E.X b ∨ some b = u) V w'
abbrev RE.IH (E : RE) (l : Nat) : Prop := ∀ (r' : Nat) (ns' : List Nd) (u' : Option Nat) (w' : World), l < litR E.us r' → E.Pre r' ns' u' w' → Calls Tryd.prog 42 #[.int .i64 r', .pointer (some ⟨E.bs, 0, none⟩), .pointer (some ⟨E.ba, 0, none⟩), .pointer (some ⟨E.bn, 0, none⟩), .pointer (some ⟨E.bw, 0, none⟩), .pointer (some ⟨E.bv, 0, none⟩), .pointer (some ⟨E.bd, 0, none⟩)] w' (E.Post r' ns' u' w')
theorem RE.f12 {E : RE} (hW : E.Wf) {r : Nat} (hr : r < E.us.length + 2) : F12 (E.f r) := F12_cutI (F12_F hW.ou hr) _ _
theorem RE.ind {E : RE} (hW : E.Wf) {r : Nat} (hr : r < E.us.length + 2) : ∀ z, z < litR E.us r → Ind (E.f r) z := fun _ hz => ind_cutI _ _ (ind_F hW.ou hr hz)
/-- the call where the literal is fixed -/
theorem RE.hit {E : RE} (hW : E.Wf) {i : Nat} {n : Nd} {ns : List Nd} {u : Option Nat} {w : World} (hP : E.Pre (i + 2) ns u w) (hn : E.us[i]? = some n) (hl : (n.l : Int) = E.l) (IH : E.IH n.l) :
    ∃ n1 r1, (∀ V, E.St V ns u → Calls Tryd.prog 42 #[.int .i64 ((if E.v then n.h else n.o : Nat) : Int), .pointer (some ⟨E.bs, 0, none⟩), .pointer (some ⟨E.ba, 0, none⟩), .pointer (some ⟨E.bn, 0, none⟩), .pointer (some ⟨E.bw, 0, none⟩), .pointer (some ⟨E.bv, 0, none⟩), .pointer (some ⟨E.bd, 0, none⟩)] V (E.Sub V u n1 r1)) ∧ can (E.f (i + 2)) ns = (n1, r1) ∧ r1 < n1.length + 2 ∧ F n1 r1 = E.f (i + 2) := by
  obtain ⟨hr, hS, hln⟩ := hP
  obtain ⟨o1, o2, o3, o4, o5⟩ := hW.ou i n hn
  have hlt := (List.getElem?_eq_some_iff.1 hn).1
  have hc := can_ok (RE.f12 hW hr) hS.2.2.1
  rw [litR_node hn] at hln
  have hf : E.f (if E.v then n.h else n.o) = E.f (i + 2) := (cutI_hit hW.ou hn hl E.v).symm
  have key : ∀ r', r' < i + 2 → n.l < litR E.us r' → E.f r' = E.f (i + 2) → ∀ V, E.St V ns u → Calls Tryd.prog 42 #[.int .i64 ((r' : Nat) : Int), .pointer (some ⟨E.bs, 0, none⟩), .pointer (some ⟨E.ba, 0, none⟩), .pointer (some ⟨E.bn, 0, none⟩), .pointer (some ⟨E.bw, 0, none⟩), .pointer (some ⟨E.bv, 0, none⟩), .pointer (some ⟨E.bd, 0, none⟩)] V (E.Sub V u (can (E.f (i + 2)) ns).1 (can (E.f (i + 2)) ns).2) := fun r' h1 h2 h3 V hV => by
    have hp : 2 ^ (12 - litR E.us r') ≤ 2 ^ (12 - n.l) := Nat.pow_le_pow_right (by omega) (by omega)
    have := IH r' ns u V h2 ⟨by omega, hV, by omega⟩
    unfold RE.Post at this
    rw [h3] at this
    exact this
  refine ⟨(can (E.f (i + 2)) ns).1, (can (E.f (i + 2)) ns).2, fun V hV => key (if E.v then n.h else n.o) (by split <;> assumption) (by split <;> assumption) hf V hV, (by generalize can (E.f (i + 2)) ns = cc; cases cc; rfl), hc.2.2.1, hc.2.2.2⟩
/-- the two calls of walk, and what is built of them -/
theorem RE.steps {E : RE} (hW : E.Wf) {i : Nat} {n : Nd} {ns : List Nd} {u : Option Nat} {w : World} (hP : E.Pre (i + 2) ns u w) (hn : E.us[i]? = some n) (hl : (n.l : Int) ≠ E.l) (IH : E.IH n.l) :
    ∃ n1 r1 n2 r2, (∀ V, E.St V ns u → Calls Tryd.prog 42 #[.int .i64 n.h, .pointer (some ⟨E.bs, 0, none⟩), .pointer (some ⟨E.ba, 0, none⟩), .pointer (some ⟨E.bn, 0, none⟩), .pointer (some ⟨E.bw, 0, none⟩), .pointer (some ⟨E.bv, 0, none⟩), .pointer (some ⟨E.bd, 0, none⟩)] V (E.Sub V u n1 r1)) ∧ (∀ V u1, E.St V n1 u1 → Calls Tryd.prog 42 #[.int .i64 n.o, .pointer (some ⟨E.bs, 0, none⟩), .pointer (some ⟨E.ba, 0, none⟩), .pointer (some ⟨E.bn, 0, none⟩), .pointer (some ⟨E.bw, 0, none⟩), .pointer (some ⟨E.bv, 0, none⟩), .pointer (some ⟨E.bd, 0, none⟩)] V (E.Sub V u1 n2 r2)) ∧
      can (E.f (i + 2)) ns = mkN n2 n.l r1 r2 ∧ Good n2 ∧ r1 < n2.length + 2 ∧ r2 < n2.length + 2 ∧ n2.length ≤ 5000 := by
  obtain ⟨hr, hS, hln⟩ := hP
  obtain ⟨o1, o2, o3, o4, o5⟩ := hW.ou i n hn
  have hlt := (List.getElem?_eq_some_iff.1 hn).1
  rw [litR_node hn] at hln
  have hT : 2 * 2 ^ (11 - n.l) = 2 ^ (12 - n.l) := by rw [show 12 - n.l = (11 - n.l) + 1 by omega, Nat.pow_succ]; omega
  have hTt : 2 ^ (12 - litR E.us n.h) ≤ 2 ^ (11 - n.l) := Nat.pow_le_pow_right (by omega) (by omega)
  have hTf : 2 ^ (12 - litR E.us n.o) ≤ 2 ^ (11 - n.l) := Nat.pow_le_pow_right (by omega) (by omega)
  have hstep : can (E.f (i + 2)) ns = _ := can_cutI hW.ou hn hl E.v hS.2.2.1
  have k1 : n.h < E.us.length + 2 := by omega
  have k2 : n.o < E.us.length + 2 := by omega
  have o1 := can_ok (RE.f12 hW k1) hS.2.2.1
  have c1 := can_len (RE.f12 hW k1) (litR_le _ hW.ou _) (RE.ind hW k1) hS.2.2.1
  have o2 := can_ok (RE.f12 hW k2) o1.2.1
  have c2 := can_len (RE.f12 hW k2) (litR_le _ hW.ou _) (RE.ind hW k2) o1.2.1
  obtain ⟨m2, hm2⟩ := o2.1
  refine ⟨(can (E.f n.h) ns).1, (can (E.f n.h) ns).2, (can (E.f n.o) (can (E.f n.h) ns).1).1, (can (E.f n.o) (can (E.f n.h) ns).1).2, fun V hV => IH _ ns u V o4 ⟨k1, hV, by omega⟩, fun V u1 hV => IH _ _ u1 V o5 ⟨k2, hV, by omega⟩, hstep, o2.2.1, ?_, o2.2.2.1, by omega⟩
  rw [hm2, List.length_append]
  have := o1.2.2.1
  omega
/-- the variables, and a node at block s -/
def RE.At (E : RE) (s : Nat) (n : Nd) (V : World) : Prop := E.Box V ∧ V.heap[s]? = some (.cells #[.int .i64 n.l, .int .i64 n.h, .int .i64 n.o] 51 (0, 0)) ∧ E.base ≤ s ∧ s < V.heap.size
theorem RE.At.old {E : RE} (hW : E.Wf) {s : Nat} {n : Nd} {V V' : World} (h : E.At s n V) (hb : Below V.heap.size V V') : E.At s n V' := by
  obtain ⟨h1, h2, h3, h4⟩ := h
  exact ⟨h1.keep hW (Ke.of (hb.mono (by omega))), (hb.block _ h4).trans h2, h3, Nat.lt_of_lt_of_le h4 hb.size⟩
theorem RE.At.ke {E : RE} (hW : E.Wf) {s : Nat} {n : Nd} {V V' : World} {u : Option Nat} (h : E.At s n V) (hk : Ke V.heap.size (fun b => E.X b ∨ some b = u) V V') (hX : ∀ b, E.X b → b < E.base) (hu : ∀ g, u = some g → E.base ≤ g ∧ g ≠ s) : E.At s n V' := by
  obtain ⟨h1, h2, h3, h4⟩ := h
  refine ⟨h1.keep hW (hk.low (by omega) fun g e => (hu g e).1), (hk.block _ h4 fun hx => ?_).trans h2, h3, Nat.lt_of_lt_of_le h4 hk.size⟩
  rcases hx with hx | hx
  · have := hX _ hx; omega
  · exact (hu _ hx.symm).2 rfl
theorem RE.Box.fol {E : RE} (hW : E.Wf) {i : Nat} {n : Nd} {V : World} (h1 : E.Box V) (hz : E.base ≤ V.heap.size) (hn : E.us[i]? = some n) (hl : (n.l : Int) = E.l) :
    Calls Tryd.prog 43 #[.agg #[.slice E.A1 E.us.length E.c1, .int .i64 E.r1], .int .i64 ((i + 2 : Nat) : Int), .int .i64 E.l, .bool E.v] V fun e w' => e = .returned (.int .i64 ((if E.v then n.h else n.o : Nat) : Int)) ∧ Below V.heap.size V w' := by
  have hlo := hW.low
  have o1 := (hW.ou i n hn).1
  have hlt := (List.getElem?_eq_some_iff.1 hn).1
  have a := follow_any E.A1 E.us.length E.c1 (E.us.map ni) E.r1 ((i + 2 : Nat) : Int) E.l E.v V (h1.ru.up fun b hb => by omega) (by omega) (by omega) (by omega)
  rw [folI_at (x := ni n) (j := i) (by omega) (by rw [List.getElem?_map, hn]; rfl) (by exact hl)] at a
  have e : ((if E.v then n.h else n.o : Nat) : Int) = if E.v then (ni n).2.1 else (ni n).2.2 := by split <;> rfl
  rw [e]
  exact a
theorem RE.St.Xlt {E : RE} (hW : E.Wf) {w : World} {ns : List Nd} {u : Option Nat} (h : E.St w ns u) : ∀ b, E.X b → b < E.base := by
  obtain ⟨_, h2, _⟩ := h
  obtain ⟨A, c, k, m, h1, h2, h3, h4, h5, h6, h7, h8, h9, h10⟩ := h2
  have l7 := hW.lt.2.2.2.2.2.2
  intro b hb
  rcases hb with rfl | rfl | rfl <;> omega
theorem RE.St.own {E : RE} {w : World} {ns : List Nd} {u : Option Nat} (h : E.St w ns u) : ∀ g, u = some g → E.base ≤ g ∧ g < w.heap.size := h.2.1.own
/-- what has changed since W -/
def RE.Acc (E : RE) (W : World) (u : Option Nat) (V : World) (v : Option Nat) : Prop := Ke W.heap.size (fun b => E.X b ∨ some b = u) W V ∧ Nxt W.heap.size u v ∧ W.heap.size ≤ V.heap.size
theorem RE.Acc.refl (E : RE) (W : World) (u : Option Nat) : E.Acc W u W u := ⟨Ke.refl _ _ _, .inl rfl, Nat.le_refl _⟩
theorem RE.Acc.step {E : RE} {W V V' : World} {u v v' : Option Nat} (h : E.Acc W u V v) (hk : Ke V.heap.size (fun b => E.X b ∨ some b = v) V V') (hn : Nxt V.heap.size v v') : E.Acc W u V' v' :=
  ⟨h.1.nxt hk h.2.1 h.2.2, h.2.1.trans hn h.2.2, Nat.le_trans h.2.2 hk.size⟩
theorem RE.Acc.old {E : RE} {W V V' : World} {u v : Option Nat} (h : E.Acc W u V v) (hb : Below V.heap.size V V') : E.Acc W u V' v := h.step (Ke.of hb) (.inl rfl)
/-- the cell of a result -/
theorem RE.Res.cell {E : RE} {ns : List Nd} {w : World} (h : E.Res ns w) {j : Nat} (hj : j < E.us.length) : ∃ y : Int, w.cell? ⟨E.rb, j, none⟩ = some (.int .i64 y) ∧ w.frozen? ⟨E.rb, j, none⟩ = false ∧ E.Ok ns j y := by
  obtain ⟨cur, h1, h2, h3⟩ := h
  obtain ⟨y, g1, g2⟩ := h3 j hj
  exact ⟨y, (Lib.cell_of_heap h1 j).trans g1, Lib.frozen_of_heap h1 j, g2⟩
end Go.Proofs.YtplmbmecjhmiiaaDoor
