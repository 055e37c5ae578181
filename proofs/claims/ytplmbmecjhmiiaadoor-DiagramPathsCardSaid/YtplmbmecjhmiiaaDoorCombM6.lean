/- A pair that the table of results lacks. -/
import Derived.Test.YtplmbmecjhmiiaaDoorComb6
import Derived.Shelf.Abstract
namespace Go.Proofs.YtplmbmecjhmiiaaDoor
open Go Go.RowKit Go.Maps
theorem CE.cuts {E : CE} (hW : E.Wf) {x y : Nat} (hx : x < E.us.length + 2) (hy : y < E.vs.length + 2) (hl : litP E.us E.vs x y < 12) (b : Bool) :
    folN E.us x (litP E.us E.vs x y) b < E.us.length + 2 ∧ folN E.vs y (litP E.us E.vs x y) b < E.vs.length + 2 ∧ litP E.us E.vs x y < litP E.us E.vs (folN E.us x (litP E.us E.vs x y) b) (folN E.vs y (litP E.us E.vs x y) b) ∧
      cut (gP E.ch E.us E.vs x y) (litP E.us E.vs x y) b = gP E.ch E.us E.vs (folN E.us x (litP E.us E.vs x y) b) (folN E.vs y (litP E.us E.vs x y) b) := by
  obtain ⟨a1, a2, _⟩ := fol_ok hW.ou hx hl (by unfold litP; omega) b
  obtain ⟨b1, b2, _⟩ := fol_ok hW.ov hy hl (by unfold litP; omega) b
  exact ⟨a1, b1, by show _ < min _ _; omega, gP_cut hW.ou hW.ov hx hy hl (Nat.le_refl _) b⟩
theorem two_cuts {L L1 : Nat} (h : L < L1) (h12 : L < 12) : 2 * 2 ^ (12 - L1) ≤ 2 ^ (12 - L) := by
  have : 2 ^ (12 - L1) ≤ 2 ^ (11 - L) := Nat.pow_le_pow_right (by omega) (by omega)
  rw [show 12 - L = (11 - L) + 1 by omega, Nat.pow_succ]
  omega
theorem mkN_app (ns : List Nd) (l h o : Nat) : ∃ ms, (mkN ns l h o).1 = ns ++ ms := by
  unfold mkN
  split
  · exact ⟨[], by simp⟩
  · split
    · exact ⟨[], by simp⟩
    · exact ⟨_, rfl⟩
/-- the variables, and the pair's box at s -/
def CE.At (E : CE) (s x y : Nat) (V : World) : Prop := E.Box V ∧ V.heap[s]? = some (.cells #[.int .i64 x, .int .i64 y] 83 (0, 0)) ∧ E.base ≤ s ∧ s < V.heap.size
theorem CE.At.old {E : CE} (hW : E.Wf) {s x y : Nat} {V V' : World} (h : E.At s x y V) (hb : Below V.heap.size V V') : E.At s x y V' := by
  obtain ⟨h1, h2, h3, h4⟩ := h
  exact ⟨h1.keep hW (Ke.of (hb.mono (by omega))), (hb.block _ h4).trans h2, h3, Nat.lt_of_lt_of_le h4 hb.size⟩
theorem CE.At.ke {E : CE} (hW : E.Wf) {s x y : Nat} {V V' : World} {u : Option Nat} (h : E.At s x y V) (hk : Ke V.heap.size (fun b => E.X b ∨ some b = u) V V') (hX : ∀ b, E.X b → b < E.base) (hu : ∀ g, u = some g → E.base ≤ g ∧ g ≠ s) : E.At s x y V' := by
  obtain ⟨h1, h2, h3, h4⟩ := h
  refine ⟨h1.keep hW (hk.low (by omega) fun g e => (hu g e).1), (hk.block _ h4 fun hx => ?_).trans h2, h3, Nat.lt_of_lt_of_le h4 hk.size⟩
  rcases hx with hx | hx
  · have := hX _ hx; omega
  · exact (hu _ hx.symm).2 rfl
theorem CE.At.cells {E : CE} {s x y : Nat} {V : World} (h : E.At s x y V) : (V.cell? ⟨E.bw, 0, none⟩ = some (.func (.func 44) #[] #[.pointer (some ⟨E.bc, 0, none⟩), .pointer (some ⟨E.brs, 0, none⟩), .pointer (some ⟨E.ba, 0, none⟩), .pointer (some ⟨E.bb, 0, none⟩), .pointer (some ⟨E.bw, 0, none⟩), .pointer (some ⟨E.bd, 0, none⟩)]) ∧ V.cell? ⟨E.ba, 0, none⟩ = some (.slice E.A1 E.us.length E.c1) ∧ V.cell? ⟨E.ba, 1, none⟩ = some (.int .i64 E.r1) ∧ V.cell? ⟨E.bb, 0, none⟩ = some (.slice E.A2 E.vs.length E.c2) ∧ V.cell? ⟨E.bb, 1, none⟩ = some (.int .i64 E.r2) ∧ V.cell? ⟨s, 0, none⟩ = some (.int .i64 x) ∧ V.cell? ⟨s, 1, none⟩ = some (.int .i64 y)) := by
  obtain ⟨h1, h2, _, _⟩ := h
  obtain ⟨a0, a1⟩ := cells2 h1.a
  obtain ⟨b0, b1⟩ := cells2 h1.b
  obtain ⟨c0, c1⟩ := cells2 h2
  exact ⟨(Lib.cell_of_heap h1.fw 0).trans rfl, a0, a1, b0, b1, c0, c1⟩
theorem CE.At.lit {E : CE} (hW : E.Wf) {s x y : Nat} {V : World} (h : E.At s x y V) (hx : x < E.us.length + 2) (hy : y < E.vs.length + 2) :
    (Calls Tryd.prog 46 #[.agg #[.slice E.A1 E.us.length E.c1, .int .i64 E.r1], .int .i64 x] V fun e w' => e = .returned (.int .i64 (litR E.us x : Int)) ∧ Below V.heap.size V w') ∧
      Calls Tryd.prog 46 #[.agg #[.slice E.A2 E.vs.length E.c2, .int .i64 E.r2], .int .i64 y] V fun e w' => e = .returned (.int .i64 (litR E.vs y : Int)) ∧ Below V.heap.size V w' := by
  have hlo := hW.low
  obtain ⟨h1, _, h3, h4⟩ := h
  have a := literalAt_any E.A1 E.us.length E.c1 (E.us.map ni) E.r1 (x : Int) V (h1.ru.up fun b hb => by omega) (by omega) (by omega)
  have b := literalAt_any E.A2 E.vs.length E.c2 (E.vs.map ni) E.r2 (y : Int) V (h1.rv.up fun b hb => by omega) (by omega) (by omega)
  rw [litI_nat _ hx] at a
  rw [litI_nat _ hy] at b
  exact ⟨a, b⟩
theorem CE.At.fol {E : CE} (hW : E.Wf) {s x y : Nat} {V : World} (h : E.At s x y V) (hx : x < E.us.length + 2) (hy : y < E.vs.length + 2) {l : Nat} (hl : l < 12) (v : Bool) :
    (Calls Tryd.prog 43 #[.agg #[.slice E.A1 E.us.length E.c1, .int .i64 E.r1], .int .i64 x, .int .i64 l, .bool v] V fun e w' => e = .returned (.int .i64 (folN E.us x l v : Int)) ∧ Below V.heap.size V w') ∧
      Calls Tryd.prog 43 #[.agg #[.slice E.A2 E.vs.length E.c2, .int .i64 E.r2], .int .i64 y, .int .i64 l, .bool v] V fun e w' => e = .returned (.int .i64 (folN E.vs y l v : Int)) ∧ Below V.heap.size V w' := by
  have hlo := hW.low
  obtain ⟨h1, _, h3, h4⟩ := h
  have a := follow_any E.A1 E.us.length E.c1 (E.us.map ni) E.r1 (x : Int) (l : Int) v V (h1.ru.up fun b hb => by omega) (by omega) (by omega) (by omega)
  have b := follow_any E.A2 E.vs.length E.c2 (E.vs.map ni) E.r2 (y : Int) (l : Int) v V (h1.rv.up fun b hb => by omega) (by omega) (by omega) (by omega)
  rw [folI_nat _ hx hl] at a
  rw [folI_nat _ hy hl] at b
  exact ⟨a, b⟩
abbrev CE.IH (E : CE) (l : Nat) : Prop := ∀ (x' y' : Nat) (ns' : List Nd) (k' : Nat) (u' : Option Nat) (w' : World), l < litP E.us E.vs x' y' → E.Pre x' y' ns' k' u' w' → Calls Tryd.prog 44 #[.agg #[.int .i64 x', .int .i64 y'], .pointer (some ⟨E.bc, 0, none⟩), .pointer (some ⟨E.brs, 0, none⟩), .pointer (some ⟨E.ba, 0, none⟩), .pointer (some ⟨E.bb, 0, none⟩), .pointer (some ⟨E.bw, 0, none⟩), .pointer (some ⟨E.bd, 0, none⟩)] w' (E.Post x' y' ns' k' u' w')
abbrev CE.Sub (E : CE) (V : World) (ns : List Nd) (k : Nat) (u : Option Nat) (n1 : List Nd) (r1 T : Nat) (e : Ending) (w' : World) : Prop := e = .returned (.int .i64 (r1 : Int)) ∧ (∃ k1 u1, E.St w' n1 k1 u1 ∧ k1 + 1 ≤ k + T ∧ Nxt V.heap.size u u1) ∧ Ke V.heap.size (fun b => E.X b ∨ some b = u) V w'
/-- the two calls of walk on what follows, and what is built of them -/
theorem CE.steps {E : CE} (hW : E.Wf) {x y : Nat} {ns : List Nd} {k : Nat} {u : Option Nat} {w : World} (hP : E.Pre x y ns k u w) (hl : litP E.us E.vs x y < 12) (IH : E.IH (litP E.us E.vs x y)) :
    ∃ (xt yt xf yf : Nat) (n1 : List Nd) (r1 : Nat) (n2 : List Nd) (r2 T : Nat), folN E.us x (litP E.us E.vs x y) true = xt ∧ folN E.vs y (litP E.us E.vs x y) true = yt ∧ folN E.us x (litP E.us E.vs x y) false = xf ∧ folN E.vs y (litP E.us E.vs x y) false = yf ∧
      (∀ V, E.St V ns k u → Calls Tryd.prog 44 #[.agg #[.int .i64 xt, .int .i64 yt], .pointer (some ⟨E.bc, 0, none⟩), .pointer (some ⟨E.brs, 0, none⟩), .pointer (some ⟨E.ba, 0, none⟩), .pointer (some ⟨E.bb, 0, none⟩), .pointer (some ⟨E.bw, 0, none⟩), .pointer (some ⟨E.bd, 0, none⟩)] V (E.Sub V ns k u n1 r1 T)) ∧
      (∀ V k1 u1, E.St V n1 k1 u1 → k1 + 1 ≤ k + T → Calls Tryd.prog 44 #[.agg #[.int .i64 xf, .int .i64 yf], .pointer (some ⟨E.bc, 0, none⟩), .pointer (some ⟨E.brs, 0, none⟩), .pointer (some ⟨E.ba, 0, none⟩), .pointer (some ⟨E.bb, 0, none⟩), .pointer (some ⟨E.bw, 0, none⟩), .pointer (some ⟨E.bd, 0, none⟩)] V (E.Sub V n1 k1 u1 n2 r2 T)) ∧
      can (gP E.ch E.us E.vs x y) ns = mkN n2 (litP E.us E.vs x y) r1 r2 ∧ Good n2 ∧ r1 < n2.length + 2 ∧ r2 < n2.length + 2 ∧ n2.length ≤ 5000 ∧ 2 * T = 2 ^ (12 - litP E.us E.vs x y) ∧ 1 ≤ T ∧ k + 2 * T ≤ 5000 := by
  obtain ⟨hx, hy, hS, hln, hlk⟩ := hP
  obtain ⟨t1, t2, t3, t4⟩ := CE.cuts hW hx hy hl true
  obtain ⟨f1, f2, f3, f4⟩ := CE.cuts hW hx hy hl false
  generalize hxt : folN E.us x (litP E.us E.vs x y) true = xt at *
  generalize hyt : folN E.vs y (litP E.us E.vs x y) true = yt at *
  generalize hxf : folN E.us x (litP E.us E.vs x y) false = xf at *
  generalize hyf : folN E.vs y (litP E.us E.vs x y) false = yf at *
  have hstep := can_step (gP_12 (ch := E.ch) hW.ou hW.ov hx hy) hl (fun z hz => gP_ind hW.ou hW.ov hx hy hz) hS.2.2.1
  rw [t4, f4] at hstep
  have hT : 2 * 2 ^ (11 - litP E.us E.vs x y) = 2 ^ (12 - litP E.us E.vs x y) := by rw [show 12 - litP E.us E.vs x y = (11 - litP E.us E.vs x y) + 1 by omega, Nat.pow_succ]; omega
  have hTt : 2 ^ (12 - litP E.us E.vs xt yt) ≤ 2 ^ (11 - litP E.us E.vs x y) := Nat.pow_le_pow_right (by omega) (by omega)
  have hTf : 2 ^ (12 - litP E.us E.vs xf yf) ≤ 2 ^ (11 - litP E.us E.vs x y) := Nat.pow_le_pow_right (by omega) (by omega)
  have h1 : 1 ≤ 2 ^ (11 - litP E.us E.vs x y) := Nat.one_le_two_pow
  have o1 := can_ok (gP_12 (ch := E.ch) hW.ou hW.ov t1 t2) hS.2.2.1
  have le12 : ∀ x y, litP E.us E.vs x y ≤ 12 := fun x y => Nat.le_trans (Nat.min_le_left _ _) (litR_le _ hW.ou _)
  have c1 := can_len (gP_12 (ch := E.ch) hW.ou hW.ov t1 t2) (le12 _ _) (fun z hz => gP_ind hW.ou hW.ov t1 t2 hz) hS.2.2.1
  have o2 := can_ok (gP_12 (ch := E.ch) hW.ou hW.ov f1 f2) o1.2.1
  have c2 := can_len (gP_12 (ch := E.ch) hW.ou hW.ov f1 f2) (le12 _ _) (fun z hz => gP_ind hW.ou hW.ov f1 f2 hz) o1.2.1
  obtain ⟨m2, hm2⟩ := o2.1
  refine ⟨xt, yt, xf, yf, (can (gP E.ch E.us E.vs xt yt) ns).1, (can (gP E.ch E.us E.vs xt yt) ns).2, (can (gP E.ch E.us E.vs xf yf) (can (gP E.ch E.us E.vs xt yt) ns).1).1, (can (gP E.ch E.us E.vs xf yf) (can (gP E.ch E.us E.vs xt yt) ns).1).2, 2 ^ (11 - litP E.us E.vs x y), rfl, rfl, rfl, rfl, fun V hV => ?_, fun V k1 u1 hV hk1 => ?_, hstep, o2.2.1, ?_, o2.2.2.1, by omega, hT, h1, by omega⟩
  · refine (IH _ _ ns k u V t3 ⟨t1, t2, hV, by omega, by omega⟩).mono ?_
    rintro e w' ⟨rfl, ⟨k', u', g1, g2, g3⟩, g4⟩
    exact ⟨rfl, ⟨k', u', g1, by omega, g3⟩, g4⟩
  · refine (IH _ _ _ k1 u1 V f3 ⟨f1, f2, hV, by omega, by omega⟩).mono ?_
    rintro e w' ⟨rfl, ⟨k', u', g1, g2, g3⟩, g4⟩
    exact ⟨rfl, ⟨k', u', g1, by omega, g3⟩, g4⟩
  · rw [hm2, List.length_append]
    have := o1.2.2.1
    omega
/-- the store of the result -/
theorem CE.last {E : CE} (hW : E.Wf) {x y l r1 r2 : Nat} {ns n2 : List Nd} (hx : x < E.us.length + 2) (hy : y < E.vs.length + 2) (hG0 : Good ns) (hcan : can (gP E.ch E.us E.vs x y) ns = mkN n2 l r1 r2) (h5 : n2.length ≤ 5000) {V8 V9 : World} {k2 : Nat} {u2 u3 : Option Nat} (hS : E.St V8 n2 k2 u2) (hk2 : k2 ≤ 5000)
    (hB : BldR V9 E.p E.q E.base (mkN n2 l r1 r2).1 u3) (hk : Ke V8.heap.size (fun b => b = E.p ∨ b = E.q ∨ some b = u2) V8 V9) :
    E.Box V9 ∧ Ke V8.heap.size (fun b => E.X b ∨ some b = u2) V8 V9 ∧ ∃ V10, (Instr.mapUpdate 80 (.map (some E.rb)) (.agg #[.int .i64 x, .int .i64 y]) (.int .i64 ((mkN n2 l r1 r2).2 : Int))).run Tryd.prog V9 = .ok () V10 ∧ E.St V10 (mkN n2 l r1 r2).1 (k2 + 1) u3 ∧ Ke V9.heap.size (fun b => E.X b ∨ some b = u3) V9 V10 := by
  obtain ⟨ms, hms⟩ := mkN_app n2 l r1 r2
  obtain ⟨_, hG, hr, hF⟩ := can_ok (gP_12 (ch := E.ch) hW.ou hW.ov hx hy) hG0
  rw [hcan] at hG hr hF
  rw [hms] at hB hG
  obtain ⟨hS9, hk9⟩ := hS.ref hW hk hB hG
  rw [← hms] at hS9
  refine ⟨hS9.1, hk9, ?_⟩
  obtain ⟨m, hM, hR⟩ := hS9.2.2.2
  have hle := mkN_len n2 l r1 r2
  obtain ⟨V10, hrun, hM10, hg⟩ := hM.put keyed2 (fun _ _ => kv2_inj) Tryd.underlying80 (by unfold maxLen; omega) ((x : Int), (y : Int)) (CE.key hW hx hy) ((mkN n2 l r1 r2).2 : Int) (WalkArith.wf_i64 (by omega))
  rw [kv2_at] at hrun
  refine ⟨V10, hrun, hS9.put hW hg hM10 fun z v hz => ?_⟩
  by_cases he : z = ((x : Int), (y : Int))
  · rw [if_pos he] at hz
    injection hz with hz
    exact ⟨x, y, _, he, hz.symm, hr, hF⟩
  · rw [if_neg he] at hz
    exact hR z v hz
/-- what has changed since W -/
def CE.Acc (E : CE) (W : World) (u : Option Nat) (V : World) (v : Option Nat) : Prop := Ke W.heap.size (fun b => E.X b ∨ some b = u) W V ∧ Nxt W.heap.size u v ∧ W.heap.size ≤ V.heap.size
theorem CE.Acc.refl (E : CE) (W : World) (u : Option Nat) : E.Acc W u W u := ⟨Ke.refl _ _ _, .inl rfl, Nat.le_refl _⟩
theorem CE.Acc.step {E : CE} {W V V' : World} {u v v' : Option Nat} (h : E.Acc W u V v) (hk : Ke V.heap.size (fun b => E.X b ∨ some b = v) V V') (hn : Nxt V.heap.size v v') : E.Acc W u V' v' :=
  ⟨h.1.nxt hk h.2.1 h.2.2, h.2.1.trans hn h.2.2, Nat.le_trans h.2.2 hk.size⟩
theorem CE.Acc.old {E : CE} {W V V' : World} {u v : Option Nat} (h : E.Acc W u V v) (hb : Below V.heap.size V V') : E.Acc W u V' v := h.step (Ke.of hb) (.inl rfl)
theorem CE.St.Xlt {E : CE} (hW : E.Wf) {w : World} {ns : List Nd} {k : Nat} {u : Option Nat} (h : E.St w ns k u) : ∀ b, E.X b → b < E.base := by
  obtain ⟨_, h2, _⟩ := h
  obtain ⟨A, c, k, m, h1, h2, h3, h4, h5, h6, h7, h8, h9, h10⟩ := h2
  have l7 := hW.lt.2.2.2.2.2.2
  intro b hb
  rcases hb with rfl | rfl | rfl <;> omega
theorem CE.St.own {E : CE} {w : World} {ns : List Nd} {k : Nat} {u : Option Nat} (h : E.St w ns k u) : ∀ g, u = some g → E.base ≤ g ∧ g < w.heap.size := h.2.1.own
set_option maxRecDepth 100000 in
set_option maxHeartbeats 6400000 in
theorem walkC_missA (E : CE) (hW : E.Wf)
    (x y : Nat) (ns : List Nd) (k : Nat) (u : Option Nat) (w : World) (hP : E.Pre x y ns k u w) (hc : 2 ≤ x)
    (m : Int × Int → Option Int) (hM : MapF 83 kv2 w E.rb k m) (hm : m ((x : Int), (y : Int)) = none)
    (IH : Hid (∀ (x' y' : Nat) (ns' : List Nd) (k' : Nat) (u' : Option Nat) (w' : World), litP E.us E.vs x y < litP E.us E.vs x' y' → E.Pre x' y' ns' k' u' w' → Calls Tryd.prog 44 #[.agg #[.int .i64 x', .int .i64 y'], .pointer (some ⟨E.bc, 0, none⟩), .pointer (some ⟨E.brs, 0, none⟩), .pointer (some ⟨E.ba, 0, none⟩), .pointer (some ⟨E.bb, 0, none⟩), .pointer (some ⟨E.bw, 0, none⟩), .pointer (some ⟨E.bd, 0, none⟩)] w' (E.Post x' y' ns' k' u' w'))) : Calls Tryd.prog 44 #[.agg #[.int .i64 x, .int .i64 y], .pointer (some ⟨E.bc, 0, none⟩), .pointer (some ⟨E.brs, 0, none⟩), .pointer (some ⟨E.ba, 0, none⟩), .pointer (some ⟨E.bb, 0, none⟩), .pointer (some ⟨E.bw, 0, none⟩), .pointer (some ⟨E.bd, 0, none⟩)] w (E.Post x y ns k u w) := by
  have hPP := Lib.hid hP
  obtain ⟨hx, hy, hS, hln, hlk⟩ := hP
  obtain ⟨W, hWd⟩ : ∃ W, W = w.alloc (.cells #[.int .i64 x, .int .i64 y] 83) := ⟨_, rfl⟩
  have hb : Below w.heap.size w W := by rw [hWd]; exact (Below.refl _ _).alloc (Nat.le_refl _) _
  have hz : W.heap.size = w.heap.size + 1 := by rw [hWd]; simp
  have kn : W.heap[w.heap.size]? = some (.cells #[.int .i64 x, .int .i64 y] 83 (0, 0)) := by rw [hWd]; exact heap_alloc_new w _
  have hWW := Lib.hid hW
  have hSW := hS.old hW hb
  have hbs := hS.2.1.base
  have HSW := Lib.hid hSW
  have HA : Hid (E.At w.heap.size x y W) := Lib.hid ⟨hSW.1, kn, hbs, by omega⟩
  have hl : litP E.us E.vs x y < 12 := litP_lt hW.ou hW.ov hx hy (by omega)
  have hmin : min (litR E.us x : Int) (litR E.vs y : Int) = ((litP E.us E.vs x y : Nat) : Int) := by unfold litP; omega
  have hmin2 : (if (litR E.vs y : Int) < (litR E.us x : Int) then (litR E.vs y : Int) else (litR E.us x : Int)) = ((litP E.us E.vs x y : Nat) : Int) := by unfold litP; split <;> omega
  have HXY := Lib.hid (And.intro hx hy)
  obtain ⟨xt, yt, xf, yf, n1, r1, n2, r2, T, hxt, hyt, hxf, hyf, hCT, hCF, hcan, hG2, hr1, hr2, hn2, hT, hT1, hkT⟩ := CE.steps hW hPP.out hl IH.out
  have hLi := Lib.hid fun (V : World) (h : E.At w.heap.size x y V) => h.lit hW hx hy
  have hfT := Lib.hid fun (V : World) (h : E.At w.heap.size x y V) => h.fol hW hx hy hl true
  have hfF := Lib.hid fun (V : World) (h : E.At w.heap.size x y V) => h.fol hW hx hy hl false
  rw [hxt, hyt] at hfT
  rw [hxf, hyf] at hfF
  have HU : Hid (∀ v, Nxt W.heap.size u v → ∀ g, v = some g → g ≠ w.heap.size) := Lib.hid fun v hv g hg => by
    rcases hv with rfl | hv
    · have := (hS.own g hg).2; omega
    · have := hv g hg; omega
  have HX := Lib.hid (hS.Xlt hW)
  have HT := Lib.hid hCT
  have HF := Lib.hid hCF
  have HN := Lib.hid (And.intro hcan (And.intro hG2 (And.intro hr1 (And.intro hr2 (And.intro hn2 (And.intro hT (And.intro hT1 (And.intro hkT hS.2.2.1))))))))
  clear hxt hyt hxf hyf hCT hCF hcan hG2 hr1 hr2 hn2 hT hT1 hkT IH
  have eg : ∀ args w, (callFunc 44 args).run Tryd.prog w = .ok (.enter 44 args) w := enters_of Tryd.func44 (by kernel_rfl) rfl
  have q1 : decide ((x : Int) < 2) = false := by rw [decide_eq_false_iff_not]; omega
  obtain ⟨cv, hlook, hcv⟩ := (hM.kept (hb.block _ hM.lt)).look keyed2 Tryd.underlying80 ((x : Int), (y : Int)) (CE.key hW hx hy)
  rw [hm, kv2_at] at hlook
  have e0 := (Lib.cell_of_heap hSW.1.rs 0).trans (show (#[.map (some E.rb)] : Array Value)[0]? = some (.map (some E.rb)) from rfl)
  rw [hWd] at e0 hlook
  have HB := Lib.hid hb
  have HL := Lib.hid hl
  generalize hPost : E.Post x y ns k u w = Post at *
  have HPost := Lib.hid hPost
  generalize hLL : litP E.us E.vs x y = l at *
  have HLL := Lib.hid hLL
  generalize hM1 : litR E.us x = la at *
  have HM1 := Lib.hid hM1
  generalize hM2 : litR E.vs y = lb at *
  have HM2 := Lib.hid hM2
  have HMM := Lib.hid (And.intro hM hm)
  clear hM1 hM2 hLL hPost hS hSW hx hy hln hlk hb hz kn hM hm hcv hc hl hbs hW
  go_enter Tryd.func44, Tryd.ntmps44
  go_wp2_with fail
  rw [← hWd]
  clear hWd hlook e0
  refine wp_region_held_drew (S := fun V => (V.cell? ⟨E.bw, 0, none⟩ = some (.func (.func 44) #[] #[.pointer (some ⟨E.bc, 0, none⟩), .pointer (some ⟨E.brs, 0, none⟩), .pointer (some ⟨E.ba, 0, none⟩), .pointer (some ⟨E.bb, 0, none⟩), .pointer (some ⟨E.bw, 0, none⟩), .pointer (some ⟨E.bd, 0, none⟩)]) ∧ V.cell? ⟨E.ba, 0, none⟩ = some (.slice E.A1 E.us.length E.c1) ∧ V.cell? ⟨E.ba, 1, none⟩ = some (.int .i64 E.r1) ∧ V.cell? ⟨E.bb, 0, none⟩ = some (.slice E.A2 E.vs.length E.c2) ∧ V.cell? ⟨E.bb, 1, none⟩ = some (.int .i64 E.r2) ∧ V.cell? ⟨w.heap.size, 0, none⟩ = some (.int .i64 x) ∧ V.cell? ⟨w.heap.size, 1, none⟩ = some (.int .i64 y))) (by kernel_rfl) (HA.out.old hWW.out (Below.refl _ W).drew).cells (fun _ => ?_)
  have HA0 := Lib.hid (HA.out.old hWW.out (Below.refl _ W).drew)
  have HB0 := Lib.hid ((Below.refl W.heap.size W).drew)
  refine tk 0 (HA0.out.cells) ?_
  try simp only [Act.put, pA, pB, pC]
  refine tk 1 (HA0.out.cells) ?_
  try simp only [Act.put, pA, pB, pC]
  refine tk 2 (HA0.out.cells) ?_
  try simp only [Act.put, pA, pB, pC]
  refine tk 4 (HA0.out.cells) ?_
  try simp only [Act.put, pA, pB, pC]
  refine tk 5 (HA0.out.cells) ?_
  try simp only [Act.put, pA, pB, pC]
  refine tk 6 (HA0.out.cells) ?_
  try simp only [Act.put, pA, pB, pC]
  refine one_op 3 (by kernel_rfl) rfl (by rfl) (fun K hK => ?_)
  go_simp
  refine (hLi.out _ HA0.out).1.mono ?_
  rintro e V1 ⟨rfl, hb1⟩
  have HA1 := Lib.hid (HA0.out.old hWW.out hb1)
  have HB1 := Lib.hid (HB0.out.trans (hb1.mono HB0.out.size))
  clear hb1
  refine hK _ _ HA1.out.cells ?_
  try simp only [Act.put, pA, pB, pC]
  clear hK K
  refine one_op 7 (by kernel_rfl) rfl (by rfl) (fun K hK => ?_)
  go_simp
  refine (hLi.out _ HA1.out).2.mono ?_
  rintro e V2 ⟨rfl, hb2⟩
  have HA2 := Lib.hid (HA1.out.old hWW.out hb2)
  have HB2 := Lib.hid (HB1.out.trans (hb2.mono HB1.out.size))
  clear hb2
  refine hK _ _ HA2.out.cells ?_
  try simp only [Act.put, pA, pB, pC]
  clear hK K
  refine tk 8 (HA2.out.cells) ?_
  try simp only [Act.put, pA, pB, pC]
  refine tk 9 (HA2.out.cells) ?_
  try simp only [Act.put, pA, pB, pC]
  refine wpAnyH_done (by kernel_rfl) ?_ _
  have HA3 := Lib.hid (HA2.out.old hWW.out (Below.refl _ V2).drew)
  have HB3 := Lib.hid HB2.out.drew
  clear HA0 HA1 HB0 HB1 HA2 HB2 hmin2
  try rw [hmin]
  clear hmin
  go_wp2_with fail
  refine wp_region_held_drew (S := fun V => (V.cell? ⟨E.bw, 0, none⟩ = some (.func (.func 44) #[] #[.pointer (some ⟨E.bc, 0, none⟩), .pointer (some ⟨E.brs, 0, none⟩), .pointer (some ⟨E.ba, 0, none⟩), .pointer (some ⟨E.bb, 0, none⟩), .pointer (some ⟨E.bw, 0, none⟩), .pointer (some ⟨E.bd, 0, none⟩)]) ∧ V.cell? ⟨E.ba, 0, none⟩ = some (.slice E.A1 E.us.length E.c1) ∧ V.cell? ⟨E.ba, 1, none⟩ = some (.int .i64 E.r1) ∧ V.cell? ⟨E.bb, 0, none⟩ = some (.slice E.A2 E.vs.length E.c2) ∧ V.cell? ⟨E.bb, 1, none⟩ = some (.int .i64 E.r2) ∧ V.cell? ⟨w.heap.size, 0, none⟩ = some (.int .i64 x) ∧ V.cell? ⟨w.heap.size, 1, none⟩ = some (.int .i64 y))) (by kernel_rfl) HA3.out.cells (fun _ => ?_)
  refine tk 0 (HA3.out.cells) ?_
  try simp only [Act.put, pA, pB, pC]
  refine tk 1 (HA3.out.cells) ?_
  try simp only [Act.put, pA, pB, pC]
  refine tk 2 (HA3.out.cells) ?_
  try simp only [Act.put, pA, pB, pC]
  refine tk 3 (HA3.out.cells) ?_
  try simp only [Act.put, pA, pB, pC]
  refine tk 4 (HA3.out.cells) ?_
  try simp only [Act.put, pA, pB, pC]
  refine tk 6 (HA3.out.cells) ?_
  try simp only [Act.put, pA, pB, pC]
  refine tk 7 (HA3.out.cells) ?_
  try simp only [Act.put, pA, pB, pC]
  refine tk 8 (HA3.out.cells) ?_
  try simp only [Act.put, pA, pB, pC]
  refine tk 9 (HA3.out.cells) ?_
  try simp only [Act.put, pA, pB, pC]
  refine one_op 5 (by kernel_rfl) rfl (by rfl) (fun K hK => ?_)
  go_simp
  refine (hfT.out _ HA3.out).1.mono ?_
  rintro e V3 ⟨rfl, hb3⟩
  have HA4 := Lib.hid (HA3.out.old hWW.out hb3)
  have HB4 := Lib.hid (HB3.out.trans (hb3.mono HB3.out.size))
  clear hb3
  refine hK _ _ HA4.out.cells ?_
  try simp only [Act.put, pA, pB, pC]
  clear hK K
  refine one_op 10 (by kernel_rfl) rfl (by rfl) (fun K hK => ?_)
  go_simp
  refine (hfT.out _ HA4.out).2.mono ?_
  rintro e V4 ⟨rfl, hb4⟩
  have HA5 := Lib.hid (HA4.out.old hWW.out hb4)
  have HB5 := Lib.hid (HB4.out.trans (hb4.mono HB4.out.size))
  clear hb4
  refine hK _ _ HA5.out.cells ?_
  try simp only [Act.put, pA, pB, pC]
  clear hK K
  refine tk 11 (HA5.out.cells) ?_
  try simp only [Act.put, pA, pB, pC]
  refine one_op 12 (by kernel_rfl) rfl (by rfl) (fun K hK => ?_)
  go_simp
  refine (HT.out V4 (HSW.out.old hWW.out HB5.out)).mono ?_
  rintro e V5 ⟨rfl, ⟨k1, u1, hS1, hk1, hn1⟩, hK1⟩
  have HC1 := Lib.hid (((CE.Acc.refl E W u).old HB5.out).step hK1 hn1)
  have HA6 := Lib.hid (HA5.out.ke hWW.out hK1 HX.out (fun g hg => ⟨(HSW.out.own g hg).1, HU.out u (.inl rfl) g hg⟩))
  have HS1 := Lib.hid (And.intro hS1 hk1)
  clear hS1 hk1 hn1 hK1
  refine hK _ _ HA6.out.cells ?_
  try simp only [Act.put, pA, pB, pC]
  clear hK K
  refine tk 13 (HA6.out.cells) ?_
  try simp only [Act.put, pA, pB, pC]
  refine wpAnyH_done (by kernel_rfl) ?_ _
  have HA7 := Lib.hid (HA6.out.old hWW.out (Below.refl _ V5).drew)
  have HB7 := Lib.hid ((Below.refl V5.heap.size V5).drew)
  clear HA3 HA4 HA5 HA6 HB3 HB4 HB5
  go_wp2_with fail
  refine wp_region_held_drew (S := fun V => (V.cell? ⟨E.bw, 0, none⟩ = some (.func (.func 44) #[] #[.pointer (some ⟨E.bc, 0, none⟩), .pointer (some ⟨E.brs, 0, none⟩), .pointer (some ⟨E.ba, 0, none⟩), .pointer (some ⟨E.bb, 0, none⟩), .pointer (some ⟨E.bw, 0, none⟩), .pointer (some ⟨E.bd, 0, none⟩)]) ∧ V.cell? ⟨E.ba, 0, none⟩ = some (.slice E.A1 E.us.length E.c1) ∧ V.cell? ⟨E.ba, 1, none⟩ = some (.int .i64 E.r1) ∧ V.cell? ⟨E.bb, 0, none⟩ = some (.slice E.A2 E.vs.length E.c2) ∧ V.cell? ⟨E.bb, 1, none⟩ = some (.int .i64 E.r2) ∧ V.cell? ⟨w.heap.size, 0, none⟩ = some (.int .i64 x) ∧ V.cell? ⟨w.heap.size, 1, none⟩ = some (.int .i64 y))) (by kernel_rfl) HA7.out.cells (fun _ => ?_)
  refine tk 0 (HA7.out.cells) ?_
  try simp only [Act.put, pA, pB, pC]
  refine tk 1 (HA7.out.cells) ?_
  try simp only [Act.put, pA, pB, pC]
  refine tk 2 (HA7.out.cells) ?_
  try simp only [Act.put, pA, pB, pC]
  refine tk 3 (HA7.out.cells) ?_
  try simp only [Act.put, pA, pB, pC]
  refine tk 4 (HA7.out.cells) ?_
  try simp only [Act.put, pA, pB, pC]
  refine tk 6 (HA7.out.cells) ?_
  try simp only [Act.put, pA, pB, pC]
  refine tk 7 (HA7.out.cells) ?_
  try simp only [Act.put, pA, pB, pC]
  refine tk 8 (HA7.out.cells) ?_
  try simp only [Act.put, pA, pB, pC]
  refine tk 9 (HA7.out.cells) ?_
  try simp only [Act.put, pA, pB, pC]
  refine one_op 5 (by kernel_rfl) rfl (by rfl) (fun K hK => ?_)
  go_simp
  refine (hfF.out _ HA7.out).1.mono ?_
  rintro e V6 ⟨rfl, hb6⟩
  have HA8 := Lib.hid (HA7.out.old hWW.out hb6)
  have HB8 := Lib.hid (HB7.out.trans (hb6.mono HB7.out.size))
  clear hb6
  refine hK _ _ HA8.out.cells ?_
  try simp only [Act.put, pA, pB, pC]
  clear hK K
  refine one_op 10 (by kernel_rfl) rfl (by rfl) (fun K hK => ?_)
  go_simp
  refine (hfF.out _ HA8.out).2.mono ?_
  rintro e V7 ⟨rfl, hb7⟩
  have HA9 := Lib.hid (HA8.out.old hWW.out hb7)
  have HB9 := Lib.hid (HB8.out.trans (hb7.mono HB8.out.size))
  clear hb7
  refine hK _ _ HA9.out.cells ?_
  try simp only [Act.put, pA, pB, pC]
  clear hK K
  refine tk 11 (HA9.out.cells) ?_
  try simp only [Act.put, pA, pB, pC]
  refine one_op 12 (by kernel_rfl) rfl (by rfl) (fun K hK => ?_)
  go_simp
  refine (HF.out V7 k1 u1 (HS1.out.1.old hWW.out HB9.out) HS1.out.2).mono ?_
  rintro e V8 ⟨rfl, ⟨k2, u2, hS2, hk2, hn2⟩, hK2⟩
  have HC2 := Lib.hid ((HC1.out.old HB9.out).step hK2 hn2)
  have HA10 := Lib.hid (HA9.out.ke hWW.out hK2 HX.out (fun g hg => ⟨(HS1.out.1.own g hg).1, HU.out u1 HC1.out.2.1 g hg⟩))
  have HS2 := Lib.hid (And.intro hS2 hk2)
  clear hS2 hk2 hn2 hK2
  refine hK _ _ HA10.out.cells ?_
  try simp only [Act.put, pA, pB, pC]
  clear hK K
  refine tk 13 (HA10.out.cells) ?_
  try simp only [Act.put, pA, pB, pC]
  refine wpAnyH_done (by kernel_rfl) ?_ _
  clear HA7 HA8 HA9 HB7 HB8 HB9
  have x0 := (Lib.cell_of_heap HA10.out.1.d 0).trans (show (#[.pointer (some ⟨E.p, 0, none⟩)] : Array Value)[0]? = some (.pointer (some ⟨E.p, 0, none⟩)) from rfl)
  go_wp2_with fail
  refine (reference_any E.p E.q E.base n2 l r1 r2 V8 u2 HS2.out.1.2.1 HN.out.2.1 HL.out HN.out.2.2.1 HN.out.2.2.2.1 (by have := HN.out.2.2.2.2.1; omega)).mono ?_
  rintro e V9 ⟨rfl, u3, hB3, hn3, hK3⟩
  obtain ⟨hBox, hK9, V10, hrun, hS10, hK10⟩ := CE.last hWW.out HXY.out.1 HXY.out.2 HN.out.2.2.2.2.2.2.2.2 HN.out.1 HN.out.2.2.2.2.1 HS2.out.1 (by have := HN.out.2.2.2.2.2.2.2.1; have := HS2.out.2; have := HS1.out.2; omega) hB3 hK3
  have HC3 := Lib.hid ((HC2.out.step hK9 hn3).step hK10 (.inl rfl))
  have HA11 := Lib.hid (HA10.out.ke hWW.out hK9 HX.out (fun g hg => ⟨(HS2.out.1.own g hg).1, HU.out u2 HC2.out.2.1 g hg⟩))
  have HS10 := Lib.hid hS10
  clear x0 hB3 hn3 hK3 hBox hK9 hS10 hK10
  have x1 := (Lib.cell_of_heap HA11.out.1.rs 0).trans (show (#[.map (some E.rb)] : Array Value)[0]? = some (.map (some E.rb)) from rfl)
  obtain ⟨x2, x3⟩ := cells2 HA11.out.2.1
  generalize hr3 : (mkN n2 l r1 r2).2 = r3 at *
  have HR3 := Lib.hid hr3
  clear hr3
  go_wp2
  rw [← HPost.out]
  unfold CE.Post
  rw [HN.out.1, HR3.out]
  have hHB := HB.out
  refine ⟨rfl, ⟨k2 + 1, u3, HS10.out, by have := HN.out.2.2.2.2.2.1; have := HS2.out.2; have := HS1.out.2; rw [HLL.out]; omega, HC3.out.2.1.trans (.inl rfl) (by exact Nat.le_refl _) |>.elim .inl (fun h => .inr fun g e => Nat.le_trans hHB.size (h g e))⟩, (Ke.of hHB).nxt HC3.out.1 (.inl rfl) hHB.size⟩
set_option maxRecDepth 100000 in
set_option maxHeartbeats 6400000 in
theorem walkC_missB (E : CE) (hW : E.Wf)
    (x y : Nat) (ns : List Nd) (k : Nat) (u : Option Nat) (w : World) (hP : E.Pre x y ns k u w) (hc : x < 2 ∧ 2 ≤ y)
    (m : Int × Int → Option Int) (hM : MapF 83 kv2 w E.rb k m) (hm : m ((x : Int), (y : Int)) = none)
    (IH : Hid (∀ (x' y' : Nat) (ns' : List Nd) (k' : Nat) (u' : Option Nat) (w' : World), litP E.us E.vs x y < litP E.us E.vs x' y' → E.Pre x' y' ns' k' u' w' → Calls Tryd.prog 44 #[.agg #[.int .i64 x', .int .i64 y'], .pointer (some ⟨E.bc, 0, none⟩), .pointer (some ⟨E.brs, 0, none⟩), .pointer (some ⟨E.ba, 0, none⟩), .pointer (some ⟨E.bb, 0, none⟩), .pointer (some ⟨E.bw, 0, none⟩), .pointer (some ⟨E.bd, 0, none⟩)] w' (E.Post x' y' ns' k' u' w'))) : Calls Tryd.prog 44 #[.agg #[.int .i64 x, .int .i64 y], .pointer (some ⟨E.bc, 0, none⟩), .pointer (some ⟨E.brs, 0, none⟩), .pointer (some ⟨E.ba, 0, none⟩), .pointer (some ⟨E.bb, 0, none⟩), .pointer (some ⟨E.bw, 0, none⟩), .pointer (some ⟨E.bd, 0, none⟩)] w (E.Post x y ns k u w) := by
  have hPP := Lib.hid hP
  obtain ⟨hx, hy, hS, hln, hlk⟩ := hP
  obtain ⟨W, hWd⟩ : ∃ W, W = w.alloc (.cells #[.int .i64 x, .int .i64 y] 83) := ⟨_, rfl⟩
  have hb : Below w.heap.size w W := by rw [hWd]; exact (Below.refl _ _).alloc (Nat.le_refl _) _
  have hz : W.heap.size = w.heap.size + 1 := by rw [hWd]; simp
  have kn : W.heap[w.heap.size]? = some (.cells #[.int .i64 x, .int .i64 y] 83 (0, 0)) := by rw [hWd]; exact heap_alloc_new w _
  have hWW := Lib.hid hW
  have hSW := hS.old hW hb
  have hbs := hS.2.1.base
  have HSW := Lib.hid hSW
  have HA : Hid (E.At w.heap.size x y W) := Lib.hid ⟨hSW.1, kn, hbs, by omega⟩
  have hl : litP E.us E.vs x y < 12 := litP_lt hW.ou hW.ov hx hy (by omega)
  have hmin : min (litR E.us x : Int) (litR E.vs y : Int) = ((litP E.us E.vs x y : Nat) : Int) := by unfold litP; omega
  have hmin2 : (if (litR E.vs y : Int) < (litR E.us x : Int) then (litR E.vs y : Int) else (litR E.us x : Int)) = ((litP E.us E.vs x y : Nat) : Int) := by unfold litP; split <;> omega
  have HXY := Lib.hid (And.intro hx hy)
  obtain ⟨xt, yt, xf, yf, n1, r1, n2, r2, T, hxt, hyt, hxf, hyf, hCT, hCF, hcan, hG2, hr1, hr2, hn2, hT, hT1, hkT⟩ := CE.steps hW hPP.out hl IH.out
  have hLi := Lib.hid fun (V : World) (h : E.At w.heap.size x y V) => h.lit hW hx hy
  have hfT := Lib.hid fun (V : World) (h : E.At w.heap.size x y V) => h.fol hW hx hy hl true
  have hfF := Lib.hid fun (V : World) (h : E.At w.heap.size x y V) => h.fol hW hx hy hl false
  rw [hxt, hyt] at hfT
  rw [hxf, hyf] at hfF
  have HU : Hid (∀ v, Nxt W.heap.size u v → ∀ g, v = some g → g ≠ w.heap.size) := Lib.hid fun v hv g hg => by
    rcases hv with rfl | hv
    · have := (hS.own g hg).2; omega
    · have := hv g hg; omega
  have HX := Lib.hid (hS.Xlt hW)
  have HT := Lib.hid hCT
  have HF := Lib.hid hCF
  have HN := Lib.hid (And.intro hcan (And.intro hG2 (And.intro hr1 (And.intro hr2 (And.intro hn2 (And.intro hT (And.intro hT1 (And.intro hkT hS.2.2.1))))))))
  clear hxt hyt hxf hyf hCT hCF hcan hG2 hr1 hr2 hn2 hT hT1 hkT IH
  have eg : ∀ args w, (callFunc 44 args).run Tryd.prog w = .ok (.enter 44 args) w := enters_of Tryd.func44 (by kernel_rfl) rfl
  have q1 : decide ((x : Int) < 2) = true := by rw [decide_eq_true_eq]; omega
  have q2 : decide ((y : Int) < 2) = false := by rw [decide_eq_false_iff_not]; omega
  obtain ⟨cv, hlook, hcv⟩ := (hM.kept (hb.block _ hM.lt)).look keyed2 Tryd.underlying80 ((x : Int), (y : Int)) (CE.key hW hx hy)
  rw [hm, kv2_at] at hlook
  have e0 := (Lib.cell_of_heap hSW.1.rs 0).trans (show (#[.map (some E.rb)] : Array Value)[0]? = some (.map (some E.rb)) from rfl)
  rw [hWd] at e0 hlook
  have HB := Lib.hid hb
  have HL := Lib.hid hl
  generalize hPost : E.Post x y ns k u w = Post at *
  have HPost := Lib.hid hPost
  generalize hLL : litP E.us E.vs x y = l at *
  have HLL := Lib.hid hLL
  generalize hM1 : litR E.us x = la at *
  have HM1 := Lib.hid hM1
  generalize hM2 : litR E.vs y = lb at *
  have HM2 := Lib.hid hM2
  have HMM := Lib.hid (And.intro hM hm)
  clear hM1 hM2 hLL hPost hS hSW hx hy hln hlk hb hz kn hM hm hcv hc hl hbs hW
  go_enter Tryd.func44, Tryd.ntmps44
  go_wp2_with fail
  rw [← hWd]
  clear hWd hlook e0
  refine wp_region_held_drew (S := fun V => (V.cell? ⟨E.bw, 0, none⟩ = some (.func (.func 44) #[] #[.pointer (some ⟨E.bc, 0, none⟩), .pointer (some ⟨E.brs, 0, none⟩), .pointer (some ⟨E.ba, 0, none⟩), .pointer (some ⟨E.bb, 0, none⟩), .pointer (some ⟨E.bw, 0, none⟩), .pointer (some ⟨E.bd, 0, none⟩)]) ∧ V.cell? ⟨E.ba, 0, none⟩ = some (.slice E.A1 E.us.length E.c1) ∧ V.cell? ⟨E.ba, 1, none⟩ = some (.int .i64 E.r1) ∧ V.cell? ⟨E.bb, 0, none⟩ = some (.slice E.A2 E.vs.length E.c2) ∧ V.cell? ⟨E.bb, 1, none⟩ = some (.int .i64 E.r2) ∧ V.cell? ⟨w.heap.size, 0, none⟩ = some (.int .i64 x) ∧ V.cell? ⟨w.heap.size, 1, none⟩ = some (.int .i64 y))) (by kernel_rfl) (HA.out.old hWW.out (Below.refl _ W).drew).cells (fun _ => ?_)
  have HA0 := Lib.hid (HA.out.old hWW.out (Below.refl _ W).drew)
  have HB0 := Lib.hid ((Below.refl W.heap.size W).drew)
  refine tk 0 (HA0.out.cells) ?_
  try simp only [Act.put, pA, pB, pC]
  refine tk 1 (HA0.out.cells) ?_
  try simp only [Act.put, pA, pB, pC]
  refine tk 2 (HA0.out.cells) ?_
  try simp only [Act.put, pA, pB, pC]
  refine tk 4 (HA0.out.cells) ?_
  try simp only [Act.put, pA, pB, pC]
  refine tk 5 (HA0.out.cells) ?_
  try simp only [Act.put, pA, pB, pC]
  refine tk 6 (HA0.out.cells) ?_
  try simp only [Act.put, pA, pB, pC]
  refine one_op 3 (by kernel_rfl) rfl (by rfl) (fun K hK => ?_)
  go_simp
  refine (hLi.out _ HA0.out).1.mono ?_
  rintro e V1 ⟨rfl, hb1⟩
  have HA1 := Lib.hid (HA0.out.old hWW.out hb1)
  have HB1 := Lib.hid (HB0.out.trans (hb1.mono HB0.out.size))
  clear hb1
  refine hK _ _ HA1.out.cells ?_
  try simp only [Act.put, pA, pB, pC]
  clear hK K
  refine one_op 7 (by kernel_rfl) rfl (by rfl) (fun K hK => ?_)
  go_simp
  refine (hLi.out _ HA1.out).2.mono ?_
  rintro e V2 ⟨rfl, hb2⟩
  have HA2 := Lib.hid (HA1.out.old hWW.out hb2)
  have HB2 := Lib.hid (HB1.out.trans (hb2.mono HB1.out.size))
  clear hb2
  refine hK _ _ HA2.out.cells ?_
  try simp only [Act.put, pA, pB, pC]
  clear hK K
  refine tk 8 (HA2.out.cells) ?_
  try simp only [Act.put, pA, pB, pC]
  refine tk 9 (HA2.out.cells) ?_
  try simp only [Act.put, pA, pB, pC]
  refine wpAnyH_done (by kernel_rfl) ?_ _
  have HA3 := Lib.hid (HA2.out.old hWW.out (Below.refl _ V2).drew)
  have HB3 := Lib.hid HB2.out.drew
  clear HA0 HA1 HB0 HB1 HA2 HB2 hmin2
  try rw [hmin]
  clear hmin
  go_wp2_with fail
  refine wp_region_held_drew (S := fun V => (V.cell? ⟨E.bw, 0, none⟩ = some (.func (.func 44) #[] #[.pointer (some ⟨E.bc, 0, none⟩), .pointer (some ⟨E.brs, 0, none⟩), .pointer (some ⟨E.ba, 0, none⟩), .pointer (some ⟨E.bb, 0, none⟩), .pointer (some ⟨E.bw, 0, none⟩), .pointer (some ⟨E.bd, 0, none⟩)]) ∧ V.cell? ⟨E.ba, 0, none⟩ = some (.slice E.A1 E.us.length E.c1) ∧ V.cell? ⟨E.ba, 1, none⟩ = some (.int .i64 E.r1) ∧ V.cell? ⟨E.bb, 0, none⟩ = some (.slice E.A2 E.vs.length E.c2) ∧ V.cell? ⟨E.bb, 1, none⟩ = some (.int .i64 E.r2) ∧ V.cell? ⟨w.heap.size, 0, none⟩ = some (.int .i64 x) ∧ V.cell? ⟨w.heap.size, 1, none⟩ = some (.int .i64 y))) (by kernel_rfl) HA3.out.cells (fun _ => ?_)
  refine tk 0 (HA3.out.cells) ?_
  try simp only [Act.put, pA, pB, pC]
  refine tk 1 (HA3.out.cells) ?_
  try simp only [Act.put, pA, pB, pC]
  refine tk 2 (HA3.out.cells) ?_
  try simp only [Act.put, pA, pB, pC]
  refine tk 3 (HA3.out.cells) ?_
  try simp only [Act.put, pA, pB, pC]
  refine tk 4 (HA3.out.cells) ?_
  try simp only [Act.put, pA, pB, pC]
  refine tk 6 (HA3.out.cells) ?_
  try simp only [Act.put, pA, pB, pC]
  refine tk 7 (HA3.out.cells) ?_
  try simp only [Act.put, pA, pB, pC]
  refine tk 8 (HA3.out.cells) ?_
  try simp only [Act.put, pA, pB, pC]
  refine tk 9 (HA3.out.cells) ?_
  try simp only [Act.put, pA, pB, pC]
  refine one_op 5 (by kernel_rfl) rfl (by rfl) (fun K hK => ?_)
  go_simp
  refine (hfT.out _ HA3.out).1.mono ?_
  rintro e V3 ⟨rfl, hb3⟩
  have HA4 := Lib.hid (HA3.out.old hWW.out hb3)
  have HB4 := Lib.hid (HB3.out.trans (hb3.mono HB3.out.size))
  clear hb3
  refine hK _ _ HA4.out.cells ?_
  try simp only [Act.put, pA, pB, pC]
  clear hK K
  refine one_op 10 (by kernel_rfl) rfl (by rfl) (fun K hK => ?_)
  go_simp
  refine (hfT.out _ HA4.out).2.mono ?_
  rintro e V4 ⟨rfl, hb4⟩
  have HA5 := Lib.hid (HA4.out.old hWW.out hb4)
  have HB5 := Lib.hid (HB4.out.trans (hb4.mono HB4.out.size))
  clear hb4
  refine hK _ _ HA5.out.cells ?_
  try simp only [Act.put, pA, pB, pC]
  clear hK K
  refine tk 11 (HA5.out.cells) ?_
  try simp only [Act.put, pA, pB, pC]
  refine one_op 12 (by kernel_rfl) rfl (by rfl) (fun K hK => ?_)
  go_simp
  refine (HT.out V4 (HSW.out.old hWW.out HB5.out)).mono ?_
  rintro e V5 ⟨rfl, ⟨k1, u1, hS1, hk1, hn1⟩, hK1⟩
  have HC1 := Lib.hid (((CE.Acc.refl E W u).old HB5.out).step hK1 hn1)
  have HA6 := Lib.hid (HA5.out.ke hWW.out hK1 HX.out (fun g hg => ⟨(HSW.out.own g hg).1, HU.out u (.inl rfl) g hg⟩))
  have HS1 := Lib.hid (And.intro hS1 hk1)
  clear hS1 hk1 hn1 hK1
  refine hK _ _ HA6.out.cells ?_
  try simp only [Act.put, pA, pB, pC]
  clear hK K
  refine tk 13 (HA6.out.cells) ?_
  try simp only [Act.put, pA, pB, pC]
  refine wpAnyH_done (by kernel_rfl) ?_ _
  have HA7 := Lib.hid (HA6.out.old hWW.out (Below.refl _ V5).drew)
  have HB7 := Lib.hid ((Below.refl V5.heap.size V5).drew)
  clear HA3 HA4 HA5 HA6 HB3 HB4 HB5
  go_wp2_with fail
  refine wp_region_held_drew (S := fun V => (V.cell? ⟨E.bw, 0, none⟩ = some (.func (.func 44) #[] #[.pointer (some ⟨E.bc, 0, none⟩), .pointer (some ⟨E.brs, 0, none⟩), .pointer (some ⟨E.ba, 0, none⟩), .pointer (some ⟨E.bb, 0, none⟩), .pointer (some ⟨E.bw, 0, none⟩), .pointer (some ⟨E.bd, 0, none⟩)]) ∧ V.cell? ⟨E.ba, 0, none⟩ = some (.slice E.A1 E.us.length E.c1) ∧ V.cell? ⟨E.ba, 1, none⟩ = some (.int .i64 E.r1) ∧ V.cell? ⟨E.bb, 0, none⟩ = some (.slice E.A2 E.vs.length E.c2) ∧ V.cell? ⟨E.bb, 1, none⟩ = some (.int .i64 E.r2) ∧ V.cell? ⟨w.heap.size, 0, none⟩ = some (.int .i64 x) ∧ V.cell? ⟨w.heap.size, 1, none⟩ = some (.int .i64 y))) (by kernel_rfl) HA7.out.cells (fun _ => ?_)
  refine tk 0 (HA7.out.cells) ?_
  try simp only [Act.put, pA, pB, pC]
  refine tk 1 (HA7.out.cells) ?_
  try simp only [Act.put, pA, pB, pC]
  refine tk 2 (HA7.out.cells) ?_
  try simp only [Act.put, pA, pB, pC]
  refine tk 3 (HA7.out.cells) ?_
  try simp only [Act.put, pA, pB, pC]
  refine tk 4 (HA7.out.cells) ?_
  try simp only [Act.put, pA, pB, pC]
  refine tk 6 (HA7.out.cells) ?_
  try simp only [Act.put, pA, pB, pC]
  refine tk 7 (HA7.out.cells) ?_
  try simp only [Act.put, pA, pB, pC]
  refine tk 8 (HA7.out.cells) ?_
  try simp only [Act.put, pA, pB, pC]
  refine tk 9 (HA7.out.cells) ?_
  try simp only [Act.put, pA, pB, pC]
  refine one_op 5 (by kernel_rfl) rfl (by rfl) (fun K hK => ?_)
  go_simp
  refine (hfF.out _ HA7.out).1.mono ?_
  rintro e V6 ⟨rfl, hb6⟩
  have HA8 := Lib.hid (HA7.out.old hWW.out hb6)
  have HB8 := Lib.hid (HB7.out.trans (hb6.mono HB7.out.size))
  clear hb6
  refine hK _ _ HA8.out.cells ?_
  try simp only [Act.put, pA, pB, pC]
  clear hK K
  refine one_op 10 (by kernel_rfl) rfl (by rfl) (fun K hK => ?_)
  go_simp
  refine (hfF.out _ HA8.out).2.mono ?_
  rintro e V7 ⟨rfl, hb7⟩
  have HA9 := Lib.hid (HA8.out.old hWW.out hb7)
  have HB9 := Lib.hid (HB8.out.trans (hb7.mono HB8.out.size))
  clear hb7
  refine hK _ _ HA9.out.cells ?_
  try simp only [Act.put, pA, pB, pC]
  clear hK K
  refine tk 11 (HA9.out.cells) ?_
  try simp only [Act.put, pA, pB, pC]
  refine one_op 12 (by kernel_rfl) rfl (by rfl) (fun K hK => ?_)
  go_simp
  refine (HF.out V7 k1 u1 (HS1.out.1.old hWW.out HB9.out) HS1.out.2).mono ?_
  rintro e V8 ⟨rfl, ⟨k2, u2, hS2, hk2, hn2⟩, hK2⟩
  have HC2 := Lib.hid ((HC1.out.old HB9.out).step hK2 hn2)
  have HA10 := Lib.hid (HA9.out.ke hWW.out hK2 HX.out (fun g hg => ⟨(HS1.out.1.own g hg).1, HU.out u1 HC1.out.2.1 g hg⟩))
  have HS2 := Lib.hid (And.intro hS2 hk2)
  clear hS2 hk2 hn2 hK2
  refine hK _ _ HA10.out.cells ?_
  try simp only [Act.put, pA, pB, pC]
  clear hK K
  refine tk 13 (HA10.out.cells) ?_
  try simp only [Act.put, pA, pB, pC]
  refine wpAnyH_done (by kernel_rfl) ?_ _
  clear HA7 HA8 HA9 HB7 HB8 HB9
  have x0 := (Lib.cell_of_heap HA10.out.1.d 0).trans (show (#[.pointer (some ⟨E.p, 0, none⟩)] : Array Value)[0]? = some (.pointer (some ⟨E.p, 0, none⟩)) from rfl)
  go_wp2_with fail
  refine (reference_any E.p E.q E.base n2 l r1 r2 V8 u2 HS2.out.1.2.1 HN.out.2.1 HL.out HN.out.2.2.1 HN.out.2.2.2.1 (by have := HN.out.2.2.2.2.1; omega)).mono ?_
  rintro e V9 ⟨rfl, u3, hB3, hn3, hK3⟩
  obtain ⟨hBox, hK9, V10, hrun, hS10, hK10⟩ := CE.last hWW.out HXY.out.1 HXY.out.2 HN.out.2.2.2.2.2.2.2.2 HN.out.1 HN.out.2.2.2.2.1 HS2.out.1 (by have := HN.out.2.2.2.2.2.2.2.1; have := HS2.out.2; have := HS1.out.2; omega) hB3 hK3
  have HC3 := Lib.hid ((HC2.out.step hK9 hn3).step hK10 (.inl rfl))
  have HA11 := Lib.hid (HA10.out.ke hWW.out hK9 HX.out (fun g hg => ⟨(HS2.out.1.own g hg).1, HU.out u2 HC2.out.2.1 g hg⟩))
  have HS10 := Lib.hid hS10
  clear x0 hB3 hn3 hK3 hBox hK9 hS10 hK10
  have x1 := (Lib.cell_of_heap HA11.out.1.rs 0).trans (show (#[.map (some E.rb)] : Array Value)[0]? = some (.map (some E.rb)) from rfl)
  obtain ⟨x2, x3⟩ := cells2 HA11.out.2.1
  generalize hr3 : (mkN n2 l r1 r2).2 = r3 at *
  have HR3 := Lib.hid hr3
  clear hr3
  go_wp2
  rw [← HPost.out]
  unfold CE.Post
  rw [HN.out.1, HR3.out]
  have hHB := HB.out
  refine ⟨rfl, ⟨k2 + 1, u3, HS10.out, by have := HN.out.2.2.2.2.2.1; have := HS2.out.2; have := HS1.out.2; rw [HLL.out]; omega, HC3.out.2.1.trans (.inl rfl) (by exact Nat.le_refl _) |>.elim .inl (fun h => .inr fun g e => Nat.le_trans hHB.size (h g e))⟩, (Ke.of hHB).nxt HC3.out.1 (.inl rfl) hHB.size⟩
/-- walk: the reference of the pair's function, its nodes added -/
theorem walkC_any (E : CE) (hW : E.Wf) (hch : Hid (∀ (x y : Bool) (w : World), Calls Tryd.prog E.fch #[.bool x, .bool y] w fun e w' => e = .returned (.bool (E.ch x y)) ∧ w = w')) (ech : ∀ args w, (callFunc E.fch args).run Tryd.prog w = .ok (.enter E.fch args) w) :
    ∀ (N x y : Nat) (ns : List Nd) (k : Nat) (u : Option Nat) (w : World), 12 - litP E.us E.vs x y < N → E.Pre x y ns k u w → Calls Tryd.prog 44 #[.agg #[.int .i64 x, .int .i64 y], .pointer (some ⟨E.bc, 0, none⟩), .pointer (some ⟨E.brs, 0, none⟩), .pointer (some ⟨E.ba, 0, none⟩), .pointer (some ⟨E.bb, 0, none⟩), .pointer (some ⟨E.bw, 0, none⟩), .pointer (some ⟨E.bd, 0, none⟩)] w (E.Post x y ns k u w)
  | 0, _, _, _, _, _, _, h, _ => absurd h (by omega)
  | N + 1, x, y, ns, k, u, w, hN, hP => by
    by_cases hc : x < 2 ∧ y < 2
    · exact walkC_const E hW hch ech x y ns k u w hP hc
    · obtain ⟨m, hM, hR⟩ := hP.2.2.1.2.2.2
      have hl : litP E.us E.vs x y < 12 := litP_lt hW.ou hW.ov hP.1 hP.2.1 hc
      cases hm : m ((x : Int), (y : Int)) with
      | some v =>
        obtain ⟨a, b, r, h1, h2, h3, h4⟩ := hR _ _ hm
        injection h1 with e1 e2
        have ea : x = a := by omega
        have eb : y = b := by omega
        subst ea eb h2
        by_cases hx : x < 2
        · exact walkC_hitB E hW x y ns k u w hP ⟨hx, by omega⟩ r h3 h4 m hM hm
        · exact walkC_hitA E hW x y ns k u w hP (by omega) r h3 h4 m hM hm
      | none =>
        have IH : Hid (∀ (x' y' : Nat) (ns' : List Nd) (k' : Nat) (u' : Option Nat) (w' : World), litP E.us E.vs x y < litP E.us E.vs x' y' → E.Pre x' y' ns' k' u' w' → Calls Tryd.prog 44 #[.agg #[.int .i64 x', .int .i64 y'], .pointer (some ⟨E.bc, 0, none⟩), .pointer (some ⟨E.brs, 0, none⟩), .pointer (some ⟨E.ba, 0, none⟩), .pointer (some ⟨E.bb, 0, none⟩), .pointer (some ⟨E.bw, 0, none⟩), .pointer (some ⟨E.bd, 0, none⟩)] w' (E.Post x' y' ns' k' u' w')) :=
          Lib.hid fun x' y' ns' k' u' w' h hp => walkC_any E hW hch ech N x' y' ns' k' u' w' (by omega) hp
        by_cases hx : x < 2
        · exact walkC_missB E hW x y ns k u w hP ⟨hx, by omega⟩ m hM hm IH
        · exact walkC_missA E hW x y ns k u w hP (by omega) m hM hm IH
end Go.Proofs.YtplmbmecjhmiiaaDoor
