/- The walk of Paths: the paths from a reference to true, behind two prefixes. -/
import Derived.Test.YtplmbmecjhmiiaaDoorAppR6
import Derived.Test.YtplmbmecjhmiiaaDoorComb6
import Derived.Test.YtplmbmecjhmiiaaDoorCombA6
namespace Go.Proofs.YtplmbmecjhmiiaaDoor
open Go Go.RowKit Go.Maps
/-- the paths from reference r to true, High first -/
def pth (ns : List Nd) : Nat → Nat → List Int → List Int → List (List Int × List Int)
  | 0, _, _, _ => []
  | N + 1, r, p, q => if r = 0 then [] else if r = 1 then [(p, q)] else match ns[r - 2]? with
    | none => []
    | some n => pth ns N n.h (p ++ [(n.l : Int)]) q ++ pth ns N n.o p (q ++ [(n.l : Int)])
theorem pth_node {ns : List Nd} {i : Nat} {n : Nd} (hn : ns[i]? = some n) (N : Nat) (p q : List Int) : pth ns (N + 1) (i + 2) p q = pth ns N n.h (p ++ [(n.l : Int)]) q ++ pth ns N n.o p (q ++ [(n.l : Int)]) := by
  rw [pth, if_neg (by omega), if_neg (by omega), show i + 2 - 2 = i by omega, hn]
theorem pth_zero (ns : List Nd) (N : Nat) (p q : List Int) : pth ns N 0 p q = [] := by
  cases N <;> simp [pth]
theorem pth_one (ns : List Nd) (N : Nat) (p q : List Int) : pth ns (N + 1) 1 p q = [(p, q)] := by simp [pth]
theorem pth_len {ns : List Nd} (hO : Ord ns) : ∀ (N r : Nat) (p q : List Int), r < ns.length + 2 → (pth ns N r p q).length ≤ 2 ^ (12 - litR ns r)
  | 0, _, _, _, _ => by simp [pth]
  | N + 1, r, p, q, hr => by
    by_cases h0 : r = 0
    · subst h0; rw [pth_zero]; simp
    by_cases h1 : r = 1
    · subst h1; rw [pth_one]; exact Nat.one_le_two_pow
    obtain ⟨i, rfl⟩ : ∃ i, r = i + 2 := ⟨r - 2, by omega⟩
    have hi : i < ns.length := by omega
    have hn : ns[i]? = some ns[i] := List.getElem?_eq_getElem hi
    generalize ns[i] = n at hn
    obtain ⟨o1, o2, o3, o4, o5⟩ := hO i n hn
    rw [pth_node hn, List.length_append, litR_node hn]
    have a := pth_len hO N n.h (p ++ [(n.l : Int)]) q (by omega)
    have b := pth_len hO N n.o p (q ++ [(n.l : Int)]) (by omega)
    have ta : 2 ^ (12 - litR ns n.h) ≤ 2 ^ (11 - n.l) := Nat.pow_le_pow_right (by omega) (by omega)
    have tb : 2 ^ (12 - litR ns n.o) ≤ 2 ^ (11 - n.l) := Nat.pow_le_pow_right (by omega) (by omega)
    rw [show 12 - n.l = (11 - n.l) + 1 by omega, Nat.pow_succ]
    omega
/-- where Paths' variables lie, and what they hold -/
structure PE where
  bp : Nat
  bq : Nat
  bn : Nat
  ba : Nat
  bw : Nat
  base : Nat
  H0 : Nat
  A1 : Option Addr
  c1 : Nat
  r1 : Int
  us : List Nd
def PE.X (E : PE) : Nat → Prop := fun b => b = E.bp ∨ b = E.bq ∨ b = E.bn
structure PE.Wf (E : PE) : Prop where
  lt : E.bp < E.base ∧ E.bq < E.base ∧ E.bn < E.base ∧ E.ba < E.base ∧ E.bw < E.base
  nx : ¬ E.X E.ba ∧ ¬ E.X E.bw
  ne : E.bp ≠ E.bq ∧ E.bp ≠ E.bn ∧ E.bq ≠ E.bn
  low : E.H0 ≤ E.bp ∧ E.H0 ≤ E.bq ∧ E.H0 ≤ E.bn ∧ E.H0 ≤ E.base
  ou : Ord E.us
  len : E.us.length ≤ 100000
structure PE.Box (E : PE) (w : World) : Prop where
  a : w.heap[E.ba]? = some (.cells #[.slice E.A1 E.us.length E.c1, .int .i64 E.r1] 29 (0, 0))
  fw : w.heap[E.bw]? = some (.cells #[.func (.func 27) #[] #[.pointer (some ⟨E.bp, 0, none⟩), .pointer (some ⟨E.bq, 0, none⟩), .pointer (some ⟨E.bn, 0, none⟩), .pointer (some ⟨E.ba, 0, none⟩), .pointer (some ⟨E.bw, 0, none⟩)]] 57 (0, 0))
  ru : NdR w (fun b => b < E.H0) E.A1 E.us.length E.c1 (E.us.map ni)
theorem PE.Wf.below {E : PE} (hW : E.Wf) : ∀ b, b < E.H0 → b < E.base ∧ ¬ E.X b := fun b hb => by
  obtain ⟨h1, h2, h3, h4⟩ := hW.low
  exact ⟨by omega, fun hx => by rcases hx with hx | hx | hx <;> omega⟩
theorem PE.Box.keep {E : PE} (hW : E.Wf) {w w' : World} (h : E.Box w) (hk : Ke E.base E.X w w') : E.Box w' := by
  obtain ⟨_, _, _, l4, l5⟩ := hW.lt
  obtain ⟨n1, n2⟩ := hW.nx
  exact ⟨(hk.block _ l4 n1).trans h.a, (hk.block _ l5 n2).trans h.fw, h.ru.keepX hk hW.below⟩
def Dis (u v : Option Nat) : Prop := ∀ g, u = some g → v ≠ some g
/-- the three lists -/
structure PE.St (E : PE) (w : World) (p q : List Int) (ps : List (List Int × List Int)) (u1 u2 u3 : Option Nat) (vp vq vs : Value) : Prop where
  box : E.Box w
  kp : w.heap[E.bq]? = some (.cells #[vp] 24 (0, 0))
  kq : w.heap[E.bn]? = some (.cells #[vq] 24 (0, 0))
  ks : w.heap[E.bp]? = some (.cells #[vs] 22 (0, 0))
  op : OwnI w E.base vp p
  oq : OwnI w E.base vq q
  os : OwnP (fun b => some b = u1 ∨ some b = u2) w E.base vs ps
  e1 : vp.ownBlock = u1
  e2 : vq.ownBlock = u2
  e3 : vs.ownBlock = u3
  base : E.base ≤ w.heap.size
  d12 : Dis u1 u2
  d13 : Dis u1 u3
  d23 : Dis u2 u3
def PE.O (E : PE) (u1 u2 u3 : Option Nat) : Nat → Prop := fun b => E.X b ∨ some b = u1 ∨ some b = u2 ∨ some b = u3
theorem PE.St.own {E : PE} {w : World} {p q : List Int} {ps : List (List Int × List Int)} {u1 u2 u3 : Option Nat} {vp vq vs : Value} (h : E.St w p q ps u1 u2 u3 vp vq vs) : ∀ g, (some g = u1 ∨ some g = u2 ∨ some g = u3) → E.base ≤ g ∧ g < w.heap.size := fun g hg => by
  rcases hg with hg | hg | hg
  · exact own_same h.op g (h.e1.trans hg.symm)
  · exact own_same h.oq g (h.e2.trans hg.symm)
  · exact own_same h.os g (h.e3.trans hg.symm)
theorem PE.St.old {E : PE} (hW : E.Wf) {w w' : World} {p q : List Int} {ps : List (List Int × List Int)} {u1 u2 u3 : Option Nat} {vp vq vs : Value} (h : E.St w p q ps u1 u2 u3 vp vq vs) (hb : Below w.heap.size w w') : E.St w' p q ps u1 u2 u3 vp vq vs := by
  have hbs := h.base
  obtain ⟨l1, l2, l3, _, _⟩ := hW.lt
  exact ⟨h.box.keep hW (Ke.of (hb.mono hbs)), (hb.block _ (by omega)).trans h.kp, (hb.block _ (by omega)).trans h.kq, (hb.block _ (by omega)).trans h.ks, h.op.old hb, h.oq.old hb, h.os.old hb, h.e1, h.e2, h.e3, Nat.le_trans hbs hb.size, h.d12, h.d13, h.d23⟩
/-- behind an append to the first list and its store -/
theorem PE.St.push1 {E : PE} (hW : E.Wf) {w w1 : World} {p q : List Int} {ps : List (List Int × List Int)} {u1 u2 u3 : Option Nat} {vp vq vs v' : Value} {x : Int} {g : Nat} (h : E.St w p q ps u1 u2 u3 vp vq vs) (hv : v'.ownBlock = some g)
    (hO : OwnI w1 E.base v' (p ++ [x])) (hb : Below E.base w w1) (hk : ∀ b, b < w.heap.size → some b ≠ vp.ownBlock → w1.heap[b]? = w.heap[b]?) (hg : vp.ownBlock = some g ∨ w.heap.size ≤ g) :
    E.St (w1.setCell ⟨E.bq, 0, none⟩ v') (p ++ [x]) q ps (some g) u2 u3 v' vq vs ∧ Nxt w.heap.size u1 (some g) ∧ Ke w.heap.size (E.O u1 u2 u3) w (w1.setCell ⟨E.bq, 0, none⟩ v') := by
  obtain ⟨l1, l2, l3, l4, l5⟩ := hW.lt
  obtain ⟨n1, n2, n3⟩ := hW.ne
  have hbs := h.base
  have hsz := hb.size
  rw [h.e1] at hk hg
  have own := h.own
  have hoth : ∀ b, b ≠ E.bq → (w1.setCell ⟨E.bq, 0, none⟩ v').heap[b]? = w1.heap[b]? := fun b hb => heap_setCell_other _ _ _ _ hb
  have hkk : ∀ b, b < w.heap.size → some b ≠ u1 → b ≠ E.bq → (w1.setCell ⟨E.bq, 0, none⟩ v').heap[b]? = w.heap[b]? := fun b h1 h2 h3 => (hoth b h3).trans (hk b h1 h2)
  have nb : ∀ b, b < E.base → some b ≠ u1 := fun b hb e => by have := (own b (.inl e)).1; omega
  have hd : ∀ v, (∀ g', v = some g' → E.base ≤ g' ∧ g' < w.heap.size) → Dis u1 v → Dis (some g) v := fun v ho hd g' e e2 => by
    injection e with e
    subst e
    rcases hg with hg | hg
    · exact hd g hg e2
    · have := (ho g e2).2; omega
  refine ⟨⟨h.box.keep hW ⟨(hb.mono (Nat.zero_le _)).setCell (p := ⟨E.bq, 0, none⟩) (Nat.zero_le _) _, fun b hb hx => hkk b (by omega) (nb b hb) fun e => hx (.inr (.inl e))⟩, ?_, (hkk _ (by omega) (nb _ l3) (Ne.symm n3)).trans h.kq, (hkk _ (by omega) (nb _ l1) n1).trans h.ks, ?_, ?_, ?_, hv, h.e2, h.e3, by simp; omega, hd u2 (fun g' e => own g' (.inr (.inl e.symm))) h.d12, hd u3 (fun g' e => own g' (.inr (.inr e.symm))) h.d13, h.d23⟩, ?_, ⟨(hb.mono (Nat.zero_le _)).setCell (p := ⟨E.bq, 0, none⟩) (Nat.zero_le _) _, fun b hb hx => hkk b hb (fun e => hx (.inr (.inl e))) fun e => hx (.inl (.inr (.inl e)))⟩⟩
  · have := (hk _ (by omega) (nb _ l2)).trans h.kp
    simpa using heap_setCell_same _ _ 0 _ _ v' this
  · exact hO.kept1 (by simp) fun g' e => hoth g' fun e2 => by have := (own_same hO g' e).1; omega
  · exact h.oq.kept1 (by simp; omega) fun g' e => hkk g' (own_same h.oq g' e).2 (fun e2 => h.d12 g' e2.symm (h.e2 ▸ e)) (by have := (own_same h.oq g' e).1; omega)
  · refine h.os.kept1 (by simp; omega) (fun g' e => hkk g' (own_same h.os g' e).2 (fun e2 => h.d13 g' e2.symm (h.e3 ▸ e)) (by have := (own_same h.os g' e).1; omega)) (fun b h1 h2 h3 _ => hkk b h2 (fun e => h3 (.inl e)) (by omega)) fun b hb hx => ?_
    rcases hx with hx | hx
    · injection hx with hx
      rcases hg with hg | hg
      · exact .inl (by rw [hg, hx])
      · omega
    · exact .inr hx
  · rcases hg with hg | hg
    · exact .inl hg.symm
    · exact .inr fun g' e => by injection e with e; omega
/-- behind the store of the first list without its last -/
theorem PE.St.pop1 {E : PE} (hW : E.Wf) {w : World} {p q : List Int} {x : Int} {ps : List (List Int × List Int)} {u1 u2 u3 : Option Nat} {vp vq vs v' : Value} (h : E.St w (p ++ [x]) q ps u1 u2 u3 vp vq vs) (hv : v'.ownBlock = u1) (hO : OwnI w E.base v' p) :
    E.St (w.setCell ⟨E.bq, 0, none⟩ v') p q ps u1 u2 u3 v' vq vs ∧ Ke w.heap.size (E.O u1 u2 u3) w (w.setCell ⟨E.bq, 0, none⟩ v') := by
  obtain ⟨l1, l2, l3, l4, l5⟩ := hW.lt
  obtain ⟨n1, n2, n3⟩ := hW.ne
  have hbs := h.base
  have hkk : ∀ b, b ≠ E.bq → (w.setCell ⟨E.bq, 0, none⟩ v').heap[b]? = w.heap[b]? := fun b hb => heap_setCell_other _ _ _ _ hb
  refine ⟨⟨h.box.keep hW ((Ke.refl _ _ _).set (.inl (.inr (.inl rfl)))), by simpa using heap_setCell_same _ _ 0 _ _ v' h.kp, (hkk _ (Ne.symm n3)).trans h.kq, (hkk _ n1).trans h.ks, ?_, ?_, ?_, hv, h.e2, h.e3, by simpa using hbs, h.d12, h.d13, h.d23⟩, (Ke.refl _ _ _).set (.inl (.inl (.inr (.inl rfl))))⟩
  · exact hO.kept1 (by simp) fun g' e => hkk g' (by have := (own_same hO g' e).1; omega)
  · exact h.oq.kept1 (by simp) fun g' e => hkk g' (by have := (own_same h.oq g' e).1; omega)
  · exact h.os.kept1 (by simp) (fun g' e => hkk g' (by have := (own_same h.os g' e).1; omega)) (fun b h1 _ _ _ => hkk b (by omega)) fun b _ hx => hx
/-- behind an append of a path and its store -/
theorem PE.St.push3 {E : PE} (hW : E.Wf) {w w1 : World} {p q : List Int} {ps : List (List Int × List Int)} {u1 u2 u3 : Option Nat} {vp vq vs v' : Value} {x : List Int × List Int} {g : Nat} (h : E.St w p q ps u1 u2 u3 vp vq vs) (hv : v'.ownBlock = some g)
    (hO : OwnP (fun b => some b = u1 ∨ some b = u2) w1 E.base v' (ps ++ [x])) (hb : Below E.base w w1) (hk : ∀ b, b < w.heap.size → some b ≠ vs.ownBlock → w1.heap[b]? = w.heap[b]?) (hg : vs.ownBlock = some g ∨ w.heap.size ≤ g) :
    E.St (w1.setCell ⟨E.bp, 0, none⟩ v') p q (ps ++ [x]) u1 u2 (some g) vp vq v' ∧ Nxt w.heap.size u3 (some g) ∧ Ke w.heap.size (E.O u1 u2 u3) w (w1.setCell ⟨E.bp, 0, none⟩ v') := by
  obtain ⟨l1, l2, l3, l4, l5⟩ := hW.lt
  obtain ⟨n1, n2, n3⟩ := hW.ne
  have hbs := h.base
  have hsz := hb.size
  rw [h.e3] at hk hg
  have own := h.own
  have hoth : ∀ b, b ≠ E.bp → (w1.setCell ⟨E.bp, 0, none⟩ v').heap[b]? = w1.heap[b]? := fun b hb => heap_setCell_other _ _ _ _ hb
  have hkk : ∀ b, b < w.heap.size → some b ≠ u3 → b ≠ E.bp → (w1.setCell ⟨E.bp, 0, none⟩ v').heap[b]? = w.heap[b]? := fun b h1 h2 h3 => (hoth b h3).trans (hk b h1 h2)
  have nb : ∀ b, b < E.base → some b ≠ u3 := fun b hb e => by have := (own b (.inr (.inr e))).1; omega
  have hd : ∀ v, (∀ g', v = some g' → E.base ≤ g' ∧ g' < w.heap.size) → Dis v u3 → Dis v (some g) := fun v ho hd g' e e2 => by
    injection e2 with e2
    subst e2
    rcases hg with hg | hg
    · exact hd g e hg
    · have := (ho g e).2; omega
  refine ⟨⟨h.box.keep hW ⟨(hb.mono (Nat.zero_le _)).setCell (p := ⟨E.bp, 0, none⟩) (Nat.zero_le _) _, fun b hb hx => hkk b (by omega) (nb b hb) fun e => hx (.inl e)⟩, (hkk _ (by omega) (nb _ l2) (Ne.symm n1)).trans h.kp, (hkk _ (by omega) (nb _ l3) (Ne.symm n2)).trans h.kq, ?_, ?_, ?_, ?_, h.e1, h.e2, hv, by simp; omega, h.d12, hd u1 (fun g' e => own g' (.inl e.symm)) h.d13, hd u2 (fun g' e => own g' (.inr (.inl e.symm))) h.d23⟩, ?_, ⟨(hb.mono (Nat.zero_le _)).setCell (p := ⟨E.bp, 0, none⟩) (Nat.zero_le _) _, fun b hb hx => hkk b hb (fun e => hx (.inr (.inr (.inr e)))) fun e => hx (.inl (.inl e))⟩⟩
  · have := (hk _ (by omega) (nb _ l1)).trans h.ks
    simpa using heap_setCell_same _ _ 0 _ _ v' this
  · exact h.op.kept1 (by simp; omega) fun g' e => hkk g' (own_same h.op g' e).2 (fun e2 => h.d13 g' (h.e1 ▸ e) e2.symm) (by have := (own_same h.op g' e).1; omega)
  · exact h.oq.kept1 (by simp; omega) fun g' e => hkk g' (own_same h.oq g' e).2 (fun e2 => h.d23 g' (h.e2 ▸ e) e2.symm) (by have := (own_same h.oq g' e).1; omega)
  · exact hO.kept1 (by simp) (fun g' e => hoth g' (by have := (own_same hO g' e).1; omega)) (fun b h1 _ _ _ => hoth b (by omega)) fun b _ hx => hx
  · rcases hg with hg | hg
    · exact .inl hg.symm
    · exact .inr fun g' e => by injection e with e; omega
/-- behind an append to the second list and its store -/
theorem PE.St.push2 {E : PE} (hW : E.Wf) {w w1 : World} {p q : List Int} {ps : List (List Int × List Int)} {u1 u2 u3 : Option Nat} {vp vq vs v' : Value} {x : Int} {g : Nat} (h : E.St w p q ps u1 u2 u3 vp vq vs) (hv : v'.ownBlock = some g)
    (hO : OwnI w1 E.base v' (q ++ [x])) (hb : Below E.base w w1) (hk : ∀ b, b < w.heap.size → some b ≠ vq.ownBlock → w1.heap[b]? = w.heap[b]?) (hg : vq.ownBlock = some g ∨ w.heap.size ≤ g) :
    E.St (w1.setCell ⟨E.bn, 0, none⟩ v') p (q ++ [x]) ps u1 (some g) u3 vp v' vs ∧ Nxt w.heap.size u2 (some g) ∧ Ke w.heap.size (E.O u1 u2 u3) w (w1.setCell ⟨E.bn, 0, none⟩ v') := by
  obtain ⟨l1, l2, l3, l4, l5⟩ := hW.lt
  obtain ⟨n1, n2, n3⟩ := hW.ne
  have hbs := h.base
  have hsz := hb.size
  rw [h.e2] at hk hg
  have own := h.own
  have hoth : ∀ b, b ≠ E.bn → (w1.setCell ⟨E.bn, 0, none⟩ v').heap[b]? = w1.heap[b]? := fun b hb => heap_setCell_other _ _ _ _ hb
  have hkk : ∀ b, b < w.heap.size → some b ≠ u2 → b ≠ E.bn → (w1.setCell ⟨E.bn, 0, none⟩ v').heap[b]? = w.heap[b]? := fun b h1 h2 h3 => (hoth b h3).trans (hk b h1 h2)
  have nb : ∀ b, b < E.base → some b ≠ u2 := fun b hb e => by have := (own b (.inr (.inl e))).1; omega
  have hd1 : Dis u1 (some g) := fun g' e e2 => by
    injection e2 with e2
    subst e2
    rcases hg with hg | hg
    · exact h.d12 g e hg
    · have := (own g (.inl e.symm)).2; omega
  have hd3 : Dis (some g) u3 := fun g' e e2 => by
    injection e with e
    subst e
    rcases hg with hg | hg
    · exact h.d23 g hg e2
    · have := (own g (.inr (.inr e2.symm))).2; omega
  refine ⟨⟨h.box.keep hW ⟨(hb.mono (Nat.zero_le _)).setCell (p := ⟨E.bn, 0, none⟩) (Nat.zero_le _) _, fun b hb hx => hkk b (by omega) (nb b hb) fun e => hx (.inr (.inr e))⟩, (hkk _ (by omega) (nb _ l2) n3).trans h.kp, ?_, (hkk _ (by omega) (nb _ l1) n2).trans h.ks, ?_, ?_, ?_, h.e1, hv, h.e3, by simp; omega, hd1, h.d13, hd3⟩, ?_, ⟨(hb.mono (Nat.zero_le _)).setCell (p := ⟨E.bn, 0, none⟩) (Nat.zero_le _) _, fun b hb hx => hkk b hb (fun e => hx (.inr (.inr (.inl e)))) fun e => hx (.inl (.inr (.inr e)))⟩⟩
  · have := (hk _ (by omega) (nb _ l3)).trans h.kq
    simpa using heap_setCell_same _ _ 0 _ _ v' this
  · exact h.op.kept1 (by simp; omega) fun g' e => hkk g' (own_same h.op g' e).2 (fun e2 => h.d12 g' (h.e1 ▸ e) e2.symm) (by have := (own_same h.op g' e).1; omega)
  · exact hO.kept1 (by simp) fun g' e => hoth g' fun e2 => by have := (own_same hO g' e).1; omega
  · refine h.os.kept1 (by simp; omega) (fun g' e => hkk g' (own_same h.os g' e).2 (fun e2 => h.d23 g' e2.symm (h.e3 ▸ e)) (by have := (own_same h.os g' e).1; omega)) (fun b h1 h2 h3 _ => hkk b h2 (fun e => h3 (.inr e)) (by omega)) fun b hb hx => ?_
    rcases hx with hx | hx
    · exact .inl hx
    · injection hx with hx
      rcases hg with hg | hg
      · exact .inr (by rw [hg, hx])
      · omega
  · rcases hg with hg | hg
    · exact .inl hg.symm
    · exact .inr fun g' e => by injection e with e; omega
/-- behind the store of the second list without its last -/
theorem PE.St.pop2 {E : PE} (hW : E.Wf) {w : World} {p q : List Int} {x : Int} {ps : List (List Int × List Int)} {u1 u2 u3 : Option Nat} {vp vq vs v' : Value} (h : E.St w p (q ++ [x]) ps u1 u2 u3 vp vq vs) (hv : v'.ownBlock = u2) (hO : OwnI w E.base v' q) :
    E.St (w.setCell ⟨E.bn, 0, none⟩ v') p q ps u1 u2 u3 vp v' vs ∧ Ke w.heap.size (E.O u1 u2 u3) w (w.setCell ⟨E.bn, 0, none⟩ v') := by
  obtain ⟨l1, l2, l3, l4, l5⟩ := hW.lt
  obtain ⟨n1, n2, n3⟩ := hW.ne
  have hbs := h.base
  have hkk : ∀ b, b ≠ E.bn → (w.setCell ⟨E.bn, 0, none⟩ v').heap[b]? = w.heap[b]? := fun b hb => heap_setCell_other _ _ _ _ hb
  refine ⟨⟨h.box.keep hW ((Ke.refl _ _ _).set (.inl (.inr (.inr rfl)))), (hkk _ n3).trans h.kp, by simpa using heap_setCell_same _ _ 0 _ _ v' h.kq, (hkk _ n2).trans h.ks, ?_, ?_, ?_, h.e1, hv, h.e3, by simpa using hbs, h.d12, h.d13, h.d23⟩, (Ke.refl _ _ _).set (.inl (.inl (.inr (.inr rfl))))⟩
  · exact h.op.kept1 (by simp) fun g' e => hkk g' (by have := (own_same h.op g' e).1; omega)
  · exact hO.kept1 (by simp) fun g' e => hkk g' (by have := (own_same hO g' e).1; omega)
  · exact h.os.kept1 (by simp) (fun g' e => hkk g' (by have := (own_same h.os g' e).1; omega)) (fun b h1 _ _ _ => hkk b (by omega)) fun b _ hx => hx
/-- what has changed since W -/
structure PE.Acc (E : PE) (W : World) (u1 u2 u3 : Option Nat) (V : World) (v1 v2 v3 : Option Nat) : Prop where
  ke : Ke W.heap.size (E.O u1 u2 u3) W V
  n1 : Nxt W.heap.size u1 v1
  n2 : Nxt W.heap.size u2 v2
  n3 : Nxt W.heap.size u3 v3
  sz : W.heap.size ≤ V.heap.size
theorem PE.Acc.refl (E : PE) (W : World) (u1 u2 u3 : Option Nat) : E.Acc W u1 u2 u3 W u1 u2 u3 := ⟨Ke.refl _ _ _, .inl rfl, .inl rfl, .inl rfl, Nat.le_refl _⟩
theorem Nxt.old {z b : Nat} {u v : Option Nat} (h : Nxt z u v) (hb : b < z) (e : some b = v) : some b = u := by
  rcases h with h | h
  · rw [← h]; exact e
  · have := h b e.symm; omega
theorem PE.Acc.step {E : PE} {W V V' : World} {u1 u2 u3 v1 v2 v3 v1' v2' v3' : Option Nat} (h : E.Acc W u1 u2 u3 V v1 v2 v3) (hk : Ke V.heap.size (E.O v1 v2 v3) V V') (h1 : Nxt V.heap.size v1 v1') (h2 : Nxt V.heap.size v2 v2') (h3 : Nxt V.heap.size v3 v3') : E.Acc W u1 u2 u3 V' v1' v2' v3' := by
  refine ⟨⟨h.ke.below.trans hk.below, fun b hb hx => (hk.block b (Nat.lt_of_lt_of_le hb h.sz) fun hy => hx ?_).trans (h.ke.block b hb hx)⟩, h.n1.trans h1 h.sz, h.n2.trans h2 h.sz, h.n3.trans h3 h.sz, Nat.le_trans h.sz hk.size⟩
  rcases hy with hy | hy | hy | hy
  · exact .inl hy
  · exact .inr (.inl (h.n1.old hb hy))
  · exact .inr (.inr (.inl (h.n2.old hb hy)))
  · exact .inr (.inr (.inr (h.n3.old hb hy)))
theorem PE.Acc.old {E : PE} {W V V' : World} {u1 u2 u3 v1 v2 v3 : Option Nat} (h : E.Acc W u1 u2 u3 V v1 v2 v3) (hb : Below V.heap.size V V') : E.Acc W u1 u2 u3 V' v1 v2 v3 := h.step (Ke.of hb) (.inl rfl) (.inl rfl) (.inl rfl)
theorem PE.Acc.trans {E : PE} {W V V' : World} {u1 u2 u3 v1 v2 v3 v1' v2' v3' : Option Nat} (h : E.Acc W u1 u2 u3 V v1 v2 v3) (k : E.Acc V v1 v2 v3 V' v1' v2' v3') : E.Acc W u1 u2 u3 V' v1' v2' v3' := h.step k.ke k.n1 k.n2 k.n3
def PE.Pre (E : PE) (r : Nat) (p q : List Int) (ps : List (List Int × List Int)) (u1 u2 u3 : Option Nat) (w : World) : Prop :=
  r < E.us.length + 2 ∧ (∃ vp vq vs, E.St w p q ps u1 u2 u3 vp vq vs) ∧ p.length + q.length + (12 - litR E.us r) ≤ 1000 ∧ ps.length + 2 ^ (12 - litR E.us r) ≤ 100000
def PE.Post (E : PE) (N r : Nat) (p q : List Int) (ps : List (List Int × List Int)) (u1 u2 u3 : Option Nat) (w : World) (e : Ending) (w' : World) : Prop :=
  e = .returned (.tuple #[]) ∧ ∃ u1' u2' u3' vp vq vs, E.St w' p q (ps ++ pth E.us N r p q) u1' u2' u3' vp vq vs ∧ E.Acc w u1 u2 u3 w' u1' u2' u3'
end Go.Proofs.YtplmbmecjhmiiaaDoor
