/- The document's reduce: the one list of nodes of a table. -/
import Derived.Test.YtplmbmecjhmiiaaDoorEq6
import Derived.Test.YtplmbmecjhmiiaaDoorComb6
import Derived.Test.YtplmbmecjhmiiaaDoorCombA6
import Derived.Laws.BitsLemmas
import Derived.Test.YtplmbmecjhmiiaaDoorDia6
import Derived.Test.YtplmbmecjhmiiaaDoorAnd6
namespace Go.Proofs.YtplmbmecjhmiiaaDoor
open Go Go.RowKit
/-- an assignment's bits -/
def sOf (k : Nat) : Nat → Bool := fun x => k.testBit x
theorem sOf_low {k l : Nat} (h : k < 2 ^ l) : upd (sOf k) l false = sOf k := by
  funext x
  unfold upd sOf
  by_cases e : x = l
  · subst e; rw [if_pos rfl, Nat.testBit_lt_two_pow h]
  · rw [if_neg e]
theorem sOf_high (k l : Nat) : upd (sOf k) l true = sOf (k ||| 2 ^ l) := by
  funext x
  unfold upd sOf
  rw [Nat.testBit_or, Nat.testBit_two_pow]
  by_cases e : x = l
  · subst e; simp
  · simp [e, Ne.symm e]
theorem or_lt {k l : Nat} (h : k < 2 ^ l) : k ||| 2 ^ l < 2 ^ (l + 1) := Nat.or_lt_two_pow (Nat.lt_of_lt_of_le h (Nat.pow_le_pow_right (by omega) (by omega))) (Nat.pow_lt_pow_right (by omega) (by omega))
/-- the table of f lies at block bt -/
def Tbl (w : World) (bt : Nat) (f : BF) : Prop := ∃ cur : Array Value, w.heap[bt]? = some (.cells cur 4 (0, 0)) ∧ cur.size = 4096 ∧ ∀ k, k < 4096 → cur[k]? = some (.bool (f (sOf k)))
theorem Tbl.at {w : World} {bt : Nat} {f : BF} (h : Tbl w bt f) {k : Nat} (hk : k < 4096) : w.cell? ⟨bt, k, none⟩ = some (.bool (f (sOf k))) := by
  obtain ⟨cur, h1, _, h3⟩ := h
  exact (Lib.cell_of_heap h1 k).trans (h3 k hk)
theorem Tbl.lt {w : World} {bt : Nat} {f : BF} (h : Tbl w bt f) : bt < w.heap.size := by
  obtain ⟨cur, h1, _⟩ := h
  exact (Array.getElem?_eq_some_iff.1 h1).1
/-- the diagram at block bd while it is built -/
structure RdS (w : World) (bd bt base : Nat) (f : BF) (ns : List Nd) (u : Option Nat) (A : Option Addr) (c : Nat) : Prop where
  kd : w.heap[bd]? = some (.cells #[.slice A ns.length c, .int .i64 0] 29 (0, 0))
  own : OwnNd w base (.slice A ns.length c) ns
  eu : (Value.slice A ns.length c).ownBlock = u
  tb : Tbl w bt f
  lt : bd < base ∧ bt < base ∧ bd ≠ bt
  base : base ≤ w.heap.size
theorem RdS.old {w w' : World} {bd bt base : Nat} {f : BF} {ns : List Nd} {u : Option Nat} {A : Option Addr} {c : Nat} (h : RdS w bd bt base f ns u A c) (hb : Below w.heap.size w w') : RdS w' bd bt base f ns u A c := by
  have h1 := h.base
  have h2 := h.lt
  obtain ⟨cur, t1, t2⟩ := h.tb
  exact ⟨(hb.block _ (by omega)).trans h.kd, h.own.old hb, h.eu, ⟨cur, (hb.block _ (by omega)).trans t1, t2⟩, h2, Nat.le_trans h1 hb.size⟩
/-- behind the append of a node and its store -/
theorem RdS.push {w w1 : World} {bd bt base g c c' : Nat} {f : BF} {ns : List Nd} {u : Option Nat} {A : Option Addr} {x : Nd} (h : RdS w bd bt base f ns u A c) (hO : OwnNd w1 base (.slice (some ⟨g, 0, none⟩) (ns.length + 1) c') (ns ++ [x])) (hb : Below base w w1) (hk : ∀ b, b < w.heap.size → some b ≠ (Value.slice A ns.length c).ownBlock → w1.heap[b]? = w.heap[b]?) (hg : (Value.slice A ns.length c).ownBlock = some g ∨ w.heap.size ≤ g) :
    RdS (w1.setCell ⟨bd, 0, none⟩ (.slice (some ⟨g, 0, none⟩) (ns.length + 1) c')) bd bt base f (ns ++ [x]) (some g) (some ⟨g, 0, none⟩) c' ∧ Nxt w.heap.size u (some g) ∧ Ke w.heap.size (fun b => b = bd ∨ some b = u) w (w1.setCell ⟨bd, 0, none⟩ (.slice (some ⟨g, 0, none⟩) (ns.length + 1) c')) ∧ w1.cell? ⟨bd, 0, none⟩ = some (.slice A ns.length c) ∧ w1.frozen? ⟨bd, 0, none⟩ = false := by
  obtain ⟨l1, l2, l3⟩ := h.lt
  have hbs := h.base
  have hsz := hb.size
  rw [h.eu] at hk hg
  have own : ∀ g', u = some g' → base ≤ g' ∧ g' < w.heap.size := fun g' e => own_blk h.own g' (h.eu.trans e)
  have nb : ∀ b, b < base → some b ≠ u := fun b hb e => by have := (own b e.symm).1; omega
  have hll : (ns ++ [x]).length = ns.length + 1 := by simp
  have kd1 := (hk _ (by omega) (nb _ l1)).trans h.kd
  refine ⟨⟨?_, ?_, rfl, ?_, h.lt, by simp; omega⟩, ?_, ⟨(hb.mono (Nat.zero_le _)).setCell (p := ⟨bd, 0, none⟩) (Nat.zero_le _) _, fun b hb hx => (heap_setCell_other _ _ _ _ (show b ≠ bd from fun e => hx (.inl e))).trans (hk b hb fun e => hx (.inr e))⟩, (Lib.cell_of_heap kd1 0).trans rfl, Lib.frozen_of_heap kd1 0⟩
  · rw [hll]
    simpa using heap_setCell_same _ _ 0 _ _ (.slice (some ⟨g, 0, none⟩) (ns.length + 1) c') kd1
  · rw [hll]
    exact OwnE.low hO l1
  · obtain ⟨cur, t1, t2⟩ := h.tb
    exact ⟨cur, (heap_setCell_other _ _ _ _ (Ne.symm l3)).trans ((hk _ (by omega) (nb _ l2)).trans t1), t2⟩
  · rcases hg with hg | hg
    · exact .inl hg.symm
    · exact .inr fun g' e => by injection e with e; omega
def RdPost (bd bt base : Nat) (f : BF) (k : Nat) (s : Nat → Bool) (ns : List Nd) (u : Option Nat) (w : World) (e : Ending) (w' : World) : Prop :=
  e = .returned (.int .i64 ((bld k f s ns).2 : Int)) ∧ (∃ u' A c, RdS w' bd bt base f (bld k f s ns).1 u' A c ∧ Nxt w.heap.size u u') ∧ Ke w.heap.size (fun b => b = bd ∨ some b = u) w w'
theorem nd_fst {ns : List Nd} {x : Nd} (hm : x ∈ ns) : ns.idxOf x < ns.length ∧ ns[ns.idxOf x]? = some x ∧ ∀ j, j < ns.idxOf x → ns[j]? ≠ some x := by
  have hlt := List.idxOf_lt_length_iff.2 hm
  refine ⟨hlt, by rw [List.getElem?_eq_getElem hlt, List.getElem_idxOf], fun j hj e => ?_⟩
  have hjl := (List.getElem?_eq_some_iff.1 e)
  obtain ⟨h1, h2⟩ := hjl
  have := List.not_of_lt_findIdx (p := (· == x)) (xs := ns) (i := j) (by rw [List.idxOf] at hj; exact hj)
  simp [h2] at this
set_option maxRecDepth 100000 in
set_option maxHeartbeats 6400000 in
theorem reduce_leaf (bd bt base tc : Nat) (f : BF) (bs : Nat) (hbs : bs < 4096) (ns : List Nd) (u : Option Nat) (A : Option Addr) (c : Nat) (w : World) (hS : RdS w bd bt base f ns u A c) :
    Calls Tryd.prog 38 #[.pointer (some ⟨bd, 0, none⟩), .slice (some ⟨bt, 0, none⟩) 4096 tc, .int .i64 12, .int .i64 bs] w (RdPost bd bt base f 0 (sOf bs) ns u w) := by
  have hc := hS.tb.at hbs
  have HF : Hid (∀ r : Nat, r = (if f (sOf bs) then 1 else 0) → RdPost bd bt base f 0 (sOf bs) ns u w (.returned (.int .i64 (r : Int))) w) := Lib.hid fun r hr => by
    unfold RdPost
    simp only [bld]
    exact ⟨by rw [hr], ⟨u, A, c, hS, .inl rfl⟩, Ke.refl _ _ _⟩
  generalize hPost : RdPost bd bt base f 0 (sOf bs) ns u w = Post at *
  have kn : (bs : Int) < 4096 := by omega
  have k0 : (0 : Int) ≤ (bs : Int) := by omega
  generalize f (sOf bs) = z at *
  clear hPost hS hbs
  cases z
  · go_enter Tryd.func38, Tryd.ntmps38
    go_wp2
    exact HF.out 0 (by simp)
  · go_enter Tryd.func38, Tryd.ntmps38
    go_wp2
    exact HF.out 1 (by simp)
theorem eql_nd (x y : Int × Int × Int) (h : x ≠ y) (V : World) : (binOp .eql 51 (.agg #[.int .i64 x.1, .int .i64 x.2.1, .int .i64 x.2.2]) (.agg #[.int .i64 y.1, .int .i64 y.2.1, .int .i64 y.2.2])).run Tryd.prog V = .ok (.bool false) V := by
  obtain ⟨a, b, c⟩ := x
  obtain ⟨d, e, f⟩ := y
  go_simp
  intro h1 h2 h3
  exact h (by rw [h1, h2, h3])
theorem eql_nd' (x : Int × Int × Int) (V : World) : (binOp .eql 51 (.agg #[.int .i64 x.1, .int .i64 x.2.1, .int .i64 x.2.2]) (.agg #[.int .i64 x.1, .int .i64 x.2.1, .int .i64 x.2.2])).run Tryd.prog V = .ok (.bool true) V := by
  go_simp
set_option maxRecDepth 100000 in
set_option maxHeartbeats 6400000 in
/-- the node of two references, looked for and added -/
theorem reduce_tail (bd bt base tc : Nat) (f : BF) (k lit l1 bs : Nat) (ns n2 : List Nd) (r1 r2 : Nat) (hl1 : l1 = lit + 1) (hlit : lit + (k + 1) = 12) (hbs : bs < 2 ^ lit) (hbld : bld (k + 1) f (sOf bs) ns = mkN n2 lit r1 r2) (n1 : List Nd) (hlen : ns.length + 2 ^ (k + 1) ≤ 100000) (hn2 : n2.length ≤ 100000) (u : Option Nat) (A : Option Addr) (c : Nat) (w : World) (hS : RdS w bd bt base f ns u A c)
    (b1 : Nat) (hb1 : b1 = bs ||| 2 ^ lit)
    (C1 : Hid (Calls Tryd.prog 38 #[.pointer (some ⟨bd, 0, none⟩), .slice (some ⟨bt, 0, none⟩) 4096 tc, .int .i64 l1, .int .i64 b1] w fun e w' => e = .returned (.int .i64 (r1 : Int)) ∧ (∃ u' A c, RdS w' bd bt base f n1 u' A c ∧ Nxt w.heap.size u u') ∧ Ke w.heap.size (fun b => b = bd ∨ some b = u) w w'))
    (C2 : Hid (∀ (V : World) (v : Option Nat) (A : Option Addr) (c : Nat), RdS V bd bt base f n1 v A c → Calls Tryd.prog 38 #[.pointer (some ⟨bd, 0, none⟩), .slice (some ⟨bt, 0, none⟩) 4096 tc, .int .i64 l1, .int .i64 bs] V fun e w' => e = .returned (.int .i64 (r2 : Int)) ∧ (∃ u' A c, RdS w' bd bt base f n2 u' A c ∧ Nxt V.heap.size v u') ∧ Ke V.heap.size (fun b => b = bd ∨ some b = v) V w')) :
    Calls Tryd.prog 38 #[.pointer (some ⟨bd, 0, none⟩), .slice (some ⟨bt, 0, none⟩) 4096 tc, .int .i64 lit, .int .i64 bs] w (RdPost bd bt base f (k + 1) (sOf bs) ns u w) := by
  have hp : 2 ^ lit ≤ 2 ^ 11 := Nat.pow_le_pow_right (by omega) (by omega)
  obtain ⟨p2, hp2⟩ : ∃ p2, p2 = 2 ^ lit := ⟨_, rfl⟩
  have q0 : ((lit : Int) == 12) = false := by rw [beq_eq_false_iff_ne]; omega
  have hw1 : IntKind.i64.wrap ((lit : Int) + 1) = (l1 : Int) := by rw [IntWalk.i64_in _ (by omega)]; omega
  have hwu : IntKind.u64.wrap (lit : Int) = (lit : Int) := by rw [IntKind.wrap_u64]; omega
  have hor : bits .or .i64 (bs : Int) (p2 : Int) = (b1 : Int) := by
    rw [hb1, ← hp2]
    exact (bits_nat .i64 12 (by decide) (fun n h0 h1 => IntWalk.i64_in _ (by omega)) bs p2 (by omega) (by omega)).2
  have HF : Hid (∀ (r : Nat) (w' : World) (ns' : List Nd) u' A c, mkN n2 lit r1 r2 = (ns', r) → RdS w' bd bt base f ns' u' A c → Nxt w.heap.size u u' → Ke w.heap.size (fun b => b = bd ∨ some b = u) w w' → RdPost bd bt base f (k + 1) (sOf bs) ns u w (.returned (.int .i64 (r : Int))) w') := Lib.hid fun r w' ns' u' A c he h1 h2 h3 => by
    unfold RdPost
    rw [hbld, he]
    exact ⟨rfl, ⟨u', A, c, h1, h2⟩, h3⟩
  have HS := Lib.hid hS
  have eg := enters_of Tryd.func38 (by kernel_rfl) rfl
  have HN2 := Lib.hid hn2
  have hneg : decide ((lit : Int) < 0) = false := by rw [decide_eq_false_iff_not]; omega
  have HLT := Lib.hid (show lit < 12 from by omega)
  have hw2 : wrap64 ((2 : Int) ^ (min lit 64)) = (p2 : Int) := by
    rw [Nat.min_eq_left (by omega), show ((2 : Int) ^ lit) = (p2 : Int) from by rw [hp2]; simp]
    unfold wrap64
    omega
  generalize hPost : RdPost bd bt base f (k + 1) (sOf bs) ns u w = Post at *
  clear hPost hl1 hlit hbs hbld hlen hS hb1 hp hp2 hn2
  go_enter Tryd.func38, Tryd.ntmps38
  go_wp2_with fail
  refine C1.out.mono ?_
  rintro e V1 ⟨rfl, ⟨u1, A1, c1, hS1, hn1⟩, hk1⟩
  have HS1 := Lib.hid hS1
  have HK1 := Lib.hid (And.intro hn1 hk1)
  clear hS1 hn1 hk1 hor hw2 hwu
  go_wp2_with fail
  refine (C2.out V1 u1 A1 c1 HS1.out).mono ?_
  rintro e V2 ⟨rfl, ⟨u2, A2, c2, hS2, hn2⟩, hk2⟩
  have hX : ∀ b, b = bd → b < base := fun b e => e ▸ HS.out.lt.1
  have hk12 : Ke w.heap.size (fun b => b = bd ∨ some b = u) w V2 := HK1.out.2.nxt hk2 HK1.out.1 HK1.out.2.size
  have hn12 : Nxt w.heap.size u u2 := HK1.out.1.trans hn2 HK1.out.2.size
  have HK2 := Lib.hid (And.intro hn12 hk12)
  have HSZ := Lib.hid (Nat.le_trans HK1.out.2.size hk2.size)
  have HS2 := Lib.hid hS2
  clear hS2 hn2 hk2 hX hk12 hn12 HK1 HS1 C1 C2 HS
  by_cases hr : r1 = r2
  · subst hr
    have hm : mkN n2 lit r1 r1 = (n2, r1) := mkN_same _ _ _
    have HZ := Lib.hid (HF.out r1 V2 n2 u2 A2 c2 hm HS2.out HK2.out.1 HK2.out.2)
    clear hm
    go_wp2
    exact HZ.out
  · have hrr : ((r1 : Int) == (r2 : Int)) = false := by rw [beq_eq_false_iff_ne]; omega
    have HR := Lib.hid hr
    clear hr
    obtain ⟨V3, hV3⟩ : ∃ V3, V3 = V2.alloc (.cells #[.int .i64 lit, .int .i64 r1, .int .i64 r2] 51) := ⟨_, rfl⟩
    have hb3 : Below V2.heap.size V2 V3 := by rw [hV3]; exact (Below.refl _ _).alloc (Nat.le_refl _) _
    have hz3 : V3.heap.size = V2.heap.size + 1 := by rw [hV3]; simp
    have k3 : V3.heap[V2.heap.size]? = some (.cells #[.int .i64 lit, .int .i64 r1, .int .i64 r2] 51 (0, 0)) := by rw [hV3]; exact heap_alloc_new V2 _
    obtain ⟨z, hzz⟩ : ∃ z, z = V2.heap.size := ⟨_, rfl⟩
    rw [← hzz] at hz3 k3
    have HK3 : Hid (∀ V, Below V3.heap.size V3 V → (V.cell? ⟨z, 0, none⟩ = some (.int .i64 lit) ∧ V.cell? ⟨z, 1, none⟩ = some (.int .i64 r1) ∧ V.cell? ⟨z, 2, none⟩ = some (.int .i64 r2)) ∧ RdS V bd bt base f n2 u2 A2 c2 ∧ Ke w.heap.size (fun b => b = bd ∨ some b = u) w V ∧ Nxt w.heap.size u u2) := Lib.hid fun V hV => by
      obtain ⟨a0, a1, a2⟩ := cells3 ((hV.block _ (by omega)).trans k3)
      have hbV : Below V2.heap.size V2 V := hb3.trans (hV.mono (by omega))
      exact ⟨⟨a0, a1, a2⟩, HS2.out.old hbV, HK2.out.2.trans (Ke.of (hbV.mono HSZ.out)), HK2.out.1⟩
    have HZ3 := Lib.hid hz3
    obtain ⟨n, hn⟩ : ∃ n, n = n2.length := ⟨_, rfl⟩
    have HNN := Lib.hid hn
    have HZZ := Lib.hid hzz
    have HZN : Hid ((∀ g, (Value.slice A2 n2.length c2).ownBlock = some g → g < z) ∧ bd < z) := Lib.hid ⟨fun g e => by have := (own_blk HS2.out.own g e).2; omega, by have := HS2.out.lt; have := HS2.out.base; omega⟩
    clear hb3 hz3 k3 HK2 HS2 HSZ
    go_wp2_with fail
    rw [← hV3, ← hzz]
    clear hV3 hzz hn
    go_loopw [12] (fun i wr => ∃ j : Nat, i = .int .i64 j ∧ j ≤ n ∧ Hid (∀ q, q < j → n2[q]? ≠ some ⟨lit, r1, r2⟩) ∧ Hid (Below V3.heap.size V3 wr)) (fun i _ => n - (intOf i).toNat)
    case atStart => exact ⟨0, rfl, by omega, Lib.hid (fun k hk => absurd hk (by omega)), Lib.hid (Below.refl _ _)⟩
    case round =>
      obtain ⟨j, rfl, hj, h0, hwr⟩ := hrel
      obtain ⟨hsn, hS3, hke, hnx⟩ := HK3.out _ hwr.out
      have hcd := (cells2 hS3.kd).1
      rw [← HNN.out] at hcd
      by_cases hjn : j < n
      · have hNd := NdR_of_own hS3.own (by have := HN2.out; omega)
        obtain ⟨b1', o1, x, rfl, hbb, hx, c0, c1', c2'⟩ := hNd.at (j := j) (by rw [← HNN.out]; exact hjn)
        have kn : (j : Int) < (n : Int) := by omega
        have k0 : (0 : Int) ≤ (j : Int) := by omega
        have hwj : IntKind.i64.wrap ((j : Int) + 1) = ((j + 1 : Nat) : Int) := by have := HN2.out; have := HNN.out; rw [IntWalk.i64_in _ (by omega)]; omega
        have hwj2 : IntKind.i64.wrap ((j : Int) + 2) = ((j + 2 : Nat) : Int) := by have := HN2.out; have := HNN.out; rw [IntWalk.i64_in _ (by omega)]; omega
        have HX := Lib.hid hx
        have HJ := Lib.hid hjn
        generalize b1' = b1 at *
        have HC : Hid (∀ V, Below wr.heap.size wr V → (V.cell? ⟨bd, 0, none⟩ = some (.slice (some ⟨b1, o1, none⟩) n c2) ∧ V.cell? ⟨b1, o1 + j * 3, none⟩ = some (.int .i64 x.1) ∧ V.cell? ⟨b1, o1 + j * 3 + 1, none⟩ = some (.int .i64 x.2.1) ∧ V.cell? ⟨b1, o1 + j * 3 + 2, none⟩ = some (.int .i64 x.2.2) ∧ V.cell? ⟨z, 0, none⟩ = some (.int .i64 lit) ∧ V.cell? ⟨z, 1, none⟩ = some (.int .i64 r1) ∧ V.cell? ⟨z, 2, none⟩ = some (.int .i64 r2))) := Lib.hid fun V hV => by
          obtain ⟨⟨a0, a1, a2⟩, hSV, _⟩ := HK3.out V (hwr.out.trans (hV.mono hwr.out.size))
          have hcd' := (cells2 hSV.kd).1
          rw [← HNN.out] at hcd'
          exact ⟨hcd', (hV.cell (p := ⟨b1, _, none⟩) hbb).trans c0, (hV.cell (p := ⟨b1, _, none⟩) hbb).trans c1', (hV.cell (p := ⟨b1, _, none⟩) hbb).trans c2', a0, a1, a2⟩
        clear hNd c0 c1' c2' hx hbb hsn hS3 hke hnx hjn hj
        by_cases hxy : x = ni ⟨lit, r1, r2⟩
        · have hq : ∀ V, (binOp .eql 51 (.agg #[.int .i64 x.1, .int .i64 x.2.1, .int .i64 x.2.2]) (.agg #[.int .i64 lit, .int .i64 r1, .int .i64 r2])).run Tryd.prog V = .ok (.bool true) V := fun V => by
            have := eql_nd' x V
            rw [hxy] at this ⊢
            exact this
          have HXY := Lib.hid hxy
          clear hxy
          go_wp2_with fail
          clear hcd
          refine wp_region_held_drew (S := fun V => (V.cell? ⟨bd, 0, none⟩ = some (.slice (some ⟨b1, o1, none⟩) n c2) ∧ V.cell? ⟨b1, o1 + j * 3, none⟩ = some (.int .i64 x.1) ∧ V.cell? ⟨b1, o1 + j * 3 + 1, none⟩ = some (.int .i64 x.2.1) ∧ V.cell? ⟨b1, o1 + j * 3 + 2, none⟩ = some (.int .i64 x.2.2) ∧ V.cell? ⟨z, 0, none⟩ = some (.int .i64 lit) ∧ V.cell? ⟨z, 1, none⟩ = some (.int .i64 r1) ∧ V.cell? ⟨z, 2, none⟩ = some (.int .i64 r2))) (by kernel_rfl) (HC.out _ (Below.refl _ wr).drew) (fun _ => ?_)
          refine tk 0 (HC.out _ (Below.refl _ wr).drew) ?_
          try simp only [Act.put, pA, pB, pC]
          refine tk 1 (HC.out _ (Below.refl _ wr).drew) ?_
          try simp only [Act.put, pA, pB, pC]
          refine tk 2 (HC.out _ (Below.refl _ wr).drew) ?_
          try simp only [Act.put, pA, pB, pC]
          refine tk 3 (HC.out _ (Below.refl _ wr).drew) ?_
          try simp only [Act.put, pA, pB, pC]
          refine tk 4 (HC.out _ (Below.refl _ wr).drew) ?_
          try simp only [Act.put, pA, pB, pC]
          refine tk 5 (HC.out _ (Below.refl _ wr).drew) ?_
          try simp only [Act.put, pA, pB, pC]
          refine tk 6 (HC.out _ (Below.refl _ wr).drew) ?_
          try simp only [Act.put, pA, pB, pC]
          refine tk 7 (HC.out _ (Below.refl _ wr).drew) ?_
          try simp only [Act.put, pA, pB, pC]
          refine tk 8 (HC.out _ (Below.refl _ wr).drew) ?_
          try simp only [Act.put, pA, pB, pC]
          refine wpAnyH_done (by kernel_rfl) ?_ _
          have hm : mkN n2 lit r1 r2 = (n2, j + 2) := by
            have hj2 : n2[j]? = some ⟨lit, r1, r2⟩ := by
              have h := HX.out
              rw [HXY.out, List.getElem?_map] at h
              cases hh : n2[j]? with
              | none => rw [hh] at h; cases h
              | some y => rw [hh] at h; exact congrArg some (ni_inj (Option.some.inj h))
            have hmem : (⟨lit, r1, r2⟩ : Nd) ∈ n2 := List.mem_of_getElem? hj2
            obtain ⟨i1, i2, i3⟩ := nd_fst hmem
            have hidx : n2.idxOf ⟨lit, r1, r2⟩ = j := by
              rcases Nat.lt_trichotomy (n2.idxOf ⟨lit, r1, r2⟩) j with h | h | h
              · exact absurd i2 (h0.out _ h)
              · exact h
              · exact absurd hj2 (i3 j h)
            unfold mkN
            rw [if_neg HR.out, if_pos hmem, hidx]
          obtain ⟨_, hSf, hkf, hnf⟩ := HK3.out _ hwr.out.drew
          have HZ := Lib.hid (HF.out (j + 2) _ n2 u2 _ c2 hm hSf hnf hkf)
          clear hm hSf hkf hnf
          go_wp2
          exact HZ.out
        · have hq : ∀ V, (binOp .eql 51 (.agg #[.int .i64 x.1, .int .i64 x.2.1, .int .i64 x.2.2]) (.agg #[.int .i64 lit, .int .i64 r1, .int .i64 r2])).run Tryd.prog V = .ok (.bool false) V := fun V => eql_nd x (ni ⟨lit, r1, r2⟩) hxy V
          have HXY := Lib.hid hxy
          clear hxy
          go_wp2_with fail
          clear hcd
          refine wp_region_held_drew (S := fun V => (V.cell? ⟨bd, 0, none⟩ = some (.slice (some ⟨b1, o1, none⟩) n c2) ∧ V.cell? ⟨b1, o1 + j * 3, none⟩ = some (.int .i64 x.1) ∧ V.cell? ⟨b1, o1 + j * 3 + 1, none⟩ = some (.int .i64 x.2.1) ∧ V.cell? ⟨b1, o1 + j * 3 + 2, none⟩ = some (.int .i64 x.2.2) ∧ V.cell? ⟨z, 0, none⟩ = some (.int .i64 lit) ∧ V.cell? ⟨z, 1, none⟩ = some (.int .i64 r1) ∧ V.cell? ⟨z, 2, none⟩ = some (.int .i64 r2))) (by kernel_rfl) (HC.out _ (Below.refl _ wr).drew) (fun _ => ?_)
          refine tk 0 (HC.out _ (Below.refl _ wr).drew) ?_
          try simp only [Act.put, pA, pB, pC]
          refine tk 1 (HC.out _ (Below.refl _ wr).drew) ?_
          try simp only [Act.put, pA, pB, pC]
          refine tk 2 (HC.out _ (Below.refl _ wr).drew) ?_
          try simp only [Act.put, pA, pB, pC]
          refine tk 3 (HC.out _ (Below.refl _ wr).drew) ?_
          try simp only [Act.put, pA, pB, pC]
          refine tk 4 (HC.out _ (Below.refl _ wr).drew) ?_
          try simp only [Act.put, pA, pB, pC]
          refine tk 5 (HC.out _ (Below.refl _ wr).drew) ?_
          try simp only [Act.put, pA, pB, pC]
          refine tk 6 (HC.out _ (Below.refl _ wr).drew) ?_
          try simp only [Act.put, pA, pB, pC]
          refine tk 7 (HC.out _ (Below.refl _ wr).drew) ?_
          try simp only [Act.put, pA, pB, pC]
          refine tk 8 (HC.out _ (Below.refl _ wr).drew) ?_
          try simp only [Act.put, pA, pB, pC]
          refine wpAnyH_done (by kernel_rfl) ?_ _
          have HD := Lib.hid hwr.out.drew
          go_wp2
          go_roundw
          case rel => exact ⟨j + 1, by go_num, by have := HJ.out; omega, Lib.hid (fun q hq => by
            rcases Nat.lt_or_eq_of_le (Nat.le_of_lt_succ hq) with h | h
            · exact h0.out q h
            · rw [h]
              intro e
              have h := HX.out
              rw [List.getElem?_map, e] at h
              exact HXY.out (Option.some.inj h).symm), HD⟩
          case measure => have := HJ.out; simp [intOf]; omega
      · have q1 : ¬ (j : Int) < (n : Int) := by omega
        have hnm : (⟨lit, r1, r2⟩ : Nd) ∉ n2 := fun hm => by
          obtain ⟨i1, i2, _⟩ := nd_fst hm
          exact h0.out _ (by have := HNN.out; omega) i2
        have hm := mkN_new HR.out hnm
        have hS3' := hS3
        obtain ⟨g, cap, w6, hr6, hO6, hb6, hk6, hg6⟩ := app_nd wr.drew base _ n2 (hS3.old (Below.refl _ wr).drew).own ⟨lit, r1, r2⟩ (by have := HN2.out; omega) hS3.base 27
        obtain ⟨hS7, hN7, hK7, t0, z0⟩ := (hS3.old (Below.refl _ wr).drew).push hO6 hb6 hk6 hg6
        obtain ⟨V7, hV7⟩ : ∃ V7, V7 = w6.setCell ⟨bd, 0, none⟩ (.slice (some ⟨g, 0, none⟩) (n2.length + 1) cap) := ⟨_, rfl⟩
        rw [← hV7] at hS7 hK7
        have hkf : Ke w.heap.size (fun b => b = bd ∨ some b = u) w V7 := (hke.trans (Ke.of ((Below.refl wr.heap.size wr).drew.mono (by have := hke.size; omega)))).nxt hK7 hnx (by have := hke.size; simpa using this)
        have HZ := Lib.hid (HF.out (n2.length + 2) V7 _ _ _ _ hm hS7 (hnx.trans hN7 (by have := hke.size; simpa using this)) hkf)
        have hwn : IntKind.i64.wrap ((n2.length : Int) + 1 + 1) = ((n2.length + 2 : Nat) : Int) := by have := HN2.out; rw [IntWalk.i64_in _ (by omega)]; omega
        have hzw : z < wr.heap.size := by have := hwr.out.size; have := HZ3.out; omega
        have zne : some z ≠ (Value.slice A2 n2.length c2).ownBlock ∧ z ≠ bd := ⟨fun e => by have := HZN.out.1 z e.symm; omega, by have := HZN.out.2; omega⟩
        have hsd := (HK3.out _ hwr.out.drew).1
        have hcz : ∀ i, w6.cell? ⟨z, i, none⟩ = wr.drew.cell? ⟨z, i, none⟩ := fun i => World.cell?_of_block (a := ⟨z, i, none⟩) (hk6 z hzw zne.1)
        have hc7 : ∀ i, V7.cell? ⟨z, i, none⟩ = w6.cell? ⟨z, i, none⟩ := fun i => by rw [hV7]; exact World.cell?_of_block (a := ⟨z, i, none⟩) (heap_setCell_other _ _ _ _ zne.2)
        have hcA : ∀ i, (wr.drew.alloc (.cells #[.int .i64 lit, .int .i64 r1, .int .i64 r2] 51)).cell? ⟨z, i, none⟩ = wr.drew.cell? ⟨z, i, none⟩ := fun i => World.cell?_of_block (a := ⟨z, i, none⟩) (Below.heap_alloc _ _ _ hzw)
        have HS6 : Hid ((wr.drew.cell? ⟨z, 0, none⟩ = some (.int .i64 lit) ∧ wr.drew.cell? ⟨z, 1, none⟩ = some (.int .i64 r1) ∧ wr.drew.cell? ⟨z, 2, none⟩ = some (.int .i64 r2)) ∧ (w6.cell? ⟨z, 0, none⟩ = some (.int .i64 lit) ∧ w6.cell? ⟨z, 1, none⟩ = some (.int .i64 r1) ∧ w6.cell? ⟨z, 2, none⟩ = some (.int .i64 r2)) ∧ (V7.cell? ⟨z, 0, none⟩ = some (.int .i64 lit) ∧ V7.cell? ⟨z, 1, none⟩ = some (.int .i64 r1) ∧ V7.cell? ⟨z, 2, none⟩ = some (.int .i64 r2)) ∧ ((wr.drew.alloc (.cells #[.int .i64 lit, .int .i64 r1, .int .i64 r2] 51)).cell? ⟨z, 0, none⟩ = some (.int .i64 lit) ∧ (wr.drew.alloc (.cells #[.int .i64 lit, .int .i64 r1, .int .i64 r2] 51)).cell? ⟨z, 1, none⟩ = some (.int .i64 r1) ∧ (wr.drew.alloc (.cells #[.int .i64 lit, .int .i64 r1, .int .i64 r2] 51)).cell? ⟨z, 2, none⟩ = some (.int .i64 r2))) := Lib.hid ⟨hsd, ⟨(hcz 0).trans hsd.1, (hcz 1).trans hsd.2.1, (hcz 2).trans hsd.2.2⟩, ⟨(hc7 0).trans ((hcz 0).trans hsd.1), (hc7 1).trans ((hcz 1).trans hsd.2.1), (hc7 2).trans ((hcz 2).trans hsd.2.2)⟩, ⟨(hcA 0).trans hsd.1, (hcA 1).trans hsd.2.1, (hcA 2).trans hsd.2.2⟩⟩
        have hr6' : (Builtin.append_ #[27, 27] 27 #[.slice A2 n2.length c2, .slice (some ⟨wr.heap.size, 0, none⟩) 1 1]).run Tryd.prog ((wr.alloc (.cells #[.int .i64 lit, .int .i64 r1, .int .i64 r2] 51)).drew) = .ok (.slice (some ⟨g, 0, none⟩) (n2.length + 1) cap) w6 := hr6
        have hfin := (cells2 hS7.kd).1
        rw [List.length_append, List.length_singleton] at hfin
        have hnn := HNN.out
        have q1' : ¬ (j : Int) < (n2.length : Int) := by omega
        have hcd2 : wr.drew.cell? ⟨bd, 0, none⟩ = some (.slice A2 n2.length c2) := (cells2 hS3.kd).1
        have hcd2A : ((wr.alloc (.cells #[.int .i64 lit, .int .i64 r1, .int .i64 r2] 51)).drew).cell? ⟨bd, 0, none⟩ = some (.slice A2 n2.length c2) := (World.cell?_of_block (a := ⟨bd, 0, none⟩) (Below.heap_alloc wr _ _ (show bd < wr.heap.size from by have := HZN.out.2; omega))).trans hcd2
        have HFIN := Lib.hid hfin
        clear hS3 hS3' hke hnx hO6 hb6 hk6 hg6 hS7 hN7 hK7 hkf hm hnm hsn zne hsd hcz hc7 hcA hzw hr6 hfin h0 hjn hj
        subst hnn
        go_wp2_with fail
        clear hcd
        refine wp_region_held_drew (S := fun V => (V.cell? ⟨z, 0, none⟩ = some (.int .i64 lit) ∧ V.cell? ⟨z, 1, none⟩ = some (.int .i64 r1) ∧ V.cell? ⟨z, 2, none⟩ = some (.int .i64 r2))) (by kernel_rfl) HS6.out.1 (fun _ => ?_)
        refine tk 0 (HS6.out.1) ?_
        try simp only [Act.put, pA, pB, pC]
        refine tk 1 (HS6.out.1) ?_
        try simp only [Act.put, pA, pB, pC]
        refine tk 2 (HS6.out.1) ?_
        try simp only [Act.put, pA, pB, pC]
        refine tk 3 (HS6.out.1) ?_
        try simp only [Act.put, pA, pB, pC]
        refine tk 5 (HS6.out.1) ?_
        try simp only [Act.put, pA, pB, pC]
        refine wpAnyH_all (rs := [4, 6]) (by kernel_rfl) (by simp) fun i hi => ?_
        have hi2 : i = 4 ∨ i = 6 := by simpa using hi
        clear hi
        rcases hi2 with rfl | rfl
        · refine step_op rfl (by rfl) (fun K hK => ?_)
          go_simp
          refine hK _ _ ⟨HS6.out.1, ?_⟩
          try simp only [Act.put, pA, pB, pC]
          clear hK K
          refine one_op 6 (by kernel_rfl) rfl (by rfl) (fun K hK => ?_)
          go_simp
          refine hK _ _ HS6.out.2.2.2 ?_
          try simp only [Act.put, pA, pB, pC]
          clear hK K
          refine one_op 7 (by kernel_rfl) rfl (by rfl) (fun K hK => ?_)
          refine Lib.wp_append_run _ _ _ _ _ rfl _ _ rfl rfl _ w6 hr6' ?_
          refine hK _ _ HS6.out.2.1 ?_
          try simp only [Act.put, pA, pB, pC]
          clear hK K
          refine tk 8 (HS6.out.2.1) ?_
          try simp only [Act.put, pA, pB, pC]
          refine tk 9 (HS6.out.2.1) ?_
          try simp only [Act.put, pA, pB, pC]
          refine one_op 10 (by kernel_rfl) rfl (by rfl) (fun K hK => ?_)
          clear hr6'
          go_simp
          rw [← hV7]
          refine hK _ _ HS6.out.2.2.1 ?_
          try simp only [Act.put, pA, pB, pC]
          clear hK K
          refine wpAnyH_done (by kernel_rfl) ?_ _
          have hfin := HFIN.out
          clear hV7 hcd2 hcd2A t0 z0
          go_wp2
          exact HZ.out
        · refine step_op rfl (by rfl) (fun K hK => ?_)
          go_simp
          refine hK _ _ ⟨HS6.out.2.2.2, ?_⟩
          try simp only [Act.put, pA, pB, pC]
          clear hK K
          refine one_op 4 (by kernel_rfl) rfl (by rfl) (fun K hK => ?_)
          go_simp
          refine hK _ _ HS6.out.2.2.2 ?_
          try simp only [Act.put, pA, pB, pC]
          clear hK K
          refine one_op 7 (by kernel_rfl) rfl (by rfl) (fun K hK => ?_)
          refine Lib.wp_append_run _ _ _ _ _ rfl _ _ rfl rfl _ w6 hr6' ?_
          refine hK _ _ HS6.out.2.1 ?_
          try simp only [Act.put, pA, pB, pC]
          clear hK K
          refine tk 8 (HS6.out.2.1) ?_
          try simp only [Act.put, pA, pB, pC]
          refine tk 9 (HS6.out.2.1) ?_
          try simp only [Act.put, pA, pB, pC]
          refine one_op 10 (by kernel_rfl) rfl (by rfl) (fun K hK => ?_)
          clear hr6'
          go_simp
          rw [← hV7]
          refine hK _ _ HS6.out.2.2.1 ?_
          try simp only [Act.put, pA, pB, pC]
          clear hK K
          refine wpAnyH_done (by kernel_rfl) ?_ _
          have hfin := HFIN.out
          clear hV7 hcd2 hcd2A t0 z0
          go_wp2
          exact HZ.out
theorem reduce_any (bd bt base tc : Nat) (f : BF) : ∀ (k lit bs : Nat) (ns : List Nd) (u : Option Nat) (A : Option Addr) (c : Nat) (w : World), lit + k = 12 → bs < 2 ^ lit → ns.length + 2 ^ k ≤ 100000 → RdS w bd bt base f ns u A c →
    Calls Tryd.prog 38 #[.pointer (some ⟨bd, 0, none⟩), .slice (some ⟨bt, 0, none⟩) 4096 tc, .int .i64 lit, .int .i64 bs] w (RdPost bd bt base f k (sOf bs) ns u w)
  | 0, lit, bs, ns, u, A, c, w, hl, hb, _, hS => by
    obtain rfl : lit = 12 := by omega
    exact reduce_leaf bd bt base tc f bs hb ns u A c w hS
  | k + 1, lit, bs, ns, u, A, c, w, hl, hb, hn, hS => by
    have hkl : 11 - k = lit := by omega
    have hp : 2 ^ (k + 1) = 2 * 2 ^ k := by rw [Nat.pow_succ]; omega
    have e1 : upd (sOf bs) (11 - k) true = sOf (bs ||| 2 ^ lit) := by rw [hkl]; exact sOf_high _ _
    have e0 : upd (sOf bs) (11 - k) false = sOf bs := by rw [hkl]; exact sOf_low hb
    have c1 := bld_len f k (sOf (bs ||| 2 ^ lit)) ns
    have c2 := bld_len f k (sOf bs) (bld k f (sOf (bs ||| 2 ^ lit)) ns).1
    have hbld : bld (k + 1) f (sOf bs) ns = mkN (bld k f (sOf bs) (bld k f (sOf (bs ||| 2 ^ lit)) ns).1).1 lit (bld k f (sOf (bs ||| 2 ^ lit)) ns).2 (bld k f (sOf bs) (bld k f (sOf (bs ||| 2 ^ lit)) ns).1).2 := by
      simp only [bld]
      rw [e1, e0, hkl]
    refine reduce_tail bd bt base tc f k lit (lit + 1) bs ns _ _ _ rfl hl hb hbld (bld k f (sOf (bs ||| 2 ^ lit)) ns).1 hn (by omega) u A c w hS _ rfl (Lib.hid ?_) (Lib.hid fun V v A c hV => ?_)
    · exact reduce_any bd bt base tc f k (lit + 1) (bs ||| 2 ^ lit) ns u A c w (by omega) (or_lt hb) (by omega) hS
    · exact reduce_any bd bt base tc f k (lit + 1) bs _ v A c V (by omega) (Nat.lt_of_lt_of_le hb (Nat.pow_le_pow_right (by omega) (by omega))) (by omega) hV
set_option maxRecDepth 100000 in
set_option maxHeartbeats 6400000 in
/-- OfTable: the diagram of the table's function -/
theorem ofTable_any (bt tc : Nat) (f : BF) (hf : F12 f) (w : World) (hT : Tbl w bt f) : Calls Tryd.prog 18 #[.slice (some ⟨bt, 0, none⟩) 4096 tc] w fun e w' => ∃ v, e = .returned v ∧ Dia f w' w'.heap.size v ∧ Below w.heap.size w w' := by
  have hbt := hT.lt
  obtain ⟨W, hW⟩ : ∃ W, W = (w.alloc (.cells #[.slice none 0 0, .int .i64 0] 29)).alloc (.cells #[.slice none 0 0, .int .i64 0] 29) := ⟨_, rfl⟩
  have hb : Below w.heap.size w W := by rw [hW]; exact ((Below.refl _ _).alloc (Nat.le_refl _) _).alloc (by simp) _
  have hz : W.heap.size = w.heap.size + 2 := by rw [hW]; simp
  have k0 : W.heap[w.heap.size]? = some (.cells #[.slice none 0 0, .int .i64 0] 29 (0, 0)) := by rw [hW]; exact (Below.heap_alloc _ _ _ (by simp)).trans (heap_alloc_new w _)
  have k1 : W.heap[w.heap.size + 1]? = some (.cells #[.slice none 0 0, .int .i64 0] 29 (0, 0)) := by rw [hW]; exact new_at' _ (by simp)
  have hS : RdS W (w.heap.size + 1) bt (w.heap.size + 2) f [] none none 0 := by
    obtain ⟨cur, t1, t2⟩ := hT
    exact ⟨k1, OwnE.nil _ _ _ _ _, rfl, ⟨cur, (hb.block _ hbt).trans t1, t2⟩, by omega, by omega⟩
  have s0 : sOf 0 = fun _ => false := by funext x; simp [sOf]
  have hcall := reduce_any (w.heap.size + 1) bt (w.heap.size + 2) tc f 12 0 0 [] none none 0 W rfl (by decide) (by decide) hS
  unfold RdPost at hcall
  rw [s0, show bld 12 f (fun _ => false) [] = can f [] from rfl] at hcall
  have HC := Lib.hid hcall
  have HB := Lib.hid (And.intro hb (And.intro hz (And.intro k0 hf)))
  clear hcall hS s0 hb hz k0 k1 hT hbt hf
  go_enter Tryd.func18, Tryd.ntmps18
  go_wp2_with fail
  rw [← hW]
  clear hW
  refine HC.out.mono ?_
  rintro e V ⟨rfl, ⟨u', A, c, hS, hn⟩, hk⟩
  obtain ⟨hb, hz, k0, hf⟩ := HB.out
  have hsz := hk.size
  have k0V : V.heap[w.heap.size]? = some (.cells #[.slice none 0 0, .int .i64 0] 29 (0, 0)) := (hk.block _ (by omega) (fun h => by rcases h with h | h; omega; cases h)).trans k0
  obtain ⟨y0, y1⟩ := cells2 hS.kd
  have z1 := Lib.frozen_of_heap hS.kd 1
  have h1 := heap_setCell_same _ _ 1 _ _ (.int .i64 (can f []).2) hS.kd
  have kd1 : (V.setCell ⟨w.heap.size + 1, 1, none⟩ (.int .i64 (can f []).2)).heap[w.heap.size + 1]? = some (.cells #[.slice A (can f []).1.length c, .int .i64 (can f []).2] 29 (0, 0)) := by simpa using h1
  obtain ⟨V1, hV1⟩ : ∃ V1, V1 = V.setCell ⟨w.heap.size + 1, 1, none⟩ (.int .i64 (can f []).2) := ⟨_, rfl⟩
  rw [← hV1] at kd1
  have k0V1 : V1.heap[w.heap.size]? = some (.cells #[.slice none 0 0, .int .i64 0] 29 (0, 0)) := by rw [hV1]; exact (heap_setCell_other _ _ _ _ (show w.heap.size ≠ w.heap.size + 1 by omega)).trans k0V
  have hO1 : OwnNd V1 (w.heap.size + 2) (.slice A (can f []).1.length c) (can f []).1 := by rw [hV1]; exact OwnE.low hS.own (by omega)
  obtain ⟨V7, hV7, kr7, ko7, hb7, hD7⟩ := fill6 hf k0V1 hO1 (by omega)
  have hbf : Below w.heap.size w V7 := by
    refine (hb.trans (Below.trans (hk.toBelow (by omega) fun b h => by rcases h with h | h; omega; cases h) ?_)).trans hb7
    rw [hV1]
    exact (Below.refl _ _).setCell (p := ⟨w.heap.size + 1, 1, none⟩) (by show w.heap.size ≤ w.heap.size + 1; omega) _
  obtain ⟨x0, x1⟩ := cells2 kd1
  obtain ⟨d0, d1⟩ := cells2 k0V1
  have f0 := Lib.frozen_of_heap k0V1 0
  have f1 := Lib.frozen_of_heap k0V1 1
  obtain ⟨g0, g1⟩ := cells2 kr7
  rw [hV1] at x0 x1 d0 d1 f0 f1 hV7
  have HZ := Lib.hid (And.intro hD7 hbf)
  clear hb hz k0 hf hsz k0V hS h1 kd1 k0V1 hO1 kr7 ko7 hb7 hD7 hbf hk hn hV1 HB HC
  generalize (can f []).1.length = n at *
  generalize ((can f []).2 : Int) = x at *
  go_wp2
  rw [← hV7]
  refine bodyPost_ret (v := .agg #[.slice A n c, .int .i64 x]) (by simp [results, Tryd.results18, go_sem, g0, g1]) rfl ?_
  exact ⟨_, rfl, HZ.out.1, HZ.out.2⟩
end Go.Proofs.YtplmbmecjhmiiaaDoor
