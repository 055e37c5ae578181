/- The document's ways: the paths from a reference to true. -/
import Derived.Test.YtplmbmecjhmiiaaPth6
import Derived.Test.YtplmbmecjhmiiaaPthM6
import Derived.Test.YtplmbmecjhmiiaaOfP6
import Derived.Test.YtplmbmecjhmiiaaEval6
namespace Go.Proofs.Ytplmbmecjhmiiaa
open Go Go.RowKit
/-- what ways gives: a row of the call's own, its elements in no block of X -/
def WyPost (X : Nat → Prop) (l : List (List Int × List Int)) (w : World) (e : Ending) (w' : World) : Prop :=
  ∃ v, e = .returned v ∧ OwnP X w' 0 v l ∧ (∀ g, v.ownBlock = some g → w.heap.size ≤ g) ∧ Below w.heap.size w w'
abbrev IntX (X : Nat → Prop) (w : World) (v : Value) (l : List Int) : Prop := IntR w (fun b => b < w.heap.size ∧ ¬ X b) v l
theorem IntX.old {X : Nat → Prop} {w w' : World} {v : Value} {l : List Int} (h : IntX X w v l) (hb : Below w.heap.size w w') : IntX X w' v l :=
  RowB.sub (RowB.keep h ⟨hb.size, fun b i hB hl => World.cell?_of_block (hb.block b hB.1)⟩ (fun _ _ h => h)) (fun b hB => ⟨Nat.lt_of_lt_of_le hB.1 hb.size, hB.2⟩) (fun _ _ h => h)
theorem IntX.stay {X : Nat → Prop} {w w' : World} {v : Value} {l : List Int} (h : IntX X w v l) (hb : Below w.heap.size w w') : IntR w' (fun b => b < w.heap.size ∧ ¬ X b) v l :=
  RowB.keep h ⟨hb.size, fun b i hB hl => World.cell?_of_block (hb.block b hB.1)⟩ (fun _ _ h => h)
/-- a list and one more, in memory of the call's own -/
theorem more_any (w : World) (v : Value) (l : List Int) (h : IntR w (fun b => b < w.heap.size) v l) (hl : l.length ≤ 100000) : ∃ v1 w1, (Builtin.append_ #[46, 46] 46 #[.slice none 0 0, v]).run Try.prog w = .ok v1 w1 ∧ OwnI w1 w.heap.size v1 l ∧ Below w.heap.size w w1 := by
  obtain ⟨i0, hi, hz0, hz1, hz2⟩ := info_parts Try.infoIntR
  have h1c : ∀ (x : Int) (w : World) (B : Nat → Prop) (cs : List Value), elI.E x w B cs → ∀ u ∈ cs, u.oneCell' = true := fun x w B cs h u hu => by rw [h] at hu; simp at hu; subst hu; rfl
  obtain ⟨A, c, rfl, _⟩ := h.form
  obtain ⟨v1, w1, hr1, hO1, hb1, _, _⟩ := app_row elI 46 46 3 i0 (.int .i64 0) 1 8 Try.underlying46 hi hz0 hz1 hz2 rfl (by decide) (by decide) h1c w w.heap.size (.slice none 0 0) [] (OwnE.nil _ _ _ _ _) A l.length c l rfl (fun b => b < w.heap.size) (RowB.sub h (fun _ h => h) (fun j cs ⟨z, h1, h2⟩ => ⟨z, h1, h2⟩)) (by simp; omega) (Nat.le_refl _)
  rw [List.nil_append] at hO1
  exact ⟨v1, w1, hr1, hO1, hb1⟩
/-- .. the one from a block of its own -/
theorem more_one (w : World) (base z : Nat) (v : Value) (l : List Int) (x : Int) (h : OwnI w base v l) (hl : l.length ≤ 100000) (hb : base ≤ w.heap.size) (hz : w.heap[z]? = some (.cells #[.int .i64 x] 3 (0, 0))) : ∃ v1 w1, (Builtin.append_ #[46, 46] 46 #[v, .slice (some ⟨z, 0, none⟩) 1 1]).run Try.prog w = .ok v1 w1 ∧ OwnI w1 base v1 (l ++ [x]) ∧ Below base w w1 := by
  obtain ⟨i0, hi, hz0, hz1, hz2⟩ := info_parts Try.infoIntR
  have h1c : ∀ (x : Int) (w : World) (B : Nat → Prop) (cs : List Value), elI.E x w B cs → ∀ u ∈ cs, u.oneCell' = true := fun x w B cs h u hu => by rw [h] at hu; simp at hu; subst hu; rfl
  have hzl := (Array.getElem?_eq_some_iff.1 hz).1
  obtain ⟨v1, w1, hr1, hO1, hb1, _, _⟩ := app_row elI 46 46 3 i0 (.int .i64 0) 1 8 Try.underlying46 hi hz0 hz1 hz2 rfl (by decide) (by decide) h1c w base v l h (some ⟨z, 0, none⟩) 1 1 [x] rfl (fun b => b < w.heap.size) ⟨some ⟨z, 0, none⟩, 1, rfl, ⟨(by decide : (1 : Nat) ≤ 2 ^ 63 - 1), Nat.le_refl _⟩, fun _ => ⟨z, 0, rfl, hzl, hzl, fun j hj => by
    obtain rfl : j = 0 := by omega
    exact ⟨[.int .i64 x], rfl, fun i hi => by
      obtain rfl : i = 0 := by omega
      exact (Lib.cell_of_heap hz 0).trans rfl, x, rfl, rfl⟩⟩⟩ (by omega) hb
  exact ⟨v1, w1, hr1, hO1, hb1⟩
set_option maxRecDepth 100000 in
set_option maxHeartbeats 6400000 in
theorem ways_zero (X : Nat → Prop) (A : Option Addr) (n c x N : Nat) (us : List Nd) (p q : List Int) (sp sn : Value) (w : World) : Calls Try.prog 45 #[.agg #[.slice A n c, .int .i64 x], .int .i64 0, sp, sn] w (WyPost X (pth us N 0 p q) w) := by
  have hb : Below w.heap.size w (w.alloc (.cells #[.slice A n c, .int .i64 x] 24)) := (Below.refl _ _).alloc (Nat.le_refl _) _
  have HF := Lib.hid (show WyPost X (pth us N 0 p q) w (.returned (.slice none 0 0)) (w.alloc (.cells #[.slice A n c, .int .i64 x] 24)) from ⟨_, rfl, by rw [pth_zero]; exact OwnE.nil _ _ _ _ _, nofun, hb⟩)
  generalize hPost : WyPost X (pth us N 0 p q) w = Post at *
  clear hPost hb
  go_enter Try.func45, Try.ntmps45
  go_wp2
  exact HF.out
set_option maxRecDepth 100000 in
set_option maxHeartbeats 6400000 in
theorem ways_one (X : Nat → Prop) (A : Option Addr) (n c x N : Nat) (us : List Nd) (p q : List Int) (sp sn : Value) (w : World) (hX : ∀ b, X b → b < w.heap.size) (hp : IntX X w sp p) (hq : IntX X w sn q) : Calls Try.prog 45 #[.agg #[.slice A n c, .int .i64 x], .int .i64 1, sp, sn] w (WyPost X (pth us (N + 1) 1 p q) w) := by
  obtain ⟨A1, c1, rfl, _⟩ := IntR.form hp
  obtain ⟨A2, c2, rfl, _⟩ := IntR.form hq
  obtain ⟨V, hV⟩ : ∃ V, V = (w.alloc (.cells #[.slice A n c, .int .i64 x] 24)).alloc (.cells #[.slice A1 p.length c1, .slice A2 q.length c2] 52) := ⟨_, rfl⟩
  have hb : Below w.heap.size w V := by rw [hV]; exact ((Below.refl _ _).alloc (Nat.le_refl _) _).alloc (by simp) _
  have k : V.heap[w.heap.size + 1]? = some (.cells #[.slice A1 p.length c1, .slice A2 q.length c2] 52 (0, 0)) := by rw [hV]; exact new_at' _ (by simp)
  have hO : OwnP X V 0 (.slice (some ⟨w.heap.size + 1, 0, none⟩) 1 1) [(p, q)] := by
    refine ⟨[.slice A1 p.length c1, .slice A2 q.length c2], ⟨rfl, .inr ⟨w.heap.size + 1, 1, _, rfl, Nat.zero_le _, k, Nat.le_refl _, (by decide : (1 : Nat) ≤ 2 ^ 63 - 1), rfl, rfl⟩⟩, fun j y hj => ?_⟩
    have hj0 : j = 0 := by have := (List.getElem?_eq_some_iff.1 hj).1; simp at this; exact this
    subst hj0
    simp at hj
    subst hj
    have hlt := lt_of_heap k
    exact ⟨_, _, rfl, RowB.sub (hp.stay hb) (fun b hB => ⟨⟨Nat.zero_le _, by have := hB.1; omega, fun e => by simp [Value.ownBlock] at e; have := hB.1; omega⟩, hB.2⟩) (fun _ _ h => h), RowB.sub (hq.stay hb) (fun b hB => ⟨⟨Nat.zero_le _, by have := hB.1; omega, fun e => by simp [Value.ownBlock] at e; have := hB.1; omega⟩, hB.2⟩) (fun _ _ h => h)⟩
  have HF := Lib.hid (show WyPost X (pth us (N + 1) 1 p q) w (.returned (.slice (some ⟨w.heap.size + 1, 0, none⟩) 1 1)) V from ⟨_, rfl, by rw [pth_one]; exact hO, fun g hg => by simp [Value.ownBlock] at hg; omega, hb⟩)
  generalize hPost : WyPost X (pth us (N + 1) 1 p q) w = Post at *
  generalize p.length = n1 at *
  generalize q.length = n2 at *
  clear hPost hb k hO hp hq hX
  go_enter Try.func45, Try.ntmps45
  go_wp2
  rw [← hV]
  exact HF.out
set_option maxRecDepth 100000 in
set_option maxHeartbeats 6400000 in
/-- the two results, joined -/
theorem ways_join (X : Nat → Prop) (w wq wr w4 : World) (v1 v2 : Value) (l1 l2 : List (List Int × List Int)) (h1 : OwnP X wr 0 v1 l1) (hv1 : ∀ g, v1.ownBlock = some g → wq.heap.size ≤ g) (h2 : OwnP (fun b => X b ∨ v1.ownBlock = some b) w4 0 v2 l2) (hb4 : Below wr.heap.size wr w4) (hb : Below w.heap.size w wr) (hq : w.heap.size ≤ wq.heap.size) (n1 : l1.length ≤ 4096) (n2 : l2.length ≤ 4096) :
    ∃ v3 w5, (Builtin.append_ #[25, 25] 25 #[v1, v2]).run Try.prog w4 = .ok v3 w5 ∧ WyPost X (l1 ++ l2) w (.returned v3) w5 := by
  obtain ⟨i0, hi, hz0, hz1, hz2⟩ := info_parts Try.infoPath
  have h1c : ∀ (x : List Int × List Int) (w : World) (B : Nat → Prop) (cs : List Value), (elP X).E x w B cs → ∀ u ∈ cs, u.oneCell' = true := fun x w B cs ⟨s, t, he, hs, ht⟩ u hu => by
    rw [he] at hu
    obtain ⟨A, n, c, _, hs1⟩ := IntR.one hs
    obtain ⟨A', n', c', _, ht1⟩ := IntR.one ht
    simp at hu
    rcases hu with rfl | rfl
    · exact hs1
    · exact ht1
  have h14 := h1.old hb4
  have hrow := OwnE.row h2 (by decide) (by unfold maxLen; omega)
  obtain ⟨A, c, rfl⟩ := h2.form
  obtain ⟨v3, w5, hr, hO, hb5, hk, hg⟩ := app_row (elP X) 25 25 52 i0 (.agg #[.slice none 0 0, .slice none 0 0]) 2 48 Try.underlying25 hi hz0 hz1 hz2 rfl (by decide) (by decide) h1c w4 0 v1 l1 h14 A l2.length c l2 rfl (Btw 0 w4.heap.size)
    (RowB.sub hrow (fun _ h => h) (fun j cs ⟨x, hx, s, t, he, hs, ht⟩ => ⟨x, hx, s, t, he, RowB.sub hs (fun b hb => ⟨⟨hb.1.1, hb.1.2, fun e => hb.2 (.inr e.symm)⟩, fun h => hb.2 (.inl h)⟩) (fun _ _ h => h), RowB.sub ht (fun b hb => ⟨⟨hb.1.1, hb.1.2, fun e => hb.2 (.inr e.symm)⟩, fun h => hb.2 (.inl h)⟩) (fun _ _ h => h)⟩)) (by omega) (Nat.zero_le _)
  have hb04 := hb.trans (hb4.mono hb.size)
  refine ⟨v3, w5, hr, v3, rfl, hO, fun g hg3 => ?_, hb04.trans ⟨hb5.os, hb5.tape, hb5.output, hb5.size, fun k hk2 => hk k (Nat.lt_of_lt_of_le hk2 hb04.size) fun e => ?_⟩⟩
  · rcases hg g hg3 with h | h
    · exact Nat.le_trans hq (hv1 g h)
    · exact Nat.le_trans hb04.size h
  · have := hv1 k e.symm
    omega
set_option maxRecDepth 100000 in
set_option maxHeartbeats 6400000 in
theorem ways_node (X : Nat → Prop) (A : Option Addr) (n c i N : Nat) (us : List Nd) (nd : Nd) (p q : List Int) (sp sn : Value) (w : World) (x : Nat) (hX : ∀ b, X b → b < w.heap.size) (hp : IntX X w sp p) (hq : IntX X w sn q) (hN : NdR w (fun b => b < w.heap.size) A n c (us.map ni)) (hn : us.length = n) (hl : n ≤ 100000) (hO : Ord us) (hi : us[i]? = some nd) (hlen : p.length + q.length + N + 1 ≤ 1000) (hfu : 12 - litR us (i + 2) < N + 1)
    (IH : ∀ (X : Nat → Prop) (r : Nat) (p q : List Int) (sp sn : Value) (w : World), (∀ b, X b → b < w.heap.size) → IntX X w sp p → IntX X w sn q → NdR w (fun b => b < w.heap.size) A n c (us.map ni) → r < n + 2 → 12 - litR us r < N → p.length + q.length + N ≤ 1000 → Calls Try.prog 45 #[.agg #[.slice A n c, .int .i64 x], .int .i64 r, sp, sn] w (WyPost X (pth us N r p q) w)) :
    Calls Try.prog 45 #[.agg #[.slice A n c, .int .i64 x], .int .i64 ((i + 2 : Nat) : Int), sp, sn] w (WyPost X (pth us (N + 1) (i + 2) p q) w) := by
  obtain ⟨B, hB⟩ : ∃ B, B = w.alloc (.cells #[.slice A n c, .int .i64 x] 24) := ⟨_, rfl⟩
  obtain ⟨W, hW⟩ : ∃ W, W = B.alloc (.cells #[.int .i64 nd.l, .int .i64 nd.h, .int .i64 nd.o] 32) := ⟨_, rfl⟩
  have hbB : Below w.heap.size w B := by rw [hB]; exact (Below.refl _ _).alloc (Nat.le_refl _) _
  have hzB : B.heap.size = w.heap.size + 1 := by rw [hB]; simp
  have hbW : Below B.heap.size B W := by rw [hW]; exact (Below.refl _ _).alloc (Nat.le_refl _) _
  have hzW : W.heap.size = w.heap.size + 2 := by rw [hW]; simp; omega
  have k0 : B.heap[w.heap.size]? = some (.cells #[.slice A n c, .int .i64 x] 24 (0, 0)) := by rw [hB]; exact heap_alloc_new w _
  have k1 : W.heap[w.heap.size + 1]? = some (.cells #[.int .i64 nd.l, .int .i64 nd.h, .int .i64 nd.o] 32 (0, 0)) := by rw [hW, ← hzB]; exact heap_alloc_new B _
  have k0W := (hbW.block _ (by omega)).trans k0
  obtain ⟨o1, o2, o3, o4, o5⟩ := hO i nd hi
  have hni := (List.getElem?_eq_some_iff.1 hi).1
  obtain ⟨b, off, hA, hbb, c0, c1, c2⟩ := (hN.on hbB).node hn hi
  have HC : Hid (∀ V, Below W.heap.size W V → ((V.cell? ⟨w.heap.size, 0, none⟩ = some (.slice A n c) ∧ V.cell? ⟨w.heap.size, 1, none⟩ = some (.int .i64 x)) ∧ V.cell? ⟨w.heap.size + 1, 0, none⟩ = some (.int .i64 nd.l) ∧ V.cell? ⟨w.heap.size + 1, 1, none⟩ = some (.int .i64 nd.h) ∧ V.cell? ⟨w.heap.size + 1, 2, none⟩ = some (.int .i64 nd.o))) := Lib.hid fun V hV => by
    have h0 := (hV.block _ (by omega)).trans k0W
    have h1 := (hV.block _ (by omega)).trans k1
    obtain ⟨y0, y1⟩ := cells2 h0
    exact ⟨⟨y0, y1⟩, (Lib.cell_of_heap h1 0).trans rfl, (Lib.cell_of_heap h1 1).trans rfl, (Lib.cell_of_heap h1 2).trans rfl⟩
  have HBW : Hid (Below w.heap.size w W) := Lib.hid (hbB.trans (hbW.mono (by omega)))
  have HLEN := Lib.hid hlen
  have HP := Lib.hid hp
  have HQ := Lib.hid hq
  have HX := Lib.hid hX
  have HN := Lib.hid hN
  have HI := Lib.hid IH
  rw [litR_node hi] at hfu
  have HO : Hid ((nd.h < n + 2 ∧ nd.o < n + 2 ∧ W.heap.size = w.heap.size + 2) ∧ 12 - litR us nd.h < N ∧ 12 - litR us nd.o < N) := Lib.hid ⟨⟨by omega, by omega, hzW⟩, by omega, by omega⟩
  have HL : Hid ((pth us N nd.h (p ++ [(nd.l : Int)]) q).length ≤ 4096 ∧ (pth us N nd.o p (q ++ [(nd.l : Int)])).length ≤ 4096) := Lib.hid (by
    have a := pth_len hO N nd.h (p ++ [(nd.l : Int)]) q (by omega)
    have b := pth_len hO N nd.o p (q ++ [(nd.l : Int)]) (by omega)
    have ta : 2 ^ (12 - litR us nd.h) ≤ 2 ^ 12 := Nat.pow_le_pow_right (by omega) (by omega)
    have tb : 2 ^ (12 - litR us nd.o) ≤ 2 ^ 12 := Nat.pow_le_pow_right (by omega) (by omega)
    omega)
  have HR1 : Hid (∀ V, Below W.heap.size W V → ∃ v1 w1, (Builtin.append_ #[46, 46] 46 #[.slice none 0 0, sp]).run Try.prog V = .ok v1 w1 ∧ OwnI w1 V.heap.size v1 p ∧ Below V.heap.size V w1) := Lib.hid fun V hV => by
    have hb := HBW.out.trans (hV.mono HBW.out.size)
    exact more_any V sp p (RowB.sub (IntX.stay hp hb) (fun b h => Nat.lt_of_lt_of_le h.1 hb.size) (fun _ _ h => h)) (by omega)
  have HR2 : Hid (∀ V, Below W.heap.size W V → ∃ v1 w1, (Builtin.append_ #[46, 46] 46 #[.slice none 0 0, sn]).run Try.prog V = .ok v1 w1 ∧ OwnI w1 V.heap.size v1 q ∧ Below V.heap.size V w1) := Lib.hid fun V hV => by
    have hb := HBW.out.trans (hV.mono HBW.out.size)
    exact more_any V sn q (RowB.sub (IntX.stay hq hb) (fun b h => Nat.lt_of_lt_of_le h.1 hb.size) (fun _ _ h => h)) (by omega)
  rw [pth_node hi]
  generalize hPost : WyPost X (pth us N nd.h (p ++ [(nd.l : Int)]) q ++ pth us N nd.o p (q ++ [(nd.l : Int)])) w = Post
  have HPost := Lib.hid hPost
  have q0 : ¬ ((i + 2 : Nat) : Int) = 0 := by omega
  have q1 : ¬ ((i + 2 : Nat) : Int) = 1 := by omega
  have hw : IntKind.i64.wrap (((i + 2 : Nat) : Int) - 2) = (i : Int) := by rw [IntWalk.i64_in _ (by omega)]; omega
  have kn : (i : Int) < (n : Int) := by omega
  have kk : (0 : Int) ≤ (i : Int) := by omega
  obtain ⟨y0, y1⟩ := cells2 k0
  generalize hqq : ((i + 2 : Nat) : Int) = qq at *
  have q0' : (qq == 0) = false := by simpa using q0
  have q1' : (qq == 1) = false := by simpa using q1
  obtain ⟨fp, fc, rfl, _⟩ := IntR.form hp
  obtain ⟨fq, fd, rfl, _⟩ := IntR.form hq
  generalize hnp : p.length = np at HR1 HP ⊢
  generalize hnq : q.length = nq at HR2 HQ ⊢
  have HNP := Lib.hid (And.intro hnp hnq)
  clear hnp hnq
  rw [hB] at y0 y1 c0 c1 c2 hW
  subst hA
  clear hPost hqq hp hq hX hN IH hn hl hO hi hlen hfu hbB hzB hbW hzW k0 k1 k0W o1 o2 o3 o4 o5 hni hbb hB
  go_enter Try.func45, Try.ntmps45
  go_wp2_with fail
  rw [← hW]
  clear hW y0 y1 c0 c1 c2 q0 q1 q0' q1' hw kn kk
  refine wp_region_held_drew (S := fun V => (V.cell? ⟨w.heap.size, 0, none⟩ = some (.slice (some ⟨b, off, none⟩) n c) ∧ V.cell? ⟨w.heap.size, 1, none⟩ = some (.int .i64 x)) ∧ V.cell? ⟨w.heap.size + 1, 0, none⟩ = some (.int .i64 nd.l) ∧ V.cell? ⟨w.heap.size + 1, 1, none⟩ = some (.int .i64 nd.h) ∧ V.cell? ⟨w.heap.size + 1, 2, none⟩ = some (.int .i64 nd.o)) (by kernel_rfl) (HC.out _ (Below.refl _ W).drew) (fun _ => ?_)
  refine tk 0 (HC.out _ (Below.refl _ W).drew) ?_
  try simp only [Act.put, pA, pB, pC]
  refine tk 2 (HC.out _ (Below.refl _ W).drew) ?_
  try simp only [Act.put, pA, pB, pC]
  refine tk 3 (HC.out _ (Below.refl _ W).drew) ?_
  try simp only [Act.put, pA, pB, pC]
  generalize hA : ({ tmps := _, defers := [] } : Act) = a0
  refine wpAnyH_par (Bs := Bool × Bool × Bool × Bool) (L := fun ⟨b1, b4, b5, b6⟩ => #[true, b1, true, true, b4, b5, b6]) (chk := fun ⟨b1, b4, b5, b6⟩ i => (i == 1 && !b1) || ((i == 4 && !b4) || ((i == 5 && (b1 && (b4 && !b5))) || (i == 6 && (b5 && !b6))))) (full := fun ⟨b1, b4, b5, b6⟩ => b1 && (b4 && (b5 && b6))) (by rintro ⟨b1, b4, b5, b6⟩; revert b1 b4 b5 b6; decide +kernel) (by rintro ⟨b1, b4, b5, b6⟩; revert b1 b4 b5 b6; decide +kernel)
    (Inv := fun ⟨b1, b4, b5, b6⟩ a wq => ∃ (u1 u4 u5 u6 : Value), a = ((((a0.put (some 27) u1).put (some 30) u4).put (some 31) u5).put (some 10) u6) ∧ Below W.heap.size W wq ∧ (b1 = true → b5 = false → OwnI wq W.heap.size u1 p) ∧ (b4 = true → b5 = false → ∃ z, u4 = .slice (some ⟨z, 0, none⟩) 1 1 ∧ wq.heap[z]? = some (.cells #[.int .i64 nd.l] 3 (0, 0))) ∧ (b5 = true → OwnI wq W.heap.size u5 (p ++ [(nd.l : Int)])) ∧ (b6 = true → u6 = u5) ∧ (b5 = true → b1 = true ∧ b4 = true) ∧ (b6 = true → b5 = true)) ?_ ?_ (b := ⟨false, false, false, false⟩) rfl (by decide) ?_
  rotate_left
  · rintro ⟨b1, b4, b5, b6⟩ a wq i ⟨u1, u4, u5, u6, rfl, hB, i1, i4, i5, i6, g5, g6⟩ hk
    simp only [Bool.or_eq_true, Bool.and_eq_true, beq_iff_eq, Bool.not_eq_true'] at hk
    subst hA
    have hzq : W.heap.size ≤ wq.heap.size := hB.size
    rcases hk with ⟨rfl, rfl⟩ | ⟨rfl, rfl⟩ | ⟨rfl, rfl, rfl, rfl⟩ | ⟨rfl, rfl, rfl⟩
    · have e5 : b5 = false := by cases b5; rfl; exact absurd (g5 rfl).1 (by simp)
      have e6 : b6 = false := by cases b6; rfl; exact absurd (g6 rfl) (by simp [e5])
      subst e5 e6
      obtain ⟨v1, w1, hr1, hO1, hb1⟩ := HR1.out wq hB
      have hB1 := hB.trans (hb1.mono hzq)
      refine step_op rfl (by rfl) (fun K hK => ?_)
      refine Lib.wp_append_run _ _ _ _ _ rfl _ _ rfl rfl _ w1 hr1 ?_
      exact hK _ _ ⟨HC.out _ hB1, ⟨true, b4, false, false⟩, rfl, _, u4, u5, u6, rfl, hB1, fun _ _ => OwnI.low hO1 hzq, fun h h2 => (let ⟨z, h3, h4⟩ := i4 h h2; ⟨z, h3, (hb1.block _ (lt_of_heap h4)).trans h4⟩), nofun, nofun, nofun, nofun⟩
    · have e5 : b5 = false := by cases b5; rfl; exact absurd (g5 rfl).2 (by simp)
      have e6 : b6 = false := by cases b6; rfl; exact absurd (g6 rfl) (by simp [e5])
      subst e5 e6
      have hb1 : Below wq.heap.size wq (wq.alloc (.cells #[.int .i64 nd.l] 3)) := (Below.refl _ _).alloc (Nat.le_refl _) _
      have hB1 := hB.trans (hb1.mono hzq)
      refine step_op rfl (by rfl) (fun K hK => ?_)
      simp only [Act.put, List.setIfInBounds_toArray, List.set_cons_zero, List.set_cons_succ]
      go_simp
      exact hK _ _ ⟨HC.out _ hB1, ⟨b1, true, false, false⟩, rfl, u1, _, u5, u6, rfl, hB1, fun h h2 => (i1 h h2).old hb1, fun _ _ => ⟨_, rfl, heap_alloc_new wq _⟩, nofun, nofun, nofun, nofun⟩
    · have e6 : b6 = false := by cases b6; rfl; exact absurd (g6 rfl) (by simp)
      subst e6
      obtain ⟨z, rfl, hz⟩ := i4 rfl rfl
      obtain ⟨v1, w1, hr1, hO1, hb1⟩ := more_one wq _ z u1 _ _ (i1 rfl rfl) (by have := HLEN.out; omega) hzq hz
      have hB1 := hB.trans hb1
      refine step_op rfl (by rfl) (fun K hK => ?_)
      refine Lib.wp_append_run _ _ _ _ _ rfl _ _ rfl rfl _ w1 hr1 ?_
      exact hK _ _ ⟨HC.out _ hB1, ⟨true, true, true, false⟩, rfl, u1, _, _, u6, rfl, hB1, fun _ h => absurd h (by simp), fun _ h => absurd h (by simp), fun _ => hO1, nofun, fun _ => ⟨rfl, rfl⟩, nofun⟩
    · have h5 := i5 rfl
      have h1 := (g5 rfl)
      refine step_op rfl (by rfl) (fun K hK => ?_)
      simp only [Act.put, List.setIfInBounds_toArray, List.set_cons_zero, List.set_cons_succ]
      go_simp
      exact hK _ _ ⟨HC.out _ hB, ⟨b1, b4, true, true⟩, rfl, u1, u4, u5, _, rfl, hB, fun _ h => absurd h (by simp), fun _ h => absurd h (by simp), fun _ => h5, fun _ => rfl, fun _ => h1, fun _ => rfl⟩
  · exact ⟨undef, undef, undef, undef, by subst hA; rfl, (Below.refl _ _).drew, nofun, nofun, nofun, nofun, nofun, nofun⟩
  rintro ⟨b1, b4, b5, b6⟩ a wq hf ⟨u1, u4, u5, u6, rfl, hB, _, _, i5, i6, _, _⟩
  simp only [Bool.and_eq_true] at hf
  obtain ⟨rfl, rfl, rfl, rfl⟩ := hf
  subst hA
  obtain rfl := i6 rfl
  replace i5 := i5 rfl
  clear i6
  simp only [Act.put, List.setIfInBounds_toArray, List.set_cons_zero, List.set_cons_succ]
  have HU := Lib.hid (And.intro hB i5)
  clear hB i5
  obtain ⟨⟨y0, y1⟩, x0, x1, x2⟩ := HC.out _ HU.out.1
  have HB1 : Hid (Below w.heap.size w wq) := Lib.hid (HBW.out.trans (HU.out.1.mono HBW.out.size))
  have HS1 : Hid (W.heap.size ≤ wq.heap.size ∧ w.heap.size ≤ W.heap.size) := Lib.hid ⟨HU.out.1.size, HBW.out.size⟩
  have hcall1 := HI.out X nd.h (p ++ [(nd.l : Int)]) q u6 (.slice fq nq fd) wq (fun b hb => Nat.lt_of_lt_of_le (HX.out b hb) HB1.out.size)
    (RowB.sub (OwnI.int HU.out.2 (by have := HLEN.out; rw [List.length_append, List.length_singleton]; unfold maxLen; omega)) (fun b hb => ⟨hb.2.1, fun h => by have := HX.out b h; have := HS1.out.2; have := hb.1; omega⟩) (fun _ _ h => h))
    (IntX.old HQ.out HB1.out) ((HN.out.on HB1.out).up fun b hb => Nat.lt_of_lt_of_le hb HB1.out.size) HO.out.1.1 HO.out.2.1 (by have := HLEN.out; rw [List.length_append, List.length_singleton]; omega)
  go_wp2_with fail
  clear y0 y1 x0 x1 x2
  refine hcall1.mono ?_
  clear hcall1
  rintro e w2 ⟨v1, rfl, hO1, hv1, hb2⟩
  have HW2 : Hid (Below W.heap.size W w2) := Lib.hid (HU.out.1.trans (hb2.mono HS1.out.1))
  have HR : Hid (OwnP X w2 0 v1 (pth us N nd.h (p ++ [(nd.l : Int)]) q) ∧ ∀ g, v1.ownBlock = some g → wq.heap.size ≤ g) := Lib.hid ⟨hO1, hv1⟩
  have HC2 : Hid (∀ V, Below w2.heap.size w2 V → ((V.cell? ⟨w.heap.size, 0, none⟩ = some (.slice (some ⟨b, off, none⟩) n c) ∧ V.cell? ⟨w.heap.size, 1, none⟩ = some (.int .i64 x)) ∧ V.cell? ⟨w.heap.size + 1, 0, none⟩ = some (.int .i64 nd.l) ∧ V.cell? ⟨w.heap.size + 1, 1, none⟩ = some (.int .i64 nd.h) ∧ V.cell? ⟨w.heap.size + 1, 2, none⟩ = some (.int .i64 nd.o))) := Lib.hid fun V hV => HC.out V (HW2.out.trans (hV.mono HW2.out.size))
  have HR3 : Hid (∀ V, Below w2.heap.size w2 V → ∃ v1 w1, (Builtin.append_ #[46, 46] 46 #[.slice none 0 0, .slice fq nq fd]).run Try.prog V = .ok v1 w1 ∧ OwnI w1 V.heap.size v1 q ∧ Below V.heap.size V w1) := Lib.hid fun V hV => HR2.out V (HW2.out.trans (hV.mono HW2.out.size))
  have HS2 : Hid (wq.heap.size ≤ w2.heap.size) := Lib.hid hb2.size
  clear hO1 hv1 hb2
  go_wp2_with fail
  refine wp_region_held_drew (S := fun V => (V.cell? ⟨w.heap.size, 0, none⟩ = some (.slice (some ⟨b, off, none⟩) n c) ∧ V.cell? ⟨w.heap.size, 1, none⟩ = some (.int .i64 x)) ∧ V.cell? ⟨w.heap.size + 1, 0, none⟩ = some (.int .i64 nd.l) ∧ V.cell? ⟨w.heap.size + 1, 1, none⟩ = some (.int .i64 nd.h) ∧ V.cell? ⟨w.heap.size + 1, 2, none⟩ = some (.int .i64 nd.o)) (by kernel_rfl) (HC2.out _ (Below.refl _ w2).drew) (fun _ => ?_)
  refine tk 0 (HC2.out _ (Below.refl _ w2).drew) ?_
  try simp only [Act.put, pA, pB, pC]
  refine tk 2 (HC2.out _ (Below.refl _ w2).drew) ?_
  try simp only [Act.put, pA, pB, pC]
  refine tk 3 (HC2.out _ (Below.refl _ w2).drew) ?_
  try simp only [Act.put, pA, pB, pC]
  generalize hA : ({ tmps := _, defers := [] } : Act) = a0
  refine wpAnyH_par (Bs := Bool × Bool × Bool × Bool) (L := fun ⟨b1, b4, b5, b6⟩ => #[true, b1, true, true, b4, b5, b6]) (chk := fun ⟨b1, b4, b5, b6⟩ i => (i == 1 && !b1) || ((i == 4 && !b4) || ((i == 5 && (b1 && (b4 && !b5))) || (i == 6 && (b5 && !b6))))) (full := fun ⟨b1, b4, b5, b6⟩ => b1 && (b4 && (b5 && b6))) (by rintro ⟨b1, b4, b5, b6⟩; revert b1 b4 b5 b6; decide +kernel) (by rintro ⟨b1, b4, b5, b6⟩; revert b1 b4 b5 b6; decide +kernel)
    (Inv := fun ⟨b1, b4, b5, b6⟩ a wq => ∃ (u1 u4 u5 u6 : Value), a = ((((a0.put (some 39) u1).put (some 42) u4).put (some 43) u5).put (some 10) u6) ∧ Below w2.heap.size w2 wq ∧ (b1 = true → b5 = false → OwnI wq w2.heap.size u1 q) ∧ (b4 = true → b5 = false → ∃ z, u4 = .slice (some ⟨z, 0, none⟩) 1 1 ∧ wq.heap[z]? = some (.cells #[.int .i64 nd.l] 3 (0, 0))) ∧ (b5 = true → OwnI wq w2.heap.size u5 (q ++ [(nd.l : Int)])) ∧ (b6 = true → u6 = u5) ∧ (b5 = true → b1 = true ∧ b4 = true) ∧ (b6 = true → b5 = true)) ?_ ?_ (b := ⟨false, false, false, false⟩) rfl (by decide) ?_
  rotate_left
  · rintro ⟨b1, b4, b5, b6⟩ a wq i ⟨u1, u4, u5, u6, rfl, hB, i1, i4, i5, i6, g5, g6⟩ hk
    simp only [Bool.or_eq_true, Bool.and_eq_true, beq_iff_eq, Bool.not_eq_true'] at hk
    subst hA
    have hzq : w2.heap.size ≤ wq.heap.size := hB.size
    rcases hk with ⟨rfl, rfl⟩ | ⟨rfl, rfl⟩ | ⟨rfl, rfl, rfl, rfl⟩ | ⟨rfl, rfl, rfl⟩
    · have e5 : b5 = false := by cases b5; rfl; exact absurd (g5 rfl).1 (by simp)
      have e6 : b6 = false := by cases b6; rfl; exact absurd (g6 rfl) (by simp [e5])
      subst e5 e6
      obtain ⟨v1, w1, hr1, hO1, hb1⟩ := HR3.out wq hB
      have hB1 := hB.trans (hb1.mono hzq)
      refine step_op rfl (by rfl) (fun K hK => ?_)
      refine Lib.wp_append_run _ _ _ _ _ rfl _ _ rfl rfl _ w1 hr1 ?_
      exact hK _ _ ⟨HC2.out _ hB1, ⟨true, b4, false, false⟩, rfl, _, u4, u5, u6, rfl, hB1, fun _ _ => OwnI.low hO1 hzq, fun h h2 => (let ⟨z, h3, h4⟩ := i4 h h2; ⟨z, h3, (hb1.block _ (lt_of_heap h4)).trans h4⟩), nofun, nofun, nofun, nofun⟩
    · have e5 : b5 = false := by cases b5; rfl; exact absurd (g5 rfl).2 (by simp)
      have e6 : b6 = false := by cases b6; rfl; exact absurd (g6 rfl) (by simp [e5])
      subst e5 e6
      have hb1 : Below wq.heap.size wq (wq.alloc (.cells #[.int .i64 nd.l] 3)) := (Below.refl _ _).alloc (Nat.le_refl _) _
      have hB1 := hB.trans (hb1.mono hzq)
      refine step_op rfl (by rfl) (fun K hK => ?_)
      simp only [Act.put, List.setIfInBounds_toArray, List.set_cons_zero, List.set_cons_succ]
      go_simp
      exact hK _ _ ⟨HC2.out _ hB1, ⟨b1, true, false, false⟩, rfl, u1, _, u5, u6, rfl, hB1, fun h h2 => (i1 h h2).old hb1, fun _ _ => ⟨_, rfl, heap_alloc_new wq _⟩, nofun, nofun, nofun, nofun⟩
    · have e6 : b6 = false := by cases b6; rfl; exact absurd (g6 rfl) (by simp)
      subst e6
      obtain ⟨z, rfl, hz⟩ := i4 rfl rfl
      obtain ⟨v1, w1, hr1, hO1, hb1⟩ := more_one wq _ z u1 _ _ (i1 rfl rfl) (by have := HLEN.out; omega) hzq hz
      have hB1 := hB.trans hb1
      refine step_op rfl (by rfl) (fun K hK => ?_)
      refine Lib.wp_append_run _ _ _ _ _ rfl _ _ rfl rfl _ w1 hr1 ?_
      exact hK _ _ ⟨HC2.out _ hB1, ⟨true, true, true, false⟩, rfl, u1, _, _, u6, rfl, hB1, fun _ h => absurd h (by simp), fun _ h => absurd h (by simp), fun _ => hO1, nofun, fun _ => ⟨rfl, rfl⟩, nofun⟩
    · have h5 := i5 rfl
      have h1 := (g5 rfl)
      refine step_op rfl (by rfl) (fun K hK => ?_)
      simp only [Act.put, List.setIfInBounds_toArray, List.set_cons_zero, List.set_cons_succ]
      go_simp
      exact hK _ _ ⟨HC2.out _ hB, ⟨b1, b4, true, true⟩, rfl, u1, u4, u5, _, rfl, hB, fun _ h => absurd h (by simp), fun _ h => absurd h (by simp), fun _ => h5, fun _ => rfl, fun _ => h1, fun _ => rfl⟩
  · exact ⟨undef, undef, undef, u6, by subst hA; rfl, (Below.refl _ _).drew, nofun, nofun, nofun, nofun, nofun, nofun⟩
  rintro ⟨b1, b4, b5, b6⟩ a wq hf ⟨u1, u4, u5, u6, rfl, hB, _, _, i5, i6, _, _⟩
  simp only [Bool.and_eq_true] at hf
  obtain ⟨rfl, rfl, rfl, rfl⟩ := hf
  subst hA
  obtain rfl := i6 rfl
  replace i5 := i5 rfl
  clear i6
  simp only [Act.put, List.setIfInBounds_toArray, List.set_cons_zero, List.set_cons_succ]
  have HU2 := Lib.hid (And.intro hB i5)
  clear hB i5
  rename World => wr
  obtain ⟨⟨y0, y1⟩, x0, x1, x2⟩ := HC2.out _ HU2.out.1
  have HW3 : Hid (Below W.heap.size W wr) := Lib.hid (HW2.out.trans (HU2.out.1.mono HW2.out.size))
  have HB3 : Hid (Below w.heap.size w wr) := Lib.hid (HBW.out.trans (HW3.out.mono HBW.out.size))
  have hcall2 := HI.out (fun b => X b ∨ v1.ownBlock = some b) nd.o p (q ++ [(nd.l : Int)]) (.slice fp np fc) u6 wr
    (fun b hb => by
      rcases hb with hb | hb
      · exact Nat.lt_of_lt_of_le (HX.out b hb) HB3.out.size
      · have := (own_same HR.out.1 b hb).2; have := HU2.out.1.size; omega)
    (RowB.sub (IntX.stay HP.out HB3.out) (fun b hb => ⟨Nat.lt_of_lt_of_le hb.1 HB3.out.size, fun h => by
      rcases h with h | h
      · exact hb.2 h
      · have := HR.out.2 b h; have := HS1.out; have := hb.1; omega⟩) (fun _ _ h => h))
    (RowB.sub (OwnI.int HU2.out.2 (by have := HLEN.out; rw [List.length_append, List.length_singleton]; unfold maxLen; omega)) (fun b hb => ⟨hb.2.1, fun h => by
      rcases h with h | h
      · have := HX.out b h; have := HS1.out; have := HS2.out; have := hb.1; omega
      · have := (own_same HR.out.1 b h).2; have := hb.1; omega⟩) (fun _ _ h => h))
    ((HN.out.on HB3.out).up fun b hb => Nat.lt_of_lt_of_le hb HB3.out.size) HO.out.1.2.1 HO.out.2.2 (by have := HLEN.out; rw [List.length_append, List.length_singleton]; omega)
  go_wp2_with fail
  refine hcall2.mono ?_
  clear hcall2
  rintro e w4 ⟨v2, rfl, hO2, hv2, hb4⟩
  obtain ⟨v3, w5, hr5, hfin⟩ := ways_join X w wq wr w4 v1 v2 _ _ (HR.out.1.old (HU2.out.1)) HR.out.2 hO2 hb4 HB3.out (by have := HS1.out; omega) HL.out.1 HL.out.2
  have HF := Lib.hid (HPost.out ▸ hfin)
  clear hO2 hv2 hb4 hfin y0 y1 x0 x1 x2
  go_wp2_with (at_builtin; refine Lib.wpList_append_run _ rfl _ _ 25 25 rfl _ _ rfl rfl _ w5 hr5 ?_)
  exact HF.out
/-- the document's ways: the paths from a reference to true -/
theorem ways_any (A : Option Addr) (n c x : Nat) (us : List Nd) (hn : us.length = n) (hl : n ≤ 100000) (hO : Ord us) : ∀ (N : Nat) (X : Nat → Prop) (r : Nat) (p q : List Int) (sp sn : Value) (w : World), (∀ b, X b → b < w.heap.size) → IntX X w sp p → IntX X w sn q → NdR w (fun b => b < w.heap.size) A n c (us.map ni) → r < n + 2 → 12 - litR us r < N → p.length + q.length + N ≤ 1000 → Calls Try.prog 45 #[.agg #[.slice A n c, .int .i64 x], .int .i64 r, sp, sn] w (WyPost X (pth us N r p q) w)
  | 0, _, _, _, _, _, _, _, _, _, _, _, _, h, _ => absurd h (by omega)
  | N + 1, X, r, p, q, sp, sn, w, hX, hp, hq, hN, hr, hf, hlen => by
    by_cases h0 : r = 0
    · subst h0
      exact ways_zero X A n c x (N + 1) us p q sp sn w
    by_cases h1 : r = 1
    · subst h1
      exact ways_one X A n c x N us p q sp sn w hX hp hq
    obtain ⟨i, rfl⟩ : ∃ i, r = i + 2 := ⟨r - 2, by omega⟩
    have hi : us[i]? = some us[i] := List.getElem?_eq_getElem (by omega)
    exact ways_node X A n c i N us us[i] p q sp sn w x hX hp hq hN hn hl hO hi (by omega) hf (ways_any A n c x us hn hl hO N)
end Go.Proofs.Ytplmbmecjhmiiaa
