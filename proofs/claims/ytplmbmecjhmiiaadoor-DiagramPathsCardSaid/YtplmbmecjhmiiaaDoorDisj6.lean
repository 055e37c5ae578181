/- The walk of disjunction: the diagram of the function of terms. -/
import Derived.Test.YtplmbmecjhmiiaaDoorFix6
import Derived.Test.YtplmbmecjhmiiaaDoorTerms6
import Derived.Test.YtplmbmecjhmiiaaDoorCombM6
namespace Go.Proofs.YtplmbmecjhmiiaaDoor
open Go Go.RowKit Go.Maps
/-- where disjunction's variables lie -/
structure DE where
  bw : Nat
  bd : Nat
  p : Nat
  q : Nat
  base : Nat
def DE.X (E : DE) : Nat → Prop := fun b => b = E.p ∨ b = E.q
structure DE.Wf (E : DE) : Prop where
  lt : E.bw < E.base ∧ E.bd < E.base
  nx : ¬ E.X E.bw ∧ ¬ E.X E.bd
  tb : 1 < E.base ∧ ¬ E.X 1
/-- the variables that stay -/
structure DE.Box (E : DE) (w : World) : Prop where
  fw : w.heap[E.bw]? = some (.cells #[.func (.func 32) #[] #[.pointer (some ⟨E.bw, 0, none⟩), .pointer (some ⟨E.bd, 0, none⟩)]] 67 (0, 0))
  d : w.heap[E.bd]? = some (.cells #[.pointer (some ⟨E.p, 0, none⟩)] 65 (0, 0))
  tab : TabW w
theorem DE.Box.keep {E : DE} (hW : E.Wf) {w w' : World} (h : E.Box w) (hk : Ke E.base E.X w w') : E.Box w' := by
  obtain ⟨l1, l2⟩ := hW.lt
  obtain ⟨n1, n2⟩ := hW.nx
  exact ⟨(hk.block _ l1 n1).trans h.fw, (hk.block _ l2 n2).trans h.d, fun j hj => (World.cell?_of_block (a := ⟨1, j, none⟩) (hk.block _ hW.tb.1 hW.tb.2)).trans (h.tab j hj)⟩
/-- the state between two calls -/
def DE.St (E : DE) (w : World) (ns : List Nd) (u : Option Nat) : Prop := E.Box w ∧ BldR w E.p E.q E.base ns u ∧ Good ns
theorem DE.St.old {E : DE} (hW : E.Wf) {w w' : World} {ns : List Nd} {u : Option Nat} (h : E.St w ns u) (hb : Below w.heap.size w w') : E.St w' ns u := by
  obtain ⟨h1, h2, h3⟩ := h
  exact ⟨h1.keep hW (Ke.of (hb.mono h2.base)), h2.old hb, h3⟩
theorem DE.St.ref {E : DE} (hW : E.Wf) {w w' : World} {ns ms : List Nd} {u u' : Option Nat} (h : E.St w ns u) (hk : Ke w.heap.size (fun b => b = E.p ∨ b = E.q ∨ some b = u) w w') (hB : BldR w' E.p E.q E.base ms u') (hG : Good ms) : E.St w' ms u' ∧ Ke w.heap.size (fun b => E.X b ∨ some b = u) w w' := by
  obtain ⟨h1, h2, h3⟩ := h
  have hk' : Ke w.heap.size (fun b => E.X b ∨ some b = u) w w' := hk.sub fun b h => by
    rcases h with h | h | h
    · exact .inl (.inl h)
    · exact .inl (.inr h)
    · exact .inr h
  exact ⟨⟨h1.keep hW (hk'.low h2.base fun g hg => (h2.own g hg).1), hB, hG⟩, hk'⟩
/-- a row of terms outside of the blocks that the call may change -/
def TmN (E : DE) (u : Option Nat) (w : World) (v : Value) (l : List Tm) : Prop := RowB w (fun b => b < w.heap.size ∧ ¬ (E.X b ∨ some b = u)) 2 v l.length (fun j cs => ∃ z, l[j]? = some z ∧ cs = CT z)
theorem TmN.tm {E : DE} {u : Option Nat} {w : World} {v : Value} {l : List Tm} (h : TmN E u w v l) : TmR w (fun b => b < w.heap.size) v l := RowB.sub h (fun b hb => hb.1) fun _ _ h => h
theorem TmN.ke {E : DE} {u u' : Option Nat} {w w' : World} {v : Value} {l : List Tm} (h : TmN E u w v l) (hk : Ke w.heap.size (fun b => E.X b ∨ some b = u) w w') (hn : Nxt w.heap.size u u') : TmN E u' w' v l :=
  RowB.sub (RowB.keep h ⟨hk.size, fun b i hB _ => World.cell?_of_block (hk.block b hB.1 hB.2)⟩ (fun _ _ h => h)) (fun b hB => ⟨Nat.lt_of_lt_of_le hB.1 hk.size, fun hx => by
    rcases hx with hx | hx
    · exact hB.2 (.inl hx)
    · rcases hn with rfl | hn
      · exact hB.2 (.inr hx)
      · have := hn b hx.symm; have := hB.1; omega⟩) fun _ _ h => h
/-- a row of the call's own, made since -/
theorem TmN.of_own {E : DE} {u : Option Nat} {w w' : World} {v : Value} {l : List Tm} (h : OwnT w' w.heap.size v l) (hl : l.length ≤ maxLen) (hx : ∀ b, E.X b ∨ some b = u → b < w.heap.size) : TmN E u w' v l :=
  RowB.sub (OwnE.row h (by decide) hl) (fun b hb => ⟨hb.2, fun h => by have := hx b h; have := hb.1; omega⟩) fun j cs ⟨x, hx, hc⟩ => ⟨x, hx, hc⟩
def DE.Pre (E : DE) (v : Value) (l : List Tm) (m : Nat) (ns : List Nd) (u : Option Nat) (w : World) : Prop :=
  TmN E u w v l ∧ E.St w ns u ∧ Low l m ∧ m ≤ 12 ∧ l.length ≤ 1000 ∧ ns.length + 2 ^ (12 - m) ≤ 5000
def DE.Post (E : DE) (l : List Tm) (ns : List Nd) (u : Option Nat) (w : World) (e : Ending) (w' : World) : Prop :=
  e = .returned (.int .i64 ((can (gT l) ns).2 : Int)) ∧ (∃ u', E.St w' (can (gT l) ns).1 u' ∧ Nxt w.heap.size u u') ∧ Ke w.heap.size (fun b => E.X b ∨ some b = u) w w'
abbrev DE.IH (E : DE) (m : Nat) : Prop := ∀ (v : Value) (l : List Tm) (m' : Nat) (ns : List Nd) (u : Option Nat) (w : World), m < m' → E.Pre v l m' ns u w → Calls Tryd.prog 32 #[v, .pointer (some ⟨E.bw, 0, none⟩), .pointer (some ⟨E.bd, 0, none⟩)] w (E.Post l ns u w)
def DE.Acc (E : DE) (W : World) (u : Option Nat) (V : World) (v : Option Nat) : Prop := Ke W.heap.size (fun b => E.X b ∨ some b = u) W V ∧ Nxt W.heap.size u v ∧ W.heap.size ≤ V.heap.size
theorem DE.Acc.refl (E : DE) (W : World) (u : Option Nat) : E.Acc W u W u := ⟨Ke.refl _ _ _, .inl rfl, Nat.le_refl _⟩
theorem DE.Acc.step {E : DE} {W V V' : World} {u v v' : Option Nat} (h : E.Acc W u V v) (hk : Ke V.heap.size (fun b => E.X b ∨ some b = v) V V') (hn : Nxt V.heap.size v v') : E.Acc W u V' v' :=
  ⟨h.1.nxt hk h.2.1 h.2.2, h.2.1.trans hn h.2.2, Nat.le_trans h.2.2 hk.size⟩
theorem DE.Acc.old {E : DE} {W V V' : World} {u v : Option Nat} (h : E.Acc W u V v) (hb : Below V.heap.size V V') : E.Acc W u V' v := h.step (Ke.of hb) (.inl rfl)
/-- what the two calls on parts build -/
theorem gT_parts {l : List Tm} {m : Nat} (hlow : Low l m) (hne : l ≠ []) (h0 : ((0, 0) : Tm) ∉ l) (hm : m ≤ 12) {ns : List Nd} (hG : Good ns) (hlen : ns.length + 2 ^ (12 - m) ≤ 5000) :
    ∃ n n1 r1 n2 r2, Lib.ctz 64 (orT l) = n ∧ n < 12 ∧ m ≤ n ∧ Low (fixL l n true) (n + 1) ∧ Low (fixL l n false) (n + 1) ∧ can (gT (fixL l n true)) ns = (n1, r1) ∧ can (gT (fixL l n false)) n1 = (n2, r2) ∧ can (gT l) ns = mkN n2 n r1 r2 ∧ Good n1 ∧ Good n2 ∧ r1 < n2.length + 2 ∧ r2 < n2.length + 2 ∧ n2.length ≤ 5000 ∧ ns.length + 2 ^ (12 - (n + 1)) ≤ 5000 ∧ n1.length + 2 ^ (12 - (n + 1)) ≤ 5000 := by
  obtain ⟨h1, h2, h3, _⟩ := first_ok hlow hne h0
  have hst := gT_step hlow hne h0 hG rfl
  generalize Lib.ctz 64 (orT l) = n at *
  have hT : 2 * 2 ^ (11 - n) = 2 ^ (12 - n) := by rw [show 12 - n = (11 - n) + 1 by omega, Nat.pow_succ]; omega
  have hmn : 2 ^ (12 - n) ≤ 2 ^ (12 - m) := Nat.pow_le_pow_right (by omega) (by omega)
  have e1 : 12 - (n + 1) = 11 - n := by omega
  have o1 := can_ok (gT_12 (fixL l n true)) hG
  have l1 := can_len (gT_12 (fixL l n true)) (show n + 1 ≤ 12 by omega) (fun x hx => (h3.fix h1 true).ind hx) hG
  have o2 := can_ok (gT_12 (fixL l n false)) o1.2.1
  have l2 := can_len (gT_12 (fixL l n false)) (show n + 1 ≤ 12 by omega) (fun x hx => (h3.fix h1 false).ind hx) o1.2.1
  obtain ⟨m2, hm2⟩ := o2.1
  rw [e1] at l1 l2
  have ep : ∀ p : List Nd × Nat, p = (p.1, p.2) := fun p => rfl
  refine ⟨n, (can (gT (fixL l n true)) ns).1, (can (gT (fixL l n true)) ns).2, (can (gT (fixL l n false)) (can (gT (fixL l n true)) ns).1).1, (can (gT (fixL l n false)) (can (gT (fixL l n true)) ns).1).2, rfl, h1, h2, h3.fix h1 true, h3.fix h1 false, ep _, ep _, hst, o1.2.1, o2.2.1, ?_, o2.2.2.1, by omega, by rw [e1]; omega, by rw [e1]; omega⟩
  rw [hm2, List.length_append]
  have := o1.2.2.1
  omega
set_option maxRecDepth 100000 in
set_option maxHeartbeats 3200000 in
/-- no terms, or a true one -/
theorem walkD_end (E : DE) (v : Value) (l : List Tm) (m : Nat) (ns : List Nd) (u : Option Nat) (w : World) (hW : E.Wf) (hP : E.Pre v l m ns u w) (hc : l = [] ∨ ((0, 0) : Tm) ∈ l) : Calls Tryd.prog 32 #[v, .pointer (some ⟨E.bw, 0, none⟩), .pointer (some ⟨E.bd, 0, none⟩)] w (E.Post l ns u w) := by
  obtain ⟨hT, hS, hlow, hm, hll, hlen⟩ := hP
  have hT' := hT.tm
  obtain ⟨A, c, rfl⟩ := hT'.form
  have HPOST : Hid (∀ (r : Nat) (w' : World), can (gT l) ns = (ns, r) → Below w.heap.size w w' → E.Post l ns u w (.returned (.int .i64 (r : Int))) w') := Lib.hid fun r w' h hb => by
    unfold DE.Post
    rw [h]
    exact ⟨rfl, ⟨u, hS.old hW hb, .inl rfl⟩, Ke.of hb⟩
  generalize hPost : E.Post l ns u w = Post at *
  clear hPost
  by_cases hne : l = []
  · subst hne
    have HZ := Lib.hid (HPOST.out 0 w (by rw [gT_nil]; exact can_ff hS.2.2) (Below.refl _ _))
    go_enter Tryd.func32, Tryd.ntmps32
    go_wp2
    exact HZ.out
  · have h0 : ((0, 0) : Tm) ∈ l := hc.resolve_left hne
    have hcon := contains_any _ l (0, 0) w hT' (by omega) true ⟨fun _ => h0, fun _ => rfl⟩
    have HZ : Hid (∀ w', Below w.heap.size w w' → Post (.returned (.int .i64 1)) w') := Lib.hid fun w' hb => HPOST.out 1 w' (by rw [gT_zero h0]; exact can_tt hS.2.2) hb
    have hlp : 0 < l.length := List.length_pos_iff.2 hne
    obtain ⟨n, hn⟩ : ∃ n, n = l.length := ⟨_, rfl⟩
    rw [← hn] at hcon hlp ⊢
    have q1 : ((n : Int) == 0) = false := by simpa using (show (n : Int) ≠ 0 by omega)
    have HC := Lib.hid hcon
    clear hcon hT hS hlow hm hll hlen hT' HPOST hc hne h0 hn hlp
    go_enter Tryd.func32, Tryd.ntmps32
    go_wp2_with fail
    refine HC.out.mono ?_
    rintro e w1 ⟨rfl, hb1⟩
    have HZ1 := Lib.hid (HZ.out _ hb1)
    clear hb1
    go_wp2
    exact HZ1.out
set_option maxRecDepth 100000 in
set_option maxHeartbeats 6400000 in
theorem walkD_step (E : DE) (v : Value) (l : List Tm) (m : Nat) (ns : List Nd) (u : Option Nat) (w : World) (hW : E.Wf) (hP : E.Pre v l m ns u w) (hne : l ≠ []) (h0 : ((0, 0) : Tm) ∉ l) (IH : Hid (E.IH m)) : Calls Tryd.prog 32 #[v, .pointer (some ⟨E.bw, 0, none⟩), .pointer (some ⟨E.bd, 0, none⟩)] w (E.Post l ns u w) := by
  obtain ⟨hT, hS, hlow, hm, hll, hlen⟩ := hP
  obtain ⟨A, c, rfl⟩ := hT.tm.form
  obtain ⟨n, n1, r1, n2, r2, hctz, hn12, hmn, lowT, lowF, hc1, hc2, hcan, hG1, hG2, hr1, hr2, hn2, hlT, hlF⟩ := gT_parts hlow hne h0 hm hS.2.2 hlen
  have hgd := (can_ok (gT_12 l) hS.2.2).2.1
  rw [hcan] at hgd
  have hlp : 0 < l.length := List.length_pos_iff.2 hne
  obtain ⟨k, hk⟩ : ∃ k, k = l.length := ⟨_, rfl⟩
  have hfirst : ∀ V, TmN E u V (.slice A k c) l → TabW V → Calls Tryd.prog 34 #[.slice A k c] V fun e w' => e = .returned (.int .i64 n) ∧ Below V.heap.size V w' := fun V hV hTV => by
    rw [hk] at hV ⊢
    have := firstLiteral_any _ l m V hV.tm (by omega) hlow hTV
    rw [hctz] at this
    exact this
  have hfix : ∀ b V u', TmN E u' V (.slice A k c) l → Calls Tryd.prog 35 #[.slice A k c, .int .i64 n, .bool b] V fun e w' => ∃ a', e = .returned a' ∧ OwnT w' V.heap.size a' (fixL l n b) ∧ Below V.heap.size V w' := fun b V u' hV => by
    rw [hk] at hV ⊢
    exact fix_any _ l m n b V hV.tm (by omega) hlow hn12
  have hcon : Calls Tryd.prog 33 #[.slice A k c, .agg #[.int .u64 0, .int .u64 0]] w fun e w' => e = .returned (.bool false) ∧ Below w.heap.size w w' := by
    rw [hk]
    exact contains_any _ l (0, 0) w hT.tm (by omega) false ⟨nofun, fun h => absurd h h0⟩
  have hsT := fixL_len l n true
  have hsF := fixL_len l n false
  have HI : Hid ((∀ V a', TmN E u V a' (fixL l n true) → E.St V ns u → Calls Tryd.prog 32 #[a', .pointer (some ⟨E.bw, 0, none⟩), .pointer (some ⟨E.bd, 0, none⟩)] V fun e w' => e = .returned (.int .i64 (r1 : Int)) ∧ (∃ u1, E.St w' n1 u1 ∧ Nxt V.heap.size u u1) ∧ Ke V.heap.size (fun b => E.X b ∨ some b = u) V w') ∧
      (∀ V u1 a', TmN E u1 V a' (fixL l n false) → E.St V n1 u1 → Calls Tryd.prog 32 #[a', .pointer (some ⟨E.bw, 0, none⟩), .pointer (some ⟨E.bd, 0, none⟩)] V fun e w' => e = .returned (.int .i64 (r2 : Int)) ∧ (∃ u2, E.St w' n2 u2 ∧ Nxt V.heap.size u1 u2) ∧ Ke V.heap.size (fun b => E.X b ∨ some b = u1) V w')) := Lib.hid ⟨fun V a' h1 h2 => by
    have := IH.out a' (fixL l n true) (n + 1) ns u V (by omega) ⟨h1, h2, lowT, by omega, by omega, hlT⟩
    unfold DE.Post at this
    rw [hc1] at this
    exact this, fun V u1 a' h1 h2 => by
    have := IH.out a' (fixL l n false) (n + 1) n1 u1 V (by omega) ⟨h1, h2, lowF, by omega, by omega, hlF⟩
    unfold DE.Post at this
    rw [hc2] at this
    exact this⟩
  have HL : Hid ((fixL l n true).length ≤ maxLen ∧ (fixL l n false).length ≤ maxLen) := Lib.hid (by unfold maxLen; omega)
  have HM := Lib.hid (And.intro hcan (And.intro hgd (And.intro hG2 (And.intro hn12 (And.intro hr1 (And.intro hr2 hn2))))))
  have HW := Lib.hid hW
  have HT : Hid (TmN E u w (.slice A k c) l) := Lib.hid (by rw [hk]; exact hT)
  have HSS := Lib.hid hS
  have HFI := Lib.hid hfirst
  have HFX := Lib.hid hfix
  have HCO := Lib.hid hcon
  have HXL : Hid (∀ V ms u', E.St V ms u' → ∀ b, E.X b ∨ some b = u' → b < V.heap.size) := Lib.hid fun V ms u' hS b hx => by
    obtain ⟨_, hB, _⟩ := hS
    have h1 := hB.base
    have h2 := hB.own
    obtain ⟨_, _, _, _, _, _, _, _, _, h3, h4, _, _, _⟩ := hB
    rcases hx with (rfl | rfl) | hx
    · omega
    · omega
    · exact (h2 b hx.symm).2
  have HCELL : Hid (∀ V ms u', E.St V ms u' → V.cell? ⟨E.bw, 0, none⟩ = some (.func (.func 32) #[] #[.pointer (some ⟨E.bw, 0, none⟩), .pointer (some ⟨E.bd, 0, none⟩)]) ∧ V.cell? ⟨E.bd, 0, none⟩ = some (.pointer (some ⟨E.p, 0, none⟩))) := Lib.hid fun V ms u' hS => ⟨(Lib.cell_of_heap hS.1.fw 0).trans rfl, (Lib.cell_of_heap hS.1.d 0).trans rfl⟩
  have q1 : ((k : Int) == 0) = false := by simpa using (show (k : Int) ≠ 0 by omega)
  have eg : ∀ args w, (callFunc 32 args).run Tryd.prog w = .ok (.enter 32 args) w := enters_of Tryd.func32 (by kernel_rfl) rfl
  have HPOST : Hid (∀ u3 V, E.St V (mkN n2 n r1 r2).1 u3 → E.Acc w u V u3 → E.Post l ns u w (.returned (.int .i64 ((mkN n2 n r1 r2).2 : Int))) V) := Lib.hid fun u3 V h1 h2 => by
    unfold DE.Post
    rw [hcan]
    exact ⟨rfl, ⟨u3, h1, h2.2.1⟩, h2.1⟩
  generalize hPost : E.Post l ns u w = Post at *
  rw [← hk]
  clear hPost hT hS hlow hm hll hlen hctz hn12 hmn lowT lowF hc1 hc2 hcan hG1 hG2 hr1 hr2 hn2 hlT hlF hgd hlp hk hfirst hfix hcon hsT hsF hne h0 IH hW
  go_enter Tryd.func32, Tryd.ntmps32
  go_wp2_with fail
  refine HCO.out.mono ?_
  rintro e V1 ⟨rfl, hb1⟩
  have HS1 := Lib.hid (HSS.out.old HW.out hb1)
  have HA1 := Lib.hid ((DE.Acc.refl E w u).old hb1)
  have HT1 := Lib.hid (HT.out.ke (Ke.of hb1) (.inl rfl))
  clear hb1
  go_wp2_with fail
  refine (HFI.out V1 HT1.out HS1.out.1.tab).mono ?_
  rintro e V2 ⟨rfl, hb2⟩
  have HS2 := Lib.hid (HS1.out.old HW.out hb2)
  have HA2 := Lib.hid (HA1.out.old hb2)
  have HT2 := Lib.hid (HT1.out.ke (Ke.of hb2) (.inl rfl))
  clear hb2 HT1 HA1 HS1
  go_wp2_with fail
  have HCg0 := Lib.hid (HCELL.out _ _ _ (HS2.out.old HW.out (Below.refl _ V2).drew)).1
  refine wp_region_held_drew (S := fun V => V.cell? ⟨E.bw, 0, none⟩ = some (.func (.func 32) #[] #[.pointer (some ⟨E.bw, 0, none⟩), .pointer (some ⟨E.bd, 0, none⟩)])) (by kernel_rfl) HCg0.out (fun _ => ?_)
  refine tk 0 (HCg0.out) ?_
  try simp only [Act.put, pA, pB, pC]
  refine tk 1 (HCg0.out) ?_
  try simp only [Act.put, pA, pB, pC]
  refine tk 2 (HCg0.out) ?_
  try simp only [Act.put, pA, pB, pC]
  refine one_op 3 (by kernel_rfl) rfl (by rfl) (fun K hK => ?_)
  go_simp
  refine (HFX.out true _ u (HT2.out.ke (Ke.of (Below.refl _ V2).drew) (.inl rfl))).mono ?_
  rintro e Wg ⟨ag, rfl, hOg, hbg⟩
  have hbdg : Below V2.heap.size V2 Wg := (Below.refl _ V2).drew.trans hbg
  have HSga := Lib.hid (HS2.out.old HW.out hbdg)
  have HAga := Lib.hid (HA2.out.old hbdg)
  have HTga := Lib.hid (HT2.out.ke (Ke.of hbdg) (.inl rfl))
  have HRg : Hid (TmN E u Wg ag (fixL l n true)) := Lib.hid (TmN.of_own hOg HL.out.1 (HXL.out _ _ _ (HS2.out.old HW.out (Below.refl _ V2).drew)))
  have HCg1 := Lib.hid (HCELL.out _ _ _ HSga.out).1
  clear hOg hbg hbdg
  refine hK _ _ HCg1.out ?_
  try simp only [Act.put, pA, pB, pC]
  clear hK K
  refine one_op 4 (by kernel_rfl) rfl (by rfl) (fun K hK => ?_)
  go_simp
  refine (HI.out.1 Wg ag HRg.out HSga.out).mono ?_
  rintro e V4 ⟨rfl, ⟨u1, hSgb, hngb⟩, hKgb⟩
  have HS4 := Lib.hid hSgb
  have HA4 := Lib.hid (HAga.out.step hKgb hngb)
  have HT4 := Lib.hid (HTga.out.ke hKgb hngb)
  have HCg2 := Lib.hid (HCELL.out _ _ _ HS4.out).1
  clear hSgb hngb hKgb
  refine hK _ _ HCg2.out ?_
  try simp only [Act.put, pA, pB, pC]
  clear hK K
  refine tk 5 (HCg2.out) ?_
  try simp only [Act.put, pA, pB, pC]
  refine wpAnyH_done (by kernel_rfl) ?_ _
  clear HCg0 HCg1 HCg2
  go_wp2_with fail
  have HCh0 := Lib.hid (HCELL.out _ _ _ (HS4.out.old HW.out (Below.refl _ V4).drew)).1
  refine wp_region_held_drew (S := fun V => V.cell? ⟨E.bw, 0, none⟩ = some (.func (.func 32) #[] #[.pointer (some ⟨E.bw, 0, none⟩), .pointer (some ⟨E.bd, 0, none⟩)])) (by kernel_rfl) HCh0.out (fun _ => ?_)
  refine tk 0 (HCh0.out) ?_
  try simp only [Act.put, pA, pB, pC]
  refine tk 1 (HCh0.out) ?_
  try simp only [Act.put, pA, pB, pC]
  refine tk 2 (HCh0.out) ?_
  try simp only [Act.put, pA, pB, pC]
  refine one_op 3 (by kernel_rfl) rfl (by rfl) (fun K hK => ?_)
  go_simp
  refine (HFX.out false _ u1 (HT4.out.ke (Ke.of (Below.refl _ V4).drew) (.inl rfl))).mono ?_
  rintro e Wh ⟨ah, rfl, hOh, hbh⟩
  have hbdh : Below V4.heap.size V4 Wh := (Below.refl _ V4).drew.trans hbh
  have HSha := Lib.hid (HS4.out.old HW.out hbdh)
  have HAha := Lib.hid (HA4.out.old hbdh)
  have HTha := Lib.hid (HT4.out.ke (Ke.of hbdh) (.inl rfl))
  have HRh : Hid (TmN E u1 Wh ah (fixL l n false)) := Lib.hid (TmN.of_own hOh HL.out.2 (HXL.out _ _ _ (HS4.out.old HW.out (Below.refl _ V4).drew)))
  have HCh1 := Lib.hid (HCELL.out _ _ _ HSha.out).1
  clear hOh hbh hbdh
  refine hK _ _ HCh1.out ?_
  try simp only [Act.put, pA, pB, pC]
  clear hK K
  refine one_op 4 (by kernel_rfl) rfl (by rfl) (fun K hK => ?_)
  go_simp
  refine (HI.out.2 Wh u1 ah HRh.out HSha.out).mono ?_
  rintro e V6 ⟨rfl, ⟨u2, hShb, hnhb⟩, hKhb⟩
  have HS6 := Lib.hid hShb
  have HA6 := Lib.hid (HAha.out.step hKhb hnhb)
  have HT6 := Lib.hid (HTha.out.ke hKhb hnhb)
  have HCh2 := Lib.hid (HCELL.out _ _ _ HS6.out).1
  clear hShb hnhb hKhb
  refine hK _ _ HCh2.out ?_
  try simp only [Act.put, pA, pB, pC]
  clear hK K
  refine tk 5 (HCh2.out) ?_
  try simp only [Act.put, pA, pB, pC]
  refine wpAnyH_done (by kernel_rfl) ?_ _
  clear HCh0 HCh1 HCh2
  obtain ⟨-, x1⟩ := HCELL.out _ _ _ HS6.out
  go_wp2_with fail
  clear x1
  refine (reference_any E.p E.q E.base n2 n r1 r2 V6 u2 HS6.out.2.1 HM.out.2.2.1 HM.out.2.2.2.1 HM.out.2.2.2.2.1 HM.out.2.2.2.2.2.1 (by have := HM.out.2.2.2.2.2.2; omega)).mono ?_
  rintro e V7 ⟨rfl, u3, hB7, hn7, hK7⟩
  obtain ⟨hst, hke⟩ := HS6.out.ref HW.out hK7 hB7 HM.out.2.1
  have HZ := Lib.hid (HPOST.out u3 V7 hst (HA6.out.step hke hn7))
  clear hB7 hn7 hK7 hst hke
  generalize (mkN n2 n r1 r2).2 = r3 at *
  go_wp2
  exact HZ.out
/-- walk: the reference of the function of the terms, its nodes added -/
theorem walkD_any (E : DE) (hW : E.Wf) : ∀ (N : Nat) (v : Value) (l : List Tm) (m : Nat) (ns : List Nd) (u : Option Nat) (w : World), 12 - m < N → E.Pre v l m ns u w → Calls Tryd.prog 32 #[v, .pointer (some ⟨E.bw, 0, none⟩), .pointer (some ⟨E.bd, 0, none⟩)] w (E.Post l ns u w)
  | 0, _, _, _, _, _, _, h, _ => absurd h (by omega)
  | N + 1, v, l, m, ns, u, w, hN, hP => by
    by_cases hne : l = []
    · exact walkD_end E v l m ns u w hW hP (.inl hne)
    · by_cases h0 : ((0, 0) : Tm) ∈ l
      · exact walkD_end E v l m ns u w hW hP (.inr h0)
      · exact walkD_step E v l m ns u w hW hP hne h0 (Lib.hid fun v' l' m' ns' u' w' h hp => walkD_any E hW N v' l' m' ns' u' w' (by have := hP.2.2.2.1; have := hp.2.2.2.1; omega) hp)
end Go.Proofs.YtplmbmecjhmiiaaDoor
