/- Source.value, given Source.Value at smaller heights. -/
import Derived.Test.YtcjgaohblaidjaaGreatDoorVb37
namespace Go.Proofs.YtcjgaohblaidjaaGreatDoor
open Go Go.RowKit
theorem LeafN.all {k i : Int} {t : List UInt8} (h : LeafN k i t) : okV (lfV k i t) = true ∧ sml (lfV k i t) ∧ (Lit.int .i64 k).wf = true ∧ (Lit.int .i64 i).wf = true ∧ t.length ≤ maxLen := by
 have hs : sml (lfV k i t) := ⟨by simp, by simp, by simp, by simp, by simp [smlVs], by simp [smlEs]⟩
 rcases h with ⟨rfl, hn, rfl⟩ | ⟨rfl, rfl, hn⟩ | ⟨rfl, rfl, hn⟩ | ⟨rfl, hn, rfl⟩ | ⟨rfl, rfl, rfl⟩ | ⟨rfl, rfl, rfl⟩
 · exact ⟨by simp [okV, lfV, labelsB, AscC, usesB, kindB, okVs, okEs], hs, by decide, hn, by simp⟩
 ·
  have h1 := hn.ok
  have h2 := hn.len
  exact ⟨by simp [okV, lfV, labelsB, AscC, usesB, kindB, okVs, okEs, h1], hs, by decide, by decide, by unfold maxLen; omega⟩
 ·
  have h2 := hn.len
  exact ⟨by simp [okV, lfV, labelsB, AscC, usesB, kindB, okVs, okEs]; omega, hs, by decide, by decide, by unfold maxLen; omega⟩
 ·
  have h3 : i = 0 ∨ i = 1 ∨ i = 2 := by omega
  refine ⟨by simp [okV, lfV, labelsB, AscC, usesB, kindB, okVs, okEs]; omega, hs, by decide, ?_, by simp⟩
  rcases h3 with rfl | rfl | rfl <;> decide
 · exact ⟨by simp [okV, lfV, labelsB, AscC, usesB, kindB, okVs, okEs], hs, by decide, by decide, by simp⟩
 · exact ⟨by simp [okV, lfV, labelsB, AscC, usesB, kindB, okVs, okEs], hs, by decide, by decide, by simp⟩
theorem KeyN.wf {x : Int × List UInt8} (h : KeyN x) : (Lit.int .i64 x.1).wf = true := by
 rcases h with ⟨h, _⟩ | ⟨h, _⟩ <;> rw [h] <;> decide
theorem KeyN.len {x : Int × List UInt8} (h : KeyN x) : x.2.length ≤ maxLen := by
 rcases h with ⟨_, h⟩ | ⟨_, h⟩ <;> (have := h.len; unfold maxLen; omega)
theorem OwnC.map {α : Type} {Pr Pr' : α → List Value → Prop} {e : TypeId} {c : Nat} {w : World} {base : Nat} {v : Value} {l : List α} (h : OwnE (elC Pr) e c w base v l) (hP : ∀ x cs, Pr x cs → Pr' x cs) : OwnE (elC Pr') e c w base v l := by
 obtain ⟨xs, ho, hx⟩ := h
 exact ⟨xs, ho, fun j x hj => hP _ _ (hx j x hj)⟩
structure MapI (q base : Nat) (w : World) (u1 u2 : Value) (keys : List (Int × List UInt8)) (vs : List Vl) (D : Nat → Prop) : Prop where
 len : vs.length = keys.length
 ky : OwnY w base u1 keys
 vl : OwnX7 q w D w base u2 vs
 dd : ∀ b, D b → base ≤ b ∧ b < w.heap.size ∧ some b ≠ u1.ownBlock ∧ some b ≠ u2.ownBlock
 dj : ∀ g, u1.ownBlock = some g → some g ≠ u2.ownBlock
 kn : ∀ x ∈ keys, KeyN x
 ok : ∀ x ∈ vs, okV x = true ∧ sml x
theorem MapI.nil (q base : Nat) (w : World) : MapI q base w (.slice none 0 0) (.slice none 0 0) [] [] (fun _ => False) :=
 ⟨rfl, OwnE.nil _ _ _ _ _, OwnE.nil _ _ _ _ _, fun _ h => h.elim, fun g h => by simp [Value.ownBlock] at h, by simp, by simp⟩
theorem MapI.step2 {q base p : Nat} {w0 w w3 w4 w5 : World} {u1 u2 : Value} {keys : List (Int × List UInt8)} {vs : List Vl} {D : Nat → Prop} (h : MapI q base w u1 u2 keys vs D) (hp : p < w0.heap.size) (hE3 : Eff p w w3) (hb4 : Below base w3 w4) (hk4 : ∀ b, b < w3.heap.size → some b ≠ u1.ownBlock → w4.heap[b]? = w3.heap[b]?) (hE5 : Eff p w4 w5) (hbase : w0.heap.size + 1 = base := by rfl) :
  OwnX7 q w5 (fun b => D b ∨ Btw w4.heap.size w5.heap.size b) w5 base u2 vs := by
 have hs3 := hE3.size
 have hs4 := hb4.size
 have hs5 := hE5.size
 have hch : ∀ b, base ≤ b → b < w.heap.size → some b ≠ u1.ownBlock → w5.heap[b]? = w.heap[b]? := fun b h1 h2 h3 => (hE5.other b (by omega) (by omega)).trans ((hk4 b (by omega) h3).trans (hE3.other b (by omega) h2))
 have hsD : Same D w w5 := ⟨by omega, fun b i hD _ => World.cell?_of_block (hch b (h.dd b hD).1 (h.dd b hD).2.1 (h.dd b hD).2.2.1)⟩
 refine OwnC.map (OwnC.kept h.vl fun g hg => ?_) fun x cs hv => VB.sub (fun _ hb => .inl hb) (Nat.le_refl _) (VB.keep hsD hv)
 have hb := h.vl.blk g hg
 exact hch g hb.1 hb.2 fun e => h.dj g e.symm hg.symm
theorem MapI.step {q base p : Nat} {w0 w w3 w4 w5 w6 : World} {u1 u2 : Value} {keys : List (Int × List UInt8)} {vs : List Vl} {D : Nat → Prop} {x : Int × List UInt8} {v : Vl} {g cap g2 cap2 : Nat} (h : MapI q base w u1 u2 keys vs D) (hp : p < w0.heap.size) (hE3 : Eff p w w3) (hb4 : Below base w3 w4) (_hk4 : ∀ b, b < w3.heap.size → some b ≠ u1.ownBlock → w4.heap[b]? = w3.heap[b]?)
  (hg4 : u1.ownBlock = some g ∨ w3.heap.size ≤ g) (ho4 : OwnK w4 base (.slice (some ⟨g, 0, none⟩) (keys.length + 1) cap) (keys ++ [x])) (hkn : KeyN x) (hE5 : Eff p w4 w5)
  (ho6 : OwnE (elC (fun x cs => VB q w5 (fun b => D b ∨ Btw w4.heap.size w5.heap.size b) x cs)) 27 7 w6 base (.slice (some ⟨g2, 0, none⟩) (vs.length + 1) cap2) (vs ++ [v])) (hb6 : Below base w5 w6) (hk6 : ∀ b, b < w5.heap.size → some b ≠ u2.ownBlock → w6.heap[b]? = w5.heap[b]?)
  (hg6 : u2.ownBlock = some g2 ∨ w5.heap.size ≤ g2) (hok : okV v = true) (hsm : sml v) (hbase : w0.heap.size + 1 = base := by rfl) :
  MapI q base w6 (.slice (some ⟨g, 0, none⟩) (keys.length + 1) cap) (.slice (some ⟨g2, 0, none⟩) (vs.length + 1) cap2) (keys ++ [x]) (vs ++ [v]) (fun b => D b ∨ Btw w4.heap.size w5.heap.size b) := by
 have hs3 := hE3.size
 have hs4 := hb4.size
 have hs5 := hE5.size
 have hs6 := hb6.size
 have hblk1 := h.ky.blk
 have hblk2 := h.vl.blk
 have hgb := ho4.blk g rfl
 have hgu2 : some g ≠ u2.ownBlock := by
  intro e
  rcases hg4 with h1 | h1
  · exact h.dj g h1 e
  ·
   have := hblk2 g e.symm
   omega
 have hDu2 : ∀ b, (D b ∨ Btw w4.heap.size w5.heap.size b) → base ≤ b ∧ b < w5.heap.size ∧ some b ≠ u2.ownBlock := by
  rintro b (hb | hb)
  ·
   have := h.dd b hb
   exact ⟨this.1, by omega, this.2.2.2⟩
  ·
   refine ⟨by have := hb.1; omega, hb.2, fun e => ?_⟩
   have := hblk2 b e.symm
   have := hb.1
   omega
 refine ⟨by simp [h.len], ?_, ?_, ?_, ?_, ?_, ?_⟩
 ·
  refine OwnC.kept (show OwnY w4 base _ _ from ho4) fun g' hg' => ?_
  obtain rfl : g = g' := by simpa [Value.ownBlock] using hg'
  exact (hk6 g (by omega) hgu2).trans (hE5.other g (by omega) hgb.2)
 · refine OwnC.map ho6 fun y cs hv => VB.keep ⟨hs6, fun b i hD hl => World.cell?_of_block (hk6 b hl (hDu2 b hD).2.2)⟩ hv
 ·
  intro b hb
  have h1 := hDu2 b hb
  refine ⟨h1.1, by omega, ?_, ?_⟩
  ·
   simp only [Value.ownBlock, ne_eq, Option.some.injEq]
   rintro rfl
   rcases hb with hb | hb
   ·
    have h2 := h.dd b hb
    rcases hg4 with h3 | h3
    · exact h2.2.2.1 h3.symm
    · omega
   ·
    have := hb.1
    omega
  ·
   simp only [Value.ownBlock, ne_eq, Option.some.injEq]
   rintro rfl
   rcases hg6 with h3 | h3
   · exact h1.2.2 h3.symm
   · omega
 ·
  intro g' hg'
  obtain rfl : g = g' := by simpa [Value.ownBlock] using hg'
  simp only [Value.ownBlock, ne_eq, Option.some.injEq]
  rintro rfl
  rcases hg6 with h3 | h3
  · exact hgu2 h3.symm
  · omega
 ·
  intro y hy
  rcases List.mem_append.1 hy with hy | hy
  · exact h.kn y hy
  · rw [List.mem_singleton.1 hy]; exact hkn
 ·
  intro y hy
  rcases List.mem_append.1 hy with hy | hy
  · exact h.ok y hy
  · rw [List.mem_singleton.1 hy]; exact ⟨hok, hsm⟩
theorem refMapN (q base : Nat) (A1 : Option Addr) (c1 : Nat) (keys : List (Int × List UInt8)) (A2 : Option Addr) (c2 : Nat) (vs : List Vl) (w : World) {D : Nat → Prop} (hb : base ≤ w.heap.size) (h : MapI q base w (.slice A1 keys.length c1) (.slice A2 keys.length c2) keys vs D) (hn : keys.length ≤ 100000) :
  Calls Tryz.prog 59 #[.slice A1 keys.length c1, .slice A2 keys.length c2] w (MapR q base keys vs w) := by
 have hl := h.len
 have e1 : Value.slice A2 keys.length c2 = .slice A2 vs.length c2 := by rw [hl]
 have hr := h.vl.row (by omega) (by unfold maxLen; omega)
 rw [e1] at hr ⊢
 have hr2 : RowV q base w (.slice A2 vs.length c2) vs := RowB.sub (R' := fun j cs => ∃ x, vs[j]? = some x ∧ VB q w (Btw base w.heap.size) x cs) hr (fun _ hb => hb) (fun j cs ⟨x, hx, hv⟩ => ⟨x, hx, VB.sub (B := D) (fun b hD => ⟨(h.dd b hD).1, (h.dd b hD).2.1⟩) (Nat.le_refl _) hv⟩)
 exact refMap_any q base A1 c1 keys A2 c2 vs w hb (h.ky.row (by omega) (by unfold maxLen; omega)) hr2 hn
set_option maxRecDepth 100000 in
set_option maxHeartbeats 12800000 in
theorem value_leaf (h p : Nat) (n : Int) (w : World) (hS : SrcOk h p w) (hn : n ≤ 1) : Calls Tryz.prog 24 #[.pointer (some ⟨p, 0, none⟩), .int .i64 n] w (DrawR0 1 h p w) := by
 have hlp := hS.lt
 obtain ⟨w0, hw0⟩ : ∃ w0, w0 = w.alloc (.cells #[.int .i64 0, .int .i64 0, .string ⟨#[]⟩, .slice none 0 0, .slice none 0 0, .slice none 0 0, .slice none 0 0] 27) := ⟨_, rfl⟩
 have hba : Below w.heap.size w w0 := by rw [hw0]; exact (Below.refl _ _).alloc (Nat.le_refl _) _
 have hz0 : w.heap.size + 1 ≤ w0.heap.size := by rw [hw0]; simp
 have k0 : w0.heap[w.heap.size]? = some (.cells #[.int .i64 0, .int .i64 0, .string ⟨#[]⟩, .slice none 0 0, .slice none 0 0, .slice none 0 0, .slice none 0 0] 27 (0, 0)) := by rw [hw0]; exact heap_alloc_new w _
 have hS0 := hS.below hba
 have hF0 : Eff p w w0 := Eff.of_below hba (Nat.le_of_lt hlp)
 clear hS hba
 have q1 : decide (n ≤ 1) = true := by simpa using hn
 go_enter Tryz.func24, Tryz.ntmps24
 go_wp2_with fail
 rw [← hw0]
 clear hw0
 have hlf := leaf_src h p w0 hS0
 go_wp2_with fail
 refine hlf.mono ?_
 rintro e w9 ⟨⟨kk, ii, tt, rfl, hLf⟩, hS9, hE9⟩
 simp only [lfC]
 clear hlf
 have hz9 : w.heap.size + 1 ≤ w9.heap.size := Nat.le_trans hz0 hE9.size
 have hF9 : Eff p w w9 := hF0.trans hE9
 have k9 : w9.heap[w.heap.size]? = some (.cells #[.int .i64 0, .int .i64 0, .string ⟨#[]⟩, .slice none 0 0, .slice none 0 0, .slice none 0 0, .slice none 0 0] 27 (0, 0)) := (hE9.other _ (by omega) (by omega)).trans k0
 obtain ⟨e0, e1, e2, e3, e4, e5, e6⟩ := cells7 k9
 obtain ⟨z0, z1, z2, z3, z4, z5, z6⟩ := frozen7 k9
 go_wp2
 obtain ⟨V, hV⟩ : ∃ V, V = (((((((w9.setCell ⟨w.heap.size, 0, none⟩ (Value.int .i64 kk)).setCell ⟨w.heap.size, 1, none⟩ (Value.int .i64 ii)).setCell ⟨w.heap.size, 2, none⟩ (Value.string ⟨tt.toArray⟩)).setCell ⟨w.heap.size, 3, none⟩ (Value.slice none 0 0)).setCell ⟨w.heap.size, 4, none⟩ (Value.slice none 0 0)).setCell ⟨w.heap.size, 5, none⟩ (Value.slice none 0 0)).setCell ⟨w.heap.size, 6, none⟩ (Value.slice none 0 0)) := ⟨_, rfl⟩
 rw [← hV]
 have hob : V.heap[w.heap.size]? = some (.cells #[Value.int .i64 kk, Value.int .i64 ii, Value.string ⟨tt.toArray⟩, Value.slice none 0 0, Value.slice none 0 0, Value.slice none 0 0, Value.slice none 0 0] 27 (0, 0)) := by rw [hV]; exact obj7 k9 (Value.int .i64 kk) (Value.int .i64 ii) (Value.string ⟨tt.toArray⟩) (Value.slice none 0 0) (Value.slice none 0 0) (Value.slice none 0 0) (Value.slice none 0 0)
 have hfin : SrcOk h p V ∧ Eff p w V := by rw [hV]; exact src_set7 hS9 hF9 (Nat.le_refl _) hlp _ _ _ _ _ _ _
 have hszV : V.heap.size = w9.heap.size := by rw [hV]; simp
 have hsm : ∀ B : Nat → Prop, ¬ B w.heap.size → Same B w9 V := fun B h => by rw [hV]; exact same_setCell (same_setCell (same_setCell (same_setCell (same_setCell (same_setCell (same_setCell ((Same.refl _ _)) h) h) h) h) h) h) h
 clear hV e0 z0 e1 z1 e2 z2 e3 z3 e4 z4 e5 z5 e6 z6
 obtain ⟨ps0, ps1, ps2, ps3, ps4, ps5, ps6⟩ := cells7 hob
 refine bodyPost_ret (v := .agg #[Value.int .i64 kk, Value.int .i64 ii, Value.string ⟨tt.toArray⟩, Value.slice none 0 0, Value.slice none 0 0, Value.slice none 0 0, Value.slice none 0 0]) (by simp [results, Tryz.results24, go_sem, ps0, ps1, ps2, ps3, ps4, ps5, ps6]) rfl ?_
 obtain ⟨l1, l2, l3, l4, l5⟩ := hLf.all
 exact ⟨⟨lfV kk ii tt, _, rfl, lfVB l3 l4 l5 0 V _, l1, l2, rfl⟩, hfin⟩
set_option maxRecDepth 100000 in
set_option maxHeartbeats 12800000 in
theorem value_up (h p : Nat) (q : Nat) (w : World) (hS : SrcOk h p w) (hq : 1 ≤ q) (hq3 : q ≤ 3) (hV1 : Hid (∀ W, SrcOk h p W → Calls Tryz.prog 15 #[.pointer (some ⟨p, 0, none⟩), .int .i64 q] W (DrawR q h p W)))
  (hV2 : Hid (2 ≤ q → ∀ W, SrcOk h p W → Calls Tryz.prog 15 #[.pointer (some ⟨p, 0, none⟩), .int .i64 (q - 1 : Nat)] W (DrawR (q - 1) h p W))) :
  Calls Tryz.prog 24 #[.pointer (some ⟨p, 0, none⟩), .int .i64 (q + 1 : Nat)] w (DrawR0 (q + 1) h p w) := by
 have hlp := hS.lt
 obtain ⟨w0, hw0⟩ : ∃ w0, w0 = w.alloc (.cells #[.int .i64 0, .int .i64 0, .string ⟨#[]⟩, .slice none 0 0, .slice none 0 0, .slice none 0 0, .slice none 0 0] 27) := ⟨_, rfl⟩
 have hba : Below w.heap.size w w0 := by rw [hw0]; exact (Below.refl _ _).alloc (Nat.le_refl _) _
 have hz0 : w.heap.size + 1 ≤ w0.heap.size := by rw [hw0]; simp
 have k0 : w0.heap[w.heap.size]? = some (.cells #[.int .i64 0, .int .i64 0, .string ⟨#[]⟩, .slice none 0 0, .slice none 0 0, .slice none 0 0, .slice none 0 0] 27 (0, 0)) := by rw [hw0]; exact heap_alloc_new w _
 have hS0 := hS.below hba
 have hF0 : Eff p w w0 := Eff.of_below hba (Nat.le_of_lt hlp)
 clear hS hba
 have q1 : decide (((q + 1 : Nat) : Int) ≤ 1) = false := by simp; omega
 have qw : IntKind.i64.wrap (((q + 1 : Nat) : Int) - 1) = (q : Int) := by rw [IntWalk.i64_in _ (by omega)]; omega
 have hN := next_any h p 6 w0 hS0 (by omega) (by omega)
 generalize hq' : ((q + 1 : Nat) : Int) = qq at *
 have HQ := Lib.hid hq'
 clear hq'
 go_enter Tryz.func24, Tryz.ntmps24
 go_wp2_with fail
 rw [← hw0]
 clear hw0
 refine hN.mono ?_
 rintro e w1 ⟨j, rfl, j0, j1, hS1, hE1⟩
 clear hN
 have hz1 : w.heap.size + 1 ≤ w1.heap.size := Nat.le_trans hz0 hE1.size
 have hF1 : Eff p w w1 := hF0.trans hE1
 have k1 : w1.heap[w.heap.size]? = some (.cells #[.int .i64 0, .int .i64 0, .string ⟨#[]⟩, .slice none 0 0, .slice none 0 0, .slice none 0 0, .slice none 0 0] 27 (0, 0)) := (hE1.other _ (by omega) (by omega)).trans k0
 have hjj : j = 0 ∨ j = 1 ∨ j = 2 ∨ j = 3 ∨ j = 4 ∨ j = 5 := by omega
 clear j0 j1 k0 hF0 hS0
 rcases hjj with rfl | rfl | rfl | rfl | rfl | rfl
 ·
  clear q1
  have hlf := leaf_src h p w1 hS1
  go_wp2_with fail
  refine hlf.mono ?_
  rintro e w9 ⟨⟨kk, ii, tt, rfl, hLf⟩, hS9, hE9⟩
  simp only [lfC]
  clear hlf
  have hz9 : w.heap.size + 1 ≤ w9.heap.size := Nat.le_trans hz1 hE9.size
  have hF9 : Eff p w w9 := hF1.trans hE9
  have k9 : w9.heap[w.heap.size]? = some (.cells #[.int .i64 0, .int .i64 0, .string ⟨#[]⟩, .slice none 0 0, .slice none 0 0, .slice none 0 0, .slice none 0 0] 27 (0, 0)) := (hE9.other _ (by omega) (by omega)).trans k1
  obtain ⟨e0, e1, e2, e3, e4, e5, e6⟩ := cells7 k9
  obtain ⟨z0, z1, z2, z3, z4, z5, z6⟩ := frozen7 k9
  go_wp2
  obtain ⟨V, hV⟩ : ∃ V, V = (((((((w9.setCell ⟨w.heap.size, 0, none⟩ (Value.int .i64 kk)).setCell ⟨w.heap.size, 1, none⟩ (Value.int .i64 ii)).setCell ⟨w.heap.size, 2, none⟩ (Value.string ⟨tt.toArray⟩)).setCell ⟨w.heap.size, 3, none⟩ (Value.slice none 0 0)).setCell ⟨w.heap.size, 4, none⟩ (Value.slice none 0 0)).setCell ⟨w.heap.size, 5, none⟩ (Value.slice none 0 0)).setCell ⟨w.heap.size, 6, none⟩ (Value.slice none 0 0)) := ⟨_, rfl⟩
  rw [← hV]
  have hob : V.heap[w.heap.size]? = some (.cells #[Value.int .i64 kk, Value.int .i64 ii, Value.string ⟨tt.toArray⟩, Value.slice none 0 0, Value.slice none 0 0, Value.slice none 0 0, Value.slice none 0 0] 27 (0, 0)) := by rw [hV]; exact obj7 k9 (Value.int .i64 kk) (Value.int .i64 ii) (Value.string ⟨tt.toArray⟩) (Value.slice none 0 0) (Value.slice none 0 0) (Value.slice none 0 0) (Value.slice none 0 0)
  have hfin : SrcOk h p V ∧ Eff p w V := by rw [hV]; exact src_set7 hS9 hF9 (Nat.le_refl _) hlp _ _ _ _ _ _ _
  have hszV : V.heap.size = w9.heap.size := by rw [hV]; simp
  have hsm : ∀ B : Nat → Prop, ¬ B w.heap.size → Same B w9 V := fun B h => by rw [hV]; exact same_setCell (same_setCell (same_setCell (same_setCell (same_setCell (same_setCell (same_setCell ((Same.refl _ _)) h) h) h) h) h) h) h
  clear hV e0 z0 e1 z1 e2 z2 e3 z3 e4 z4 e5 z5 e6 z6
  obtain ⟨ps0, ps1, ps2, ps3, ps4, ps5, ps6⟩ := cells7 hob
  refine bodyPost_ret (v := .agg #[Value.int .i64 kk, Value.int .i64 ii, Value.string ⟨tt.toArray⟩, Value.slice none 0 0, Value.slice none 0 0, Value.slice none 0 0, Value.slice none 0 0]) (by simp [results, Tryz.results24, go_sem, ps0, ps1, ps2, ps3, ps4, ps5, ps6]) rfl ?_
  obtain ⟨l1, l2, l3, l4, l5⟩ := hLf.all
  exact ⟨⟨lfV kk ii tt, _, rfl, lfVB l3 l4 l5 q V _, l1, l2, rfl⟩, hfin⟩
 ·
  have hN := next_any h p 4 w1 hS1 (by omega) (by omega)
  go_wp2_with fail
  refine hN.mono ?_
  rintro e w2 ⟨i, rfl, i0, i1, hS2, hE2⟩
  clear hN
  have hz2 : w.heap.size + 1 ≤ w2.heap.size := Nat.le_trans hz1 hE2.size
  have hF2 : Eff p w w2 := hF1.trans hE2
  have k2 : w2.heap[w.heap.size]? = some (.cells #[.int .i64 0, .int .i64 0, .string ⟨#[]⟩, .slice none 0 0, .slice none 0 0, .slice none 0 0, .slice none 0 0] 27 (0, 0)) := (hE2.other _ (by omega) (by omega)).trans k1
  obtain ⟨i', rfl⟩ : ∃ i' : Nat, i = i' := ⟨i.toNat, by omega⟩
  clear k1 hF1 hS1
  go_wp2_with fail
  go_loopw [5, 6] (fun l i wr => ∃ (m : Nat) (A : Option Addr) (c : Nat) (args : List Vl), l = .slice A args.length c ∧ i = .int .i64 m ∧ args.length + m ≤ 3 ∧ OwnV q wr (w.heap.size + 1) (.slice A args.length c) args ∧ (∀ x ∈ args, okV x = true ∧ sml x) ∧ SrcOk h p wr ∧ Eff p w wr ∧ w.heap.size + 1 ≤ wr.heap.size ∧ wr.heap[w.heap.size]? = some (.cells #[.int .i64 0, .int .i64 0, .string ⟨#[]⟩, .slice none 0 0, .slice none 0 0, .slice none 0 0, .slice none 0 0] 27 (0, 0))) (fun _ i _ => (intOf i).toNat)
  case atStart => exact ⟨i', none, 0, [], rfl, rfl, by simp; omega, OwnE.nil _ _ _ _ _, by simp, hS2, hF2, hz2, k2⟩
  case round =>
   obtain ⟨m, A, c, args, rfl, rfl, hm, hO, hall, hSr, hEr, hzr, kr⟩ := hrel
   by_cases hm0 : m = 0
   ·
    subst hm0
    have mp : ((0 : Nat) : Int) = 0 := rfl
    have hT := refTuple_any q (w.heap.size + 1) A c args wr (by omega) (hO.row (by omega) (by unfold maxLen; omega)) (by omega)
    have HOK := Lib.hid (And.intro hm hall)
    clear hO hall hm
    generalize hla : args.length = la at hT
    clear hla
    go_wp2_with fail
    refine hT.mono ?_
    rintro e w3 ⟨cs, rfl, hvb, hb3⟩
    clear hT
    have hE3 : Eff p wr w3 := Eff.of_below hb3 (by omega)
    have hS3 : SrcOk h p w3 := hSr.below hb3
    have hF3 : Eff p w w3 := hEr.trans hE3
    have hz3 : w.heap.size + 1 ≤ w3.heap.size := Nat.le_trans hzr hE3.size
    have k3 : w3.heap[w.heap.size]? = some (.cells #[.int .i64 0, .int .i64 0, .string ⟨#[]⟩, .slice none 0 0, .slice none 0 0, .slice none 0 0, .slice none 0 0] 27 (0, 0)) := (hb3.block _ (by omega)).trans kr
    obtain ⟨ca, ci, cs', B1, n1, d1, B2, n2, d2, B3, n3, d3, B4, n4, d4, rfl⟩ := hvb.form7
    have HV := Lib.hid hvb
    clear hvb kr
    obtain ⟨e0, e1, e2, e3, e4, e5, e6⟩ := cells7 k3
    obtain ⟨z0, z1, z2, z3, z4, z5, z6⟩ := frozen7 k3
    go_wp2
    obtain ⟨V, hV⟩ : ∃ V, V = (((((((w3.setCell ⟨w.heap.size, 0, none⟩ (Value.int .i64 ca)).setCell ⟨w.heap.size, 1, none⟩ (Value.int .i64 ci)).setCell ⟨w.heap.size, 2, none⟩ (Value.string cs')).setCell ⟨w.heap.size, 3, none⟩ (Value.slice B1 n1 d1)).setCell ⟨w.heap.size, 4, none⟩ (Value.slice B2 n2 d2)).setCell ⟨w.heap.size, 5, none⟩ (Value.slice B3 n3 d3)).setCell ⟨w.heap.size, 6, none⟩ (Value.slice B4 n4 d4)) := ⟨_, rfl⟩
    rw [← hV]
    have hob : V.heap[w.heap.size]? = some (.cells #[Value.int .i64 ca, Value.int .i64 ci, Value.string cs', Value.slice B1 n1 d1, Value.slice B2 n2 d2, Value.slice B3 n3 d3, Value.slice B4 n4 d4] 27 (0, 0)) := by rw [hV]; exact obj7 k3 (Value.int .i64 ca) (Value.int .i64 ci) (Value.string cs') (Value.slice B1 n1 d1) (Value.slice B2 n2 d2) (Value.slice B3 n3 d3) (Value.slice B4 n4 d4)
    have hfin : SrcOk h p V ∧ Eff p w V := by rw [hV]; exact src_set7 hS3 hF3 (Nat.le_refl _) hlp _ _ _ _ _ _ _
    have hszV : V.heap.size = w3.heap.size := by rw [hV]; simp
    have hsm : ∀ B : Nat → Prop, ¬ B w.heap.size → Same B w3 V := fun B h => by rw [hV]; exact same_setCell (same_setCell (same_setCell (same_setCell (same_setCell (same_setCell (same_setCell ((Same.refl _ _)) h) h) h) h) h) h) h
    clear hV e0 z0 e1 z1 e2 z2 e3 z3 e4 z4 e5 z5 e6 z6
    obtain ⟨ps0, ps1, ps2, ps3, ps4, ps5, ps6⟩ := cells7 hob
    refine bodyPost_ret (v := .agg #[Value.int .i64 ca, Value.int .i64 ci, Value.string cs', Value.slice B1 n1 d1, Value.slice B2 n2 d2, Value.slice B3 n3 d3, Value.slice B4 n4 d4]) (by simp [results, Tryz.results24, go_sem, ps0, ps1, ps2, ps3, ps4, ps5, ps6]) rfl ?_
    obtain ⟨o1, o2⟩ := okVs_of HOK.out.2
    refine ⟨⟨tupV args, _, rfl, VB.sub (B := Btw (w.heap.size + 1) w3.heap.size) (fun b hb => ⟨by have := hb.1; omega, by have := hb.2; omega⟩) (Nat.le_refl _) (VB.keep (hsm _ (fun h => by have := h.1; omega)) HV.out), ?_, ?_, rfl⟩, hfin⟩
    ·
     have := HOK.out.1
     simp [okV, tupV, labelsB, AscC, usesB, kindB, okEs, o1]; omega
    ·
     have := HOK.out.1
     exact ⟨by omega, by simp, by simp, by simp, o2, by simp [smlEs]⟩
   ·
    have mp : (0 : Int) < (m : Int) := by omega
    have hw1 : IntKind.i64.wrap ((m : Int) - 1) = (m : Int) - 1 := IntWalk.i64_in _ (by omega)
    have hvc := hV1.out wr hSr
    have HALL := Lib.hid hall
    have HO := Lib.hid hO
    have HM := Lib.hid hm
    generalize hla : args.length = la at *
    have HLA := Lib.hid hla
    clear hall hO hla hm
    go_wp2_with fail
    refine hvc.mono ?_
    rintro e w3 ⟨⟨v, cs, rfl, hvb, hok, hsm⟩, hS3, hE3⟩
    clear hvc
    obtain ⟨ca, ci, cs', B1, n1, d1, B2, n2, d2, B3, n3, d3, B4, n4, d4, rfl⟩ := hvb.form7
    have hF3 : Eff p w w3 := hEr.trans hE3
    have hz3 : w.heap.size + 1 ≤ w3.heap.size := Nat.le_trans hzr hE3.size
    have k3 : w3.heap[w.heap.size]? = some (.cells #[.int .i64 0, .int .i64 0, .string ⟨#[]⟩, .slice none 0 0, .slice none 0 0, .slice none 0 0, .slice none 0 0] 27 (0, 0)) := (hE3.other _ (by omega) (by omega)).trans kr
    have hO3 := HO.out.eff hE3 (by omega)
    have hblk := HO.out.blk
    have hzz := hE3.size
    have hll := HLA.out
    have hmm := HM.out
    go_wp2_with (at_builtin; refine wp_app_v rfl _ _ rfl q (w.heap.size + 1) _ args rfl hO3 v _ 1 _ rfl rfl _ rfl (VB.sub (fun b hb => ⟨by have := hb.1; omega, hb.2, fun e => by have := hblk b e.symm; have := hb.1; omega⟩) (Nat.le_refl _) hvb) rfl (elV_one q v _ _ _ hvb) (by omega) hz3 ?_; intro g cap w4 ho4 hb4 _ _; refine Hid.out ?_)
    refine Lib.hid ?_
    have hS4 : SrcOk h p w4 := hS3.below3 hb4 (by omega)
    have hF4 : Eff p w w4 := hF3.grow (hb4.mono (by omega)) hlp
    have hz4 : w.heap.size + 1 ≤ w4.heap.size := Nat.le_trans hz3 hb4.size
    have k4 : w4.heap[w.heap.size]? = some (.cells #[.int .i64 0, .int .i64 0, .string ⟨#[]⟩, .slice none 0 0, .slice none 0 0, .slice none 0 0, .slice none 0 0] 27 (0, 0)) := (hb4.block _ (by omega)).trans k3
    have HR := Lib.hid (And.intro ho4 (And.intro hok (And.intro hsm (And.intro hS4 (And.intro hF4 (And.intro hz4 k4))))))
    clear ho4 hok hsm hS4 hF4 hz4 k4 hvb hO3 hblk hb4 hF3 k3 hS3 hE3 kr hSr hEr hll hmm
    go_wp2_with fail
    go_roundw
    case rel =>
     obtain ⟨q1, q2, q3, q4, q5, q6, q7⟩ := HR.out
     have hl2 : (args ++ [v]).length = la + 1 := by rw [List.length_append, HLA.out]; rfl
     refine ⟨m - 1, some ⟨g, 0, none⟩, cap, args ++ [v], by rw [hl2, ← HLA.out], by go_num, by have := HM.out; omega, by rw [hl2, ← HLA.out]; exact q1, ?_, q4, q5, q6, q7⟩
     intro x hx
     rcases List.mem_append.1 hx with hx | hx
     · exact HALL.out x hx
     · rw [List.mem_singleton.1 hx]; exact ⟨q2, q3⟩
    case measure => simp [intOf]; try omega
 ·
  have hNil := refNil_any w1
  go_wp2_with fail
  refine hNil.mono ?_
  rintro e w2 ⟨rfl, hb2⟩
  clear hNil
  have hE2 : Eff p w1 w2 := Eff.of_below hb2 (by omega)
  have hS2 : SrcOk h p w2 := hS1.below hb2
  have hz2 : w.heap.size + 1 ≤ w2.heap.size := Nat.le_trans hz1 hE2.size
  have hF2 : Eff p w w2 := hF1.trans hE2
  have k2 : w2.heap[w.heap.size]? = some (.cells #[.int .i64 0, .int .i64 0, .string ⟨#[]⟩, .slice none 0 0, .slice none 0 0, .slice none 0 0, .slice none 0 0] 27 (0, 0)) := (hE2.other _ (by omega) (by omega)).trans k1
  obtain ⟨w3, hw3⟩ : ∃ w3, w3 = w2.alloc (.cells #[.int .i64 5, .int .i64 0, .string ⟨#[]⟩, .slice none 0 0, .slice none 0 0, .slice none 0 0, .slice none 0 0] 27) := ⟨_, rfl⟩
  have hb3 : Below w2.heap.size w2 w3 := by rw [hw3]; exact (Below.refl _ _).alloc (Nat.le_refl _) _
  have hs3 : w2.heap.size + 1 ≤ w3.heap.size := by rw [hw3]; simp
  have kt3 : w3.heap[w2.heap.size]? = some (.cells #[.int .i64 5, .int .i64 0, .string ⟨#[]⟩, .slice none 0 0, .slice none 0 0, .slice none 0 0, .slice none 0 0] 27 (0, 0)) := by rw [hw3]; exact heap_alloc_new w2 _
  have hE3 : Eff p w2 w3 := Eff.of_below hb3 (by omega)
  have hS3 : SrcOk h p w3 := hS2.below hb3
  have hz3 : w.heap.size + 1 ≤ w3.heap.size := Nat.le_trans hz2 hE3.size
  have hF3 : Eff p w w3 := hF2.trans hE3
  have k3 : w3.heap[w.heap.size]? = some (.cells #[.int .i64 0, .int .i64 0, .string ⟨#[]⟩, .slice none 0 0, .slice none 0 0, .slice none 0 0, .slice none 0 0] 27 (0, 0)) := (hE3.other _ (by omega) (by omega)).trans k2
  obtain ⟨tv, HTV⟩ : ∃ tv, Hid (lfV 5 0 [] = tv) := ⟨_, Lib.hid rfl⟩
  clear hb2 hb3 k1 k2 hS1 hS2 hF1 hF2
  by_cases hq2 : 2 ≤ q
  ·
   have q2b : decide ((2 : Int) < qq) = true := by simp; have := HQ.out; omega
   have hN := next_any h p 2 w3 hS3 (by omega) (by omega)
   go_wp2_with fail
   rw [← hw3]
   clear hw3
   refine hN.mono ?_
   rintro e w4 ⟨i, rfl, i0, i1, hS4, hE4⟩
   clear hN
   have hz4 : w.heap.size + 1 ≤ w4.heap.size := Nat.le_trans hz3 hE4.size
   have hF4 : Eff p w w4 := hF3.trans hE4
   have k4 : w4.heap[w.heap.size]? = some (.cells #[.int .i64 0, .int .i64 0, .string ⟨#[]⟩, .slice none 0 0, .slice none 0 0, .slice none 0 0, .slice none 0 0] 27 (0, 0)) := (hE4.other _ (by omega) (by omega)).trans k3
   have kt4 : w4.heap[w2.heap.size]? = some (.cells #[.int .i64 5, .int .i64 0, .string ⟨#[]⟩, .slice none 0 0, .slice none 0 0, .slice none 0 0, .slice none 0 0] 27 (0, 0)) := (hE4.other _ (by omega) (by omega)).trans kt3
   have hs4 := hE4.size
   have hii : i = 0 ∨ i = 1 := by omega
   clear i0 i1 k3 kt3 hS3 hF3
   rcases hii with rfl | rfl
   ·
    have HTZ : Hid (w2.heap.size < w4.heap.size) := Lib.hid (by omega)
    have HT : Hid (VB q w4 (fun b => w.heap.size + 1 ≤ b ∧ b < w4.heap.size ∧ b ≠ w2.heap.size) tv [.int .i64 5, .int .i64 0, .string ⟨#[]⟩, .slice none 0 0, .slice none 0 0, .slice none 0 0, .slice none 0 0] ∧ okV tv = true ∧ sml tv) := Lib.hid ⟨by rw [← HTV.out]; exact VB.sub (fun _ h => h) hq (lfVB (by decide) (by decide) (by simp) 0 _ _), by rw [← HTV.out]; decide, by rw [← HTV.out]; exact ⟨by simp, by simp, by simp, by simp, by simp [smlVs], by simp [smlEs]⟩⟩
    have HTK : Hid ((decide (kindOf tv = 5) || decide (kindOf tv = 7)) = true) := Lib.hid (by rw [← HTV.out]; decide)
    have hl := labels_src h p w4 hS4
    go_wp2_with fail
    refine hl.mono ?_
    rintro e w20 ⟨⟨LA, ln, lc, ls, rfl, hln, hl2, hlb, _, hlR⟩, hS20, hE20⟩
    clear hl
    have hz20 : w.heap.size + 1 ≤ w20.heap.size := Nat.le_trans hz4 hE20.size
    have hF20 : Eff p w w20 := hF4.trans hE20
    have k20 : w20.heap[w.heap.size]? = some (.cells #[.int .i64 0, .int .i64 0, .string ⟨#[]⟩, .slice none 0 0, .slice none 0 0, .slice none 0 0, .slice none 0 0] 27 (0, 0)) := (hE20.other _ (by omega) (by omega)).trans k4
    have hzt : w2.heap.size < w4.heap.size := HTZ.out
    have kt20 : w20.heap[w2.heap.size]? = some (.cells #[.int .i64 5, .int .i64 0, .string ⟨#[]⟩, .slice none 0 0, .slice none 0 0, .slice none 0 0, .slice none 0 0] 27 (0, 0)) := (hE20.other _ (by have := hz2; omega) hzt).trans kt4
    have hne1 : w.heap.size ≠ w2.heap.size := by omega
    obtain ⟨w21, hw21⟩ : ∃ w21, w21 = w20.setCell ⟨w2.heap.size, 6, none⟩ (.slice LA ln lc) := ⟨_, rfl⟩
    obtain ⟨hS21, hF21⟩ : SrcOk h p w21 ∧ Eff p w w21 := by rw [hw21]; exact src_set hS20 hF20 (by omega) (by omega)
    have hz21 : w.heap.size + 1 ≤ w21.heap.size := by rw [hw21]; simpa using hz20
    have hs21 : w21.heap.size = w20.heap.size := by rw [hw21]; simp
    have HS21 := Lib.hid hs21
    have hzt21 : w2.heap.size < w21.heap.size := by rw [hs21]; exact Nat.lt_of_lt_of_le hzt hE20.size
    have k21 : w21.heap[w.heap.size]? = some (.cells #[.int .i64 0, .int .i64 0, .string ⟨#[]⟩, .slice none 0 0, .slice none 0 0, .slice none 0 0, .slice none 0 0] 27 (0, 0)) := by rw [hw21]; exact (heap_setCell_other _ _ _ _ hne1).trans k20
    have kt21 : w21.heap[w2.heap.size]? = some (.cells #[.int .i64 5, .int .i64 0, .string ⟨#[]⟩, .slice none 0 0, .slice none 0 0, .slice none 0 0, .slice LA ln lc] 27 (0, 0)) := by rw [hw21]; simpa using heap_setCell_same w20 w2.heap.size 6 _ _ (.slice LA ln lc) kt20
    have hT21 : VB q w21 (fun b => w.heap.size + 1 ≤ b ∧ b < w21.heap.size ∧ b ≠ w2.heap.size) (withL ls tv) [.int .i64 5, .int .i64 0, .string ⟨#[]⟩, .slice none 0 0, .slice none 0 0, .slice none 0 0, .slice LA ln lc] := by
     have h1 : VB q w20 (fun b => w.heap.size + 1 ≤ b ∧ b < w20.heap.size ∧ b ≠ w2.heap.size) tv [.int .i64 5, .int .i64 0, .string ⟨#[]⟩, .slice none 0 0, .slice none 0 0, .slice none 0 0, .slice none 0 0] := VB.sub (fun b hb => ⟨hb.1, Nat.lt_of_lt_of_le hb.2.1 hE20.size, hb.2.2⟩) (Nat.le_refl _) (VB.keep (hE20.same (B := fun b => w.heap.size + 1 ≤ b ∧ b < w4.heap.size ∧ b ≠ w2.heap.size) fun b hb => by have := hb.1; omega) HT.out.1)
     subst hln
     have h2 := vb_relabel h1 (RowB.sub hlR (fun b hb => ⟨by have := hb.1; omega, hb.2, by have := hb.1; omega⟩) fun _ _ h => h)
     have h3 := VB.keep (w' := w21) (by rw [hw21]; exact same_setCell (Same.refl _ _) (fun hb => hb.2.2 rfl)) h2
     exact VB.sub (fun b hb => ⟨hb.1, by rw [hs21]; exact hb.2.1, hb.2.2⟩) (Nat.le_refl _) h3
    have HTT := Lib.hid (And.intro hT21 (And.intro (okV_withL HT.out.2.1 hlb) (sml_withL HT.out.2.2 (by rw [hln]; omega))))
    have y6 := Lib.frozen_of_heap kt20 6
    have g6 : w20.cell? ⟨w2.heap.size, 6, none⟩ = some (.slice none 0 0) := (Lib.cell_of_heap kt20 6).trans rfl
    have hvc := fun W (hW : SrcOk h p W) => hV1.out W hW
    have HVC := Lib.hid hvc
    clear hvc hlR hlb hT21 hln hs21 hl2
    go_wp2_with fail
    rw [← hw21]
    clear hw21 y6 g6 kt20 k20 hS20 hE20 hF20
    have HKT : Hid (∀ V, Eff p w21 V → V.cell? ⟨w2.heap.size, 0, none⟩ = some (.int .i64 5) ∧ V.cell? ⟨w2.heap.size, 1, none⟩ = some (.int .i64 0) ∧ V.cell? ⟨w2.heap.size, 2, none⟩ = some (.string ⟨#[]⟩) ∧ V.cell? ⟨w2.heap.size, 3, none⟩ = some (.slice none 0 0) ∧ V.cell? ⟨w2.heap.size, 4, none⟩ = some (.slice none 0 0) ∧ V.cell? ⟨w2.heap.size, 5, none⟩ = some (.slice none 0 0) ∧ V.cell? ⟨w2.heap.size, 6, none⟩ = some (.slice LA ln lc)) := Lib.hid fun V hV => by
     have kk := (hV.other _ (by omega) hzt21).trans kt21
     exact ⟨(Lib.cell_of_heap kk 0).trans rfl, (Lib.cell_of_heap kk 1).trans rfl, (Lib.cell_of_heap kk 2).trans rfl, (Lib.cell_of_heap kk 3).trans rfl, (Lib.cell_of_heap kk 4).trans rfl, (Lib.cell_of_heap kk 5).trans rfl, (Lib.cell_of_heap kk 6).trans rfl⟩
    have hvd := HVC.out w21.drew (hS21.below ((Below.refl _ _).drew))
    refine wp_region_held_drew (S := fun V => V.cell? ⟨w2.heap.size, 0, none⟩ = some (.int .i64 5) ∧ V.cell? ⟨w2.heap.size, 1, none⟩ = some (.int .i64 0) ∧ V.cell? ⟨w2.heap.size, 2, none⟩ = some (.string ⟨#[]⟩) ∧ V.cell? ⟨w2.heap.size, 3, none⟩ = some (.slice none 0 0) ∧ V.cell? ⟨w2.heap.size, 4, none⟩ = some (.slice none 0 0) ∧ V.cell? ⟨w2.heap.size, 5, none⟩ = some (.slice none 0 0) ∧ V.cell? ⟨w2.heap.size, 6, none⟩ = some (.slice LA ln lc)) (by kernel_rfl) (HKT.out _ ⟨(Below.refl p w21).drew, fun _ _ _ => rfl⟩) (fun hHeld => ?_)
    refine tk 0 hHeld ?_
    try simp only [Act.put, pA, pB, pC]
    refine tk 1 hHeld ?_
    try simp only [Act.put, pA, pB, pC]
    refine tk 2 hHeld ?_
    try simp only [Act.put, pA, pB, pC]
    refine tk 4 hHeld ?_
    try simp only [Act.put, pA, pB, pC]
    refine one_op 3 (by kernel_rfl) rfl (by rfl) (fun K hK => ?_)
    go_simp
    with_reducible refine hvd.mono ?_
    rintro e w22 ⟨⟨v, cs, rfl, hvb, hok, hsm1⟩, hS22, hE22d⟩
    have hE21 : Eff p w21 w22 := ⟨((Below.refl p w21).drew).trans hE22d.below, fun b hb hl => hE22d.other b hb hl⟩
    obtain ⟨a, i, s, B1, n1, d1, B2, n2, d2, B3, n3, d3, B4, n4, d4, rfl⟩ := hvb.form7
    refine hK _ _ (HKT.out _ hE21) ?_
    try simp only [Act.put, pA, pB, pC]
    refine one_op 5 (by kernel_rfl) rfl (by rfl) (fun K hK => ?_)
    have hz22 : w.heap.size + 1 ≤ w22.heap.size := Nat.le_trans hz21 hE21.size
    have hF22 : Eff p w w22 := hF21.trans hE21
    have k22 : w22.heap[w.heap.size]? = some (.cells #[.int .i64 0, .int .i64 0, .string ⟨#[]⟩, .slice none 0 0, .slice none 0 0, .slice none 0 0, .slice none 0 0] 27 (0, 0)) := (hE21.other _ (by omega) (by omega)).trans k21
    have hcc := refCons_any q (w.heap.size + 1) v (withL ls tv) _ _ w22 hz22 (VB.sub (fun b hb => ⟨by have h1 : w21.heap.size ≤ b := hb.1; omega, hb.2⟩) (Nat.le_refl _) hvb) (VB.sub (B := fun b => w.heap.size + 1 ≤ b ∧ b < w21.heap.size ∧ b ≠ w2.heap.size) (fun b hb => ⟨hb.1, Nat.lt_of_lt_of_le hb.2.1 hE21.size⟩) (Nat.le_refl _) (VB.keep (hE21.same fun b hb => by have := hb.1; omega) HTT.out.1))
    go_simp
    with_reducible refine hcc.mono ?_
    rintro e w23 ⟨cs, rfl, hvc3, hb23⟩
    clear hcc
    obtain ⟨ca, ci, cs', C1, m1, f1, C2, m2, f2, C3, m3, f3, C4, m4, f4, rfl⟩ := hvc3.form7
    have hE23 : Eff p w22 w23 := Eff.of_below hb23 (by omega)
    have hS23 : SrcOk h p w23 := hS22.below hb23
    have hz23 : w.heap.size + 1 ≤ w23.heap.size := Nat.le_trans hz22 hE23.size
    have hF23 : Eff p w w23 := hF22.trans hE23
    have k23 : w23.heap[w.heap.size]? = some (.cells #[.int .i64 0, .int .i64 0, .string ⟨#[]⟩, .slice none 0 0, .slice none 0 0, .slice none 0 0, .slice none 0 0] 27 (0, 0)) := (hE23.other _ (by omega) (by omega)).trans k22
    have HVV := Lib.hid (And.intro hvc3 (And.intro hok hsm1))
    clear hvb hok hsm1 hvc3
    refine hK _ _ (HKT.out _ (hE21.trans hE23)) ?_
    try simp only [Act.put, pA, pB, pC]
    refine one_op 6 (by kernel_rfl) rfl (by rfl) (fun K hK => ?_)
    obtain ⟨e0, e1, e2, e3, e4, e5, e6⟩ := cells7 k23
    obtain ⟨z0, z1, z2, z3, z4, z5, z6⟩ := frozen7 k23
    obtain ⟨V, hV⟩ : ∃ V, V = (((((((w23.setCell ⟨w.heap.size, 0, none⟩ (Value.int .i64 ca)).setCell ⟨w.heap.size, 1, none⟩ (Value.int .i64 ci)).setCell ⟨w.heap.size, 2, none⟩ (Value.string cs')).setCell ⟨w.heap.size, 3, none⟩ (Value.slice C1 m1 f1)).setCell ⟨w.heap.size, 4, none⟩ (Value.slice C2 m2 f2)).setCell ⟨w.heap.size, 5, none⟩ (Value.slice C3 m3 f3)).setCell ⟨w.heap.size, 6, none⟩ (Value.slice C4 m4 f4)) := ⟨_, rfl⟩
    have hob : V.heap[w.heap.size]? = some (.cells #[Value.int .i64 ca, Value.int .i64 ci, Value.string cs', Value.slice C1 m1 f1, Value.slice C2 m2 f2, Value.slice C3 m3 f3, Value.slice C4 m4 f4] 27 (0, 0)) := by rw [hV]; exact obj7 k23 (Value.int .i64 ca) (Value.int .i64 ci) (Value.string cs') (Value.slice C1 m1 f1) (Value.slice C2 m2 f2) (Value.slice C3 m3 f3) (Value.slice C4 m4 f4)
    have hfin : SrcOk h p V ∧ Eff p w V := by rw [hV]; exact src_set7 hS23 hF23 (Nat.le_refl _) hlp _ _ _ _ _ _ _
    have hszV : V.heap.size = w23.heap.size := by rw [hV]; simp
    have hsm : ∀ B : Nat → Prop, ¬ B w.heap.size → Same B w23 V := fun B h => by rw [hV]; exact same_setCell (same_setCell (same_setCell (same_setCell (same_setCell (same_setCell (same_setCell ((Same.refl _ _)) h) h) h) h) h) h) h
    have hHV : V.cell? ⟨w2.heap.size, 0, none⟩ = some (.int .i64 5) ∧ V.cell? ⟨w2.heap.size, 1, none⟩ = some (.int .i64 0) ∧ V.cell? ⟨w2.heap.size, 2, none⟩ = some (.string ⟨#[]⟩) ∧ V.cell? ⟨w2.heap.size, 3, none⟩ = some (.slice none 0 0) ∧ V.cell? ⟨w2.heap.size, 4, none⟩ = some (.slice none 0 0) ∧ V.cell? ⟨w2.heap.size, 5, none⟩ = some (.slice none 0 0) ∧ V.cell? ⟨w2.heap.size, 6, none⟩ = some (.slice LA ln lc) := by
     have hk := HKT.out _ (hE21.trans hE23)
     have hc : ∀ i, V.cell? ⟨w2.heap.size, i, none⟩ = w23.cell? ⟨w2.heap.size, i, none⟩ := fun i => (hsm (fun b => b = w2.heap.size) (fun e => hne1 e)).cell _ i rfl (Nat.lt_of_lt_of_le (Nat.lt_of_lt_of_le hzt21 hE21.size) hE23.size)
     simp only [hc]
     exact hk
    go_simp
    rw [← hV]
    clear hV e0 z0 e1 z1 e2 z2 e3 z3 e4 z4 e5 z5 e6 z6
    refine hK _ _ hHV ?_
    try simp only [Act.put, pA, pB, pC]
    refine wpAnyH_done (by kernel_rfl) ?_ _
    go_wp2
    obtain ⟨ps0, ps1, ps2, ps3, ps4, ps5, ps6⟩ := cells7 hob
    refine bodyPost_ret (v := .agg #[Value.int .i64 ca, Value.int .i64 ci, Value.string cs', Value.slice C1 m1 f1, Value.slice C2 m2 f2, Value.slice C3 m3 f3, Value.slice C4 m4 f4]) (by simp [results, Tryz.results24, go_sem, ps0, ps1, ps2, ps3, ps4, ps5, ps6]) rfl ?_
    obtain ⟨p1, p2, p3⟩ := HVV.out
    obtain ⟨p4, p5, p6⟩ := HTT.out
    have hkd := HTK.out
    refine ⟨⟨consV v (withL ls tv), _, rfl, VB.sub (B := Btw (w.heap.size + 1) w23.heap.size) (fun b hb => ⟨by have := hb.1; omega, by have := hb.2; omega⟩) (Nat.le_refl _) (VB.keep (hsm _ (fun h => by have := h.1; omega)) p1), ?_, ?_, rfl⟩, hfin⟩
    ·
     have hkw : kindOf (withL ls tv) = kindOf tv := by cases tv; rfl
     have hcb : consB [v, withL ls tv] = true := by
      show (decide (kindOf (withL ls tv) = 5) || decide (kindOf (withL ls tv) = 7)) = true
      rw [hkw]
      exact hkd
     simp [okV, consV, labelsB, AscC, usesB, kindB, okVs, okEs, p2, p5, hcb]
    · exact ⟨by simp, by simp, by simp, by simp, ⟨p3, p6, trivial⟩, by simp [smlEs]⟩
   ·
    have qw2 : IntKind.i64.wrap (qq - 2) = ((q - 1 : Nat) : Int) := by rw [IntWalk.i64_in _ (by have := HQ.out; omega)]; have := HQ.out; omega
    have hvc := hV2.out hq2 w4 hS4
    go_wp2_with fail
    refine hvc.mono ?_
    rintro e w5 ⟨⟨v0, cs, rfl, hvb, hok, hsm0⟩, hS5, hE5⟩
    clear hvc
    obtain ⟨a, i, s, B1, n1, d1, B2, n2, d2, B3, n3, d3, B4, n4, d4, rfl⟩ := hvb.form7
    have hz5 : w.heap.size + 1 ≤ w5.heap.size := Nat.le_trans hz4 hE5.size
    have hF5 : Eff p w w5 := hF4.trans hE5
    have k5 : w5.heap[w.heap.size]? = some (.cells #[.int .i64 0, .int .i64 0, .string ⟨#[]⟩, .slice none 0 0, .slice none 0 0, .slice none 0 0, .slice none 0 0] 27 (0, 0)) := (hE5.other _ (by omega) (by omega)).trans k4
    have hNil := refNil_any w5
    go_wp2_with fail
    refine hNil.mono ?_
    rintro e w6 ⟨rfl, hb6⟩
    clear hNil
    have hE6 : Eff p w5 w6 := Eff.of_below hb6 (by omega)
    have hS6 : SrcOk h p w6 := hS5.below hb6
    have hz6 : w.heap.size + 1 ≤ w6.heap.size := Nat.le_trans hz5 hE6.size
    have hF6 : Eff p w w6 := hF5.trans hE6
    have k6 : w6.heap[w.heap.size]? = some (.cells #[.int .i64 0, .int .i64 0, .string ⟨#[]⟩, .slice none 0 0, .slice none 0 0, .slice none 0 0, .slice none 0 0] 27 (0, 0)) := (hE6.other _ (by omega) (by omega)).trans k5
    have hcc := refCons_any (q - 1) w4.heap.size v0 (lfV 5 0 []) _ (lfC 5 0 []) w6 (Nat.le_trans hE5.size hE6.size) (VB.sub (fun b hb => ⟨hb.1, Nat.lt_of_lt_of_le hb.2 hE6.size⟩) (Nat.le_refl _) (VB.keep (.of_below hb6 fun _ hb => hb.2) hvb)) (VB.sub (fun _ hb => hb) (show 0 + 1 ≤ q - 1 by omega) (lfVB (by decide) (by decide) (by simp) 0 _ _))
    simp only [lfC] at hcc
    have HSO := Lib.hid (And.intro hok hsm0)
    clear hok hsm0 hvb
    go_wp2_with fail
    refine hcc.mono ?_
    rintro e w7 ⟨cs, rfl, hvc7, hb7⟩
    clear hcc
    obtain ⟨ta, ti, ts, T1, tn1, td1, T2, tn2, td2, T3, tn3, td3, T4, tn4, td4, rfl⟩ := hvc7.form7
    have hE7 : Eff p w6 w7 := Eff.of_below hb7 (by omega)
    have hS7 : SrcOk h p w7 := hS6.below hb7
    have hz7 : w.heap.size + 1 ≤ w7.heap.size := Nat.le_trans hz6 hE7.size
    have hF7 : Eff p w w7 := hF6.trans hE7
    have k7 : w7.heap[w.heap.size]? = some (.cells #[.int .i64 0, .int .i64 0, .string ⟨#[]⟩, .slice none 0 0, .slice none 0 0, .slice none 0 0, .slice none 0 0] 27 (0, 0)) := (hE7.other _ (by omega) (by omega)).trans k6
    have kt7 : w7.heap[w2.heap.size]? = some (.cells #[.int .i64 5, .int .i64 0, .string ⟨#[]⟩, .slice none 0 0, .slice none 0 0, .slice none 0 0, .slice none 0 0] 27 (0, 0)) := (hE7.other _ (by omega) (by have := hE5.size; have := hE6.size; omega)).trans ((hE6.other _ (by omega) (by have := hE5.size; omega)).trans ((hE5.other _ (by omega) (by omega)).trans kt4))
    have hsz7 : w4.heap.size ≤ w7.heap.size := Nat.le_trans hE5.size (Nat.le_trans hE6.size hE7.size)
    have hlt7 : w2.heap.size < w7.heap.size := by omega
    have hlt4 : w2.heap.size < w4.heap.size := by omega
    have hne1 : w.heap.size ≠ w2.heap.size := by omega
    obtain ⟨te0, te1, te2, te3, te4, te5, te6⟩ := cells7 kt7
    obtain ⟨tz0, tz1, tz2, tz3, tz4, tz5, tz6⟩ := frozen7 kt7
    obtain ⟨w8, hw8⟩ : ∃ w8, w8 = (((((((w7.setCell ⟨w2.heap.size, 0, none⟩ (Value.int .i64 ta)).setCell ⟨w2.heap.size, 1, none⟩ (Value.int .i64 ti)).setCell ⟨w2.heap.size, 2, none⟩ (Value.string ts)).setCell ⟨w2.heap.size, 3, none⟩ (Value.slice T1 tn1 td1)).setCell ⟨w2.heap.size, 4, none⟩ (Value.slice T2 tn2 td2)).setCell ⟨w2.heap.size, 5, none⟩ (Value.slice T3 tn3 td3)).setCell ⟨w2.heap.size, 6, none⟩ (Value.slice T4 tn4 td4)) := ⟨_, rfl⟩
    have kt8 : w8.heap[w2.heap.size]? = some (.cells #[.int .i64 ta, .int .i64 ti, .string ts, .slice T1 tn1 td1, .slice T2 tn2 td2, .slice T3 tn3 td3, .slice T4 tn4 td4] 27 (0, 0)) := by rw [hw8]; exact obj7 kt7 (Value.int .i64 ta) (Value.int .i64 ti) (Value.string ts) (Value.slice T1 tn1 td1) (Value.slice T2 tn2 td2) (Value.slice T3 tn3 td3) (Value.slice T4 tn4 td4)
    obtain ⟨hS8, hF8⟩ : SrcOk h p w8 ∧ Eff p w w8 := by rw [hw8]; exact src_set7 hS7 hF7 (by omega) (by omega) _ _ _ _ _ _ _
    have hs8 : w8.heap.size = w7.heap.size := by rw [hw8]; simp
    have hsm8 : ∀ B : Nat → Prop, ¬ B w2.heap.size → Same B w7 w8 := fun B hb => by rw [hw8]; exact same_setCell (same_setCell (same_setCell (same_setCell (same_setCell (same_setCell (same_setCell ((Same.refl _ _)) hb) hb) hb) hb) hb) hb) hb
    have k8 : w8.heap[w.heap.size]? = some (.cells #[.int .i64 0, .int .i64 0, .string ⟨#[]⟩, .slice none 0 0, .slice none 0 0, .slice none 0 0, .slice none 0 0] 27 (0, 0)) := by rw [hw8]; exact (heap_setCell_other _ _ _ _ hne1).trans ((heap_setCell_other _ _ _ _ hne1).trans ((heap_setCell_other _ _ _ _ hne1).trans ((heap_setCell_other _ _ _ _ hne1).trans ((heap_setCell_other _ _ _ _ hne1).trans ((heap_setCell_other _ _ _ _ hne1).trans ((heap_setCell_other _ _ _ _ hne1).trans (k7)))))))
    have hz8 : w.heap.size + 1 ≤ w8.heap.size := by rw [hs8]; exact hz7
    have HTZ : Hid (w2.heap.size < w8.heap.size) := Lib.hid (by rw [hs8]; exact hlt7)
    have HT : Hid (VB q w8 (fun b => w.heap.size + 1 ≤ b ∧ b < w8.heap.size ∧ b ≠ w2.heap.size) (consV v0 (lfV 5 0 [])) [.int .i64 ta, .int .i64 ti, .string ts, .slice T1 tn1 td1, .slice T2 tn2 td2, .slice T3 tn3 td3, .slice T4 tn4 td4] ∧ okV (consV v0 (lfV 5 0 [])) = true ∧ sml (consV v0 (lfV 5 0 []))) := Lib.hid ⟨VB.sub (B := Btw w4.heap.size w7.heap.size) (fun b hb => ⟨by have := hb.1; omega, by rw [hs8]; exact hb.2, by have := hb.1; omega⟩) (show q - 1 + 1 ≤ q by omega) (VB.keep (hsm8 _ (fun hb => by have := hb.1; omega)) hvc7), by
     have hcb : consB [v0, lfV 5 0 []] = true := rfl
     have h5 : okV (lfV 5 0 []) = true := by decide
     simp [okV, consV, labelsB, AscC, usesB, kindB, okVs, okEs, HSO.out.1, h5, hcb], ⟨by simp, by simp, by simp, by simp, ⟨HSO.out.2, ⟨by simp, by simp, by simp, by simp, by simp [smlVs], by simp [smlEs]⟩, trivial⟩, by simp [smlEs]⟩⟩
    have HTK : Hid ((decide (kindOf (consV v0 (lfV 5 0 [])) = 5) || decide (kindOf (consV v0 (lfV 5 0 [])) = 7)) = true) := Lib.hid rfl
    clear HTV
    clear tv
    generalize consV v0 (lfV 5 0 []) = tv at HT HTK
    have HS8 := Lib.hid hs8
    clear hvc7 hs8 hsm8 k7 hS7 hF7 kt7
    have hl := labels_src h p w8 hS8
    go_wp2_with fail
    rw [← hw8]
    clear hw8 te0 tz0 te1 tz1 te2 tz2 te3 tz3 te4 tz4 te5 tz5 te6 tz6
    refine hl.mono ?_
    rintro e w20 ⟨⟨LA, ln, lc, ls, rfl, hln, hl2, hlb, _, hlR⟩, hS20, hE20⟩
    clear hl
    have hz20 : w.heap.size + 1 ≤ w20.heap.size := Nat.le_trans hz8 hE20.size
    have hF20 : Eff p w w20 := hF8.trans hE20
    have k20 : w20.heap[w.heap.size]? = some (.cells #[.int .i64 0, .int .i64 0, .string ⟨#[]⟩, .slice none 0 0, .slice none 0 0, .slice none 0 0, .slice none 0 0] 27 (0, 0)) := (hE20.other _ (by omega) (by omega)).trans k8
    have hzt : w2.heap.size < w8.heap.size := HTZ.out
    have kt20 : w20.heap[w2.heap.size]? = some (.cells #[.int .i64 ta, .int .i64 ti, .string ts, .slice T1 tn1 td1, .slice T2 tn2 td2, .slice T3 tn3 td3, .slice T4 tn4 td4] 27 (0, 0)) := (hE20.other _ (by have := hz2; omega) hzt).trans kt8
    have hne1 : w.heap.size ≠ w2.heap.size := by omega
    obtain ⟨w21, hw21⟩ : ∃ w21, w21 = w20.setCell ⟨w2.heap.size, 6, none⟩ (.slice LA ln lc) := ⟨_, rfl⟩
    obtain ⟨hS21, hF21⟩ : SrcOk h p w21 ∧ Eff p w w21 := by rw [hw21]; exact src_set hS20 hF20 (by omega) (by omega)
    have hz21 : w.heap.size + 1 ≤ w21.heap.size := by rw [hw21]; simpa using hz20
    have hs21 : w21.heap.size = w20.heap.size := by rw [hw21]; simp
    have HS21 := Lib.hid hs21
    have hzt21 : w2.heap.size < w21.heap.size := by rw [hs21]; exact Nat.lt_of_lt_of_le hzt hE20.size
    have k21 : w21.heap[w.heap.size]? = some (.cells #[.int .i64 0, .int .i64 0, .string ⟨#[]⟩, .slice none 0 0, .slice none 0 0, .slice none 0 0, .slice none 0 0] 27 (0, 0)) := by rw [hw21]; exact (heap_setCell_other _ _ _ _ hne1).trans k20
    have kt21 : w21.heap[w2.heap.size]? = some (.cells #[.int .i64 ta, .int .i64 ti, .string ts, .slice T1 tn1 td1, .slice T2 tn2 td2, .slice T3 tn3 td3, .slice LA ln lc] 27 (0, 0)) := by rw [hw21]; simpa using heap_setCell_same w20 w2.heap.size 6 _ _ (.slice LA ln lc) kt20
    have hT21 : VB q w21 (fun b => w.heap.size + 1 ≤ b ∧ b < w21.heap.size ∧ b ≠ w2.heap.size) (withL ls tv) [.int .i64 ta, .int .i64 ti, .string ts, .slice T1 tn1 td1, .slice T2 tn2 td2, .slice T3 tn3 td3, .slice LA ln lc] := by
     have h1 : VB q w20 (fun b => w.heap.size + 1 ≤ b ∧ b < w20.heap.size ∧ b ≠ w2.heap.size) tv [.int .i64 ta, .int .i64 ti, .string ts, .slice T1 tn1 td1, .slice T2 tn2 td2, .slice T3 tn3 td3, .slice T4 tn4 td4] := VB.sub (fun b hb => ⟨hb.1, Nat.lt_of_lt_of_le hb.2.1 hE20.size, hb.2.2⟩) (Nat.le_refl _) (VB.keep (hE20.same (B := fun b => w.heap.size + 1 ≤ b ∧ b < w8.heap.size ∧ b ≠ w2.heap.size) fun b hb => by have := hb.1; omega) HT.out.1)
     subst hln
     have h2 := vb_relabel h1 (RowB.sub hlR (fun b hb => ⟨by have := hb.1; omega, hb.2, by have := hb.1; omega⟩) fun _ _ h => h)
     have h3 := VB.keep (w' := w21) (by rw [hw21]; exact same_setCell (Same.refl _ _) (fun hb => hb.2.2 rfl)) h2
     exact VB.sub (fun b hb => ⟨hb.1, by rw [hs21]; exact hb.2.1, hb.2.2⟩) (Nat.le_refl _) h3
    have HTT := Lib.hid (And.intro hT21 (And.intro (okV_withL HT.out.2.1 hlb) (sml_withL HT.out.2.2 (by rw [hln]; omega))))
    have y6 := Lib.frozen_of_heap kt20 6
    have g6 : w20.cell? ⟨w2.heap.size, 6, none⟩ = some (.slice T4 tn4 td4) := (Lib.cell_of_heap kt20 6).trans rfl
    have hvc := fun W (hW : SrcOk h p W) => hV1.out W hW
    have HVC := Lib.hid hvc
    clear hvc hlR hlb hT21 hln hs21 hl2
    go_wp2_with fail
    rw [← hw21]
    clear hw21 y6 g6 kt20 k20 hS20 hE20 hF20
    have HKT : Hid (∀ V, Eff p w21 V → V.cell? ⟨w2.heap.size, 0, none⟩ = some (.int .i64 ta) ∧ V.cell? ⟨w2.heap.size, 1, none⟩ = some (.int .i64 ti) ∧ V.cell? ⟨w2.heap.size, 2, none⟩ = some (.string ts) ∧ V.cell? ⟨w2.heap.size, 3, none⟩ = some (.slice T1 tn1 td1) ∧ V.cell? ⟨w2.heap.size, 4, none⟩ = some (.slice T2 tn2 td2) ∧ V.cell? ⟨w2.heap.size, 5, none⟩ = some (.slice T3 tn3 td3) ∧ V.cell? ⟨w2.heap.size, 6, none⟩ = some (.slice LA ln lc)) := Lib.hid fun V hV => by
     have kk := (hV.other _ (by omega) hzt21).trans kt21
     exact ⟨(Lib.cell_of_heap kk 0).trans rfl, (Lib.cell_of_heap kk 1).trans rfl, (Lib.cell_of_heap kk 2).trans rfl, (Lib.cell_of_heap kk 3).trans rfl, (Lib.cell_of_heap kk 4).trans rfl, (Lib.cell_of_heap kk 5).trans rfl, (Lib.cell_of_heap kk 6).trans rfl⟩
    have hvd := HVC.out w21.drew (hS21.below ((Below.refl _ _).drew))
    refine wp_region_held_drew (S := fun V => V.cell? ⟨w2.heap.size, 0, none⟩ = some (.int .i64 ta) ∧ V.cell? ⟨w2.heap.size, 1, none⟩ = some (.int .i64 ti) ∧ V.cell? ⟨w2.heap.size, 2, none⟩ = some (.string ts) ∧ V.cell? ⟨w2.heap.size, 3, none⟩ = some (.slice T1 tn1 td1) ∧ V.cell? ⟨w2.heap.size, 4, none⟩ = some (.slice T2 tn2 td2) ∧ V.cell? ⟨w2.heap.size, 5, none⟩ = some (.slice T3 tn3 td3) ∧ V.cell? ⟨w2.heap.size, 6, none⟩ = some (.slice LA ln lc)) (by kernel_rfl) (HKT.out _ ⟨(Below.refl p w21).drew, fun _ _ _ => rfl⟩) (fun hHeld => ?_)
    refine tk 0 hHeld ?_
    try simp only [Act.put, pA, pB, pC]
    refine tk 1 hHeld ?_
    try simp only [Act.put, pA, pB, pC]
    refine tk 2 hHeld ?_
    try simp only [Act.put, pA, pB, pC]
    refine tk 4 hHeld ?_
    try simp only [Act.put, pA, pB, pC]
    refine one_op 3 (by kernel_rfl) rfl (by rfl) (fun K hK => ?_)
    go_simp
    with_reducible refine hvd.mono ?_
    rintro e w22 ⟨⟨v, cs, rfl, hvb, hok, hsm1⟩, hS22, hE22d⟩
    have hE21 : Eff p w21 w22 := ⟨((Below.refl p w21).drew).trans hE22d.below, fun b hb hl => hE22d.other b hb hl⟩
    obtain ⟨a, i, s, B1, n1, d1, B2, n2, d2, B3, n3, d3, B4, n4, d4, rfl⟩ := hvb.form7
    refine hK _ _ (HKT.out _ hE21) ?_
    try simp only [Act.put, pA, pB, pC]
    refine one_op 5 (by kernel_rfl) rfl (by rfl) (fun K hK => ?_)
    have hz22 : w.heap.size + 1 ≤ w22.heap.size := Nat.le_trans hz21 hE21.size
    have hF22 : Eff p w w22 := hF21.trans hE21
    have k22 : w22.heap[w.heap.size]? = some (.cells #[.int .i64 0, .int .i64 0, .string ⟨#[]⟩, .slice none 0 0, .slice none 0 0, .slice none 0 0, .slice none 0 0] 27 (0, 0)) := (hE21.other _ (by omega) (by omega)).trans k21
    have hcc := refCons_any q (w.heap.size + 1) v (withL ls tv) _ _ w22 hz22 (VB.sub (fun b hb => ⟨by have h1 : w21.heap.size ≤ b := hb.1; omega, hb.2⟩) (Nat.le_refl _) hvb) (VB.sub (B := fun b => w.heap.size + 1 ≤ b ∧ b < w21.heap.size ∧ b ≠ w2.heap.size) (fun b hb => ⟨hb.1, Nat.lt_of_lt_of_le hb.2.1 hE21.size⟩) (Nat.le_refl _) (VB.keep (hE21.same fun b hb => by have := hb.1; omega) HTT.out.1))
    go_simp
    with_reducible refine hcc.mono ?_
    rintro e w23 ⟨cs, rfl, hvc3, hb23⟩
    clear hcc
    obtain ⟨ca, ci, cs', C1, m1, f1, C2, m2, f2, C3, m3, f3, C4, m4, f4, rfl⟩ := hvc3.form7
    have hE23 : Eff p w22 w23 := Eff.of_below hb23 (by omega)
    have hS23 : SrcOk h p w23 := hS22.below hb23
    have hz23 : w.heap.size + 1 ≤ w23.heap.size := Nat.le_trans hz22 hE23.size
    have hF23 : Eff p w w23 := hF22.trans hE23
    have k23 : w23.heap[w.heap.size]? = some (.cells #[.int .i64 0, .int .i64 0, .string ⟨#[]⟩, .slice none 0 0, .slice none 0 0, .slice none 0 0, .slice none 0 0] 27 (0, 0)) := (hE23.other _ (by omega) (by omega)).trans k22
    have HVV := Lib.hid (And.intro hvc3 (And.intro hok hsm1))
    clear hvb hok hsm1 hvc3
    refine hK _ _ (HKT.out _ (hE21.trans hE23)) ?_
    try simp only [Act.put, pA, pB, pC]
    refine one_op 6 (by kernel_rfl) rfl (by rfl) (fun K hK => ?_)
    obtain ⟨e0, e1, e2, e3, e4, e5, e6⟩ := cells7 k23
    obtain ⟨z0, z1, z2, z3, z4, z5, z6⟩ := frozen7 k23
    obtain ⟨V, hV⟩ : ∃ V, V = (((((((w23.setCell ⟨w.heap.size, 0, none⟩ (Value.int .i64 ca)).setCell ⟨w.heap.size, 1, none⟩ (Value.int .i64 ci)).setCell ⟨w.heap.size, 2, none⟩ (Value.string cs')).setCell ⟨w.heap.size, 3, none⟩ (Value.slice C1 m1 f1)).setCell ⟨w.heap.size, 4, none⟩ (Value.slice C2 m2 f2)).setCell ⟨w.heap.size, 5, none⟩ (Value.slice C3 m3 f3)).setCell ⟨w.heap.size, 6, none⟩ (Value.slice C4 m4 f4)) := ⟨_, rfl⟩
    have hob : V.heap[w.heap.size]? = some (.cells #[Value.int .i64 ca, Value.int .i64 ci, Value.string cs', Value.slice C1 m1 f1, Value.slice C2 m2 f2, Value.slice C3 m3 f3, Value.slice C4 m4 f4] 27 (0, 0)) := by rw [hV]; exact obj7 k23 (Value.int .i64 ca) (Value.int .i64 ci) (Value.string cs') (Value.slice C1 m1 f1) (Value.slice C2 m2 f2) (Value.slice C3 m3 f3) (Value.slice C4 m4 f4)
    have hfin : SrcOk h p V ∧ Eff p w V := by rw [hV]; exact src_set7 hS23 hF23 (Nat.le_refl _) hlp _ _ _ _ _ _ _
    have hszV : V.heap.size = w23.heap.size := by rw [hV]; simp
    have hsm : ∀ B : Nat → Prop, ¬ B w.heap.size → Same B w23 V := fun B h => by rw [hV]; exact same_setCell (same_setCell (same_setCell (same_setCell (same_setCell (same_setCell (same_setCell ((Same.refl _ _)) h) h) h) h) h) h) h
    have hHV : V.cell? ⟨w2.heap.size, 0, none⟩ = some (.int .i64 ta) ∧ V.cell? ⟨w2.heap.size, 1, none⟩ = some (.int .i64 ti) ∧ V.cell? ⟨w2.heap.size, 2, none⟩ = some (.string ts) ∧ V.cell? ⟨w2.heap.size, 3, none⟩ = some (.slice T1 tn1 td1) ∧ V.cell? ⟨w2.heap.size, 4, none⟩ = some (.slice T2 tn2 td2) ∧ V.cell? ⟨w2.heap.size, 5, none⟩ = some (.slice T3 tn3 td3) ∧ V.cell? ⟨w2.heap.size, 6, none⟩ = some (.slice LA ln lc) := by
     have hk := HKT.out _ (hE21.trans hE23)
     have hc : ∀ i, V.cell? ⟨w2.heap.size, i, none⟩ = w23.cell? ⟨w2.heap.size, i, none⟩ := fun i => (hsm (fun b => b = w2.heap.size) (fun e => hne1 e)).cell _ i rfl (Nat.lt_of_lt_of_le (Nat.lt_of_lt_of_le hzt21 hE21.size) hE23.size)
     simp only [hc]
     exact hk
    go_simp
    rw [← hV]
    clear hV e0 z0 e1 z1 e2 z2 e3 z3 e4 z4 e5 z5 e6 z6
    refine hK _ _ hHV ?_
    try simp only [Act.put, pA, pB, pC]
    refine wpAnyH_done (by kernel_rfl) ?_ _
    go_wp2
    obtain ⟨ps0, ps1, ps2, ps3, ps4, ps5, ps6⟩ := cells7 hob
    refine bodyPost_ret (v := .agg #[Value.int .i64 ca, Value.int .i64 ci, Value.string cs', Value.slice C1 m1 f1, Value.slice C2 m2 f2, Value.slice C3 m3 f3, Value.slice C4 m4 f4]) (by simp [results, Tryz.results24, go_sem, ps0, ps1, ps2, ps3, ps4, ps5, ps6]) rfl ?_
    obtain ⟨p1, p2, p3⟩ := HVV.out
    obtain ⟨p4, p5, p6⟩ := HTT.out
    have hkd := HTK.out
    refine ⟨⟨consV v (withL ls tv), _, rfl, VB.sub (B := Btw (w.heap.size + 1) w23.heap.size) (fun b hb => ⟨by have := hb.1; omega, by have := hb.2; omega⟩) (Nat.le_refl _) (VB.keep (hsm _ (fun h => by have := h.1; omega)) p1), ?_, ?_, rfl⟩, hfin⟩
    ·
     have hkw : kindOf (withL ls tv) = kindOf tv := by cases tv; rfl
     have hcb : consB [v, withL ls tv] = true := by
      show (decide (kindOf (withL ls tv) = 5) || decide (kindOf (withL ls tv) = 7)) = true
      rw [hkw]
      exact hkd
     simp [okV, consV, labelsB, AscC, usesB, kindB, okVs, okEs, p2, p5, hcb]
    · exact ⟨by simp, by simp, by simp, by simp, ⟨p3, p6, trivial⟩, by simp [smlEs]⟩
  ·
   have q2b : decide ((2 : Int) < qq) = false := by simp; have := HQ.out; omega
   go_wp2_with fail
   rw [← hw3]
   clear hw3
   have HTZ : Hid (w2.heap.size < w3.heap.size) := Lib.hid (by omega)
   have HT : Hid (VB q w3 (fun b => w.heap.size + 1 ≤ b ∧ b < w3.heap.size ∧ b ≠ w2.heap.size) tv [.int .i64 5, .int .i64 0, .string ⟨#[]⟩, .slice none 0 0, .slice none 0 0, .slice none 0 0, .slice none 0 0] ∧ okV tv = true ∧ sml tv) := Lib.hid ⟨by rw [← HTV.out]; exact VB.sub (fun _ h => h) hq (lfVB (by decide) (by decide) (by simp) 0 _ _), by rw [← HTV.out]; decide, by rw [← HTV.out]; exact ⟨by simp, by simp, by simp, by simp, by simp [smlVs], by simp [smlEs]⟩⟩
   have HTK : Hid ((decide (kindOf tv = 5) || decide (kindOf tv = 7)) = true) := Lib.hid (by rw [← HTV.out]; decide)
   have hl := labels_src h p w3 hS3
   go_wp2_with fail
   refine hl.mono ?_
   rintro e w20 ⟨⟨LA, ln, lc, ls, rfl, hln, hl2, hlb, _, hlR⟩, hS20, hE20⟩
   clear hl
   have hz20 : w.heap.size + 1 ≤ w20.heap.size := Nat.le_trans hz3 hE20.size
   have hF20 : Eff p w w20 := hF3.trans hE20
   have k20 : w20.heap[w.heap.size]? = some (.cells #[.int .i64 0, .int .i64 0, .string ⟨#[]⟩, .slice none 0 0, .slice none 0 0, .slice none 0 0, .slice none 0 0] 27 (0, 0)) := (hE20.other _ (by omega) (by omega)).trans k3
   have hzt : w2.heap.size < w3.heap.size := HTZ.out
   have kt20 : w20.heap[w2.heap.size]? = some (.cells #[.int .i64 5, .int .i64 0, .string ⟨#[]⟩, .slice none 0 0, .slice none 0 0, .slice none 0 0, .slice none 0 0] 27 (0, 0)) := (hE20.other _ (by have := hz2; omega) hzt).trans kt3
   have hne1 : w.heap.size ≠ w2.heap.size := by omega
   obtain ⟨w21, hw21⟩ : ∃ w21, w21 = w20.setCell ⟨w2.heap.size, 6, none⟩ (.slice LA ln lc) := ⟨_, rfl⟩
   obtain ⟨hS21, hF21⟩ : SrcOk h p w21 ∧ Eff p w w21 := by rw [hw21]; exact src_set hS20 hF20 (by omega) (by omega)
   have hz21 : w.heap.size + 1 ≤ w21.heap.size := by rw [hw21]; simpa using hz20
   have hs21 : w21.heap.size = w20.heap.size := by rw [hw21]; simp
   have HS21 := Lib.hid hs21
   have hzt21 : w2.heap.size < w21.heap.size := by rw [hs21]; exact Nat.lt_of_lt_of_le hzt hE20.size
   have k21 : w21.heap[w.heap.size]? = some (.cells #[.int .i64 0, .int .i64 0, .string ⟨#[]⟩, .slice none 0 0, .slice none 0 0, .slice none 0 0, .slice none 0 0] 27 (0, 0)) := by rw [hw21]; exact (heap_setCell_other _ _ _ _ hne1).trans k20
   have kt21 : w21.heap[w2.heap.size]? = some (.cells #[.int .i64 5, .int .i64 0, .string ⟨#[]⟩, .slice none 0 0, .slice none 0 0, .slice none 0 0, .slice LA ln lc] 27 (0, 0)) := by rw [hw21]; simpa using heap_setCell_same w20 w2.heap.size 6 _ _ (.slice LA ln lc) kt20
   have hT21 : VB q w21 (fun b => w.heap.size + 1 ≤ b ∧ b < w21.heap.size ∧ b ≠ w2.heap.size) (withL ls tv) [.int .i64 5, .int .i64 0, .string ⟨#[]⟩, .slice none 0 0, .slice none 0 0, .slice none 0 0, .slice LA ln lc] := by
    have h1 : VB q w20 (fun b => w.heap.size + 1 ≤ b ∧ b < w20.heap.size ∧ b ≠ w2.heap.size) tv [.int .i64 5, .int .i64 0, .string ⟨#[]⟩, .slice none 0 0, .slice none 0 0, .slice none 0 0, .slice none 0 0] := VB.sub (fun b hb => ⟨hb.1, Nat.lt_of_lt_of_le hb.2.1 hE20.size, hb.2.2⟩) (Nat.le_refl _) (VB.keep (hE20.same (B := fun b => w.heap.size + 1 ≤ b ∧ b < w3.heap.size ∧ b ≠ w2.heap.size) fun b hb => by have := hb.1; omega) HT.out.1)
    subst hln
    have h2 := vb_relabel h1 (RowB.sub hlR (fun b hb => ⟨by have := hb.1; omega, hb.2, by have := hb.1; omega⟩) fun _ _ h => h)
    have h3 := VB.keep (w' := w21) (by rw [hw21]; exact same_setCell (Same.refl _ _) (fun hb => hb.2.2 rfl)) h2
    exact VB.sub (fun b hb => ⟨hb.1, by rw [hs21]; exact hb.2.1, hb.2.2⟩) (Nat.le_refl _) h3
   have HTT := Lib.hid (And.intro hT21 (And.intro (okV_withL HT.out.2.1 hlb) (sml_withL HT.out.2.2 (by rw [hln]; omega))))
   have y6 := Lib.frozen_of_heap kt20 6
   have g6 : w20.cell? ⟨w2.heap.size, 6, none⟩ = some (.slice none 0 0) := (Lib.cell_of_heap kt20 6).trans rfl
   have hvc := fun W (hW : SrcOk h p W) => hV1.out W hW
   have HVC := Lib.hid hvc
   clear hvc hlR hlb hT21 hln hs21 hl2
   go_wp2_with fail
   rw [← hw21]
   clear hw21 y6 g6 kt20 k20 hS20 hE20 hF20
   have HKT : Hid (∀ V, Eff p w21 V → V.cell? ⟨w2.heap.size, 0, none⟩ = some (.int .i64 5) ∧ V.cell? ⟨w2.heap.size, 1, none⟩ = some (.int .i64 0) ∧ V.cell? ⟨w2.heap.size, 2, none⟩ = some (.string ⟨#[]⟩) ∧ V.cell? ⟨w2.heap.size, 3, none⟩ = some (.slice none 0 0) ∧ V.cell? ⟨w2.heap.size, 4, none⟩ = some (.slice none 0 0) ∧ V.cell? ⟨w2.heap.size, 5, none⟩ = some (.slice none 0 0) ∧ V.cell? ⟨w2.heap.size, 6, none⟩ = some (.slice LA ln lc)) := Lib.hid fun V hV => by
    have kk := (hV.other _ (by omega) hzt21).trans kt21
    exact ⟨(Lib.cell_of_heap kk 0).trans rfl, (Lib.cell_of_heap kk 1).trans rfl, (Lib.cell_of_heap kk 2).trans rfl, (Lib.cell_of_heap kk 3).trans rfl, (Lib.cell_of_heap kk 4).trans rfl, (Lib.cell_of_heap kk 5).trans rfl, (Lib.cell_of_heap kk 6).trans rfl⟩
   have hvd := HVC.out w21.drew (hS21.below ((Below.refl _ _).drew))
   refine wp_region_held_drew (S := fun V => V.cell? ⟨w2.heap.size, 0, none⟩ = some (.int .i64 5) ∧ V.cell? ⟨w2.heap.size, 1, none⟩ = some (.int .i64 0) ∧ V.cell? ⟨w2.heap.size, 2, none⟩ = some (.string ⟨#[]⟩) ∧ V.cell? ⟨w2.heap.size, 3, none⟩ = some (.slice none 0 0) ∧ V.cell? ⟨w2.heap.size, 4, none⟩ = some (.slice none 0 0) ∧ V.cell? ⟨w2.heap.size, 5, none⟩ = some (.slice none 0 0) ∧ V.cell? ⟨w2.heap.size, 6, none⟩ = some (.slice LA ln lc)) (by kernel_rfl) (HKT.out _ ⟨(Below.refl p w21).drew, fun _ _ _ => rfl⟩) (fun hHeld => ?_)
   refine tk 0 hHeld ?_
   try simp only [Act.put, pA, pB, pC]
   refine tk 1 hHeld ?_
   try simp only [Act.put, pA, pB, pC]
   refine tk 2 hHeld ?_
   try simp only [Act.put, pA, pB, pC]
   refine tk 4 hHeld ?_
   try simp only [Act.put, pA, pB, pC]
   refine one_op 3 (by kernel_rfl) rfl (by rfl) (fun K hK => ?_)
   go_simp
   with_reducible refine hvd.mono ?_
   rintro e w22 ⟨⟨v, cs, rfl, hvb, hok, hsm1⟩, hS22, hE22d⟩
   have hE21 : Eff p w21 w22 := ⟨((Below.refl p w21).drew).trans hE22d.below, fun b hb hl => hE22d.other b hb hl⟩
   obtain ⟨a, i, s, B1, n1, d1, B2, n2, d2, B3, n3, d3, B4, n4, d4, rfl⟩ := hvb.form7
   refine hK _ _ (HKT.out _ hE21) ?_
   try simp only [Act.put, pA, pB, pC]
   refine one_op 5 (by kernel_rfl) rfl (by rfl) (fun K hK => ?_)
   have hz22 : w.heap.size + 1 ≤ w22.heap.size := Nat.le_trans hz21 hE21.size
   have hF22 : Eff p w w22 := hF21.trans hE21
   have k22 : w22.heap[w.heap.size]? = some (.cells #[.int .i64 0, .int .i64 0, .string ⟨#[]⟩, .slice none 0 0, .slice none 0 0, .slice none 0 0, .slice none 0 0] 27 (0, 0)) := (hE21.other _ (by omega) (by omega)).trans k21
   have hcc := refCons_any q (w.heap.size + 1) v (withL ls tv) _ _ w22 hz22 (VB.sub (fun b hb => ⟨by have h1 : w21.heap.size ≤ b := hb.1; omega, hb.2⟩) (Nat.le_refl _) hvb) (VB.sub (B := fun b => w.heap.size + 1 ≤ b ∧ b < w21.heap.size ∧ b ≠ w2.heap.size) (fun b hb => ⟨hb.1, Nat.lt_of_lt_of_le hb.2.1 hE21.size⟩) (Nat.le_refl _) (VB.keep (hE21.same fun b hb => by have := hb.1; omega) HTT.out.1))
   go_simp
   with_reducible refine hcc.mono ?_
   rintro e w23 ⟨cs, rfl, hvc3, hb23⟩
   clear hcc
   obtain ⟨ca, ci, cs', C1, m1, f1, C2, m2, f2, C3, m3, f3, C4, m4, f4, rfl⟩ := hvc3.form7
   have hE23 : Eff p w22 w23 := Eff.of_below hb23 (by omega)
   have hS23 : SrcOk h p w23 := hS22.below hb23
   have hz23 : w.heap.size + 1 ≤ w23.heap.size := Nat.le_trans hz22 hE23.size
   have hF23 : Eff p w w23 := hF22.trans hE23
   have k23 : w23.heap[w.heap.size]? = some (.cells #[.int .i64 0, .int .i64 0, .string ⟨#[]⟩, .slice none 0 0, .slice none 0 0, .slice none 0 0, .slice none 0 0] 27 (0, 0)) := (hE23.other _ (by omega) (by omega)).trans k22
   have HVV := Lib.hid (And.intro hvc3 (And.intro hok hsm1))
   clear hvb hok hsm1 hvc3
   refine hK _ _ (HKT.out _ (hE21.trans hE23)) ?_
   try simp only [Act.put, pA, pB, pC]
   refine one_op 6 (by kernel_rfl) rfl (by rfl) (fun K hK => ?_)
   obtain ⟨e0, e1, e2, e3, e4, e5, e6⟩ := cells7 k23
   obtain ⟨z0, z1, z2, z3, z4, z5, z6⟩ := frozen7 k23
   obtain ⟨V, hV⟩ : ∃ V, V = (((((((w23.setCell ⟨w.heap.size, 0, none⟩ (Value.int .i64 ca)).setCell ⟨w.heap.size, 1, none⟩ (Value.int .i64 ci)).setCell ⟨w.heap.size, 2, none⟩ (Value.string cs')).setCell ⟨w.heap.size, 3, none⟩ (Value.slice C1 m1 f1)).setCell ⟨w.heap.size, 4, none⟩ (Value.slice C2 m2 f2)).setCell ⟨w.heap.size, 5, none⟩ (Value.slice C3 m3 f3)).setCell ⟨w.heap.size, 6, none⟩ (Value.slice C4 m4 f4)) := ⟨_, rfl⟩
   have hob : V.heap[w.heap.size]? = some (.cells #[Value.int .i64 ca, Value.int .i64 ci, Value.string cs', Value.slice C1 m1 f1, Value.slice C2 m2 f2, Value.slice C3 m3 f3, Value.slice C4 m4 f4] 27 (0, 0)) := by rw [hV]; exact obj7 k23 (Value.int .i64 ca) (Value.int .i64 ci) (Value.string cs') (Value.slice C1 m1 f1) (Value.slice C2 m2 f2) (Value.slice C3 m3 f3) (Value.slice C4 m4 f4)
   have hfin : SrcOk h p V ∧ Eff p w V := by rw [hV]; exact src_set7 hS23 hF23 (Nat.le_refl _) hlp _ _ _ _ _ _ _
   have hszV : V.heap.size = w23.heap.size := by rw [hV]; simp
   have hsm : ∀ B : Nat → Prop, ¬ B w.heap.size → Same B w23 V := fun B h => by rw [hV]; exact same_setCell (same_setCell (same_setCell (same_setCell (same_setCell (same_setCell (same_setCell ((Same.refl _ _)) h) h) h) h) h) h) h
   have hHV : V.cell? ⟨w2.heap.size, 0, none⟩ = some (.int .i64 5) ∧ V.cell? ⟨w2.heap.size, 1, none⟩ = some (.int .i64 0) ∧ V.cell? ⟨w2.heap.size, 2, none⟩ = some (.string ⟨#[]⟩) ∧ V.cell? ⟨w2.heap.size, 3, none⟩ = some (.slice none 0 0) ∧ V.cell? ⟨w2.heap.size, 4, none⟩ = some (.slice none 0 0) ∧ V.cell? ⟨w2.heap.size, 5, none⟩ = some (.slice none 0 0) ∧ V.cell? ⟨w2.heap.size, 6, none⟩ = some (.slice LA ln lc) := by
    have hk := HKT.out _ (hE21.trans hE23)
    have hc : ∀ i, V.cell? ⟨w2.heap.size, i, none⟩ = w23.cell? ⟨w2.heap.size, i, none⟩ := fun i => (hsm (fun b => b = w2.heap.size) (fun e => hne1 e)).cell _ i rfl (Nat.lt_of_lt_of_le (Nat.lt_of_lt_of_le hzt21 hE21.size) hE23.size)
    simp only [hc]
    exact hk
   go_simp
   rw [← hV]
   clear hV e0 z0 e1 z1 e2 z2 e3 z3 e4 z4 e5 z5 e6 z6
   refine hK _ _ hHV ?_
   try simp only [Act.put, pA, pB, pC]
   refine wpAnyH_done (by kernel_rfl) ?_ _
   go_wp2
   obtain ⟨ps0, ps1, ps2, ps3, ps4, ps5, ps6⟩ := cells7 hob
   refine bodyPost_ret (v := .agg #[Value.int .i64 ca, Value.int .i64 ci, Value.string cs', Value.slice C1 m1 f1, Value.slice C2 m2 f2, Value.slice C3 m3 f3, Value.slice C4 m4 f4]) (by simp [results, Tryz.results24, go_sem, ps0, ps1, ps2, ps3, ps4, ps5, ps6]) rfl ?_
   obtain ⟨p1, p2, p3⟩ := HVV.out
   obtain ⟨p4, p5, p6⟩ := HTT.out
   have hkd := HTK.out
   refine ⟨⟨consV v (withL ls tv), _, rfl, VB.sub (B := Btw (w.heap.size + 1) w23.heap.size) (fun b hb => ⟨by have := hb.1; omega, by have := hb.2; omega⟩) (Nat.le_refl _) (VB.keep (hsm _ (fun h => by have := h.1; omega)) p1), ?_, ?_, rfl⟩, hfin⟩
   ·
    have hkw : kindOf (withL ls tv) = kindOf tv := by cases tv; rfl
    have hcb : consB [v, withL ls tv] = true := by
     show (decide (kindOf (withL ls tv) = 5) || decide (kindOf (withL ls tv) = 7)) = true
     rw [hkw]
     exact hkd
    simp [okV, consV, labelsB, AscC, usesB, kindB, okVs, okEs, p2, p5, hcb]
   · exact ⟨by simp, by simp, by simp, by simp, ⟨p3, p6, trivial⟩, by simp [smlEs]⟩
 ·
  have hN := next_any h p 3 w1 hS1 (by omega) (by omega)
  go_wp2_with fail
  refine hN.mono ?_
  rintro e w2 ⟨i, rfl, i0, i1, hS2, hE2⟩
  clear hN
  have hz2 : w.heap.size + 1 ≤ w2.heap.size := Nat.le_trans hz1 hE2.size
  have hF2 : Eff p w w2 := hF1.trans hE2
  have k2 : w2.heap[w.heap.size]? = some (.cells #[.int .i64 0, .int .i64 0, .string ⟨#[]⟩, .slice none 0 0, .slice none 0 0, .slice none 0 0, .slice none 0 0] 27 (0, 0)) := (hE2.other _ (by omega) (by omega)).trans k1
  obtain ⟨i', rfl⟩ : ∃ i' : Nat, i = i' := ⟨i.toNat, by omega⟩
  clear k1 hF1 hS1
  go_wp2_with fail
  go_loopw [8, 9, 10] (fun ky l i wr => ∃ (m : Nat) (A1 : Option Addr) (c1 : Nat) (A2 : Option Addr) (c2 : Nat) (keys : List (Int × List UInt8)) (vs : List Vl) (D : Nat → Prop), ky = .slice A1 keys.length c1 ∧ l = .slice A2 keys.length c2 ∧ i = .int .i64 m ∧ keys.length + m ≤ 2 ∧ MapI q (w.heap.size + 1) wr (.slice A1 keys.length c1) (.slice A2 keys.length c2) keys vs D ∧ SrcOk h p wr ∧ Eff p w wr ∧ w.heap.size + 1 ≤ wr.heap.size ∧ wr.heap[w.heap.size]? = some (.cells #[.int .i64 0, .int .i64 0, .string ⟨#[]⟩, .slice none 0 0, .slice none 0 0, .slice none 0 0, .slice none 0 0] 27 (0, 0))) (fun _ _ i _ => (intOf i).toNat)
  case atStart => exact ⟨i', none, 0, none, 0, [], [], fun _ => False, rfl, rfl, rfl, by simp; omega, MapI.nil q _ _, hS2, hF2, hz2, k2⟩
  case round =>
   obtain ⟨m, A1, c1, A2, c2, keys, vs, D, rfl, rfl, rfl, hm, hI, hSr, hEr, hzr, kr⟩ := hrel
   by_cases hm0 : m = 0
   ·
    subst hm0
    have mp : ((0 : Nat) : Int) = 0 := rfl
    have hT := refMapN q (w.heap.size + 1) A1 c1 keys A2 c2 vs wr (by omega) hI (by omega)
    have HOK := Lib.hid (And.intro hm hI)
    clear hm hI
    generalize hla : keys.length = la at hT
    clear hla
    go_wp2_with fail
    refine hT.mono ?_
    rintro e w3 ⟨hb3, hcase⟩
    clear hT
    have hE3 : Eff p wr w3 := Eff.of_below hb3 (by omega)
    have hS3 : SrcOk h p w3 := hSr.below hb3
    have hF3 : Eff p w w3 := hEr.trans hE3
    have hz3 : w.heap.size + 1 ≤ w3.heap.size := Nat.le_trans hzr hE3.size
    have k3 : w3.heap[w.heap.size]? = some (.cells #[.int .i64 0, .int .i64 0, .string ⟨#[]⟩, .slice none 0 0, .slice none 0 0, .slice none 0 0, .slice none 0 0] 27 (0, 0)) := (hb3.block _ (by omega)).trans kr
    clear kr hb3
    rcases hcase with ⟨_, rfl⟩ | ⟨_, _, _, rfl⟩ | ⟨_, _, _, cs, rfl, hvb⟩
    ·
     obtain ⟨w8, hw8⟩ : ∃ w8, w8 = w3.alloc (.cells #[.int .i64 0, .int .i64 0, .string ⟨#[]⟩, .slice none 0 0, .slice none 0 0, .slice none 0 0, .slice none 0 0] 27) := ⟨_, rfl⟩
     have hb8 : Below w3.heap.size w3 w8 := by rw [hw8]; exact (Below.refl _ _).alloc (Nat.le_refl _) _
     have hE8 : Eff p w3 w8 := Eff.of_below hb8 (by omega)
     have hS8 : SrcOk h p w8 := hS3.below hb8
     have hz8 : w.heap.size + 1 ≤ w8.heap.size := Nat.le_trans hz3 hE8.size
     have hF8 : Eff p w w8 := hF3.trans hE8
     have k8 : w8.heap[w.heap.size]? = some (.cells #[.int .i64 0, .int .i64 0, .string ⟨#[]⟩, .slice none 0 0, .slice none 0 0, .slice none 0 0, .slice none 0 0] 27 (0, 0)) := (hE8.other _ (by omega) (by omega)).trans k3
     have hlf := leaf_src h p w8 hS8
     go_wp2_with fail
     rw [← hw8]
     clear hw8
     refine hlf.mono ?_
     rintro e w9 ⟨⟨kk, ii, tt, rfl, hLf⟩, hS9, hE9⟩
     simp only [lfC]
     clear hlf
     have hz9 : w.heap.size + 1 ≤ w9.heap.size := Nat.le_trans hz8 hE9.size
     have hF9 : Eff p w w9 := hF8.trans hE9
     have k9 : w9.heap[w.heap.size]? = some (.cells #[.int .i64 0, .int .i64 0, .string ⟨#[]⟩, .slice none 0 0, .slice none 0 0, .slice none 0 0, .slice none 0 0] 27 (0, 0)) := (hE9.other _ (by omega) (by omega)).trans k8
     obtain ⟨e0, e1, e2, e3, e4, e5, e6⟩ := cells7 k9
     obtain ⟨z0, z1, z2, z3, z4, z5, z6⟩ := frozen7 k9
     go_wp2
     obtain ⟨V, hV⟩ : ∃ V, V = (((((((w9.setCell ⟨w.heap.size, 0, none⟩ (Value.int .i64 kk)).setCell ⟨w.heap.size, 1, none⟩ (Value.int .i64 ii)).setCell ⟨w.heap.size, 2, none⟩ (Value.string ⟨tt.toArray⟩)).setCell ⟨w.heap.size, 3, none⟩ (Value.slice none 0 0)).setCell ⟨w.heap.size, 4, none⟩ (Value.slice none 0 0)).setCell ⟨w.heap.size, 5, none⟩ (Value.slice none 0 0)).setCell ⟨w.heap.size, 6, none⟩ (Value.slice none 0 0)) := ⟨_, rfl⟩
     rw [← hV]
     have hob : V.heap[w.heap.size]? = some (.cells #[Value.int .i64 kk, Value.int .i64 ii, Value.string ⟨tt.toArray⟩, Value.slice none 0 0, Value.slice none 0 0, Value.slice none 0 0, Value.slice none 0 0] 27 (0, 0)) := by rw [hV]; exact obj7 k9 (Value.int .i64 kk) (Value.int .i64 ii) (Value.string ⟨tt.toArray⟩) (Value.slice none 0 0) (Value.slice none 0 0) (Value.slice none 0 0) (Value.slice none 0 0)
     have hfin : SrcOk h p V ∧ Eff p w V := by rw [hV]; exact src_set7 hS9 hF9 (Nat.le_refl _) hlp _ _ _ _ _ _ _
     have hszV : V.heap.size = w9.heap.size := by rw [hV]; simp
     have hsm : ∀ B : Nat → Prop, ¬ B w.heap.size → Same B w9 V := fun B h => by rw [hV]; exact same_setCell (same_setCell (same_setCell (same_setCell (same_setCell (same_setCell (same_setCell ((Same.refl _ _)) h) h) h) h) h) h) h
     clear hV e0 z0 e1 z1 e2 z2 e3 z3 e4 z4 e5 z5 e6 z6
     obtain ⟨ps0, ps1, ps2, ps3, ps4, ps5, ps6⟩ := cells7 hob
     refine bodyPost_ret (v := .agg #[Value.int .i64 kk, Value.int .i64 ii, Value.string ⟨tt.toArray⟩, Value.slice none 0 0, Value.slice none 0 0, Value.slice none 0 0, Value.slice none 0 0]) (by simp [results, Tryz.results24, go_sem, ps0, ps1, ps2, ps3, ps4, ps5, ps6]) rfl ?_
     obtain ⟨l1, l2, l3, l4, l5⟩ := hLf.all
     exact ⟨⟨lfV kk ii tt, _, rfl, lfVB l3 l4 l5 q V _, l1, l2, rfl⟩, hfin⟩
    ·
     obtain ⟨w8, hw8⟩ : ∃ w8, w8 = w3.alloc (.cells #[.int .i64 0, .int .i64 0, .string ⟨#[]⟩, .slice none 0 0, .slice none 0 0, .slice none 0 0, .slice none 0 0] 27) := ⟨_, rfl⟩
     have hb8 : Below w3.heap.size w3 w8 := by rw [hw8]; exact (Below.refl _ _).alloc (Nat.le_refl _) _
     have hE8 : Eff p w3 w8 := Eff.of_below hb8 (by omega)
     have hS8 : SrcOk h p w8 := hS3.below hb8
     have hz8 : w.heap.size + 1 ≤ w8.heap.size := Nat.le_trans hz3 hE8.size
     have hF8 : Eff p w w8 := hF3.trans hE8
     have k8 : w8.heap[w.heap.size]? = some (.cells #[.int .i64 0, .int .i64 0, .string ⟨#[]⟩, .slice none 0 0, .slice none 0 0, .slice none 0 0, .slice none 0 0] 27 (0, 0)) := (hE8.other _ (by omega) (by omega)).trans k3
     have hlf := leaf_src h p w8 hS8
     go_wp2_with fail
     rw [← hw8]
     clear hw8
     refine hlf.mono ?_
     rintro e w9 ⟨⟨kk, ii, tt, rfl, hLf⟩, hS9, hE9⟩
     simp only [lfC]
     clear hlf
     have hz9 : w.heap.size + 1 ≤ w9.heap.size := Nat.le_trans hz8 hE9.size
     have hF9 : Eff p w w9 := hF8.trans hE9
     have k9 : w9.heap[w.heap.size]? = some (.cells #[.int .i64 0, .int .i64 0, .string ⟨#[]⟩, .slice none 0 0, .slice none 0 0, .slice none 0 0, .slice none 0 0] 27 (0, 0)) := (hE9.other _ (by omega) (by omega)).trans k8
     obtain ⟨e0, e1, e2, e3, e4, e5, e6⟩ := cells7 k9
     obtain ⟨z0, z1, z2, z3, z4, z5, z6⟩ := frozen7 k9
     go_wp2
     obtain ⟨V, hV⟩ : ∃ V, V = (((((((w9.setCell ⟨w.heap.size, 0, none⟩ (Value.int .i64 kk)).setCell ⟨w.heap.size, 1, none⟩ (Value.int .i64 ii)).setCell ⟨w.heap.size, 2, none⟩ (Value.string ⟨tt.toArray⟩)).setCell ⟨w.heap.size, 3, none⟩ (Value.slice none 0 0)).setCell ⟨w.heap.size, 4, none⟩ (Value.slice none 0 0)).setCell ⟨w.heap.size, 5, none⟩ (Value.slice none 0 0)).setCell ⟨w.heap.size, 6, none⟩ (Value.slice none 0 0)) := ⟨_, rfl⟩
     rw [← hV]
     have hob : V.heap[w.heap.size]? = some (.cells #[Value.int .i64 kk, Value.int .i64 ii, Value.string ⟨tt.toArray⟩, Value.slice none 0 0, Value.slice none 0 0, Value.slice none 0 0, Value.slice none 0 0] 27 (0, 0)) := by rw [hV]; exact obj7 k9 (Value.int .i64 kk) (Value.int .i64 ii) (Value.string ⟨tt.toArray⟩) (Value.slice none 0 0) (Value.slice none 0 0) (Value.slice none 0 0) (Value.slice none 0 0)
     have hfin : SrcOk h p V ∧ Eff p w V := by rw [hV]; exact src_set7 hS9 hF9 (Nat.le_refl _) hlp _ _ _ _ _ _ _
     have hszV : V.heap.size = w9.heap.size := by rw [hV]; simp
     have hsm : ∀ B : Nat → Prop, ¬ B w.heap.size → Same B w9 V := fun B h => by rw [hV]; exact same_setCell (same_setCell (same_setCell (same_setCell (same_setCell (same_setCell (same_setCell ((Same.refl _ _)) h) h) h) h) h) h) h
     clear hV e0 z0 e1 z1 e2 z2 e3 z3 e4 z4 e5 z5 e6 z6
     obtain ⟨ps0, ps1, ps2, ps3, ps4, ps5, ps6⟩ := cells7 hob
     refine bodyPost_ret (v := .agg #[Value.int .i64 kk, Value.int .i64 ii, Value.string ⟨tt.toArray⟩, Value.slice none 0 0, Value.slice none 0 0, Value.slice none 0 0, Value.slice none 0 0]) (by simp [results, Tryz.results24, go_sem, ps0, ps1, ps2, ps3, ps4, ps5, ps6]) rfl ?_
     obtain ⟨l1, l2, l3, l4, l5⟩ := hLf.all
     exact ⟨⟨lfV kk ii tt, _, rfl, lfVB l3 l4 l5 q V _, l1, l2, rfl⟩, hfin⟩
    ·
     obtain ⟨ca, ci, cs', C1, m1, f1, C2, m2, f2, C3, m3, f3, C4, m4, f4, rfl⟩ := hvb.form7
     have HV := Lib.hid hvb
     clear hvb
     obtain ⟨w8, hw8⟩ : ∃ w8, w8 = w3.alloc (.cells #[.int .i64 ca, .int .i64 ci, .string cs', .slice C1 m1 f1, .slice C2 m2 f2, .slice C3 m3 f3, .slice C4 m4 f4] 27) := ⟨_, rfl⟩
     have hb8 : Below w3.heap.size w3 w8 := by rw [hw8]; exact (Below.refl _ _).alloc (Nat.le_refl _) _
     have hs8 : w3.heap.size + 1 ≤ w8.heap.size := by rw [hw8]; simp
     have kt8 : w8.heap[w3.heap.size]? = some (.cells #[.int .i64 ca, .int .i64 ci, .string cs', .slice C1 m1 f1, .slice C2 m2 f2, .slice C3 m3 f3, .slice C4 m4 f4] 27 (0, 0)) := by rw [hw8]; exact heap_alloc_new w3 _
     have hE8 : Eff p w3 w8 := Eff.of_below hb8 (by omega)
     have hS8 : SrcOk h p w8 := hS3.below hb8
     have hz8 : w.heap.size + 1 ≤ w8.heap.size := Nat.le_trans hz3 hE8.size
     have hF8 : Eff p w w8 := hF3.trans hE8
     have k8 : w8.heap[w.heap.size]? = some (.cells #[.int .i64 0, .int .i64 0, .string ⟨#[]⟩, .slice none 0 0, .slice none 0 0, .slice none 0 0, .slice none 0 0] 27 (0, 0)) := (hE8.other _ (by omega) (by omega)).trans k3
     have hne1 : ¬ w3.heap.size = w.heap.size := by omega
     have hne2 : ¬ w.heap.size = w3.heap.size := by omega
     have e0 : (w3.alloc (.cells #[.int .i64 ca, .int .i64 ci, .string cs', .slice C1 m1 f1, .slice C2 m2 f2, .slice C3 m3 f3, .slice C4 m4 f4] 27)).cell? ⟨w.heap.size, 0, none⟩ = some (Value.int .i64 0) := by rw [← hw8]; exact (Lib.cell_of_heap k8 0).trans rfl
     have z0 : (w3.alloc (.cells #[.int .i64 ca, .int .i64 ci, .string cs', .slice C1 m1 f1, .slice C2 m2 f2, .slice C3 m3 f3, .slice C4 m4 f4] 27)).frozen? ⟨w.heap.size, 0, none⟩ = false := by rw [← hw8]; exact Lib.frozen_of_heap k8 0
     have e1 : (w3.alloc (.cells #[.int .i64 ca, .int .i64 ci, .string cs', .slice C1 m1 f1, .slice C2 m2 f2, .slice C3 m3 f3, .slice C4 m4 f4] 27)).cell? ⟨w.heap.size, 1, none⟩ = some (Value.int .i64 0) := by rw [← hw8]; exact (Lib.cell_of_heap k8 1).trans rfl
     have z1 : (w3.alloc (.cells #[.int .i64 ca, .int .i64 ci, .string cs', .slice C1 m1 f1, .slice C2 m2 f2, .slice C3 m3 f3, .slice C4 m4 f4] 27)).frozen? ⟨w.heap.size, 1, none⟩ = false := by rw [← hw8]; exact Lib.frozen_of_heap k8 1
     have e2 : (w3.alloc (.cells #[.int .i64 ca, .int .i64 ci, .string cs', .slice C1 m1 f1, .slice C2 m2 f2, .slice C3 m3 f3, .slice C4 m4 f4] 27)).cell? ⟨w.heap.size, 2, none⟩ = some (Value.string ⟨#[]⟩) := by rw [← hw8]; exact (Lib.cell_of_heap k8 2).trans rfl
     have z2 : (w3.alloc (.cells #[.int .i64 ca, .int .i64 ci, .string cs', .slice C1 m1 f1, .slice C2 m2 f2, .slice C3 m3 f3, .slice C4 m4 f4] 27)).frozen? ⟨w.heap.size, 2, none⟩ = false := by rw [← hw8]; exact Lib.frozen_of_heap k8 2
     have e3 : (w3.alloc (.cells #[.int .i64 ca, .int .i64 ci, .string cs', .slice C1 m1 f1, .slice C2 m2 f2, .slice C3 m3 f3, .slice C4 m4 f4] 27)).cell? ⟨w.heap.size, 3, none⟩ = some (Value.slice none 0 0) := by rw [← hw8]; exact (Lib.cell_of_heap k8 3).trans rfl
     have z3 : (w3.alloc (.cells #[.int .i64 ca, .int .i64 ci, .string cs', .slice C1 m1 f1, .slice C2 m2 f2, .slice C3 m3 f3, .slice C4 m4 f4] 27)).frozen? ⟨w.heap.size, 3, none⟩ = false := by rw [← hw8]; exact Lib.frozen_of_heap k8 3
     have e4 : (w3.alloc (.cells #[.int .i64 ca, .int .i64 ci, .string cs', .slice C1 m1 f1, .slice C2 m2 f2, .slice C3 m3 f3, .slice C4 m4 f4] 27)).cell? ⟨w.heap.size, 4, none⟩ = some (Value.slice none 0 0) := by rw [← hw8]; exact (Lib.cell_of_heap k8 4).trans rfl
     have z4 : (w3.alloc (.cells #[.int .i64 ca, .int .i64 ci, .string cs', .slice C1 m1 f1, .slice C2 m2 f2, .slice C3 m3 f3, .slice C4 m4 f4] 27)).frozen? ⟨w.heap.size, 4, none⟩ = false := by rw [← hw8]; exact Lib.frozen_of_heap k8 4
     have e5 : (w3.alloc (.cells #[.int .i64 ca, .int .i64 ci, .string cs', .slice C1 m1 f1, .slice C2 m2 f2, .slice C3 m3 f3, .slice C4 m4 f4] 27)).cell? ⟨w.heap.size, 5, none⟩ = some (Value.slice none 0 0) := by rw [← hw8]; exact (Lib.cell_of_heap k8 5).trans rfl
     have z5 : (w3.alloc (.cells #[.int .i64 ca, .int .i64 ci, .string cs', .slice C1 m1 f1, .slice C2 m2 f2, .slice C3 m3 f3, .slice C4 m4 f4] 27)).frozen? ⟨w.heap.size, 5, none⟩ = false := by rw [← hw8]; exact Lib.frozen_of_heap k8 5
     have e6 : (w3.alloc (.cells #[.int .i64 ca, .int .i64 ci, .string cs', .slice C1 m1 f1, .slice C2 m2 f2, .slice C3 m3 f3, .slice C4 m4 f4] 27)).cell? ⟨w.heap.size, 6, none⟩ = some (Value.slice none 0 0) := by rw [← hw8]; exact (Lib.cell_of_heap k8 6).trans rfl
     have z6 : (w3.alloc (.cells #[.int .i64 ca, .int .i64 ci, .string cs', .slice C1 m1 f1, .slice C2 m2 f2, .slice C3 m3 f3, .slice C4 m4 f4] 27)).frozen? ⟨w.heap.size, 6, none⟩ = false := by rw [← hw8]; exact Lib.frozen_of_heap k8 6
     go_wp2
     obtain ⟨V, hV⟩ : ∃ V, V = ((((((((w3.alloc (.cells #[.int .i64 ca, .int .i64 ci, .string cs', .slice C1 m1 f1, .slice C2 m2 f2, .slice C3 m3 f3, .slice C4 m4 f4] 27)).setCell ⟨w.heap.size, 0, none⟩ (Value.int .i64 ca)).setCell ⟨w.heap.size, 1, none⟩ (Value.int .i64 ci)).setCell ⟨w.heap.size, 2, none⟩ (Value.string cs')).setCell ⟨w.heap.size, 3, none⟩ (Value.slice C1 m1 f1)).setCell ⟨w.heap.size, 4, none⟩ (Value.slice C2 m2 f2)).setCell ⟨w.heap.size, 5, none⟩ (Value.slice C3 m3 f3)).setCell ⟨w.heap.size, 6, none⟩ (Value.slice C4 m4 f4)) := ⟨_, rfl⟩
     rw [← hV]
     rw [← hw8] at hV
     have hob : V.heap[w.heap.size]? = some (.cells #[Value.int .i64 ca, Value.int .i64 ci, Value.string cs', Value.slice C1 m1 f1, Value.slice C2 m2 f2, Value.slice C3 m3 f3, Value.slice C4 m4 f4] 27 (0, 0)) := by rw [hV]; exact obj7 k8 (Value.int .i64 ca) (Value.int .i64 ci) (Value.string cs') (Value.slice C1 m1 f1) (Value.slice C2 m2 f2) (Value.slice C3 m3 f3) (Value.slice C4 m4 f4)
     have hfin : SrcOk h p V ∧ Eff p w V := by rw [hV]; exact src_set7 hS8 hF8 (Nat.le_refl _) hlp _ _ _ _ _ _ _
     have hszV : V.heap.size = w8.heap.size := by rw [hV]; simp
     have hsm : ∀ B : Nat → Prop, ¬ B w.heap.size → Same B w8 V := fun B h => by rw [hV]; exact same_setCell (same_setCell (same_setCell (same_setCell (same_setCell (same_setCell (same_setCell ((Same.refl _ _)) h) h) h) h) h) h) h
     clear hV hw8 e0 z0 e1 z1 e2 z2 e3 z3 e4 z4 e5 z5 e6 z6
     obtain ⟨ps0, ps1, ps2, ps3, ps4, ps5, ps6⟩ := cells7 hob
     refine bodyPost_ret (v := .agg #[Value.int .i64 ca, Value.int .i64 ci, Value.string cs', Value.slice C1 m1 f1, Value.slice C2 m2 f2, Value.slice C3 m3 f3, Value.slice C4 m4 f4]) (by simp [results, Tryz.results24, go_sem, ps0, ps1, ps2, ps3, ps4, ps5, ps6]) rfl ?_
     have hlm := HOK.out.1
     have hlv := HOK.out.2.len
     have hsl := srtC_len (c := cK) (keys.zip vs)
     rw [List.length_zip] at hsl
     have hmk : ∀ x ∈ srtC cK (keys.zip vs), keyB x.1.1 x.1.2 = true ∧ okV x.2 = true ∧ sml x.2 := by
      rintro ⟨x, y⟩ hx
      have hz := List.of_mem_zip (mem_srtC_sub hx)
      exact ⟨(HOK.out.2.kn x hz.1).ok, HOK.out.2.ok y hz.2⟩
     refine ⟨⟨mapV (srtC cK (keys.zip vs)), _, rfl, VB.sub (B := Btw (w.heap.size + 1) w3.heap.size) (fun b hb => ⟨by have := hb.1; omega, by have := hb.2; omega⟩) (Nat.le_refl _) (VB.keep (hsm _ (fun h => by have := h.1; omega)) (VB.keep (.of_below hb8 fun _ h => h.2) HV.out)), ?_, ?_, rfl⟩, hfin⟩
     ·
      have h1 : okVs ((srtC cK (keys.zip vs)).map Prod.snd) = true := by
       rw [okVs_all, List.all_eq_true]
       intro y hy
       obtain ⟨u, hu, rfl⟩ := List.mem_map.1 hy
       exact (hmk u hu).2.1
      have h2 : ((srtC cK (keys.zip vs)).map Prod.fst).all (fun x => keyB x.1 x.2) = true := by
       rw [List.all_eq_true]
       intro y hy
       obtain ⟨u, hu, rfl⟩ := List.mem_map.1 hy
       exact (hmk u hu).1
      have h3 : AscC cmpK ((srtC cK (keys.zip vs)).map Prod.fst) := by rw [srt_fst]; exact asc_srtC totK _
      have h4 : labelsB [] = true := by decide
      have h5 : kindB 8 0 [] ((srtC cK (keys.zip vs)).map Prod.snd) ((srtC cK (keys.zip vs)).map Prod.fst) [] = true := by
       unfold kindB
       rw [if_neg (by decide), if_neg (by decide), if_neg (by decide), if_neg (by decide), if_neg (by decide), if_neg (by decide), if_pos rfl, h2]
       simp [h3]
      show (labelsB [] && usesB 8 0 [] _ ((srtC cK (keys.zip vs)).map Prod.fst) [] && kindB 8 0 [] _ ((srtC cK (keys.zip vs)).map Prod.fst) [] && okVs ((srtC cK (keys.zip vs)).map Prod.snd) && okEs []) = true
      rw [h5, h4, h1]
      simp [usesB, okEs]
     ·
      refine ⟨by rw [List.length_map]; omega, by rw [List.length_map]; omega, by simp, by simp, smlVs_iff.2 fun y hy => ?_, by simp [smlEs]⟩
      obtain ⟨u, hu, rfl⟩ := List.mem_map.1 hy
      exact (hmk u hu).2.2
   ·
    have mp : (0 : Int) < (m : Int) := by omega
    have hw1 : IntKind.i64.wrap ((m : Int) - 1) = (m : Int) - 1 := IntWalk.i64_in _ (by omega)
    have hvc := key_src h p wr hSr
    have HI := Lib.hid hI
    have HM := Lib.hid hm
    clear hI hm
    generalize hla : keys.length = la at *
    have HLA := Lib.hid hla
    clear hla
    go_wp2_with fail
    refine hvc.mono ?_
    rintro e w3 ⟨⟨x, rfl, hkn⟩, hS3, hE3⟩
    clear hvc
    have hF3 : Eff p w w3 := hEr.trans hE3
    have hz3 : w.heap.size + 1 ≤ w3.heap.size := Nat.le_trans hzr hE3.size
    have k3 : w3.heap[w.heap.size]? = some (.cells #[.int .i64 0, .int .i64 0, .string ⟨#[]⟩, .slice none 0 0, .slice none 0 0, .slice none 0 0, .slice none 0 0] 27 (0, 0)) := (hE3.other _ (by omega) (by omega)).trans kr
    have hzz := hE3.size
    have hll := HLA.out
    have hmm := HM.out
    have hK3 : OwnK w3 (w.heap.size + 1) (.slice A1 la c1) keys := OwnC.kept HI.out.ky (fun g hg => hE3.other _ (by have := (HI.out.ky.blk g hg).1; omega) (HI.out.ky.blk g hg).2)
    have hkx : kyC x [.int .i64 x.1, .string ⟨x.2.toArray⟩] := ⟨rfl, hkn.wf, hkn.len⟩
    go_wp2_with (at_builtin; refine wp_app_k rfl _ _ rfl (w.heap.size + 1) _ keys rfl hK3 x _ 1 _ rfl rfl _ rfl hkx rfl (kyC_one hkx) (by omega) hz3 ?_; intro g cap w4 ho4 hb4 hk4 hg4; refine Hid.out ?_)
    refine Lib.hid ?_
    have hS4 : SrcOk h p w4 := hS3.below3 hb4 (by omega)
    have hF4 : Eff p w w4 := hF3.grow (hb4.mono (by omega)) hlp
    have hz4 : w.heap.size + 1 ≤ w4.heap.size := Nat.le_trans hz3 hb4.size
    have k4 : w4.heap[w.heap.size]? = some (.cells #[.int .i64 0, .int .i64 0, .string ⟨#[]⟩, .slice none 0 0, .slice none 0 0, .slice none 0 0, .slice none 0 0] 27 (0, 0)) := (hb4.block _ (by omega)).trans k3
    have hvc := hV1.out w4 hS4
    have HR4 := Lib.hid (And.intro ho4 (And.intro hk4 (And.intro hg4 (And.intro hkn (And.intro hE3 hb4)))))
    clear ho4 hk4 hg4 hkn hK3 hkx k3 hF3 hS3 hE3 kr hSr hEr hll hmm hzz
    go_wp2_with fail
    refine hvc.mono ?_
    rintro e w5 ⟨⟨v, cs, rfl, hvb, hok, hsm⟩, hS5, hE5⟩
    clear hvc
    have hF5 : Eff p w w5 := hF4.trans hE5
    have hz5 : w.heap.size + 1 ≤ w5.heap.size := Nat.le_trans hz4 hE5.size
    have k5 : w5.heap[w.heap.size]? = some (.cells #[.int .i64 0, .int .i64 0, .string ⟨#[]⟩, .slice none 0 0, .slice none 0 0, .slice none 0 0, .slice none 0 0] 27 (0, 0)) := (hE5.other _ (by omega) (by omega)).trans k4
    have hO5 := HI.out.step2 hlp HR4.out.2.2.2.2.1 HR4.out.2.2.2.2.2 HR4.out.2.1 hE5
    have hvD : VB q w5 (fun b => D b ∨ Btw w4.heap.size w5.heap.size b) v cs := VB.sub (fun _ hb => .inr hb) (Nat.le_refl _) hvb
    obtain ⟨ca, ci, cs', B1, n1, d1, B2, n2, d2, B3, n3, d3, B4, n4, d4, rfl⟩ := hvb.form7
    have hlv := HI.out.len
    have hll := HLA.out
    have hmm := HM.out
    go_wp2_with (at_builtin; refine wp_appg_v (elC (fun x cs => VB q w5 (fun b => D b ∨ Btw w4.heap.size w5.heap.size b) x cs)) rfl _ _ rfl (w.heap.size + 1) _ vs rfl hO5 v _ 1 _ rfl rfl _ rfl hvD rfl (elV_one q v _ _ _ hvb) (by omega) hz5 ?_; intro g2 cap2 w6 ho6 hb6 hk6 hg6; refine Hid.out ?_)
    refine Lib.hid ?_
    have hS6 : SrcOk h p w6 := hS5.below3 hb6 (by omega)
    have hF6 : Eff p w w6 := hF5.grow (hb6.mono (by omega)) hlp
    have hz6 : w.heap.size + 1 ≤ w6.heap.size := Nat.le_trans hz5 hb6.size
    have k6 : w6.heap[w.heap.size]? = some (.cells #[.int .i64 0, .int .i64 0, .string ⟨#[]⟩, .slice none 0 0, .slice none 0 0, .slice none 0 0, .slice none 0 0] 27 (0, 0)) := (hb6.block _ (by omega)).trans k5
    have hfinI := HI.out.step (x := x) (v := v) hlp HR4.out.2.2.2.2.1 HR4.out.2.2.2.2.2 HR4.out.2.1 HR4.out.2.2.1 HR4.out.1 HR4.out.2.2.2.1 hE5 ho6 hb6 hk6 hg6 hok hsm
    have HR := Lib.hid (And.intro hfinI (And.intro hS6 (And.intro hF6 (And.intro hz6 k6))))
    clear hfinI hS6 hF6 hz6 k6 ho6 hb6 hk6 hg6 hok hsm hvD hO5 hvb hS5 hE5 hF5 k5 hS4 hF4 k4 hll hmm hlv hb4
    go_wp2_with fail
    go_roundw
    case rel =>
     obtain ⟨q1, q4, q5, q6, q7⟩ := HR.out
     have hl2 : (keys ++ [x]).length = la + 1 := by rw [List.length_append, HLA.out]; rfl
     have hlv2 : vs.length = la := HI.out.len.trans HLA.out
     rw [HLA.out, hlv2] at q1
     exact ⟨m - 1, some ⟨g, 0, none⟩, cap, some ⟨g2, 0, none⟩, cap2, keys ++ [x], vs ++ [v], _, by rw [hl2, ← HLA.out], by rw [hl2, ← hlv2], by go_num, by have := HM.out; omega, by rw [hl2]; exact q1, q4, q5, q6, q7⟩
    case measure => simp [intOf]; try omega
 ·
  have hN := next_any h p 3 w1 hS1 (by omega) (by omega)
  go_wp2_with fail
  refine hN.mono ?_
  rintro e w2 ⟨ar, rfl, a0, a1, hS2, hE2⟩
  clear hN
  have hz2 : w.heap.size + 1 ≤ w2.heap.size := Nat.le_trans hz1 hE2.size
  have hF2 : Eff p w w2 := hF1.trans hE2
  have k2 : w2.heap[w.heap.size]? = some (.cells #[.int .i64 0, .int .i64 0, .string ⟨#[]⟩, .slice none 0 0, .slice none 0 0, .slice none 0 0, .slice none 0 0] 27 (0, 0)) := (hE2.other _ (by omega) (by omega)).trans k1
  obtain ⟨a, rfl⟩ : ∃ a : Nat, ar = a := ⟨ar.toNat, by omega⟩
  have ha2 : a ≤ 2 := by omega
  have haw : (Lit.int .i64 (a : Int)).wf = true := by
   have h3 : a = 0 ∨ a = 1 ∨ a = 2 := by omega
   rcases h3 with rfl | rfl | rfl <;> decide
  have hN := next_any h p 3 w2 hS2 (by omega) (by omega)
  clear k1 hF1 hS1 a0 a1
  go_wp2_with fail
  refine hN.mono ?_
  rintro e wx ⟨i, rfl, i0, i1, hSx, hEx⟩
  clear hN
  have hzx : w.heap.size + 1 ≤ wx.heap.size := Nat.le_trans hz2 hEx.size
  have hFx : Eff p w wx := hF2.trans hEx
  have kx : wx.heap[w.heap.size]? = some (.cells #[.int .i64 0, .int .i64 0, .string ⟨#[]⟩, .slice none 0 0, .slice none 0 0, .slice none 0 0, .slice none 0 0] 27 (0, 0)) := (hEx.other _ (by omega) (by omega)).trans k2
  obtain ⟨i', rfl⟩ : ∃ i' : Nat, i = i' := ⟨i.toNat, by omega⟩
  clear k2 hF2 hS2
  go_wp2_with fail
  go_loopw [14, 15] (fun l i wr => ∃ (m : Nat) (A : Option Addr) (c : Nat) (es : List En), l = .slice A es.length c ∧ i = .int .i64 m ∧ es.length + m ≤ 2 ∧ OwnEn q wr (w.heap.size + 1) (.slice A es.length c) es ∧ (∀ x ∈ es, entB a x = true ∧ okE x = true ∧ smlE x) ∧ SrcOk h p wr ∧ Eff p w wr ∧ w.heap.size + 1 ≤ wr.heap.size ∧ wr.heap[w.heap.size]? = some (.cells #[.int .i64 0, .int .i64 0, .string ⟨#[]⟩, .slice none 0 0, .slice none 0 0, .slice none 0 0, .slice none 0 0] 27 (0, 0))) (fun _ i _ => (intOf i).toNat)
  case atStart => exact ⟨i', none, 0, [], rfl, rfl, by simp; omega, OwnE.nil _ _ _ _ _, by simp, hSx, hFx, hzx, kx⟩
  case round =>
   obtain ⟨m, A, c, es, rfl, rfl, hm, hO, hall, hSr, hEr, hzr, kr⟩ := hrel
   by_cases hm0 : m = 0
   ·
    subst hm0
    have mp : ((0 : Nat) : Int) = 0 := rfl
    have hT := refFunction_any q (w.heap.size + 1) a A c es wr (by omega) (hO.row (by omega) (by unfold maxLen; omega)) (by omega) haw
    have HOK := Lib.hid (And.intro hm hall)
    clear hO hall hm
    generalize hla : es.length = la at hT
    clear hla
    go_wp2_with fail
    refine hT.mono ?_
    rintro e w3 ⟨hb3, hcase⟩
    clear hT
    have hE3 : Eff p wr w3 := Eff.of_below hb3 (by omega)
    have hS3 : SrcOk h p w3 := hSr.below hb3
    have hF3 : Eff p w w3 := hEr.trans hE3
    have hz3 : w.heap.size + 1 ≤ w3.heap.size := Nat.le_trans hzr hE3.size
    have k3 : w3.heap[w.heap.size]? = some (.cells #[.int .i64 0, .int .i64 0, .string ⟨#[]⟩, .slice none 0 0, .slice none 0 0, .slice none 0 0, .slice none 0 0] 27 (0, 0)) := (hb3.block _ (by omega)).trans kr
    clear kr hb3
    rcases hcase with ⟨hfb, cs, rfl, hvb⟩ | ⟨hfb, rfl⟩
    ·
     obtain ⟨ca, ci, cs', C1, m1, f1, C2, m2, f2, C3, m3, f3, C4, m4, f4, rfl⟩ := hvb.form7
     have HV := Lib.hid hvb
     clear hvb
     obtain ⟨w8, hw8⟩ : ∃ w8, w8 = w3.alloc (.cells #[.int .i64 ca, .int .i64 ci, .string cs', .slice C1 m1 f1, .slice C2 m2 f2, .slice C3 m3 f3, .slice C4 m4 f4] 27) := ⟨_, rfl⟩
     have hb8 : Below w3.heap.size w3 w8 := by rw [hw8]; exact (Below.refl _ _).alloc (Nat.le_refl _) _
     have hs8 : w3.heap.size + 1 ≤ w8.heap.size := by rw [hw8]; simp
     have kt8 : w8.heap[w3.heap.size]? = some (.cells #[.int .i64 ca, .int .i64 ci, .string cs', .slice C1 m1 f1, .slice C2 m2 f2, .slice C3 m3 f3, .slice C4 m4 f4] 27 (0, 0)) := by rw [hw8]; exact heap_alloc_new w3 _
     have hE8 : Eff p w3 w8 := Eff.of_below hb8 (by omega)
     have hS8 : SrcOk h p w8 := hS3.below hb8
     have hz8 : w.heap.size + 1 ≤ w8.heap.size := Nat.le_trans hz3 hE8.size
     have hF8 : Eff p w w8 := hF3.trans hE8
     have k8 : w8.heap[w.heap.size]? = some (.cells #[.int .i64 0, .int .i64 0, .string ⟨#[]⟩, .slice none 0 0, .slice none 0 0, .slice none 0 0, .slice none 0 0] 27 (0, 0)) := (hE8.other _ (by omega) (by omega)).trans k3
     have hne1 : ¬ w3.heap.size = w.heap.size := by omega
     have hne2 : ¬ w.heap.size = w3.heap.size := by omega
     have e0 : (w3.alloc (.cells #[.int .i64 ca, .int .i64 ci, .string cs', .slice C1 m1 f1, .slice C2 m2 f2, .slice C3 m3 f3, .slice C4 m4 f4] 27)).cell? ⟨w.heap.size, 0, none⟩ = some (Value.int .i64 0) := by rw [← hw8]; exact (Lib.cell_of_heap k8 0).trans rfl
     have z0 : (w3.alloc (.cells #[.int .i64 ca, .int .i64 ci, .string cs', .slice C1 m1 f1, .slice C2 m2 f2, .slice C3 m3 f3, .slice C4 m4 f4] 27)).frozen? ⟨w.heap.size, 0, none⟩ = false := by rw [← hw8]; exact Lib.frozen_of_heap k8 0
     have e1 : (w3.alloc (.cells #[.int .i64 ca, .int .i64 ci, .string cs', .slice C1 m1 f1, .slice C2 m2 f2, .slice C3 m3 f3, .slice C4 m4 f4] 27)).cell? ⟨w.heap.size, 1, none⟩ = some (Value.int .i64 0) := by rw [← hw8]; exact (Lib.cell_of_heap k8 1).trans rfl
     have z1 : (w3.alloc (.cells #[.int .i64 ca, .int .i64 ci, .string cs', .slice C1 m1 f1, .slice C2 m2 f2, .slice C3 m3 f3, .slice C4 m4 f4] 27)).frozen? ⟨w.heap.size, 1, none⟩ = false := by rw [← hw8]; exact Lib.frozen_of_heap k8 1
     have e2 : (w3.alloc (.cells #[.int .i64 ca, .int .i64 ci, .string cs', .slice C1 m1 f1, .slice C2 m2 f2, .slice C3 m3 f3, .slice C4 m4 f4] 27)).cell? ⟨w.heap.size, 2, none⟩ = some (Value.string ⟨#[]⟩) := by rw [← hw8]; exact (Lib.cell_of_heap k8 2).trans rfl
     have z2 : (w3.alloc (.cells #[.int .i64 ca, .int .i64 ci, .string cs', .slice C1 m1 f1, .slice C2 m2 f2, .slice C3 m3 f3, .slice C4 m4 f4] 27)).frozen? ⟨w.heap.size, 2, none⟩ = false := by rw [← hw8]; exact Lib.frozen_of_heap k8 2
     have e3 : (w3.alloc (.cells #[.int .i64 ca, .int .i64 ci, .string cs', .slice C1 m1 f1, .slice C2 m2 f2, .slice C3 m3 f3, .slice C4 m4 f4] 27)).cell? ⟨w.heap.size, 3, none⟩ = some (Value.slice none 0 0) := by rw [← hw8]; exact (Lib.cell_of_heap k8 3).trans rfl
     have z3 : (w3.alloc (.cells #[.int .i64 ca, .int .i64 ci, .string cs', .slice C1 m1 f1, .slice C2 m2 f2, .slice C3 m3 f3, .slice C4 m4 f4] 27)).frozen? ⟨w.heap.size, 3, none⟩ = false := by rw [← hw8]; exact Lib.frozen_of_heap k8 3
     have e4 : (w3.alloc (.cells #[.int .i64 ca, .int .i64 ci, .string cs', .slice C1 m1 f1, .slice C2 m2 f2, .slice C3 m3 f3, .slice C4 m4 f4] 27)).cell? ⟨w.heap.size, 4, none⟩ = some (Value.slice none 0 0) := by rw [← hw8]; exact (Lib.cell_of_heap k8 4).trans rfl
     have z4 : (w3.alloc (.cells #[.int .i64 ca, .int .i64 ci, .string cs', .slice C1 m1 f1, .slice C2 m2 f2, .slice C3 m3 f3, .slice C4 m4 f4] 27)).frozen? ⟨w.heap.size, 4, none⟩ = false := by rw [← hw8]; exact Lib.frozen_of_heap k8 4
     have e5 : (w3.alloc (.cells #[.int .i64 ca, .int .i64 ci, .string cs', .slice C1 m1 f1, .slice C2 m2 f2, .slice C3 m3 f3, .slice C4 m4 f4] 27)).cell? ⟨w.heap.size, 5, none⟩ = some (Value.slice none 0 0) := by rw [← hw8]; exact (Lib.cell_of_heap k8 5).trans rfl
     have z5 : (w3.alloc (.cells #[.int .i64 ca, .int .i64 ci, .string cs', .slice C1 m1 f1, .slice C2 m2 f2, .slice C3 m3 f3, .slice C4 m4 f4] 27)).frozen? ⟨w.heap.size, 5, none⟩ = false := by rw [← hw8]; exact Lib.frozen_of_heap k8 5
     have e6 : (w3.alloc (.cells #[.int .i64 ca, .int .i64 ci, .string cs', .slice C1 m1 f1, .slice C2 m2 f2, .slice C3 m3 f3, .slice C4 m4 f4] 27)).cell? ⟨w.heap.size, 6, none⟩ = some (Value.slice none 0 0) := by rw [← hw8]; exact (Lib.cell_of_heap k8 6).trans rfl
     have z6 : (w3.alloc (.cells #[.int .i64 ca, .int .i64 ci, .string cs', .slice C1 m1 f1, .slice C2 m2 f2, .slice C3 m3 f3, .slice C4 m4 f4] 27)).frozen? ⟨w.heap.size, 6, none⟩ = false := by rw [← hw8]; exact Lib.frozen_of_heap k8 6
     go_wp2
     obtain ⟨V, hV⟩ : ∃ V, V = ((((((((w3.alloc (.cells #[.int .i64 ca, .int .i64 ci, .string cs', .slice C1 m1 f1, .slice C2 m2 f2, .slice C3 m3 f3, .slice C4 m4 f4] 27)).setCell ⟨w.heap.size, 0, none⟩ (Value.int .i64 ca)).setCell ⟨w.heap.size, 1, none⟩ (Value.int .i64 ci)).setCell ⟨w.heap.size, 2, none⟩ (Value.string cs')).setCell ⟨w.heap.size, 3, none⟩ (Value.slice C1 m1 f1)).setCell ⟨w.heap.size, 4, none⟩ (Value.slice C2 m2 f2)).setCell ⟨w.heap.size, 5, none⟩ (Value.slice C3 m3 f3)).setCell ⟨w.heap.size, 6, none⟩ (Value.slice C4 m4 f4)) := ⟨_, rfl⟩
     rw [← hV]
     rw [← hw8] at hV
     have hob : V.heap[w.heap.size]? = some (.cells #[Value.int .i64 ca, Value.int .i64 ci, Value.string cs', Value.slice C1 m1 f1, Value.slice C2 m2 f2, Value.slice C3 m3 f3, Value.slice C4 m4 f4] 27 (0, 0)) := by rw [hV]; exact obj7 k8 (Value.int .i64 ca) (Value.int .i64 ci) (Value.string cs') (Value.slice C1 m1 f1) (Value.slice C2 m2 f2) (Value.slice C3 m3 f3) (Value.slice C4 m4 f4)
     have hfin : SrcOk h p V ∧ Eff p w V := by rw [hV]; exact src_set7 hS8 hF8 (Nat.le_refl _) hlp _ _ _ _ _ _ _
     have hszV : V.heap.size = w8.heap.size := by rw [hV]; simp
     have hsm : ∀ B : Nat → Prop, ¬ B w.heap.size → Same B w8 V := fun B h => by rw [hV]; exact same_setCell (same_setCell (same_setCell (same_setCell (same_setCell (same_setCell (same_setCell ((Same.refl _ _)) h) h) h) h) h) h) h
     clear hV hw8 e0 z0 e1 z1 e2 z2 e3 z3 e4 z4 e5 z5 e6 z6
     obtain ⟨ps0, ps1, ps2, ps3, ps4, ps5, ps6⟩ := cells7 hob
     refine bodyPost_ret (v := .agg #[Value.int .i64 ca, Value.int .i64 ci, Value.string cs', Value.slice C1 m1 f1, Value.slice C2 m2 f2, Value.slice C3 m3 f3, Value.slice C4 m4 f4]) (by simp [results, Tryz.results24, go_sem, ps0, ps1, ps2, ps3, ps4, ps5, ps6]) rfl ?_
     have hen : ∀ x ∈ srtC cmpE es, entB a x = true ∧ okE x = true ∧ smlE x := fun x hx => HOK.out.2 x ((mem_srtC totE _ _).1 hx)
     have hsl := srtC_len (c := cmpE) es
     have hlm := HOK.out.1
     refine ⟨⟨funV a (srtC cmpE es), _, rfl, VB.sub (B := Btw (w.heap.size + 1) w3.heap.size) (fun b hb => ⟨by have := hb.1; omega, by have := hb.2; omega⟩) (Nat.le_refl _) (VB.keep (hsm _ (fun h => by have := h.1; omega)) (VB.keep (.of_below hb8 fun _ h => h.2) HV.out)), ?_, ?_, rfl⟩, hfin⟩
     ·
      have h1 : okEs (srtC cmpE es) = true := by rw [okEs_all, List.all_eq_true]; exact fun x hx => (hen x hx).2.1
      have h2 : (srtC cmpE es).all (entB a) = true := by rw [List.all_eq_true]; exact fun x hx => (hen x hx).1
      have h3 := asc_srtC totE es
      simp [okV, funV, labelsB, usesB, kindB, okVs, h1, h2, h3]
      refine ⟨by simp [AscC], by omega⟩
     · exact ⟨by simp, by simp, by omega, by simp, by simp [smlVs], smlEs_iff.2 fun x hx => (hen x hx).2.2⟩
    ·
     obtain ⟨w8, hw8⟩ : ∃ w8, w8 = w3.alloc (.cells #[.int .i64 0, .int .i64 0, .string ⟨#[]⟩, .slice none 0 0, .slice none 0 0, .slice none 0 0, .slice none 0 0] 27) := ⟨_, rfl⟩
     have hb8 : Below w3.heap.size w3 w8 := by rw [hw8]; exact (Below.refl _ _).alloc (Nat.le_refl _) _
     have hE8 : Eff p w3 w8 := Eff.of_below hb8 (by omega)
     have hS8 : SrcOk h p w8 := hS3.below hb8
     have hz8 : w.heap.size + 1 ≤ w8.heap.size := Nat.le_trans hz3 hE8.size
     have hF8 : Eff p w w8 := hF3.trans hE8
     have k8 : w8.heap[w.heap.size]? = some (.cells #[.int .i64 0, .int .i64 0, .string ⟨#[]⟩, .slice none 0 0, .slice none 0 0, .slice none 0 0, .slice none 0 0] 27 (0, 0)) := (hE8.other _ (by omega) (by omega)).trans k3
     have hlf := leaf_src h p w8 hS8
     go_wp2_with fail
     rw [← hw8]
     clear hw8
     refine hlf.mono ?_
     rintro e w9 ⟨⟨kk, ii, tt, rfl, hLf⟩, hS9, hE9⟩
     simp only [lfC]
     clear hlf
     have hz9 : w.heap.size + 1 ≤ w9.heap.size := Nat.le_trans hz8 hE9.size
     have hF9 : Eff p w w9 := hF8.trans hE9
     have k9 : w9.heap[w.heap.size]? = some (.cells #[.int .i64 0, .int .i64 0, .string ⟨#[]⟩, .slice none 0 0, .slice none 0 0, .slice none 0 0, .slice none 0 0] 27 (0, 0)) := (hE9.other _ (by omega) (by omega)).trans k8
     obtain ⟨e0, e1, e2, e3, e4, e5, e6⟩ := cells7 k9
     obtain ⟨z0, z1, z2, z3, z4, z5, z6⟩ := frozen7 k9
     go_wp2
     obtain ⟨V, hV⟩ : ∃ V, V = (((((((w9.setCell ⟨w.heap.size, 0, none⟩ (Value.int .i64 kk)).setCell ⟨w.heap.size, 1, none⟩ (Value.int .i64 ii)).setCell ⟨w.heap.size, 2, none⟩ (Value.string ⟨tt.toArray⟩)).setCell ⟨w.heap.size, 3, none⟩ (Value.slice none 0 0)).setCell ⟨w.heap.size, 4, none⟩ (Value.slice none 0 0)).setCell ⟨w.heap.size, 5, none⟩ (Value.slice none 0 0)).setCell ⟨w.heap.size, 6, none⟩ (Value.slice none 0 0)) := ⟨_, rfl⟩
     rw [← hV]
     have hob : V.heap[w.heap.size]? = some (.cells #[Value.int .i64 kk, Value.int .i64 ii, Value.string ⟨tt.toArray⟩, Value.slice none 0 0, Value.slice none 0 0, Value.slice none 0 0, Value.slice none 0 0] 27 (0, 0)) := by rw [hV]; exact obj7 k9 (Value.int .i64 kk) (Value.int .i64 ii) (Value.string ⟨tt.toArray⟩) (Value.slice none 0 0) (Value.slice none 0 0) (Value.slice none 0 0) (Value.slice none 0 0)
     have hfin : SrcOk h p V ∧ Eff p w V := by rw [hV]; exact src_set7 hS9 hF9 (Nat.le_refl _) hlp _ _ _ _ _ _ _
     have hszV : V.heap.size = w9.heap.size := by rw [hV]; simp
     have hsm : ∀ B : Nat → Prop, ¬ B w.heap.size → Same B w9 V := fun B h => by rw [hV]; exact same_setCell (same_setCell (same_setCell (same_setCell (same_setCell (same_setCell (same_setCell ((Same.refl _ _)) h) h) h) h) h) h) h
     clear hV e0 z0 e1 z1 e2 z2 e3 z3 e4 z4 e5 z5 e6 z6
     obtain ⟨ps0, ps1, ps2, ps3, ps4, ps5, ps6⟩ := cells7 hob
     refine bodyPost_ret (v := .agg #[Value.int .i64 kk, Value.int .i64 ii, Value.string ⟨tt.toArray⟩, Value.slice none 0 0, Value.slice none 0 0, Value.slice none 0 0, Value.slice none 0 0]) (by simp [results, Tryz.results24, go_sem, ps0, ps1, ps2, ps3, ps4, ps5, ps6]) rfl ?_
     obtain ⟨l1, l2, l3, l4, l5⟩ := hLf.all
     exact ⟨⟨lfV kk ii tt, _, rfl, lfVB l3 l4 l5 q V _, l1, l2, rfl⟩, hfin⟩
   ·
    have mp : (0 : Int) < (m : Int) := by omega
    have hw1 : IntKind.i64.wrap ((m : Int) - 1) = (m : Int) - 1 := IntWalk.i64_in _ (by omega)
    have hvc := entry_src q h p a q wr hSr ha2 (by omega) hV1
    have HALL := Lib.hid hall
    have HO := Lib.hid hO
    have HM := Lib.hid hm
    generalize hla : es.length = la at *
    have HLA := Lib.hid hla
    clear hall hO hla hm
    go_wp2_with fail
    refine hvc.mono ?_
    rintro e w3 ⟨⟨x, cs, rfl, hvb, hok⟩, hS3, hE3⟩
    clear hvc
    obtain ⟨args, fails, result, hxx, ua, rs, rfl, hra, hrr⟩ := hvb.toK
    obtain ⟨Aa, ca0, rfl, _⟩ := hra.form
    obtain ⟨ca, ci, cs', B1, n1, d1, B2, n2, d2, B3, n3, d3, B4, n4, d4, rfl⟩ := hrr.form7
    clear hra hrr
    generalize hlaa : args.length = laa at hvb
    clear hlaa hxx
    have hF3 : Eff p w w3 := hEr.trans hE3
    have hz3 : w.heap.size + 1 ≤ w3.heap.size := Nat.le_trans hzr hE3.size
    have k3 : w3.heap[w.heap.size]? = some (.cells #[.int .i64 0, .int .i64 0, .string ⟨#[]⟩, .slice none 0 0, .slice none 0 0, .slice none 0 0, .slice none 0 0] 27 (0, 0)) := (hE3.other _ (by omega) (by omega)).trans kr
    have hO3 := HO.out.eff hE3 (by omega)
    have hblk := HO.out.blk
    have hzz := hE3.size
    have hll := HLA.out
    have hmm := HM.out
    go_wp2_with (at_builtin; refine wp_app_e rfl _ _ rfl q (w.heap.size + 1) _ es rfl hO3 x _ 1 _ rfl rfl _ rfl (EnB.sub hvb (fun b hb => ⟨by have := hb.1; omega, hb.2, fun e => by have := hblk b e.symm; have := hb.1; omega⟩)) rfl (elE_one q x _ _ _ hvb) (by omega) hz3 ?_; intro g cap w4 ho4 hb4 _ _; refine Hid.out ?_)
    refine Lib.hid ?_
    have hS4 : SrcOk h p w4 := hS3.below3 hb4 (by omega)
    have hF4 : Eff p w w4 := hF3.grow (hb4.mono (by omega)) hlp
    have hz4 : w.heap.size + 1 ≤ w4.heap.size := Nat.le_trans hz3 hb4.size
    have k4 : w4.heap[w.heap.size]? = some (.cells #[.int .i64 0, .int .i64 0, .string ⟨#[]⟩, .slice none 0 0, .slice none 0 0, .slice none 0 0, .slice none 0 0] 27 (0, 0)) := (hb4.block _ (by omega)).trans k3
    have HR := Lib.hid (And.intro ho4 (And.intro hok (And.intro hS4 (And.intro hF4 (And.intro hz4 k4)))))
    clear ho4 hok hS4 hF4 hz4 k4 hvb hO3 hblk hb4 hF3 k3 hS3 hE3 kr hSr hEr hll hmm
    go_wp2_with fail
    go_roundw
    case rel =>
     obtain ⟨q1, q2, q4, q5, q6, q7⟩ := HR.out
     have hl2 : (es ++ [x]).length = la + 1 := by rw [List.length_append, HLA.out]; rfl
     refine ⟨m - 1, some ⟨g, 0, none⟩, cap, es ++ [x], by rw [hl2, ← HLA.out], by go_num, by have := HM.out; omega, by rw [hl2, ← HLA.out]; exact q1, ?_, q4, q5, q6, q7⟩
     intro y hy
     rcases List.mem_append.1 hy with hy | hy
     · exact HALL.out y hy
     · rw [List.mem_singleton.1 hy]; exact q2
    case measure => simp [intOf]; try omega
 ·
  clear q1
  have hlf := leaf_src h p w1 hS1
  go_wp2_with fail
  refine hlf.mono ?_
  rintro e w9 ⟨⟨kk, ii, tt, rfl, hLf⟩, hS9, hE9⟩
  simp only [lfC]
  clear hlf
  have hz9 : w.heap.size + 1 ≤ w9.heap.size := Nat.le_trans hz1 hE9.size
  have hF9 : Eff p w w9 := hF1.trans hE9
  have k9 : w9.heap[w.heap.size]? = some (.cells #[.int .i64 0, .int .i64 0, .string ⟨#[]⟩, .slice none 0 0, .slice none 0 0, .slice none 0 0, .slice none 0 0] 27 (0, 0)) := (hE9.other _ (by omega) (by omega)).trans k1
  obtain ⟨e0, e1, e2, e3, e4, e5, e6⟩ := cells7 k9
  obtain ⟨z0, z1, z2, z3, z4, z5, z6⟩ := frozen7 k9
  go_wp2
  obtain ⟨V, hV⟩ : ∃ V, V = (((((((w9.setCell ⟨w.heap.size, 0, none⟩ (Value.int .i64 kk)).setCell ⟨w.heap.size, 1, none⟩ (Value.int .i64 ii)).setCell ⟨w.heap.size, 2, none⟩ (Value.string ⟨tt.toArray⟩)).setCell ⟨w.heap.size, 3, none⟩ (Value.slice none 0 0)).setCell ⟨w.heap.size, 4, none⟩ (Value.slice none 0 0)).setCell ⟨w.heap.size, 5, none⟩ (Value.slice none 0 0)).setCell ⟨w.heap.size, 6, none⟩ (Value.slice none 0 0)) := ⟨_, rfl⟩
  rw [← hV]
  have hob : V.heap[w.heap.size]? = some (.cells #[Value.int .i64 kk, Value.int .i64 ii, Value.string ⟨tt.toArray⟩, Value.slice none 0 0, Value.slice none 0 0, Value.slice none 0 0, Value.slice none 0 0] 27 (0, 0)) := by rw [hV]; exact obj7 k9 (Value.int .i64 kk) (Value.int .i64 ii) (Value.string ⟨tt.toArray⟩) (Value.slice none 0 0) (Value.slice none 0 0) (Value.slice none 0 0) (Value.slice none 0 0)
  have hfin : SrcOk h p V ∧ Eff p w V := by rw [hV]; exact src_set7 hS9 hF9 (Nat.le_refl _) hlp _ _ _ _ _ _ _
  have hszV : V.heap.size = w9.heap.size := by rw [hV]; simp
  have hsm : ∀ B : Nat → Prop, ¬ B w.heap.size → Same B w9 V := fun B h => by rw [hV]; exact same_setCell (same_setCell (same_setCell (same_setCell (same_setCell (same_setCell (same_setCell ((Same.refl _ _)) h) h) h) h) h) h) h
  clear hV e0 z0 e1 z1 e2 z2 e3 z3 e4 z4 e5 z5 e6 z6
  obtain ⟨ps0, ps1, ps2, ps3, ps4, ps5, ps6⟩ := cells7 hob
  refine bodyPost_ret (v := .agg #[Value.int .i64 kk, Value.int .i64 ii, Value.string ⟨tt.toArray⟩, Value.slice none 0 0, Value.slice none 0 0, Value.slice none 0 0, Value.slice none 0 0]) (by simp [results, Tryz.results24, go_sem, ps0, ps1, ps2, ps3, ps4, ps5, ps6]) rfl ?_
  obtain ⟨l1, l2, l3, l4, l5⟩ := hLf.all
  exact ⟨⟨lfV kk ii tt, _, rfl, lfVB l3 l4 l5 q V _, l1, l2, rfl⟩, hfin⟩
end Go.Proofs.YtcjgaohblaidjaaGreatDoor
