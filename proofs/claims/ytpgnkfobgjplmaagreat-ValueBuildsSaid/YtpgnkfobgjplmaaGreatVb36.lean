/- Elements of the program. -/
import Derived.Test.YtpgnkfobgjplmaaGreatVb26
import Derived.Test.YtpgnkfobgjplmaaGreatVb35
namespace Go.Proofs.YtpgnkfobgjplmaaGreat
open Go Go.RowKit
def lenS : Value → Nat
  | .slice _ n _ => n
  | _ => 0
def elemsF : Nat → Vl → Option (List Vl)
  | 0, _ => none
  | k + 1, .mk kd _ _ v _ _ _ => if kd = 7 then (match v with
    | [a, b] => (elemsF k b).map (a :: ·)
    | _ => none) else if kd = 5 then some [] else none
def ElemsR (k : Nat) (o : Option (List Vl)) (w : World) (e : Ending) (w' : World) : Prop :=
  Below w.heap.size w w' ∧ ((∃ l, o = some l ∧ ∃ u, e = .returned (.tuple #[u, .bool true]) ∧ RowB w' (fun b => w.heap.size ≤ b ∧ b < w'.heap.size) 7 u l.length (fun j cs => ∃ x, l[j]? = some x ∧ VB k w' (fun b => w.heap.size ≤ b ∧ b < w'.heap.size) x cs)) ∨ (o = none ∧ e = .returned (.tuple #[.slice none 0 0, .bool false])))
set_option maxRecDepth 100000 in
set_option maxHeartbeats 6400000 in
theorem elements_any (k : Nat) (v : Vl) (cs : List Value) (w : World) (hv : VS k w w.heap.size v cs) (hs : sml v) (hk : k ≤ 1000000) :
    Calls Tryz.prog 15 #[.agg cs.toArray] w (ElemsR k (elemsF k v) w) := by
  have eg := enters_of Tryz.func45 (by kernel_rfl) rfl
  obtain ⟨a0, i0, s0, B1, n1, d1, B2, n2, d2, B3, n3, d3, B4, n4, d4, rfl⟩ := hv.form7
  obtain ⟨W, hW⟩ : ∃ W, W = w.alloc (.cells #[.int .i64 a0, .int .i64 i0, .string s0, .slice B1 n1 d1, .slice B2 n2 d2, .slice B3 n3 d3, .slice B4 n4 d4] 27) := ⟨_, rfl⟩
  have hbb : Below w.heap.size w W := by rw [hW]; exact (Below.refl _ _).alloc (Nat.le_refl _) _
  have hzW : w.heap.size + 1 ≤ W.heap.size := by rw [hW]; simp
  have kb : W.heap[w.heap.size]? = some (.cells #[.int .i64 a0, .int .i64 i0, .string s0, .slice B1 n1 d1, .slice B2 n2 d2, .slice B3 n3 d3, .slice B4 n4 d4] 27 (0, 0)) := by rw [hW]; exact heap_alloc_new w _
  generalize hel : elemsF k v = el
  have HEL := Lib.hid hel
  clear hel
  go_enter Tryz.func15, Tryz.ntmps15
  go_wp2_with fail
  rw [← hW]
  clear hW
  go_loopw [4] (fun l wr => ∃ (q : Nat) (A : Option Addr) (c : Nat) (acc : List Vl) (x : Vl) (a i : Int) (s : ByteArray) (C1 : Option Addr) (m1 f1 : Nat) (C2 : Option Addr) (m2 f2 : Nat) (C3 : Option Addr) (m3 f3 : Nat) (C4 : Option Addr) (m4 f4 : Nat), l = .slice A acc.length c ∧ q + acc.length = k ∧ OwnX7 k w (fun b => b < w.heap.size) wr (w.heap.size + 1) (.slice A acc.length c) acc ∧ wr.heap[w.heap.size]? = some (.cells #[.int .i64 a, .int .i64 i, .string s, .slice C1 m1 f1, .slice C2 m2 f2, .slice C3 m3 f3, .slice C4 m4 f4] 27 (0, 0)) ∧ VS q w w.heap.size x [.int .i64 a, .int .i64 i, .string s, .slice C1 m1 f1, .slice C2 m2 f2, .slice C3 m3 f3, .slice C4 m4 f4] ∧ el = (elemsF q x).map (acc ++ ·) ∧ sml x ∧ (∀ y ∈ acc, sml y) ∧ Below w.heap.size w wr ∧ w.heap.size + 1 ≤ wr.heap.size) (fun l _ => k - lenS l)
  case atStart => exact ⟨k, none, 0, [], v, a0, i0, s0, B1, n1, d1, B2, n2, d2, B3, n3, d3, B4, n4, d4, rfl, by simp, OwnE.nil _ _ _ _ _, kb, hv, by rw [HEL.out]; simp, hs, by simp, hbb, hzW⟩
  case round =>
    obtain ⟨q, A, c, acc, x, a, i, s, C1, m1, f1, C2, m2, f2, C3, m3, f3, C4, m4, f4, rfl, hq, hO, hbox, hvx, hele, hsx, hsa, hb, hz⟩ := hrel
    obtain ⟨kd, it, tx, kids, keys, ents, labels⟩ := x
    obtain ⟨q', rfl⟩ : ∃ q', q = q' + 1 := by
      cases q with
      | zero => exact hvx.elim
      | succ q' => exact ⟨q', rfl⟩
    have hvx' := hvx
    obtain ⟨uk, uy, ue, ul, hcs, _, _, _, hrk, _, _, _⟩ := hvx'
    simp only [List.cons.injEq, Value.int.injEq, Value.string.injEq, and_true, true_and] at hcs
    obtain ⟨rfl, rfl, rfl, rfl, _, _, _⟩ := hcs
    obtain ⟨Ak, ck, hf, _⟩ := hrk.form
    injection hf with e1 e2 e3
    subst e1 e2 e3
    have e0 : wr.cell? ⟨w.heap.size, 0, none⟩ = some (.int .i64 a) := (Lib.cell_of_heap hbox 0).trans rfl
    have z0 := Lib.frozen_of_heap hbox 0
    have e1 : wr.cell? ⟨w.heap.size, 1, none⟩ = some (.int .i64 i) := (Lib.cell_of_heap hbox 1).trans rfl
    have z1 := Lib.frozen_of_heap hbox 1
    have e2 : wr.cell? ⟨w.heap.size, 2, none⟩ = some (.string ⟨tx.toArray⟩) := (Lib.cell_of_heap hbox 2).trans rfl
    have z2 := Lib.frozen_of_heap hbox 2
    have e3 : wr.cell? ⟨w.heap.size, 3, none⟩ = some (.slice C1 kids.length f1) := (Lib.cell_of_heap hbox 3).trans rfl
    have z3 := Lib.frozen_of_heap hbox 3
    have e4 : wr.cell? ⟨w.heap.size, 4, none⟩ = some (.slice C2 m2 f2) := (Lib.cell_of_heap hbox 4).trans rfl
    have z4 := Lib.frozen_of_heap hbox 4
    have e5 : wr.cell? ⟨w.heap.size, 5, none⟩ = some (.slice C3 m3 f3) := (Lib.cell_of_heap hbox 5).trans rfl
    have z5 := Lib.frozen_of_heap hbox 5
    have e6 : wr.cell? ⟨w.heap.size, 6, none⟩ = some (.slice C4 m4 f4) := (Lib.cell_of_heap hbox 6).trans rfl
    have z6 := Lib.frozen_of_heap hbox 6
    have HH := Lib.hid (And.intro hO (And.intro hvx (And.intro hele (And.intro hsx (And.intro hsa hb)))))
    have HQ := Lib.hid hq
    clear hvx hele hsx hsa hq hO
    generalize hla : acc.length = la at *
    have HLA := Lib.hid hla
    clear hla
    by_cases hk7 : a = 7
    · subst hk7
      by_cases hl2 : kids.length = 2
      · obtain ⟨bk, ok, ck', t0, t1, t2, t3, t4, t5, t6, hu, hbk, ⟨y0, hy0, hv0⟩, c0, c1, c2, c3, c4, c5, c6⟩ := RowB.at7 (H := w.heap.size) (j := 0) hrk (by omega)
        injection hu with hA hNN hcc
        subst hA
        clear hNN hcc
        obtain ⟨bk', ok', ck'', r0, r1, r2, r3, r4, r5, r6, hu, hbk', ⟨y1, hy1, hv1⟩, d0, d1, d2, d3, d4, d5, d6⟩ := RowB.at7 (H := w.heap.size) (j := 1) hrk (by omega)
        injection hu with hA hNN hcc
        injection hA with hA
        injection hA with e1 e2
        subst e1 e2
        clear hNN hcc hrk
        obtain ⟨a', i', s', E1, p1, h1, E2, p2, h2, E3, p3, h3, E4, p4, h4, hfr⟩ := hv1.form7
        simp only [List.cons.injEq, and_true] at hfr
        obtain ⟨rfl, rfl, rfl, rfl, rfl, rfl, rfl⟩ := hfr
        have hbw := HH.out.2.2.2.2.2
        have x0 : wr.cell? ⟨bk, ok, none⟩ = some t0 := (hbw.cell (p := ⟨bk, _, none⟩) hbk).trans (by simpa using c0)
        have x1 : wr.cell? ⟨bk, ok + 1, none⟩ = some t1 := (hbw.cell (p := ⟨bk, _, none⟩) hbk).trans (by simpa using c1)
        have x2 : wr.cell? ⟨bk, ok + 2, none⟩ = some t2 := (hbw.cell (p := ⟨bk, _, none⟩) hbk).trans (by simpa using c2)
        have x3 : wr.cell? ⟨bk, ok + 3, none⟩ = some t3 := (hbw.cell (p := ⟨bk, _, none⟩) hbk).trans (by simpa using c3)
        have x4 : wr.cell? ⟨bk, ok + 4, none⟩ = some t4 := (hbw.cell (p := ⟨bk, _, none⟩) hbk).trans (by simpa using c4)
        have x5 : wr.cell? ⟨bk, ok + 5, none⟩ = some t5 := (hbw.cell (p := ⟨bk, _, none⟩) hbk).trans (by simpa using c5)
        have x6 : wr.cell? ⟨bk, ok + 6, none⟩ = some t6 := (hbw.cell (p := ⟨bk, _, none⟩) hbk).trans (by simpa using c6)
        clear c0 c1 c2 c3 c4 c5 c6
        have hkids : kids = [y0, y1] := by
          match kids, hl2, hy0, hy1 with
          | [u0, u1], _, hy0, hy1 =>
            simp only [List.getElem?_cons_zero, Option.some.injEq] at hy0
            have hy1' : some u1 = some y1 := hy1
            injection hy1' with hy1'
            rw [hy0, hy1']
        have HK := Lib.hid hkids
        have HV := Lib.hid (And.intro hv0 hv1)
        rw [hl2] at e3
        have hO := HH.out.1
        have hll := HLA.out
        have hqq := HQ.out
        clear hkids hv0 hv1 hy0 hy1 hl2
        go_wp2_with (at_builtin; refine wp_appg_v (elC (fun x cs => VB k w (fun b => b < w.heap.size) x cs)) rfl _ _ rfl (w.heap.size + 1) _ acc rfl hO y0 [t0, t1, t2, t3, t4, t5, t6] 1 _ rfl rfl _ rfl (VB.sub (fun _ h => h) (show q' ≤ k by omega) HV.out.1) rfl (elV_one q' y0 w _ _ HV.out.1) (by omega) hz ?_; intro g cap w4 ho4 hb4 hk4 hg4; refine Hid.out ?_)
        refine Lib.hid ?_
        have kb4 : w4.heap[w.heap.size]? = some (.cells #[.int .i64 7, .int .i64 i, .string ⟨tx.toArray⟩, .slice (some ⟨bk, ok, none⟩) kids.length f1, .slice C2 m2 f2, .slice C3 m3 f3, .slice C4 m4 f4] 27 (0, 0)) := (hb4.block _ (by omega)).trans hbox
        have hbw4 : Below w.heap.size w w4 := hbw.trans (hb4.mono (by omega))
        rw [show kids.length = 2 by rw [HK.out]; rfl] at kb4
        clear e0 e1 e2 e3 e4 e5 e6 z0 z1 z2 z3 z4 z5 z6 hbox x0 x1 x2 x3 x4 x5 x6 hll hqq
        have e0 : w4.cell? ⟨w.heap.size, 0, none⟩ = some (.int .i64 7) := (Lib.cell_of_heap kb4 0).trans rfl
        have z0 := Lib.frozen_of_heap kb4 0
        have e1 : w4.cell? ⟨w.heap.size, 1, none⟩ = some (.int .i64 i) := (Lib.cell_of_heap kb4 1).trans rfl
        have z1 := Lib.frozen_of_heap kb4 1
        have e2 : w4.cell? ⟨w.heap.size, 2, none⟩ = some (.string ⟨tx.toArray⟩) := (Lib.cell_of_heap kb4 2).trans rfl
        have z2 := Lib.frozen_of_heap kb4 2
        have e3 : w4.cell? ⟨w.heap.size, 3, none⟩ = some (.slice (some ⟨bk, ok, none⟩) 2 f1) := (Lib.cell_of_heap kb4 3).trans rfl
        have z3 := Lib.frozen_of_heap kb4 3
        have e4 : w4.cell? ⟨w.heap.size, 4, none⟩ = some (.slice C2 m2 f2) := (Lib.cell_of_heap kb4 4).trans rfl
        have z4 := Lib.frozen_of_heap kb4 4
        have e5 : w4.cell? ⟨w.heap.size, 5, none⟩ = some (.slice C3 m3 f3) := (Lib.cell_of_heap kb4 5).trans rfl
        have z5 := Lib.frozen_of_heap kb4 5
        have e6 : w4.cell? ⟨w.heap.size, 6, none⟩ = some (.slice C4 m4 f4) := (Lib.cell_of_heap kb4 6).trans rfl
        have z6 := Lib.frozen_of_heap kb4 6
        have x0 : w4.cell? ⟨bk, ok + 7, none⟩ = some (.int .i64 a') := (hbw4.cell (p := ⟨bk, _, none⟩) hbk).trans (by simpa using d0)
        have x1 : w4.cell? ⟨bk, ok + 8, none⟩ = some (.int .i64 i') := (hbw4.cell (p := ⟨bk, _, none⟩) hbk).trans (by simpa using d1)
        have x2 : w4.cell? ⟨bk, ok + 9, none⟩ = some (.string s') := (hbw4.cell (p := ⟨bk, _, none⟩) hbk).trans (by simpa using d2)
        have x3 : w4.cell? ⟨bk, ok + 10, none⟩ = some (.slice E1 p1 h1) := (hbw4.cell (p := ⟨bk, _, none⟩) hbk).trans (by simpa using d3)
        have x4 : w4.cell? ⟨bk, ok + 11, none⟩ = some (.slice E2 p2 h2) := (hbw4.cell (p := ⟨bk, _, none⟩) hbk).trans (by simpa using d4)
        have x5 : w4.cell? ⟨bk, ok + 12, none⟩ = some (.slice E3 p3 h3) := (hbw4.cell (p := ⟨bk, _, none⟩) hbk).trans (by simpa using d5)
        have x6 : w4.cell? ⟨bk, ok + 13, none⟩ = some (.slice E4 p4 h4) := (hbw4.cell (p := ⟨bk, _, none⟩) hbk).trans (by simpa using d6)
        clear d0 d1 d2 d3 d4 d5 d6
        have HR := Lib.hid (And.intro ho4 (And.intro kb4 (And.intro hbw4 (And.intro hb4 hz))))
        clear ho4 kb4 hb4 hk4 hg4 hO
        go_wp2_with fail
        go_roundw
        case rel =>
          obtain ⟨g1, g2, g3, g4, g5⟩ := HR.out
          obtain ⟨_, hvx, hele, hsx, hsa, _⟩ := HH.out
          have hkk := HK.out
          subst hkk
          have hl2 : (acc ++ [y0]).length = la + 1 := by rw [List.length_append, HLA.out]; rfl
          have hsm2 : sml y0 ∧ sml y1 := ⟨hsx.2.2.2.2.1.1, hsx.2.2.2.2.1.2.1⟩
          refine ⟨q', some ⟨g, 0, none⟩, cap, acc ++ [y0], y1, a', i', s', E1, p1, h1, E2, p2, h2, E3, p3, h3, E4, p4, h4, by rw [hl2, ← HLA.out], by have := HQ.out; rw [hl2]; omega, ?_, ?_, HV.out.2, ?_, hsm2.2, ?_, ?_, ?_⟩
          · rw [hl2, ← HLA.out]
            exact OwnE.low (OwnE.low (OwnE.low (OwnE.low (OwnE.low (OwnE.low (OwnE.low (g1) (by omega)) (by omega)) (by omega)) (by omega)) (by omega)) (by omega)) (by omega)
          · exact obj7 g2 _ _ _ _ _ _ _
          · rw [hele]
            simp [elemsF, Option.map_map, Function.comp_def]
          · intro y hy
            rcases List.mem_append.1 hy with hy | hy
            · exact hsa y hy
            · rw [List.mem_singleton.1 hy]; exact hsm2.1
          · exact Below.setCell (Below.setCell (Below.setCell (Below.setCell (Below.setCell (Below.setCell (Below.setCell (g3) (p := ⟨w.heap.size, 0, none⟩) (Nat.le_refl _) _) (p := ⟨w.heap.size, 1, none⟩) (Nat.le_refl _) _) (p := ⟨w.heap.size, 2, none⟩) (Nat.le_refl _) _) (p := ⟨w.heap.size, 3, none⟩) (Nat.le_refl _) _) (p := ⟨w.heap.size, 4, none⟩) (Nat.le_refl _) _) (p := ⟨w.heap.size, 5, none⟩) (Nat.le_refl _) _) (p := ⟨w.heap.size, 6, none⟩) (Nat.le_refl _) _
          · simpa using Nat.le_trans g5 g4.size
        case measure =>
          have := HQ.out
          simp [lenS]
          omega
      · have hlb : ((kids.length : Int) == 2) = false := by simpa using (by omega : ¬ (kids.length : Int) = 2)
        have HN : Hid (el = none) := Lib.hid (by
          rw [HH.out.2.2.1]
          match kids, hl2 with
          | [], _ => simp [elemsF]
          | [_], _ => simp [elemsF]
          | [_, _], h => exact absurd rfl h
          | _ :: _ :: _ :: _, _ => simp [elemsF])
        go_wp2
        go_ret2
        exact ⟨HH.out.2.2.2.2.2, .inr ⟨HN.out, rfl⟩⟩
    · have hkb : (a == 7) = false := by simpa using hk7
      by_cases hk5 : a = 5
      · subst hk5
        have hbw := HH.out.2.2.2.2.2
        have HE : Hid (el = some acc) := Lib.hid (by rw [HH.out.2.2.1]; simp [elemsF])
        have hc : Calls Tryz.prog 44 #[.slice A la c, .func (.func 45) #[] #[]] wr fun e w' => ∃ u, e = .returned u ∧ RowB w' (fun b => wr.heap.size ≤ b ∧ b < w'.heap.size) 7 u acc.length (fun j cs => ∃ x, acc[j]? = some x ∧ VB k w' (fun b => wr.heap.size ≤ b ∧ b < w'.heap.size) x cs) ∧ Below wr.heap.size wr w' := by
          have hla := HLA.out
          have hq := HQ.out
          subst hla
          refine each7 k _ eg (fun x => x) (Lib.hid fun v cs w h1 h2 => clone_any k v cs w h1 h2) A c acc wr (RowB.sub (HH.out.1.row (by omega) (by unfold maxLen; omega)) (fun b hb => hb.2) ?_) (by omega) (smlVs_iff.2 HH.out.2.2.2.2.1)
          rintro j cs ⟨x, hx, hv⟩
          have hv2 : VB k w (fun b => b < w.heap.size) x cs := hv
          exact ⟨x, hx, VB.sub (fun b hb => Nat.lt_of_lt_of_le hb hbw.size) (Nat.le_refl _) (VB.keep (.of_below hbw fun _ h => h) hv2)⟩
        go_wp2_with fail
        refine hc.mono ?_
        rintro e w5 ⟨u, rfl, hru, hb5⟩
        clear hc
        have HU := Lib.hid (And.intro hru hb5)
        clear hru hb5
        go_wp2
        go_ret2
        have hsz := hbw.size
        have hsw : wr.heap.size ≤ w5.heap.size := HU.out.2.size
        refine ⟨hbw.trans (HU.out.2.mono hsz), .inl ⟨acc, HE.out, u, rfl, RowB.sub HU.out.1 (fun b hb => ⟨Nat.le_trans hsz hb.1, hb.2⟩) ?_⟩⟩
        rintro j cs ⟨x, hx, hv⟩
        exact ⟨x, hx, VB.sub (fun b hb => ⟨Nat.le_trans hsz hb.1, hb.2⟩) (Nat.le_refl _) hv⟩
      · have hk5b : (a != 5) = true := by simpa using hk5
        have HN : Hid (el = none) := Lib.hid (by rw [HH.out.2.2.1]; simp [elemsF, hk7, hk5])
        go_wp2
        go_ret2
        exact ⟨HH.out.2.2.2.2.2, .inr ⟨HN.out, rfl⟩⟩
end Go.Proofs.YtpgnkfobgjplmaaGreat
