/- What Parse of the program gives: the value whose notation the text is, if there is one. -/
import Derived.Test.YtcjgaohblaidjaaGreatDoorVb04
import Derived.Test.YtcjgaohblaidjaaGreatDoorVb23
import Derived.Test.YtcjgaohblaidjaaGreatDoorVb24
namespace Go.Proofs.YtcjgaohblaidjaaGreatDoor
open Go Go.RowKit
theorem boxB7 {w3 a : World} {H g : Nat} {e : TypeId} {z0 z1 z2 z3 z4 z5 z6 : Value} (hk : w3.heap[g]? = some (.cells #[z0, z1, z2, z3, z4, z5, z6] e (0, 0))) (hg : H ≤ g) (hB : Below H a w3) (v0 v1 v2 v3 v4 v5 v6 : Value) (V : World) (hV : V = (((((((w3.setCell ⟨g, 0, none⟩ (v0)).setCell ⟨g, 1, none⟩ (v1)).setCell ⟨g, 2, none⟩ (v2)).setCell ⟨g, 3, none⟩ (v3)).setCell ⟨g, 4, none⟩ (v4)).setCell ⟨g, 5, none⟩ (v5)).setCell ⟨g, 6, none⟩ (v6))) :
  Below H a V ∧ V.heap[g]? = some (.cells #[v0, v1, v2, v3, v4, v5, v6] e (0, 0)) ∧ V.heap.size = w3.heap.size ∧ (∀ B : Nat → Prop, ¬ B g → Same B w3 V) := by
 subst hV
 exact ⟨below_set7 hB hg _ _ _ _ _ _ _, obj7 hk v0 v1 v2 v3 v4 v5 v6, by simp, fun B h => same_set (same_set (same_set (same_set (same_set (same_set (same_set (Same.refl _ _) h) h) h) h) h) h) h⟩
set_option maxRecDepth 100000 in
set_option maxHeartbeats 1600000 in
theorem value_zero5 (B k p : Nat) : ValI B k p 131072 (pV 0) := by
 intro r w h hr hE
 have hBp := Nat.le_refl B
 have hlp := h.lt
 obtain ⟨W, hW⟩ : ∃ W, W = w.alloc (.cells #[.int .i64 0, .int .i64 0, .string ⟨#[]⟩, .slice none 0 0, .slice none 0 0, .slice none 0 0, .slice none 0 0] 27) := ⟨_, rfl⟩
 have kW : W.heap[w.heap.size]? = some (.cells #[.int .i64 0, .int .i64 0, .string ⟨#[]⟩, .slice none 0 0, .slice none 0 0, .slice none 0 0, .slice none 0 0] 27 (0, 0)) := by rw [hW]; exact heap_alloc_new w _
 have hLW : Left p r r 131072 w W := by rw [hW]; exact (Left.refl h).alloc _
 obtain ⟨_, c1, _, f1⟩ := hLW.2.1.cells
 have HQ : Hid (pV 0 r = none) := Lib.hid rfl
 rw [hW] at c1 f1
 clear h hE
 have k3 := kW
 have hL3 := hLW
 clear kW hLW
 rw [hW] at k3 hL3
 clear hW
 go_enter Tryz.func21, Tryz.ntmps21
 obtain ⟨e0, e1, e2, e3, e4, e5, e6⟩ := cells7 k3
 obtain ⟨z0, z1, z2, z3, z4, z5, z6⟩ := frozen7 k3
 have HL3 := Lib.hid hL3
 clear k3 hL3
 go_wp2
 refine bodyPost_ret (v := .tuple #[.agg #[.int .i64 0, .int .i64 0, .string ⟨#[]⟩, .slice none 0 0, .slice none 0 0, .slice none 0 0, .slice none 0 0], .bool false]) (by simp [results, Tryz.results21, go_sem, e0, e1, e2, e3, e4, e5, e6]) rfl ?_
 exact valPost_no HQ.out HL3.out
theorem value_item5 (B p : Nat) (hBp : B ≤ p) : ∀ (n : Nat) (d : Int), d = 131072 - (n : Int) → n ≤ 131072 → ValI B (kN5 n) p d (pV n)
 | 0, d, hd, _ => by rw [show d = 131072 by omega]; exact value_zero5 B _ p
 | n + 1, d, hd, hn => value_step5 B n p hBp d (by omega) (by omega) (Lib.hid (value_item5 B p hBp n (d + 1) (by omega) (by omega)))
def ParPost (o : Option Vl) (w : World) (e : Ending) (w' : World) : Prop :=
 Below w.heap.size w w' ∧ ((o = none ∧ e = .returned (.tuple #[.agg #[.int .i64 0, .int .i64 0, .string ⟨#[]⟩, .slice none 0 0, .slice none 0 0, .slice none 0 0, .slice none 0 0], .int .i64 5])) ∨
  ∃ v a i s A1 n1 c1 A2 n2 c2 A3 n3 c3 A4 n4 c4, o = some v ∧ e = .returned (.tuple #[.agg #[.int .i64 a, .int .i64 i, .string s, .slice A1 n1 c1, .slice A2 n2 c2, .slice A3 n3 c3, .slice A4 n4 c4], .int .i64 0]) ∧ VB (kN5 131072) w' (Btw w.heap.size w'.heap.size) v [.int .i64 a, .int .i64 i, .string s, .slice A1 n1 c1, .slice A2 n2 c2, .slice A3 n3 c3, .slice A4 n4 c4])
set_option maxRecDepth 100000 in
set_option maxHeartbeats 3200000 in
theorem parse_any5 (B : Nat) (s0 : Bs) (w : World) (hs : s0.length ≤ limP) (hB : B ≤ w.heap.size) (hE : EnvH B w) : Calls Tryz.prog 12 #[.string ⟨s0.toArray⟩] w (ParPost (parseV 131072 s0) w) := by
 obtain ⟨W, hW⟩ : ∃ W, W = (w.alloc (.cells #[.int .i64 0, .int .i64 0, .string ⟨#[]⟩, .slice none 0 0, .slice none 0 0, .slice none 0 0, .slice none 0 0] 27)).alloc (.cells #[.string ⟨s0.toArray⟩, .int .i64 0] 60) := ⟨_, rfl⟩
 have hbW : Below w.heap.size w W := by rw [hW]; exact ((Below.refl _ _).alloc (Nat.le_refl _) _).alloc (by simp) _
 have hsW : W.heap.size = w.heap.size + 2 := by rw [hW]; simp
 have kW : W.heap[w.heap.size]? = some (.cells #[.int .i64 0, .int .i64 0, .string ⟨#[]⟩, .slice none 0 0, .slice none 0 0, .slice none 0 0, .slice none 0 0] 27 (0, 0)) := by rw [hW]; exact (Below.heap_alloc _ _ _ (by simp)).trans (heap_alloc_new w _)
 have hPW : PrsW (w.heap.size + 1) s0 0 W := by rw [hW]; exact new_at' _ (by simp)
 have hv := value_item5 B (w.heap.size + 1) (by omega) 131072 0 (by decide) (Nat.le_refl _) s0 W hPW hs (hE.below (hbW.mono hB))
 have hne : w.heap.size ≠ w.heap.size + 1 := by omega
 have HW := Lib.hid (And.intro hbW hsW)
 have HKW := Lib.hid kW
 clear hPW kW hbW hsW hE
 have hpo : parseV 131072 s0 = match pV 131072 s0 with | none => none | some (v, r) => if r = [] ∧ okV v = true then some v else none := rfl
 generalize pV 131072 s0 = o at hv hpo
 generalize parseV 131072 s0 = oo at hpo ⊢
 cases o with
 | none =>
  have HQ : Hid (oo = none) := Lib.hid hpo
  clear hpo
  go_enter Tryz.func12, Tryz.ntmps12
  go_wp2_with fail
  rw [← hW]
  clear hW
  refine hv.mono ?_
  rintro e w2 ⟨a, i, s, A1, n1, c1, A2, n2, c2, A3, n3, c3, A4, n4, c4, q, rfl, hL2', hres⟩
  clear hv hres
  have k2 := hL2'.box HKW.out hne
  have k3 := (Below.heap_alloc w2 (.cells #[.int .i64 a, .int .i64 i, .string s, .slice A1 n1 c1, .slice A2 n2 c2, .slice A3 n3 c3, .slice A4 n4 c4] 27) _ (Array.getElem?_eq_some_iff.1 k2).1).trans k2
  have hb3 : Below w.heap.size w (w2.alloc (.cells #[.int .i64 a, .int .i64 i, .string s, .slice A1 n1 c1, .slice A2 n2 c2, .slice A3 n3 c3, .slice A4 n4 c4] 27)) := (HW.out.1.trans (hL2'.1.below.mono (by omega))).alloc (by have := (Array.getElem?_eq_some_iff.1 k2).1; omega) _
  clear hL2' k2
  obtain ⟨e0, e1, e2, e3, e4, e5, e6⟩ := cells7 k3
  obtain ⟨z0, z1, z2, z3, z4, z5, z6⟩ := frozen7 k3
  have HK3 := Lib.hid k3
  have HB3 := Lib.hid hb3
  clear k3 hb3
  go_wp2
  obtain ⟨V, hV⟩ : ∃ V, V = ((((((((w2.alloc (.cells #[.int .i64 a, .int .i64 i, .string s, .slice A1 n1 c1, .slice A2 n2 c2, .slice A3 n3 c3, .slice A4 n4 c4] 27)).setCell ⟨w.heap.size, 0, none⟩ (.int .i64 0)).setCell ⟨w.heap.size, 1, none⟩ (.int .i64 0)).setCell ⟨w.heap.size, 2, none⟩ (.string ⟨#[]⟩)).setCell ⟨w.heap.size, 3, none⟩ (.slice none 0 0)).setCell ⟨w.heap.size, 4, none⟩ (.slice none 0 0)).setCell ⟨w.heap.size, 5, none⟩ (.slice none 0 0)).setCell ⟨w.heap.size, 6, none⟩ (.slice none 0 0)) := ⟨_, rfl⟩
  rw [← hV]
  obtain ⟨hBV, hob, hszV, hsm⟩ := boxB7 HK3.out (Nat.le_refl _) HB3.out (.int .i64 0) (.int .i64 0) (.string ⟨#[]⟩) (.slice none 0 0) (.slice none 0 0) (.slice none 0 0) (.slice none 0 0) V hV
  clear hV e0 e1 e2 e3 e4 e5 e6 z0 z1 z2 z3 z4 z5 z6
  obtain ⟨ps0, ps1, ps2, ps3, ps4, ps5, ps6⟩ := cells7 hob
  refine bodyPost_ret (v := .tuple #[.agg #[.int .i64 0, .int .i64 0, .string ⟨#[]⟩, .slice none 0 0, .slice none 0 0, .slice none 0 0, .slice none 0 0], .int .i64 5]) (by simp [results, Tryz.results12, go_sem, ps0, ps1, ps2, ps3, ps4, ps5, ps6]) rfl ?_
  exact ⟨hBV, .inl ⟨HQ.out, rfl⟩⟩
 | some vq =>
  obtain ⟨v, q0⟩ := vq
  have HPO := Lib.hid hpo
  clear hpo
  go_enter Tryz.func12, Tryz.ntmps12
  go_wp2_with fail
  rw [← hW]
  clear hW
  refine hv.mono ?_
  rintro e w2 ⟨a, i, s, A1, n1, c1, A2, n2, c2, A3, n3, c3, A4, n4, c4, q, rfl, hL2', hres⟩
  clear hv
  obtain ⟨rfl, hvb⟩ := hres _ _ rfl
  clear hres
  obtain ⟨w3, hw3⟩ : ∃ w3, w3 = w2.alloc (.cells #[.int .i64 a, .int .i64 i, .string s, .slice A1 n1 c1, .slice A2 n2 c2, .slice A3 n3 c3, .slice A4 n4 c4] 27) := ⟨_, rfl⟩
  have k2 := hL2'.box HKW.out hne
  have k3 : w3.heap[w.heap.size]? = some (.cells #[.int .i64 0, .int .i64 0, .string ⟨#[]⟩, .slice none 0 0, .slice none 0 0, .slice none 0 0, .slice none 0 0] 27 (0, 0)) := by rw [hw3]; exact (Below.heap_alloc w2 _ _ (Array.getElem?_eq_some_iff.1 k2).1).trans k2
  have y3 : w3.heap[w2.heap.size]? = some (.cells #[.int .i64 a, .int .i64 i, .string s, .slice A1 n1 c1, .slice A2 n2 c2, .slice A3 n3 c3, .slice A4 n4 c4] 27 (0, 0)) := by rw [hw3]; exact heap_alloc_new w2 _
  have hb3 : Below w.heap.size w w3 := by rw [hw3]; exact (HW.out.1.trans (hL2'.1.below.mono (by omega))).alloc (by have := (Array.getElem?_eq_some_iff.1 k2).1; omega) _
  have hb23 : Below w2.heap.size w2 w3 := by rw [hw3]; exact (Below.refl _ _).alloc (Nat.le_refl _) _
  have hs3 : w3.heap.size = w2.heap.size + 1 := by rw [hw3]; simp
  obtain ⟨p0, _, _, _⟩ := ((hL2'.below hb23).2.1).cells
  have hs2 := hL2'.size
  have hs0 := HW.out.2
  clear hL2' k2
  by_cases hq : q = []
  ·
   subst hq
   have hvb3 : VB (kN5 131072) w3 (Btw W.heap.size w2.heap.size) v [.int .i64 a, .int .i64 i, .string s, .slice A1 n1 c1, .slice A2 n2 c2, .slice A3 n3 c3, .slice A4 n4 c4] := VB.keep (Same.of_below hb23 fun b hb => hb.2) hvb
   have hva := validate_any (kN5 131072) v [.int .i64 a, .int .i64 i, .string s, .slice A1 n1 c1, .slice A2 n2 c2, .slice A3 n3 c3, .slice A4 n4 c4] w3 (VB.sub (fun b hb => by have := hb.2; omega) (Nat.le_refl _) hvb3)
   cases hok : okV v with
   | false =>
    rw [hok] at hva
    have HQ : Hid (oo = none) := Lib.hid (HPO.out.trans (by simp [hok]))
    have HB := Lib.hid hb3
    have HK := Lib.hid k3
    rw [hw3] at p0
    clear hvb hvb3 hb23 hok hb3 k3 y3
    go_wp2_with fail
    rw [← hw3]
    clear hw3 p0
    refine hva.mono ?_
    rintro e w4 ⟨rfl, hb4⟩
    clear hva
    have k4 := (hb4.block _ (by omega)).trans HK.out
    have hb4' := HB.out.trans (hb4.mono (by omega))
    clear hb4
    obtain ⟨e0, e1, e2, e3, e4, e5, e6⟩ := cells7 k4
    obtain ⟨z0, z1, z2, z3, z4, z5, z6⟩ := frozen7 k4
    have HK3 := Lib.hid k4
    have HB3 := Lib.hid hb4'
    clear k4 hb4'
    go_wp2
    obtain ⟨V, hV⟩ : ∃ V, V = (((((((w4.setCell ⟨w.heap.size, 0, none⟩ (.int .i64 0)).setCell ⟨w.heap.size, 1, none⟩ (.int .i64 0)).setCell ⟨w.heap.size, 2, none⟩ (.string ⟨#[]⟩)).setCell ⟨w.heap.size, 3, none⟩ (.slice none 0 0)).setCell ⟨w.heap.size, 4, none⟩ (.slice none 0 0)).setCell ⟨w.heap.size, 5, none⟩ (.slice none 0 0)).setCell ⟨w.heap.size, 6, none⟩ (.slice none 0 0)) := ⟨_, rfl⟩
    rw [← hV]
    obtain ⟨hBV, hob, hszV, hsm⟩ := boxB7 HK3.out (Nat.le_refl _) HB3.out (.int .i64 0) (.int .i64 0) (.string ⟨#[]⟩) (.slice none 0 0) (.slice none 0 0) (.slice none 0 0) (.slice none 0 0) V hV
    clear hV e0 e1 e2 e3 e4 e5 e6 z0 z1 z2 z3 z4 z5 z6
    obtain ⟨ps0, ps1, ps2, ps3, ps4, ps5, ps6⟩ := cells7 hob
    refine bodyPost_ret (v := .tuple #[.agg #[.int .i64 0, .int .i64 0, .string ⟨#[]⟩, .slice none 0 0, .slice none 0 0, .slice none 0 0, .slice none 0 0], .int .i64 5]) (by simp [results, Tryz.results12, go_sem, ps0, ps1, ps2, ps3, ps4, ps5, ps6]) rfl ?_
    exact ⟨hBV, .inl ⟨HQ.out, rfl⟩⟩
   | true =>
    rw [hok] at hva
    have HQ : Hid (oo = some v) := Lib.hid (HPO.out.trans (by simp [hok]))
    have HB := Lib.hid hb3
    have HK := Lib.hid k3
    have HY := Lib.hid y3
    have HV := Lib.hid hvb3
    rw [hw3] at p0
    clear hvb hvb3 hb23 hok hb3 k3 y3
    go_wp2_with fail
    rw [← hw3]
    clear hw3 p0
    refine hva.mono ?_
    rintro e w4 ⟨rfl, hb4⟩
    clear hva
    have k4 := (hb4.block _ (by omega)).trans HK.out
    have y4 := (hb4.block _ (by omega)).trans HY.out
    have hb4' := HB.out.trans (hb4.mono (by omega))
    have HSM := Lib.hid (Same.of_below hb4 (B := Btw W.heap.size w2.heap.size) fun b hb => by have := hb.2; omega)
    have HS4 := Lib.hid hb4.size
    obtain ⟨x0, x1, x2, x3, x4, x5, x6⟩ := cells7 y4
    clear hb4 y4
    obtain ⟨e0, e1, e2, e3, e4, e5, e6⟩ := cells7 k4
    obtain ⟨z0, z1, z2, z3, z4, z5, z6⟩ := frozen7 k4
    have HK3 := Lib.hid k4
    have HB3 := Lib.hid hb4'
    clear k4 hb4'
    go_wp2
    obtain ⟨V, hV⟩ : ∃ V, V = (((((((w4.setCell ⟨w.heap.size, 0, none⟩ (.int .i64 a)).setCell ⟨w.heap.size, 1, none⟩ (.int .i64 i)).setCell ⟨w.heap.size, 2, none⟩ (.string s)).setCell ⟨w.heap.size, 3, none⟩ (.slice A1 n1 c1)).setCell ⟨w.heap.size, 4, none⟩ (.slice A2 n2 c2)).setCell ⟨w.heap.size, 5, none⟩ (.slice A3 n3 c3)).setCell ⟨w.heap.size, 6, none⟩ (.slice A4 n4 c4)) := ⟨_, rfl⟩
    rw [← hV]
    obtain ⟨hBV, hob, hszV, hsm⟩ := boxB7 HK3.out (Nat.le_refl _) HB3.out (.int .i64 a) (.int .i64 i) (.string s) (.slice A1 n1 c1) (.slice A2 n2 c2) (.slice A3 n3 c3) (.slice A4 n4 c4) V hV
    clear hV e0 e1 e2 e3 e4 e5 e6 z0 z1 z2 z3 z4 z5 z6
    obtain ⟨ps0, ps1, ps2, ps3, ps4, ps5, ps6⟩ := cells7 hob
    refine bodyPost_ret (v := .tuple #[.agg #[.int .i64 a, .int .i64 i, .string s, .slice A1 n1 c1, .slice A2 n2 c2, .slice A3 n3 c3, .slice A4 n4 c4], .int .i64 0]) (by simp [results, Tryz.results12, go_sem, ps0, ps1, ps2, ps3, ps4, ps5, ps6]) rfl ?_
    have hs4 := HS4.out
    exact ⟨hBV, .inr ⟨v, _, _, _, _, _, _, _, _, _, _, _, _, _, _, _, HQ.out, rfl, VB.sub (fun b hb => ⟨by have := hb.1; omega, by have := hb.2; omega⟩) (Nat.le_refl _) (VB.keep (HSM.out.trans (hsm _ (fun h => by have := h.1; omega))) HV.out)⟩⟩
  ·
   have HQ : Hid (oo = none) := Lib.hid (HPO.out.trans (by simp [hq]))
   obtain ⟨c, q1, rfl⟩ : ∃ c q1, q = c :: q1 := by
    cases q with
    | nil => exact absurd rfl hq
    | cons c q1 => exact ⟨c, q1, rfl⟩
   have hne2 : ¬ (⟨(c :: q1).toArray⟩ : ByteArray) = ⟨#[]⟩ := by
    intro e
    have := congrArg (fun b => b.data.toList) e
    cases this
   rw [hw3] at p0 k3 hb3
   clear hw3 hvb hb23 y3 hs3
   obtain ⟨e0, e1, e2, e3, e4, e5, e6⟩ := cells7 k3
   obtain ⟨z0, z1, z2, z3, z4, z5, z6⟩ := frozen7 k3
   have HK3 := Lib.hid k3
   have HB3 := Lib.hid hb3
   clear k3 hb3
   go_wp2
   obtain ⟨V, hV⟩ : ∃ V, V = ((((((((w2.alloc (.cells #[.int .i64 a, .int .i64 i, .string s, .slice A1 n1 c1, .slice A2 n2 c2, .slice A3 n3 c3, .slice A4 n4 c4] 27)).setCell ⟨w.heap.size, 0, none⟩ (.int .i64 0)).setCell ⟨w.heap.size, 1, none⟩ (.int .i64 0)).setCell ⟨w.heap.size, 2, none⟩ (.string ⟨#[]⟩)).setCell ⟨w.heap.size, 3, none⟩ (.slice none 0 0)).setCell ⟨w.heap.size, 4, none⟩ (.slice none 0 0)).setCell ⟨w.heap.size, 5, none⟩ (.slice none 0 0)).setCell ⟨w.heap.size, 6, none⟩ (.slice none 0 0)) := ⟨_, rfl⟩
   rw [← hV]
   obtain ⟨hBV, hob, hszV, hsm⟩ := boxB7 HK3.out (Nat.le_refl _) HB3.out (.int .i64 0) (.int .i64 0) (.string ⟨#[]⟩) (.slice none 0 0) (.slice none 0 0) (.slice none 0 0) (.slice none 0 0) V hV
   clear hV e0 e1 e2 e3 e4 e5 e6 z0 z1 z2 z3 z4 z5 z6
   obtain ⟨ps0, ps1, ps2, ps3, ps4, ps5, ps6⟩ := cells7 hob
   refine bodyPost_ret (v := .tuple #[.agg #[.int .i64 0, .int .i64 0, .string ⟨#[]⟩, .slice none 0 0, .slice none 0 0, .slice none 0 0, .slice none 0 0], .int .i64 5]) (by simp [results, Tryz.results12, go_sem, ps0, ps1, ps2, ps3, ps4, ps5, ps6]) rfl ?_
   exact ⟨hBV, .inl ⟨HQ.out, rfl⟩⟩
end Go.Proofs.YtcjgaohblaidjaaGreatDoor
