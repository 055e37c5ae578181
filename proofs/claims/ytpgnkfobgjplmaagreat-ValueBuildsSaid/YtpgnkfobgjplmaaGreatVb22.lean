/- The labels of the source: at most two, in ascending order, in memory of the call's own. -/
import Derived.Test.YtpgnkfobgjplmaaGreatVb21
namespace Go.Proofs.YtpgnkfobgjplmaaGreat
open Go Go.RowKit
theorem cmpT_of_bl : ∀ {a b : List UInt8}, bl a b = true → cmpT a b < 0
  | [], [], h => by simp [bl_irrefl] at h
  | [], _ :: _, _ => by simp [cmpT]
  | _ :: _, [], h => by rw [bl_nil'] at h; cases h
  | x :: s, y :: t, h => by
    rcases (bl_cons x y s t).1 h with h' | ⟨rfl, h'⟩
    · have h1 := UInt8.lt_iff_toNat_lt.1 h'
      have h2 : cmpI (x.toNat : Int) y.toNat = -1 := by unfold cmpI; rw [if_pos (by omega)]
      simp [cmpT, h2, thn]
    · have := cmpT_of_bl h'
      have h2 : cmpI (x.toNat : Int) x.toNat = 0 := by unfold cmpI; simp
      simpa [cmpT, h2, thn] using this
theorem labelsB_srt {ss : List (List UInt8)} (h : ∀ x, x ∈ ss → LabN x) : labelsB (srt ss) = true := by
  unfold labelsB
  rw [Bool.and_eq_true, List.all_eq_true, decide_eq_true_iff]
  exact ⟨fun x hx => (h x ((srt_mem ss x).1 hx)).ok, List.Pairwise.imp (fun h => cmpT_of_bl h) (srt_asc ss)⟩
theorem OwnN.eff {p : Nat} {w w' : World} {B : Nat} {v : Value} {ss : List Strg} (h : OwnN w B v ss) (hE : Eff p w w') (hp : p < B) : OwnN w' B v ss := by
  refine ⟨h.1, ?_⟩
  rcases h.2 with hn | ⟨g, cap, cur, rfl, hB, hg, rest⟩
  · exact .inl hn
  · exact .inr ⟨g, cap, cur, rfl, hB, (hE.other g (by omega) (Array.getElem?_eq_some_iff.1 hg).1).trans hg, rest⟩
/-- what turns own blocks alone (from B on, where w ended) leaves the source as it was -/
theorem SrcOk.below3 {h p B : Nat} {w w' : World} (hs : SrcOk h p w) (hb : Below B w w') (hp : p < B) : SrcOk h p w' := by
  have hl := hs.lt
  obtain ⟨A, n, c, q, h1, h2, h3, h4, h5⟩ := hs
  exact ⟨A, n, c, q, (hb.block p hp).trans h1, h2, h3, h4, h5.on (hb.mono (by omega)) fun _ _ h => h⟩
theorem Eff.grow {p : Nat} {w w1 w2 : World} (h : Eff p w w1) (hb : Below w.heap.size w1 w2) (hp : p < w.heap.size) : Eff p w w2 :=
  ⟨h.below.trans (hb.mono (by omega)), fun b hb' hl => (hb.block b hl).trans (h.other b hb' hl)⟩
/-- what Labels hands back -/
def LabsR (h p : Nat) (w : World) (e : Ending) (w' : World) : Prop :=
  (∃ A n c, ∃ ls : List (List UInt8), e = .returned (.slice A n c) ∧ ls.length = n ∧ n ≤ 2 ∧ labelsB ls = true ∧ (∀ x, x ∈ ls → LabN x) ∧ RowB w' (Btw w.heap.size w'.heap.size) 1 (.slice A n c) n (fun j cs => ∃ x, ls[j]? = some x ∧ cs = [.string ⟨x.toArray⟩] ∧ x.length ≤ maxLen)) ∧ SrcOk h p w' ∧ Eff p w w'
theorem labs_end {h p : Nat} {w wc w9 : World} {ss : List Strg} {A : Option Addr} {c : Nat} (ha : ∀ x, x ∈ ss → LabN x) (hl : ss.length ≤ 2) (hS : SrcOk h p wc) (hE : Eff p w wc) (hlp : p < w.heap.size)
    (ho : OwnN w9 wc.heap.size (.slice A (srt ss).length c) (srt ss)) (hb : Below wc.heap.size wc w9) : LabsR h p w (.returned (.slice A (srt ss).length c)) w9 := by
  have hn : (srt ss).length ≤ 2 := Nat.le_trans (srt_len ss) hl
  have hs := hE.size
  refine ⟨⟨A, _, c, srt ss, rfl, rfl, hn, labelsB_srt ha, fun x hx => ha x ((srt_mem ss x).1 hx), ?_⟩, hS.below hb, hE.trans (Eff.of_below hb (by omega))⟩
  refine row_of_owns ho (by unfold maxLen; omega) (fun g _ h1 h2 => ⟨by omega, h2⟩) (fun j hj => ?_) (by omega)
  refine ⟨(srt ss)[j], List.getElem?_eq_getElem hj, ?_, ?_⟩
  · apply List.ext_getElem?
    intro i
    match i with
    | 0 => rw [List.getElem?_take_of_lt (by omega), List.getElem?_drop]; simp [encStr, List.getElem?_eq_getElem hj]
    | i + 1 => rw [List.getElem?_take_eq_none (by omega), List.getElem?_eq_none (by simp)]
  · have := (ha _ ((srt_mem ss _).1 (List.getElem_mem hj))).len
    unfold maxLen
    omega
set_option maxRecDepth 100000 in
set_option maxHeartbeats 3200000 in
theorem labels_src (h p : Nat) (w : World) (hS : SrcOk h p w) : Calls Tryz.prog 63 #[.pointer (some ⟨p, 0, none⟩)] w (LabsR h p w) := by
  have hlp := hS.lt
  have hc := next_any h p 3 _ hS (by omega) (by omega)
  go_enter Tryz.func63, Tryz.ntmps63
  go_wp2_with fail
  refine hc.mono ?_
  rintro e w1 ⟨j, rfl, j0, j1, hS1, hE1⟩
  have hz1 := hE1.size
  clear hc hS
  have HA := Lib.hid (And.intro hS1 hE1)
  clear hS1 hE1
  have hj : j = 0 ∨ j = 1 ∨ j = 2 := by omega
  rcases hj with rfl | rfl | rfl
  · have hT := sorted_any none 0 0 [] w1 (NmS.nil _ _ _) (by omega)
    go_wp2_with fail
    refine hT.mono ?_
    rintro e w9 ⟨A', c', rfl, ho, hb⟩
    clear hT
    have hfin := Lib.hid (labs_end (by simp) (by simp) HA.out.1 HA.out.2 hlp ho hb)
    clear ho hb
    go_wp2
    go_ret
    exact hfin.out
  · have hL := label_any h p w1 HA.out.1
    go_wp2_with fail
    refine hL.mono ?_
    rintro e w2 ⟨⟨s, rfl, hs⟩, hS2, hE2⟩
    have hz2 := hE2.size
    have HB := Lib.hid (And.intro hS2 (HA.out.2.trans hE2))
    clear hL hS2 hE2
    go_wp2_with (refine wp_app_n rfl _ _ rfl w.heap.size (.slice none 0 0) [] rfl (OwnN.nil _ _) [s] 1 1 rfl #[.string ⟨s.toArray⟩] rfl _ rfl rfl (by simp) (by omega) ?_)
    intro v3 w3 ho3 hb3
    have hz3 := hb3.size
    have hpre : SrcOk h p w3 ∧ Eff p w w3 := ⟨HB.out.1.below3 hb3 (by omega), HB.out.2.grow hb3 hlp⟩
    clear hb3
    have ho3' : OwnN w3 w.heap.size v3 [s] := ho3
    clear ho3
    obtain ⟨A3, c3, hv3⟩ : ∃ A3 c3, v3 = .slice A3 1 c3 := ho3'.form
    subst hv3
    have HC := Lib.hid hpre
    have HO := Lib.hid ho3'
    clear hpre ho3'
    have hN2 := next_any h p 2 w3 HC.out.1 (by omega) (by omega)
    go_wp2_with fail
    refine hN2.mono ?_
    rintro e w4 ⟨j, rfl, j0, j1, hS4, hE4⟩
    have hz4 := hE4.size
    have HD := Lib.hid (And.intro hS4 (And.intro (HC.out.2.trans hE4) (HO.out.eff hE4 hlp)))
    clear hN2 hS4 hE4
    have hj : j = 0 ∨ j = 1 := by omega
    rcases hj with rfl | rfl
    · have hT := sorted_any A3 1 c3 [s] w4 (HD.out.2.2.rng (by intro x hx; simp at hx; subst hx; have := hs.len; unfold maxLen; omega)) (by omega)
      go_wp2_with fail
      refine hT.mono ?_
      rintro e w9 ⟨A', c', rfl, ho, hb⟩
      clear hT
      have hfin := Lib.hid (labs_end (by intro x hx; simp at hx; subst hx; exact hs) (by simp) HD.out.1 HD.out.2.1 hlp ho hb)
      clear ho hb
      go_wp2
      go_ret
      exact hfin.out
    · have hL := label_any h p w4 HD.out.1
      go_wp2_with fail
      refine hL.mono ?_
      rintro e w5 ⟨⟨t, rfl, ht⟩, hS5, hE5⟩
      have hz5 := hE5.size
      have HF := Lib.hid (And.intro hS5 (And.intro (HD.out.2.1.trans hE5) (HD.out.2.2.eff hE5 hlp)))
      clear hL hS5 hE5
      go_wp2_with (refine wp_app_n rfl _ _ rfl w.heap.size (.slice A3 1 c3) [s] rfl HF.out.2.2 [t] 1 1 rfl #[.string ⟨t.toArray⟩] rfl _ rfl rfl (by simp) (by omega) ?_)
      intro v6 w6 ho6 hb6
      have hz6 := hb6.size
      have hlab : ∀ x, x ∈ [s, t] → LabN x := by
        intro x hx
        simp at hx
        rcases hx with rfl | rfl <;> assumption
      have hpre : SrcOk h p w6 ∧ Eff p w w6 := ⟨HF.out.1.below3 hb6 (by omega), HF.out.2.1.grow hb6 hlp⟩
      clear hb6
      have ho6' : OwnN w6 w.heap.size v6 [s, t] := ho6
      clear ho6
      obtain ⟨A6, c6, hv6⟩ : ∃ A6 c6, v6 = .slice A6 2 c6 := ho6'.form
      subst hv6
      have HG := Lib.hid (And.intro hpre ho6')
      clear hpre ho6'
      have hT := sorted_any A6 2 c6 [s, t] w6 (HG.out.2.rng (fun x hx => by have := (hlab x hx).len; unfold maxLen; omega)) (by omega)
      go_wp2_with fail
      refine hT.mono ?_
      rintro e w9 ⟨A', c', rfl, ho, hb⟩
      clear hT
      have hfin := Lib.hid (labs_end hlab (by simp) HG.out.1.1 HG.out.1.2 hlp ho hb)
      clear ho hb
      go_wp2
      go_ret
      exact hfin.out
  · have hT := sorted_any none 0 0 [] w1 (NmS.nil _ _ _) (by omega)
    go_wp2_with fail
    refine hT.mono ?_
    rintro e w9 ⟨A', c', rfl, ho, hb⟩
    clear hT
    have hfin := Lib.hid (labs_end (by simp) (by simp) HA.out.1 HA.out.2 hlp ho hb)
    clear ho hb
    go_wp2
    go_ret
    exact hfin.out
end Go.Proofs.YtpgnkfobgjplmaaGreat
