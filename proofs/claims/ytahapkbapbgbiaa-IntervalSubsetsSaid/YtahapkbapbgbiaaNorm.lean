/- What Normalize returns: the normal form of the set. Condition: at most 10^9 ranges. -/
import Derived.Test.YtahapkbapbgbiaaSort
import Derived.Deep.RegionHeld3
import Derived.StillTailTactics
namespace Go.Proofs.Ytahapkbapbgbiaa
open Go.RowKit
theorem hasI_perm {a b : List Rg} (h : a.Perm b) (n : Int) : hasI a n ↔ hasI b n := by
  unfold hasI
  constructor
  · rintro ⟨r, hr, h1⟩; exact ⟨r, h.mem_iff.1 hr, h1⟩
  · rintro ⟨r, hr, h1⟩; exact ⟨r, h.mem_iff.2 hr, h1⟩
theorem hasI_filter (l : List Rg) (n : Int) : hasI (l.filter neB) n ↔ hasI l n := by
  unfold hasI
  constructor
  · rintro ⟨r, hr, h1⟩; exact ⟨r, (List.mem_filter.1 hr).1, h1⟩
  · rintro ⟨r, hr, h1⟩
    refine ⟨r, List.mem_filter.2 ⟨hr, ?_⟩, h1⟩
    unfold inR at h1
    simp [neB, emptyB]
    omega
theorem hasI_take_succ {l : List Rg} {k : Nat} {r : Rg} (h : l[k]? = some r) (n : Int) : hasI (l.take (k + 1)) n ↔ hasI (l.take k) n ∨ inR r n := by
  rw [List.take_add_one, h]
  exact hasI_snoc _ _ _
/-- the merged list after k ranges of the sorted list -/
structure NormInv (ts M : List Rg) (k : Nat) : Prop where
  nf : Nf M
  mem : ∀ n, hasI M n ↔ hasI (ts.take k) n
  low : ∀ (x r : Rg) (j : Nat), x ∈ M → k ≤ j → ts[j]? = some r → x.1 ≤ r.1
  fit : Fit M
  len : M.length ≤ k
theorem NormInv.start (ts : List Rg) : NormInv ts [] 0 := ⟨nf_nil, fun n => by simp [hasI], by simp, by simp [Fit], Nat.le_refl _⟩
theorem NormInv.add {ts M : List Rg} {k : Nat} {r : Rg} (h : NormInv ts M k) (hr : ts[k]? = some r) (hf : Fit1 r) (ha : Asc ts) (hne : r.1 ≤ r.2) (hg : ∀ x ∈ M, x.2 + 1 < r.1) : NormInv ts (M ++ [r]) (k + 1) :=
  ⟨nf_snoc h.nf hne hg, fun n => by rw [hasI_snoc, hasI_take_succ hr, h.mem], fun x y j hx hj hy => by
    rcases List.mem_append.1 hx with hx | hx
    · exact h.low x y j hx (by omega) hy
    · rw [List.mem_singleton.1 hx]; exact ha k j r y (by omega) hr hy, fun x hx => by
    rcases List.mem_append.1 hx with hx | hx
    · exact h.fit x hx
    · rw [List.mem_singleton.1 hx]; exact hf, by have := h.len; simp; omega⟩
theorem NormInv.first {ts : List Rg} {k : Nat} {r : Rg} (h : NormInv ts [] k) (hr : ts[k]? = some r) (hf : Fit1 r) (ha : Asc ts) (hne : r.1 ≤ r.2) : NormInv ts [r] (k + 1) := h.add hr hf ha hne (by simp)
theorem NormInv.gap {ts M : List Rg} {k : Nat} {x r : Rg} (h : NormInv ts (M ++ [x]) k) (hr : ts[k]? = some r) (hf : Fit1 r) (ha : Asc ts) (hne : r.1 ≤ r.2) (hg : x.2 + 1 < r.1) : NormInv ts (M ++ [x] ++ [r]) (k + 1) := by
  refine h.add hr hf ha hne ?_
  obtain ⟨a, b, c⟩ := nf_snoc_inv h.nf
  intro y hy
  rcases List.mem_append.1 hy with hy | hy
  · have := c y hy; omega
  · rw [List.mem_singleton.1 hy]; exact hg
theorem NormInv.merge {ts M : List Rg} {k : Nat} {x r : Rg} (h : NormInv ts (M ++ [x]) k) (hr : ts[k]? = some r) (hf : Fit1 r) (hne : r.1 ≤ r.2) (hg : ¬ x.2 + 1 < r.1) : NormInv ts (M ++ [(x.1, max x.2 r.2)]) (k + 1) := by
  have hl := h.low x r k (by simp) (Nat.le_refl _) hr
  obtain ⟨h1, h2⟩ := nf_merge h.nf hl (by omega) hne
  refine ⟨h1, fun n => by rw [h2, hasI_take_succ hr, h.mem], ?_, ?_, by have := h.len; simp at this ⊢; omega⟩
  · intro y z j hy hj hz
    rcases List.mem_append.1 hy with hy | hy
    · exact h.low y z j (List.mem_append_left _ hy) (by omega) hz
    · rw [List.mem_singleton.1 hy]; exact h.low x z j (by simp) (by omega) hz
  · intro y hy
    rcases List.mem_append.1 hy with hy | hy
    · exact h.fit y (List.mem_append_left _ hy)
    · rw [List.mem_singleton.1 hy]
      have hx := h.fit x (by simp)
      unfold Fit1 at hx hf ⊢
      simp only
      omega
theorem heldNormN {wr wq w' : World} {g i H : Nat} {a b c d : Value} (hH : H = wr.heap.size) (hg : g < wr.heap.size) (hb : Below wq.heap.size wq w') (h : wq.cell? ⟨H, 0, none⟩ = some a ∧ wq.cell? ⟨H, 1, none⟩ = some b ∧ wq.cell? ⟨g, i, none⟩ = some c ∧ wq.cell? ⟨g, i + 1, none⟩ = some d ∧ H < wq.heap.size ∧ Below wr.heap.size wr wq) :
    w'.cell? ⟨H, 0, none⟩ = some a ∧ w'.cell? ⟨H, 1, none⟩ = some b ∧ w'.cell? ⟨g, i, none⟩ = some c ∧ w'.cell? ⟨g, i + 1, none⟩ = some d ∧ H < w'.heap.size ∧ Below wr.heap.size wr w' :=
  have hs := hb.size
  have hz := h.2.2.2.2.2.size
  have hl := h.2.2.2.2.1
  ⟨(hb.cell (p := ⟨H, 0, none⟩) hl).trans h.1, (hb.cell (p := ⟨H, 1, none⟩) hl).trans h.2.1, (hb.cell (p := ⟨g, i, none⟩) (by show g < _; omega)).trans h.2.2.1, (hb.cell (p := ⟨g, i + 1, none⟩) (by show g < _; omega)).trans h.2.2.2.1, by omega, h.2.2.2.2.2.trans (hb.mono (by omega))⟩
theorem snoc_cases (l : List Rg) : l = [] ∨ ∃ (m : List Rg) (x : Rg), l = m ++ [x] := by
  rcases List.eq_nil_or_concat l with h | ⟨m, x, h⟩
  · exact .inl h
  · exact .inr ⟨m, x, by rw [h, List.concat_eq_append]⟩
theorem last_at (M : List Rg) (x : Rg) (nm : Nat) (h : nm = (M ++ [x]).length) : (M ++ [x])[nm - 1]? = some x := by
  have : nm - 1 = M.length := by simp at h; omega
  rw [this]; simp
theorem set_last (M : List Rg) (x y : Rg) (nm : Nat) (h : nm = (M ++ [x]).length) : (M ++ [x]).set (nm - 1) y = M ++ [y] := by
  have : nm - 1 = M.length := by simp at h; omega
  rw [this]; simp
set_option maxRecDepth 100000 in
set_option maxHeartbeats 6400000 in
theorem normalize_any (A : Option Addr) (n cap : Nat) (rs : List Rg) (w : World) (hR : RngS w w.heap.size A n rs) (hn : n ≤ 1000000) :
    Calls Try.prog 9 #[.slice A n cap] w fun e w' => ∃ m, m = nfOf (hasI rs) ∧ Nf m ∧ (∀ x, hasI m x ↔ hasI rs x) ∧ m.length ≤ n ∧ RetR m w e w' := by
  have hfit := hR.2.1
  have hlen := hR.1
  have hc1 := clone_any A n cap rs w _ hR (by omega)
  have HF := Lib.hid hfit
  have HL := Lib.hid hlen
  clear hfit hlen hR
  go_enter Try.func9, Try.ntmps9
  go_wp2_with (go_at_call 26; refine hc1.mono ?_; rintro e w1 ⟨v1, rfl, ho1, hb1⟩; refine Hid.out ?_)
  refine Lib.hid ?_
  clear hc1
  have hs1 := hb1.size
  have hd := deleteFunc_any v1 rs w1 w.heap.size ho1 HF.out hs1 (by have := HL.out; omega)
  have HO1 := Lib.hid ho1
  clear ho1
  go_wp2_with (go_at_call 25; refine hd.mono ?_; rintro e w2 ⟨v2, rfl, ho2, hb2⟩; refine Hid.out ?_)
  refine Lib.hid ?_
  clear hd
  have hs2 := hb2.size
  have hle : (rs.filter neB).length ≤ n := by rw [HL.out]; exact List.length_filter_le _ _
  have hst := sort_any v2 (rs.filter neB) w2 w.heap.size ho2 (by omega) (by omega)
  have HO2 := Lib.hid ho2
  clear ho2
  go_wp2_with (go_at_call 28; refine hst.mono ?_; rintro e w3 ⟨rfl, ts, hperm, hasc, ho3, hb3⟩; refine Hid.out ?_)
  refine Lib.hid ?_
  obtain ⟨A2, c2, rfl⟩ := ho3.form
  have hfit3 : Fit ts := fun r hr => HF.out r (List.mem_filter.1 (hperm.mem_iff.1 hr)).1
  have hne3 : ∀ r ∈ ts, r.1 ≤ r.2 := fun r hr => by
    have := (List.mem_filter.1 (hperm.mem_iff.1 hr)).2
    simp [neB, emptyB] at this; omega
  have hS := ho3.rng hfit3
  have hb03 : Below w.heap.size w w3 := (hb1.trans hb2).trans hb3
  have hmem3 : ∀ x, hasI ts x ↔ hasI rs x := fun x => (hasI_perm hperm x).trans (hasI_filter rs x)
  have hln : ts.length ≤ n := by rw [hperm.length_eq]; exact hle
  obtain ⟨n2, hn2⟩ : ∃ n2, n2 = ts.length := ⟨_, rfl⟩
  rw [← hn2] at hS hln ⊢
  have HS := Lib.hid hS
  have HA := Lib.hid hasc
  have HNE := Lib.hid hne3
  have HMEM := Lib.hid hmem3
  have HN2 := Lib.hid hn2
  have HB3 := Lib.hid hb03
  have hs3 := hb3.size
  clear hS hasc hne3 hmem3 hn2 hb03 ho3 hperm hst hb3 hb2 hb1 hfit3
  go_wp2
  go_loopw [4, 6, 7, 15] (fun vm _ _ i wr => ∃ (k : Nat) (M : List Rg), i = .int .i64 k ∧ k ≤ n2 ∧ NormInv ts M k ∧ OwnR wr w3.heap.size vm M ∧ Below w3.heap.size w3 wr) (fun _ _ _ i _ => n2 - (intOf i).toNat)
  case atStart => exact ⟨0, [], rfl, by omega, NormInv.start _, OwnR.nil _ _, Below.refl _ _⟩
  case round =>
    obtain ⟨k, M, rfl, hk, hI, hM, hbw⟩ := hrel
    have HI := Lib.hid hI
    have HM := Lib.hid hM
    have hsw := hbw.size
    have hMl := hI.len
    clear hI hM
    by_cases hkn : k < n2
    · obtain ⟨b, off, r1, r2, rfl, hbl, hx, hf, c1, c2⟩ := (HS.out.below hbw).at hkn
      have HX := Lib.hid hx
      have HFX := Lib.hid hf
      have HNX := Lib.hid (HNE.out _ (List.mem_of_getElem? hx))
      clear hx hf
      have hbA : Below wr.heap.size wr (wr.alloc (.cells #[.int .i64 r1, .int .i64 r2] 35)) := (Below.refl _ _).alloc (Nat.le_refl _) _
      rcases snoc_cases M with rfl | ⟨M', x, rfl⟩
      · obtain ⟨A3, c3, rfl⟩ := HM.out.form
        have HQ : Hid (∀ q, OwnR ((wr.alloc (.cells #[.int .i64 r1, .int .i64 r2] 35)).drewN q) w3.heap.size (.slice A3 0 c3) []) := Lib.hid (fun q => (HM.out.old hbA).drewN q)
        have HB : Hid (∀ q, Below w3.heap.size w3 ((wr.alloc (.cells #[.int .i64 r1, .int .i64 r2] 35)).drewN q)) := Lib.hid (fun q => below_drewN (hbw.trans (hbA.mono hsw)) q)
        go_wp2_with fail
        go_quiet (fail)
        go_wp2_with (at_builtin; (refine wp_app_rH rfl _ _ rfl w3.heap.size _ _ rfl (HQ.out _) [(r1, r2)] 1 1 rfl _ rfl _ (by simp) rfl (by simp) (by simp; omega) ?_); intro v' w4 hown' hb4; refine Hid.out ?_)
        refine Lib.hid ?_
        go_wp2
        go_roundw
        case rel => exact ⟨k + 1, [(r1, r2)], by go_num, by omega, HI.out.first HX.out HFX.out HA.out HNX.out, hown', (HB.out _).trans hb4⟩
        case measure => simp [intOf]; omega
      · obtain ⟨x1, x2⟩ := x
        obtain ⟨g, c3, rfl, hBg, hgs, hlc⟩ := HM.out.formG (by simp)
        obtain ⟨nm, hnm⟩ : ∃ nm, nm = (M' ++ [(x1, x2)]).length := ⟨_, rfl⟩
        have hnm1 : 1 ≤ nm := by rw [hnm]; simp
        have hnmk : nm ≤ k := by omega
        have HNM := Lib.hid hnm
        have HFY := Lib.hid (HI.out.fit (x1, x2) (by simp))
        rw [← hnm] at HM hlc ⊢
        clear hnm hMl
        have d1 := HM.out.lo HNM.out.symm (last_at _ _ _ HNM.out)
        have d2 := HM.out.hi HNM.out.symm (last_at _ _ _ HNM.out)
        simp only at d1 d2
        have i1 : IntKind.i64.wrap ((nm : Int) - 1) = (nm : Int) - 1 := IntWalk.i64_in _ (by omega)
        have i2 : (1 : Int) ≤ (nm : Int) := by omega
        have i3 : ((nm : Int) - 1).toNat = nm - 1 := by omega
        have i4 : (nm : Int) - 1 < (nm : Int) := by omega
        have q2 : decide (0 < nm) = true := by simp; omega
        have HST : Hid (∀ q, ((wr.alloc (.cells #[.int .i64 r1, .int .i64 r2] 35)).drewN q).cell? ⟨wr.heap.size, 0, none⟩ = some (.int .i64 r1) ∧ ((wr.alloc (.cells #[.int .i64 r1, .int .i64 r2] 35)).drewN q).cell? ⟨wr.heap.size, 1, none⟩ = some (.int .i64 r2) ∧ ((wr.alloc (.cells #[.int .i64 r1, .int .i64 r2] 35)).drewN q).cell? ⟨g, (nm - 1) * 2, none⟩ = some (.int .i64 x1) ∧ ((wr.alloc (.cells #[.int .i64 r1, .int .i64 r2] 35)).drewN q).cell? ⟨g, (nm - 1) * 2 + 1, none⟩ = some (.int .i64 x2) ∧ wr.heap.size < ((wr.alloc (.cells #[.int .i64 r1, .int .i64 r2] 35)).drewN q).heap.size ∧ Below wr.heap.size wr ((wr.alloc (.cells #[.int .i64 r1, .int .i64 r2] 35)).drewN q)) := Lib.hid (fun q => by
          have hbq := below_drewN hbA q
          refine ⟨by simp, by simp, (hbq.cell (p := ⟨g, (nm - 1) * 2, none⟩) hgs).trans d1, (hbq.cell (p := ⟨g, (nm - 1) * 2 + 1, none⟩) hgs).trans d2, by simp, hbq⟩)
        have hm := fun w => isGap_any x1 x2 r1 r2 w HFY.out HFX.out
        cases hgp : gapB (x1, x2) (r1, r2)
        · rw [hgp] at hm
          have HG := Lib.hid hgp
          clear hgp
          go_wp2_with fail
          go_region_held3 (fun wq => wq.cell? ⟨wr.heap.size, 0, none⟩ = some (.int .i64 r1) ∧ wq.cell? ⟨wr.heap.size, 1, none⟩ = some (.int .i64 r2) ∧ wq.cell? ⟨g, (nm - 1) * 2, none⟩ = some (.int .i64 x1) ∧ wq.cell? ⟨g, (nm - 1) * 2 + 1, none⟩ = some (.int .i64 x2) ∧ wr.heap.size < wq.heap.size ∧ Below wr.heap.size wr wq) (first | exact HST.out _ | exact HST.out 0 | exact HST.out 1 | exact heldNormN rfl hgs (by assumption) (by assumption) | go_keep) (first | (go_at_call 31; refine (hm _).mono ?_; rintro e w' ⟨rfl, hb⟩))
          rename_i hSq
          obtain ⟨s1, s2, s3, s4, s5, s6⟩ := hSq
          have f1 := (HM.out.old s6).free HNM.out.symm ((nm - 1) * 2 + 1)
          have S6 := Lib.hid s6
          clear s6
          go_wp2_with fail
          go_still_tail 14, (by kernel_rfl)
          go_wp2
          go_roundw
          case rel =>
            have hO4 := (HM.out.old S6.out).setHi HNM.out.symm (nm - 1) (x1, x2) (max x2 r2) (last_at _ _ _ HNM.out)
            rw [set_last _ _ _ _ HNM.out] at hO4
            have hb4 : Below w3.heap.size w3 w' := hbw.trans (S6.out.mono hsw)
            refine ⟨k + 1, M' ++ [(x1, max x2 r2)], by go_num, by omega, HI.out.merge HX.out HFX.out HNX.out (by have := HG.out; unfold gapB at this; simpa using this), hO4.drewN 1, (hb4.setCell (p := ⟨g, (nm - 1) * 2 + 1, none⟩) hBg _).drew⟩
          case measure => simp [intOf]; omega
        · rw [hgp] at hm
          have HG := Lib.hid hgp
          clear hgp
          go_wp2_with fail
          go_region_held3 (fun wq => wq.cell? ⟨wr.heap.size, 0, none⟩ = some (.int .i64 r1) ∧ wq.cell? ⟨wr.heap.size, 1, none⟩ = some (.int .i64 r2) ∧ wq.cell? ⟨g, (nm - 1) * 2, none⟩ = some (.int .i64 x1) ∧ wq.cell? ⟨g, (nm - 1) * 2 + 1, none⟩ = some (.int .i64 x2) ∧ wr.heap.size < wq.heap.size ∧ Below wr.heap.size wr wq) (first | exact HST.out _ | exact HST.out 0 | exact HST.out 1 | exact heldNormN rfl hgs (by assumption) (by assumption) | go_keep) (first | (go_at_call 31; refine (hm _).mono ?_; rintro e w' ⟨rfl, hb⟩))
          rename_i hSq
          obtain ⟨s1, s2, s3, s4, s5, s6⟩ := hSq
          have hwq : w3.heap.size ≤ w'.heap.size := by have := s6.size; omega
          have S6 := Lib.hid s6
          clear s6
          go_wp2_with (at_builtin; (refine wp_app_rH rfl _ _ rfl w3.heap.size _ _ rfl (HM.out.old S6.out) [(r1, r2)] 1 1 rfl _ rfl _ rfl rfl (by have := HNM.out; omega) hwq ?_); intro v' w4 hown' hb4; refine Hid.out ?_)
          refine Lib.hid ?_
          go_wp2
          go_roundw
          case rel => exact ⟨k + 1, M' ++ [(x1, x2)] ++ [(r1, r2)], by go_num, by omega, HI.out.gap HX.out HFX.out HA.out HNX.out (by have := HG.out; unfold gapB at this; simpa using this), hown', (hbw.trans (S6.out.mono hsw)).trans hb4⟩
          case measure => simp [intOf]; omega
    · obtain rfl : k = n2 := by omega
      obtain ⟨A3, c3, rfl⟩ := HM.out.form
      have HT : Hid (∀ x, hasI M x ↔ hasI rs x) := Lib.hid (fun x => by rw [HI.out.mem, List.take_of_length_le (by have := HN2.out; omega)]; exact HMEM.out x)
      go_wp2
      go_ret
      exact ⟨M, nfOf_eq HI.out.nf HT.out, HI.out.nf, HT.out, by omega, _, _, _, rfl, HM.out.rng HI.out.fit, HB3.out.trans (hbw.mono (by omega))⟩
end Go.Proofs.Ytahapkbapbgbiaa
