/- What the document's IntersectRanges returns: the normal form of the intersection. Condition: at most 900 ranges in each. -/
import Derived.Test.YtahapkbapbgbiaaRefNorm
import Derived.Deep.RegionHeldLaw
namespace Go.Proofs.Ytahapkbapbgbiaa
open Go.RowKit
/-- the products after i ranges of the first list and k of the second -/
structure ProdInv (rs rs' O : List Rg) (i k : Nat) : Prop where
  mem : ∀ x, hasI O x ↔ (hasI (rs.take i) x ∧ hasI rs' x) ∨ (∃ r, rs[i]? = some r ∧ inR r x ∧ hasI (rs'.take k) x)
  len : O.length ≤ i * rs'.length + k
  fit : Fit O
theorem ProdInv.start (rs rs' : List Rg) : ProdInv rs rs' [] 0 0 := ⟨fun x => by simp [hasI], by simp, by simp [Fit]⟩
theorem ProdInv.step {rs rs' O : List Rg} {i k : Nat} {r s : Rg} (h : ProdInv rs rs' O i k) (hr : rs[i]? = some r) (hs : rs'[k]? = some s) (hfr : Fit1 r) (hfs : Fit1 s) : ProdInv rs rs' (O ++ [part r s]) i (k + 1) := by
  refine ⟨fun x => ?_, by have := h.len; simp; omega, ?_⟩
  · rw [hasI_snoc, h.mem, inR_part]
    constructor
    · rintro ((a | ⟨q, a, b, c⟩) | ⟨a, b⟩)
      · exact .inl a
      · exact .inr ⟨q, a, b, (hasI_take_next hs x).2 (.inl c)⟩
      · exact .inr ⟨r, hr, a, (hasI_take_next hs x).2 (.inr b)⟩
    · rintro (a | ⟨q, a, b, c⟩)
      · exact .inl (.inl a)
      · rw [hr] at a
        injection a with a
        subst a
        rcases (hasI_take_next hs x).1 c with c | c
        · exact .inl (.inr ⟨r, hr, b, c⟩)
        · exact .inr ⟨b, c⟩
  · intro y hy
    rcases List.mem_append.1 hy with hy | hy
    · exact h.fit y hy
    · rw [List.mem_singleton.1 hy]; exact fit_part hfr hfs
theorem ProdInv.next {rs rs' O : List Rg} {i k : Nat} {r : Rg} (h : ProdInv rs rs' O i k) (hr : rs[i]? = some r) (hk : k = rs'.length) : ProdInv rs rs' O (i + 1) 0 := by
  have e : rs'.take k = rs' := List.take_of_length_le (by omega)
  refine ⟨fun x => ?_, by have := h.len; rw [Nat.add_mul]; omega, h.fit⟩
  rw [h.mem, hasI_take_next hr, e]
  constructor
  · rintro (⟨a, b⟩ | ⟨q, a, b, c⟩)
    · exact .inl ⟨.inl a, b⟩
    · rw [hr] at a
      injection a with a
      subst a
      exact .inl ⟨.inr b, c⟩
  · rintro (⟨a | a, b⟩ | ⟨q, a, b, c⟩)
    · exact .inl ⟨a, b⟩
    · exact .inr ⟨r, hr, a, b⟩
    · simp [hasI] at c
theorem ProdInv.done {rs rs' O : List Rg} {i : Nat} (h : ProdInv rs rs' O i 0) (hi : rs.length ≤ i) (x : Int) : hasI O x ↔ hasI rs x ∧ hasI rs' x := by
  rw [h.mem, List.take_of_length_le hi]
  constructor
  · rintro (a | ⟨q, _, _, c⟩)
    · exact a
    · simp [hasI] at c
  · exact .inl
set_option maxRecDepth 100000 in
set_option maxHeartbeats 6400000 in
theorem refIntersect_any (A A' : Option Addr) (n c n' c' : Nat) (rs rs' : List Rg) (w : World) (hR : RngS w w.heap.size A n rs) (hR' : RngS w w.heap.size A' n' rs') (hn : n ≤ 900) (hn' : n' ≤ 900) :
    Calls Try.prog 35 #[.slice A n c, .slice A' n' c'] w (RetN (fun x => hasI rs x ∧ hasI rs' x) 1000000 w) := by
  have HR := Lib.hid hR
  have HR' := Lib.hid hR'
  clear hR hR'
  go_enter Try.func35, Try.ntmps35
  go_wp2
  go_loopw [5, 6, 7] (fun v i _ wr => ∃ (p : Nat) (O : List Rg), i = .int .i64 p ∧ p ≤ n ∧ ProdInv rs rs' O p 0 ∧ OwnR wr w.heap.size v O ∧ Below w.heap.size w wr) (fun _ i _ _ => n - (intOf i).toNat)
  case atStart => exact ⟨0, [], rfl, by omega, ProdInv.start rs rs', OwnR.nil _ _, Below.refl _ _⟩
  case round =>
    obtain ⟨p, O, rfl, hp, hI, hO, hbw⟩ := hrel
    have HI0 := Lib.hid hI
    have HO := Lib.hid hO
    have hsw := hbw.size
    have hOl := hI.len
    clear hI hO
    obtain ⟨wo, hwo⟩ : ∃ wo : World, wo = wr := ⟨_, rfl⟩
    subst hwo
    by_cases hpn : p < n
    · obtain ⟨b, off, r1, r2, rfl, hbl, hx, hf, a1, a2⟩ := (HR.out.below hbw).at hpn
      have HX := Lib.hid hx
      have HFX := Lib.hid hf
      clear hx hf
      go_wp2
      go_loopw [5, 7] (fun v k wr => ∃ (q : Nat) (O : List Rg), k = .int .i64 q ∧ q ≤ n' ∧ ProdInv rs rs' O p q ∧ OwnR wr w.heap.size v O ∧ Below w.heap.size w wr) (fun _ k _ => n' - (intOf k).toNat)
      case atStart => exact ⟨0, O, rfl, by omega, HI0.out, HO.out, hbw⟩
      case round =>
        obtain ⟨q, O2, rfl, hq, hI2, hO2, hbw2⟩ := hrel
        have HI2 := Lib.hid hI2
        have HO2 := Lib.hid hO2
        have hsw2 := hbw2.size
        have hO2l := hI2.len
        clear hI2 hO2
        by_cases hqn : q < n'
        · obtain ⟨b', off', s1, s2, rfl, hbl', hy, hg, d1, d2⟩ := (HR'.out.below hbw2).at hqn
          have a1' : wr.cell? ⟨b, off + p * 2, none⟩ = some (.int .i64 r1) := by
            rw [hbw2.cell (p := ⟨b, off + p * 2, none⟩) hbl, ← hbw.cell (p := ⟨b, off + p * 2, none⟩) hbl]; exact a1
          have a2' : wr.cell? ⟨b, off + p * 2 + 1, none⟩ = some (.int .i64 r2) := by
            rw [hbw2.cell (p := ⟨b, off + p * 2 + 1, none⟩) hbl, ← hbw.cell (p := ⟨b, off + p * 2 + 1, none⟩) hbl]; exact a2
          have HY := Lib.hid hy
          have HFY := Lib.hid hg
          have HA1 := Lib.hid a1
          have HA2 := Lib.hid a2
          have hlen : O2.length + 1 ≤ 1000000000 := by
            have h1 : p * rs'.length ≤ 900 * 900 := Nat.mul_le_mul (by omega) (by have := HR'.out.1; omega)
            omega
          have HIN := Lib.hid (HI2.out.step HX.out HY.out HFX.out HFY.out)
          clear hy hg a1 a2
          have i1 : (0 : Int) ≤ (p : Int) := by omega
          have i2 : (p : Int) < (n : Int) := by omega
          have i3 : (0 : Int) ≤ (q : Int) := by omega
          have i4 : (q : Int) < (n' : Int) := by omega
          have j1 : b < wr.heap.size := by omega
          have j2 : b' < wr.heap.size := by omega
          have HO3 := HO2.out
          have MK : Hid (∀ wq, Below w.heap.size w wq → wq.cell? ⟨b, off + p * 2, none⟩ = some (.int .i64 r1) ∧ wq.cell? ⟨b, off + p * 2 + 1, none⟩ = some (.int .i64 r2) ∧ wq.cell? ⟨b', off' + q * 2, none⟩ = some (.int .i64 s1) ∧ wq.cell? ⟨b', off' + q * 2 + 1, none⟩ = some (.int .i64 s2) ∧ Below w.heap.size w wq) := Lib.hid (fun wq hb => ⟨by
            rw [hb.cell (p := ⟨b, off + p * 2, none⟩) hbl, ← hbw2.cell (p := ⟨b, off + p * 2, none⟩) hbl]; exact a1', by
            rw [hb.cell (p := ⟨b, off + p * 2 + 1, none⟩) hbl, ← hbw2.cell (p := ⟨b, off + p * 2 + 1, none⟩) hbl]; exact a2', by
            rw [hb.cell (p := ⟨b', off' + q * 2, none⟩) hbl', ← hbw2.cell (p := ⟨b', off' + q * 2, none⟩) hbl']; exact d1, by
            rw [hb.cell (p := ⟨b', off' + q * 2 + 1, none⟩) hbl', ← hbw2.cell (p := ⟨b', off' + q * 2 + 1, none⟩) hbl']; exact d2, hb⟩)
          go_wp2_with fail
          go_region_held_law (fun wq => wq.cell? ⟨b, off + p * 2, none⟩ = some (.int .i64 r1) ∧ wq.cell? ⟨b, off + p * 2 + 1, none⟩ = some (.int .i64 r2) ∧ wq.cell? ⟨b', off' + q * 2, none⟩ = some (.int .i64 s1) ∧ wq.cell? ⟨b', off' + q * 2 + 1, none⟩ = some (.int .i64 s2) ∧ Below w.heap.size w wq) (first | exact MK.out _ hbw2 | exact MK.out _ hbw2.drew | exact MK.out _ (hbw2.alloc hsw2 _).drew | exact MK.out _ (hbw2.alloc hsw2 _) | exact MK.out _ (hbw2.trans (by assumption)) | go_keep) (first | (refine step_app_r rfl _ _ rfl w.heap.size _ _ rfl HO3 [part (r1, r2) (s1, s2)] 1 1 rfl (by decide) _ rfl rfl hlen hsw2 ?_; intro v' w4 hown' hb4))
          all_goals
            go_wp2
            go_roundw
            case rel => exact ⟨q + 1, O2 ++ [part (r1, r2) (s1, s2)], by go_num, by omega, HIN.out, hown', hbw2.trans hb4⟩
            case measure => simp [intOf]; omega
        · have HIN := Lib.hid (HI2.out.next HX.out (by have := HR'.out.1; omega))
          go_wp2
          all_goals go_roundw
          case rel => exact ⟨p + 1, O2, by go_num, by omega, HIN.out, HO2.out, hbw2⟩
          case measure => simp [intOf]; omega
    · obtain ⟨A4, c4, rfl⟩ := HO.out.form
      have hlen : O.length ≤ 1000000 := by
        have h1 : p * rs'.length ≤ 900 * 900 := Nat.mul_le_mul (by omega) (by have := HR'.out.1; omega)
        omega
      have hnn := refNormal_any A4 O.length c4 O wo (HO.out.rng HI0.out.fit) hlen
      have HT : Hid (∀ x, hasI O x ↔ hasI rs x ∧ hasI rs' x) := Lib.hid (fun x => HI0.out.done (by have := HR.out.1; omega) x)
      generalize O.length = z at hnn hlen ⊢
      go_wp2_with (go_at_call 15; refine hnn.mono ?_; rintro e w2 ⟨m, hm1, hm2, hm3, hm4, A2, n2, c2, rfl, hr2, hb2⟩; refine Hid.out ?_)
      refine Lib.hid ?_
      have H1 := Lib.hid hm1
      have H3 := Lib.hid hm3
      clear hm1 hm3
      go_wp2
      all_goals go_ret
      all_goals exact ⟨m, by rw [H1.out]; exact nfOf_congr HT.out, hm2, fun x => (H3.out x).trans (HT.out x), by omega, A2, n2, c2, rfl, hr2, hbw.trans (hb2.mono hsw)⟩
end Go.Proofs.Ytahapkbapbgbiaa
