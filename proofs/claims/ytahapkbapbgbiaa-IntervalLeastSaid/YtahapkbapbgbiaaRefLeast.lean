/- What the document's LeastInt returns: the member with the least absolute value, the positive one of two. Condition: at most 10^6 ranges. -/
import Derived.Test.YtahapkbapbgbiaaRefNorm
import Derived.Test.YtahapkbapbgbiaaLeast
namespace Go.Proofs.Ytahapkbapbgbiaa
open Go.RowKit
/-- the least positive lower end from place k on -/
def UpInv (N : List Rg) (k : Nat) (up : Int) : Prop :=
  (up = 0 ∧ ∀ (j : Nat) (r : Rg), k ≤ j → N[j]? = some r → r.1 ≤ 0) ∨ (0 < up ∧ hasI N up ∧ ∀ (j : Nat) (r : Rg), k ≤ j → N[j]? = some r → 0 < r.1 → up ≤ r.1)
/-- the greatest negative upper end before place k -/
def DownInv (N : List Rg) (k : Nat) (down : Int) : Prop :=
  (down = 0 ∧ ∀ (j : Nat) (r : Rg), j < k → N[j]? = some r → 0 ≤ r.2) ∨ (down < 0 ∧ hasI N down ∧ ∀ (j : Nat) (r : Rg), j < k → N[j]? = some r → r.2 < 0 → r.2 ≤ down)
theorem UpInv.start {N : List Rg} {n : Nat} (h : N.length ≤ n) : UpInv N n 0 :=
  .inl ⟨rfl, fun j r hj hr => by have := (List.getElem?_eq_some_iff.1 hr).1; omega⟩
theorem UpInv.take {N : List Rg} {k : Nat} {up : Int} {r : Rg} (hN : Nf N) (h : UpInv N (k + 1) up) (hr : N[k]? = some r) (hp : 0 < r.1) : UpInv N k r.1 := by
  refine .inr ⟨hp, ⟨r, List.mem_of_getElem? hr, Int.le_refl _, hN.1 r (List.mem_of_getElem? hr)⟩, fun j q hj hq _ => ?_⟩
  by_cases e : j = k
  · subst e; rw [hr] at hq; injection hq with hq; subst hq; exact Int.le_refl _
  · have := nf_after hN hr hq (by omega)
    have := hN.1 r (List.mem_of_getElem? hr)
    omega
theorem UpInv.skip {N : List Rg} {k : Nat} {up : Int} {r : Rg} (h : UpInv N (k + 1) up) (hr : N[k]? = some r) (hp : ¬ 0 < r.1) : UpInv N k up := by
  rcases h with ⟨a, b⟩ | ⟨a, b, c⟩
  · refine .inl ⟨a, fun j q hj hq => ?_⟩
    by_cases e : j = k
    · subst e; rw [hr] at hq; injection hq with hq; subst hq; omega
    · exact b j q (by omega) hq
  · refine .inr ⟨a, b, fun j q hj hq hq0 => ?_⟩
    by_cases e : j = k
    · subst e; rw [hr] at hq; injection hq with hq; subst hq; omega
    · exact c j q (by omega) hq hq0
theorem DownInv.start (N : List Rg) : DownInv N 0 0 := .inl ⟨rfl, fun j r hj => by omega⟩
theorem DownInv.take {N : List Rg} {k : Nat} {r : Rg} (hN : Nf N) (hr : N[k]? = some r) (hp : r.2 < 0) : DownInv N (k + 1) r.2 := by
  refine .inr ⟨hp, ⟨r, List.mem_of_getElem? hr, hN.1 r (List.mem_of_getElem? hr), Int.le_refl _⟩, fun j q hj hq _ => ?_⟩
  by_cases e : j = k
  · subst e; rw [hr] at hq; injection hq with hq; subst hq; exact Int.le_refl _
  · have := nf_after hN hq hr (by omega)
    have := hN.1 r (List.mem_of_getElem? hr)
    omega
theorem DownInv.skip {N : List Rg} {k : Nat} {down : Int} {r : Rg} (h : DownInv N k down) (hr : N[k]? = some r) (hp : ¬ r.2 < 0) : DownInv N (k + 1) down := by
  rcases h with ⟨a, b⟩ | ⟨a, b, c⟩
  · refine .inl ⟨a, fun j q hj hq => ?_⟩
    by_cases e : j = k
    · subst e; rw [hr] at hq; injection hq with hq; subst hq; omega
    · exact b j q (by omega) hq
  · refine .inr ⟨a, b, fun j q hj hq hq0 => ?_⟩
    by_cases e : j = k
    · subst e; rw [hr] at hq; injection hq with hq; subst hq; omega
    · exact c j q (by omega) hq hq0
theorem UpInv.bd {N : List Rg} {k : Nat} {up : Int} (h : UpInv N k up) (hf : Fit N) : 0 ≤ up ∧ up ≤ HI := by
  rcases h with ⟨a, _⟩ | ⟨a, b, _⟩
  · subst a; unfold HI; omega
  · exact ⟨by omega, (hasI_fit hf b).2⟩
theorem DownInv.bd {N : List Rg} {k : Nat} {down : Int} (h : DownInv N k down) (hf : Fit N) : LO ≤ down ∧ down ≤ 0 := by
  rcases h with ⟨a, _⟩ | ⟨a, b, _⟩
  · subst a; unfold LO; omega
  · exact ⟨(hasI_fit hf b).1, by omega⟩
/-- where 0 is no member, each member is on one side -/
theorem sides {N : List Rg} {up down : Int} (h0 : ¬ hasI N 0) (hu : UpInv N 0 up) {n : Nat} (hn : N.length ≤ n) (hd : DownInv N n down) {y : Int} (hy : hasI N y) : (0 < y ∧ 0 < up ∧ up ≤ y) ∨ (y < 0 ∧ down < 0 ∧ y ≤ down) := by
  obtain ⟨j, r, hr, hx⟩ := has_index hy
  have hj := (List.getElem?_eq_some_iff.1 hr).1
  have h0r : ¬ inR r 0 := fun h => h0 (has_at hr h)
  unfold inR at hx h0r
  by_cases hp : 0 < y
  · have hr1 : 0 < r.1 := by omega
    left
    rcases hu with ⟨a, b⟩ | ⟨a, b, c⟩
    · have := b j r (Nat.zero_le _) hr; omega
    · have := c j r (Nat.zero_le _) hr hr1; omega
  · have hr2 : r.2 < 0 := by omega
    right
    rcases hd with ⟨a, b⟩ | ⟨a, b, c⟩
    · have := b j r (by omega) hr; omega
    · have := c j r (by omega) hr hr2; omega
theorem leastRes_of {rs N : List Rg} (hm : ∀ x, hasI N x ↔ hasI rs x) {x : Int} (h : IsLeast (hasI N) x) (hb : LO ≤ x ∧ x ≤ HI) : LeastRes rs x true := by
  refine .inr ⟨rfl, ⟨?_, fun y hy => ?_⟩, hb⟩
  · rw [List.take_of_length_le (Nat.le_refl _)]; exact (hm x).1 h.1
  · rw [List.take_of_length_le (Nat.le_refl _)] at hy; exact h.2 y ((hm y).2 hy)
theorem least_up {N : List Rg} {up down : Int} (h0 : ¬ hasI N 0) (hu : UpInv N 0 up) {n : Nat} (hn : N.length ≤ n) (hd : DownInv N n down) (hne : ∃ y, hasI N y) (hc : down = 0 ∨ (0 < up ∧ up ≤ -down)) : IsLeast (hasI N) up := by
  have hs := fun y (hy : hasI N y) => sides h0 hu hn hd hy
  have hup : 0 < up := by
    rcases hc with hc | hc
    · obtain ⟨y, hy⟩ := hne
      have := hs y hy; omega
    · exact hc.1
  refine ⟨?_, fun y hy => ?_⟩
  · rcases hu with ⟨a, _⟩ | ⟨_, b, _⟩
    · omega
    · exact b
  · have h1 := hs y hy
    have a := absI_cases y
    have b := absI_cases up
    unfold before
    omega
theorem least_down {N : List Rg} {up down : Int} (h0 : ¬ hasI N 0) (hu : UpInv N 0 up) {n : Nat} (hn : N.length ≤ n) (hd : DownInv N n down) (hc : down < 0) (hc2 : ¬ (0 < up ∧ up ≤ -down)) : IsLeast (hasI N) down := by
  have hs := fun y (hy : hasI N y) => sides h0 hu hn hd hy
  refine ⟨?_, fun y hy => ?_⟩
  · rcases hd with ⟨a, _⟩ | ⟨_, b, _⟩
    · omega
    · exact b
  · have h1 := hs y hy
    have a := absI_cases y
    have b := absI_cases down
    unfold before
    omega
theorem least_zero {P : Int → Prop} (h : P 0) : IsLeast P 0 := ⟨h, fun y _ => by
  have a := absI_cases y
  have b := absI_cases 0
  unfold before
  omega⟩
set_option maxRecDepth 100000 in
set_option maxHeartbeats 3200000 in
theorem leastInt_any (A : Option Addr) (n c : Nat) (rs : List Rg) (w : World) (hR : RngS w w.heap.size A n rs) (hn : n ≤ 1000000) :
    Calls Try.prog 23 #[.slice A n c] w (RetL rs w) := by
  have hnn := refNormal_any A n c rs w hR hn
  clear hR
  go_enter Try.func23, Try.ntmps23
  go_wp2_with (go_at_call 15; refine hnn.mono ?_; rintro e w1 ⟨N, hm1, hm2, hm3, hm4, A1, n1, c1, rfl, hr1, hb1⟩; refine Hid.out ?_)
  refine Lib.hid ?_
  have hs1 := hb1.size
  have HNF := Lib.hid hm2
  have HNM := Lib.hid hm3
  have HR := Lib.hid hr1
  have HF := Lib.hid hr1.2.1
  have HL := Lib.hid hr1.1
  have hn1 : n1 ≤ n := by rw [hr1.1]; exact hm4
  have hhas := fun w' => hasInt_any A1 n1 c1 N 0 w'
  clear hm1 hm2 hm3 hm4 hnn
  by_cases hz : n1 = 0
  · have q0 : ((n1 : Int) == 0) = true := by rw [beq_iff_eq]; omega
    have HT : Hid (LeastRes rs 0 false) := Lib.hid (by
      have hN0 : N = [] := List.eq_nil_of_length_eq_zero (HL.out.symm.trans hz)
      refine .inl ⟨rfl, rfl, fun y hy => ?_⟩
      rw [List.take_of_length_le (Nat.le_refl _)] at hy
      have := (HNM.out y).2 hy
      rw [hN0] at this
      exact hasI_nil y this)
    clear hz hr1
    go_wp2
    all_goals go_ret2
    all_goals exact ⟨0, false, rfl, HT.out, hb1⟩
  · have q0 : ((n1 : Int) == 0) = false := by rw [beq_eq_false_iff_ne]; omega
    have HNE : Hid (∃ y, hasI N y) := Lib.hid (by
      have hlt : 0 < N.length := by have := HL.out; omega
      have hx : N[0]? = some N[0] := List.getElem?_eq_getElem hlt
      exact ⟨N[0].1, has_at hx ⟨Int.le_refl _, HNF.out.1 _ (List.mem_of_getElem? hx)⟩⟩)
    have hc1 := hhas w1 w1.heap.size hr1 (by omega)
    cases h0 : hasB N 0 with
    | true =>
      rw [h0] at hc1
      have HT : Hid (LeastRes rs 0 true) := Lib.hid (leastRes_of HNM.out (least_zero ((hasB_iff N 0).1 h0)) (by unfold LO HI; omega))
      clear h0 hz hr1 hhas
      go_wp2_with (go_at_call 12; refine hc1.mono ?_; rintro e w2 ⟨rfl, rfl⟩)
      all_goals go_ret2
      all_goals exact ⟨0, true, rfl, HT.out, hb1⟩
    | false =>
      rw [h0] at hc1
      have H0 : Hid (¬ hasI N 0) := Lib.hid (fun h => by rw [(hasB_iff N 0).2 h] at h0; cases h0)
      clear h0 hr1 hhas
      go_wp2_with (go_at_call 12; refine hc1.mono ?_; rintro e w2 ⟨rfl, rfl⟩)
      go_loop [5, 7] (fun u i => ∃ (k : Nat) (up : Int), i = .int .i64 ((k : Int) - 1) ∧ u = .int .i64 up ∧ k ≤ n1 ∧ UpInv N k up) (fun _ i => (intOf i + 1).toNat)
      case atStart => exact ⟨n1, 0, rfl, rfl, Nat.le_refl _, UpInv.start (by have := HL.out; omega)⟩
      case round =>
        obtain ⟨k, up, rfl, rfl, hk, hU⟩ := hrel
        have HU := Lib.hid hU
        clear hU
        rcases k with _ | j
        · have e : ((0 : Nat) : Int) - 1 = -1 := rfl
          rw [e]
          clear e
          go_wp2
          go_loop [6, 8] (fun d i => ∃ (k : Nat) (down : Int), i = .int .i64 k ∧ d = .int .i64 down ∧ k ≤ n1 ∧ DownInv N k down) (fun _ i => n1 - (intOf i).toNat)
          case atStart => exact ⟨0, 0, rfl, rfl, Nat.zero_le _, DownInv.start N⟩
          case round =>
            obtain ⟨k, down, rfl, rfl, hk2, hD⟩ := hrel
            have HD := Lib.hid hD
            clear hD
            by_cases hkn : k < n1
            · obtain ⟨b, off, r1, r2, rfl, hbl, hx, hf, a1, a2⟩ := HR.out.at hkn
              have HX := Lib.hid hx
              clear hx hf
              by_cases hp : r2 < 0
              · have HIN := Lib.hid (DownInv.take HNF.out HX.out hp)
                go_wp2
                all_goals go_round
                case rel => exact ⟨k + 1, r2, by go_num, rfl, by omega, HIN.out⟩
                case measure => simp [intOf]; omega
              · have HIN := Lib.hid (HD.out.skip HX.out hp)
                go_wp2
                all_goals go_round
                case rel => exact ⟨k + 1, down, by go_num, rfl, by omega, HIN.out⟩
                case measure => simp [intOf]; omega
            · have hnk : N.length ≤ k := by have := HL.out; omega
              have hub := HU.out.bd HF.out
              have hdb := HD.out.bd HF.out
              unfold HI at hub
              unfold LO at hdb
              obtain ⟨u1, u2⟩ := hub
              obtain ⟨d1, d2⟩ := hdb
              by_cases hd0 : down = 0
              · have q1 : (down == 0) = true := by simpa using hd0
                have HT := Lib.hid (leastRes_of HNM.out (least_up H0.out HU.out hnk HD.out HNE.out (.inl hd0)) (by unfold LO HI; omega))
                clear hd0
                go_wp2
                all_goals go_ret2
                all_goals exact ⟨up, true, rfl, HT.out, hb1⟩
              · have q1 : (down == 0) = false := by simpa using hd0
                by_cases hc : 0 < up ∧ up ≤ -down
                · have HT := Lib.hid (leastRes_of HNM.out (least_up H0.out HU.out hnk HD.out HNE.out (.inr hc)) (by unfold LO HI; omega))
                  obtain ⟨hc1, hc2⟩ := hc
                  have q2 : decide (0 < up) = true := by simpa using hc1
                  have q3 : decide (up - 1 ≤ -(down + 1)) = true := by simp; omega
                  clear hd0
                  go_wp2
                  all_goals go_ret2
                  all_goals exact ⟨up, true, rfl, HT.out, hb1⟩
                · have HT := Lib.hid (leastRes_of HNM.out (least_down H0.out HU.out hnk HD.out (by omega) hc) (by unfold LO HI; omega))
                  clear hd0
                  by_cases hu0 : 0 < up
                  · have hc2 : ¬ up - 1 ≤ -(down + 1) := by omega
                    have q2 : decide (0 < up) = true := by simpa using hu0
                    have q3 : decide (up - 1 ≤ -(down + 1)) = false := by simpa using hc2
                    clear hc
                    go_wp2
                    all_goals go_ret2
                    all_goals exact ⟨down, true, rfl, HT.out, hb1⟩
                  · have q2 : decide (0 < up) = false := by simpa using hu0
                    clear hc
                    go_wp2
                    all_goals go_ret2
                    all_goals exact ⟨down, true, rfl, HT.out, hb1⟩
        · have e : ((j + 1 : Nat) : Int) - 1 = j := by omega
          rw [e]
          clear e
          obtain ⟨b, off, r1, r2, rfl, hbl, hx, hf, a1, a2⟩ := HR.out.at (show j < n1 by omega)
          have HX := Lib.hid hx
          clear hx hf
          by_cases hp : 0 < r1
          · have HIN := Lib.hid (HU.out.take HNF.out HX.out hp)
            go_wp2
            all_goals go_round
            case rel => exact ⟨j, r1, rfl, rfl, by omega, HIN.out⟩
            case measure => simp [intOf]
          · have HIN := Lib.hid (HU.out.skip HX.out hp)
            go_wp2
            all_goals go_round
            case rel => exact ⟨j, up, rfl, rfl, by omega, HIN.out⟩
            case measure => simp [intOf]
end Go.Proofs.Ytahapkbapbgbiaa
