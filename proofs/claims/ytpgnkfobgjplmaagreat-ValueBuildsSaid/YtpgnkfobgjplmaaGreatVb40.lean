/- What Nodes of the document returns: the number of nodes, as an int holds it. A function that calls itself over slices of itself. Conditions: none. -/
import Derived.Test.YtpgnkfobgjplmaaGreatVb00
import Derived.Test.YtpgnkfobgjplmaaGreatProg
import Derived.WalkKit
import Derived.Lib.Hide
import Derived.BigFrame
import Derived.BigQuiet
import Derived.Deep.LoopGhost
namespace Go.Proofs.YtpgnkfobgjplmaaGreat
open Go Go.RowKit
theorem nodesVs_app : ∀ l m : List Vl, nodesVs (l ++ m) = nodesVs l + nodesVs m
  | [], m => by simp [nodesVs]
  | a :: s, m => by simp only [List.cons_append, nodesVs, nodesVs_app s m]; omega
theorem nodesEs_app : ∀ l m : List En, nodesEs (l ++ m) = nodesEs l + nodesEs m
  | [], m => by simp [nodesEs]
  | a :: s, m => by simp only [List.cons_append, nodesEs, nodesEs_app s m]; omega
theorem nodesVs_step {l : List Vl} {j : Nat} {x : Vl} (h : l[j]? = some x) : nodesVs (l.take (j + 1)) = nodesVs (l.take j) + nodes x ∧ nodesVs (l.take j) + nodes x ≤ nodesVs l := by
  have h1 : l.take (j + 1) = l.take j ++ [x] := by rw [List.take_add_one, h]; rfl
  have h2 := nodesVs_app (l.take (j + 1)) (l.drop (j + 1))
  rw [List.take_append_drop, h1, nodesVs_snoc] at h2
  exact ⟨by rw [h1, nodesVs_snoc], by omega⟩
theorem nodesEs_step {l : List En} {j : Nat} {x : En} (h : l[j]? = some x) : nodesEs (l.take (j + 1)) = nodesEs (l.take j) + nodesE x ∧ nodesEs (l.take j) + nodesE x ≤ nodesEs l := by
  have h1 : l.take (j + 1) = l.take j ++ [x] := by rw [List.take_add_one, h]; rfl
  have h2 := nodesEs_app (l.take (j + 1)) (l.drop (j + 1))
  rw [List.take_append_drop, h1, nodesEs_snoc] at h2
  exact ⟨by rw [h1, nodesEs_snoc], by omega⟩
theorem wrap_add {a b c : Int} (h : a + b = c) : wrap64 (wrap64 a + wrap64 b) = wrap64 c := by subst h; unfold wrap64; omega
theorem intI {n : Nat} {m : Int} (h : (n : Int) = m) : Value.int .i64 n = .int .i64 m := by rw [h]
set_option maxRecDepth 100000 in
set_option maxHeartbeats 3200000 in
theorem nodes_any : ∀ (k : Nat) (v : Vl) (cs : List Value) (w : World), VS k w w.heap.size v cs →
    Calls Tryz.prog 37 #[.agg cs.toArray] w fun e w' => e = .returned (.int .i64 (wrap64 (nodes v))) ∧ Below w.heap.size w w' := by
  intro k
  induction k with
  | zero => intro v cs w h; exact h.elim
  | succ k ih =>
    intro v cs w h
    obtain ⟨kind, int, text, kids, keys, ents, labels⟩ := v
    obtain ⟨uk, uy, ue, ul, rfl, _, _, _, hk, hyy, he, hll⟩ := h
    obtain ⟨A, cap, rfl, hkl⟩ := hk.form
    obtain ⟨A', cap', rfl, hel⟩ := he.form
    unfold maxLen at hkl hel
    have HKI := Lib.hid hk
    have HEN := Lib.hid he
    clear hk he hyy hll
    have IH := Lib.hid ih
    clear ih
    unfold nodes
    go_enter Tryz.func37, Tryz.ntmps37
    go_wp2_with fail
    obtain ⟨W, hW⟩ : ∃ W, W = w.alloc (.cells #[.int .i64 kind, .int .i64 int, .string ⟨text.toArray⟩, .slice A kids.length cap, uy, .slice A' ents.length cap', ul] 27) := ⟨_, rfl⟩
    have hbl : Below w.heap.size w W := by rw [hW]; exact (Below.refl _ _).alloc (Nat.le_refl _) _
    have d3 : W.cell? ⟨w.heap.size, 3, none⟩ = some (.slice A kids.length cap) := by rw [hW]; simp
    have d5 : W.cell? ⟨w.heap.size, 5, none⟩ = some (.slice A' ents.length cap') := by rw [hW]; simp
    have hlt : w.heap.size < W.heap.size := by rw [hW]; simp
    rw [← hW]
    clear hW
    have HB := Lib.hid hbl
    clear hbl
    go_loopw [3, 4] (fun n i wr => ∃ j : Nat, i = .int .i64 j ∧ j ≤ kids.length ∧ n = .int .i64 (wrap64 ((1 + nodesVs (kids.take j) : Nat) : Int)) ∧ Below W.heap.size W wr) (fun _ i _ => kids.length - (intOf i).toNat)
    case atStart => exact ⟨0, rfl, by omega, by simp [nodesVs, wrap64], Below.refl _ _⟩
    case round =>
      obtain ⟨j, rfl, hj, rfl, hb⟩ := hrel
      have e3 : wr.cell? ⟨w.heap.size, 3, none⟩ = some (.slice A kids.length cap) := (hb.cell (p := ⟨w.heap.size, 3, none⟩) hlt).trans d3
      have e5 : wr.cell? ⟨w.heap.size, 5, none⟩ = some (.slice A' ents.length cap') := (hb.cell (p := ⟨w.heap.size, 5, none⟩) hlt).trans d5
      by_cases hjn : j < kids.length
      · have hbw : Below w.heap.size w wr := HB.out.trans (hb.mono HB.out.size)
        obtain ⟨b, off, cap0, x0, x1, x2, x3, x4, x5, x6, hu, hbH, ⟨x, hx, hv⟩, c0, c1, c2, c3, c4, c5, c6⟩ := (HKI.out.on hbw (fun _ _ h => h)).at7 hjn
        injection hu with hA _ hcap
        subst hA hcap
        have hst := (nodesVs_step hx).1
        have hc := IH.out x _ wr (VS.up hbw.size (Nat.le_refl _) (VS.on hbw hv))
        have kn : (j : Int) < (kids.length : Int) := by omega
        have k0 : (0 : Int) ≤ (j : Int) := by omega
        have HX : Hid (wrap64 (wrap64 ((1 + nodesVs (kids.take j) : Nat) : Int) + wrap64 (nodes x : Int)) = wrap64 ((1 + nodesVs (kids.take (j + 1)) : Nat) : Int)) := Lib.hid (wrap_add (by rw [hst]; omega))
        have HV := Lib.hid hb
        clear hx hv hst hb hbw
        generalize wrap64 (nodes x : Int) = nx at hc HX
        generalize wrap64 ((1 + nodesVs (kids.take j) : Nat) : Int) = q at HX ⊢
        go_wp2_with (go_at_call 37; refine hc.mono ?_; rintro e w1 ⟨rfl, hb1⟩; refine Hid.out ?_)
        refine Lib.hid ?_
        clear hc
        go_wp2
        go_roundw
        case rel => exact ⟨j + 1, by go_num, by omega, by rw [← HX.out], HV.out.trans (hb1.mono HV.out.size)⟩
        case measure => simp [intOf]; omega
      · have hke : kids.take j = kids := List.take_of_length_le (by omega)
        rw [hke]
        go_wp2_with fail
        rename World => V
        have HBW := Lib.hid (HB.out.trans (hb.mono HB.out.size))
        have hlt1 : w.heap.size < V.heap.size := Nat.lt_of_lt_of_le hlt hb.size
        clear d3 d5 e3 hke hb hj hjn hlt
        go_loopw [3, 5] (fun n i w2 => ∃ j : Nat, i = .int .i64 j ∧ j ≤ ents.length ∧ n = .int .i64 (wrap64 ((1 + nodesVs kids + nodesEs (ents.take j) : Nat) : Int)) ∧ Below V.heap.size V w2) (fun _ i _ => ents.length - (intOf i).toNat)
        case atStart => exact ⟨0, rfl, by omega, by simp [nodesEs], Below.refl _ _⟩
        case round =>
          obtain ⟨j, rfl, hj, rfl, hb⟩ := hrel
          have f5 : wr.cell? ⟨w.heap.size, 5, none⟩ = some (.slice A' ents.length cap') := (hb.cell (p := ⟨w.heap.size, 5, none⟩) hlt1).trans e5
          by_cases hjn : j < ents.length
          · have hbw : Below w.heap.size w wr := HBW.out.trans (hb.mono HBW.out.size)
            obtain ⟨b, off, cap0, ya, yb, x0, x1, x2, x3, x4, x5, x6, hu, hbH, ⟨args, fails, result, hx, ua, rs, hcs, ha, hr⟩, c0, c1, c2, c3, c4, c5, c6, c7, c8⟩ := (HEN.out.on hbw (fun _ _ h => h)).at9 hjn
            injection hu with hA _ hcap
            subst hA hcap
            simp only [List.cons.injEq] at hcs
            obtain ⟨rfl, rfl, rfl⟩ := hcs
            obtain ⟨A2, cap2, rfl, hal⟩ := ha.form
            unfold maxLen at hal
            obtain ⟨a, i, st, A3, n3, c3', A4, n4, c4', A5, n5, c5', A6, n6, c6', he7⟩ := hr.form7
            simp only [List.cons.injEq, and_true] at he7
            obtain ⟨rfl, rfl, rfl, rfl, rfl, rfl, rfl⟩ := he7
            have hst := nodesEs_step hx
            have kn : (j : Int) < (ents.length : Int) := by omega
            have k0 : (0 : Int) ≤ (j : Int) := by omega
            have HX := Lib.hid hst
            have HV := Lib.hid hb
            have HAR := Lib.hid ha
            have HRS := Lib.hid hr
            have HBW2 := Lib.hid hbw
            have HJN := Lib.hid hjn
            clear hx hst ha hr hbw hb hj hjn
            go_wp2_with fail
            rename World => U
            obtain ⟨W2, hW2⟩ : ∃ W2, W2 = U.alloc (.cells #[.slice A2 args.length cap2, .bool fails, .int .i64 a, .int .i64 i, .string st, .slice A3 n3 c3', .slice A4 n4 c4', .slice A5 n5 c5', .slice A6 n6 c6'] 55) := ⟨_, rfl⟩
            have hb2 : Below U.heap.size U W2 := by rw [hW2]; exact (Below.refl _ _).alloc (Nat.le_refl _) _
            have q0 : W2.cell? ⟨U.heap.size, 0, none⟩ = some (.slice A2 args.length cap2) := by rw [hW2]; simp
            have q1 : W2.cell? ⟨U.heap.size, 1, none⟩ = some (.bool fails) := by rw [hW2]; simp
            have HQ : Hid (W2.cell? ⟨U.heap.size, 2, none⟩ = some (.int .i64 a) ∧ W2.cell? ⟨U.heap.size, 3, none⟩ = some (.int .i64 i) ∧ W2.cell? ⟨U.heap.size, 4, none⟩ = some (.string st) ∧ W2.cell? ⟨U.heap.size, 5, none⟩ = some (.slice A3 n3 c3') ∧ W2.cell? ⟨U.heap.size, 6, none⟩ = some (.slice A4 n4 c4') ∧ W2.cell? ⟨U.heap.size, 7, none⟩ = some (.slice A5 n5 c5') ∧ W2.cell? ⟨U.heap.size, 8, none⟩ = some (.slice A6 n6 c6')) := Lib.hid (by rw [hW2]; simp)
            have hlt2 : U.heap.size < W2.heap.size := by rw [hW2]; simp
            rw [← hW2]
            clear hW2
            have HB2 := Lib.hid hb2
            have HBU := Lib.hid (HBW2.out.trans (hb2.mono HBW2.out.size))
            have HVU := Lib.hid (HV.out.trans (hb2.mono HV.out.size))
            clear hb2 c0 c1 c2 c3 c4 c5 c6 c7 c8 f5
            rename ((j : Int) < (ents.length : Int)) => kj
            rename ((0 : Int) ≤ (j : Int)) => kj0
            generalize nodesEs (ents.take j) = NE at HX ⊢
            go_loopw [3, 7] (fun n i w3 => ∃ q : Nat, i = .int .i64 q ∧ q ≤ args.length ∧ n = .int .i64 (wrap64 ((1 + nodesVs kids + NE + nodesVs (args.take q) : Nat) : Int)) ∧ Below W2.heap.size W2 w3) (fun _ i _ => args.length - (intOf i).toNat)
            case atStart => exact ⟨0, rfl, by omega, by simp [nodesVs], Below.refl _ _⟩
            case round =>
              obtain ⟨q, rfl, hq, rfl, hb⟩ := hrel
              have r0 : wr.cell? ⟨U.heap.size, 0, none⟩ = some (.slice A2 args.length cap2) := (hb.cell (p := ⟨U.heap.size, 0, none⟩) hlt2).trans q0
              by_cases hqn : q < args.length
              · have hbw : Below w.heap.size w wr := HBU.out.trans (hb.mono HBU.out.size)
                have hbu : Below U.heap.size U wr := HB2.out.trans (hb.mono HB2.out.size)
                obtain ⟨b2, off2, cap3, x0, x1, x2, x3, x4, x5, x6, hu, hbH, ⟨x, hx, hv⟩, c0, c1, c2, c3, c4, c5, c6⟩ := (HAR.out.on hbw (fun _ _ h => h)).at7 hqn
                injection hu with hA _ hcap
                subst hA hcap
                have hst := (nodesVs_step hx).1
                have hc := IH.out x _ wr (VS.up hbw.size (Nat.le_refl _) (VS.on hbw hv))
                have kn : (q : Int) < (args.length : Int) := by omega
                have k0 : (0 : Int) ≤ (q : Int) := by omega
                have HY : Hid (wrap64 (wrap64 ((1 + nodesVs kids + NE + nodesVs (args.take q) : Nat) : Int) + wrap64 (nodes x : Int)) = wrap64 ((1 + nodesVs kids + NE + nodesVs (args.take (q + 1)) : Nat) : Int)) := Lib.hid (wrap_add (by rw [hst]; omega))
                have HV := Lib.hid hb
                clear hx hv hst hb hbw hbu
                generalize wrap64 (nodes x : Int) = nx at hc HY
                generalize wrap64 ((1 + nodesVs kids + NE + nodesVs (args.take q) : Nat) : Int) = p at HY ⊢
                go_wp2_with (go_at_call 37; refine hc.mono ?_; rintro e w1 ⟨rfl, hb1⟩; refine Hid.out ?_)
                refine Lib.hid ?_
                clear hc
                go_wp2
                go_roundw
                case rel => exact ⟨q + 1, by go_num, by omega, by rw [← HY.out], HV.out.trans (hb1.mono HV.out.size)⟩
                case measure => simp [intOf]; omega
              · have hke : args.take q = args := List.take_of_length_le (by omega)
                have hbu : Below U.heap.size U wr := HB2.out.trans (hb.mono HB2.out.size)
                have r1 : wr.cell? ⟨U.heap.size, 1, none⟩ = some (.bool fails) := (hb.cell (p := ⟨U.heap.size, 1, none⟩) hlt2).trans q1
                have HVW := Lib.hid (HVU.out.trans (hb.mono HVU.out.size))
                rw [hke]
                cases fails
                · obtain ⟨s2, s3, s4, s5, s6, s7, s8⟩ := HQ.out
                  have r2 := (hb.cell (p := ⟨U.heap.size, 2, none⟩) hlt2).trans s2
                  have r3 := (hb.cell (p := ⟨U.heap.size, 3, none⟩) hlt2).trans s3
                  have r4 := (hb.cell (p := ⟨U.heap.size, 4, none⟩) hlt2).trans s4
                  have r5 := (hb.cell (p := ⟨U.heap.size, 5, none⟩) hlt2).trans s5
                  have r6 := (hb.cell (p := ⟨U.heap.size, 6, none⟩) hlt2).trans s6
                  have r7 := (hb.cell (p := ⟨U.heap.size, 7, none⟩) hlt2).trans s7
                  have r8 := (hb.cell (p := ⟨U.heap.size, 8, none⟩) hlt2).trans s8
                  have hbw : Below w.heap.size w wr := HBU.out.trans (hb.mono HBU.out.size)
                  have hc := IH.out result _ wr (VS.up hbw.size (Nat.le_refl _) (VS.on hbw HRS.out))
                  have HX2 : Hid (wrap64 (wrap64 ((1 + nodesVs kids + NE + nodesVs args : Nat) : Int) + wrap64 (nodes result : Int)) = wrap64 ((1 + nodesVs kids + nodesEs (ents.take (j + 1)) : Nat) : Int)) := Lib.hid (wrap_add (by rw [HX.out.1, nodesE]; simp; omega))
                  clear s2 s3 s4 s5 s6 s7 s8 q0 q1 hb hbu hbw hke HX
                  generalize wrap64 (nodes result : Int) = nr at hc HX2
                  generalize wrap64 ((1 + nodesVs kids + NE + nodesVs args : Nat) : Int) = na at HX2 ⊢
                  go_wp2_with (go_at_call 37; refine hc.mono ?_; rintro e w1 ⟨rfl, hb1⟩; refine Hid.out ?_)
                  refine Lib.hid ?_
                  clear hc
                  go_wp2
                  go_roundw
                  case rel => exact ⟨j + 1, by go_num, HJN.out, by rw [← HX2.out], HVW.out.trans (hb1.mono HVW.out.size)⟩
                  case measure => have := HJN.out; simp [intOf]; omega
                · have HX2 : Hid (1 + nodesVs kids + nodesEs (ents.take (j + 1)) = 1 + nodesVs kids + NE + nodesVs args) := Lib.hid (by rw [HX.out.1, nodesE]; simp; omega)
                  clear q0 q1 hb hbu hke HX
                  go_wp2
                  go_roundw
                  case rel => exact ⟨j + 1, by go_num, HJN.out, by rw [HX2.out], HVW.out⟩
                  case measure => have := HJN.out; simp [intOf]; omega
          · have hke : ents.take j = ents := List.take_of_length_le (by omega)
            rw [hke]
            go_wp2
            go_ret
            exact ⟨by simp, HBW.out.trans (hb.mono HBW.out.size)⟩
end Go.Proofs.YtpgnkfobgjplmaaGreat
