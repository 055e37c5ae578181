/- What Nodes of the program returns: the number of nodes, as an int holds it. Conditions: none. -/
import Derived.Test.YtjfknigiehggkaaGreatVf00
import Derived.Test.YtjfknigiehggkaaGreatVf02
import Derived.Test.YtjfknigiehggkaaGreatRows
import Derived.ProofKit
import Derived.OpenShut
import Derived.ShutString
import Derived.SliceStrings
import Derived.Deep.DeepHandedRow
import Derived.Deep.Slices
import Derived.Lib.SmallJoins
import Derived.Test.YtjfknigiehggkaaGreatProg
import Derived.WalkKit
import Derived.WalkSpells
import Derived.WalkLawsBesides
import Derived.BigQuiet
import Derived.Deep.QuietTactic
import Derived.Lib.Hide
import Derived.Outline
import Derived.Deep.RegionHeld3
namespace Go.Proofs.YtjfknigiehggkaaGreat
open Go Go.RowKit
set_option maxRecDepth 100000 in
set_option maxHeartbeats 3200000 in
theorem sum_any (k : Nat) (hP : Hid (∀ (v : Vl) (cs : List Value) (w : World), VS k w w.heap.size v cs → Calls Tryz.prog 38 #[.agg cs.toArray] w fun e w' => e = .returned (.int .i64 (wrap64 (nodes v))) ∧ Below w.heap.size w w')) (A : Option Addr) (cap : Nat) (l : List Vl) (w : World) (hl : RowP w w.heap.size 7 (.slice A l.length cap) l.length (fun j cs => ∃ x, l[j]? = some x ∧ VS k w w.heap.size x cs)) :
    Calls Tryz.prog 79 #[.slice A l.length cap] w fun e w' => e = .returned (.int .i64 (wrap64 (nodesVs l))) ∧ Below w.heap.size w w' := by
  obtain ⟨A0, cap0, hA0, hll⟩ := hl.form
  clear hA0 A0 cap0
  unfold maxLen at hll
  have HL := Lib.hid hl
  clear hl
  go_enter Tryz.func79, Tryz.ntmps79
  go_wp2_with fail
  go_loopw [3, 8] (fun n i wr => ∃ j : Nat, i = .int .i64 j ∧ j ≤ l.length ∧ n = .int .i64 (wrap64 ((nodesVs (l.take j) : Nat) : Int)) ∧ Below w.heap.size w wr) (fun _ i _ => l.length - (intOf i).toNat)
  case atStart => exact ⟨0, rfl, by omega, by simp [nodesVs, wrap64], Below.refl _ _⟩
  case round =>
    obtain ⟨j, rfl, hj, rfl, hb⟩ := hrel
    by_cases hjn : j < l.length
    · obtain ⟨b, off, cap0, x0, x1, x2, x3, x4, x5, x6, hu, hbH, ⟨x, hx, hv⟩, c0, c1, c2, c3, c4, c5, c6⟩ := (HL.out.on hb (fun _ _ h => h)).at7 hjn
      injection hu with hA _ hcap
      subst hA hcap
      obtain ⟨a, i, st, A3, n3, c3', A4, n4, c4', A5, n5, c5', A6, n6, c6', he7⟩ := hv.form7
      simp only [List.cons.injEq, and_true] at he7
      obtain ⟨rfl, rfl, rfl, rfl, rfl, rfl, rfl⟩ := he7
      have hst := (nodesVs_step hx).1
      have kn : (j : Int) < (l.length : Int) := by omega
      have k0 : (0 : Int) ≤ (j : Int) := by omega
      have HX : Hid (wrap64 (wrap64 ((nodesVs (l.take j) : Nat) : Int) + wrap64 (nodes x : Int)) = wrap64 ((nodesVs (l.take (j + 1)) : Nat) : Int)) := Lib.hid (wrap_add (by rw [hst]; omega))
      have HV := Lib.hid hb
      have HVX := Lib.hid (VS.up hb.size (Nat.le_refl _) (VS.on hb hv))
      clear hx hv hst hb
      go_wp2_with fail
      rename World => U
      obtain ⟨W2, hW2⟩ : ∃ W2, W2 = U.alloc (.cells #[.int .i64 a, .int .i64 i, .string st, .slice A3 n3 c3', .slice A4 n4 c4', .slice A5 n5 c5', .slice A6 n6 c6'] 27) := ⟨_, rfl⟩
      have hb2 : Below U.heap.size U W2 := by rw [hW2]; exact (Below.refl _ _).alloc (Nat.le_refl _) _
      have q0 : W2.cell? ⟨U.heap.size, 0, none⟩ = some (.int .i64 a) := by rw [hW2]; simp
      have q1 : W2.cell? ⟨U.heap.size, 1, none⟩ = some (.int .i64 i) := by rw [hW2]; simp
      have q2 : W2.cell? ⟨U.heap.size, 2, none⟩ = some (.string st) := by rw [hW2]; simp
      have q3 : W2.cell? ⟨U.heap.size, 3, none⟩ = some (.slice A3 n3 c3') := by rw [hW2]; simp
      have q4 : W2.cell? ⟨U.heap.size, 4, none⟩ = some (.slice A4 n4 c4') := by rw [hW2]; simp
      have q5 : W2.cell? ⟨U.heap.size, 5, none⟩ = some (.slice A5 n5 c5') := by rw [hW2]; simp
      have q6 : W2.cell? ⟨U.heap.size, 6, none⟩ = some (.slice A6 n6 c6') := by rw [hW2]; simp
      have hc := hP.out x _ W2 (VS.up hb2.size (Nat.le_refl _) (VS.on hb2 HVX.out))
      have HB2 := Lib.hid (HV.out.trans (hb2.mono HV.out.size))
      rw [← hW2]
      clear hW2 c0 c1 c2 c3 c4 c5 c6 hb2
      generalize wrap64 (nodes x : Int) = nx at hc HX
      generalize wrap64 ((nodesVs (l.take j) : Nat) : Int) = q at HX ⊢
      go_wp2_with (go_at_call 38; refine hc.mono ?_; rintro e w1 ⟨rfl, hb1⟩; refine Hid.out ?_)
      refine Lib.hid ?_
      clear hc
      go_wp2
      go_roundw
      case rel => exact ⟨j + 1, by go_num, by omega, by rw [← HX.out], HB2.out.trans (hb1.mono HB2.out.size)⟩
      case measure => simp [intOf]; omega
    · have hke : l.take j = l := List.take_of_length_le (by omega)
      rw [hke]
      go_wp2
      go_ret
      exact ⟨by simp, hb⟩
set_option maxRecDepth 100000 in
set_option maxHeartbeats 3200000 in
theorem nodesP_any : ∀ (k : Nat) (v : Vl) (cs : List Value) (w : World), VS k w w.heap.size v cs →
    Calls Tryz.prog 38 #[.agg cs.toArray] w fun e w' => e = .returned (.int .i64 (wrap64 (nodes v))) ∧ Below w.heap.size w w' := by
  intro k
  induction k with
  | zero => intro v cs w h; exact h.elim
  | succ k ih =>
    intro v cs w h
    obtain ⟨kind, int, text, kids, keys, ents, labels⟩ := v
    obtain ⟨uk, uy, ue, ul, rfl, _, _, _, hk, hyy, he, hll⟩ := h
    obtain ⟨A, cap, rfl, hkl⟩ := hk.form
    obtain ⟨A', cap', rfl, hel⟩ := he.form
    unfold maxLen at hkl hel
    have HKI := Lib.hid hk
    have HEN := Lib.hid he
    clear hk he hyy hll
    have IH := Lib.hid ih
    clear ih
    unfold nodes
    obtain ⟨W, hW⟩ : ∃ W, W = w.alloc (.cells #[.int .i64 kind, .int .i64 int, .string ⟨text.toArray⟩, .slice A kids.length cap, uy, .slice A' ents.length cap', ul] 27) := ⟨_, rfl⟩
    have hbl : Below w.heap.size w W := by rw [hW]; exact (Below.refl _ _).alloc (Nat.le_refl _) _
    have d3 : W.cell? ⟨w.heap.size, 3, none⟩ = some (.slice A kids.length cap) := by rw [hW]; simp
    have d5 : W.cell? ⟨w.heap.size, 5, none⟩ = some (.slice A' ents.length cap') := by rw [hW]; simp
    have hlt : w.heap.size < W.heap.size := by rw [hW]; simp
    have hs := sum_any k IH A cap kids W ((HKI.out.on hbl fun _ _ ⟨x, h1, h2⟩ => ⟨x, h1, VS.up hbl.size (Nat.le_refl _) (VS.on hbl h2)⟩).mono hbl.size fun _ _ h => h)
    have HB := Lib.hid hbl
    clear hbl
    have HS : Hid (wrap64 ((1 : Int) + wrap64 (nodesVs kids : Int)) = wrap64 ((1 + nodesVs kids : Nat) : Int)) := Lib.hid (by unfold wrap64; omega)
    generalize hnk : wrap64 (nodesVs kids : Int) = nk at hs HS
    clear hnk
    go_enter Tryz.func38, Tryz.ntmps38
    go_wp2_with fail
    rw [← hW]
    clear hW
    go_wp2_with (go_at_call 79; refine hs.mono ?_; rintro e w1 ⟨rfl, hb1⟩; refine Hid.out ?_)
    refine Lib.hid ?_
    clear hs
    have e5 : w1.cell? ⟨w.heap.size, 5, none⟩ = some (.slice A' ents.length cap') := (hb1.cell (p := ⟨w.heap.size, 5, none⟩) hlt).trans d5
    have HBW := Lib.hid (HB.out.trans (hb1.mono HB.out.size))
    have hlt1 : w.heap.size < w1.heap.size := Nat.lt_of_lt_of_le hlt hb1.size
    clear d3 d5 hb1 hlt
    go_wp2_with fail
    go_loopw [3, 13] (fun n i w2 => ∃ j : Nat, i = .int .i64 j ∧ j ≤ ents.length ∧ n = .int .i64 (wrap64 ((1 + nodesVs kids + nodesEs (ents.take j) : Nat) : Int)) ∧ Below w1.heap.size w1 w2) (fun _ i _ => ents.length - (intOf i).toNat)
    case atStart => exact ⟨0, rfl, by omega, by rw [HS.out]; simp [nodesEs], Below.refl _ _⟩
    case round =>
      obtain ⟨j, rfl, hj, rfl, hb⟩ := hrel
      by_cases hjn : j < ents.length
      · have hbw : Below w.heap.size w wr := HBW.out.trans (hb.mono HBW.out.size)
        obtain ⟨b, off, cap0, ya, yb, x0, x1, x2, x3, x4, x5, x6, hu, hbH, ⟨args, fails, result, hx, ua, rs, hcs, ha, hr⟩, c0, c1, c2, c3, c4, c5, c6, c7, c8⟩ := (HEN.out.on hbw (fun _ _ h => h)).at9 hjn
        injection hu with hA _ hcap
        subst hA hcap
        simp only [List.cons.injEq] at hcs
        obtain ⟨rfl, rfl, rfl⟩ := hcs
        obtain ⟨A2, cap2, rfl, hal⟩ := ha.form
        unfold maxLen at hal
        obtain ⟨a, i, st, A3, n3, c3', A4, n4, c4', A5, n5, c5', A6, n6, c6', he7⟩ := hr.form7
        simp only [List.cons.injEq, and_true] at he7
        obtain ⟨rfl, rfl, rfl, rfl, rfl, rfl, rfl⟩ := he7
        have hst := (nodesEs_step hx).1
        have kn : (j : Int) < (ents.length : Int) := by omega
        have k0 : (0 : Int) ≤ (j : Int) := by omega
        have HX := Lib.hid hst
        have HV := Lib.hid hb
        have HAR := Lib.hid ha
        have HRS := Lib.hid hr
        have HBW2 := Lib.hid hbw
        have HJN := Lib.hid hjn
        clear hx hst ha hr hbw hb hj hjn
        have HA0 : ∀ na : Int, wrap64 (wrap64 ((1 + nodesVs kids + nodesEs (ents.take j) : Nat) : Int) + wrap64 na) = wrap64 (((1 + nodesVs kids + nodesEs (ents.take j) : Nat) : Int) + na) := fun na => wrap_add rfl
        have HA0 := Lib.hid HA0
        generalize wrap64 ((1 + nodesVs kids + nodesEs (ents.take j) : Nat) : Int) = p at HA0 ⊢
        go_wp2_with fail
        rename World => U
        obtain ⟨W2, hW2⟩ : ∃ W2, W2 = U.alloc (.cells #[.slice A2 args.length cap2, .bool fails, .int .i64 a, .int .i64 i, .string st, .slice A3 n3 c3', .slice A4 n4 c4', .slice A5 n5 c5', .slice A6 n6 c6'] 55) := ⟨_, rfl⟩
        have hb2 : Below U.heap.size U W2 := by rw [hW2]; exact (Below.refl _ _).alloc (Nat.le_refl _) _
        have q0 : W2.cell? ⟨U.heap.size, 0, none⟩ = some (.slice A2 args.length cap2) := by rw [hW2]; simp
        have HQ : Hid (W2.cell? ⟨U.heap.size, 1, none⟩ = some (.bool fails) ∧ W2.cell? ⟨U.heap.size, 2, none⟩ = some (.int .i64 a) ∧ W2.cell? ⟨U.heap.size, 3, none⟩ = some (.int .i64 i) ∧ W2.cell? ⟨U.heap.size, 4, none⟩ = some (.string st) ∧ W2.cell? ⟨U.heap.size, 5, none⟩ = some (.slice A3 n3 c3') ∧ W2.cell? ⟨U.heap.size, 6, none⟩ = some (.slice A4 n4 c4') ∧ W2.cell? ⟨U.heap.size, 7, none⟩ = some (.slice A5 n5 c5') ∧ W2.cell? ⟨U.heap.size, 8, none⟩ = some (.slice A6 n6 c6')) := Lib.hid (by rw [hW2]; simp)
        have hlt2 : U.heap.size < W2.heap.size := by rw [hW2]; simp
        rw [← hW2]
        clear hW2
        have hbu := HBW2.out.trans (hb2.mono HBW2.out.size)
        have hsa := sum_any k IH A2 cap2 args W2 ((HAR.out.on hbu fun _ _ ⟨x, h1, h2⟩ => ⟨x, h1, VS.up hbu.size (Nat.le_refl _) (VS.on hbu h2)⟩).mono hbu.size fun _ _ h => h)
        have HBU := Lib.hid hbu
        have HVU := Lib.hid (HV.out.trans (hb2.mono HV.out.size))
        clear hb2 hbu c0 c1 c2 c3 c4 c5 c6 c7 c8
        have HA : Hid (wrap64 (p + wrap64 (nodesVs args : Int)) = wrap64 ((1 + nodesVs kids + nodesEs (ents.take j) + nodesVs args : Nat) : Int)) := Lib.hid (by rw [HA0.out]; rfl)
        generalize wrap64 (nodesVs args : Int) = na at hsa HA
        clear HA0
        go_wp2_with (go_at_call 79; refine hsa.mono ?_; rintro e w2 ⟨rfl, hb3⟩; refine Hid.out ?_)
        refine Lib.hid ?_
        clear hsa q0
        have HVW := Lib.hid (HVU.out.trans (hb3.mono HVU.out.size))
        obtain ⟨s1, s2, s3, s4, s5, s6, s7, s8⟩ := HQ.out
        have r1 := (hb3.cell (p := ⟨U.heap.size, 1, none⟩) hlt2).trans s1
        cases fails
        · have r2 := (hb3.cell (p := ⟨U.heap.size, 2, none⟩) hlt2).trans s2
          have r3 := (hb3.cell (p := ⟨U.heap.size, 3, none⟩) hlt2).trans s3
          have r4 := (hb3.cell (p := ⟨U.heap.size, 4, none⟩) hlt2).trans s4
          have r5 := (hb3.cell (p := ⟨U.heap.size, 5, none⟩) hlt2).trans s5
          have r6 := (hb3.cell (p := ⟨U.heap.size, 6, none⟩) hlt2).trans s6
          have r7 := (hb3.cell (p := ⟨U.heap.size, 7, none⟩) hlt2).trans s7
          have r8 := (hb3.cell (p := ⟨U.heap.size, 8, none⟩) hlt2).trans s8
          have hbv := HBU.out.trans (hb3.mono HBU.out.size)
          have hc := IH.out result _ w2 (VS.up hbv.size (Nat.le_refl _) (VS.on hbv HRS.out))
          have HX2 : Hid (wrap64 (wrap64 (p + na) + wrap64 (nodes result : Int)) = wrap64 ((1 + nodesVs kids + nodesEs (ents.take (j + 1)) : Nat) : Int)) := Lib.hid (by rw [HA.out, wrap_add (c := ((1 + nodesVs kids + nodesEs (ents.take (j + 1)) : Nat) : Int)) (by rw [HX.out, nodesE]; simp; omega)])
          clear s1 s2 s3 s4 s5 s6 s7 s8 hbv HX HA hb3
          generalize wrap64 (nodes result : Int) = nr at hc HX2
          go_wp2_with (go_at_call 38; refine hc.mono ?_; rintro e w3 ⟨rfl, hb4⟩; refine Hid.out ?_)
          refine Lib.hid ?_
          clear hc
          go_wp2
          go_roundw
          case rel => exact ⟨j + 1, by go_num, HJN.out, by rw [← HX2.out], HVW.out.trans (hb4.mono HVW.out.size)⟩
          case measure => have := HJN.out; simp [intOf]; omega
        · have HX2 : Hid (wrap64 (p + na) = wrap64 ((1 + nodesVs kids + nodesEs (ents.take (j + 1)) : Nat) : Int)) := Lib.hid (by rw [HA.out, HX.out, nodesE]; simp; congr 1; omega)
          clear s1 s2 s3 s4 s5 s6 s7 s8 HX HA hb3
          go_wp2
          go_roundw
          case rel => exact ⟨j + 1, by go_num, HJN.out, by rw [← HX2.out], HVW.out⟩
          case measure => have := HJN.out; simp [intOf]; omega
      · have hke : ents.take j = ents := List.take_of_length_le (by omega)
        rw [hke]
        go_wp2
        go_ret
        exact ⟨by simp, HBW.out.trans (hb.mono HBW.out.size)⟩
end Go.Proofs.YtjfknigiehggkaaGreat
namespace Go.Proofs.YtjfknigiehggkaaGreat
open Go Go.RowKit Go.WideShapes Go.Deep
theorem addr_plus (b off q : Nat) : (⟨b, off, none⟩ : Addr).add q = ⟨b, off + q, none⟩ := by cases q <;> rfl
/-- the fields of a struct: types and offsets -/
def fieldsOf (P : Program) (t : TypeId) : Option (List (TypeId × Nat)) :=
  match P.underlying t with
  | some (.struct fs) => some (fs.toList.map fun f => (f.type, f.offset))
  | _ => none
theorem fields_struct {P : Program} {t : TypeId} {l : List (TypeId × Nat)} (h : fieldsOf P t = some l) : ∃ fs, P.underlying t = some (.struct fs) ∧ fs.size = l.length ∧ ∀ (i : Nat) (p : TypeId × Nat), l[i]? = some p → ∃ f, fs[i]? = some f ∧ f.type = p.1 ∧ f.offset = p.2 := by
  unfold fieldsOf at h
  split at h
  · rename_i fs hfs
    simp only [Option.some.injEq] at h
    subst h
    refine ⟨fs, hfs, by simp, fun i p hp => ?_⟩
    simp only [List.getElem?_map, Option.map_eq_some_iff] at hp
    obtain ⟨f, hf, rfl⟩ := hp
    exact ⟨f, by simpa using hf, rfl, rfl⟩
  · cases h
section
variable {H : Type} {enc : TypeId × Value → H} {P : Program} {w : World} {spare : Nat → Bool} {held : Bool}
/-- field number i of a struct that reads -/
theorem trod_field {t : TypeId} {l : List (TypeId × Nat)} {k : Nat} {cs : List Value} {x : DataW H × List MemPlace} (hl : fieldsOf P t = some l) (h : DataW.trod enc P w 0 spare held k t cs = some x) :
    ∃ n, k = n + 1 ∧ cs.length = P.cellsOf t ∧ ∀ (i : Nat) (p : TypeId × Nat), l[i]? = some p → ∃ y, DataW.trod enc P w 0 spare held n p.1 ((cs.drop p.2).take (P.cellsOf p.1)) = some y := by
  obtain ⟨fs, hfs, hsz, hf⟩ := fields_struct hl
  obtain ⟨xs, n, hk, _, hlen, hxl, hx⟩ := DataW.trod_struct hfs h
  refine ⟨n, hk, hlen, fun i p hp => ?_⟩
  obtain ⟨f, h1, h2, h3⟩ := hf i p hp
  have := hx i f h1
  rw [h2, h3] at this
  have hi : i < xs.length := by
    have := (List.getElem?_eq_some_iff.1 hp).1
    omega
  exact ⟨xs[i], by rw [this]; exact List.getElem?_eq_getElem hi⟩
theorem open_row {n c : Nat} {t e : TypeId} {u : Value} {y : DataW H × List MemPlace} {α : Type} (R : α → List Value → Prop) (ht : P.underlying t = some (.slice e)) (hc : P.cellsOf e = c) (hpos : 0 < c)
    (h : DataW.trod enc P w 0 spare held n t [u] = some y) (hR : ∀ m cs z, m < n → DataW.trod enc P w 0 spare held m e cs = some z → ∃ x : α, R x cs) :
    ∃ l : List α, RowP w w.heap.size c u l.length (fun j cs => ∃ x, l[j]? = some x ∧ R x cs) := by
  rcases DataW.trod_slice ht h with ⟨h0, _⟩ | ⟨a, len, cap, elems, rest, m, rfl, hu, _, hb, hl, hm, hlen, hel, _⟩
  · simp only [List.cons.injEq, and_true] at h0
    subst h0
    exact ⟨[], none, 0, rfl, ⟨Nat.zero_le _, Nat.le_refl _⟩, fun hn => absurd hn (by simp)⟩
  · simp only [List.cons.injEq, and_true] at hu
    subst hu
    have each : ∀ i : Fin len, ∃ x : α, ∃ cs : List Value, cs.length = c ∧ (∀ q, q < c → w.cell? ((a.add (i.1 * c)).add q) = cs[q]?) ∧ R x cs := by
      intro i
      have h1 := hel i.1 i.2
      rw [List.getElem?_eq_getElem (by omega), hc] at h1
      obtain ⟨cs, h2, h3⟩ := Option.bind_eq_some_iff.1 h1
      obtain ⟨_, h4, h5⟩ := World.cells?_some h2
      obtain ⟨x, hx⟩ := hR m cs _ (by omega) h3
      exact ⟨x, cs, h4, h5, hx⟩
    refine ⟨List.ofFn fun i => Classical.choose (each i), some a, cap, by simp, ⟨by simp; omega, by simp; omega⟩, fun hn => ?_⟩
    rw [List.length_ofFn] at hn
    obtain ⟨b, off, spot⟩ := a
    obtain ⟨cs0, k1, k2, _⟩ := Classical.choose_spec (each ⟨0, hn⟩)
    have hc0 := k2 0 hpos
    rw [List.getElem?_eq_getElem (by omega)] at hc0
    have hspot : spot = none := by simpa [Addr.add] using World.cell?_spot hc0
    subst hspot
    refine ⟨b, off, rfl, ?_, ?_, fun j hj => ?_⟩
    · simpa [Addr.add] using World.block_lt_of_cell? _ _ hc0
    · simpa [Addr.add] using World.block_lt_of_cell? _ _ hc0
    · rw [List.length_ofFn] at hj
      obtain ⟨cs, k3, k4, k5⟩ := Classical.choose_spec (each ⟨j, hj⟩)
      refine ⟨cs, k3, fun i hi => ?_, _, by rw [List.getElem?_ofFn, dif_pos hj], k5⟩
      have := k4 i hi
      rw [addr_plus, addr_plus] at this
      rw [← this]
/-- the types that a value is made of -/
structure ValT (P : Program) (tV tI tL tS tVs tK tKs tE tEs tB tSs : TypeId) : Prop where
  v : fieldsOf P tV = some [(tI, 0), (tL, 1), (tS, 2), (tVs, 3), (tKs, 4), (tEs, 5), (tSs, 6)]
  e : fieldsOf P tE = some [(tVs, 0), (tB, 1), (tV, 2)]
  k : fieldsOf P tK = some [(tI, 0), (tS, 1)]
  i : P.underlying tI = some (.int .i64)
  l : P.underlying tL = some (.int .i64)
  s : P.underlying tS = some .string
  b : P.underlying tB = some .bool
  vs : P.underlying tVs = some (.slice tV)
  ks : P.underlying tKs = some (.slice tK)
  es : P.underlying tEs = some (.slice tE)
  ss : P.underlying tSs = some (.slice tS)
  cells : [tV, tI, tL, tS, tVs, tK, tKs, tE, tEs, tB, tSs].map P.cellsOf = [7, 1, 1, 1, 1, 2, 1, 9, 1, 1, 1]
theorem str_cell (s : ByteArray) : (⟨s.data.toList.toArray⟩ : ByteArray) = s := by cases s; simp
theorem val_of_trod {tV tI tL tS tVs tK tKs tE tEs tB tSs : TypeId} (T : ValT P tV tI tL tS tVs tK tKs tE tEs tB tSs) :
    ∀ (k : Nat) (cs : List Value) (x : DataW H × List MemPlace), DataW.trod enc P w 0 spare held k tV cs = some x → ∃ v, VS k w w.heap.size v cs := by
  have hcl := T.cells
  simp only [List.map_cons, List.map_nil, List.cons.injEq, and_true] at hcl
  obtain ⟨cV, cI, cL, cS, cVs, cK, cKs, cE, cEs, cB, cSs⟩ := hcl
  intro k
  induction k using Nat.strongRecOn with
  | ind k ih =>
  intro cs x h
  obtain ⟨n, rfl, hlen, hf⟩ := trod_field T.v h
  rw [cV] at hlen
  obtain ⟨c0, c1, c2, c3, c4, c5, c6, rfl⟩ : ∃ c0 c1 c2 c3 c4 c5 c6, cs = [c0, c1, c2, c3, c4, c5, c6] := by
    match cs, hlen with
    | [c0, c1, c2, c3, c4, c5, c6], _ => exact ⟨c0, c1, c2, c3, c4, c5, c6, rfl⟩
  obtain ⟨y0, h0⟩ := hf 0 _ rfl
  obtain ⟨y1, h1⟩ := hf 1 _ rfl
  obtain ⟨y2, h2⟩ := hf 2 _ rfl
  obtain ⟨y3, h3⟩ := hf 3 _ rfl
  obtain ⟨y4, h4⟩ := hf 4 _ rfl
  obtain ⟨y5, h5⟩ := hf 5 _ rfl
  obtain ⟨y6, h6⟩ := hf 6 _ rfl
  simp only [cI, cL, cS, cVs, cKs, cEs, cSs, List.drop_zero, List.drop_succ_cons, List.take_succ_cons, List.take_zero] at h0 h1 h2 h3 h4 h5 h6
  obtain ⟨kind, e0, _, w0⟩ := DataW.trod_int T.i h0
  obtain ⟨int, e1, _, w1⟩ := DataW.trod_int T.l h1
  obtain ⟨text, e2, _, w2⟩ := DataW.trod_string T.s h2
  simp only [List.cons.injEq, and_true] at e0 e1 e2
  subst e0 e1 e2
  have kidsOf : ∀ m u (y : DataW H × List MemPlace), m ≤ n → DataW.trod enc P w 0 spare held m tVs [u] = some y → ∃ l : List Vl, RowP w w.heap.size 7 u l.length (fun j cs => ∃ x, l[j]? = some x ∧ VS n w w.heap.size x cs) := by
    intro m u y hm hy
    refine open_row (fun x cs => VS n w w.heap.size x cs) T.vs cV (by omega) hy fun m' cs z hlt hz => ?_
    obtain ⟨v, hv⟩ := ih m' (by omega) cs z hz
    exact ⟨v, hv.up (Nat.le_refl _) (by omega)⟩
  obtain ⟨kids, hk⟩ := kidsOf n c3 y3 (Nat.le_refl _) h3
  obtain ⟨keys, hy⟩ := open_row (α := Int × List UInt8) (fun x cs => cs = [.int .i64 x.1, .string ⟨x.2.toArray⟩] ∧ (Lit.int .i64 x.1).wf = true ∧ x.2.length ≤ maxLen) T.ks cK (by omega) h4 (by
    intro m cs z _ hz
    obtain ⟨q, rfl, hl, hg⟩ := trod_field T.k hz
    rw [cK] at hl
    obtain ⟨a, b, rfl⟩ : ∃ a b, cs = [a, b] := by
      match cs, hl with
      | [a, b], _ => exact ⟨a, b, rfl⟩
    obtain ⟨z0, g0⟩ := hg 0 _ rfl
    obtain ⟨z1, g1⟩ := hg 1 _ rfl
    simp only [cI, cS, List.drop_zero, List.drop_succ_cons, List.take_succ_cons, List.take_zero] at g0 g1
    obtain ⟨i, e0, _, wi⟩ := DataW.trod_int T.i g0
    obtain ⟨s, e1, _, ws⟩ := DataW.trod_string T.s g1
    simp only [List.cons.injEq, and_true] at e0 e1
    subst e0 e1
    exact ⟨(i, s.data.toList), by rw [str_cell], wi, by simpa using ws⟩)
  obtain ⟨ents, he⟩ := open_row (α := En) (fun x cs => ∃ args fails result, x = .mk args fails result ∧ ∃ ua rs, cs = ua :: .bool fails :: rs ∧ RowP w w.heap.size 7 ua args.length (fun j cs => ∃ x, args[j]? = some x ∧ VS n w w.heap.size x cs) ∧ VS n w w.heap.size result rs) T.es cE (by omega) h5 (by
    intro m cs z hm hz
    obtain ⟨q, rfl, hl, hg⟩ := trod_field T.e hz
    rw [cE] at hl
    obtain ⟨ua, ub, rs, rfl, hrs⟩ : ∃ ua ub rs, cs = ua :: ub :: rs ∧ rs.length = 7 := by
      match cs, hl with
      | ua :: ub :: rs, hl => exact ⟨ua, ub, rs, rfl, by simpa using hl⟩
    obtain ⟨z0, g0⟩ := hg 0 _ rfl
    obtain ⟨z1, g1⟩ := hg 1 _ rfl
    obtain ⟨z2, g2⟩ := hg 2 _ rfl
    simp only [cVs, cB, cV, List.drop_zero, List.drop_succ_cons, List.take_succ_cons, List.take_zero] at g0 g1 g2
    rw [← hrs, List.take_length] at g2
    obtain ⟨args, ha⟩ := kidsOf q ua z0 (by omega) g0
    obtain ⟨fails, e1, _⟩ := DataW.trod_bool T.b g1
    simp only [List.cons.injEq, and_true] at e1
    subst e1
    obtain ⟨result, hr⟩ := ih q (by omega) rs z2 g2
    exact ⟨.mk args fails result, args, fails, result, rfl, ua, rs, rfl, ha, hr.up (Nat.le_refl _) (by omega)⟩)
  obtain ⟨labels, hb⟩ := open_row (α := List UInt8) (fun x cs => cs = [.string ⟨x.toArray⟩] ∧ x.length ≤ maxLen) T.ss cS (by omega) h6 (by
    intro m cs z _ hz
    obtain ⟨s, rfl, _, ws⟩ := DataW.trod_string T.s hz
    exact ⟨s.data.toList, by rw [str_cell], by simpa using ws⟩)
  refine ⟨.mk kind int text.data.toList kids keys ents labels, c3, c4, c5, c6, by rw [str_cell], w0, w1, by simpa using w2, hk, hy, he.mono (Nat.le_refl _) ?_, hb⟩
  rintro j cs ⟨x, hx, args, fails, result, rfl, hrest⟩
  exact ⟨args, fails, result, hx, hrest⟩
end
end Go.Proofs.YtjfknigiehggkaaGreat
namespace Go.Proofs.YtjfknigiehggkaaGreat
open Go.ChangeShapes Go.WideShapes Go.ChangeAt Go.RowKit Go.Joins Go.Deep
theorem own : ownKnob Tryz.prog.godebug = none := by kernel_rfl
theorem laidOut : laidOutB Tryz.prog = true := by kernel_rfl
set_option maxRecDepth 100000 in
theorem valT : ValT Tryz.prog 27 3 2 9 22 74 23 55 24 4 25 where
  v := by kernel_rfl
  e := by kernel_rfl
  k := by kernel_rfl
  i := by kernel_rfl
  l := by kernel_rfl
  s := by kernel_rfl
  b := by kernel_rfl
  vs := by kernel_rfl
  ks := by kernel_rfl
  es := by kernel_rfl
  ss := by kernel_rfl
  cells := by kernel_rfl
set_option maxRecDepth 100000 in
theorem value_of_trod {H : Type} {enc : TypeId × Value → H} {W : World} {base : Nat} {v : Value} {d : DataW H} {p : List MemPlace} (hval : Value.okWide Tryz.prog W .any base 27 v) (h : DataW.Trod enc Tryz.prog W 0 (fun _ => true) true 27 v d p) :
    ∃ k u cs, v = .agg cs.toArray ∧ VS k W W.heap.size u cs := by
  obtain ⟨fs, hfs, _⟩ := fields_struct valT.v
  obtain ⟨cs, rfl, hsz⟩ := okWide_struct hfs hval
  obtain ⟨fuel, hf⟩ := h
  have hc : (Value.agg cs).cells.toList = cs.toList := rfl
  rw [hc] at hf
  obtain ⟨u, hu⟩ := val_of_trod valT fuel cs.toList _ hf
  exact ⟨fuel, u, cs.toList, by simp, hu⟩
end Go.Proofs.YtjfknigiehggkaaGreat
namespace Go.Proofs.YtjfknigiehggkaaGreat
open Go.RowKit
set_option maxHeartbeats 400000 in
theorem lower_any (c : Int) (w : World) :
    Calls Tryz.prog 52 #[.int .u8 c] w fun e w' => e = .returned (.bool (lowB c)) ∧ w = w' := by
  go_enter Tryz.func52, Tryz.ntmps52
  go_wp2
  all_goals go_ret
  all_goals exact ⟨ret_bool (by unfold lowB; simp; omega), rfl⟩
set_option maxHeartbeats 400000 in
theorem upper_any (c : Int) (w : World) :
    Calls Tryz.prog 75 #[.int .u8 c] w fun e w' => e = .returned (.bool (upB c)) ∧ w = w' := by
  go_enter Tryz.func75, Tryz.ntmps75
  go_wp2
  all_goals go_ret
  all_goals exact ⟨ret_bool (by unfold upB; simp; omega), rfl⟩
set_option maxHeartbeats 400000 in
theorem digit_any (c : Int) (w : World) :
    Calls Tryz.prog 53 #[.int .u8 c] w fun e w' => e = .returned (.bool (digB c)) ∧ w = w' := by
  go_enter Tryz.func53, Tryz.ntmps53
  go_wp2
  all_goals go_ret
  all_goals exact ⟨ret_bool (by unfold digB; simp; omega), rfl⟩
set_option maxHeartbeats 800000 in
theorem refIsAtom_any (s : ByteArray) (w : World) (hs : s.size ≤ maxLen) :
    Calls Tryz.prog 25 #[.string s] w fun e w' => e = .returned (.bool (atomB s.data.toList)) ∧ w = w' := by
  unfold maxLen at hs
  unfold atomB
  by_cases h1 : s.size < 1
  · go_enter Tryz.func25, Tryz.ntmps25
    go_wp2
    go_ret
    exact ⟨ret_bool (nameB_false _ _ _ (by omega)).symm, rfl⟩
  · by_cases h2 : 16 < s.size
    · go_enter Tryz.func25, Tryz.ntmps25
      go_wp2
      go_ret
      exact ⟨ret_bool (nameB_false _ _ _ (by omega)).symm, rfl⟩
    · have h3 : 0 < s.size := by omega
      cases h4 : lowB (s[0]'h3).toNat
      · go_enter Tryz.func25, Tryz.ntmps25
        go_wp2_with (go_at_call 52; refine (lower_any _ _).mono ?_; rintro e w' ⟨rfl, rfl⟩)
        go_ret
        exact ⟨ret_bool (nameB_false _ _ _ (.inr (.inr (.inl ⟨h3, h4⟩)))).symm, rfl⟩
      · go_enter Tryz.func25, Tryz.ntmps25
        go_wp2_with (go_at_call 52; refine (lower_any _ _).mono ?_; rintro e w' ⟨rfl, rfl⟩)
        go_loop [3] (fun i => ∃ k : Nat, 1 ≤ k ∧ k ≤ s.size ∧ i = .int .i64 k ∧ ∀ j (h : j < s.size), 1 ≤ j → j < k → atomT (s[j]'h).toNat = true) (fun i => s.size - (intOf i).toNat)
        case atStart => exact ⟨1, by omega, by omega, rfl, fun j h a b => by omega⟩
        case round =>
          obtain ⟨k, hk1, hk, rfl, hall⟩ := hrel
          have HA := Lib.hid hall
          clear hall
          go_wp2_with (first | (go_at_call 52; refine (lower_any _ _).mono ?_; rintro e w' ⟨rfl, rfl⟩) | (go_at_call 53; refine (digit_any _ _).mono ?_; rintro e w' ⟨rfl, rfl⟩))
          · go_round
            case rel => exact ⟨k + 1, by omega, by omega, by go_num, nameStep HA ‹_› (by simp_all [atomT])⟩
            case measure => simp [intOf]; omega
          · go_round
            case rel => exact ⟨k + 1, by omega, by omega, by go_num, nameStep HA ‹_› (by simp_all [atomT])⟩
            case measure => simp [intOf]; omega
          · go_ret
            exact ⟨ret_bool (nameB_false _ _ _ (.inr (.inr (.inr ⟨k, ‹_›, hk1, by simp_all [atomT]⟩)))).symm, rfl⟩
          · go_round
            case rel => exact ⟨k + 1, by omega, by omega, by go_num, nameStep HA ‹_› (by simp_all [atomT])⟩
            case measure => simp [intOf]; omega
          · go_ret
            exact ⟨ret_bool (nameB_true _ _ _ h3 (by omega) h4 (fun j h a => HA.out j h a (by omega))).symm, rfl⟩
set_option maxHeartbeats 800000 in
theorem refIsVariable_any (s : ByteArray) (w : World) (hs : s.size ≤ maxLen) :
    Calls Tryz.prog 33 #[.string s] w fun e w' => e = .returned (.bool (varB s.data.toList)) ∧ w = w' := by
  unfold maxLen at hs
  unfold varB
  by_cases h1 : s.size < 1
  · go_enter Tryz.func33, Tryz.ntmps33
    go_wp2
    go_ret
    exact ⟨ret_bool (nameB_false _ _ _ (by omega)).symm, rfl⟩
  · by_cases h2 : 16 < s.size
    · go_enter Tryz.func33, Tryz.ntmps33
      go_wp2
      go_ret
      exact ⟨ret_bool (nameB_false _ _ _ (by omega)).symm, rfl⟩
    · have h3 : 0 < s.size := by omega
      cases h4 : upB (s[0]'h3).toNat
      · go_enter Tryz.func33, Tryz.ntmps33
        go_wp2_with (go_at_call 75; refine (upper_any _ _).mono ?_; rintro e w' ⟨rfl, rfl⟩)
        go_ret
        exact ⟨ret_bool (nameB_false _ _ _ (.inr (.inr (.inl ⟨h3, h4⟩)))).symm, rfl⟩
      · go_enter Tryz.func33, Tryz.ntmps33
        go_wp2_with (go_at_call 75; refine (upper_any _ _).mono ?_; rintro e w' ⟨rfl, rfl⟩)
        go_loop [3] (fun i => ∃ k : Nat, 1 ≤ k ∧ k ≤ s.size ∧ i = .int .i64 k ∧ ∀ j (h : j < s.size), 1 ≤ j → j < k → varT (s[j]'h).toNat = true) (fun i => s.size - (intOf i).toNat)
        case atStart => exact ⟨1, by omega, by omega, rfl, fun j h a b => by omega⟩
        case round =>
          obtain ⟨k, hk1, hk, rfl, hall⟩ := hrel
          have HA := Lib.hid hall
          clear hall
          go_wp2_with (first | (go_at_call 52; refine (lower_any _ _).mono ?_; rintro e w' ⟨rfl, rfl⟩) | (go_at_call 75; refine (upper_any _ _).mono ?_; rintro e w' ⟨rfl, rfl⟩) | (go_at_call 53; refine (digit_any _ _).mono ?_; rintro e w' ⟨rfl, rfl⟩))
          · go_round
            case rel => exact ⟨k + 1, by omega, by omega, by go_num, nameStep HA ‹_› (by simp_all [varT])⟩
            case measure => simp [intOf]; omega
          · go_round
            case rel => exact ⟨k + 1, by omega, by omega, by go_num, nameStep HA ‹_› (by simp_all [varT])⟩
            case measure => simp [intOf]; omega
          · go_round
            case rel => exact ⟨k + 1, by omega, by omega, by go_num, nameStep HA ‹_› (by simp_all [varT])⟩
            case measure => simp [intOf]; omega
          · go_ret
            exact ⟨ret_bool (nameB_false _ _ _ (.inr (.inr (.inr ⟨k, ‹_›, hk1, by simp_all [varT]⟩)))).symm, rfl⟩
          · go_round
            case rel => exact ⟨k + 1, by omega, by omega, by go_num, nameStep HA ‹_› (by simp_all [varT])⟩
            case measure => simp [intOf]; omega
          · go_ret
            exact ⟨ret_bool (nameB_true _ _ _ h3 (by omega) h4 (fun j h a => HA.out j h a (by omega))).symm, rfl⟩
set_option maxHeartbeats 400000 in
theorem refValidKey_any (k : Int) (s : ByteArray) (w : World) (hs : s.size ≤ maxLen) :
    Calls Tryz.prog 59 #[.agg #[.int .i64 k, .string s]] w fun e w' => e = .returned (.bool (keyB k s.data.toList)) ∧ Below w.heap.size w w' := by
  have hs' := hs
  unfold maxLen at hs'
  have hlen : s.data.toList.length = s.size := by simp
  by_cases h0 : k = 0
  · subst h0
    go_enter Tryz.func59, Tryz.ntmps59
    go_wp2_with (go_at_call 25; refine (refIsAtom_any _ _ hs).mono ?_; rintro e w' ⟨rfl, rfl⟩)
    all_goals go_ret
    all_goals exact ⟨ret_bool (by simp_all [keyB]), (Below.refl _ _).alloc (Nat.le_refl _) _⟩
  · by_cases h1 : k = 1
    · subst h1
      go_enter Tryz.func59, Tryz.ntmps59
      go_wp2
      go_ret
      exact ⟨ret_bool (by simp [keyB] <;> omega), (Below.refl _ _).alloc (Nat.le_refl _) _⟩
    · go_enter Tryz.func59, Tryz.ntmps59
      go_wp2
      go_ret
      exact ⟨ret_bool (by simp [keyB, h0, h1]), (Below.refl _ _).alloc (Nat.le_refl _) _⟩
end Go.Proofs.YtjfknigiehggkaaGreat
