/- Function of the document. -/
import Derived.Test.YtjfknigiehggkaaGreatVv34
namespace Go.Proofs.YtjfknigiehggkaaGreat
open Go Go.RowKit
abbrev RowE (k lo : Nat) (w : World) (v : Value) (l : List En) : Prop := RowB w (Btw lo w.heap.size) 9 v l.length (fun j cs => ∃ x, l[j]? = some x ∧ EnB k x w (Btw lo w.heap.size) cs)
theorem EnB.keep {k : Nat} {x : En} {w w' : World} {B : Nat → Prop} {cs : List Value} (h : EnB k x w B cs) (hs : Same B w w') : EnB k x w' B cs := (elE k).keep hs h
theorem EnB.sub {k : Nat} {x : En} {w : World} {B B' : Nat → Prop} {cs : List Value} (h : EnB k x w B cs) (hs : ∀ b, B b → B' b) : EnB k x w B' cs := (elE k).sub hs h
theorem EnB.toK {k : Nat} {x : En} {w : World} {B : Nat → Prop} {cs : List Value} (h : EnB k x w B cs) : ∃ args fails result, x = .mk args fails result ∧ ∃ ua rs, cs = ua :: .bool fails :: rs ∧ RowB w B 7 ua args.length (fun j cs => ∃ x, args[j]? = some x ∧ VB k w B x cs) ∧ VB k w B result rs := h
def funB (a : Int) (l : List En) : Bool := decide (0 ≤ a ∧ a ≤ 4) && l.all (entB a)
def funV (a : Int) (l : List En) : Vl := .mk 9 a [] [] [] l []
def FunR (k lo : Nat) (a : Int) (l : List En) (w : World) (e : Ending) (w' : World) : Prop :=
  Below w.heap.size w w' ∧ ((funB a l = true ∧ ∃ cs, e = .returned (.tuple #[.agg cs.toArray, .int .i64 0]) ∧ VB (k + 1) w' (Btw lo w'.heap.size) (funV a (srtC cmpE l)) cs) ∨ (funB a l = false ∧ e = .returned (.tuple #[.agg #[.int .i64 0, .int .i64 0, .string ⟨#[]⟩, .slice none 0 0, .slice none 0 0, .slice none 0 0, .slice none 0 0], .int .i64 1])))
set_option maxRecDepth 100000 in
set_option maxHeartbeats 3200000 in
theorem refFunction_any (k lo : Nat) (a : Int) (A : Option Addr) (c : Nat) (l : List En) (w : World) (hlo : lo ≤ w.heap.size) (hl : RowE k lo w (.slice A l.length c) l) (hn : l.length ≤ 100000) (haw : (Lit.int .i64 a).wf = true) :
    Calls Tryz.prog 31 #[.int .i64 a, .slice A l.length c] w (FunR k lo a l w) := by
  obtain ⟨W0, hW0⟩ : ∃ W0, W0 = w.alloc (.cells #[.int .i64 0, .int .i64 0, .string ⟨#[]⟩, .slice none 0 0, .slice none 0 0, .slice none 0 0, .slice none 0 0] 27) := ⟨_, rfl⟩
  have hba : Below w.heap.size w W0 := by rw [hW0]; exact (Below.refl _ _).alloc (Nat.le_refl _) _
  have hz0 : W0.heap.size = w.heap.size + 1 := by rw [hW0]; simp
  have k0 : W0.heap[w.heap.size]? = some (.cells #[.int .i64 0, .int .i64 0, .string ⟨#[]⟩, .slice none 0 0, .slice none 0 0, .slice none 0 0, .slice none 0 0] 27 (0, 0)) := by rw [hW0]; exact heap_alloc_new w _
  have HL := Lib.hid hl
  clear hl
  by_cases ha1 : a < 0
  · have q1 : decide (a < 0) = true := by simpa using ha1
    have hfb : funB a l = false := by unfold funB; simp; omega
    have HF := Lib.hid hfb
    clear hfb
    generalize hLN : l.length = n at *
    go_enter Tryz.func31, Tryz.ntmps31
    go_wp2_with fail
    rw [← hW0]
    clear hW0
    obtain ⟨e0, e1, e2, e3, e4, e5, e6⟩ := cells7 k0
    obtain ⟨z0, z1, z2, z3, z4, z5, z6⟩ := frozen7 k0
    go_wp2
    have hBV : Below w.heap.size w W0 := hba
    clear z0 z1 z2 z3 z4 z5 z6
    obtain ⟨ps0, ps1, ps2, ps3, ps4, ps5, ps6⟩ := cells7 k0
    refine bodyPost_ret (v := .tuple #[.agg #[Value.int .i64 0, Value.int .i64 0, Value.string ⟨#[]⟩, Value.slice none 0 0, Value.slice none 0 0, Value.slice none 0 0, Value.slice none 0 0], .int .i64 1]) (by simp [results, Tryz.results31, go_sem, ps0, ps1, ps2, ps3, ps4, ps5, ps6]) rfl ?_
    exact ⟨hBV, .inr ⟨HF.out, rfl⟩⟩
  have q1 : decide (a < 0) = false := by simpa using ha1
  by_cases ha4 : 4 < a
  · have q4 : decide (4 < a) = true := by simpa using ha4
    have hfb : funB a l = false := by unfold funB; simp; omega
    have HF := Lib.hid hfb
    clear hfb
    generalize hLN : l.length = n at *
    go_enter Tryz.func31, Tryz.ntmps31
    go_wp2_with fail
    rw [← hW0]
    clear hW0
    obtain ⟨e0, e1, e2, e3, e4, e5, e6⟩ := cells7 k0
    obtain ⟨z0, z1, z2, z3, z4, z5, z6⟩ := frozen7 k0
    go_wp2
    have hBV : Below w.heap.size w W0 := hba
    clear z0 z1 z2 z3 z4 z5 z6
    obtain ⟨ps0, ps1, ps2, ps3, ps4, ps5, ps6⟩ := cells7 k0
    refine bodyPost_ret (v := .tuple #[.agg #[Value.int .i64 0, Value.int .i64 0, Value.string ⟨#[]⟩, Value.slice none 0 0, Value.slice none 0 0, Value.slice none 0 0, Value.slice none 0 0], .int .i64 1]) (by simp [results, Tryz.results31, go_sem, ps0, ps1, ps2, ps3, ps4, ps5, ps6]) rfl ?_
    exact ⟨hBV, .inr ⟨HF.out, rfl⟩⟩
  have q4 : decide (4 < a) = false := by simpa using ha4
  have har : decide (0 ≤ a ∧ a ≤ 4) = true := by simp; omega
  have HAR := Lib.hid har
  clear har
  generalize hLN : l.length = n at *
  have HN := Lib.hid hLN
  clear hLN
  go_enter Tryz.func31, Tryz.ntmps31
  go_wp2_with fail
  rw [← hW0]
  clear hW0
  go_loopw [6] (fun i wr => ∃ (j : Nat), i = .int .i64 j ∧ j ≤ n ∧ (∀ x ∈ l.take j, entB a x = true) ∧ Below W0.heap.size W0 wr) (fun i _ => n - (intOf i).toNat)
  case atStart => exact ⟨0, rfl, by omega, by simp, Below.refl _ _⟩
  case round =>
    obtain ⟨j, rfl, hj, hall, hb⟩ := hrel
    have hbw : Below w.heap.size w wr := hba.trans (hb.mono hba.size)
    have k1 : wr.heap[w.heap.size]? = some (.cells #[.int .i64 0, .int .i64 0, .string ⟨#[]⟩, .slice none 0 0, .slice none 0 0, .slice none 0 0, .slice none 0 0] 27 (0, 0)) := (hb.block _ (by omega)).trans k0
    have HA := Lib.hid hall
    clear hall
    by_cases hjn : j < n
    · obtain ⟨bs, offs, cap9, v0, v1, t0, t1, t2, t3, t4, t5, t6, hu, hbs, ⟨x, hx, hE⟩, c0, c1, c2, c3, c4, c5, c6, c7, c8⟩ := RowB.at9 (H := w.heap.size) (j := j) (RowB.sub HL.out (fun _ h => h.2) (fun _ _ h => h)) (by have := HN.out; omega)
      injection hu with hA hNN hcc
      subst hA
      clear hNN hcc
      have kn : (j : Int) < (n : Int) := by omega
      have kp : (0 : Int) ≤ (j : Int) := by omega
      have hEk := EnB.keep hE (.of_below hbw fun _ h => h.2)
      obtain ⟨args, fails, result, rfl, ua, rs, hcs, hra, hrr⟩ := hE.toK
      simp only [List.cons.injEq] at hcs
      obtain ⟨rfl, rfl, rfl⟩ := hcs
      obtain ⟨Aa, ca, rfl, _⟩ := hra.form
      have s0 : wr.cell? ⟨bs, offs + j * 9, none⟩ = some (.slice Aa args.length ca) := (hbw.cell (p := ⟨bs, _, none⟩) hbs).trans c0
      have s1 : wr.cell? ⟨bs, offs + j * 9 + 1, none⟩ = some (.bool fails) := (hbw.cell (p := ⟨bs, _, none⟩) hbs).trans c1
      have s2 : wr.cell? ⟨bs, offs + j * 9 + 2, none⟩ = some (t0) := (hbw.cell (p := ⟨bs, _, none⟩) hbs).trans c2
      have s3 : wr.cell? ⟨bs, offs + j * 9 + 3, none⟩ = some (t1) := (hbw.cell (p := ⟨bs, _, none⟩) hbs).trans c3
      have s4 : wr.cell? ⟨bs, offs + j * 9 + 4, none⟩ = some (t2) := (hbw.cell (p := ⟨bs, _, none⟩) hbs).trans c4
      have s5 : wr.cell? ⟨bs, offs + j * 9 + 5, none⟩ = some (t3) := (hbw.cell (p := ⟨bs, _, none⟩) hbs).trans c5
      have s6 : wr.cell? ⟨bs, offs + j * 9 + 6, none⟩ = some (t4) := (hbw.cell (p := ⟨bs, _, none⟩) hbs).trans c6
      have s7 : wr.cell? ⟨bs, offs + j * 9 + 7, none⟩ = some (t5) := (hbw.cell (p := ⟨bs, _, none⟩) hbs).trans c7
      have s8 : wr.cell? ⟨bs, offs + j * 9 + 8, none⟩ = some (t6) := (hbw.cell (p := ⟨bs, _, none⟩) hbs).trans c8
      clear c0 c1 c2 c3 c4 c5 c6 c7 c8
      have HX := Lib.hid (And.intro hx hE)
      have hk0 : 0 < k := by
        cases k with
        | zero => exact hrr.elim
        | succ k => omega
      have hq : ∀ V, Below w.heap.size w V → Calls Tryz.prog 20 #[.agg #[t0, t1, t2, t3, t4, t5, t6], .agg #[.int .i64 0, .int .i64 0, .string ⟨#[]⟩, .slice none 0 0, .slice none 0 0, .slice none 0 0, .slice none 0 0]] V fun e w' => e = .returned (.bool (isZ result)) ∧ Below V.heap.size V w' := fun V hV => by
        have hh := VB.sub (B' := fun b => b < V.heap.size) (fun b (hb : Btw lo w.heap.size b) => by have := hb.2; have := hV.size; omega) (Nat.le_refl k) (VB.keep (.of_below hV fun _ h => h.2) hrr)
        obtain ⟨q, rfl⟩ : ∃ q, k = q + 1 := ⟨k - 1, by omega⟩
        exact refEqual_any (q + 1) result zeroV _ _ V hh (zeroVB q V _)
      have hqr := hq wr hbw
      have HEB : Hid (entB a (.mk args fails result) = (decide ((args.length : Int) = a) && (!fails || isZ result))) := Lib.hid rfl
      clear hx hE hEk hra hrr hq
      generalize hz : isZ result = zr at hqr HEB
      clear hz
      generalize hla : args.length = la at s0 HEB
      clear hla
      by_cases hlen : (la : Int) = a
      · have hlb : ((la : Int) != a) = false := by simpa using hlen
        cases fails
        · have HT : Hid (entB a (.mk args false result) = true) := Lib.hid (by rw [HEB.out]; simp [hlen])
          go_wp2_with fail
          go_roundw
          case rel =>
            refine ⟨j + 1, by go_num, by omega, fun z hz => ?_, hb⟩
            rw [List.take_add_one, HX.out.1] at hz
            rcases List.mem_append.1 hz with hz | hz
            · exact HA.out z hz
            · have hz' := Option.mem_toList.1 hz
              injection hz' with hz'
              rw [← hz']; exact HT.out
          case measure => simp [intOf]; try omega
        · go_wp2_with fail
          refine hqr.mono ?_
          rintro e w10 ⟨rfl, hb10⟩
          have hb10' : Below W0.heap.size W0 w10 := hb.trans (hb10.mono hb.size)
          have hbw10 : Below w.heap.size w w10 := hbw.trans (hb10.mono hbw.size)
          have k2 : w10.heap[w.heap.size]? = some (.cells #[.int .i64 0, .int .i64 0, .string ⟨#[]⟩, .slice none 0 0, .slice none 0 0, .slice none 0 0, .slice none 0 0] 27 (0, 0)) := (hb10'.block _ (by omega)).trans k0
          clear hqr
          cases zr
          · have HF : Hid (funB a l = false) := Lib.hid (by
              unfold funB
              rw [Bool.and_eq_false_iff]
              right
              rw [List.all_eq_false]
              exact ⟨_, List.mem_of_getElem? HX.out.1, by rw [HEB.out]; simp⟩)
            obtain ⟨e0, e1, e2, e3, e4, e5, e6⟩ := cells7 k2
            obtain ⟨z0, z1, z2, z3, z4, z5, z6⟩ := frozen7 k2
            go_wp2
            obtain ⟨V, hV⟩ : ∃ V, V = (((((((w10.setCell ⟨w.heap.size, 0, none⟩ (Value.int .i64 0)).setCell ⟨w.heap.size, 1, none⟩ (Value.int .i64 0)).setCell ⟨w.heap.size, 2, none⟩ (Value.string ⟨#[]⟩)).setCell ⟨w.heap.size, 3, none⟩ (Value.slice none 0 0)).setCell ⟨w.heap.size, 4, none⟩ (Value.slice none 0 0)).setCell ⟨w.heap.size, 5, none⟩ (Value.slice none 0 0)).setCell ⟨w.heap.size, 6, none⟩ (Value.slice none 0 0)) := ⟨_, rfl⟩
            rw [← hV]
            have hob : V.heap[w.heap.size]? = some (.cells #[Value.int .i64 0, Value.int .i64 0, Value.string ⟨#[]⟩, Value.slice none 0 0, Value.slice none 0 0, Value.slice none 0 0, Value.slice none 0 0] 27 (0, 0)) := by rw [hV]; exact obj7 k2 (Value.int .i64 0) (Value.int .i64 0) (Value.string ⟨#[]⟩) (Value.slice none 0 0) (Value.slice none 0 0) (Value.slice none 0 0) (Value.slice none 0 0)
            have hBV : Below w.heap.size w V := by rw [hV]; exact Below.setCell (Below.setCell (Below.setCell (Below.setCell (Below.setCell (Below.setCell (Below.setCell (hbw10) (p := ⟨w.heap.size, 0, none⟩) (Nat.le_refl _) _) (p := ⟨w.heap.size, 1, none⟩) (Nat.le_refl _) _) (p := ⟨w.heap.size, 2, none⟩) (Nat.le_refl _) _) (p := ⟨w.heap.size, 3, none⟩) (Nat.le_refl _) _) (p := ⟨w.heap.size, 4, none⟩) (Nat.le_refl _) _) (p := ⟨w.heap.size, 5, none⟩) (Nat.le_refl _) _) (p := ⟨w.heap.size, 6, none⟩) (Nat.le_refl _) _
            have hszV : V.heap.size = w10.heap.size := by rw [hV]; simp
            have hsm : ∀ B : Nat → Prop, ¬ B w.heap.size → Same B w10 V := fun B h => by rw [hV]; exact same_setCell (same_setCell (same_setCell (same_setCell (same_setCell (same_setCell (same_setCell ((Same.refl _ _)) h) h) h) h) h) h) h
            clear hV e0 z0 e1 z1 e2 z2 e3 z3 e4 z4 e5 z5 e6 z6
            obtain ⟨ps0, ps1, ps2, ps3, ps4, ps5, ps6⟩ := cells7 hob
            refine bodyPost_ret (v := .tuple #[.agg #[Value.int .i64 0, Value.int .i64 0, Value.string ⟨#[]⟩, Value.slice none 0 0, Value.slice none 0 0, Value.slice none 0 0, Value.slice none 0 0], .int .i64 1]) (by simp [results, Tryz.results31, go_sem, ps0, ps1, ps2, ps3, ps4, ps5, ps6]) rfl ?_
            exact ⟨hBV, .inr ⟨HF.out, rfl⟩⟩
          · have HT : Hid (entB a (.mk args true result) = true) := Lib.hid (by rw [HEB.out]; simp [hlen])
            clear k1 k2
            go_wp2_with fail
            go_roundw
            case rel =>
              refine ⟨j + 1, by go_num, by omega, fun z hz => ?_, hb10'⟩
              rw [List.take_add_one, HX.out.1] at hz
              rcases List.mem_append.1 hz with hz | hz
              · exact HA.out z hz
              · have hz' := Option.mem_toList.1 hz
                injection hz' with hz'
                rw [← hz']; exact HT.out
            case measure => simp [intOf]; try omega
      · have hlb : ((la : Int) != a) = true := by simpa using hlen
        have HF : Hid (funB a l = false) := Lib.hid (by
          unfold funB
          rw [Bool.and_eq_false_iff]
          right
          rw [List.all_eq_false]
          exact ⟨_, List.mem_of_getElem? HX.out.1, by rw [HEB.out]; simp [hlen]⟩)
        obtain ⟨e0, e1, e2, e3, e4, e5, e6⟩ := cells7 k1
        obtain ⟨z0, z1, z2, z3, z4, z5, z6⟩ := frozen7 k1
        go_wp2
        obtain ⟨V, hV⟩ : ∃ V, V = (((((((wr.setCell ⟨w.heap.size, 0, none⟩ (Value.int .i64 0)).setCell ⟨w.heap.size, 1, none⟩ (Value.int .i64 0)).setCell ⟨w.heap.size, 2, none⟩ (Value.string ⟨#[]⟩)).setCell ⟨w.heap.size, 3, none⟩ (Value.slice none 0 0)).setCell ⟨w.heap.size, 4, none⟩ (Value.slice none 0 0)).setCell ⟨w.heap.size, 5, none⟩ (Value.slice none 0 0)).setCell ⟨w.heap.size, 6, none⟩ (Value.slice none 0 0)) := ⟨_, rfl⟩
        rw [← hV]
        have hob : V.heap[w.heap.size]? = some (.cells #[Value.int .i64 0, Value.int .i64 0, Value.string ⟨#[]⟩, Value.slice none 0 0, Value.slice none 0 0, Value.slice none 0 0, Value.slice none 0 0] 27 (0, 0)) := by rw [hV]; exact obj7 k1 (Value.int .i64 0) (Value.int .i64 0) (Value.string ⟨#[]⟩) (Value.slice none 0 0) (Value.slice none 0 0) (Value.slice none 0 0) (Value.slice none 0 0)
        have hBV : Below w.heap.size w V := by rw [hV]; exact Below.setCell (Below.setCell (Below.setCell (Below.setCell (Below.setCell (Below.setCell (Below.setCell (hbw) (p := ⟨w.heap.size, 0, none⟩) (Nat.le_refl _) _) (p := ⟨w.heap.size, 1, none⟩) (Nat.le_refl _) _) (p := ⟨w.heap.size, 2, none⟩) (Nat.le_refl _) _) (p := ⟨w.heap.size, 3, none⟩) (Nat.le_refl _) _) (p := ⟨w.heap.size, 4, none⟩) (Nat.le_refl _) _) (p := ⟨w.heap.size, 5, none⟩) (Nat.le_refl _) _) (p := ⟨w.heap.size, 6, none⟩) (Nat.le_refl _) _
        have hszV : V.heap.size = wr.heap.size := by rw [hV]; simp
        have hsm : ∀ B : Nat → Prop, ¬ B w.heap.size → Same B wr V := fun B h => by rw [hV]; exact same_setCell (same_setCell (same_setCell (same_setCell (same_setCell (same_setCell (same_setCell ((Same.refl _ _)) h) h) h) h) h) h) h
        clear hV e0 z0 e1 z1 e2 z2 e3 z3 e4 z4 e5 z5 e6 z6
        obtain ⟨ps0, ps1, ps2, ps3, ps4, ps5, ps6⟩ := cells7 hob
        refine bodyPost_ret (v := .tuple #[.agg #[Value.int .i64 0, Value.int .i64 0, Value.string ⟨#[]⟩, Value.slice none 0 0, Value.slice none 0 0, Value.slice none 0 0, Value.slice none 0 0], .int .i64 1]) (by simp [results, Tryz.results31, go_sem, ps0, ps1, ps2, ps3, ps4, ps5, ps6]) rfl ?_
        exact ⟨hBV, .inr ⟨HF.out, rfl⟩⟩
    · have hke : l.take j = l := List.take_of_length_le (by have := HN.out; omega)
      have HF : Hid (funB a l = true) := Lib.hid (by
        unfold funB
        rw [HAR.out, Bool.true_and, List.all_eq_true]
        have := HA.out
        rw [hke] at this
        exact this)
      clear hke
      have hc : Calls Tryz.prog 71 #[.slice A n c] wr fun e w' => ∃ A' c', e = .returned (.slice A' (srtC cmpE l).length c') ∧ OwnX k wr (Btw lo w.heap.size) w' wr.heap.size (.slice A' (srtC cmpE l).length c') (srtC cmpE l) ∧ Below wr.heap.size wr w' := by
        have hln := HN.out
        have hl2 := HL.out
        have hsz := hbw.size
        subst hln
        exact refEntries_any k (Btw lo w.heap.size) A c l wr (fun b hb => Nat.lt_of_lt_of_le hb.2 hsz) (RowB.sub (B := Btw lo w.heap.size) (RowB.keep hl2 (.of_below hbw fun _ h => h.2) (fun _ _ h => h)) (fun b hb => Nat.lt_of_lt_of_le hb.2 hsz) (fun q cs ⟨x, hx, hE⟩ => ⟨x, hx, hE.keep (.of_below hbw fun _ h => h.2)⟩)) hn
      go_wp2_with fail
      refine hc.mono ?_
      rintro e w11 ⟨A', c', rfl, hO, hb11⟩
      clear hc
      have hbw11 : Below w.heap.size w w11 := hbw.trans (hb11.mono hbw.size)
      have k2 : w11.heap[w.heap.size]? = some (.cells #[.int .i64 0, .int .i64 0, .string ⟨#[]⟩, .slice none 0 0, .slice none 0 0, .slice none 0 0, .slice none 0 0] 27 (0, 0)) := (hb11.block _ (by have := hb.size; omega)).trans k1
      have HO := Lib.hid (And.intro hO hb11)
      clear hO hb11 k1
      generalize hLS : (srtC cmpE l).length = m at *
      have HLS := Lib.hid hLS
      clear hLS
      obtain ⟨e0, e1, e2, e3, e4, e5, e6⟩ := cells7 k2
      obtain ⟨z0, z1, z2, z3, z4, z5, z6⟩ := frozen7 k2
      go_wp2
      obtain ⟨V, hV⟩ : ∃ V, V = (((((((w11.setCell ⟨w.heap.size, 0, none⟩ (Value.int .i64 9)).setCell ⟨w.heap.size, 1, none⟩ (Value.int .i64 a)).setCell ⟨w.heap.size, 2, none⟩ (Value.string ⟨#[]⟩)).setCell ⟨w.heap.size, 3, none⟩ (Value.slice none 0 0)).setCell ⟨w.heap.size, 4, none⟩ (Value.slice none 0 0)).setCell ⟨w.heap.size, 5, none⟩ (Value.slice A' m c')).setCell ⟨w.heap.size, 6, none⟩ (Value.slice none 0 0)) := ⟨_, rfl⟩
      rw [← hV]
      have hob : V.heap[w.heap.size]? = some (.cells #[Value.int .i64 9, Value.int .i64 a, Value.string ⟨#[]⟩, Value.slice none 0 0, Value.slice none 0 0, Value.slice A' m c', Value.slice none 0 0] 27 (0, 0)) := by rw [hV]; exact obj7 k2 (Value.int .i64 9) (Value.int .i64 a) (Value.string ⟨#[]⟩) (Value.slice none 0 0) (Value.slice none 0 0) (Value.slice A' m c') (Value.slice none 0 0)
      have hBV : Below w.heap.size w V := by rw [hV]; exact Below.setCell (Below.setCell (Below.setCell (Below.setCell (Below.setCell (Below.setCell (Below.setCell (hbw11) (p := ⟨w.heap.size, 0, none⟩) (Nat.le_refl _) _) (p := ⟨w.heap.size, 1, none⟩) (Nat.le_refl _) _) (p := ⟨w.heap.size, 2, none⟩) (Nat.le_refl _) _) (p := ⟨w.heap.size, 3, none⟩) (Nat.le_refl _) _) (p := ⟨w.heap.size, 4, none⟩) (Nat.le_refl _) _) (p := ⟨w.heap.size, 5, none⟩) (Nat.le_refl _) _) (p := ⟨w.heap.size, 6, none⟩) (Nat.le_refl _) _
      have hszV : V.heap.size = w11.heap.size := by rw [hV]; simp
      have hsm : ∀ B : Nat → Prop, ¬ B w.heap.size → Same B w11 V := fun B h => by rw [hV]; exact same_setCell (same_setCell (same_setCell (same_setCell (same_setCell (same_setCell (same_setCell ((Same.refl _ _)) h) h) h) h) h) h) h
      clear hV e0 z0 e1 z1 e2 z2 e3 z3 e4 z4 e5 z5 e6 z6
      obtain ⟨ps0, ps1, ps2, ps3, ps4, ps5, ps6⟩ := cells7 hob
      refine bodyPost_ret (v := .tuple #[.agg #[Value.int .i64 9, Value.int .i64 a, Value.string ⟨#[]⟩, Value.slice none 0 0, Value.slice none 0 0, Value.slice A' m c', Value.slice none 0 0], .int .i64 0]) (by simp [results, Tryz.results31, go_sem, ps0, ps1, ps2, ps3, ps4, ps5, ps6]) rfl ?_
      have hm := HLS.out
      subst hm
      obtain ⟨hO, hb11⟩ := HO.out
      have hln := HN.out
      have hsl := srtC_len (c := cmpE) l
      have hzr := hbw.size
      have hz11 := hb11.size
      refine ⟨hBV, .inl ⟨HF.out, _, rfl, _, _, _, _, rfl, by decide, haw, Nat.zero_le _, zeroRw _ _ _ _, zeroRw _ _ _ _, ?_, zeroRw _ _ _ _⟩⟩
      have hro := hO.row (by omega) (by unfold maxLen; omega)
      refine RowB.sub (RowB.keep hro (hsm _ (fun h => by have := h.1; have := hb.size; omega)) (fun _ _ h => h)) (fun b hb => ⟨by have := hb.1; omega, by have := hb.2; omega⟩) (fun q cs ⟨x, hx, hE⟩ => ?_)
      have hE2 : EnB k x wr (Btw lo w.heap.size) cs := hE
      have hE3 := ((hE2.keep (.of_below hb11 (fun b h => by have := h.2; omega))).keep (hsm _ (fun h => by have := h.2; omega))).sub (B' := Btw lo V.heap.size) (fun b h => ⟨h.1, by have := h.2; omega⟩)
      obtain ⟨ar, fa, re, rfl, ua, rs, rfl, h1, h2⟩ := hE3
      exact ⟨ar, fa, re, hx, ua, rs, rfl, h1, h2⟩
end Go.Proofs.YtjfknigiehggkaaGreat
