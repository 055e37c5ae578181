/- Function of the document. -/
import Derived.Test.YtjfknigiehggkaaGreatVf03
import Derived.Test.YtjfknigiehggkaaGreatVf29
import Derived.Laws.OwnMore
namespace Go.Proofs.YtjfknigiehggkaaGreat
open Go Go.RowKit
abbrev RowE (k lo : Nat) (w : World) (v : Value) (l : List En) : Prop := RowB w (Btw lo w.heap.size) 9 v l.length (fun j cs => ∃ x, l[j]? = some x ∧ EnB k x w (Btw lo w.heap.size) cs)
theorem EnB.keep {k : Nat} {x : En} {w w' : World} {B : Nat → Prop} {cs : List Value} (h : EnB k x w B cs) (hs : Same B w w') : EnB k x w' B cs := (elE k).keep hs h
theorem EnB.sub {k : Nat} {x : En} {w : World} {B B' : Nat → Prop} {cs : List Value} (h : EnB k x w B cs) (hs : ∀ b, B b → B' b) : EnB k x w B' cs := (elE k).sub hs h
theorem EnB.toK {k : Nat} {x : En} {w : World} {B : Nat → Prop} {cs : List Value} (h : EnB k x w B cs) : ∃ args fails result, x = .mk args fails result ∧ ∃ ua rs, cs = ua :: .bool fails :: rs ∧ RowB w B 7 ua args.length (fun j cs => ∃ x, args[j]? = some x ∧ VB k w B x cs) ∧ VB k w B result rs := h
def funB (a : Int) (l : List En) : Bool := decide (0 ≤ a ∧ a ≤ 4) && l.all (entB a)
def funV (a : Int) (l : List En) : Vl := .mk 9 a [] [] [] l []
def FunR (k lo : Nat) (a : Int) (l : List En) (w : World) (e : Ending) (w' : World) : Prop :=
  Below w.heap.size w w' ∧ ((funB a l = true ∧ ∃ cs, e = .returned (.tuple #[.agg cs.toArray, .int .i64 0]) ∧ VB (k + 1) w' (Btw lo w'.heap.size) (funV a (srtC cmpE l)) cs) ∨ (funB a l = false ∧ e = .returned (.tuple #[.agg #[.int .i64 0, .int .i64 0, .string ⟨#[]⟩, .slice none 0 0, .slice none 0 0, .slice none 0 0, .slice none 0 0], .int .i64 1])))
set_option maxRecDepth 100000 in
set_option maxHeartbeats 3200000 in
theorem refFunction_any (k lo : Nat) (a : Int) (A : Option Addr) (c : Nat) (l : List En) (w : World) (hlo : lo ≤ w.heap.size) (hl : RowE k lo w (.slice A l.length c) l) (hn : l.length ≤ 100000000) (haw : (Lit.int .i64 a).wf = true) :
    Calls Tryz.prog 31 #[.int .i64 a, .slice A l.length c] w (FunR k lo a l w) := by
  obtain ⟨W0, hW0⟩ : ∃ W0, W0 = w.alloc (.cells #[.int .i64 0, .int .i64 0, .string ⟨#[]⟩, .slice none 0 0, .slice none 0 0, .slice none 0 0, .slice none 0 0] 27) := ⟨_, rfl⟩
  have hba : Below w.heap.size w W0 := by rw [hW0]; exact (Below.refl _ _).alloc (Nat.le_refl _) _
  have hz0 : W0.heap.size = w.heap.size + 1 := by rw [hW0]; simp
  have k0 : W0.heap[w.heap.size]? = some (.cells #[.int .i64 0, .int .i64 0, .string ⟨#[]⟩, .slice none 0 0, .slice none 0 0, .slice none 0 0, .slice none 0 0] 27 (0, 0)) := by rw [hW0]; exact heap_alloc_new w _
  have HL := Lib.hid hl
  clear hl
  by_cases ha1 : a < 0
  · have q1 : decide (a < 0) = true := by simpa using ha1
    have hfb : funB a l = false := by unfold funB; simp; omega
    have HF := Lib.hid hfb
    clear hfb
    generalize hLN : l.length = n at *
    go_enter Tryz.func31, Tryz.ntmps31
    go_wp2_with fail
    rw [← hW0]
    clear hW0
    obtain ⟨e0, e1, e2, e3, e4, e5, e6⟩ := cells7 k0
    obtain ⟨z0, z1, z2, z3, z4, z5, z6⟩ := frozen7 k0
    go_wp2
    have hBV : Below w.heap.size w W0 := hba
    clear z0 z1 z2 z3 z4 z5 z6
    obtain ⟨ps0, ps1, ps2, ps3, ps4, ps5, ps6⟩ := cells7 k0
    refine bodyPost_ret (v := .tuple #[.agg #[Value.int .i64 0, Value.int .i64 0, Value.string ⟨#[]⟩, Value.slice none 0 0, Value.slice none 0 0, Value.slice none 0 0, Value.slice none 0 0], .int .i64 1]) (by simp [results, Tryz.results31, go_sem, ps0, ps1, ps2, ps3, ps4, ps5, ps6]) rfl ?_
    exact ⟨hBV, .inr ⟨HF.out, rfl⟩⟩
  have q1 : decide (a < 0) = false := by simpa using ha1
  by_cases ha4 : 4 < a
  · have q4 : decide (4 < a) = true := by simpa using ha4
    have hfb : funB a l = false := by unfold funB; simp; omega
    have HF := Lib.hid hfb
    clear hfb
    generalize hLN : l.length = n at *
    go_enter Tryz.func31, Tryz.ntmps31
    go_wp2_with fail
    rw [← hW0]
    clear hW0
    obtain ⟨e0, e1, e2, e3, e4, e5, e6⟩ := cells7 k0
    obtain ⟨z0, z1, z2, z3, z4, z5, z6⟩ := frozen7 k0
    go_wp2
    have hBV : Below w.heap.size w W0 := hba
    clear z0 z1 z2 z3 z4 z5 z6
    obtain ⟨ps0, ps1, ps2, ps3, ps4, ps5, ps6⟩ := cells7 k0
    refine bodyPost_ret (v := .tuple #[.agg #[Value.int .i64 0, Value.int .i64 0, Value.string ⟨#[]⟩, Value.slice none 0 0, Value.slice none 0 0, Value.slice none 0 0, Value.slice none 0 0], .int .i64 1]) (by simp [results, Tryz.results31, go_sem, ps0, ps1, ps2, ps3, ps4, ps5, ps6]) rfl ?_
    exact ⟨hBV, .inr ⟨HF.out, rfl⟩⟩
  have q4 : decide (4 < a) = false := by simpa using ha4
  have har : decide (0 ≤ a ∧ a ≤ 4) = true := by simp; omega
  have HAR := Lib.hid har
  clear har
  generalize hLN : l.length = n at *
  have HN := Lib.hid hLN
  clear hLN
  go_enter Tryz.func31, Tryz.ntmps31
  go_wp2_with fail
  rw [← hW0]
  clear hW0
  go_loopw [6] (fun i wr => ∃ (j : Nat), i = .int .i64 j ∧ j ≤ n ∧ (∀ x ∈ l.take j, entB a x = true) ∧ Below W0.heap.size W0 wr) (fun i _ => n - (intOf i).toNat)
  case atStart => exact ⟨0, rfl, by omega, by simp, Below.refl _ _⟩
  case round =>
    obtain ⟨j, rfl, hj, hall, hb⟩ := hrel
    have hbw : Below w.heap.size w wr := hba.trans (hb.mono hba.size)
    have k1 : wr.heap[w.heap.size]? = some (.cells #[.int .i64 0, .int .i64 0, .string ⟨#[]⟩, .slice none 0 0, .slice none 0 0, .slice none 0 0, .slice none 0 0] 27 (0, 0)) := (hb.block _ (by omega)).trans k0
    have HA := Lib.hid hall
    clear hall
    by_cases hjn : j < n
    · obtain ⟨bs, offs, cap9, v0, v1, t0, t1, t2, t3, t4, t5, t6, hu, hbs, ⟨x, hx, hE⟩, c0, c1, c2, c3, c4, c5, c6, c7, c8⟩ := RowB.at9 (H := w.heap.size) (j := j) (RowB.sub HL.out (fun _ h => h.2) (fun _ _ h => h)) (by have := HN.out; omega)
      injection hu with hA hNN hcc
      subst hA
      clear hNN hcc
      have kn : (j : Int) < (n : Int) := by omega
      have kp : (0 : Int) ≤ (j : Int) := by omega
      have hEk := EnB.keep hE (.of_below hbw fun _ h => h.2)
      obtain ⟨args, fails, result, rfl, ua, rs, hcs, hra, hrr⟩ := hE.toK
      simp only [List.cons.injEq] at hcs
      obtain ⟨rfl, rfl, rfl⟩ := hcs
      obtain ⟨Aa, ca, rfl, _⟩ := hra.form
      have s0 : wr.cell? ⟨bs, offs + j * 9, none⟩ = some (.slice Aa args.length ca) := (hbw.cell (p := ⟨bs, _, none⟩) hbs).trans c0
      have s1 : wr.cell? ⟨bs, offs + j * 9 + 1, none⟩ = some (.bool fails) := (hbw.cell (p := ⟨bs, _, none⟩) hbs).trans c1
      have s2 : wr.cell? ⟨bs, offs + j * 9 + 2, none⟩ = some (t0) := (hbw.cell (p := ⟨bs, _, none⟩) hbs).trans c2
      have s3 : wr.cell? ⟨bs, offs + j * 9 + 3, none⟩ = some (t1) := (hbw.cell (p := ⟨bs, _, none⟩) hbs).trans c3
      have s4 : wr.cell? ⟨bs, offs + j * 9 + 4, none⟩ = some (t2) := (hbw.cell (p := ⟨bs, _, none⟩) hbs).trans c4
      have s5 : wr.cell? ⟨bs, offs + j * 9 + 5, none⟩ = some (t3) := (hbw.cell (p := ⟨bs, _, none⟩) hbs).trans c5
      have s6 : wr.cell? ⟨bs, offs + j * 9 + 6, none⟩ = some (t4) := (hbw.cell (p := ⟨bs, _, none⟩) hbs).trans c6
      have s7 : wr.cell? ⟨bs, offs + j * 9 + 7, none⟩ = some (t5) := (hbw.cell (p := ⟨bs, _, none⟩) hbs).trans c7
      have s8 : wr.cell? ⟨bs, offs + j * 9 + 8, none⟩ = some (t6) := (hbw.cell (p := ⟨bs, _, none⟩) hbs).trans c8
      clear c0 c1 c2 c3 c4 c5 c6 c7 c8
      have HX := Lib.hid (And.intro hx hE)
      have hk0 : 0 < k := by
        cases k with
        | zero => exact hrr.elim
        | succ k => omega
      have hq : ∀ V, Below w.heap.size w V → Calls Tryz.prog 20 #[.agg #[t0, t1, t2, t3, t4, t5, t6], .agg #[.int .i64 0, .int .i64 0, .string ⟨#[]⟩, .slice none 0 0, .slice none 0 0, .slice none 0 0, .slice none 0 0]] V fun e w' => e = .returned (.bool (isZ result)) ∧ Below V.heap.size V w' := fun V hV => by
        have hh := VB.sub (B' := fun b => b < V.heap.size) (fun b (hb : Btw lo w.heap.size b) => by have := hb.2; have := hV.size; omega) (Nat.le_refl k) (VB.keep (.of_below hV fun _ h => h.2) hrr)
        obtain ⟨q, rfl⟩ : ∃ q, k = q + 1 := ⟨k - 1, by omega⟩
        exact refEqual_any (q + 1) result zeroV _ _ V hh (zeroVB q V _)
      have hqr := hq wr hbw
      have HEB : Hid (entB a (.mk args fails result) = (decide ((args.length : Int) = a) && (!fails || isZ result))) := Lib.hid rfl
      clear hx hE hEk hra hrr hq
      generalize hz : isZ result = zr at hqr HEB
      clear hz
      generalize hla : args.length = la at s0 HEB
      clear hla
      by_cases hlen : (la : Int) = a
      · have hlb : ((la : Int) != a) = false := by simpa using hlen
        cases fails
        · have HT : Hid (entB a (.mk args false result) = true) := Lib.hid (by rw [HEB.out]; simp [hlen])
          go_wp2_with fail
          go_roundw
          case rel =>
            refine ⟨j + 1, by go_num, by omega, fun z hz => ?_, hb⟩
            rw [List.take_add_one, HX.out.1] at hz
            rcases List.mem_append.1 hz with hz | hz
            · exact HA.out z hz
            · have hz' := Option.mem_toList.1 hz
              injection hz' with hz'
              rw [← hz']; exact HT.out
          case measure => simp [intOf]; try omega
        · go_wp2_with fail
          refine hqr.mono ?_
          rintro e w10 ⟨rfl, hb10⟩
          have hb10' : Below W0.heap.size W0 w10 := hb.trans (hb10.mono hb.size)
          have hbw10 : Below w.heap.size w w10 := hbw.trans (hb10.mono hbw.size)
          have k2 : w10.heap[w.heap.size]? = some (.cells #[.int .i64 0, .int .i64 0, .string ⟨#[]⟩, .slice none 0 0, .slice none 0 0, .slice none 0 0, .slice none 0 0] 27 (0, 0)) := (hb10'.block _ (by omega)).trans k0
          clear hqr
          cases zr
          · have HF : Hid (funB a l = false) := Lib.hid (by
              unfold funB
              rw [Bool.and_eq_false_iff]
              right
              rw [List.all_eq_false]
              exact ⟨_, List.mem_of_getElem? HX.out.1, by rw [HEB.out]; simp⟩)
            obtain ⟨e0, e1, e2, e3, e4, e5, e6⟩ := cells7 k2
            obtain ⟨z0, z1, z2, z3, z4, z5, z6⟩ := frozen7 k2
            go_wp2
            obtain ⟨V, hV⟩ : ∃ V, V = (((((((w10.setCell ⟨w.heap.size, 0, none⟩ (Value.int .i64 0)).setCell ⟨w.heap.size, 1, none⟩ (Value.int .i64 0)).setCell ⟨w.heap.size, 2, none⟩ (Value.string ⟨#[]⟩)).setCell ⟨w.heap.size, 3, none⟩ (Value.slice none 0 0)).setCell ⟨w.heap.size, 4, none⟩ (Value.slice none 0 0)).setCell ⟨w.heap.size, 5, none⟩ (Value.slice none 0 0)).setCell ⟨w.heap.size, 6, none⟩ (Value.slice none 0 0)) := ⟨_, rfl⟩
            rw [← hV]
            have hob : V.heap[w.heap.size]? = some (.cells #[Value.int .i64 0, Value.int .i64 0, Value.string ⟨#[]⟩, Value.slice none 0 0, Value.slice none 0 0, Value.slice none 0 0, Value.slice none 0 0] 27 (0, 0)) := by rw [hV]; exact obj7 k2 (Value.int .i64 0) (Value.int .i64 0) (Value.string ⟨#[]⟩) (Value.slice none 0 0) (Value.slice none 0 0) (Value.slice none 0 0) (Value.slice none 0 0)
            have hBV : Below w.heap.size w V := by rw [hV]; exact Below.setCell (Below.setCell (Below.setCell (Below.setCell (Below.setCell (Below.setCell (Below.setCell (hbw10) (p := ⟨w.heap.size, 0, none⟩) (Nat.le_refl _) _) (p := ⟨w.heap.size, 1, none⟩) (Nat.le_refl _) _) (p := ⟨w.heap.size, 2, none⟩) (Nat.le_refl _) _) (p := ⟨w.heap.size, 3, none⟩) (Nat.le_refl _) _) (p := ⟨w.heap.size, 4, none⟩) (Nat.le_refl _) _) (p := ⟨w.heap.size, 5, none⟩) (Nat.le_refl _) _) (p := ⟨w.heap.size, 6, none⟩) (Nat.le_refl _) _
            have hszV : V.heap.size = w10.heap.size := by rw [hV]; simp
            have hsm : ∀ B : Nat → Prop, ¬ B w.heap.size → Same B w10 V := fun B h => by rw [hV]; exact same_setCell (same_setCell (same_setCell (same_setCell (same_setCell (same_setCell (same_setCell ((Same.refl _ _)) h) h) h) h) h) h) h
            clear hV e0 z0 e1 z1 e2 z2 e3 z3 e4 z4 e5 z5 e6 z6
            obtain ⟨ps0, ps1, ps2, ps3, ps4, ps5, ps6⟩ := cells7 hob
            refine bodyPost_ret (v := .tuple #[.agg #[Value.int .i64 0, Value.int .i64 0, Value.string ⟨#[]⟩, Value.slice none 0 0, Value.slice none 0 0, Value.slice none 0 0, Value.slice none 0 0], .int .i64 1]) (by simp [results, Tryz.results31, go_sem, ps0, ps1, ps2, ps3, ps4, ps5, ps6]) rfl ?_
            exact ⟨hBV, .inr ⟨HF.out, rfl⟩⟩
          · have HT : Hid (entB a (.mk args true result) = true) := Lib.hid (by rw [HEB.out]; simp [hlen])
            clear k1 k2
            go_wp2_with fail
            go_roundw
            case rel =>
              refine ⟨j + 1, by go_num, by omega, fun z hz => ?_, hb10'⟩
              rw [List.take_add_one, HX.out.1] at hz
              rcases List.mem_append.1 hz with hz | hz
              · exact HA.out z hz
              · have hz' := Option.mem_toList.1 hz
                injection hz' with hz'
                rw [← hz']; exact HT.out
            case measure => simp [intOf]; try omega
      · have hlb : ((la : Int) != a) = true := by simpa using hlen
        have HF : Hid (funB a l = false) := Lib.hid (by
          unfold funB
          rw [Bool.and_eq_false_iff]
          right
          rw [List.all_eq_false]
          exact ⟨_, List.mem_of_getElem? HX.out.1, by rw [HEB.out]; simp [hlen]⟩)
        obtain ⟨e0, e1, e2, e3, e4, e5, e6⟩ := cells7 k1
        obtain ⟨z0, z1, z2, z3, z4, z5, z6⟩ := frozen7 k1
        go_wp2
        obtain ⟨V, hV⟩ : ∃ V, V = (((((((wr.setCell ⟨w.heap.size, 0, none⟩ (Value.int .i64 0)).setCell ⟨w.heap.size, 1, none⟩ (Value.int .i64 0)).setCell ⟨w.heap.size, 2, none⟩ (Value.string ⟨#[]⟩)).setCell ⟨w.heap.size, 3, none⟩ (Value.slice none 0 0)).setCell ⟨w.heap.size, 4, none⟩ (Value.slice none 0 0)).setCell ⟨w.heap.size, 5, none⟩ (Value.slice none 0 0)).setCell ⟨w.heap.size, 6, none⟩ (Value.slice none 0 0)) := ⟨_, rfl⟩
        rw [← hV]
        have hob : V.heap[w.heap.size]? = some (.cells #[Value.int .i64 0, Value.int .i64 0, Value.string ⟨#[]⟩, Value.slice none 0 0, Value.slice none 0 0, Value.slice none 0 0, Value.slice none 0 0] 27 (0, 0)) := by rw [hV]; exact obj7 k1 (Value.int .i64 0) (Value.int .i64 0) (Value.string ⟨#[]⟩) (Value.slice none 0 0) (Value.slice none 0 0) (Value.slice none 0 0) (Value.slice none 0 0)
        have hBV : Below w.heap.size w V := by rw [hV]; exact Below.setCell (Below.setCell (Below.setCell (Below.setCell (Below.setCell (Below.setCell (Below.setCell (hbw) (p := ⟨w.heap.size, 0, none⟩) (Nat.le_refl _) _) (p := ⟨w.heap.size, 1, none⟩) (Nat.le_refl _) _) (p := ⟨w.heap.size, 2, none⟩) (Nat.le_refl _) _) (p := ⟨w.heap.size, 3, none⟩) (Nat.le_refl _) _) (p := ⟨w.heap.size, 4, none⟩) (Nat.le_refl _) _) (p := ⟨w.heap.size, 5, none⟩) (Nat.le_refl _) _) (p := ⟨w.heap.size, 6, none⟩) (Nat.le_refl _) _
        have hszV : V.heap.size = wr.heap.size := by rw [hV]; simp
        have hsm : ∀ B : Nat → Prop, ¬ B w.heap.size → Same B wr V := fun B h => by rw [hV]; exact same_setCell (same_setCell (same_setCell (same_setCell (same_setCell (same_setCell (same_setCell ((Same.refl _ _)) h) h) h) h) h) h) h
        clear hV e0 z0 e1 z1 e2 z2 e3 z3 e4 z4 e5 z5 e6 z6
        obtain ⟨ps0, ps1, ps2, ps3, ps4, ps5, ps6⟩ := cells7 hob
        refine bodyPost_ret (v := .tuple #[.agg #[Value.int .i64 0, Value.int .i64 0, Value.string ⟨#[]⟩, Value.slice none 0 0, Value.slice none 0 0, Value.slice none 0 0, Value.slice none 0 0], .int .i64 1]) (by simp [results, Tryz.results31, go_sem, ps0, ps1, ps2, ps3, ps4, ps5, ps6]) rfl ?_
        exact ⟨hBV, .inr ⟨HF.out, rfl⟩⟩
    · have hke : l.take j = l := List.take_of_length_le (by have := HN.out; omega)
      have HF : Hid (funB a l = true) := Lib.hid (by
        unfold funB
        rw [HAR.out, Bool.true_and, List.all_eq_true]
        have := HA.out
        rw [hke] at this
        exact this)
      clear hke
      have hc : Calls Tryz.prog 71 #[.slice A n c] wr fun e w' => ∃ A' c', e = .returned (.slice A' (srtC cmpE l).length c') ∧ OwnX k wr (Btw lo w.heap.size) w' wr.heap.size (.slice A' (srtC cmpE l).length c') (srtC cmpE l) ∧ Below wr.heap.size wr w' := by
        have hln := HN.out
        have hl2 := HL.out
        have hsz := hbw.size
        subst hln
        exact refEntries_any k (Btw lo w.heap.size) A c l wr (fun b hb => Nat.lt_of_lt_of_le hb.2 hsz) (RowB.sub (B := Btw lo w.heap.size) (RowB.keep hl2 (.of_below hbw fun _ h => h.2) (fun _ _ h => h)) (fun b hb => Nat.lt_of_lt_of_le hb.2 hsz) (fun q cs ⟨x, hx, hE⟩ => ⟨x, hx, hE.keep (.of_below hbw fun _ h => h.2)⟩)) hn
      go_wp2_with fail
      refine hc.mono ?_
      rintro e w11 ⟨A', c', rfl, hO, hb11⟩
      clear hc
      have hbw11 : Below w.heap.size w w11 := hbw.trans (hb11.mono hbw.size)
      have k2 : w11.heap[w.heap.size]? = some (.cells #[.int .i64 0, .int .i64 0, .string ⟨#[]⟩, .slice none 0 0, .slice none 0 0, .slice none 0 0, .slice none 0 0] 27 (0, 0)) := (hb11.block _ (by have := hb.size; omega)).trans k1
      have HO := Lib.hid (And.intro hO hb11)
      clear hO hb11 k1
      generalize hLS : (srtC cmpE l).length = m at *
      have HLS := Lib.hid hLS
      clear hLS
      obtain ⟨e0, e1, e2, e3, e4, e5, e6⟩ := cells7 k2
      obtain ⟨z0, z1, z2, z3, z4, z5, z6⟩ := frozen7 k2
      go_wp2
      obtain ⟨V, hV⟩ : ∃ V, V = (((((((w11.setCell ⟨w.heap.size, 0, none⟩ (Value.int .i64 9)).setCell ⟨w.heap.size, 1, none⟩ (Value.int .i64 a)).setCell ⟨w.heap.size, 2, none⟩ (Value.string ⟨#[]⟩)).setCell ⟨w.heap.size, 3, none⟩ (Value.slice none 0 0)).setCell ⟨w.heap.size, 4, none⟩ (Value.slice none 0 0)).setCell ⟨w.heap.size, 5, none⟩ (Value.slice A' m c')).setCell ⟨w.heap.size, 6, none⟩ (Value.slice none 0 0)) := ⟨_, rfl⟩
      rw [← hV]
      have hob : V.heap[w.heap.size]? = some (.cells #[Value.int .i64 9, Value.int .i64 a, Value.string ⟨#[]⟩, Value.slice none 0 0, Value.slice none 0 0, Value.slice A' m c', Value.slice none 0 0] 27 (0, 0)) := by rw [hV]; exact obj7 k2 (Value.int .i64 9) (Value.int .i64 a) (Value.string ⟨#[]⟩) (Value.slice none 0 0) (Value.slice none 0 0) (Value.slice A' m c') (Value.slice none 0 0)
      have hBV : Below w.heap.size w V := by rw [hV]; exact Below.setCell (Below.setCell (Below.setCell (Below.setCell (Below.setCell (Below.setCell (Below.setCell (hbw11) (p := ⟨w.heap.size, 0, none⟩) (Nat.le_refl _) _) (p := ⟨w.heap.size, 1, none⟩) (Nat.le_refl _) _) (p := ⟨w.heap.size, 2, none⟩) (Nat.le_refl _) _) (p := ⟨w.heap.size, 3, none⟩) (Nat.le_refl _) _) (p := ⟨w.heap.size, 4, none⟩) (Nat.le_refl _) _) (p := ⟨w.heap.size, 5, none⟩) (Nat.le_refl _) _) (p := ⟨w.heap.size, 6, none⟩) (Nat.le_refl _) _
      have hszV : V.heap.size = w11.heap.size := by rw [hV]; simp
      have hsm : ∀ B : Nat → Prop, ¬ B w.heap.size → Same B w11 V := fun B h => by rw [hV]; exact same_setCell (same_setCell (same_setCell (same_setCell (same_setCell (same_setCell (same_setCell ((Same.refl _ _)) h) h) h) h) h) h) h
      clear hV e0 z0 e1 z1 e2 z2 e3 z3 e4 z4 e5 z5 e6 z6
      obtain ⟨ps0, ps1, ps2, ps3, ps4, ps5, ps6⟩ := cells7 hob
      refine bodyPost_ret (v := .tuple #[.agg #[Value.int .i64 9, Value.int .i64 a, Value.string ⟨#[]⟩, Value.slice none 0 0, Value.slice none 0 0, Value.slice A' m c', Value.slice none 0 0], .int .i64 0]) (by simp [results, Tryz.results31, go_sem, ps0, ps1, ps2, ps3, ps4, ps5, ps6]) rfl ?_
      have hm := HLS.out
      subst hm
      obtain ⟨hO, hb11⟩ := HO.out
      have hln := HN.out
      have hsl := srtC_len (c := cmpE) l
      have hzr := hbw.size
      have hz11 := hb11.size
      refine ⟨hBV, .inl ⟨HF.out, _, rfl, _, _, _, _, rfl, by decide, haw, Nat.zero_le _, zeroRw _ _ _ _, zeroRw _ _ _ _, ?_, zeroRw _ _ _ _⟩⟩
      have hro := hO.row (by omega) (by unfold maxLen; omega)
      refine RowB.sub (RowB.keep hro (hsm _ (fun h => by have := h.1; have := hb.size; omega)) (fun _ _ h => h)) (fun b hb => ⟨by have := hb.1; omega, by have := hb.2; omega⟩) (fun q cs ⟨x, hx, hE⟩ => ?_)
      have hE2 : EnB k x wr (Btw lo w.heap.size) cs := hE
      have hE3 := ((hE2.keep (.of_below hb11 (fun b h => by have := h.2; omega))).keep (hsm _ (fun h => by have := h.2; omega))).sub (B' := Btw lo V.heap.size) (fun b h => ⟨h.1, by have := h.2; omega⟩)
      obtain ⟨ar, fa, re, rfl, ua, rs, rfl, h1, h2⟩ := hE3
      exact ⟨ar, fa, re, hx, ua, rs, rfl, h1, h2⟩
end Go.Proofs.YtjfknigiehggkaaGreat
namespace Go.Proofs.YtjfknigiehggkaaGreat
open Go Go.RowKit
abbrev Kv := (Int × List UInt8) × Vl
def cK (p q : Kv) : Int := cmpK p.1 q.1
def mapV (z : List Kv) : Vl := .mk 8 0 [] (z.map Prod.snd) (z.map Prod.fst) [] []
theorem ins_lt {α : Type} {c : α → α → Int} {x a : α} {l : List α} (h : c a x < 0) : ins c x (a :: l) = a :: ins c x l := by simp [ins, h]
theorem ins_eq {α : Type} {c : α → α → Int} {x a : α} {l : List α} (h : c a x = 0) : ins c x (a :: l) = a :: l := by simp [ins, h]
theorem ins_gt {α : Type} {c : α → α → Int} {x a : α} {l : List α} (h : ¬ c a x < 0) (h2 : ¬ c a x = 0) : ins c x (a :: l) = x :: a :: l := by rw [ins, if_neg h, if_neg h2]
theorem ins_fst (x : Kv) : ∀ l : List Kv, (ins cK x l).map Prod.fst = ins cmpK x.1 (l.map Prod.fst)
  | [] => rfl
  | a :: l => by
    by_cases h1 : cmpK a.1 x.1 < 0
    · rw [ins_lt (c := cK) h1, List.map_cons, List.map_cons, ins_lt (c := cmpK) h1, ins_fst x l]
    · by_cases h2 : cmpK a.1 x.1 = 0
      · rw [ins_eq (c := cK) h2, List.map_cons, ins_eq (c := cmpK) h2]
      · rw [ins_gt (c := cK) h1 h2, List.map_cons, List.map_cons, ins_gt (c := cmpK) h1 h2]
theorem srt_fst (z : List Kv) : (srtC cK z).map Prod.fst = srtC cmpK (z.map Prod.fst) := by
  have h : ∀ (z acc : List Kv), (z.foldl (fun acc x => ins cK x acc) acc).map Prod.fst = (z.map Prod.fst).foldl (fun acc x => ins cmpK x acc) (acc.map Prod.fst) := by
    intro z
    induction z with
    | nil => intro acc; rfl
    | cons a z ih => intro acc; rw [List.foldl_cons, ih, ins_fst, List.map_cons, List.foldl_cons]
  exact h z []
theorem ins_len {α : Type} {c : α → α → Int} (x : α) (m : List α) : (ins c x m).length ≤ m.length + 1 := by
  induction m with
  | nil => simp [ins]
  | cons a m ih =>
    unfold ins
    split
    · simp; omega
    · split <;> simp
theorem srtC_more {α : Type} {c : α → α → Int} (l : List α) (j : Nat) : (srtC c l).length ≤ (srtC c (l.take j)).length + (l.length - j) := by
  have hf : ∀ (l m : List α), (l.foldl (fun acc x => ins c x acc) m).length ≤ m.length + l.length := by
    intro l
    induction l with
    | nil => intro m; simp
    | cons a l ih =>
      intro m
      rw [List.foldl_cons]
      have := ih (ins c a m)
      have := ins_len (c := c) a m
      rw [List.length_cons]
      omega
  have := hf (l.drop j) (srtC c (l.take j))
  rw [← List.length_drop]
  have e : srtC c l = (l.drop j).foldl (fun acc x => ins c x acc) (srtC c (l.take j)) := by
    unfold srtC
    rw [← List.foldl_append, List.take_append_drop]
  rw [e]; exact this
theorem mem_ins_sub {α : Type} {c : α → α → Int} {x y : α} : ∀ {l : List α}, y ∈ ins c x l → y = x ∨ y ∈ l
  | [], h => by simpa [ins] using h
  | a :: l, h => by
    unfold ins at h
    split at h
    · rcases List.mem_cons.1 h with h | h
      · exact .inr (h ▸ List.mem_cons_self ..)
      · rcases mem_ins_sub h with h | h
        · exact .inl h
        · exact .inr (List.mem_cons_of_mem _ h)
    · split at h
      · exact .inr h
      · rcases List.mem_cons.1 h with h | h
        · exact .inl h
        · exact .inr h
theorem mem_srtC_sub {α : Type} {c : α → α → Int} {y : α} {l : List α} (h : y ∈ srtC c l) : y ∈ l := by
  have hf : ∀ (l m : List α), y ∈ l.foldl (fun acc x => ins c x acc) m → y ∈ l ∨ y ∈ m := by
    intro l
    induction l with
    | nil => intro m h; exact .inr h
    | cons a l ih =>
      intro m h
      rw [List.foldl_cons] at h
      rcases ih _ h with h | h
      · exact .inl (List.mem_cons_of_mem _ h)
      · rcases mem_ins_sub h with h | h
        · exact .inl (h ▸ List.mem_cons_self ..)
        · exact .inr h
  rcases hf l [] h with h | h
  · exact h
  · simp at h
/-- a row of elements told by their cells stays while its own block does -/
theorem OwnC.kept {α : Type} {Pr : α → List Value → Prop} {e : TypeId} {c : Nat} {w w' : World} {base : Nat} {v : Value} {l : List α} (h : OwnE (elC Pr) e c w base v l) (hb : ∀ g, v.ownBlock = some g → w'.heap[g]? = w.heap[g]?) : OwnE (elC Pr) e c w' base v l := by
  obtain ⟨xs, ho, hx⟩ := h
  refine ⟨xs, ⟨ho.1, ?_⟩, fun j x hj => hx j x hj⟩
  rcases ho.2 with hn | ⟨g, cap, cur, rfl, hB, hg, rest⟩
  · exact .inl hn
  · exact .inr ⟨g, cap, cur, rfl, hB, (hb g rfl).trans hg, rest⟩
def kyC (x : Int × List UInt8) (cs : List Value) : Prop := cs = [.int .i64 x.1, .string ⟨x.2.toArray⟩] ∧ (Lit.int .i64 x.1).wf = true ∧ x.2.length ≤ maxLen
theorem kyC_one {x : Int × List UInt8} {cs : List Value} (h : kyC x cs) : ∀ u ∈ cs, u.oneCell' = true := by
  obtain ⟨rfl, _⟩ := h
  intro u hu
  simp only [List.mem_cons, List.not_mem_nil, or_false] at hu
  rcases hu with rfl | rfl <;> rfl
abbrev OwnY (w : World) (base : Nat) (v : Value) (l : List (Int × List UInt8)) : Prop := OwnE (elC kyC) 74 2 w base v l
abbrev OwnX7 (k : Nat) (w0 : World) (B0 : Nat → Prop) (w : World) (base : Nat) (v : Value) (l : List Vl) : Prop := OwnE (elC (fun x cs => VB k w0 B0 x cs)) 27 7 w base v l
set_option maxRecDepth 100000 in
set_option maxHeartbeats 3200000 in
theorem copies_own (k : Nat) (w0 : World) (B0 : Nat → Prop) (Bs : Nat → Prop) (A : Option Addr) (c : Nat) (l : List Vl) (w : World) (hl : RowB w Bs 7 (.slice A l.length c) l.length (fun j cs => ∃ x, l[j]? = some x ∧ VB k w0 B0 x cs)) (hn : l.length ≤ 300000000) :
    Calls Tryz.prog 61 #[.slice A l.length c] w fun e w' => ∃ A' c', e = .returned (.slice A' l.length c') ∧ OwnX7 k w0 B0 w' w.heap.size (.slice A' l.length c') l ∧ Below w.heap.size w w' := by
  have HL := Lib.hid hl
  clear hl
  go_enter Tryz.func61, Tryz.ntmps61
  go_wp2_with (refine wp_rowg_v (elC (fun x cs => VB k w0 B0 x cs)) (fun x w' B cs h => elV_one k x w0 B0 cs h) rfl _ _ rfl w.heap.size (.slice none 0 0) [] rfl (OwnE.nil _ _ _ _ _) A l.length c l rfl Bs rfl HL.out (by simpa using hn) (Nat.le_refl _) ?_)
  intro v' w' ho hb hk hg
  have ho' : OwnX7 k w0 B0 w' w.heap.size v' l := ho
  obtain ⟨A', c', rfl⟩ := ho'.form
  have HF := Lib.hid (And.intro ho' hb)
  clear ho ho' hb hk hg
  go_wp2
  go_ret
  exact ⟨A', c', rfl, HF.out⟩
theorem copies_ownN (k : Nat) (w0 : World) (B0 : Nat → Prop) (Bs : Nat → Prop) (A : Option Addr) (c : Nat) (l : List Vl) (w : World) (m : Nat) (hm : l.length = m) (hl : RowB w Bs 7 (.slice A m c) m (fun j cs => ∃ x, l[j]? = some x ∧ VB k w0 B0 x cs)) (hn : m ≤ 300000000) :
    Calls Tryz.prog 61 #[.slice A m c] w fun e w' => ∃ A' c', e = .returned (.slice A' m c') ∧ OwnX7 k w0 B0 w' w.heap.size (.slice A' m c') l ∧ Below w.heap.size w w' := by
  subst hm
  exact copies_own k w0 B0 Bs A c l w hl hn
theorem OwnE.rowN {α : Type} {K : ElK α} {e : TypeId} {c : Nat} {w : World} {base m : Nat} {v : Value} {l : List α} (h : OwnE K e c w base v l) (hc : 0 < c) (hn : l.length ≤ maxLen) (hm : l.length = m) :
    RowB w (Btw base w.heap.size) c v m (fun j cs => ∃ x, l[j]? = some x ∧ K.E x w (Btw base w.heap.size) cs) := by
  subst hm
  exact h.row hc hn
theorem OwnE.formN {α : Type} {K : ElK α} {e : TypeId} {c : Nat} {w : World} {base m : Nat} {v : Value} {l : List α} (h : OwnE K e c w base v l) (hm : l.length = m) (hl : 0 < m) : ∃ g cap, v = .slice (some ⟨g, 0, none⟩) m cap ∧ base ≤ g ∧ g < w.heap.size ∧ m ≤ cap := by
  subst hm
  exact h.formG hl
theorem wp_appg_v {ops : Array Oper} {rest : List Oper} {o : Oper} {a : Act} {Q : Exit → Act → World → Prop} {w0 : World} (K : ElK Vl) (hgd : o.guard = none) (s x : Operand)
    (ho : o.op = .call { callee := .builtin .append, args := #[s, x], argTypes := #[22, 22] }) (base : Nat) (v : Value) (l : List Vl) (hs : a.eval s = v) (hown : OwnE K 27 7 w0 base v l)
    (y : Vl) (cs : List Value) (cap1 : Nat) (H : Nat) (hH : w0.heap.size = H) (hx : a.eval x = .slice (some ⟨H, 0, none⟩) 1 cap1) (cells : Array Value) (hcells : cells = cs.toArray)
    (hy : K.E y w0 (fun b => base ≤ b ∧ b < w0.heap.size ∧ some b ≠ v.ownBlock) cs) (hcs : cs.length = 7) (h1c : ∀ u ∈ cs, u.oneCell' = true) (hn : l.length ≤ 300000000) (hbase : base ≤ w0.heap.size)
    (h : ∀ g cap w', OwnE K 27 7 w' base (.slice (some ⟨g, 0, none⟩) (l.length + 1) cap) (l ++ [y]) → Below base w0 w' → (∀ b, b < w0.heap.size → some b ≠ v.ownBlock → w'.heap[b]? = w0.heap[b]?) → (v.ownBlock = some g ∨ H ≤ g) → wpList Tryz.prog ops Q rest (a.put o.dst (.slice (some ⟨g, 0, none⟩) (l.length + 1) cap)) w') :
    wpList Tryz.prog ops Q (o :: rest) a (w0.alloc (.cells cells 27)) := by
  subst hcells
  obtain ⟨i0, hi, hz0, hz1, hz2⟩ := info_parts Tryz.infoV
  obtain ⟨g, cap, w', h1, h2, h3, h4, h5⟩ := app_one K 22 o.type 27 i0 (.agg #[.int .i64 0, .int .i64 0, .string ⟨#[]⟩, .slice none 0 0, .slice none 0 0, .slice none 0 0, .slice none 0 0]) 7 128 Tryz.underlying22 hi hz0 hz1 hz2 rfl (by decide) (by decide) w0 base v l hown y cs hy hcs h1c hn hbase H hH cap1
  exact Lib.wpList_append_run _ hgd s x 22 22 ho v _ hs hx _ w' h1 (h g cap w' h2 h3 h4 h5)
end Go.Proofs.YtjfknigiehggkaaGreat
namespace Go.Proofs.YtjfknigiehggkaaGreat
open Go Go.RowKit
def pick {α : Type} (l : List α) (ps : List Nat) : List α := ps.filterMap fun p => l[p]?
theorem pick_nil {α : Type} (l : List α) : pick l [] = [] := rfl
theorem pick_take {α : Type} (l : List α) : ∀ k, k ≤ l.length → pick l (List.range k) = l.take k
  | 0, _ => by simp [pick]
  | k + 1, h => by
    have ih := pick_take l k (by omega)
    unfold pick at ih ⊢
    rw [List.range_succ, List.filterMap_append, ih, List.take_add_one, List.getElem?_eq_getElem (by omega)]
    simp [List.getElem?_eq_getElem (show k < l.length by omega)]
theorem pick_perm {α : Type} {l : List α} {ps : List Nat} (h : ps.Perm (List.range l.length)) : (pick l ps).Perm l := by
  have h1 : (pick l ps).Perm (pick l (List.range l.length)) := h.filterMap _
  rwa [pick_take l l.length (Nat.le_refl _), List.take_length] at h1
theorem pick_step {α : Type} {l : List α} {ps : List Nat} {j p : Nat} {x : α} (hp : ps[j]? = some p) (hx : l[p]? = some x) : pick l (ps.take (j + 1)) = pick l (ps.take j) ++ [x] := by
  unfold pick
  rw [List.take_add_one, hp, List.filterMap_append]
  simp [hx]
theorem pick_zip {α β : Type} {ks : List α} {l : List β} (hl : ks.length = l.length) : ∀ {ps : List Nat}, (∀ p ∈ ps, p < ks.length) → pick (ks.zip l) ps = (pick ks ps).zip (pick l ps)
  | [], _ => rfl
  | p :: ps, h => by
    have hp := h p (by simp)
    have ih := pick_zip hl (ps := ps) fun q hq => h q (by simp [hq])
    unfold pick at ih ⊢
    have e1 : ks[p]? = some ks[p] := List.getElem?_eq_getElem hp
    have e2 : l[p]? = some (l[p]'(by omega)) := List.getElem?_eq_getElem (by omega)
    have e3 : (ks.zip l)[p]? = some (ks[p], l[p]'(by omega)) := by rw [List.getElem?_eq_getElem (by simp; omega), List.getElem_zip]
    rw [List.filterMap_cons_some e1, List.filterMap_cons_some e2, List.filterMap_cons_some e3, ih, List.zip_cons_cons]
theorem perm_of_sub {α : Type} [DecidableEq α] : ∀ {S L : List α}, S.Nodup → (∀ x ∈ S, x ∈ L) → ∃ R, L.Perm (S ++ R)
  | [], L, _, _ => ⟨L, List.Perm.refl _⟩
  | a :: S, L, h, hs => by
    have hn := List.nodup_cons.1 h
    obtain ⟨R, hR⟩ := perm_of_sub (S := S) (L := L.erase a) hn.2 fun x hx => (List.mem_erase_of_ne (fun e => hn.1 (by rw [← e]; exact hx))).2 (hs x (by simp [hx]))
    exact ⟨R, (List.perm_cons_erase (hs a (by simp))).trans (hR.cons a)⟩
theorem AscC.nodup {α : Type} {c : α → α → Int} (T : Tot c) {l : List α} (h : AscC c l) : l.Nodup :=
  List.Pairwise.imp (fun {a b} hab e => by subst e; have := (T.zero a a).2 rfl; omega) h
theorem weak_nodup {α : Type} {c : α → α → Int} (T : Tot c) {l : List α} (h : l.Pairwise fun a b => ¬ c b a < 0) (hn : l.Nodup) : AscC c l :=
  List.Pairwise.imp (fun {a b} ⟨h1, h2⟩ => by
    have h3 := T.swap a b
    have h4 : c a b ≠ 0 := fun e => h2 ((T.zero a b).1 e)
    omega) (List.Pairwise.and h hn)
theorem uniq_fst {α β : Type} : ∀ {Z : List (α × β)}, (Z.map Prod.fst).Nodup → ∀ p ∈ Z, ∀ q ∈ Z, p.1 = q.1 → p = q
  | [], _, p, hp, _, _, _ => by simp at hp
  | z :: Z, h, p, hp, q, hq, e => by
    have hn := List.nodup_cons.1 (by simpa using h : (z.1 :: Z.map Prod.fst).Nodup)
    rcases List.mem_cons.1 hp with hp2 | hp2
    · rcases List.mem_cons.1 hq with hq2 | hq2
      · rw [hp2, hq2]
      · exact absurd (List.mem_map.2 ⟨q, hq2, by rw [← e, hp2]⟩) hn.1
    · rcases List.mem_cons.1 hq with hq2 | hq2
      · exact absurd (List.mem_map.2 ⟨p, hp2, by rw [e, hq2]⟩) hn.1
      · exact uniq_fst hn.2 p hp2 q hq2 e
theorem eq_of_fst {α β : Type} {Z : List (α × β)} (hZ : (Z.map Prod.fst).Nodup) : ∀ {A B : List (α × β)}, (∀ p ∈ A, p ∈ Z) → (∀ p ∈ B, p ∈ Z) → A.map Prod.fst = B.map Prod.fst → A = B
  | [], [], _, _, _ => rfl
  | [], b :: B, _, _, h => by simp at h
  | a :: A, [], _, _, h => by simp at h
  | a :: A, b :: B, hA, hB, h => by
    simp only [List.map_cons, List.cons.injEq] at h
    rw [uniq_fst hZ a (hA a (by simp)) b (hB b (by simp)) h.1, eq_of_fst hZ (fun p hp => hA p (by simp [hp])) (fun p hp => hB p (by simp [hp])) h.2]
theorem places_srt {keys : List (Int × List UInt8)} {l : List Vl} {ps : List Nat} (hl : keys.length = l.length) (hp : ps.Perm (List.range keys.length)) (hs : (pick keys ps).Pairwise fun a b => ¬ cmpK b a < 0) :
    (AscC cmpK (pick keys ps) → srtC cK (keys.zip l) = (pick keys ps).zip (pick l ps) ∧ (srtC cK (keys.zip l)).length = keys.length ∧ mapV (srtC cK (keys.zip l)) = .mk 8 0 [] (pick l ps) (pick keys ps) [] []) ∧
    (¬ AscC cmpK (pick keys ps) → (srtC cK (keys.zip l)).length ≠ keys.length) := by
  have pk := pick_perm hp
  have pv : (pick l ps).Perm l := pick_perm (by rw [← hl]; exact hp)
  have hzl : (keys.zip l).map Prod.fst = keys := List.map_fst_zip (by omega)
  have hlt : ∀ p ∈ ps, p < keys.length := fun p h => List.mem_range.1 ((hp.mem_iff).1 h)
  have hf := srt_fst (keys.zip l)
  rw [hzl] at hf
  refine ⟨fun h => ?_, fun h hlen => ?_⟩
  · have hnd : ((keys.zip l).map Prod.fst).Nodup := by rw [hzl]; exact pk.nodup_iff.1 (h.nodup totK)
    have hk : (srtC cK (keys.zip l)).map Prod.fst = pick keys ps := by
      rw [hf, srtC_congr totK (m := pick keys ps) fun y => (pk.mem_iff).symm, srtC_asc totK h]
    have hz : ((pick keys ps).zip (pick l ps)).map Prod.fst = pick keys ps := List.map_fst_zip (by rw [pk.length_eq, pv.length_eq]; omega)
    have hpz : ((pick keys ps).zip (pick l ps)).Perm (keys.zip l) := by
      rw [← pick_zip hl hlt]
      exact pick_perm (by rw [List.length_zip, ← hl, Nat.min_self]; exact hp)
    have he : srtC cK (keys.zip l) = (pick keys ps).zip (pick l ps) := eq_of_fst hnd (fun p hp => mem_srtC_sub hp) (fun p hp => (hpz.mem_iff).1 hp) (by rw [hk, hz])
    refine ⟨he, ?_, ?_⟩
    · rw [he, List.length_zip, pk.length_eq, pv.length_eq, ← hl, Nat.min_self]
    · rw [he]
      unfold mapV
      rw [hz, List.map_snd_zip (by rw [pk.length_eq, pv.length_eq]; omega)]
  · have hlen' : (srtC cmpK keys).length = keys.length := by rw [← hf, List.length_map]; exact hlen
    obtain ⟨R, hR⟩ := perm_of_sub (S := srtC cmpK keys) (L := keys) ((asc_srtC totK keys).nodup totK) fun x hx => (mem_srtC totK keys x).1 hx
    have hR0 : R = [] := by
      have := hR.length_eq
      rw [List.length_append] at this
      exact List.eq_nil_of_length_eq_zero (by omega)
    subst hR0
    rw [List.append_nil] at hR
    exact h (weak_nodup totK hs (pk.nodup_iff.2 (hR.nodup_iff.2 ((asc_srtC totK keys).nodup totK))))
end Go.Proofs.YtjfknigiehggkaaGreat
namespace Go.Proofs.YtjfknigiehggkaaGreat
open Go Go.RowKit
theorem OwnC.imp {α : Type} {Pr Pr' : α → List Value → Prop} {e : TypeId} {c : Nat} {w : World} {base : Nat} {v : Value} {l : List α} (h : OwnE (elC Pr) e c w base v l) (hP : ∀ x cs, Pr x cs → Pr' x cs) : OwnE (elC Pr') e c w base v l := by
  obtain ⟨xs, ho, hx⟩ := h
  exact ⟨xs, ho, fun j x hj => hP _ _ (hx j x hj)⟩
structure MpI (k H : Nat) (w : World) (u1 u2 : Value) (ks : List (Int × List UInt8)) (vs : List Vl) (D : Nat → Prop) : Prop where
  ky : OwnY w H u1 ks
  vl : OwnX7 k w D w H u2 vs
  dd : ∀ b, D b → H ≤ b ∧ b < w.heap.size ∧ some b ≠ u1.ownBlock ∧ some b ≠ u2.ownBlock
  dj : ∀ g, u1.ownBlock = some g → some g ≠ u2.ownBlock
theorem MpI.nil (k H : Nat) (w : World) : MpI k H w (.slice none 0 0) (.slice none 0 0) [] [] (fun _ => False) :=
  ⟨OwnE.nil _ _ _ _ _, OwnE.nil _ _ _ _ _, fun _ h => h.elim, fun g h => by simp [Value.ownBlock] at h⟩
/-- in a later world that is the same in the blocks of H and behind -/
theorem MpI.keep {k H : Nat} {w w' : World} {u1 u2 : Value} {ks : List (Int × List UInt8)} {vs : List Vl} {D : Nat → Prop} (h : MpI k H w u1 u2 ks vs D) (hs : w.heap.size ≤ w'.heap.size) (hb : ∀ b, H ≤ b → b < w.heap.size → w'.heap[b]? = w.heap[b]?) : MpI k H w' u1 u2 ks vs D := by
  have h1 := h.ky.kept hs hb
  have h2 := h.vl.kept hs hb
  refine ⟨h1, OwnC.imp h2 fun x cs hx => VB.keep ⟨hs, fun b i hD hl => World.cell?_of_block (hb b (h.dd b hD).1 hl)⟩ hx, fun b hD => ?_, h.dj⟩
  obtain ⟨q1, q2, q3, q4⟩ := h.dd b hD
  exact ⟨q1, by omega, q3, q4⟩
theorem MpI.key {k H : Nat} {w w' : World} {u1 u1' u2 : Value} {ks ks' : List (Int × List UInt8)} {vs : List Vl} {D : Nat → Prop} (h : MpI k H w u1 u2 ks vs D) (ho : OwnY w' H u1' ks') (hb : Below H w w') (hk : ∀ b, b < w.heap.size → some b ≠ u1.ownBlock → w'.heap[b]? = w.heap[b]?) (hg : ∀ g, u1'.ownBlock = some g → u1.ownBlock = some g ∨ w.heap.size ≤ g) : MpI k H w' u1' u2 ks' vs D := by
  have hlt := h.vl.blk
  have h2 : OwnX7 k w D w' H u2 vs := OwnC.kept h.vl fun g hg2 => hk g (hlt g hg2).2 fun e => h.dj g e.symm hg2.symm
  refine ⟨ho, OwnC.imp h2 fun x cs hx => VB.keep ⟨hb.size, fun b i hD hl => World.cell?_of_block (hk b hl (h.dd b hD).2.2.1)⟩ hx, fun b hD => ?_, fun g hg1 e => ?_⟩
  · obtain ⟨q1, q2, q3, q4⟩ := h.dd b hD
    refine ⟨q1, Nat.lt_of_lt_of_le q2 hb.size, fun e => ?_, q4⟩
    rcases hg b e.symm with e1 | e1
    · exact q3 e1.symm
    · omega
  · rcases hg g hg1 with e1 | e1
    · exact h.dj g e1 e
    · have := (hlt g e.symm).2
      omega
/-- the value lies in new blocks, but for the one that is appended from -/
theorem MpI.val {k H : Nat} {w w7 w8 : World} {u1 u2 u2' : Value} {ks : List (Int × List UInt8)} {vs vs' : List Vl} {D D' : Nat → Prop} (h : MpI k H w u1 u2 ks vs D) (hH : H ≤ w.heap.size) (hD' : ∀ b, D' b → w.heap.size ≤ b ∧ b < w7.heap.size) (hb7 : Below w.heap.size w w7)
    (ho : OwnX7 k w7 (fun b => D b ∨ D' b) w8 H u2' vs') (hb8 : Below H w7 w8) (hk : ∀ b, b < w7.heap.size → some b ≠ u2.ownBlock → w8.heap[b]? = w7.heap[b]?) (hg : ∀ g, u2'.ownBlock = some g → u2.ownBlock = some g ∨ w7.heap.size ≤ g) : MpI k H w8 u1 u2' ks vs' (fun b => D b ∨ D' b) := by
  have hl1 := h.ky.blk
  have hl2 := h.vl.blk
  have hs7 := hb7.size
  have hs8 := hb8.size
  have h1 : OwnY w8 H u1 ks := OwnC.kept h.ky fun g hg1 => (hk g (by have := (hl1 g hg1).2; omega) (h.dj g hg1)).trans (hb7.block g (hl1 g hg1).2)
  refine ⟨h1, OwnC.imp ho fun x cs hx => VB.keep ⟨hs8, fun b i hb hl => World.cell?_of_block (hk b hl fun e => ?_)⟩ hx, fun b hb => ?_, fun g hg1 e => ?_⟩
  · rcases hb with hb | hb
    · exact (h.dd b hb).2.2.2 e
    · have := (hl2 b e.symm).2
      have := (hD' b hb).1
      omega
  · rcases hb with hb | hb
    · obtain ⟨q1, q2, q3, q4⟩ := h.dd b hb
      refine ⟨q1, by omega, q3, fun e => ?_⟩
      rcases hg b e.symm with e1 | e1
      · exact q4 e1.symm
      · omega
    · have q := hD' b hb
      refine ⟨by omega, by omega, fun e => ?_, fun e => ?_⟩
      · have := (hl1 b e.symm).2
        omega
      · rcases hg b e.symm with e1 | e1
        · have := (hl2 b e1).2
          omega
        · omega
  · rcases hg g e.symm with e1 | e1
    · exact h.dj g hg1 e1.symm
    · have := (hl1 g hg1).2
      omega
theorem wp_app_kc {ops : Array Oper} {rest : List Oper} {o : Oper} {a : Act} {Q : Exit → Act → World → Prop} {w0 : World} (hgd : o.guard = none) (s x : Operand)
    (ho : o.op = .call { callee := .builtin .append, args := #[s, x], argTypes := #[23, 23] }) (base : Nat) (v : Value) (l : List (Int × List UInt8)) (hs : a.eval s = v) (hown : OwnY w0 base v l)
    (y : Int × List UInt8) (hy : (Lit.int .i64 y.1).wf = true ∧ y.2.length ≤ maxLen) (cap1 : Nat) (H : Nat) (hH : w0.heap.size = H) (hx : a.eval x = .slice (some ⟨H, 0, none⟩) 1 cap1) (hn : l.length ≤ 300000000) (hbase : base ≤ w0.heap.size)
    (h : ∀ g cap w', OwnY w' base (.slice (some ⟨g, 0, none⟩) (l.length + 1) cap) (l ++ [y]) → Below base w0 w' → (∀ b, b < w0.heap.size → some b ≠ v.ownBlock → w'.heap[b]? = w0.heap[b]?) → (v.ownBlock = some g ∨ w0.heap.size ≤ g) → wpList Tryz.prog ops Q rest (a.put o.dst (.slice (some ⟨g, 0, none⟩) (l.length + 1) cap)) w') :
    wpList Tryz.prog ops Q (o :: rest) a (w0.alloc (.cells #[.int .i64 y.1, .string ⟨y.2.toArray⟩] 74)) := by
  obtain ⟨i0, hi, hz0, hz1, hz2⟩ := info_parts Tryz.infoK
  subst hH
  obtain ⟨g, cap, w', h1, h2, h3, h4, h5⟩ := app_one (elC kyC) 23 o.type 74 i0 (.agg #[.int .i64 0, .string ⟨#[]⟩]) 2 24 Tryz.underlying23 hi hz0 hz1 hz2 rfl (by decide) (by decide) w0 base v l hown y [.int .i64 y.1, .string ⟨y.2.toArray⟩] ⟨rfl, hy⟩ rfl (kyC_one ⟨rfl, hy⟩) hn hbase _ rfl cap1
  exact Lib.wpList_append_run _ hgd s x 23 23 ho v _ hs hx _ w' h1 (h g cap w' h2 h3 h4 h5)
theorem VB.later' {k : Nat} {lo : Nat} {w w' : World} {x : Vl} {cs : List Value} (hb : Below w.heap.size w w') (h : VB k w (Btw lo w.heap.size) x cs) : VB k w' (Btw lo w'.heap.size) x cs :=
  VB.sub (fun _ hb' => ⟨hb'.1, Nat.lt_of_lt_of_le hb'.2 hb.size⟩) (Nat.le_refl _) (VB.keep (.of_below hb fun _ h => h.2) h)
/-- seven stores into a box -/
theorem box7m {w : World} {g H : Nat} {e : TypeId} {z0 z1 z2 z3 z4 z5 z6 : Value} (h : w.heap[g]? = some (.cells #[z0, z1, z2, z3, z4, z5, z6] e (0, 0))) (hH : H ≤ g) (v0 v1 v2 v3 v4 v5 v6 : Value) (V : World) (hV : V = (((((((w.setCell ⟨g, 0, none⟩ v0).setCell ⟨g, 1, none⟩ v1).setCell ⟨g, 2, none⟩ v2).setCell ⟨g, 3, none⟩ v3).setCell ⟨g, 4, none⟩ v4).setCell ⟨g, 5, none⟩ v5).setCell ⟨g, 6, none⟩ v6)) :
    V.heap[g]? = some (.cells #[v0, v1, v2, v3, v4, v5, v6] e (0, 0)) ∧ V.heap.size = w.heap.size ∧ Below H w V ∧ (∀ b, b ≠ g → V.heap[b]? = w.heap[b]?) := by
  subst hV
  refine ⟨obj7 h v0 v1 v2 v3 v4 v5 v6, by simp, ?_, fun b hb => ?_⟩
  · exact Below.setCell (Below.setCell (Below.setCell (Below.setCell (Below.setCell (Below.setCell (Below.setCell (Below.refl _ _) (p := ⟨g, 0, none⟩) hH _) (p := ⟨g, 1, none⟩) hH _) (p := ⟨g, 2, none⟩) hH _) (p := ⟨g, 3, none⟩) hH _) (p := ⟨g, 4, none⟩) hH _) (p := ⟨g, 5, none⟩) hH _) (p := ⟨g, 6, none⟩) hH _
  · exact (heap_setCell_other _ _ _ _ hb).trans ((heap_setCell_other _ _ _ _ hb).trans ((heap_setCell_other _ _ _ _ hb).trans ((heap_setCell_other _ _ _ _ hb).trans ((heap_setCell_other _ _ _ _ hb).trans ((heap_setCell_other _ _ _ _ hb).trans (heap_setCell_other _ _ _ _ hb))))))
end Go.Proofs.YtjfknigiehggkaaGreat
namespace Go.Proofs.YtjfknigiehggkaaGreat
open Go Go.RowKit
theorem take9_other {α : Type} {xs : List α} {i j c : Nat} (hc : c < 9) (hij : j ≠ i) (u : α) : ((xs.set (i * 9 + c) u).drop (j * 9)).take 9 = (xs.drop (j * 9)).take 9 := by
  refine List.ext_getElem? fun q => ?_
  rw [List.getElem?_take, List.getElem?_take]
  by_cases hq : q < 9
  · rw [if_pos hq, if_pos hq, List.getElem?_drop, List.getElem?_drop, List.getElem?_set_ne (by omega)]
  · rw [if_neg hq, if_neg hq]
theorem take9_same {α : Type} {xs : List α} {i n : Nat} (hl : xs.length = n * 9) (hi : i < n) (v0 v1 v2 v3 v4 v5 v6 v7 v8 : α) :
    ((((((((((xs.set (i * 9) v0).set (i * 9 + 1) v1).set (i * 9 + 2) v2).set (i * 9 + 3) v3).set (i * 9 + 4) v4).set (i * 9 + 5) v5).set (i * 9 + 6) v6).set (i * 9 + 7) v7).set (i * 9 + 8) v8).drop (i * 9)).take 9 = [v0, v1, v2, v3, v4, v5, v6, v7, v8] := by
  have h9 : i * 9 + 9 ≤ xs.length := by omega
  clear hl hi
  generalize i * 9 = p at *
  refine List.ext_getElem? fun q => ?_
  rw [List.getElem?_take]
  by_cases hq : q < 9
  · rw [if_pos hq, List.getElem?_drop]
    have hq' : q = 0 ∨ q = 1 ∨ q = 2 ∨ q = 3 ∨ q = 4 ∨ q = 5 ∨ q = 6 ∨ q = 7 ∨ q = 8 := by omega
    rcases hq' with rfl | rfl | rfl | rfl | rfl | rfl | rfl | rfl | rfl <;> simp [List.getElem?_set] <;> omega
  · rw [if_neg hq, List.getElem?_eq_none (by simp; omega)]
/-- nine stores put the element x in place i of a row of the call's own -/
theorem own_put9 {α : Type} {K : ElK α} {e : TypeId} {w : World} {base g n cap : Nat} {l : List α} (h : OwnE K e 9 w base (.slice (some ⟨g, 0, none⟩) n cap) l) (hn : l.length = n) {i : Nat} (hi : i < n) {x : α} {v0 v1 v2 v3 v4 v5 v6 v7 v8 : Value}
    (hx : K.E x w (fun b => base ≤ b ∧ b < w.heap.size ∧ some b ≠ some g) [v0, v1, v2, v3, v4, v5, v6, v7, v8]) (w' : World)
    (hw : w' = ((((((((w.setCell ⟨g, i * 9, none⟩ v0).setCell ⟨g, i * 9 + 1, none⟩ v1).setCell ⟨g, i * 9 + 2, none⟩ v2).setCell ⟨g, i * 9 + 3, none⟩ v3).setCell ⟨g, i * 9 + 4, none⟩ v4).setCell ⟨g, i * 9 + 5, none⟩ v5).setCell ⟨g, i * 9 + 6, none⟩ v6).setCell ⟨g, i * 9 + 7, none⟩ v7).setCell ⟨g, i * 9 + 8, none⟩ v8) :
    OwnE K e 9 w' base (.slice (some ⟨g, 0, none⟩) n cap) (l.set i x) ∧ w'.heap.size = w.heap.size ∧ Below base w w' ∧ ∀ b, b ≠ g → w'.heap[b]? = w.heap[b]? := by
  have hg : base ≤ g := (h.blk g rfl).1
  obtain ⟨xs, ho, hxs⟩ := h
  have hl := ho.1
  rw [hn] at ho hl
  have hsz : w'.heap.size = w.heap.size := by rw [hw]; simp
  have hoth : ∀ b, b ≠ g → w'.heap[b]? = w.heap[b]? := fun b hb => by
    rw [hw]
    exact (heap_setCell_other _ _ _ _ hb).trans ((heap_setCell_other _ _ _ _ hb).trans ((heap_setCell_other _ _ _ _ hb).trans ((heap_setCell_other _ _ _ _ hb).trans ((heap_setCell_other _ _ _ _ hb).trans ((heap_setCell_other _ _ _ _ hb).trans ((heap_setCell_other _ _ _ _ hb).trans ((heap_setCell_other _ _ _ _ hb).trans (heap_setCell_other _ _ _ _ hb))))))))
  have hbel : Below base w w' := by
    rw [hw]
    exact ((((((((((Below.refl base w).setCell (p := ⟨g, _, none⟩) hg _).setCell (p := ⟨g, _, none⟩) hg _).setCell (p := ⟨g, _, none⟩) hg _).setCell (p := ⟨g, _, none⟩) hg _).setCell (p := ⟨g, _, none⟩) hg _).setCell (p := ⟨g, _, none⟩) hg _).setCell (p := ⟨g, _, none⟩) hg _).setCell (p := ⟨g, _, none⟩) hg _).setCell (p := ⟨g, _, none⟩) hg _)
  have hst := (((((((((ho.stored (i * 9) v0).1.stored (i * 9 + 1) v1).1.stored (i * 9 + 2) v2).1.stored (i * 9 + 3) v3).1.stored (i * 9 + 4) v4).1.stored (i * 9 + 5) v5).1.stored (i * 9 + 6) v6).1.stored (i * 9 + 7) v7).1.stored (i * 9 + 8) v8).1
  rw [← hw] at hst
  have hsm : Same (fun b => base ≤ b ∧ b < w.heap.size ∧ some b ≠ some g) w w' := ⟨by omega, fun b i hB _ => World.cell?_of_block (hoth b fun e => hB.2.2 (by rw [e]))⟩
  have hsub : ∀ b, (base ≤ b ∧ b < w.heap.size ∧ some b ≠ some g) → (base ≤ b ∧ b < w'.heap.size ∧ some b ≠ (Value.slice (some ⟨g, 0, none⟩) n cap).ownBlock) := fun b hb => ⟨hb.1, by rw [hsz]; exact hb.2.1, hb.2.2⟩
  refine ⟨⟨_, by rw [List.length_set, hn]; exact hst, fun j y hj => ?_⟩, hsz, hbel, hoth⟩
  by_cases hji : j = i
  · subst hji
    rw [List.getElem?_set_self (by omega)] at hj
    injection hj with hj
    subst hj
    rw [take9_same hl hi]
    exact K.sub hsub (K.keep hsm hx)
  · rw [List.getElem?_set_ne (fun e => hji e.symm)] at hj
    have h0 := take9_other (xs := xs) (c := 0) (by omega) hji v0
    rw [Nat.add_zero] at h0
    rw [take9_other (by omega) hji, take9_other (by omega) hji, take9_other (by omega) hji, take9_other (by omega) hji, take9_other (by omega) hji, take9_other (by omega) hji, take9_other (by omega) hji, take9_other (by omega) hji, h0]
    exact K.sub hsub (K.keep hsm (hxs j y hj))
end Go.Proofs.YtjfknigiehggkaaGreat
namespace Go.Proofs.YtjfknigiehggkaaGreat
open Go Go.RowKit
abbrev RowY (w : World) (B : Nat → Prop) (v : Value) (l : List (Int × List UInt8)) : Prop := RowB w B 2 v l.length (fun j cs => ∃ x, l[j]? = some x ∧ kyC x cs)
def keysB (keys : List (Int × List UInt8)) : Bool := keys.all (fun x => keyB x.1 x.2)
def MapR (k lo : Nat) (keys : List (Int × List UInt8)) (l : List Vl) (w : World) (e : Ending) (w' : World) : Prop :=
  Below w.heap.size w w' ∧ ((¬ (keys.length = l.length ∧ keysB keys = true) ∧ e = .returned (.tuple #[.agg #[.int .i64 0, .int .i64 0, .string ⟨#[]⟩, .slice none 0 0, .slice none 0 0, .slice none 0 0, .slice none 0 0], .int .i64 1])) ∨
    (keys.length = l.length ∧ keysB keys = true ∧ (srtC cK (keys.zip l)).length ≠ keys.length ∧ e = .returned (.tuple #[.agg #[.int .i64 0, .int .i64 0, .string ⟨#[]⟩, .slice none 0 0, .slice none 0 0, .slice none 0 0, .slice none 0 0], .int .i64 6])) ∨
    (keys.length = l.length ∧ keysB keys = true ∧ (srtC cK (keys.zip l)).length = keys.length ∧ ∃ cs, e = .returned (.tuple #[.agg cs.toArray, .int .i64 0]) ∧ VB (k + 1) w' (Btw lo w'.heap.size) (mapV (srtC cK (keys.zip l))) cs))
end Go.Proofs.YtjfknigiehggkaaGreat
