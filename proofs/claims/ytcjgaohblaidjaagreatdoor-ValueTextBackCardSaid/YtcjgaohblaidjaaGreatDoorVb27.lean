/- What Format of the program returns: the notation of a valid value, the empty string for others. Conditions: the table of powers of ten is laid; the notation has at most 2^47 bytes. -/
import Derived.Test.YtcjgaohblaidjaaGreatDoorVb04
import Derived.Test.YtcjgaohblaidjaaGreatDoorVb18
import Derived.Test.YtcjgaohblaidjaaGreatDoorVb24
import Derived.Test.YtcjgaohblaidjaaGreatDoorVb25
import Derived.Test.YtcjgaohblaidjaaGreatDoorVb26
import Derived.Test.YtcjgaohblaidjaaGreatDoorRows
import Derived.LaidLaws
import Derived.LaidMore
import Derived.Lib.LaidTab
import Derived.Deep.DeepWitnessRowRef
import Derived.Lay
namespace Go.Proofs.YtcjgaohblaidjaaGreatDoor
open Go Go.RowKit
set_option maxRecDepth 100000 in
set_option maxHeartbeats 1600000 in
theorem format_any (k : Nat) (v : Vl) (cs : List Value) (w : World) (hv : VS k w w.heap.size v cs) (hT : TbH w.heap.size w) (hlim : okV v = true → (showV v).length ≤ 140737488355328) :
  Calls Tryz.prog 10 #[.agg cs.toArray] w fun e w' => e = .returned (.string ⟨(if okV v = true then showV v else []).toArray⟩) ∧ Below w.heap.size w w' := by
 obtain ⟨a, i, s, B1, n1, d1, B2, n2, d2, B3, n3, d3, B4, n4, d4, rfl⟩ := hv.form7
 obtain ⟨W, hW⟩ : ∃ W, W = w.alloc (.cells #[.int .i64 a, .int .i64 i, .string s, .slice B1 n1 d1, .slice B2 n2 d2, .slice B3 n3 d3, .slice B4 n4 d4] 27) := ⟨_, rfl⟩
 have hbW : Below w.heap.size w W := by rw [hW]; exact (Below.refl _ _).alloc (Nat.le_refl _) _
 have kW : W.heap[w.heap.size]? = some (.cells #[.int .i64 a, .int .i64 i, .string s, .slice B1 n1 d1, .slice B2 n2 d2, .slice B3 n3 d3, .slice B4 n4 d4] 27 (0, 0)) := by rw [hW]; exact heap_alloc_new w _
 have hva := validate_any k v _ W (VS.up hbW.size (Nat.le_refl _) (VS.on hbW hv))
 have HB := Lib.hid hbW
 have HK := Lib.hid kW
 have HV := Lib.hid hv
 have HT := Lib.hid hT
 have HL := Lib.hid hlim
 clear hbW kW hv hT hlim
 cases hok : okV v with
 | false =>
  rw [hok] at hva
  clear hok
  go_enter Tryz.func10, Tryz.ntmps10
  go_wp2_with fail
  rw [← hW]
  clear hW
  refine hva.mono ?_
  rintro e w1 ⟨rfl, hb1⟩
  clear hva
  have HB1 := Lib.hid (HB.out.trans (hb1.mono HB.out.size))
  clear hb1
  go_wp2
  go_ret
  exact ⟨rfl, HB1.out⟩
 | true =>
  rw [hok] at hva
  have HOK := Lib.hid hok
  clear hok
  go_enter Tryz.func10, Tryz.ntmps10
  go_wp2_with fail
  rw [← hW]
  clear hW
  refine hva.mono ?_
  rintro e w1 ⟨rfl, hb1⟩
  clear hva
  have hbw1 := HB.out.trans (hb1.mono HB.out.size)
  have k1 := (hb1.block _ (Array.getElem?_eq_some_iff.1 HK.out).1).trans HK.out
  obtain ⟨w2, hw2⟩ : ∃ w2, w2 = w1.alloc (.cells #[.slice none 0 0, .int .i64 0, .int .i8 0] 54) := ⟨_, rfl⟩
  have hb2 : Below w1.heap.size w1 w2 := by rw [hw2]; exact (Below.refl _ _).alloc (Nat.le_refl _) _
  have hI : BufW w1.heap.size w1.heap.size [] w2 := by
   rw [hw2]
   exact ⟨Lib.fresh_isBuffer 54 5 w1, by simp⟩
  have hbw2 := hbw1.trans (hb2.mono hbw1.size)
  have k2 := (hb2.block _ (Array.getElem?_eq_some_iff.1 k1).1).trans k1
  have hwr := write_all k w1.heap.size w1.heap.size [] v _ w2 hI (VS.up hbw1.size (Nat.le_refl _) (VS.on hbw2 HV.out)) HOK.out (fun w' h => HT.out w' (hbw2.trans (h.mono hbw1.size))) (by have := HL.out HOK.out; simpa using this)
  obtain ⟨e0, e1, e2, e3, e4, e5, e6⟩ := cells7 k2
  rw [hw2] at e0 e1 e2 e3 e4 e5 e6
  have HB2 := Lib.hid hbw2
  have HS := Lib.hid hbw1.size
  clear hb1 hbw1 k1 hb2 hI hbw2 k2
  go_wp2_with fail
  rw [← hw2]
  clear hw2 e0 e1 e2 e3 e4 e5 e6
  refine hwr.mono ?_
  rintro e w3 ⟨rfl, h3, hb3⟩
  clear hwr
  rw [List.nil_append] at h3
  have hst := Tryz.Buffer_String _ _ _ _ h3.1
  have HB3 := Lib.hid (HB2.out.trans (hb3.1.mono HS.out))
  clear h3 hb3
  go_wp2_with fail
  refine hst.mono ?_
  rintro e w4 ⟨rfl, nq, rfl⟩
  clear hst
  go_wp2
  go_ret
  exact ⟨rfl, HB3.out.trans ⟨rfl, rfl, rfl, Nat.le_refl _, fun _ _ => rfl⟩⟩
end Go.Proofs.YtcjgaohblaidjaaGreatDoor
namespace Go.Proofs.YtcjgaohblaidjaaGreatDoor
open Go Go.RowKit
theorem EnvH.tbH {B : Nat} {w : World} (h : EnvH B w) (hB : B ≤ w.heap.size) : TbH w.heap.size w := fun w' h' => (h w' (h'.mono hB)).1
set_option maxRecDepth 100000 in
set_option maxHeartbeats 1600000 in
theorem awake_any5 (B : Nat) (w : World) (hB : B ≤ w.heap.size) (hE : EnvH B w) :
  Calls Tryz.prog 8 #[] w fun e w' => e = .returned (.bool true) ∧ Below w.heap.size w w' := by
 have hp := parse_any5 B awS w (by decide) hB hE
 rw [aw_parse] at hp
 have hp2 : Calls Tryz.prog 12 #[.string ⟨#[102, 117, 110, 47, 49, 123, 40, 49, 41, 32, 45, 62, 32, 33, 44, 32, 40, 50, 41, 32, 45, 62, 32, 91, 111, 107, 32, 124, 32, 91, 93, 64, 40, 66, 41, 93, 125]⟩] w (ParPost (some awV) w) := hp
 have HE := Lib.hid hE
 clear hp hE
 go_enter Tryz.func8, Tryz.ntmps8
 go_wp2_with fail
 refine hp2.mono ?_
 rintro e w1 ⟨hb1, hpo⟩
 clear hp2
 rcases hpo with ⟨hno, _⟩ | ⟨v, a, i, s, A1, n1, c1, A2, n2, c2, A3, n3, c3, A4, n4, c4, hv, rfl, hvb⟩
 · cases hno
 injection hv with hv
 subst hv
 have hs1 := hb1.size
 generalize kN5 131072 = K at hvb
 cases K with
 | zero => exact hvb.elim
 | succ K =>
  have hf := VB.sub (fun b (hb : Btw w.heap.size w1.heap.size b) => hb.2) (Nat.le_refl _) hvb
  have hf0 := hf
  obtain ⟨uk, uy, ue, ul, hcs, _, _, _, _, _, hee, _⟩ := hf0
  simp only [List.cons.injEq, and_true, Value.int.injEq, true_and, Value.string.injEq] at hcs
  obtain ⟨rfl, rfl, rfl, rfl, rfl, rfl, rfl⟩ := hcs
  obtain ⟨b, off, cap, y0, y1, x0, x1, x2, x3, x4, x5, x6, hu, hbl, ⟨args, fails, result, hx, ua, rs, hcse, _, _⟩, _, d1, _⟩ := hee.at9 (j := 0) (by decide)
  injection hu with h1 h2 h3
  subst h1 h3
  have hn3 : n3 = 2 := h2
  subst hn3
  have hx2 : (En.mk [.mk 1 1 [] [] [] [] []] true zeroV) = .mk args fails result := by simpa using hx
  injection hx2 with _ hfa _
  subst hfa
  simp only [List.cons.injEq] at hcse
  obtain ⟨_, rfl, _⟩ := hcse
  simp only [Nat.zero_mul, Nat.add_zero] at d1
  obtain ⟨w2, hw2⟩ : ∃ w2, w2 = w1.alloc (.cells #[.int .i64 9, .int .i64 1, .string ⟨#[]⟩, .slice A1 n1 c1, .slice A2 n2 c2, .slice (some ⟨b, off, none⟩) 2 c3, .slice A4 n4 c4] 27) := ⟨_, rfl⟩
  have hb2 : Below w1.heap.size w1 w2 := by rw [hw2]; exact (Below.refl _ _).alloc (Nat.le_refl _) _
  have d1' : w2.cell? ⟨b, off + 1, none⟩ = some (.bool true) := (hb2.cell (p := ⟨b, off + 1, none⟩) hbl).trans d1
  have hfo := format_any (K + 1) awV _ w2 (VS.up hb2.size (Nat.le_refl _) (VS.on hb2 hf)) ((HE.out.below (hb1.mono hB)).below (hb2.mono (Nat.le_trans hB hs1)) |>.tbH (Nat.le_trans hB (Nat.le_trans hs1 hb2.size))) (fun _ => by rw [aw_show]; decide)
  rw [if_pos aw_fit.ok, aw_show] at hfo
  have hfo2 : Calls Tryz.prog 10 #[.agg #[.int .i64 9, .int .i64 1, .string ⟨#[]⟩, .slice A1 n1 c1, .slice A2 n2 c2, .slice (some ⟨b, off, none⟩) 2 c3, .slice A4 n4 c4]] w2 fun e w' => e = .returned (.string ⟨#[102, 117, 110, 47, 49, 123, 40, 49, 41, 32, 45, 62, 32, 33, 44, 32, 40, 50, 41, 32, 45, 62, 32, 91, 111, 107, 32, 124, 32, 91, 93, 64, 40, 66, 41, 93, 125]⟩) ∧ Below w2.heap.size w2 w' := hfo
  have HB2 := Lib.hid (hb1.trans (hb2.mono hs1))
  have HS := Lib.hid (Nat.le_trans hs1 hb2.size)
  rw [hw2] at d1'
  clear hfo hf hvb hee hb1 hs1 hb2 d1 hbl hx h2
  go_wp2_with fail
  rw [← hw2]
  clear hw2 d1'
  refine hfo2.mono ?_
  rintro e w3 ⟨rfl, hb3⟩
  clear hfo2
  have HB3 := Lib.hid (HB2.out.trans (hb3.mono HS.out))
  clear hb3
  go_wp2
  go_ret
  exact ⟨rfl, HB3.out⟩
end Go.Proofs.YtcjgaohblaidjaaGreatDoor
namespace Go.Proofs.YtcjgaohblaidjaaGreatDoor
open Go Go.RowKit
mutual
theorem sml_tiny : ∀ {v : Vl}, sml v → tiny v
 | .mk _ _ _ v y e l, h => by
  unfold sml at h
  unfold tiny
  exact ⟨h.1, h.2.1, h.2.2.1, h.2.2.2.1, smlVs_tiny h.2.2.2.2.1, smlEs_tiny h.2.2.2.2.2⟩
theorem smlVs_tiny : ∀ {l : List Vl}, smlVs l → tinyVs l
 | [], _ => by unfold tinyVs; trivial
 | a :: s, h => by
  unfold smlVs at h
  unfold tinyVs
  exact ⟨sml_tiny h.1, smlVs_tiny h.2⟩
theorem smlE_tiny : ∀ {e : En}, smlE e → tinyE e
 | .mk a _ r, h => by
  unfold smlE at h
  unfold tinyE
  exact ⟨h.1, smlVs_tiny h.2.1, sml_tiny h.2.2⟩
theorem smlEs_tiny : ∀ {l : List En}, smlEs l → tinyEs l
 | [], _ => by unfold tinyEs; trivial
 | a :: s, h => by
  unfold smlEs at h
  unfold tinyEs
  exact ⟨smlE_tiny h.1, smlEs_tiny h.2⟩
end
def DrawnOk5 : Prop := ∀ (A : Option Addr) (n c : Nat) (w : World), RowP w w.heap.size 1 (.slice A n c) n (fun _ cs => ∃ x, cs = [.int .i64 x] ∧ (Lit.int .i64 x).wf = true) → n ≤ maxLen →
  Calls Tryz.prog 9 #[.slice A n c] w fun e w' => ∃ v cs, e = .returned (.agg cs.toArray) ∧ VB 4 w' (Btw w.heap.size w'.heap.size) v cs ∧ okV v = true ∧ sml v ∧ Below w.heap.size w w'
set_option maxRecDepth 100000 in
set_option maxHeartbeats 1600000 in
theorem back_law (hD : Hid DrawnOk5) (A : Option Addr) (n c : Nat) (w : World) (hR : RowP w w.heap.size 1 (.slice A n c) n (fun _ cs => ∃ x, cs = [.int .i64 x] ∧ (Lit.int .i64 x).wf = true)) (hEH : EnvH w.heap.size w) :
  Calls Tryz.prog 4 #[.slice A n c] w fun e w' => e = .returned (.bool true) ∧ Below w.heap.size w w' := by
 have hH := Lib.hid hEH
 obtain ⟨_, _, _, hnm⟩ := hR.form
 clear hEH
 by_cases hn : n ≤ 120
 ·
  have hn1 : ¬ (120 : Int) < (n : Int) := by omega
  have hdr := hD.out A n c w hR hnm
  clear hR
  go_enter Tryz.func4, Tryz.ntmps4
  go_wp2_with fail
  refine hdr.mono ?_
  rintro e w1 ⟨v, cs, rfl, hvb, hok, hsm, hb1⟩
  clear hdr
  obtain ⟨va, vi, vs, vA1, vn1, vc1, vA2, vn2, vc2, vA3, vn3, vc3, vA4, vn4, vc4, rfl⟩ := hvb.form7
  have hfit : Fit 4 v := hvb.fit hok
  have hlen := drawn_len hfit (sml_tiny hsm)
  obtain ⟨w2, hw2⟩ : ∃ w2, w2 = w1.alloc (.cells #[.int .i64 va, .int .i64 vi, .string vs, .slice vA1 vn1 vc1, .slice vA2 vn2 vc2, .slice vA3 vn3 vc3, .slice vA4 vn4 vc4] 27) := ⟨_, rfl⟩
  have hb2 : Below w1.heap.size w1 w2 := by rw [hw2]; exact (Below.refl _ _).alloc (Nat.le_refl _) _
  have k2 : w2.heap[w1.heap.size]? = some (.cells #[.int .i64 va, .int .i64 vi, .string vs, .slice vA1 vn1 vc1, .slice vA2 vn2 vc2, .slice vA3 vn3 vc3, .slice vA4 vn4 vc4] 27 (0, 0)) := by rw [hw2]; exact heap_alloc_new w1 _
  have hs1 := hb1.size
  have hs2 := hb2.size
  have hbw2 := hb1.trans (hb2.mono hs1)
  have hv2 : VS 4 w2 w2.heap.size v _ := VB.sub (fun b hb => by have := hb.2; omega) (Nat.le_refl _) (VB.keep (Same.of_below hb2 fun b hb => hb.2) hvb)
  have hfo := format_any 4 v _ w2 hv2 ((hH.out.below hbw2).tbH (Nat.le_trans hs1 hs2)) (fun _ => by omega)
  rw [if_pos hok] at hfo
  have HV2 := Lib.hid hv2
  have HB2 := Lib.hid hbw2
  have HF := Lib.hid (And.intro hfit hlen)
  have HS := Lib.hid (show w.heap.size ≤ w2.heap.size ∧ w1.heap.size < w2.heap.size from ⟨by omega, by rw [hw2]; simp⟩)
  have HK2 := Lib.hid k2
  clear hvb hok hsm hb1 hb2 hs1 hs2 hbw2 hv2 hfit hlen k2
  go_wp2_with fail
  rw [← hw2]
  clear hw2
  refine hfo.mono ?_
  rintro e w3 ⟨rfl, hb3⟩
  clear hfo
  have hs3 := hb3.size
  have hbw3 := HB2.out.trans (hb3.mono HS.out.1)
  have hpa := parse_any5 w.heap.size (showV v) w3 (by have := HF.out.2; unfold limP; omega) hbw3.size (hH.out.below hbw3)
  rw [parseV_full (HF.out.1.mono (by decide))] at hpa
  have HB3 := Lib.hid hbw3
  have HV3 := Lib.hid (VS.up hs3 (Nat.le_refl _) (VS.on hb3 HV2.out))
  have HK3 := Lib.hid ((hb3.block _ HS.out.2).trans HK2.out)
  clear hb3 hs3 hbw3
  go_wp2_with fail
  refine hpa.mono ?_
  rintro e w4 ⟨hb4, hpo⟩
  clear hpa
  rcases hpo with ⟨hno, _⟩ | ⟨v', a, i, s, A1, n1, c1, A2, n2, c2, A3, n3, c3, A4, n4, c4, hv', rfl, hvb⟩
  · cases hno
  injection hv' with hv'
  subst hv'
  have hs4 := hb4.size
  obtain ⟨w5, hw5⟩ : ∃ w5, w5 = w4.alloc (.cells #[.int .i64 a, .int .i64 i, .string s, .slice A1 n1 c1, .slice A2 n2 c2, .slice A3 n3 c3, .slice A4 n4 c4] 27) := ⟨_, rfl⟩
  have hb5 : Below w4.heap.size w4 w5 := by rw [hw5]; exact (Below.refl _ _).alloc (Nat.le_refl _) _
  have hs5 := hb5.size
  have hv5 : VS (kN5 131072) w5 w5.heap.size v _ := VB.sub (fun b hb => by have := hb.2; omega) (Nat.le_refl _) (VB.keep (Same.of_below hb5 fun b hb => hb.2) hvb)
  have h45 := hb4.trans (hb5.mono hs4)
  have hu5 : VS (kN5 131072) w5 w5.heap.size v _ := VS.up (Nat.le_trans hs4 hs5) (by decide) (VS.on h45 HV3.out)
  have heq := refEqual_any (kN5 131072) v v _ _ w5 hu5 hv5
  rw [show decide (cmpV v v = 0) = true from by rw [decide_eq_true_iff]; exact cmpV_zero.2 rfl] at heq
  have k5 := (h45.block _ (Array.getElem?_eq_some_iff.1 HK3.out).1).trans HK3.out
  obtain ⟨e0, e1, e2, e3, e4, e5, e6⟩ := cells7 k5
  rw [hw5] at e0 e1 e2 e3 e4 e5 e6
  have hbw5 := HB3.out.trans (h45.mono HB3.out.size)
  have HB5 := Lib.hid hbw5
  clear hb4 hvb hs4 hb5 hs5 hv5 h45 hu5 k5 hbw5
  go_wp2_with fail
  rw [← hw5]
  clear hw5 e0 e1 e2 e3 e4 e5 e6
  refine heq.mono ?_
  rintro e w6 ⟨rfl, hb6⟩
  clear heq
  have hbw6 := HB5.out.trans (hb6.mono HB5.out.size)
  have haw := awake_any5 w.heap.size w6 hbw6.size (hH.out.below hbw6)
  have HB6 := Lib.hid hbw6
  clear hb6 hbw6
  go_wp2_with fail
  refine haw.mono ?_
  rintro e w7 ⟨rfl, hb7⟩
  clear haw
  have HB7 := Lib.hid (HB6.out.trans (hb7.mono HB6.out.size))
  clear hb7
  go_wp2
  go_ret
  exact ⟨rfl, HB7.out⟩
 ·
  have hn1 : (120 : Int) < (n : Int) := by omega
  have haw := awake_any5 w.heap.size w (Nat.le_refl _) hH.out
  clear hR
  go_enter Tryz.func4, Tryz.ntmps4
  go_wp2_with fail
  refine haw.mono ?_
  rintro e w1 ⟨rfl, hb1⟩
  clear haw
  go_wp2
  go_ret
  exact ⟨rfl, hb1⟩
end Go.Proofs.YtcjgaohblaidjaaGreatDoor
namespace Go.Proofs.YtcjgaohblaidjaaGreatDoor
open Go Go.RowKit Go.ChangeShapes Go.WideShapes
theorem var_below {w w' : World} {H : Nat} {n : String} {cs : Array Value} (h : w.var? Tryz.prog n = some cs) (hH : w.heap.size ≤ H) (hb : Below H w w') : w'.var? Tryz.prog n = some cs := by
 unfold World.var? at *
 cases hg : Program.globalNamed Tryz.prog n with
 | none => simp [hg] at h
 | some g =>
  simp only [hg, Option.bind_some] at h ⊢
  have hlt : g < w.heap.size := by
   rcases Nat.lt_or_ge g w.heap.size with h' | h'
   · exact h'
   · rw [Array.getElem?_eq_none h'] at h; simp at h
  rw [hb.block g (Nat.lt_of_lt_of_le hlt hH)]
  exact h
theorem EnvW.envH {w : World} (h : EnvW w) : EnvH w.heap.size w := by
 intro w' hb
 obtain ⟨h1, ⟨t1, q1, h2⟩, ⟨t2, q2, h3⟩⟩ := h
 exact ⟨h1.below (Nat.le_refl _) hb, ⟨t1, q1, var_below h2 (Nat.le_refl _) hb⟩, ⟨t2, q2, var_below h3 (Nat.le_refl _) hb⟩⟩
theorem arr_of {cs : Array Value} {x : Value} (h : cs.toList = [x]) : cs = #[x] := by
 cases cs with
 | mk l => exact congrArg Array.mk h
theorem pow_dat : (Rows.laid_internal_strconv_uint64pow10 : DataW Unit) = Lib.tabData .u64 Lib.pow10Tab := by kernel_rfl
theorem env_at {W : World} (h : laidMetH Tryz.prog Rows.valueTextBackRow.laid W) : EnvW W := by
 rw [MakeChecks.laidMetH_plain _ _ _ (by kernel_rfl)] at h
 obtain ⟨ps, hv, _, _⟩ := h
 obtain ⟨g0, t0, cs0, f0, p0, q0, _, _, _, _, hv, _⟩ := hv
 obtain ⟨g1, t1, cs1, f1, p1, q1, _, _, _, _, hv, _⟩ := hv
 obtain ⟨g2, t2, cs2, f2, p2, q2, hg2, ht2, hv2, hd2, hv, _⟩ := hv
 obtain ⟨g3, t3, cs3, f3, p3, q3, hg3, ht3, hv3, hd3, hv, _⟩ := hv
 obtain ⟨g4, t4, cs4, f4, p4, q4, hg4, ht4, hv4, hd4, hv, _⟩ := hv
 obtain rfl := Option.some.inj ((show Tryz.prog.globalNamed "internal/strconv.uint64pow10" = some 1 by kernel_rfl).symm.trans hg2)
 obtain rfl := Option.some.inj ((show (Tryz.prog.globals[1]?).map (·.type) = some 161 by kernel_rfl).symm.trans ht2)
 obtain rfl := Option.some.inj ((show Tryz.prog.globalNamed "strconv.ErrRange" = some 6 by kernel_rfl).symm.trans hg3)
 obtain rfl := Option.some.inj ((show (Tryz.prog.globals[6]?).map (·.type) = some 68 by kernel_rfl).symm.trans ht3)
 obtain rfl := Option.some.inj ((show Tryz.prog.globalNamed "strconv.ErrSyntax" = some 5 by kernel_rfl).symm.trans hg4)
 obtain rfl := Option.some.inj ((show (Tryz.prog.globals[5]?).map (·.type) = some 68 by kernel_rfl).symm.trans ht4)
 rw [pow_dat] at hd2
 have e2 := Lib.cells_of_tab Tryz.underlying161 Tryz.underlying134 (by kernel_rfl) (by kernel_rfl) hd2
 obtain ⟨_, u3, v3, e3, _, _⟩ := iface_of_trod Tryz.underlying68 hd3
 obtain ⟨_, u4, v4, e4, _, _⟩ := iface_of_trod Tryz.underlying68 hd4
 refine ⟨?_, ⟨u4, v4, ?_⟩, ⟨u3, v3, ?_⟩⟩
 ·
  show World.var? _ _ _ = _
  rw [hv2, ← e2]
 · rw [hv4, arr_of e4]
 · rw [hv3, arr_of e3]
end Go.Proofs.YtcjgaohblaidjaaGreatDoor
