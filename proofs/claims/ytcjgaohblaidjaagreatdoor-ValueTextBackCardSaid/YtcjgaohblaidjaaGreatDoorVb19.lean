/- What enclosed of the program's parser gives, for items of the kind api.Entry: any number of items, then the end. -/
import Derived.Test.YtcjgaohblaidjaaGreatDoorVb06
import Derived.Test.YtcjgaohblaidjaaGreatDoorVb16
import Derived.Test.YtcjgaohblaidjaaGreatDoorVb17
import Derived.Test.YtcjgaohblaidjaaGreatDoorVb18
import Derived.Lib.AtoiErrMem
import Derived.Shelf.Strconv.ErrVarParseInt
namespace Go.Proofs.YtcjgaohblaidjaaGreatDoor
open Go Go.RowKit
set_option maxRecDepth 100000 in
set_option maxHeartbeats 1600000 in
theorem encE_any (B k p : Nat) (hBp : B ≤ p) (d : Int) (item : Rd En) (hI : Hid (EntI B k p d item)) (en : Bs) (r : Bs) (w : World) (h : PrsW p r d w) (hr : r.length ≤ limP) (hE : EnvH B w) :
  Calls Tryz.prog 129 #[.pointer (some ⟨p, 0, none⟩), .func (.func 130) #[.pointer (some ⟨p, 0, none⟩)] #[], .string ⟨en.toArray⟩] w (ListPost (elE k) 45 9 p d (manyP item en r) r w) := by
 have hlp := h.lt
 unfold limP at hr
 cases hc : cutP en r with
 | some q =>
  have hac := accept_yes p r en q d w h hc
  have HQ := Lib.hid (manyP_some (item := item) hc)
  clear hc h hE
  go_enter Tryz.func129, Tryz.ntmps129
  go_wp2_with fail
  refine hac.mono ?_
  rintro e w1 ⟨rfl, hL1, hs1⟩
  clear hac
  have HL1 := Lib.hid hL1
  clear hL1 hs1
  go_wp2
  refine bodyPost_ret (v := .tuple #[.slice none 0 0, .bool true]) (by simp [results, Tryz.results129, go_sem]) rfl ?_
  refine ⟨none, 0, 0, q, [], by rw [HQ.out]; rfl, HL1.out, ⟨rfl, by omega, OwnE.nil _ _ _ _ _⟩, fun l t hx => ?_⟩
  rw [HQ.out] at hx
  simp only [Option.some.injEq, Prod.mk.injEq] at hx
  obtain ⟨rfl, rfl⟩ := hx
  exact ⟨rfl, rfl⟩
 | none =>
  have hac := accept_no p r en d w h hc
  have HC := Lib.hid hc
  have HE := Lib.hid hE
  clear hc h hE
  go_enter Tryz.func129, Tryz.ntmps129
  go_wp2_with fail
  refine hac.mono ?_
  rintro e w1 ⟨rfl, hL1, hs1⟩
  clear hac
  have hsq := seqE_any B k p hBp d item hI commaL (by decide) r w1 hL1.2.1 (by unfold limP; omega) (HE.out.eff hL1.1 hBp)
  have HL1 := Lib.hid hL1
  have HS1 := Lib.hid hs1
  clear hL1 hs1
  cases ho : seqL item commaL r with
  | none =>
   rw [ho] at hsq
   have HQ := Lib.hid (manyP_none HC.out ho)
   clear ho
   go_wp2_with fail
   refine hsq.mono ?_
   rintro e w2 ⟨A, n, cap, q, l0, rfl, hL2, ⟨hn, hn2, hown⟩, hres⟩
   clear hsq hres
   rw [HS1.out] at hown
   have HOW := Lib.hid (And.intro hn (And.intro hn2 hown))
   clear hn hn2 hown
   have HL2 := Lib.hid (HL1.out.trans hL2)
   clear hL2
   go_wp2
   refine bodyPost_ret (v := .tuple #[.slice A n cap, .bool false]) (by simp [results, Tryz.results129, go_sem]) rfl ?_
   exact ⟨A, n, cap, q, l0, by rw [HQ.out]; rfl, HL2.out, HOW.out, fun l t hx => by rw [HQ.out] at hx; cases hx⟩
  | some lt =>
   obtain ⟨l, t⟩ := lt
   rw [ho] at hsq
   have HO := Lib.hid ho
   clear ho
   go_wp2_with fail
   refine hsq.mono ?_
   rintro e w2 ⟨A, n, cap, q, l0, rfl, hL2, ⟨hn, hn2, hown⟩, hres⟩
   clear hsq
   obtain ⟨rfl, rfl⟩ := hres _ _ rfl
   clear hres
   have HN := Lib.hid (And.intro hn hn2)
   rw [HS1.out] at hown
   have HOW := Lib.hid hown
   have HL2 := Lib.hid (HL1.out.trans hL2)
   have hPq := hL2.2.1
   clear hn hn2 hown hL2
   cases hd : cutP en q with
   | none =>
    have hac := accept_no p q en d w2 hPq hd
    have HQ : Hid (manyP item en r = none) := Lib.hid ((manyP_seq HC.out HO.out).trans (by rw [hd]; rfl))
    clear hd hPq
    go_wp2_with fail
    refine hac.mono ?_
    rintro e w3 ⟨rfl, hL3, hs3⟩
    clear hac
    have HL3 := Lib.hid (HL2.out.trans hL3)
    have HOW3 := Lib.hid (HOW.out.eff hL3.1 hlp)
    clear hL3 hs3
    go_wp2
    refine bodyPost_ret (v := .tuple #[.slice A n cap, .bool false]) (by simp [results, Tryz.results129, go_sem]) rfl ?_
    exact ⟨A, n, cap, q, l0, by rw [HQ.out]; rfl, HL3.out, ⟨HN.out.1, HN.out.2, HOW3.out⟩, fun l t hx => by rw [HQ.out] at hx; cases hx⟩
   | some u =>
    have hac := accept_yes p q en u d w2 hPq hd
    have HQ : Hid (manyP item en r = some (l0, u)) := Lib.hid ((manyP_seq HC.out HO.out).trans (by rw [hd]; rfl))
    clear hd hPq
    go_wp2_with fail
    refine hac.mono ?_
    rintro e w3 ⟨rfl, hL3, hs3⟩
    clear hac
    have HL3 := Lib.hid (HL2.out.trans hL3)
    have HOW3 := Lib.hid (HOW.out.eff hL3.1 hlp)
    clear hL3 hs3
    go_wp2
    refine bodyPost_ret (v := .tuple #[.slice A n cap, .bool true]) (by simp [results, Tryz.results129, go_sem]) rfl ?_
    refine ⟨A, n, cap, u, l0, by rw [HQ.out]; rfl, HL3.out, ⟨HN.out.1, HN.out.2, HOW3.out⟩, fun l' t hx => ?_⟩
    rw [HQ.out] at hx
    simp only [Option.some.injEq, Prod.mk.injEq] at hx
    obtain ⟨rfl, rfl⟩ := hx
    exact ⟨rfl, rfl⟩
end Go.Proofs.YtcjgaohblaidjaaGreatDoor
namespace Go.Proofs.YtcjgaohblaidjaaGreatDoor
open Go Go.RowKit
theorem parseInt_bad5 (s : ByteArray) (hlim : s.size ≤ 281474976710656) (h : ∀ v, Lib.parseIntB 64 s.data.toList ≠ .ok v) (w : World) (tp : TypeId) (q : Value) (hv1 : w.var? Tryz.prog "strconv.ErrSyntax" = some #[.iface tp q]) (tp2 : TypeId) (q2 : Value) (hv2 : w.var? Tryz.prog "strconv.ErrRange" = some #[.iface tp2 q2]) :
  Calls Tryz.prog 131 #[.string s, .int .i64 10, .int .i64 64] w fun e w' => ∃ N n, e = .returned (.tuple #[.int .i64 n, .iface 179 (.pointer (some ⟨N, 0, none⟩))]) ∧ (Lit.int .i64 n).wf = true ∧ Below w.heap.size w w' := by
 rcases hp : Lib.parseIntB 64 s.data.toList with v | _ | _
 · exact absurd hp (h v)
 ·
  refine (Any.strconv_ParseInt_10_at64_syntax_var Tryz.laysC174 s hlim hp tp q w hv1).mono ?_
  rintro e w' ⟨N, rfl, _, _, hb⟩
  exact ⟨N, 0, rfl, by decide, hb⟩
 ·
  refine (Any.strconv_ParseInt_10_at64_range_var Tryz.laysC174 s hlim hp tp2 q2 w hv2).mono ?_
  rintro e w' ⟨N, rfl, _, _, hb⟩
  refine ⟨N, _, rfl, ?_, hb⟩
  unfold Lib.intSat
  split <;> decide
set_option maxRecDepth 100000 in
set_option maxHeartbeats 1600000 in
theorem numberP_any (B p : Nat) (hBp : B ≤ p) (r : Bs) (d : Int) (w : World) (h : PrsW p r d w) (hr : r.length ≤ limP) (hE : EnvH B w) :
  Calls Tryz.prog 83 #[.pointer (some ⟨p, 0, none⟩)] w (NumPost p d (numP r) r w) := by
 have hlp := h.lt
 have ht := takeNum_any p r d w h (by unfold maxLen limP at *; omega)
 have hq : numP r = (numV (r.takeWhile numC)).map fun x => (x, r.dropWhile numC) := rfl
 have hld := (List.dropWhile_sublist numC (l := r)).length_le
 have hlt := (List.takeWhile_sublist numC (l := r)).length_le
 have HQ := Lib.hid hq
 clear hq
 unfold limP at hr
 have hL : Left p (r.dropWhile numC) r d w (w.setCell ⟨p, 0, none⟩ (.string ⟨(r.dropWhile numC).toArray⟩)) := ⟨Eff.set _ _ _ _, h.set _, hld⟩
 generalize numP r = o at HQ ⊢
 generalize r.takeWhile numC = t at ht HQ hlt
 generalize r.dropWhile numC = u at ht HQ hL
 generalize w.setCell ⟨p, 0, none⟩ (.string ⟨u.toArray⟩) = w1 at ht hL
 obtain ⟨hT, ⟨tp, qv, hv1⟩, ⟨tp2, qv2, hv2⟩⟩ := (hE.eff hL.1 hBp).now
 have HL := Lib.hid hL
 have hsz : (⟨t.toArray⟩ : ByteArray).size = t.length := rfl
 clear h hld hE hL
 by_cases hp : ∃ v, Lib.parseIntB 64 t = .ok v
 ·
  obtain ⟨n, hp⟩ := hp
  have hrg := parseIntB_range hp
  have hwf : (Lit.int .i64 n).wf = true := by
   simp [Lit.wf, IntKind.min, IntKind.max, IntKind.signed, IntKind.bits]; omega
  have hpi := Tryz.strconv_ParseInt_10_at64_ok ⟨t.toArray⟩ (by rw [hsz]; omega) n hp w1
  have HN : Hid (o = (if Lib.itoa n = t then some n else none).map fun x => (x, u)) := Lib.hid (HQ.out.trans (by rw [numV_ok hp]))
  have HW := Lib.hid hwf
  have HT := Lib.hid hT
  clear hp hv1 hv2 hT hwf hsz hrg
  go_enter Tryz.func83, Tryz.ntmps83
  go_wp2_with fail
  refine ht.mono ?_
  rintro e w0 ⟨rfl, rfl⟩
  clear ht
  go_wp2_with fail
  refine hpi.mono ?_
  rintro e w2 ⟨rfl, hw2⟩
  clear hpi
  have hb2 : Below w0.heap.size w0 w2 := by
   rcases hw2 with rfl | ⟨z, rfl⟩
   · exact Below.refl _ _
   · exact Lib.bytesWorld_below _ _ _
  have HL2 := Lib.hid (HL.out.below hb2)
  have hfi := formatInt_any n HW.out w2 (HT.out.below (Nat.le_refl _) hb2)
  clear hb2 hw2
  go_wp2_with fail
  refine hfi.mono ?_
  rintro e w3 ⟨rfl, hb3⟩
  clear hfi
  have HL3 := Lib.hid (HL2.out.below hb3)
  clear hb3
  by_cases he : Lib.itoa n = t
  ·
   have HE := Lib.hid he
   have hbe : (⟨(Lib.itoa n).toArray⟩ : ByteArray) = ⟨t.toArray⟩ := by rw [he]
   clear he
   go_wp2
   refine bodyPost_ret (v := .tuple #[.int .i64 n, .bool true]) (by simp [results, Tryz.results83, go_sem]) rfl ?_
   have ho := HN.out
   rw [if_pos HE.out] at ho
   exact ⟨n, u, by rw [ho]; rfl, HW.out, HL3.out, fun m z hm => by rw [ho] at hm; simp at hm; exact ⟨hm.2, hm.1⟩⟩
  ·
   have HE := Lib.hid he
   have hbe : ¬ (⟨(Lib.itoa n).toArray⟩ : ByteArray) = ⟨t.toArray⟩ := by
    intro e
    have := congrArg (fun b => b.data.toList) e
    exact he this
   clear he
   go_wp2
   refine bodyPost_ret (v := .tuple #[.int .i64 n, .bool false]) (by simp [results, Tryz.results83, go_sem, HE.out]) rfl ?_
   have ho := HN.out
   rw [if_neg HE.out] at ho
   exact ⟨n, u, by rw [ho]; rfl, HW.out, HL3.out, fun m z hm => by rw [ho] at hm; cases hm⟩
 ·
  have hpi := parseInt_bad5 ⟨t.toArray⟩ (by rw [hsz]; omega) (fun v h => hp ⟨v, h⟩) w1 tp qv hv1 tp2 qv2 hv2
  have HN : Hid (o = none) := Lib.hid (HQ.out.trans (by rw [numV_bad (fun v h => hp ⟨v, h⟩)]; rfl))
  clear hp hv1 hv2 hT hsz
  go_enter Tryz.func83, Tryz.ntmps83
  go_wp2_with fail
  refine ht.mono ?_
  rintro e w0 ⟨rfl, rfl⟩
  clear ht
  go_wp2_with fail
  refine hpi.mono ?_
  rintro e w2 ⟨N, n, rfl, hwf, hb2⟩
  clear hpi
  have HW := Lib.hid hwf
  have HL2 := Lib.hid (HL.out.below hb2)
  clear hb2 hwf
  go_wp2
  refine bodyPost_ret (v := .tuple #[.int .i64 n, .bool false]) (by simp [results, Tryz.results83, go_sem]) rfl ?_
  exact ⟨n, u, by rw [HN.out]; rfl, HW.out, HL2.out, fun m z hm => by rw [HN.out] at hm; cases hm⟩
end Go.Proofs.YtcjgaohblaidjaaGreatDoor
namespace Go.Proofs.YtcjgaohblaidjaaGreatDoor
open Go Go.RowKit
theorem row_nil (w : World) (B : Nat → Prop) (c : Nat) (R : Nat → List Value → Prop) : RowB w B c (.slice none 0 0) 0 R := ⟨none, 0, rfl, ⟨Nat.zero_le _, Nat.le_refl _⟩, fun h => absurd h (Nat.lt_irrefl _)⟩
theorem vb_ents (k : Nat) (w : World) (B : Nat → Prop) {n : Int} {A : Option Addr} {cap : Nat} {l : List En} (h1 : (Lit.int .i64 n).wf = true) (h : RowB w B 9 (.slice A l.length cap) l.length (fun j cs => ∃ x, l[j]? = some x ∧ (elE k).E x w B cs)) :
  VB (k + 1) w B (.mk 9 n [] [] [] l []) [.int .i64 9, .int .i64 n, .string ⟨#[]⟩, .slice none 0 0, .slice none 0 0, .slice A l.length cap, .slice none 0 0] := by
 refine ⟨_, _, _, _, rfl, by decide, h1, by simp, row_nil _ _ _ _, row_nil _ _ _ _, ?_, row_nil _ _ _ _⟩
 refine h.sub (fun _ hb => hb) ?_
 rintro j cs ⟨x, hx, args, fails, result, rfl, ua, rs, hc, ha, hr⟩
 exact ⟨args, fails, result, hx, ua, rs, hc, ha, hr⟩
set_option maxRecDepth 100000 in
set_option maxHeartbeats 1600000 in
theorem functionP_any5 (B k p : Nat) (hBp : B ≤ p) (d : Int) (val : Rd Vl) (hI : Hid (EntI B k p d (entryP val))) (r : Bs) (w : World) (h : PrsW p r d w) (hr : r.length ≤ limP) (hE : EnvH B w) :
  Calls Tryz.prog 82 #[.pointer (some ⟨p, 0, none⟩)] w (ValPost (k + 1) p d (funcP val r) r w) := by
 have HE := Lib.hid hE
 have hlp := h.lt
 unfold limP at hr
 obtain ⟨W, hW⟩ : ∃ W, W = w.alloc (.cells #[.int .i64 0, .int .i64 0, .string ⟨#[]⟩, .slice none 0 0, .slice none 0 0, .slice none 0 0, .slice none 0 0] 27) := ⟨_, rfl⟩
 have kW : W.heap[w.heap.size]? = some (.cells #[.int .i64 0, .int .i64 0, .string ⟨#[]⟩, .slice none 0 0, .slice none 0 0, .slice none 0 0, .slice none 0 0] 27 (0, 0)) := by rw [hW]; exact heap_alloc_new w _
 have hLW : Left p r r d w W := by rw [hW]; exact (Left.refl h).alloc _
 have hsW : W.heap.size = w.heap.size + 1 := by rw [hW]; simp
 have hne : w.heap.size ≠ p := by omega
 have hEW := hE.eff hLW.1 hBp
 clear h hE
 have hnu := numberP_any B p hBp r d W hLW.2.1 (by unfold limP; omega) hEW
 have HLW := Lib.hid hLW
 have HKW := Lib.hid kW
 clear hLW kW hEW
 cases ho : numP r with
 | none =>
  rw [ho] at hnu
  have HQ : Hid (funcP val r = none) := Lib.hid (by unfold funcP; rw [ho])
  clear ho
  go_enter Tryz.func82, Tryz.ntmps82
  go_wp2_with fail
  rw [← hW]
  clear hW
  refine hnu.mono ?_
  rintro e w2 ⟨n, q, rfl, hwf, hL2', hres⟩
  clear hnu hres
  have k2 := hL2'.box HKW.out hne
  have hL2 := HLW.out.trans hL2'
  clear hL2' hwf
  obtain ⟨e0, e1, e2, e3, e4, e5, e6⟩ := cells7 k2
  obtain ⟨z0, z1, z2, z3, z4, z5, z6⟩ := frozen7 k2
  have HK3 := Lib.hid k2
  have HL3 := Lib.hid hL2
  clear k2 hL2
  go_wp2
  obtain ⟨V, hV⟩ : ∃ V, V = (((((((w2.setCell ⟨w.heap.size, 0, none⟩ (.int .i64 0)).setCell ⟨w.heap.size, 1, none⟩ (.int .i64 0)).setCell ⟨w.heap.size, 2, none⟩ (.string ⟨#[]⟩)).setCell ⟨w.heap.size, 3, none⟩ (.slice none 0 0)).setCell ⟨w.heap.size, 4, none⟩ (.slice none 0 0)).setCell ⟨w.heap.size, 5, none⟩ (.slice none 0 0)).setCell ⟨w.heap.size, 6, none⟩ (.slice none 0 0)) := ⟨_, rfl⟩
  rw [← hV]
  obtain ⟨hLV, hob, hszV, hsm, hoth⟩ := boxR7 HK3.out (Nat.le_refl _) hlp HL3.out (.int .i64 0) (.int .i64 0) (.string ⟨#[]⟩) (.slice none 0 0) (.slice none 0 0) (.slice none 0 0) (.slice none 0 0) V hV
  clear hV e0 e1 e2 e3 e4 e5 e6 z0 z1 z2 z3 z4 z5 z6
  obtain ⟨ps0, ps1, ps2, ps3, ps4, ps5, ps6⟩ := cells7 hob
  refine bodyPost_ret (v := .tuple #[.agg #[.int .i64 0, .int .i64 0, .string ⟨#[]⟩, .slice none 0 0, .slice none 0 0, .slice none 0 0, .slice none 0 0], .bool false]) (by simp [results, Tryz.results82, go_sem, ps0, ps1, ps2, ps3, ps4, ps5, ps6]) rfl ?_
  exact valPost_no HQ.out hLV
 | some nt =>
  obtain ⟨n, t⟩ := nt
  rw [ho] at hnu
  have HNU := Lib.hid ho
  clear ho
  go_enter Tryz.func82, Tryz.ntmps82
  go_wp2_with fail
  rw [← hW]
  clear hW
  refine hnu.mono ?_
  rintro e w2 ⟨n', q, rfl, hwf, hL2', hres⟩
  clear hnu
  obtain ⟨rfl, rfl⟩ := hres _ _ rfl
  clear hres
  have k2 := hL2'.box HKW.out hne
  have hL2 := HLW.out.trans hL2'
  have HWF := Lib.hid hwf
  clear hL2' hwf
  cases hc : cutP [123] q with
  | none =>
   have hac := accept_no p q [123] d w2 hL2.2.1 hc
   have HQ : Hid (funcP val r = none) := Lib.hid (by unfold funcP; rw [HNU.out]; simp only; rw [hc])
   clear hc
   have HK2 := Lib.hid k2
   have HL2 := Lib.hid hL2
   clear k2 hL2
   go_wp2_with fail
   refine hac.mono ?_
   rintro e w3 ⟨rfl, hL3', hs3⟩
   clear hac hs3
   have k3 := hL3'.box HK2.out hne
   have hL3 := HL2.out.trans hL3'
   clear hL3'
   obtain ⟨e0, e1, e2, e3, e4, e5, e6⟩ := cells7 k3
   obtain ⟨z0, z1, z2, z3, z4, z5, z6⟩ := frozen7 k3
   have HK3 := Lib.hid k3
   have HL3 := Lib.hid hL3
   clear k3 hL3
   go_wp2
   obtain ⟨V, hV⟩ : ∃ V, V = (((((((w3.setCell ⟨w.heap.size, 0, none⟩ (.int .i64 0)).setCell ⟨w.heap.size, 1, none⟩ (.int .i64 0)).setCell ⟨w.heap.size, 2, none⟩ (.string ⟨#[]⟩)).setCell ⟨w.heap.size, 3, none⟩ (.slice none 0 0)).setCell ⟨w.heap.size, 4, none⟩ (.slice none 0 0)).setCell ⟨w.heap.size, 5, none⟩ (.slice none 0 0)).setCell ⟨w.heap.size, 6, none⟩ (.slice none 0 0)) := ⟨_, rfl⟩
   rw [← hV]
   obtain ⟨hLV, hob, hszV, hsm, hoth⟩ := boxR7 HK3.out (Nat.le_refl _) hlp HL3.out (.int .i64 0) (.int .i64 0) (.string ⟨#[]⟩) (.slice none 0 0) (.slice none 0 0) (.slice none 0 0) (.slice none 0 0) V hV
   clear hV e0 e1 e2 e3 e4 e5 e6 z0 z1 z2 z3 z4 z5 z6
   obtain ⟨ps0, ps1, ps2, ps3, ps4, ps5, ps6⟩ := cells7 hob
   refine bodyPost_ret (v := .tuple #[.agg #[.int .i64 0, .int .i64 0, .string ⟨#[]⟩, .slice none 0 0, .slice none 0 0, .slice none 0 0, .slice none 0 0], .bool false]) (by simp [results, Tryz.results82, go_sem, ps0, ps1, ps2, ps3, ps4, ps5, ps6]) rfl ?_
   exact valPost_no HQ.out hLV
  | some u =>
   have hac := accept_yes p q [123] u d w2 hL2.2.1 hc
   have HC := Lib.hid hc
   clear hc
   have HK2 := Lib.hid k2
   have HL2 := Lib.hid hL2
   have hql := hL2.2.2
   clear k2 hL2
   go_wp2_with fail
   refine hac.mono ?_
   rintro e w3 ⟨rfl, hL3', hs3⟩
   clear hac hs3
   have k3 := hL3'.box HK2.out hne
   have hL3 := HL2.out.trans hL3'
   have hul := hL3'.2.2
   have hen := encE_any B k p hBp d (entryP val) hI [125] u w3 hL3.2.1 (by unfold limP; omega) (HE.out.eff hL3.1 hBp)
   have HK3 := Lib.hid k3
   have HL3 := Lib.hid hL3
   have HUL := Lib.hid (show u.length ≤ 1048576 from by omega)
   clear k3 hL3 hL3' hul hql
   generalize hmo : manyP (entryP val) [125] u = mo at hen
   have hen := hen.mono (fun _ _ h => h.old)
   have HQ : Hid (funcP val r = mo.map fun x => (.mk 9 n' [] [] [] x.1 [], x.2)) := Lib.hid (by unfold funcP; rw [HNU.out]; simp only; rw [HC.out]; simp only; rw [hmo])
   clear hmo
   go_wp2_with fail
   refine hen.mono ?_
   rintro e w4 ⟨A, m, cap, z, rfl, hL4', hres⟩
   clear hen
   have k4 := hL4'.box HK3.out hne
   have hL4 := HL3.out.trans hL4'
   have HR := Lib.hid hres
   have HS3 := Lib.hid (show w.heap.size + 1 ≤ w3.heap.size from by have := (Array.getElem?_eq_some_iff.1 HK3.out).1; omega)
   clear hL4' hres
   generalize hob0 : mo.isSome = ob
   have HO := Lib.hid hob0
   clear hob0
   obtain ⟨e0, e1, e2, e3, e4, e5, e6⟩ := cells7 k4
   obtain ⟨z0, z1, z2, z3, z4, z5, z6⟩ := frozen7 k4
   have HK3 := Lib.hid k4
   have HL3 := Lib.hid hL4
   clear k4 hL4
   go_wp2
   obtain ⟨V, hV⟩ : ∃ V, V = (((((((w4.setCell ⟨w.heap.size, 0, none⟩ (.int .i64 9)).setCell ⟨w.heap.size, 1, none⟩ (.int .i64 n')).setCell ⟨w.heap.size, 2, none⟩ (.string ⟨#[]⟩)).setCell ⟨w.heap.size, 3, none⟩ (.slice none 0 0)).setCell ⟨w.heap.size, 4, none⟩ (.slice none 0 0)).setCell ⟨w.heap.size, 5, none⟩ (.slice A m cap)).setCell ⟨w.heap.size, 6, none⟩ (.slice none 0 0)) := ⟨_, rfl⟩
   rw [← hV]
   obtain ⟨hLV, hob, hszV, hsm, hoth⟩ := boxR7 HK3.out (Nat.le_refl _) hlp HL3.out (.int .i64 9) (.int .i64 n') (.string ⟨#[]⟩) (.slice none 0 0) (.slice none 0 0) (.slice A m cap) (.slice none 0 0) V hV
   clear hV e0 e1 e2 e3 e4 e5 e6 z0 z1 z2 z3 z4 z5 z6
   obtain ⟨ps0, ps1, ps2, ps3, ps4, ps5, ps6⟩ := cells7 hob
   refine bodyPost_ret (v := .tuple #[.agg #[.int .i64 9, .int .i64 n', .string ⟨#[]⟩, .slice none 0 0, .slice none 0 0, .slice A m cap, .slice none 0 0], .bool ob]) (by simp [results, Tryz.results82, go_sem, ps0, ps1, ps2, ps3, ps4, ps5, ps6]) rfl ?_
   cases mo with
   | none => have hob1 : false = ob := HO.out; subst hob1; exact valPost_no HQ.out hLV
   | some lt =>
    obtain ⟨l, t⟩ := lt
    obtain ⟨rfl, rfl, hml, hown⟩ := HR.out _ _ rfl
    have hob1 : true = ob := HO.out
    subst hob1
    have hs4 := HS3.out
    have hul2 := HUL.out
    refine valPost_yes HQ.out hLV ?_
    have hrow := (hown.row (by decide) (by unfold maxLen; omega)).keep (R' := fun j cs => ∃ x, l[j]? = some x ∧ (elE k).E x V (Btw w3.heap.size w4.heap.size) cs) (hsm (Btw w3.heap.size w4.heap.size) (fun h => by have := h.1; omega)) (fun j cs ⟨x, hx, hv⟩ => ⟨x, hx, (elE k).keep (hsm _ (fun h => by have := h.1; omega)) hv⟩)
    have hrow2 := hrow.sub (B' := Btw w.heap.size V.heap.size) (fun b hb => ⟨by have := hb.1; omega, by have := hb.2; omega⟩) (R' := fun j cs => ∃ x, l[j]? = some x ∧ (elE k).E x V (Btw w.heap.size V.heap.size) cs) (fun j cs ⟨x, hx, hv⟩ => ⟨x, hx, (elE k).sub (fun b hb => ⟨by have := hb.1; omega, by have := hb.2; omega⟩) hv⟩)
    exact vb_ents k V _ HWF.out hrow2
end Go.Proofs.YtcjgaohblaidjaaGreatDoor
namespace Go.Proofs.YtcjgaohblaidjaaGreatDoor
open Go Go.RowKit
set_option maxRecDepth 100000 in
set_option maxHeartbeats 1600000 in
theorem fieldP_any5 (B k p : Nat) (hBp : B ≤ p) (d : Int) (val : Rd Vl) (hI : Hid (ValI B k p d val)) : FldI B k p d (fieldP val) := by
 intro r w h hr hE
 have HE := Lib.hid hE
 have hlp := h.lt
 unfold limP at hr
 obtain ⟨W, hW⟩ : ∃ W, W = w.alloc (.cells #[.int .i64 0, .string ⟨#[]⟩, .int .i64 0, .int .i64 0, .string ⟨#[]⟩, .slice none 0 0, .slice none 0 0, .slice none 0 0, .slice none 0 0] 143) := ⟨_, rfl⟩
 have kW : W.heap[w.heap.size]? = some (.cells #[.int .i64 0, .string ⟨#[]⟩, .int .i64 0, .int .i64 0, .string ⟨#[]⟩, .slice none 0 0, .slice none 0 0, .slice none 0 0, .slice none 0 0] 143 (0, 0)) := by rw [hW]; exact heap_alloc_new w _
 have hLW : Left p r r d w W := by rw [hW]; exact (Left.refl h).alloc _
 have hsW : W.heap.size = w.heap.size + 1 := by rw [hW]; simp
 have hne : w.heap.size ≠ p := by omega
 have hEW := hE.eff hLW.1 hBp
 clear h hE
 have hk := keyP_any p r d W hLW.2.1 (by unfold limP; omega)
 have HKW := Lib.hid kW
 have HLW := Lib.hid hLW
 clear kW hLW hEW
 cases ho : keyP r with
 | none =>
  rw [ho] at hk
  have HQ : Hid (fieldP val r = none) := Lib.hid (by unfold fieldP; rw [ho])
  clear ho
  go_enter Tryz.func128, Tryz.ntmps128
  go_wp2_with fail
  rw [← hW]
  clear hW
  refine hk.mono ?_
  rintro e w2 ⟨y, z, q, rfl, hL2', hres⟩
  clear hk hres
  have k2' := hL2'.box HKW.out hne
  have k2 := (Below.heap_alloc w2 (.cells #[.int .i64 y, .string z] 80) _ (Array.getElem?_eq_some_iff.1 k2').1).trans k2'
  have hL2 := (HLW.out.trans hL2').alloc (.cells #[.int .i64 y, .string z] 80)
  clear hL2' k2'
  obtain ⟨e0, e1, e2, e3, e4, e5, e6, e7, e8⟩ := cellz9 k2
  obtain ⟨z0, z1, z2, z3, z4, z5, z6, z7, z8⟩ := frozenz9 k2
  have HK3 := Lib.hid k2
  have HL3 := Lib.hid hL2
  clear k2 hL2
  go_wp2
  obtain ⟨V, hV⟩ : ∃ V, V = ((((((((((w2.alloc (.cells #[.int .i64 y, .string z] 80)).setCell ⟨w.heap.size, 0, none⟩ (.int .i64 0)).setCell ⟨w.heap.size, 1, none⟩ (.string ⟨#[]⟩)).setCell ⟨w.heap.size, 2, none⟩ (.int .i64 0)).setCell ⟨w.heap.size, 3, none⟩ (.int .i64 0)).setCell ⟨w.heap.size, 4, none⟩ (.string ⟨#[]⟩)).setCell ⟨w.heap.size, 5, none⟩ (.slice none 0 0)).setCell ⟨w.heap.size, 6, none⟩ (.slice none 0 0)).setCell ⟨w.heap.size, 7, none⟩ (.slice none 0 0)).setCell ⟨w.heap.size, 8, none⟩ (.slice none 0 0)) := ⟨_, rfl⟩
  rw [← hV]
  obtain ⟨hLV, hob, hszV, hsm, hoth⟩ := boxR9 HK3.out (Nat.le_refl _) hlp HL3.out (.int .i64 0) (.string ⟨#[]⟩) (.int .i64 0) (.int .i64 0) (.string ⟨#[]⟩) (.slice none 0 0) (.slice none 0 0) (.slice none 0 0) (.slice none 0 0) V hV
  clear hV e0 e1 e2 e3 e4 e5 e6 e7 e8 z0 z1 z2 z3 z4 z5 z6 z7 z8
  obtain ⟨ps0, ps1, ps2, ps3, ps4, ps5, ps6, ps7, ps8⟩ := cellz9 hob
  refine bodyPost_ret (v := .tuple #[.agg #[.int .i64 0, .string ⟨#[]⟩, .int .i64 0, .int .i64 0, .string ⟨#[]⟩, .slice none 0 0, .slice none 0 0, .slice none 0 0, .slice none 0 0], .bool false]) (by simp [results, Tryz.results128, go_sem, ps0, ps1, ps2, ps3, ps4, ps5, ps6, ps7, ps8]) rfl ?_
  exact fldPost_no HQ.out hLV
 | some xt =>
  obtain ⟨x, t⟩ := xt
  rw [ho] at hk
  have HO := Lib.hid ho
  clear ho
  go_enter Tryz.func128, Tryz.ntmps128
  go_wp2_with fail
  rw [← hW]
  clear hW
  refine hk.mono ?_
  rintro e w2 ⟨y, z, q, rfl, hL2', hres⟩
  clear hk
  obtain ⟨rfl, rfl, rfl, h01, hxl⟩ := hres _ _ rfl
  clear hres
  have HX := Lib.hid (And.intro h01 hxl)
  obtain ⟨w3, hw3⟩ : ∃ w3, w3 = w2.alloc (.cells #[.int .i64 x.1, .string ⟨x.2.toArray⟩] 80) := ⟨_, rfl⟩
  have k2 := hL2'.box HKW.out hne
  have k3 : w3.heap[w.heap.size]? = some (.cells #[.int .i64 0, .string ⟨#[]⟩, .int .i64 0, .int .i64 0, .string ⟨#[]⟩, .slice none 0 0, .slice none 0 0, .slice none 0 0, .slice none 0 0] 143 (0, 0)) := by rw [hw3]; exact (Below.heap_alloc _ _ _ (Array.getElem?_eq_some_iff.1 k2).1).trans k2
  have y3 : w3.heap[w2.heap.size]? = some (.cells #[.int .i64 x.1, .string ⟨x.2.toArray⟩] 80 (0, 0)) := by rw [hw3]; exact heap_alloc_new w2 _
  have hL3 : Left p q r d w w3 := by rw [hw3]; exact (HLW.out.trans hL2').alloc _
  have hyp : w2.heap.size ≠ p := by have := hL2'.size; omega
  have hs2 : w.heap.size + 1 ≤ w2.heap.size := by have := hL2'.size; omega
  have hs3 : w3.heap.size = w2.heap.size + 1 := by rw [hw3]; simp
  have HS3 := Lib.hid (And.intro hs2 hs3)
  have hql := hL3.2.2
  clear hL2' k2 h01 hxl hs2 hs3
  cases hc : cutP [58, 32] q with
  | none =>
   have hac := accept_no p q [58, 32] d w3 hL3.2.1 hc
   have HQ : Hid (fieldP val r = none) := Lib.hid (by unfold fieldP; rw [HO.out]; simp only; rw [hc])
   have HK3 := Lib.hid k3
   have HL3 := Lib.hid hL3
   clear hc k3 hL3 y3
   go_wp2_with fail
   rw [← hw3]
   clear hw3
   refine hac.mono ?_
   rintro e w4 ⟨rfl, hL4', hs4⟩
   clear hac hs4
   have k4 := hL4'.box HK3.out hne
   have hL4 := HL3.out.trans hL4'
   clear hL4'
   obtain ⟨e0, e1, e2, e3, e4, e5, e6, e7, e8⟩ := cellz9 k4
   obtain ⟨z0, z1, z2, z3, z4, z5, z6, z7, z8⟩ := frozenz9 k4
   have HK3 := Lib.hid k4
   have HL3 := Lib.hid hL4
   clear k4 hL4
   go_wp2
   obtain ⟨V, hV⟩ : ∃ V, V = (((((((((w4.setCell ⟨w.heap.size, 0, none⟩ (.int .i64 0)).setCell ⟨w.heap.size, 1, none⟩ (.string ⟨#[]⟩)).setCell ⟨w.heap.size, 2, none⟩ (.int .i64 0)).setCell ⟨w.heap.size, 3, none⟩ (.int .i64 0)).setCell ⟨w.heap.size, 4, none⟩ (.string ⟨#[]⟩)).setCell ⟨w.heap.size, 5, none⟩ (.slice none 0 0)).setCell ⟨w.heap.size, 6, none⟩ (.slice none 0 0)).setCell ⟨w.heap.size, 7, none⟩ (.slice none 0 0)).setCell ⟨w.heap.size, 8, none⟩ (.slice none 0 0)) := ⟨_, rfl⟩
   rw [← hV]
   obtain ⟨hLV, hob, hszV, hsm, hoth⟩ := boxR9 HK3.out (Nat.le_refl _) hlp HL3.out (.int .i64 0) (.string ⟨#[]⟩) (.int .i64 0) (.int .i64 0) (.string ⟨#[]⟩) (.slice none 0 0) (.slice none 0 0) (.slice none 0 0) (.slice none 0 0) V hV
   clear hV e0 e1 e2 e3 e4 e5 e6 e7 e8 z0 z1 z2 z3 z4 z5 z6 z7 z8
   obtain ⟨ps0, ps1, ps2, ps3, ps4, ps5, ps6, ps7, ps8⟩ := cellz9 hob
   refine bodyPost_ret (v := .tuple #[.agg #[.int .i64 0, .string ⟨#[]⟩, .int .i64 0, .int .i64 0, .string ⟨#[]⟩, .slice none 0 0, .slice none 0 0, .slice none 0 0, .slice none 0 0], .bool false]) (by simp [results, Tryz.results128, go_sem, ps0, ps1, ps2, ps3, ps4, ps5, ps6, ps7, ps8]) rfl ?_
   exact fldPost_no HQ.out hLV
  | some u =>
   have hac := accept_yes p q [58, 32] u d w3 hL3.2.1 hc
   have HC := Lib.hid hc
   have HK3 := Lib.hid k3
   have HL3 := Lib.hid hL3
   have HY3 := Lib.hid y3
   clear hc k3 hL3 y3
   go_wp2_with fail
   rw [← hw3]
   clear hw3
   refine hac.mono ?_
   rintro e w4 ⟨rfl, hL4', hs4⟩
   clear hac
   have k4 := hL4'.box HK3.out hne
   have y4 := hL4'.box HY3.out hyp
   have hul := hL4'.2.2
   have hL4 := HL3.out.trans hL4'
   have hv := hI.out u w4 hL4.2.1 (by unfold limP; omega) (HE.out.eff hL4.1 hBp)
   have HK4 := Lib.hid k4
   have HY4 := Lib.hid y4
   have HL4 := Lib.hid hL4
   have HS4 := Lib.hid hs4
   clear hL4' hs4 k4 y4 hL4
   generalize hvo : val u = vo at hv
   have HQ : Hid (fieldP val r = vo.map fun v => ((x, v.1), v.2)) := Lib.hid (by unfold fieldP; rw [HO.out]; simp only; rw [HC.out]; simp only; rw [hvo]; cases vo <;> rfl)
   clear hvo
   go_wp2_with fail
   refine hv.mono ?_
   rintro e w5 ⟨a, i, s, A1, n1, c1, A2, n2, c2, A3, n3, c3, A4, n4, c4, z, rfl, hL5', hres⟩
   clear hv
   have k5' := hL5'.box HK4.out hne
   have y5' := hL5'.box HY4.out hyp
   have k5 := (Below.heap_alloc w5 (.cells #[.int .i64 a, .int .i64 i, .string s, .slice A1 n1 c1, .slice A2 n2 c2, .slice A3 n3 c3, .slice A4 n4 c4] 27) _ (Array.getElem?_eq_some_iff.1 k5').1).trans k5'
   have y5 := (Below.heap_alloc w5 (.cells #[.int .i64 a, .int .i64 i, .string s, .slice A1 n1 c1, .slice A2 n2 c2, .slice A3 n3 c3, .slice A4 n4 c4] 27) _ (Array.getElem?_eq_some_iff.1 y5').1).trans y5'
   have hL5 := (HL4.out.trans hL5').alloc (.cells #[.int .i64 a, .int .i64 i, .string s, .slice A1 n1 c1, .slice A2 n2 c2, .slice A3 n3 c3, .slice A4 n4 c4] 27)
   have HS5 := Lib.hid hL5'.size
   have HR := Lib.hid hres
   obtain ⟨b0, b1⟩ := cellz2 y5
   clear hL5' k5' y5' hres y5
   generalize hob0 : vo.isSome = ob
   have HOB := Lib.hid hob0
   clear hob0
   obtain ⟨e0, e1, e2, e3, e4, e5, e6, e7, e8⟩ := cellz9 k5
   obtain ⟨z0, z1, z2, z3, z4, z5, z6, z7, z8⟩ := frozenz9 k5
   have HK3 := Lib.hid k5
   have HL3 := Lib.hid hL5
   clear k5 hL5
   go_wp2
   obtain ⟨V, hV⟩ : ∃ V, V = ((((((((((w5.alloc (.cells #[.int .i64 a, .int .i64 i, .string s, .slice A1 n1 c1, .slice A2 n2 c2, .slice A3 n3 c3, .slice A4 n4 c4] 27)).setCell ⟨w.heap.size, 0, none⟩ (.int .i64 x.1)).setCell ⟨w.heap.size, 1, none⟩ (.string ⟨x.2.toArray⟩)).setCell ⟨w.heap.size, 2, none⟩ (.int .i64 a)).setCell ⟨w.heap.size, 3, none⟩ (.int .i64 i)).setCell ⟨w.heap.size, 4, none⟩ (.string s)).setCell ⟨w.heap.size, 5, none⟩ (.slice A1 n1 c1)).setCell ⟨w.heap.size, 6, none⟩ (.slice A2 n2 c2)).setCell ⟨w.heap.size, 7, none⟩ (.slice A3 n3 c3)).setCell ⟨w.heap.size, 8, none⟩ (.slice A4 n4 c4)) := ⟨_, rfl⟩
   rw [← hV]
   obtain ⟨hLV, hob, hszV, hsm, hoth⟩ := boxR9 HK3.out (Nat.le_refl _) hlp HL3.out (.int .i64 x.1) (.string ⟨x.2.toArray⟩) (.int .i64 a) (.int .i64 i) (.string s) (.slice A1 n1 c1) (.slice A2 n2 c2) (.slice A3 n3 c3) (.slice A4 n4 c4) V hV
   clear hV e0 e1 e2 e3 e4 e5 e6 e7 e8 z0 z1 z2 z3 z4 z5 z6 z7 z8
   obtain ⟨ps0, ps1, ps2, ps3, ps4, ps5, ps6, ps7, ps8⟩ := cellz9 hob
   refine bodyPost_ret (v := .tuple #[.agg #[.int .i64 x.1, .string ⟨x.2.toArray⟩, .int .i64 a, .int .i64 i, .string s, .slice A1 n1 c1, .slice A2 n2 c2, .slice A3 n3 c3, .slice A4 n4 c4], .bool ob]) (by simp [results, Tryz.results128, go_sem, ps0, ps1, ps2, ps3, ps4, ps5, ps6, ps7, ps8]) rfl ?_
   cases vo with
   | none => have hob1 : false = ob := HOB.out; subst hob1; exact fldPost_no HQ.out hLV
   | some vt =>
    obtain ⟨v, t⟩ := vt
    obtain ⟨rfl, hvb⟩ := HR.out _ _ rfl
    have hob1 : true = ob := HOB.out
    subst hob1
    have h3 := HS3.out
    have h4 := HS4.out
    have h5 := HS5.out
    have hsV : V.heap.size = w5.heap.size + 1 := by rw [hszV]; simp
    have hal : ∀ B : Nat → Prop, Same B w5 (w5.alloc (.cells #[.int .i64 a, .int .i64 i, .string s, .slice A1 n1 c1, .slice A2 n2 c2, .slice A3 n3 c3, .slice A4 n4 c4] 27)) := fun B => ⟨by simp, fun b j _ hl => World.cell?_of_block (Below.heap_alloc _ _ _ hl)⟩
    have hsm5 : Same (Btw w4.heap.size w5.heap.size) w5 V := (hal _).trans (hsm _ (fun h => by have := h.1; omega))
    refine fldPost_yes (v := (x, v)) HQ.out hLV ⟨_, rfl, ?_, HX.out.2, ?_⟩
    · rcases HX.out.1 with e | e <;> (show (Lit.int .i64 x.1).wf = true; rw [e]; decide)
    · exact VB.sub (fun b hb => ⟨by have := hb.1; omega, by have := hb.2; omega⟩) (Nat.le_refl _) (VB.keep hsm5 hvb)
end Go.Proofs.YtcjgaohblaidjaaGreatDoor
namespace Go.Proofs.YtcjgaohblaidjaaGreatDoor
open Go Go.RowKit
set_option maxRecDepth 100000 in
set_option maxHeartbeats 3200000 in
theorem mappP_any5 (B k p : Nat) (hBp : B ≤ p) (d : Int) (val : Rd Vl) (hI : Hid (FldI B k p d (fieldP val))) (r : Bs) (w : World) (h : PrsW p r d w) (hr : r.length ≤ limP) (hE : EnvH B w) :
  Calls Tryz.prog 81 #[.pointer (some ⟨p, 0, none⟩)] w (ValPost (k + 1) p d ((manyP (fieldP val) [125] r).map fun x => (.mk 8 0 [] (x.1.map Prod.snd) (x.1.map Prod.fst) [] [], x.2)) r w) := by
 have hlp := h.lt
 unfold limP at hr
 obtain ⟨W, hW⟩ : ∃ W, W = w.alloc (.cells #[.int .i64 0, .int .i64 0, .string ⟨#[]⟩, .slice none 0 0, .slice none 0 0, .slice none 0 0, .slice none 0 0] 27) := ⟨_, rfl⟩
 have kW : W.heap[w.heap.size]? = some (.cells #[.int .i64 0, .int .i64 0, .string ⟨#[]⟩, .slice none 0 0, .slice none 0 0, .slice none 0 0, .slice none 0 0] 27 (0, 0)) := by rw [hW]; exact heap_alloc_new w _
 have hLW : Left p r r d w W := by rw [hW]; exact (Left.refl h).alloc _
 have hsW : W.heap.size = w.heap.size + 1 := by rw [hW]; simp
 have hne : w.heap.size ≠ p := by omega
 have hEW := hE.eff hLW.1 hBp
 clear h hE
 have hen := encF_any B k p hBp d (fieldP val) hI [125] r W hLW.2.1 (by unfold limP; omega) hEW
 have HLW := Lib.hid hLW
 have HKW := Lib.hid kW
 clear hLW kW hEW
 generalize hmo : manyP (fieldP val) [125] r = mo at hen ⊢
 generalize hoo : (Option.map (fun x : List ((Int × Bs) × Vl) × Bs => ((.mk 8 0 [] (x.1.map Prod.snd) (x.1.map Prod.fst) [] [] : Vl), x.2)) mo) = oo
 have HQ := Lib.hid hoo.symm
 clear hoo hmo
 go_enter Tryz.func81, Tryz.ntmps81
 go_wp2_with fail
 rw [← hW]
 clear hW
 refine hen.mono ?_
 rintro e w2 ⟨A, n, cap, q, l, rfl, hL2', ⟨rfl, hnl, hown⟩, hres⟩
 clear hen
 have HR := Lib.hid hres
 generalize hob0 : mo.isSome = ob
 have HO := Lib.hid hob0
 clear hob0 hres
 have HS1 := Lib.hid (show W.heap.size = w.heap.size + 1 ∧ W.heap.size ≤ w2.heap.size from ⟨hsW, hL2'.size⟩)
 have hrow := hown.row (by decide) (by unfold maxLen; omega)
 have HROW := Lib.hid hrow
 have HLL := Lib.hid hnl
 have k2 := hL2'.box HKW.out hne
 have HK2 := Lib.hid k2
 have HL2 := Lib.hid (HLW.out.trans hL2')
 clear hrow hown hL2' k2
 obtain ⟨w3, hw3⟩ : ∃ w3, w3 = w2.alloc (.cells #[.int .i64 8, .int .i64 0, .string ⟨#[]⟩, .slice none 0 0, .slice none 0 0, .slice none 0 0, .slice none 0 0] 27) := ⟨_, rfl⟩
 have hb3 : Below w2.heap.size w2 w3 := by rw [hw3]; exact (Below.refl _ _).alloc (Nat.le_refl _) _
 have kb3 : w3.heap[w2.heap.size]? = some (.cells #[.int .i64 8, .int .i64 0, .string ⟨#[]⟩, .slice none 0 0, .slice none 0 0, .slice none 0 0, .slice none 0 0] 27 (0, 0)) := by rw [hw3]; exact heap_alloc_new w2 _
 have hs3 : w3.heap.size = w2.heap.size + 1 := by rw [hw3]; simp
 have H3 := Lib.hid (And.intro hb3 (And.intro kb3 hs3))
 clear hb3 kb3 hs3
 generalize hn : l.length = n at *
 have HN := Lib.hid hn
 clear hn
 go_wp2_with fail
 rw [← hw3]
 clear hw3
 go_loopw [19] (fun iv wr => ∃ j X1 m1 d1 X2 m2 d2 ks vs, iv = .int .i64 (j : Nat) ∧ j ≤ n ∧ Below w2.heap.size w2 wr ∧ wr.heap[w2.heap.size]? = some (.cells #[.int .i64 8, .int .i64 0, .string ⟨#[]⟩, .slice X2 m2 d2, .slice X1 m1 d1, .slice none 0 0, .slice none 0 0] 27 (0, 0)) ∧ w2.heap.size + 1 ≤ wr.heap.size ∧ MpR (fun x cs => VB k w2 (Btw W.heap.size w2.heap.size) x cs) (w2.heap.size + 1) wr (.slice X1 m1 d1) (.slice X2 m2 d2) ks vs ∧ ks = (l.take j).map Prod.fst ∧ vs = (l.take j).map Prod.snd) (fun iv _ => n - (intOf iv).toNat)
 case atStart => exact ⟨0, none, 0, 0, none, 0, 0, [], [], rfl, Nat.zero_le _, H3.out.1, H3.out.2.1, by have := H3.out.2.2; omega, MpR.nil _ _ _, rfl, rfl⟩
 case round =>
  obtain ⟨j, X1, m1, d1, X2, m2, d2, ks, vs, rfl, hj, hb, kb, hsz, hM, hke, hve⟩ := hrel
  by_cases hjn : j < n
  ·
   have hRr : RowP wr w2.heap.size 9 (.slice A n cap) n (fun j cs => ∃ x, l[j]? = some x ∧ FlB k x w2 (Btw W.heap.size w2.heap.size) cs) := by
    have h1 := HROW.out
    exact (h1.sub (fun b hb => hb.2) (fun _ _ h => h)).on hb (fun _ _ h => h)
   obtain ⟨bk, off, cp, y0, y1, x0, x1, x2, x3, x4, x5, x6, hu, hbk, ⟨x, hx, rs, hcse, hwf, hxl, hvb⟩, c0, c1, c2, c3, c4, c5, c6, c7, c8⟩ := hRr.at9 hjn
   injection hu with hA _ hcp
   subst hA hcp
   simp only [List.cons.injEq] at hcse
   obtain ⟨rfl, rfl, rfl⟩ := hcse
   obtain ⟨a, i, s, A1, n1, c1_, A2, n2, c2_, A3, n3, c3_, A4, n4, c4_, he7⟩ := hvb.form7
   simp only [List.cons.injEq, and_true] at he7
   obtain ⟨rfl, rfl, rfl, rfl, rfl, rfl, rfl⟩ := he7
   have kn : (j : Int) < (n : Int) := by omega
   have k0 : (0 : Int) ≤ (j : Int) := by omega
   have hks : ks.length ≤ 300000000 := by rw [hke, List.length_map, List.length_take]; omega
   have hvs : vs.length ≤ 300000000 := by rw [hve, List.length_map, List.length_take]; omega
   obtain ⟨A1k, q1, hf1⟩ := hM.ky.form
   injection hf1 with e1 e2 e3
   subst e1 e2 e3
   obtain ⟨A2k, q2, hf2⟩ := hM.vl.form
   injection hf2 with e1 e2 e3
   subst e1 e2 e3
   have hstep : l.take (j + 1) = l.take j ++ [x] := by rw [List.take_add_one, hx]; rfl
   have HST := Lib.hid (And.intro hstep (And.intro hke hve))
   have hbz : (wr.alloc (.cells #[.int .i64 x.1.1, .string ⟨x.1.2.toArray⟩, .int .i64 a, .int .i64 i, .string s, .slice A1 n1 c1_, .slice A2 n2 c2_, .slice A3 n3 c3_, .slice A4 n4 c4_] 143)).cell? ⟨w2.heap.size, 4, none⟩ = some (.slice X1 ks.length d1) := (World.cell?_of_block (Below.heap_alloc _ _ _ (Array.getElem?_eq_some_iff.1 kb).1)).trans ((Lib.cell_of_heap kb 4).trans rfl)
   obtain ⟨Wa, hWa⟩ : ∃ Wa, Wa = wr.alloc (.cells #[.int .i64 x.1.1, .string ⟨x.1.2.toArray⟩, .int .i64 a, .int .i64 i, .string s, .slice A1 n1 c1_, .slice A2 n2 c2_, .slice A3 n3 c3_, .slice A4 n4 c4_] 143) := ⟨_, rfl⟩
   have kba : Wa.heap[w2.heap.size]? = some (.cells #[.int .i64 8, .int .i64 0, .string ⟨#[]⟩, .slice X2 vs.length d2, .slice X1 ks.length d1, .slice none 0 0, .slice none 0 0] 27 (0, 0)) := by rw [hWa]; exact (Below.heap_alloc _ _ _ (Array.getElem?_eq_some_iff.1 kb).1).trans kb
   have yba : Wa.heap[wr.heap.size]? = some (.cells #[.int .i64 x.1.1, .string ⟨x.1.2.toArray⟩, .int .i64 a, .int .i64 i, .string s, .slice A1 n1 c1_, .slice A2 n2 c2_, .slice A3 n3 c3_, .slice A4 n4 c4_] 143 (0, 0)) := by rw [hWa]; exact heap_alloc_new wr _
   have hsa : Wa.heap.size = wr.heap.size + 1 := by rw [hWa]; simp
   have hbwa : Below w2.heap.size w2 Wa := by rw [hWa]; exact hb.alloc (by omega) _
   have hMa : MpR (fun x cs => VB k w2 (Btw W.heap.size w2.heap.size) x cs) (w2.heap.size + 1) Wa _ _ _ _ := hM.keep (w' := Wa) (fun b _ h2 => by rw [hWa]; exact Below.heap_alloc _ _ _ h2)
   have hky := hMa.ky
   rw [hWa] at hky
   have hza : w2.heap.size + 1 ≤ (wr.alloc (.cells #[.int .i64 x.1.1, .string ⟨x.1.2.toArray⟩, .int .i64 a, .int .i64 i, .string s, .slice A1 n1 c1_, .slice A2 n2 c2_, .slice A3 n3 c3_, .slice A4 n4 c4_] 143)).heap.size := by simp; omega
   have HMA := Lib.hid hMa
   have HA := Lib.hid (And.intro kba (And.intro yba (And.intro hsa hbwa)))
   have HX := Lib.hid (And.intro hwf hxl)
   have HB1 := Lib.hid hM.ky.blk5
   have HB2 := Lib.hid hM.vl.blk5
   have HV := Lib.hid hvb
   have HWa := Lib.hid hWa
   clear hMa kba yba hsa hbwa hwf hvb hM hb kb hstep hx hRr hWa hke hve
   go_wp2_with (at_builtin; refine wp_app_kc5 rfl _ _ rfl (w2.heap.size + 1) (.slice X1 ks.length d1) ks rfl hky x.1 HX.out 1 (wr.heap.size + 1) (by simp) rfl hks hza ?_; intro g cap2 w4 ho4 hb4 hk4 hg4; refine Hid.out ?_)
   refine Lib.hid ?_
   clear hbz hky c0 c1 c2 c3 c4 c5 c6 c7 c8
   rw [← HWa.out] at hb4 hk4 hg4
   obtain ⟨kba, yba, hsa, hbwa⟩ := HA.out
   have hM4 := HMA.out.key ho4 hk4 (fun g' hg' => by simp [Value.ownBlock] at hg'; subst hg'; exact hg4)
   have kb4 := (hb4.block _ (by omega)).trans kba
   have yb4 := (hk4 _ (by omega) (fun e => by have := (HB1.out _ e.symm).2; omega)).trans yba
   have h4s := hb4.size
   obtain ⟨S4, hS4⟩ : ∃ S4, S4 = w4.setCell ⟨w2.heap.size, 4, none⟩ (.slice (some ⟨g, 0, none⟩) (ks.length + 1) cap2) := ⟨_, rfl⟩
   have kbS : S4.heap[w2.heap.size]? = some (.cells #[.int .i64 8, .int .i64 0, .string ⟨#[]⟩, .slice X2 vs.length d2, .slice (some ⟨g, 0, none⟩) (ks.length + 1) cap2, .slice none 0 0, .slice none 0 0] 27 (0, 0)) := by rw [hS4]; exact heap_setCell_same w4 _ 4 _ _ _ kb4
   have ybS : S4.heap[wr.heap.size]? = some (.cells #[.int .i64 x.1.1, .string ⟨x.1.2.toArray⟩, .int .i64 a, .int .i64 i, .string s, .slice A1 n1 c1_, .slice A2 n2 c2_, .slice A3 n3 c3_, .slice A4 n4 c4_] 143 (0, 0)) := by rw [hS4]; exact (heap_setCell_other _ _ _ _ (show wr.heap.size ≠ w2.heap.size by omega)).trans yb4
   have hbS : Below w2.heap.size w2 S4 := by rw [hS4]; exact (hbwa.trans (hb4.mono (by omega))).setCell (p := ⟨w2.heap.size, 4, none⟩) (Nat.le_refl _) _
   have hsS : S4.heap.size = w4.heap.size := by rw [hS4]; simp
   have hMS := hM4.keep (w' := S4) (fun b h1 _ => by rw [hS4]; exact heap_setCell_other _ _ _ _ (show b ≠ w2.heap.size by omega))
   have f4 : w4.frozen? ⟨w2.heap.size, 4, none⟩ = false := Lib.frozen_of_heap kb4 4
   have d4 := (Lib.cell_of_heap kb4 4).trans rfl
   have s3 := (Lib.cell_of_heap kbS 3).trans rfl
   obtain ⟨_, _, r2, r3, r4, r5, r6, r7, r8⟩ := cellz9 ybS
   have hvl := hMS.vl
   have hzS : w2.heap.size + 1 ≤ S4.heap.size := by omega
   have HMS := Lib.hid hMS
   have HSS := Lib.hid (And.intro kbS (And.intro hbS (And.intro hsS (show w2.heap.size + 1 ≤ w4.heap.size by omega))))
   have hone := elV_one k x.2 w2 (Btw W.heap.size w2.heap.size) _ HV.out
   rw [hS4] at s3 r2 r3 r4 r5 r6 r7 r8 hvl hzS
   have HS4 := Lib.hid hS4
   clear hM4 kba yba hsa hbwa kb4 yb4 kbS ybS hbS hsS hMS ho4 hb4 hk4 hg4 h4s hS4
   go_wp2_with (at_builtin; refine wp_app_vc5 rfl _ _ rfl (fun x cs => VB k w2 (Btw W.heap.size w2.heap.size) x cs) (w2.heap.size + 1) (.slice X2 vs.length d2) vs rfl hvl x.2 _ HV.out rfl hone _ rfl 1 w4.heap.size (by simp) rfl hvs hzS ?_; intro g5 cap5 w5 ho5 hb5 hk5 hg5; refine Hid.out ?_)
   refine Lib.hid ?_
   clear f4 d4 s3 r2 r3 r4 r5 r6 r7 r8 hvl hzS hone
   rw [← HS4.out] at hb5 hk5 hg5
   obtain ⟨kbS, hbS, hsS, h4s⟩ := HSS.out
   have hM5 := HMS.out.val ho5 hk5 (fun g' hg' => by simp [Value.ownBlock] at hg'; subst hg'; exact hg5)
   have kb5 := (hb5.block _ (by omega)).trans kbS
   have h5s := hb5.size
   have f3 : w5.frozen? ⟨w2.heap.size, 3, none⟩ = false := Lib.frozen_of_heap kb5 3
   have d3 := (Lib.cell_of_heap kb5 3).trans rfl
   obtain ⟨S5, hS5⟩ : ∃ S5, S5 = w5.setCell ⟨w2.heap.size, 3, none⟩ (.slice (some ⟨g5, 0, none⟩) (vs.length + 1) cap5) := ⟨_, rfl⟩
   have kbF : S5.heap[w2.heap.size]? = some (.cells #[.int .i64 8, .int .i64 0, .string ⟨#[]⟩, .slice (some ⟨g5, 0, none⟩) (vs.length + 1) cap5, .slice (some ⟨g, 0, none⟩) (ks.length + 1) cap2, .slice none 0 0, .slice none 0 0] 27 (0, 0)) := by rw [hS5]; exact heap_setCell_same w5 _ 3 _ _ _ kb5
   have hbF : Below w2.heap.size w2 S5 := by rw [hS5]; exact (hbS.trans (hb5.mono (by omega))).setCell (p := ⟨w2.heap.size, 3, none⟩) (Nat.le_refl _) _
   have hsF : w2.heap.size + 1 ≤ S5.heap.size := by rw [hS5]; simp; omega
   have hMF := hM5.keep (w' := S5) (fun b h1 _ => by rw [hS5]; exact heap_setCell_other _ _ _ _ (show b ≠ w2.heap.size by omega))
   have HF := Lib.hid (And.intro kbF (And.intro hbF (And.intro hsF hMF)))
   have HS5 := Lib.hid hS5
   clear kbF hbF hsF hMF hM5 kb5 h5s kbS hbS hsS h4s hb5 hk5 hg5 ho5 hS5
   go_wp2
   go_roundw
   case rel =>
    obtain ⟨kbF, hbF, hsF, hMF⟩ := HF.out
    have hS5 := HS5.out
    rw [← hS5]
    refine ⟨j + 1, _, _, _, _, _, _, ks ++ [x.1], vs ++ [x.2], by go_num, by omega, hbF, kbF, hsF, hMF, ?_, ?_⟩
    · rw [HST.out.1, List.map_append, ← HST.out.2.1]; rfl
    · rw [HST.out.1, List.map_append, ← HST.out.2.2]; rfl
   case measure => simp [intOf]; omega
  ·
   have hjn2 : ¬ (j : Int) < (n : Int) := by omega
   have hje : j = n := by omega
   have k3 := (hb.block _ (Array.getElem?_eq_some_iff.1 HK2.out).1).trans HK2.out
   have hL3 := HL2.out.below hb
   have HSM := Lib.hid (Same.of_below hb (B := Btw W.heap.size w2.heap.size) (fun b hb => hb.2))
   have HM := Lib.hid hM
   have HKV := Lib.hid (And.intro hke hve)
   have HWS := Lib.hid (And.intro hje hsz)
   obtain ⟨g0, g1, g2, g3, g4, g5, g6⟩ := cells7 kb
   clear hM hb hje hke hve
   obtain ⟨e0, e1, e2, e3, e4, e5, e6⟩ := cells7 k3
   obtain ⟨z0, z1, z2, z3, z4, z5, z6⟩ := frozen7 k3
   have HK3 := Lib.hid k3
   have HL3 := Lib.hid hL3
   clear k3 hL3
   go_wp2
   obtain ⟨V, hV⟩ : ∃ V, V = (((((((wr.setCell ⟨w.heap.size, 0, none⟩ (.int .i64 8)).setCell ⟨w.heap.size, 1, none⟩ (.int .i64 0)).setCell ⟨w.heap.size, 2, none⟩ (.string ⟨#[]⟩)).setCell ⟨w.heap.size, 3, none⟩ (.slice X2 m2 d2)).setCell ⟨w.heap.size, 4, none⟩ (.slice X1 m1 d1)).setCell ⟨w.heap.size, 5, none⟩ (.slice none 0 0)).setCell ⟨w.heap.size, 6, none⟩ (.slice none 0 0)) := ⟨_, rfl⟩
   rw [← hV]
   obtain ⟨hLV, hob, hszV, hsm, hoth⟩ := boxR7 HK3.out (Nat.le_refl _) hlp HL3.out (.int .i64 8) (.int .i64 0) (.string ⟨#[]⟩) (.slice X2 m2 d2) (.slice X1 m1 d1) (.slice none 0 0) (.slice none 0 0) V hV
   clear hV e0 e1 e2 e3 e4 e5 e6 z0 z1 z2 z3 z4 z5 z6
   obtain ⟨ps0, ps1, ps2, ps3, ps4, ps5, ps6⟩ := cells7 hob
   refine bodyPost_ret (v := .tuple #[.agg #[.int .i64 8, .int .i64 0, .string ⟨#[]⟩, .slice X2 m2 d2, .slice X1 m1 d1, .slice none 0 0, .slice none 0 0], .bool ob]) (by simp [results, Tryz.results81, go_sem, ps0, ps1, ps2, ps3, ps4, ps5, ps6]) rfl ?_
   cases hmo2 : mo with
   | none => 
    have hob1 : false = ob := by rw [← HO.out, hmo2]; rfl
    subst hob1
    exact valPost_no (HQ.out.trans (by rw [hmo2]; rfl)) hLV
   | some lt =>
    obtain ⟨l', t⟩ := lt
    obtain ⟨rfl, rfl⟩ := HR.out _ _ hmo2
    have hob1 : true = ob := by rw [← HO.out, hmo2]; rfl
    subst hob1
    have hs1 := HS1.out
    have hll := HLL.out
    have hln := HN.out
    have hjj : j = l.length := HWS.out.1.trans HN.out.symm
    have hsz2 := HWS.out.2
    have hm := HM.out
    have hkv := HKV.out
    rw [hjj, List.take_length] at hkv
    rw [hkv.1, hkv.2] at hm
    have hsm2 : Same (Btw W.heap.size w2.heap.size) w2 V := (HSM.out).trans (hsm _ (fun h => by have := h.1; omega))
    have hm2 := hm.keep (w' := V) (fun b h1 _ => hoth b (by omega))
    refine valPost_yes (HQ.out.trans (by rw [hmo2]; rfl)) hLV ?_
    exact vb_map5 k hm2 hsm2 (fun b hb => ⟨by have := hb.1; omega, by have := hb.2; omega⟩) (fun b h1 h2 => ⟨by omega, h2⟩) (by rw [List.length_map]; show l.length ≤ maxLen; unfold maxLen; omega) (by rw [List.length_map]; show l.length ≤ maxLen; unfold maxLen; omega)
end Go.Proofs.YtcjgaohblaidjaaGreatDoor
namespace Go.Proofs.YtcjgaohblaidjaaGreatDoor
open Go Go.RowKit
theorem Tryz.infoL5 : (Tryz.prog.info? 9).map (fun i => (i.zero, i.size, i.bytes)) = some (some (.string ⟨#[]⟩), 1, 16) := by kernel_rfl
theorem wp_app_L5 {ops : Array Oper} {rest : List Oper} {o : Oper} {a : Act} {Q : Exit → Act → World → Prop} {w0 : World} (hgd : o.guard = none) (s x : Operand)
  (ho : o.op = .call { callee := .builtin .append, args := #[s, x], argTypes := #[25, 25] }) (base : Nat) (v : Value) (l : List Bs) (hs : a.eval s = v) (hown : OwnE elL5 9 1 w0 base v l)
  (y : Bs) (cs : List Value) (cap1 : Nat) (H : Nat) (hH : w0.heap.size = H) (hx : a.eval x = .slice (some ⟨H, 0, none⟩) 1 cap1) (cells : Array Value) (hcells : cells = cs.toArray)
  (hy : elL5.E y w0 (fun b => base ≤ b ∧ b < w0.heap.size ∧ some b ≠ v.ownBlock) cs) (hcs : cs.length = 1) (h1c : ∀ u ∈ cs, u.oneCell' = true) (hn : l.length ≤ 300000000) (hbase : base ≤ w0.heap.size)
  (h : ∀ g cap w', OwnE elL5 9 1 w' base (.slice (some ⟨g, 0, none⟩) (l.length + 1) cap) (l ++ [y]) → Below base w0 w' → wpList Tryz.prog ops Q rest (a.put o.dst (.slice (some ⟨g, 0, none⟩) (l.length + 1) cap)) w') :
  wpList Tryz.prog ops Q (o :: rest) a (w0.alloc (.cells cells 9)) := by
 subst hcells
 obtain ⟨i0, hi, hz0, hz1, hz2⟩ := info_parts Tryz.infoL5
 obtain ⟨g, cap, w', h1, h2, h3, _, _⟩ := app_one elL5 25 o.type 9 i0 (.string ⟨#[]⟩) 1 16 Tryz.underlying25 hi hz0 hz1 hz2 rfl (by decide) (by decide) w0 base v l hown y cs hy hcs h1c hn hbase H hH cap1
 exact Lib.wpList_append_run _ hgd s x 25 25 ho v _ hs hx _ w' h1 (h g cap w' h2 h3)
set_option maxRecDepth 100000 in
set_option maxHeartbeats 3200000 in
theorem seqL_any (B p : Nat) (hBp : B ≤ p) (d : Int) (item : Rd Bs) (hI : Hid (LabI B p d item)) (sep : Bs) (hsep : sep ≠ []) (r : Bs) (w : World) (h : PrsW p r d w) (hr : r.length ≤ limP) (hE : EnvH B w) :
  Calls Tryz.prog 44 #[.pointer (some ⟨p, 0, none⟩), .func (.func 45) #[.pointer (some ⟨p, 0, none⟩)] #[], .string ⟨sep.toArray⟩] w (ListPost elL5 9 1 p d (seqL item sep r) r w) := by
 have hp0 := h.lt
 have H0 := Lib.hid (Left.refl h)
 have HE := Lib.hid hE
 unfold limP at hr
 clear h hE
 go_enter Tryz.func44, Tryz.ntmps44
 go_wp2_with fail
 go_loopg [8] (r.length + 2) (fun gk lv wr => ∃ A cap ls rc, lv = .slice A (List.length (α := Bs) ls) cap ∧ Left p rc r d w wr ∧ OwnE elL5 9 1 wr w.heap.size (.slice A ls.length cap) ls ∧ rc.length + ls.length ≤ r.length + 1 ∧ ((ls = [] ∧ r = rc ∧ rc.length + 1 < gk) ∨ (ls ≠ [] ∧ rc.length < gk ∧ seqL item sep r = contL item sep ls rc)))
 case atStart => exact ⟨none, 0, [], r, rfl, H0.out, OwnE.nil _ _ _ _ _, by simp, .inl ⟨rfl, rfl, by omega⟩⟩
 case round =>
  obtain ⟨A, cap, ls, rc, rfl, hL, hO, hlen, hcase0⟩ := hrel
  have hrc := hL.2.2
  rcases id hcase0 with ⟨rfl, rfl, hg⟩ | ⟨hne, hg, heq⟩
  ·
   have hvc := hI.out r wr hL.2.1 (by unfold limP; omega) (HE.out.eff hL.1 hBp)
   have hzW := hL.1.size
   cases ho : item r with
   | none =>
    rw [ho] at hvc
    have HQ := Lib.hid (show seqL item sep r = none from seqL_none ho)
    have HL := Lib.hid hL
    clear hO hL hcase0
    go_wp2_with fail
    refine hvc.mono ?_
    rintro e w3 ⟨s, q, rfl, hL3, hres⟩
    clear hvc hres
    have HX := Lib.hid ((HL.out.trans hL3))
    clear hL3
    go_wp2
    refine bodyPost_ret (v := .tuple #[.slice none 0 0, .bool false]) (by simp [results, Tryz.results44, go_sem]) rfl ?_
    exact ⟨none, 0, 0, q, [], by rw [HQ.out]; rfl, HX.out, ⟨rfl, by omega, OwnE.nil _ _ _ _ _⟩, fun l t h => by rw [HQ.out] at h; cases h⟩
   | some vt =>
    obtain ⟨v, t⟩ := vt
    rw [ho] at hvc
    have HL := Lib.hid hL
    have HO := Lib.hid hO
    have HLL := Lib.hid hlen
    clear hO hL hcase0 hlen
    go_wp2_with fail
    refine hvc.mono ?_
    rintro e w3 ⟨s, q, rfl, hL3, hres⟩
    rcases hres _ _ rfl with ⟨rfl, rfl, hvb⟩
    clear hvc hres
    have hl3 := hL3.2.2
    have HQ := Lib.hid (show seqL item sep r = contL item sep ([] ++ [v]) q from seqL_step ho hl3 hsep)
    have hO3 := HO.out.eff hL3.1 hp0
    have hblk := HO.out.blk5
    have hz3 := hL3.1.size
    have hLa := HL.out.trans hL3
    have hbx : Below w3.heap.size w3 w3 := Below.refl _ _
    have hO4 := hO3.old hbx
    have hLb := hLa.below hbx
    have hvb4 : elL5.E v (w3) (fun b => w.heap.size ≤ b ∧ b < (w3).heap.size ∧ some b ≠ (Value.slice A ([] : List Bs).length cap).ownBlock) [.string ⟨v.toArray⟩] := ⟨rfl, hvb⟩
    have hll := HLL.out
    have hz4 : w.heap.size ≤ (w3).heap.size := by omega
    have HLB := Lib.hid hLb
    have HG := Lib.hid (And.intro hg hl3)
    clear hLb hLa hL3 hO3 hbx hvb hg ho
    skip
    go_wp2_with (at_builtin; refine wp_app_L5 rfl _ _ rfl  w.heap.size (.slice A ([] : List Bs).length cap) [] rfl hO4 v _ 1 w3.heap.size rfl rfl _ rfl hvb4 rfl (elL5_one v _ _ _ hvb4) (by omega) hz4 ?_; intro g2 cap2 w4 ho4 hb4; refine Hid.out ?_)
    refine Lib.hid ?_
    have HO4 := Lib.hid ho4
    have HL4 := Lib.hid (show Left p q r d w w4 from ⟨HLB.out.1.grow hb4 hp0, HLB.out.2.1.below hb4 hp0, HLB.out.2.2⟩)
    clear ho4 hb4 hvb4 hO4
    go_wp2_with fail
    go_roundg (q.length + 1)
    case measure => have := HG.out.1; have := HG.out.2; omega
    case rel =>
     have := HG.out.2
     have hll := HLL.out
     exact ⟨some ⟨g2, 0, none⟩, cap2, [] ++ [v], q, by rw [List.length_append]; rfl, HL4.out, by rw [List.length_append]; exact HO4.out, by rw [List.length_append]; simp only [List.length_singleton, List.length_nil]; simp at hll; omega, .inr ⟨by simp, by omega, HQ.out⟩⟩
  ·
   have hpos := List.length_pos_iff.2 hne
   cases hcut : cutP sep rc with
   | none =>
    have hac := accept_no p rc sep d wr hL.2.1 hcut
    have HQ := Lib.hid (heq.trans (contL_end ls hcut))
    have HL := Lib.hid hL
    have HO := Lib.hid hO
    clear hL hO hcase0 heq
    generalize hln : ls.length = m at *
    have HLN := Lib.hid hln
    have HGS := Lib.hid hg
    clear hln hg
    have k1 : ¬ (m : Int) = 0 := by omega
    go_wp2_with fail
    refine hac.mono ?_
    rintro e w1 ⟨rfl, hL1, hs1⟩
    clear hac
    have HL1 := Lib.hid hL1
    have HS1 := Lib.hid hs1
    clear hL1 hs1
    go_wp2
    refine bodyPost_ret (v := .tuple #[.slice A m cap, .bool true]) (by simp [results, Tryz.results44, go_sem]) rfl ?_
    refine ⟨A, m, cap, rc, ls, by rw [HQ.out]; rfl, HL.out.trans HL1.out, ⟨HLN.out.symm, by omega, HO.out.eff HL1.out.1 hp0⟩, fun l t h => ?_⟩
    rw [HQ.out] at h
    simp only [Option.some.injEq, Prod.mk.injEq] at h
    obtain ⟨rfl, rfl⟩ := h
    exact ⟨rfl, rfl⟩
   | some r' =>
    have hac := accept_yes p rc sep r' d wr hL.2.1 hcut
    have hcl := cutP_len hcut
    have k1 : ¬ (ls.length : Int) = 0 := by omega
    have HL0 := Lib.hid hL
    have HO0 := Lib.hid hO
    have HQ0 := Lib.hid (And.intro heq (And.intro hcut hlen))
    have HG0 := Lib.hid hg
    clear hL hO hcase0 heq hcut hlen hg
    go_wp2_with fail
    refine hac.mono ?_
    rintro e w1 ⟨rfl, hL1, hs1⟩
    clear hac hs1
    have hL := HL0.out.trans hL1
    have hO := HO0.out.eff hL1.1 hp0
    obtain ⟨heq, hcut, hlen⟩ := HQ0.out
    have hg := HG0.out
    have hvc := hI.out r' w1 hL.2.1 (by unfold limP; omega) (HE.out.eff hL.1 hBp)
    clear hL1
    have hcase0 := True.intro
    have hzW := hL.1.size
    cases ho : item r' with
    | none =>
     rw [ho] at hvc
     have HQ := Lib.hid (show seqL item sep r = none from (heq.trans (contL_fail ls hcut ho)))
     have HL := Lib.hid hL
     clear hO hL hcase0
     go_wp2_with fail
     refine hvc.mono ?_
     rintro e w3 ⟨s, q, rfl, hL3, hres⟩
     clear hvc hres
     have HX := Lib.hid ((HL.out.trans hL3))
     clear hL3
     go_wp2
     refine bodyPost_ret (v := .tuple #[.slice none 0 0, .bool false]) (by simp [results, Tryz.results44, go_sem]) rfl ?_
     exact ⟨none, 0, 0, q, [], by rw [HQ.out]; rfl, HX.out, ⟨rfl, by omega, OwnE.nil _ _ _ _ _⟩, fun l t h => by rw [HQ.out] at h; cases h⟩
    | some vt =>
     obtain ⟨v, t⟩ := vt
     rw [ho] at hvc
     have HL := Lib.hid hL
     have HO := Lib.hid hO
     have HLL := Lib.hid hlen
     clear hO hL hcase0 hlen
     go_wp2_with fail
     refine hvc.mono ?_
     rintro e w3 ⟨s, q, rfl, hL3, hres⟩
     rcases hres _ _ rfl with ⟨rfl, rfl, hvb⟩
     clear hvc hres
     have hl3 := hL3.2.2
     have HQ := Lib.hid (show seqL item sep r = contL item sep (ls ++ [v]) q from (heq.trans (contL_more ls hcut ho hl3 hsep)))
     have hO3 := HO.out.eff hL3.1 hp0
     have hblk := HO.out.blk5
     have hz3 := hL3.1.size
     have hLa := HL.out.trans hL3
     have hbx : Below w3.heap.size w3 w3 := Below.refl _ _
     have hO4 := hO3.old hbx
     have hLb := hLa.below hbx
     have hvb4 : elL5.E v (w3) (fun b => w.heap.size ≤ b ∧ b < (w3).heap.size ∧ some b ≠ (Value.slice A ls.length cap).ownBlock) [.string ⟨v.toArray⟩] := ⟨rfl, hvb⟩
     have hll := HLL.out
     have hz4 : w.heap.size ≤ (w3).heap.size := by omega
     have HLB := Lib.hid hLb
     have HG := Lib.hid (And.intro hg hl3)
     clear hLb hLa hL3 hO3 hbx hvb hg ho
     skip
     go_wp2_with (at_builtin; refine wp_app_L5 rfl _ _ rfl  w.heap.size (.slice A ls.length cap) ls rfl hO4 v _ 1 w3.heap.size rfl rfl _ rfl hvb4 rfl (elL5_one v _ _ _ hvb4) (by omega) hz4 ?_; intro g2 cap2 w4 ho4 hb4; refine Hid.out ?_)
     refine Lib.hid ?_
     have HO4 := Lib.hid ho4
     have HL4 := Lib.hid (show Left p q r d w w4 from ⟨HLB.out.1.grow hb4 hp0, HLB.out.2.1.below hb4 hp0, HLB.out.2.2⟩)
     clear ho4 hb4 hvb4 hO4
     go_wp2_with fail
     go_roundg (q.length + 1)
     case measure => have := HG.out.1; have := HG.out.2; have := cutP_len hcut; have := List.length_pos_iff.2 hsep; omega
     case rel =>
      have := HG.out.2
      have hll := HLL.out
      exact ⟨some ⟨g2, 0, none⟩, cap2, ls ++ [v], q, by rw [List.length_append]; rfl, HL4.out, by rw [List.length_append]; exact HO4.out, by rw [List.length_append]; simp only [List.length_singleton]; have := cutP_len hcut; have := List.length_pos_iff.2 hsep; omega, .inr ⟨by simp, by omega, HQ.out⟩⟩
end Go.Proofs.YtcjgaohblaidjaaGreatDoor
