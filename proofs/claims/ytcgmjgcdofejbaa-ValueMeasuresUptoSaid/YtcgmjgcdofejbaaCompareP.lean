/- What the program's compareEntries and Compare return: the order of P4.2. -/
import Derived.Test.YtcgmjgcdofejbaaCmpLists
namespace Go.Proofs.Ytcgmjgcdofejbaa
open Go Go.RowKit
set_option maxRecDepth 100000 in
set_option maxHeartbeats 3200000 in
theorem entP_any (k : Nat) (hP : Hid (∀ (a b : Vl) (ca cb : List Value) (w : World), VS k w w.heap.size a ca → VS k w w.heap.size b cb → Calls Try.prog 12 #[.agg ca.toArray, .agg cb.toArray] w fun e w' => e = .returned (.int .i64 (cmpV a b)) ∧ Below w.heap.size w w'))
    (e e' : En) (cs cs' : List Value) (w : World) (he : ES k w w.heap.size e cs) (he' : ES k w w.heap.size e' cs') :
    Calls Try.prog 29 #[.agg cs.toArray, .agg cs'.toArray] w fun r w' => r = .returned (.int .i64 (cmpE e e')) ∧ Below w.heap.size w w' := by
  obtain ⟨l, f, r, rfl, ua, rs, rfl, hl, hr⟩ := he
  obtain ⟨m, f', r', rfl, ua', rs', rfl, hm, hr'⟩ := he'
  obtain ⟨A, c, rfl, _⟩ := hl.form
  obtain ⟨A', c', rfl, _⟩ := hm.form
  obtain ⟨a1, i1, s1, B1, n1, d1, B2, n2, d2, B3, n3, d3, B4, n4, d4, rfl⟩ := hr.form7
  obtain ⟨a1', i1', s1', B1', n1', d1', B2', n2', d2', B3', n3', d3', B4', n4', d4', rfl⟩ := hr'.form7
  obtain ⟨W, hW⟩ : ∃ W, W = ((w.alloc (.cells #[.slice A l.length c, .bool f, .int .i64 a1, .int .i64 i1, .string s1, .slice B1 n1 d1, .slice B2 n2 d2, .slice B3 n3 d3, .slice B4 n4 d4] 44)).alloc (.cells #[.slice A' m.length c', .bool f', .int .i64 a1', .int .i64 i1', .string s1', .slice B1' n1' d1', .slice B2' n2' d2', .slice B3' n3' d3', .slice B4' n4' d4'] 44)) := ⟨_, rfl⟩
  have hb : Below w.heap.size w W := by rw [hW]; exact ((Below.refl _ _).alloc (Nat.le_refl _) _).alloc (by simp) _
  have hz : W.heap.size = w.heap.size + 2 := by rw [hW]; simp
  have k1 : W.heap[w.heap.size]? = some (.cells #[.slice A l.length c, .bool f, .int .i64 a1, .int .i64 i1, .string s1, .slice B1 n1 d1, .slice B2 n2 d2, .slice B3 n3 d3, .slice B4 n4 d4] 44 (0, 0)) := by
    rw [hW, Below.heap_alloc _ _ _ (by simp)]
    exact heap_alloc_new w _
  have k2 : W.heap[w.heap.size + 1]? = some (.cells #[.slice A' m.length c', .bool f', .int .i64 a1', .int .i64 i1', .string s1', .slice B1' n1' d1', .slice B2' n2' d2', .slice B3' n3' d3', .slice B4' n4' d4'] 44 (0, 0)) := by
    rw [hW]
    exact new_at' _ (by simp)
  have hv := cmpls7 k hP A A' c c' l m W ((hl.on hb fun _ _ ⟨x, h1, h2⟩ => ⟨x, h1, VS.up hb.size (Nat.le_refl _) (VS.on hb h2)⟩).mono hb.size fun _ _ h => h) ((hm.on hb fun _ _ ⟨x, h1, h2⟩ => ⟨x, h1, VS.up hb.size (Nat.le_refl _) (VS.on hb h2)⟩).mono hb.size fun _ _ h => h)
  have e0 : W.cell? ⟨w.heap.size, 0, none⟩ = some (.slice A l.length c) := (Lib.cell_of_heap k1 0).trans rfl
  have e1 : W.cell? ⟨w.heap.size + 1, 0, none⟩ = some (.slice A' m.length c') := (Lib.cell_of_heap k2 0).trans rfl
  have K1 := Lib.hid k1
  have K2 := Lib.hid k2
  have HB := Lib.hid hb
  rw [← cmpVs_L] at hv
  have HR := Lib.hid hr
  have HR' := Lib.hid hr'
  have HT : Hid (cmpE (.mk l f r) (.mk m f' r') = thn (thn (cmpI l.length m.length) (cmpVs l m)) (thn (cmpF f f') (cmpV r r'))) := Lib.hid (by rw [cmpE, thn_assoc])
  generalize thn (cmpI l.length m.length) (cmpVs l m) = z at hv HT
  clear hl hm hr hr' k1 k2 hb
  go_enter Try.func29, Try.ntmps29
  go_wp2_with fail
  rw [← hW]
  clear hW
  go_wp2_with (go_at_call 27; refine hv.mono ?_; rintro e w1 ⟨rfl, hb1⟩; refine Hid.out ?_)
  refine Lib.hid ?_
  have HB1 := Lib.hid (HB.out.trans (hb1.mono HB.out.size))
  clear hv e0 e1
  by_cases h0 : z = 0
  · have q : (z != 0) = false := by rw [bne_eq_false_iff_eq]; exact h0
    have HU : Hid (cmpE (.mk l f r) (.mk m f' r') = thn (cmpF f f') (cmpV r r')) := Lib.hid (by rw [HT.out, h0]; rfl)
    have g1 : w1.cell? ⟨w.heap.size, 1, none⟩ = some (.bool f) := (hb1.cell (p := ⟨_, 1, none⟩) (by show w.heap.size < _; omega)).trans ((Lib.cell_of_heap K1.out 1).trans rfl)
    have g2 : w1.cell? ⟨w.heap.size + 1, 1, none⟩ = some (.bool f') := (hb1.cell (p := ⟨_, 1, none⟩) (by show w.heap.size + 1 < _; omega)).trans ((Lib.cell_of_heap K2.out 1).trans rfl)
    by_cases hf : f = f'
    · subst hf
      have HV : Hid (cmpE (.mk l f r) (.mk m f r') = cmpV r r') := Lib.hid (by rw [HU.out, cmpF, if_pos rfl]; rfl)
      have p2 : w1.cell? ⟨w.heap.size, 2, none⟩ = some (.int .i64 a1) := (hb1.cell (p := ⟨_, 2, none⟩) (by show w.heap.size < _; omega)).trans ((Lib.cell_of_heap K1.out 2).trans rfl)
      have p3 : w1.cell? ⟨w.heap.size, 3, none⟩ = some (.int .i64 i1) := (hb1.cell (p := ⟨_, 3, none⟩) (by show w.heap.size < _; omega)).trans ((Lib.cell_of_heap K1.out 3).trans rfl)
      have p4 : w1.cell? ⟨w.heap.size, 4, none⟩ = some (.string s1) := (hb1.cell (p := ⟨_, 4, none⟩) (by show w.heap.size < _; omega)).trans ((Lib.cell_of_heap K1.out 4).trans rfl)
      have p5 : w1.cell? ⟨w.heap.size, 5, none⟩ = some (.slice B1 n1 d1) := (hb1.cell (p := ⟨_, 5, none⟩) (by show w.heap.size < _; omega)).trans ((Lib.cell_of_heap K1.out 5).trans rfl)
      have p6 : w1.cell? ⟨w.heap.size, 6, none⟩ = some (.slice B2 n2 d2) := (hb1.cell (p := ⟨_, 6, none⟩) (by show w.heap.size < _; omega)).trans ((Lib.cell_of_heap K1.out 6).trans rfl)
      have p7 : w1.cell? ⟨w.heap.size, 7, none⟩ = some (.slice B3 n3 d3) := (hb1.cell (p := ⟨_, 7, none⟩) (by show w.heap.size < _; omega)).trans ((Lib.cell_of_heap K1.out 7).trans rfl)
      have p8 : w1.cell? ⟨w.heap.size, 8, none⟩ = some (.slice B4 n4 d4) := (hb1.cell (p := ⟨_, 8, none⟩) (by show w.heap.size < _; omega)).trans ((Lib.cell_of_heap K1.out 8).trans rfl)
      have r2 : w1.cell? ⟨w.heap.size + 1, 2, none⟩ = some (.int .i64 a1') := (hb1.cell (p := ⟨_, 2, none⟩) (by show w.heap.size + 1 < _; omega)).trans ((Lib.cell_of_heap K2.out 2).trans rfl)
      have r3 : w1.cell? ⟨w.heap.size + 1, 3, none⟩ = some (.int .i64 i1') := (hb1.cell (p := ⟨_, 3, none⟩) (by show w.heap.size + 1 < _; omega)).trans ((Lib.cell_of_heap K2.out 3).trans rfl)
      have r4 : w1.cell? ⟨w.heap.size + 1, 4, none⟩ = some (.string s1') := (hb1.cell (p := ⟨_, 4, none⟩) (by show w.heap.size + 1 < _; omega)).trans ((Lib.cell_of_heap K2.out 4).trans rfl)
      have r5 : w1.cell? ⟨w.heap.size + 1, 5, none⟩ = some (.slice B1' n1' d1') := (hb1.cell (p := ⟨_, 5, none⟩) (by show w.heap.size + 1 < _; omega)).trans ((Lib.cell_of_heap K2.out 5).trans rfl)
      have r6 : w1.cell? ⟨w.heap.size + 1, 6, none⟩ = some (.slice B2' n2' d2') := (hb1.cell (p := ⟨_, 6, none⟩) (by show w.heap.size + 1 < _; omega)).trans ((Lib.cell_of_heap K2.out 6).trans rfl)
      have r7 : w1.cell? ⟨w.heap.size + 1, 7, none⟩ = some (.slice B3' n3' d3') := (hb1.cell (p := ⟨_, 7, none⟩) (by show w.heap.size + 1 < _; omega)).trans ((Lib.cell_of_heap K2.out 7).trans rfl)
      have r8 : w1.cell? ⟨w.heap.size + 1, 8, none⟩ = some (.slice B4' n4' d4') := (hb1.cell (p := ⟨_, 8, none⟩) (by show w.heap.size + 1 < _; omega)).trans ((Lib.cell_of_heap K2.out 8).trans rfl)
      have hc := hP.out r r' _ _ w1 (VS.up HB1.out.size (Nat.le_refl _) (VS.on HB1.out HR.out)) (VS.up HB1.out.size (Nat.le_refl _) (VS.on HB1.out HR'.out))
      clear hb1 h0
      cases f
      all_goals
        go_wp2_with (go_at_call 12; refine hc.mono ?_; rintro e w2 ⟨rfl, hb2⟩; refine Hid.out ?_)
        refine Lib.hid ?_
        go_wp2
        go_ret
        exact ⟨ret_i (by rw [HV.out]), HB1.out.trans (hb2.mono HB1.out.size)⟩
    · have HV : Hid (cmpE (.mk l f r) (.mk m f' r') = cmpF f f') := Lib.hid (by rw [HU.out]; exact thn_of (by rw [cmpF, if_neg hf]; cases f <;> simp) _)
      clear hb1 h0
      cases f <;> cases f'
      · exact absurd rfl hf
      · clear hf
        go_wp2
        go_ret
        exact ⟨ret_i (by rw [HV.out]; rfl), HB1.out⟩
      · clear hf
        go_wp2
        go_ret
        exact ⟨ret_i (by rw [HV.out]; rfl), HB1.out⟩
      · exact absurd rfl hf
  · have q : (z != 0) = true := by rw [bne_iff_ne]; exact h0
    have HU : Hid (cmpE (.mk l f r) (.mk m f' r') = z) := Lib.hid (by rw [HT.out]; exact thn_of h0 _)
    clear h0 hb1
    go_wp2
    go_ret
    exact ⟨ret_i (by rw [HU.out]), HB1.out⟩
/-- entries, seen as a row of entries each in nine cells, in a later world -/
theorem ents_row {k : Nat} {w V : World} {u : Value} {ents : List En} (hV : Below w.heap.size w V) (h : RowP w w.heap.size 9 u ents.length (fun j cs => ∃ args fails result, ents[j]? = some (.mk args fails result) ∧ ∃ ua rs, cs = ua :: .bool fails :: rs ∧ RowP w w.heap.size 7 ua args.length (fun j cs => ∃ x, args[j]? = some x ∧ VS k w w.heap.size x cs) ∧ VS k w w.heap.size result rs)) :
    RowP V V.heap.size 9 u ents.length (fun j cs => ∃ x, ents[j]? = some x ∧ ES k V V.heap.size x cs) := by
  refine (h.on hV fun _ _ h => h).mono hV.size ?_
  rintro j cs ⟨args, fails, result, hx, ua, rs, hcs, ha, hr⟩
  have : ES k w w.heap.size (.mk args fails result) cs := ⟨args, fails, result, rfl, ua, rs, hcs, ha, hr⟩
  exact ⟨_, hx, ES.up hV.size (Nat.le_refl _) (ES.on hV this)⟩
set_option maxRecDepth 100000 in
set_option maxHeartbeats 6400000 in
theorem compareP_any : ∀ (k : Nat) (a b : Vl) (ca cb : List Value) (w : World), VS k w w.heap.size a ca → VS k w w.heap.size b cb → Calls Try.prog 12 #[.agg ca.toArray, .agg cb.toArray] w fun e w' => e = .returned (.int .i64 (cmpV a b)) ∧ Below w.heap.size w w' := by
  intro k
  induction k with
  | zero => intro a b ca cb w h; exact h.elim
  | succ k ih =>
    intro a b ca cb w h h'
    have IH := Lib.hid ih
    clear ih
    obtain ⟨kd, it, tx, kids, keys, ents, labs⟩ := a
    obtain ⟨kd', it', tx', kids', keys', ents', labs'⟩ := b
    obtain ⟨uk, uy, ue, ul, rfl, _, _, _, hk, hy, he, hl⟩ := h
    obtain ⟨uk', uy', ue', ul', rfl, _, _, _, hk', hy', he', hl'⟩ := h'
    obtain ⟨A, c, rfl, _⟩ := hk.form
    obtain ⟨A', c', rfl, _⟩ := hk'.form
    obtain ⟨Y, cy, rfl, _⟩ := hy.form
    obtain ⟨Y', cy', rfl, _⟩ := hy'.form
    obtain ⟨E, ce, rfl, _⟩ := he.form
    obtain ⟨E', ce', rfl, _⟩ := he'.form
    obtain ⟨L, cl, rfl, _⟩ := hl.form
    obtain ⟨L', cl', rfl, _⟩ := hl'.form
    have hP : Hid (∀ (a b : En) (ca cb : List Value) (w : World), ES k w w.heap.size a ca → ES k w w.heap.size b cb → Calls Try.prog 29 #[.agg ca.toArray, .agg cb.toArray] w fun e w' => e = .returned (.int .i64 (cmpE a b)) ∧ Below w.heap.size w w') := Lib.hid fun a b ca cb w h1 h2 => entP_any k IH a b ca cb w h1 h2
    obtain ⟨W, hW⟩ : ∃ W, W = (w.alloc (.cells #[.int .i64 kd, .int .i64 it, .string ⟨tx.toArray⟩, .slice A kids.length c, .slice Y keys.length cy, .slice E ents.length ce, .slice L labs.length cl] 27)).alloc (.cells #[.int .i64 kd', .int .i64 it', .string ⟨tx'.toArray⟩, .slice A' kids'.length c', .slice Y' keys'.length cy', .slice E' ents'.length ce', .slice L' labs'.length cl'] 27) := ⟨_, rfl⟩
    have hb : Below w.heap.size w W := by rw [hW]; exact ((Below.refl _ _).alloc (Nat.le_refl _) _).alloc (by simp) _
    have hz : W.heap.size = w.heap.size + 2 := by rw [hW]; simp
    have q0 : W.cell? ⟨w.heap.size, 0, none⟩ = some (.int .i64 kd) := by rw [hW]; simp
    have q1 : W.cell? ⟨w.heap.size, 1, none⟩ = some (.int .i64 it) := by rw [hW]; simp
    have q2 : W.cell? ⟨w.heap.size, 2, none⟩ = some (.string ⟨tx.toArray⟩) := by rw [hW]; simp
    have q3 : W.cell? ⟨w.heap.size, 3, none⟩ = some (.slice A kids.length c) := by rw [hW]; simp
    have q4 : W.cell? ⟨w.heap.size, 4, none⟩ = some (.slice Y keys.length cy) := by rw [hW]; simp
    have q5 : W.cell? ⟨w.heap.size, 5, none⟩ = some (.slice E ents.length ce) := by rw [hW]; simp
    have q6 : W.cell? ⟨w.heap.size, 6, none⟩ = some (.slice L labs.length cl) := by rw [hW]; simp
    have r0 : W.cell? ⟨w.heap.size + 1, 0, none⟩ = some (.int .i64 kd') := by rw [hW]; simp
    have r1 : W.cell? ⟨w.heap.size + 1, 1, none⟩ = some (.int .i64 it') := by rw [hW]; simp
    have r2 : W.cell? ⟨w.heap.size + 1, 2, none⟩ = some (.string ⟨tx'.toArray⟩) := by rw [hW]; simp
    have r3 : W.cell? ⟨w.heap.size + 1, 3, none⟩ = some (.slice A' kids'.length c') := by rw [hW]; simp
    have r4 : W.cell? ⟨w.heap.size + 1, 4, none⟩ = some (.slice Y' keys'.length cy') := by rw [hW]; simp
    have r5 : W.cell? ⟨w.heap.size + 1, 5, none⟩ = some (.slice E' ents'.length ce') := by rw [hW]; simp
    have r6 : W.cell? ⟨w.heap.size + 1, 6, none⟩ = some (.slice L' labs'.length cl') := by rw [hW]; simp
    have hC0 := cmpOwn_any kd it tx A Y E L kids.length c keys.length cy ents.length ce labs.length cl kd' it' tx' A' Y' E' L' kids'.length c' keys'.length cy' ents'.length ce' labs'.length cl' W
    have HY : Hid (∀ V, Below w.heap.size w V → Calls Try.prog 25 #[.slice Y keys.length cy, .slice Y' keys'.length cy', .func (.func 26) #[] #[]] V fun e w' => e = .returned (.int .i64 (thn (cmpI keys.length keys'.length) (cmpL cmpK keys keys'))) ∧ Below V.heap.size V w') := Lib.hid fun V hV => cmpls2 Y Y' cy cy' keys keys' V ((hy.on hV fun _ _ h => h).mono hV.size fun _ _ h => h) ((hy'.on hV fun _ _ h => h).mono hV.size fun _ _ h => h)
    have HK : Hid (∀ V, Below w.heap.size w V → Calls Try.prog 27 #[.slice A kids.length c, .slice A' kids'.length c', .func (.func 12) #[] #[]] V fun e w' => e = .returned (.int .i64 (thn (cmpI kids.length kids'.length) (cmpL cmpV kids kids'))) ∧ Below V.heap.size V w') := Lib.hid fun V hV => cmpls7 k IH A A' c c' kids kids' V ((hk.on hV fun _ _ ⟨x, h1, h2⟩ => ⟨x, h1, VS.up hV.size (Nat.le_refl _) (VS.on hV h2)⟩).mono hV.size fun _ _ h => h) ((hk'.on hV fun _ _ ⟨x, h1, h2⟩ => ⟨x, h1, VS.up hV.size (Nat.le_refl _) (VS.on hV h2)⟩).mono hV.size fun _ _ h => h)
    have HE : Hid (∀ V, Below w.heap.size w V → Calls Try.prog 28 #[.slice E ents.length ce, .slice E' ents'.length ce', .func (.func 29) #[] #[]] V fun e w' => e = .returned (.int .i64 (thn (cmpI ents.length ents'.length) (cmpL cmpE ents ents'))) ∧ Below V.heap.size V w') := Lib.hid fun V hV => cmpls9 k hP E E' ce ce' ents ents' V (ents_row hV he) (ents_row hV he')
    have HL : Hid (∀ V, Below w.heap.size w V → Calls Try.prog 30 #[.slice L labs.length cl, .slice L' labs'.length cl', .func (.func 31) #[] #[]] V fun e w' => e = .returned (.int .i64 (thn (cmpI labs.length labs'.length) (cmpL cmpT labs labs'))) ∧ Below V.heap.size V w') := Lib.hid fun V hV => cmpls1 L L' cl cl' labs labs' V ((hl.on hV fun _ _ h => h).mono hV.size fun _ _ h => h) ((hl'.on hV fun _ _ h => h).mono hV.size fun _ _ h => h)
    clear hk hk' hy hy' he he' hl hl'
    have HT : Hid (cmpV (.mk kd it tx kids keys ents labs) (.mk kd' it' tx' kids' keys' ents' labs') = thn (thn (cmpI kd kd') (thn (cmpI it it') (cmpT tx tx'))) (thn (thn (cmpI keys.length keys'.length) (cmpL cmpK keys keys')) (thn (thn (cmpI kids.length kids'.length) (cmpL cmpV kids kids')) (thn (thn (cmpI ents.length ents'.length) (cmpL cmpE ents ents')) (thn (cmpI labs.length labs'.length) (cmpL cmpT labs labs')))))) := Lib.hid (by simp only [cmpV, cmpVs_L, cmpEs_L, thn_assoc])
    generalize thn (cmpI kd kd') (thn (cmpI it it') (cmpT tx tx')) = z0 at hC0 HT
    generalize thn (cmpI (keys.length : Int) (keys'.length : Int)) (cmpL cmpK keys keys') = z1 at HY HT
    generalize thn (cmpI (kids.length : Int) (kids'.length : Int)) (cmpL cmpV kids kids') = z2 at HK HT
    generalize thn (cmpI (ents.length : Int) (ents'.length : Int)) (cmpL cmpE ents ents') = z3 at HE HT
    generalize thn (cmpI (labs.length : Int) (labs'.length : Int)) (cmpL cmpT labs labs') = z4 at HL HT
    have HB := Lib.hid hb
    clear hP hb
    go_enter Try.func12, Try.ntmps12
    go_wp2_with fail
    rw [← hW]
    clear hW
    have HW : Hid (Below W.heap.size W W) := Lib.hid (Below.refl _ _)
    go_wp2_with (go_at_call 24; refine hC0.mono ?_; rintro e w1 ⟨rfl, hb1⟩; refine Hid.out ?_)
    refine Lib.hid ?_
    have hbw : Below W.heap.size W w1 := HW.out.trans (hb1.mono HW.out.size)
    have HB1 := Lib.hid (HB.out.trans (hbw.mono HB.out.size))
    by_cases h0 : z0 = 0
    case neg =>
      have hq : (z0 != 0) = true := by rw [bne_iff_ne]; exact h0
      have HU : Hid (cmpV (.mk kd it tx kids keys ents labs) (.mk kd' it' tx' kids' keys' ents' labs') = z0) := Lib.hid (by rw [HT.out]; exact thn_of h0 _)
      clear h0 hb1 hbw
      go_wp2
      go_ret
      exact ⟨ret_i HU.out.symm, HB1.out⟩
    subst h0
    have HU1 : Hid (cmpV (.mk kd it tx kids keys ents labs) (.mk kd' it' tx' kids' keys' ents' labs') = thn z1 (thn z2 (thn z3 z4))) := Lib.hid (by rw [HT.out]; rfl)
    have p4 : w1.cell? ⟨w.heap.size, 4, none⟩ = some (.slice Y keys.length cy) := (hbw.cell (p := ⟨_, 4, none⟩) (by show w.heap.size < _; omega)).trans q4
    have s4 : w1.cell? ⟨w.heap.size + 1, 4, none⟩ = some (.slice Y' keys'.length cy') := (hbw.cell (p := ⟨_, 4, none⟩) (by show w.heap.size + 1 < _; omega)).trans r4
    clear hC0
    replace HW : Hid (Below W.heap.size W w1) := Lib.hid hbw
    clear hbw hb1
    go_wp2_with (go_at_call 25; refine (HY.out _ HB1.out).mono ?_; rintro e w2 ⟨rfl, hb2⟩; refine Hid.out ?_)
    refine Lib.hid ?_
    have hbw : Below W.heap.size W w2 := HW.out.trans (hb2.mono HW.out.size)
    have HB2 := Lib.hid (HB.out.trans (hbw.mono HB.out.size))
    by_cases h1 : z1 = 0
    case neg =>
      have hq : (z1 != 0) = true := by rw [bne_iff_ne]; exact h1
      have HU : Hid (cmpV (.mk kd it tx kids keys ents labs) (.mk kd' it' tx' kids' keys' ents' labs') = z1) := Lib.hid (by rw [HU1.out]; exact thn_of h1 _)
      clear h1 hb2 hbw
      go_wp2
      go_ret
      exact ⟨ret_i HU.out.symm, HB2.out⟩
    subst h1
    have HU2 : Hid (cmpV (.mk kd it tx kids keys ents labs) (.mk kd' it' tx' kids' keys' ents' labs') = thn z2 (thn z3 z4)) := Lib.hid (by rw [HU1.out]; rfl)
    have p3 : w2.cell? ⟨w.heap.size, 3, none⟩ = some (.slice A kids.length c) := (hbw.cell (p := ⟨_, 3, none⟩) (by show w.heap.size < _; omega)).trans q3
    have s3 : w2.cell? ⟨w.heap.size + 1, 3, none⟩ = some (.slice A' kids'.length c') := (hbw.cell (p := ⟨_, 3, none⟩) (by show w.heap.size + 1 < _; omega)).trans r3
    replace HW : Hid (Below W.heap.size W w2) := Lib.hid hbw
    clear hbw hb2
    go_wp2_with (go_at_call 27; refine (HK.out _ HB2.out).mono ?_; rintro e w3 ⟨rfl, hb3⟩; refine Hid.out ?_)
    refine Lib.hid ?_
    have hbw : Below W.heap.size W w3 := HW.out.trans (hb3.mono HW.out.size)
    have HB3 := Lib.hid (HB.out.trans (hbw.mono HB.out.size))
    by_cases h2 : z2 = 0
    case neg =>
      have hq : (z2 != 0) = true := by rw [bne_iff_ne]; exact h2
      have HU : Hid (cmpV (.mk kd it tx kids keys ents labs) (.mk kd' it' tx' kids' keys' ents' labs') = z2) := Lib.hid (by rw [HU2.out]; exact thn_of h2 _)
      clear h2 hb3 hbw
      go_wp2
      go_ret
      exact ⟨ret_i HU.out.symm, HB3.out⟩
    subst h2
    have HU3 : Hid (cmpV (.mk kd it tx kids keys ents labs) (.mk kd' it' tx' kids' keys' ents' labs') = thn z3 z4) := Lib.hid (by rw [HU2.out]; rfl)
    have p5 : w3.cell? ⟨w.heap.size, 5, none⟩ = some (.slice E ents.length ce) := (hbw.cell (p := ⟨_, 5, none⟩) (by show w.heap.size < _; omega)).trans q5
    have s5 : w3.cell? ⟨w.heap.size + 1, 5, none⟩ = some (.slice E' ents'.length ce') := (hbw.cell (p := ⟨_, 5, none⟩) (by show w.heap.size + 1 < _; omega)).trans r5
    replace HW : Hid (Below W.heap.size W w3) := Lib.hid hbw
    clear hbw hb3
    go_wp2_with (go_at_call 28; refine (HE.out _ HB3.out).mono ?_; rintro e w4 ⟨rfl, hb4⟩; refine Hid.out ?_)
    refine Lib.hid ?_
    have hbw : Below W.heap.size W w4 := HW.out.trans (hb4.mono HW.out.size)
    have HB4 := Lib.hid (HB.out.trans (hbw.mono HB.out.size))
    by_cases h3 : z3 = 0
    case neg =>
      have hq : (z3 != 0) = true := by rw [bne_iff_ne]; exact h3
      have HU : Hid (cmpV (.mk kd it tx kids keys ents labs) (.mk kd' it' tx' kids' keys' ents' labs') = z3) := Lib.hid (by rw [HU3.out]; exact thn_of h3 _)
      clear h3 hb4 hbw
      go_wp2
      go_ret
      exact ⟨ret_i HU.out.symm, HB4.out⟩
    subst h3
    have HU4 : Hid (cmpV (.mk kd it tx kids keys ents labs) (.mk kd' it' tx' kids' keys' ents' labs') = z4) := Lib.hid (by rw [HU3.out]; rfl)
    have p6 : w4.cell? ⟨w.heap.size, 6, none⟩ = some (.slice L labs.length cl) := (hbw.cell (p := ⟨_, 6, none⟩) (by show w.heap.size < _; omega)).trans q6
    have s6 : w4.cell? ⟨w.heap.size + 1, 6, none⟩ = some (.slice L' labs'.length cl') := (hbw.cell (p := ⟨_, 6, none⟩) (by show w.heap.size + 1 < _; omega)).trans r6
    replace HW : Hid (Below W.heap.size W w4) := Lib.hid hbw
    clear hbw hb4
    go_wp2_with (go_at_call 30; refine (HL.out _ HB4.out).mono ?_; rintro e w5 ⟨rfl, hb5⟩; refine Hid.out ?_)
    refine Lib.hid ?_
    have hbw : Below W.heap.size W w5 := HW.out.trans (hb5.mono HW.out.size)
    have HB5 := Lib.hid (HB.out.trans (hbw.mono HB.out.size))
    clear hbw hb5
    go_wp2
    go_ret
    exact ⟨ret_i HU4.out.symm, HB5.out⟩
end Go.Proofs.Ytcgmjgcdofejbaa
