/- The comparison of what stands before the last kid of two values. -/
import Derived.Test.YtpgnkfobgjplmaaGreatVb00
import Derived.Test.YtpgnkfobgjplmaaGreatVb05
namespace Go.Proofs.YtpgnkfobgjplmaaGreat
open Go Go.RowKit
/-- what stands before the last of the kids -/
def frontV : Vl → Vl → Int
  | .mk kd it tx kids keys _ _, .mk kd' it' tx' kids' keys' _ _ =>
    thn (thn (cmpI kd kd') (thn (cmpI it it') (cmpT tx tx'))) (thn (thn (cmpI keys.length keys'.length) (cmpL cmpK keys keys')) (thn (cmpI kids.length kids'.length) (cmpL cmpV (kids.take (kids.length - 1)) (kids'.take (kids.length - 1)))))
/-- what stands behind the kids -/
def tailV : Vl → Vl → Int
  | .mk _ _ _ _ _ ents labs, .mk _ _ _ _ _ ents' labs' => thn (thn (cmpI ents.length ents'.length) (cmpL cmpE ents ents')) (thn (cmpI labs.length labs'.length) (cmpL cmpT labs labs'))
def kidsV : Vl → List Vl
  | .mk _ _ _ kids _ _ _ => kids
def Vl.kd' : Vl → Int
  | .mk kd _ _ _ _ _ _ => kd
def Vl.it' : Vl → Int
  | .mk _ it _ _ _ _ _ => it
def Vl.tx' : Vl → List UInt8
  | .mk _ _ tx _ _ _ _ => tx
def Vl.keys' : Vl → List (Int × List UInt8)
  | .mk _ _ _ _ keys _ _ => keys
theorem thn_zero_left (b : Int) : thn 0 b = b := rfl
theorem cmpL_last {α : Type} {c : α → α → Int} {l m : List α} {n : Nat} {x y : α} (hl : l.length = n + 1) (hm : m.length = n + 1) (hx : l[n]? = some x) (hy : m[n]? = some y) : cmpL c l m = thn (cmpL c (l.take n) (m.take n)) (c x y) := by
  have e1 : l = l.take n ++ [x] := by
    have : l.take (n + 1) = l.take n ++ [x] := by rw [List.take_add_one, hx]; rfl
    rw [← this, List.take_of_length_le (by omega)]
  have e2 : m = m.take n ++ [y] := by
    have : m.take (n + 1) = m.take n ++ [y] := by rw [List.take_add_one, hy]; rfl
    rw [← this, List.take_of_length_le (by omega)]
  have h := cmpL_app (c := c) (p := l.take n) (q := m.take n) [x] [y] (by rw [List.length_take, List.length_take]; omega)
  rw [← e1, ← e2] at h
  rw [h]
  simp only [cmpL, thn_zero_right]
theorem cmpV_split (a b : Vl) : cmpV a b = thn (thn (cmpI (a.kd') (b.kd')) (thn (cmpI a.it' b.it') (cmpT a.tx' b.tx'))) (thn (thn (cmpI a.keys'.length b.keys'.length) (cmpL cmpK a.keys' b.keys')) (thn (cmpI (kidsV a).length (kidsV b).length) (thn (cmpL cmpV (kidsV a) (kidsV b)) (tailV a b)))) := by
  obtain ⟨kd, it, tx, kids, keys, ents, labs⟩ := a
  obtain ⟨kd', it', tx', kids', keys', ents', labs'⟩ := b
  simp only [cmpV, cmpVs_L, cmpEs_L, thn_assoc, tailV, kidsV, Vl.kd', Vl.it', Vl.tx', Vl.keys']
theorem frontV_split (a b : Vl) : frontV a b = thn (thn (cmpI (a.kd') (b.kd')) (thn (cmpI a.it' b.it') (cmpT a.tx' b.tx'))) (thn (thn (cmpI a.keys'.length b.keys'.length) (cmpL cmpK a.keys' b.keys')) (thn (cmpI (kidsV a).length (kidsV b).length) (cmpL cmpV ((kidsV a).take ((kidsV a).length - 1)) ((kidsV b).take ((kidsV a).length - 1))))) := by
  obtain ⟨kd, it, tx, kids, keys, ents, labs⟩ := a
  obtain ⟨kd', it', tx', kids', keys', ents', labs'⟩ := b
  rfl
theorem cmpV_front_zero {a b : Vl} (h : frontV a b = 0) : (kidsV a).length = (kidsV b).length ∧ (kidsV a = [] → cmpV a b = tailV a b) ∧ ∀ n x y, (kidsV a).length = n + 1 → (kidsV a)[n]? = some x → (kidsV b)[n]? = some y → cmpV a b = thn (cmpV x y) (tailV a b) := by
  rw [frontV_split] at h
  obtain ⟨h1, h⟩ := thn_zero.1 h
  obtain ⟨h2, h⟩ := thn_zero.1 h
  obtain ⟨h3, h4⟩ := thn_zero.1 h
  have hlen : (kidsV a).length = (kidsV b).length := by have := cmpI_zero.1 h3; omega
  rw [cmpV_split, h1, h2, h3]
  simp only [thn_zero_left]
  refine ⟨hlen, fun hn => ?_, fun n x y hn hx hy => ?_⟩
  · rw [hn]
    simp only [cmpL, thn_zero_left]
  · rw [cmpL_last hn (by omega) hx hy]
    rw [hn] at h4
    simp only [Nat.add_sub_cancel] at h4
    rw [h4]
    simp only [thn_zero_left]
theorem cmpV_front_ne {a b : Vl} (h : frontV a b ≠ 0) : cmpV a b = frontV a b := by
  rw [frontV_split] at h ⊢
  rw [cmpV_split]
  by_cases h1 : thn (cmpI (a.kd') (b.kd')) (thn (cmpI a.it' b.it') (cmpT a.tx' b.tx')) = 0
  · rw [h1] at h ⊢
    simp only [thn_zero_left] at h ⊢
    by_cases h2 : thn (cmpI a.keys'.length b.keys'.length) (cmpL cmpK a.keys' b.keys') = 0
    · rw [h2] at h ⊢
      simp only [thn_zero_left] at h ⊢
      by_cases h3 : cmpI (kidsV a).length (kidsV b).length = 0
      · rw [h3] at h ⊢
        simp only [thn_zero_left] at h ⊢
        have hlen : (kidsV a).length = (kidsV b).length := by have := cmpI_zero.1 h3; omega
        cases hn : (kidsV a).length with
        | zero => rw [hn] at h; exact absurd (by simp [cmpL]) h
        | succ n =>
          rw [hn] at h
          simp only [Nat.add_sub_cancel] at h ⊢
          have hx : (kidsV a)[n]? = some (kidsV a)[n] := List.getElem?_eq_getElem (by omega)
          have hy : (kidsV b)[n]? = some (kidsV b)[n] := List.getElem?_eq_getElem (by omega)
          rw [cmpL_last hn (by omega) hx hy, thn_assoc, thn_of h]
      · rw [thn_of h3, thn_of h3]
    · rw [thn_of h2, thn_of h2]
  · rw [thn_of h1, thn_of h1]
/-- a row of values in a later world -/
theorem rowVS_on {k : Nat} {w V : World} {A : Option Addr} {c : Nat} {l : List Vl} (hV : Below w.heap.size w V) (h : RowP w w.heap.size 7 (.slice A l.length c) l.length (fun j cs => ∃ x, l[j]? = some x ∧ VS k w w.heap.size x cs)) : RowP V V.heap.size 7 (.slice A l.length c) l.length (fun j cs => ∃ x, l[j]? = some x ∧ VS k V V.heap.size x cs) :=
  (h.on hV fun _ _ ⟨x, h1, h2⟩ => ⟨x, h1, VS.up hV.size (Nat.le_refl _) (VS.on hV h2)⟩).mono hV.size fun _ _ h => h
/-- its first elements -/
theorem rowVS_take {k : Nat} {w : World} {A : Option Addr} {c n p : Nat} {l : List Vl} (h : RowP w w.heap.size 7 (.slice A n c) n (fun j cs => ∃ x, l[j]? = some x ∧ VS k w w.heap.size x cs)) (hp : p ≤ n) : RowP w w.heap.size 7 (.slice A p c) p (fun j cs => ∃ x, (l.take p)[j]? = some x ∧ VS k w w.heap.size x cs) :=
  RowB.sub (RowB.take h hp c) (fun _ h => h) (fun _ _ ⟨hq, z, hz, hv⟩ => ⟨z, by rw [List.getElem?_take_of_lt hq]; exact hz, hv⟩)
set_option maxRecDepth 100000 in
set_option maxHeartbeats 6400000 in
theorem front_any (k : Nat) (IH : Hid (∀ (a b : Vl) (ca cb : List Value) (w : World), VS k w w.heap.size a ca → VS k w w.heap.size b cb → Calls Tryz.prog 81 #[.agg ca.toArray, .agg cb.toArray] w fun e w' => e = .returned (.int .i64 (cmpV a b)) ∧ Below w.heap.size w w')) (a b : Vl) (ca cb : List Value) (w : World) (h : VS (k + 1) w w.heap.size a ca) (h' : VS (k + 1) w w.heap.size b cb) :
    Calls Tryz.prog 110 #[.agg ca.toArray, .agg cb.toArray] w fun e w' => e = .returned (.int .i64 (frontV a b)) ∧ Below w.heap.size w w' := by
  obtain ⟨kd, it, tx, kids, keys, ents, labs⟩ := a
  obtain ⟨kd', it', tx', kids', keys', ents', labs'⟩ := b
  obtain ⟨uk, uy, ue, ul, rfl, _, _, _, hk, hy, he, hl⟩ := h
  obtain ⟨uk', uy', ue', ul', rfl, _, _, _, hk', hy', he', hl'⟩ := h'
  obtain ⟨A, c, rfl, hkl⟩ := hk.form
  have HKL := Lib.hid hkl
  clear hkl
  obtain ⟨A', c', rfl, _⟩ := hk'.form
  obtain ⟨Y, cy, rfl, _⟩ := hy.form
  obtain ⟨Y', cy', rfl, _⟩ := hy'.form
  obtain ⟨E, ce, rfl, _⟩ := he.form
  obtain ⟨E', ce', rfl, _⟩ := he'.form
  obtain ⟨L, cl, rfl, _⟩ := hl.form
  obtain ⟨L', cl', rfl, _⟩ := hl'.form
  have HCP := Lib.hid (And.intro hk.cap hk'.cap)
  obtain ⟨W, hW⟩ : ∃ W, W = (w.alloc (.cells #[.int .i64 kd, .int .i64 it, .string ⟨tx.toArray⟩, .slice A kids.length c, .slice Y keys.length cy, .slice E ents.length ce, .slice L labs.length cl] 27)).alloc (.cells #[.int .i64 kd', .int .i64 it', .string ⟨tx'.toArray⟩, .slice A' kids'.length c', .slice Y' keys'.length cy', .slice E' ents'.length ce', .slice L' labs'.length cl'] 27) := ⟨_, rfl⟩
  have hb : Below w.heap.size w W := by rw [hW]; exact ((Below.refl _ _).alloc (Nat.le_refl _) _).alloc (by simp) _
  have hz : W.heap.size = w.heap.size + 2 := by rw [hW]; simp
  have k1 : W.heap[w.heap.size]? = some (.cells #[.int .i64 kd, .int .i64 it, .string ⟨tx.toArray⟩, .slice A kids.length c, .slice Y keys.length cy, .slice E ents.length ce, .slice L labs.length cl] 27 (0, 0)) := by
    rw [hW, Below.heap_alloc _ _ _ (by simp)]
    exact heap_alloc_new w _
  have k2 : W.heap[w.heap.size + 1]? = some (.cells #[.int .i64 kd', .int .i64 it', .string ⟨tx'.toArray⟩, .slice A' kids'.length c', .slice Y' keys'.length cy', .slice E' ents'.length ce', .slice L' labs'.length cl'] 27 (0, 0)) := by
    rw [hW]
    exact new_at' _ (by simp)
  have hC0 := cmpOwn_any kd it tx A Y E L kids.length c keys.length cy ents.length ce labs.length cl kd' it' tx' A' Y' E' L' kids'.length c' keys'.length cy' ents'.length ce' labs'.length cl' W
  have HY : Hid (∀ V, Below w.heap.size w V → Calls Tryz.prog 133 #[.slice Y keys.length cy, .slice Y' keys'.length cy', .func (.func 58) #[] #[]] V fun e w' => e = .returned (.int .i64 (thn (cmpI keys.length keys'.length) (cmpL cmpK keys keys'))) ∧ Below V.heap.size V w') := Lib.hid fun V hV => cmpls2 Y Y' cy cy' keys keys' V ((hy.on hV fun _ _ h => h).mono hV.size fun _ _ h => h) ((hy'.on hV fun _ _ h => h).mono hV.size fun _ _ h => h)
  have HN : Hid (∀ V, Calls Tryz.prog 95 #[.int .i64 (kids.length : Int), .int .i64 (kids'.length : Int)] V fun e w' => e = .returned (.int .i64 (cmpI kids.length kids'.length)) ∧ w' = V) := Lib.hid fun V => cmpInt_any kids.length kids'.length V
  have HK : Hid (∀ m, kids.length = m + 1 → kids.length = kids'.length → ∀ V, Below w.heap.size w V → Calls Tryz.prog 134 #[.slice A m c, .slice A' m c', .func (.func 81) #[] #[]] V fun e w' => e = .returned (.int .i64 (cmpL cmpV (kids.take m) (kids'.take m))) ∧ Below V.heap.size V w') := Lib.hid fun m hm hm' V hV => by
    have e1 : (kids.take m).length = m := by rw [List.length_take]; omega
    have e2 : (kids'.take m).length = m := by rw [List.length_take]; omega
    have hh := cmpf7 k IH A A' c c' (kids.take m) (kids'.take m) V
    rw [e1, e2] at hh
    exact hh (rowVS_take (rowVS_on hV hk) (by omega)) (rowVS_take (rowVS_on hV hk') (by omega)) rfl
  clear hk hk' hy hy' he he' hl hl'
  have HT : Hid (frontV (.mk kd it tx kids keys ents labs) (.mk kd' it' tx' kids' keys' ents' labs') = thn (thn (cmpI kd kd') (thn (cmpI it it') (cmpT tx tx'))) (thn (thn (cmpI keys.length keys'.length) (cmpL cmpK keys keys')) (thn (cmpI kids.length kids'.length) (cmpL cmpV (kids.take (kids.length - 1)) (kids'.take (kids.length - 1)))))) := Lib.hid rfl
  have HL : Hid (cmpI kids.length kids'.length = 0 → kids.length = kids'.length) := Lib.hid fun h => by have := cmpI_zero.1 h; omega
  generalize thn (cmpI kd kd') (thn (cmpI it it') (cmpT tx tx')) = z0 at hC0 HT
  generalize thn (cmpI (keys.length : Int) (keys'.length : Int)) (cmpL cmpK keys keys') = z1 at HY HT
  generalize cmpI (kids.length : Int) (kids'.length : Int) = z2 at HN HT HL
  have HB := Lib.hid hb
  have K1 := Lib.hid k1
  have K2 := Lib.hid k2
  have q0 : W.cell? ⟨w.heap.size, 0, none⟩ = some (.int .i64 kd) := (Lib.cell_of_heap k1 0).trans rfl
  have q1 : W.cell? ⟨w.heap.size, 1, none⟩ = some (.int .i64 it) := (Lib.cell_of_heap k1 1).trans rfl
  have q2 : W.cell? ⟨w.heap.size, 2, none⟩ = some (.string ⟨tx.toArray⟩) := (Lib.cell_of_heap k1 2).trans rfl
  have q3 : W.cell? ⟨w.heap.size, 3, none⟩ = some (.slice A kids.length c) := (Lib.cell_of_heap k1 3).trans rfl
  have q4 : W.cell? ⟨w.heap.size, 4, none⟩ = some (.slice Y keys.length cy) := (Lib.cell_of_heap k1 4).trans rfl
  have q5 : W.cell? ⟨w.heap.size, 5, none⟩ = some (.slice E ents.length ce) := (Lib.cell_of_heap k1 5).trans rfl
  have q6 : W.cell? ⟨w.heap.size, 6, none⟩ = some (.slice L labs.length cl) := (Lib.cell_of_heap k1 6).trans rfl
  have r0 : W.cell? ⟨w.heap.size + 1, 0, none⟩ = some (.int .i64 kd') := (Lib.cell_of_heap k2 0).trans rfl
  have r1 : W.cell? ⟨w.heap.size + 1, 1, none⟩ = some (.int .i64 it') := (Lib.cell_of_heap k2 1).trans rfl
  have r2 : W.cell? ⟨w.heap.size + 1, 2, none⟩ = some (.string ⟨tx'.toArray⟩) := (Lib.cell_of_heap k2 2).trans rfl
  have r3 : W.cell? ⟨w.heap.size + 1, 3, none⟩ = some (.slice A' kids'.length c') := (Lib.cell_of_heap k2 3).trans rfl
  have r4 : W.cell? ⟨w.heap.size + 1, 4, none⟩ = some (.slice Y' keys'.length cy') := (Lib.cell_of_heap k2 4).trans rfl
  have r5 : W.cell? ⟨w.heap.size + 1, 5, none⟩ = some (.slice E' ents'.length ce') := (Lib.cell_of_heap k2 5).trans rfl
  have r6 : W.cell? ⟨w.heap.size + 1, 6, none⟩ = some (.slice L' labs'.length cl') := (Lib.cell_of_heap k2 6).trans rfl
  clear hb k1 k2
  generalize frontV (.mk kd it tx kids keys ents labs) (.mk kd' it' tx' kids' keys' ents' labs') = y at HT ⊢
  generalize hnk : kids.length = n at *
  generalize hnk' : kids'.length = n' at *
  have HNK := Lib.hid (And.intro hnk hnk')
  clear hnk hnk'
  go_enter Tryz.func110, Tryz.ntmps110
  go_wp2_with fail
  rw [← hW]
  clear hW
  go_wp2_with (go_at_call 132; refine hC0.mono ?_; rintro e w1 ⟨rfl, hb1⟩; refine Hid.out ?_)
  refine Lib.hid ?_
  have HB1 := Lib.hid (HB.out.trans (hb1.mono HB.out.size))
  have KA1 : Hid (w1.heap[w.heap.size]? = some (.cells #[.int .i64 kd, .int .i64 it, .string ⟨tx.toArray⟩, .slice A n c, .slice Y keys.length cy, .slice E ents.length ce, .slice L labs.length cl] 27 (0, 0))) := Lib.hid ((hb1.block _ (by omega)).trans K1.out)
  have KB1 : Hid (w1.heap[w.heap.size + 1]? = some (.cells #[.int .i64 kd', .int .i64 it', .string ⟨tx'.toArray⟩, .slice A' n' c', .slice Y' keys'.length cy', .slice E' ents'.length ce', .slice L' labs'.length cl'] 27 (0, 0))) := Lib.hid ((hb1.block _ (by omega)).trans K2.out)
  have hz1 : w.heap.size + 2 ≤ w1.heap.size := by have := hb1.size; omega
  clear hb1 hC0 q0 q1 q2 q3 q4 q5 q6 r0 r1 r2 r3 r4 r5 r6 hz
  by_cases h0 : z0 = 0
  case neg =>
    have hq : (z0 != 0) = true := by rw [bne_iff_ne]; exact h0
    have HU : Hid (y = z0) := Lib.hid (by rw [HT.out]; exact thn_of h0 _)
    clear h0
    go_wp2
    go_ret
    exact ⟨ret_i HU.out.symm, HB1.out⟩
  subst h0
  have p4 : w1.cell? ⟨w.heap.size, 4, none⟩ = some (.slice Y keys.length cy) := (Lib.cell_of_heap KA1.out 4).trans rfl
  have s4 : w1.cell? ⟨w.heap.size + 1, 4, none⟩ = some (.slice Y' keys'.length cy') := (Lib.cell_of_heap KB1.out 4).trans rfl
  go_wp2_with (go_at_call 133; refine (HY.out _ HB1.out).mono ?_; rintro e w2 ⟨rfl, hb2⟩; refine Hid.out ?_)
  refine Lib.hid ?_
  have HB2 := Lib.hid (HB1.out.trans (hb2.mono HB1.out.size))
  have KA2 : Hid (w2.heap[w.heap.size]? = some (.cells #[.int .i64 kd, .int .i64 it, .string ⟨tx.toArray⟩, .slice A n c, .slice Y keys.length cy, .slice E ents.length ce, .slice L labs.length cl] 27 (0, 0))) := Lib.hid ((hb2.block _ (by omega)).trans KA1.out)
  have KB2 : Hid (w2.heap[w.heap.size + 1]? = some (.cells #[.int .i64 kd', .int .i64 it', .string ⟨tx'.toArray⟩, .slice A' n' c', .slice Y' keys'.length cy', .slice E' ents'.length ce', .slice L' labs'.length cl'] 27 (0, 0))) := Lib.hid ((hb2.block _ (by omega)).trans KB1.out)
  have hz2 : w.heap.size + 2 ≤ w2.heap.size := by have := hb2.size; omega
  clear hb2 p4 s4 hz1
  by_cases h1 : z1 = 0
  case neg =>
    have hq : (z1 != 0) = true := by rw [bne_iff_ne]; exact h1
    have HU : Hid (y = z1) := Lib.hid (by rw [HT.out]; exact thn_of h1 _)
    clear h1
    go_wp2
    go_ret
    exact ⟨ret_i HU.out.symm, HB2.out⟩
  subst h1
  have p3 : w2.cell? ⟨w.heap.size, 3, none⟩ = some (.slice A n c) := (Lib.cell_of_heap KA2.out 3).trans rfl
  have s3 : w2.cell? ⟨w.heap.size + 1, 3, none⟩ = some (.slice A' n' c') := (Lib.cell_of_heap KB2.out 3).trans rfl
  go_wp2_with (go_at_call 95; refine (HN.out _).mono ?_; rintro e w3 ⟨rfl, rfl⟩; refine Hid.out ?_)
  refine Lib.hid ?_
  by_cases h2 : z2 = 0
  case neg =>
    have hq : (z2 != 0) = true := by rw [bne_iff_ne]; exact h2
    have HU : Hid (y = z2) := Lib.hid (by rw [HT.out]; exact thn_of h2 _)
    clear h2
    go_wp2
    go_ret
    exact ⟨ret_i HU.out.symm, HB2.out⟩
  subst h2
  have hnn := HL.out rfl
  by_cases hn0 : n = 0
  · subst hn0
    have hnb : (((0 : Nat) : Int) == 0) = true := rfl
    have HU : Hid (y = 0) := Lib.hid (by
      rw [HT.out]
      simp [cmpL, thn])
    clear hnn
    go_wp2
    go_ret
    exact ⟨ret_i HU.out.symm, HB2.out⟩
  · obtain ⟨m, hm⟩ : ∃ m, n = m + 1 := ⟨n - 1, by omega⟩
    have HU : Hid (y = cmpL cmpV (kids.take m) (kids'.take m)) := Lib.hid (by rw [HT.out, hm]; rfl)
    have hnb : ((n : Int) == 0) = false := by simp; omega
    have hcc := HK.out m hm hnn _ HB2.out.drew
    have hm1 : m ≤ c := by have := HCP.out.1; omega
    have hm2 : m ≤ c' := by have := HCP.out.2; omega
    have hmm : (n : Int) - 1 = (m : Int) := by omega
    have hwm : wrap64 (m : Int) = (m : Int) := by have := HKL.out; unfold wrap64; unfold maxLen at this; omega
    generalize cmpL cmpV (kids.take m) (kids'.take m) = x at HU hcc
    subst hnn
    clear hn0 hm
    go_wp2_with fail
    refine wp_region_held_drew (S := fun V => V.cell? ⟨w.heap.size, 3, none⟩ = some (.slice A n c) ∧ V.cell? ⟨w.heap.size + 1, 3, none⟩ = some (.slice A' n c')) (by kernel_rfl) ⟨p3, s3⟩ (fun hHeld => ?_)
    refine take_op (i := 0) (v := _) rfl (by kernel_rfl) (by kernel_rfl) (by kernel_rfl) (fun _ _ _ h => h) (Or.inl ⟨by rfl, (by intro w hSw; (try dsimp only at hSw); go_simp; try with_reducible rfl)⟩) hHeld ?_
    try simp only [Act.put, List.setIfInBounds_toArray, List.set_cons_zero, List.set_cons_succ]
    refine take_op (i := 1) (v := _) rfl (by kernel_rfl) (by kernel_rfl) (by kernel_rfl) (fun _ _ _ h => h) (Or.inl ⟨by rfl, (by intro w hSw; (try dsimp only at hSw); go_simp; try with_reducible rfl)⟩) hHeld ?_
    try simp only [Act.put, List.setIfInBounds_toArray, List.set_cons_zero, List.set_cons_succ]
    refine take_op (i := 2) (v := _) rfl (by kernel_rfl) (by kernel_rfl) (by kernel_rfl) (fun _ _ _ h => h) (Or.inl ⟨by rfl, (by intro w hSw; (try dsimp only at hSw); go_simp; try with_reducible rfl)⟩) hHeld ?_
    try simp only [Act.put, List.setIfInBounds_toArray, List.set_cons_zero, List.set_cons_succ]
    refine take_op (i := 3) (v := _) rfl (by kernel_rfl) (by kernel_rfl) (by kernel_rfl) (fun _ _ _ h => h) (Or.inl ⟨by rfl, (by intro w hSw; (try dsimp only at hSw); go_simp; try with_reducible rfl)⟩) hHeld ?_
    try simp only [Act.put, List.setIfInBounds_toArray, List.set_cons_zero, List.set_cons_succ]
    refine take_op (i := 4) (v := _) rfl (by kernel_rfl) (by kernel_rfl) (by kernel_rfl) (fun _ _ _ h => h) (Or.inl ⟨by rfl, (by intro w hSw; (try dsimp only at hSw); go_simp; try with_reducible rfl)⟩) hHeld ?_
    try simp only [Act.put, List.setIfInBounds_toArray, List.set_cons_zero, List.set_cons_succ]
    refine take_op (i := 5) (v := _) rfl (by kernel_rfl) (by kernel_rfl) (by kernel_rfl) (fun _ _ _ h => h) (Or.inl ⟨by rfl, (by intro w hSw; (try dsimp only at hSw); go_simp; try with_reducible rfl)⟩) hHeld ?_
    try simp only [Act.put, List.setIfInBounds_toArray, List.set_cons_zero, List.set_cons_succ]
    refine take_op (i := 6) (v := _) rfl (by kernel_rfl) (by kernel_rfl) (by kernel_rfl) (fun _ _ _ h => h) (Or.inl ⟨by rfl, (by intro w hSw; (try dsimp only at hSw); go_simp; try with_reducible rfl)⟩) hHeld ?_
    try simp only [Act.put, List.setIfInBounds_toArray, List.set_cons_zero, List.set_cons_succ]
    refine take_op (i := 7) (v := _) rfl (by kernel_rfl) (by kernel_rfl) (by kernel_rfl) (fun _ _ _ h => h) (Or.inl ⟨by rfl, (by intro w hSw; (try dsimp only at hSw); go_simp; try with_reducible rfl)⟩) hHeld ?_
    try simp only [Act.put, List.setIfInBounds_toArray, List.set_cons_zero, List.set_cons_succ]
    refine one_op 8 (by kernel_rfl) rfl (by rfl) (fun K hK => ?_)
    go_simp
    refine hcc.mono ?_
    rintro e w4 ⟨rfl, hb4⟩
    have HB4 := Lib.hid (HB2.out.drew.trans (hb4.mono HB2.out.drew.size))
    have hS4 : w4.cell? ⟨w.heap.size, 3, none⟩ = some (.slice A n c) ∧ w4.cell? ⟨w.heap.size + 1, 3, none⟩ = some (.slice A' n c') := ⟨(hb4.cell (p := ⟨_, 3, none⟩) (by show w.heap.size < w3.heap.size; omega)).trans p3, (hb4.cell (p := ⟨_, 3, none⟩) (by show w.heap.size + 1 < w3.heap.size; omega)).trans s3⟩
    refine hK _ _ hS4 ?_
    try simp only [Act.put, List.setIfInBounds_toArray, List.set_cons_zero, List.set_cons_succ]
    refine take_op (i := 9) (v := _) rfl (by kernel_rfl) (by kernel_rfl) (by kernel_rfl) (fun _ _ _ h => h) (Or.inl ⟨by rfl, (by intro w hSw; (try dsimp only at hSw); go_simp; try with_reducible rfl)⟩) hS4 ?_
    try simp only [Act.put, List.setIfInBounds_toArray, List.set_cons_zero, List.set_cons_succ]
    refine wpAnyH_done (by kernel_rfl) ?_ _
    go_wp2
    go_ret
    exact ⟨ret_i HU.out.symm, HB4.out⟩
end Go.Proofs.YtpgnkfobgjplmaaGreat
