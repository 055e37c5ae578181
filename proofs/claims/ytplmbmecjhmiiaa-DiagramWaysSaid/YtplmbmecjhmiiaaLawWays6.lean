/- The law DiagramWays. -/
import Derived.Test.YtplmbmecjhmiiaaWaysD6
import Derived.Test.YtplmbmecjhmiiaaPths6
import Derived.Test.YtplmbmecjhmiiaaDrawn6
import Derived.Test.YtplmbmecjhmiiaaAwake6
namespace Go.Proofs.Ytplmbmecjhmiiaa
open Go Go.RowKit
theorem OwnP.pthR {X : Nat → Prop} {w : World} {base : Nat} {v : Value} {l : List (List Int × List Int)} (h : OwnP X w base v l) (hn : l.length ≤ 4096) : PthR w w.heap.size v l :=
  RowB.sub (OwnE.row h (by decide) (by unfold maxLen; omega)) (fun _ h => h.2) (fun j cs ⟨x, hx, s, t, he, hs, ht⟩ => ⟨x, hx, s, t, he, RowB.sub hs (fun b hb => hb.1.2) (fun _ _ h => h), RowB.sub ht (fun b hb => hb.1.2) (fun _ _ h => h)⟩)
theorem held_step {l : List (List Int × List Int)} {j : Nat} {x : List Int × List Int} (h : l[j]? = some x) (s : Nat → Bool) : ((l.take (j + 1)).filter (fun x => hB x s)).length = ((l.take j).filter (fun x => hB x s)).length + if hB x s then 1 else 0 := by
  rw [List.take_add_one, h, List.filter_append, List.length_append]
  cases hx : hB x s <;> simp [hx]
set_option maxRecDepth 100000 in
set_option maxHeartbeats 16000000 in
theorem waysLaw_any (v : Value) (l : List (List Int × List Int)) (a : Nat) (ha : a < 18446744073709551616) (w : World) (h : PthR w w.heap.size v l) : Calls Try.prog 7 #[v, .int .u64 a] w fun e w' => e = .returned (.bool true) ∧ Below w.heap.size w w' := by
  have HP := Lib.hid h
  have HA := Lib.hid ha
  clear h ha
  go_enter Try.func7, Try.ntmps7
  go_wp2_with fail
  refine (drawn_one v l w HP.out).mono ?_
  rintro e w1 ⟨A1, n1, c1, x1, p1, rfl, hd1, hp1, hb1⟩
  obtain ⟨W1, hW1⟩ : ∃ W1, W1 = w1.alloc (.cells #[.slice A1 n1 c1, .int .i64 x1] 24) := ⟨_, rfl⟩
  have hbW1 : Below w1.heap.size w1 W1 := by rw [hW1]; exact (Below.refl _ _).alloc (Nat.le_refl _) _
  have k1 : W1.heap[w1.heap.size]? = some (.cells #[.slice A1 n1 c1, .int .i64 x1] 24 (0, 0)) := by rw [hW1]; exact heap_alloc_new w1 _
  have H1 := Lib.hid (And.intro k1 (And.intro (fun h : p1 = true => (hd1 h).on hbW1 hbW1.size) (And.intro (hb1.trans (hbW1.mono hb1.size)) hb1.size)))
  have hawk := Lib.hid (awake_any W1)
  clear hd1 hp1 hb1 hbW1 k1 HP
  cases p1
  · go_wp2_with fail
    rw [← hW1]
    refine hawk.out.mono ?_
    rintro e w' ⟨rfl, hb⟩
    have HZ := Lib.hid (H1.out.2.2.1.trans (hb.mono H1.out.2.2.1.size))
    clear hb hW1
    go_wp2
    go_ret
    exact ⟨rfl, HZ.out⟩
  · have hD := H1.out.2.1 rfl
    obtain ⟨hf, _⟩ := hD
    obtain ⟨_, hG, hr, hF⟩ := can_ok hf Good_nil
    obtain ⟨L, hL⟩ : ∃ L, L = pth (can (fP l) []).1 13 (can (fP l) []).2 [] [] := ⟨_, rfl⟩
    have HLL := Lib.hid hL
    have HLF : Hid ((L.filter (fun x => hB x (sOf a))).length = if fP l (sOf a) then 1 else 0) := Lib.hid (by
      rw [hL, pth_held hG.ord (sOf a) 13 _ [] [] hr (by omega), hF]
      simp [hB])
    have HLI : Hid (∀ x, x ∈ L → Lit12 x.1 ∧ Lit12 x.2) := Lib.hid fun x hx => (pth_lit hG.ord 13 _ [] [] hr (by intro z hz; simp at hz) (by intro z hz; simp at hz) x (by rw [← hL]; exact hx)).1
    have HDa : Hid (∀ V, Below W1.heap.size W1 V → Dia (fP l) V V.heap.size (.agg #[.slice A1 n1 c1, .int .i64 x1])) := Lib.hid fun V hV => (H1.out.2.1 rfl).on hV hV.size
    have HS : Hid (∀ V, Below W1.heap.size W1 V → (V.cell? ⟨w1.heap.size, 0, none⟩ = some (.slice A1 n1 c1) ∧ V.cell? ⟨w1.heap.size, 1, none⟩ = some (.int .i64 x1))) := Lib.hid fun V hV => cells2 ((hV.block _ (lt_of_heap H1.out.1)).trans H1.out.1)
    have HW1 : Hid (Below w.heap.size w W1) := Lib.hid H1.out.2.2.1
    clear hf hG hr hF hL hawk H1
    go_wp2_with fail
    rw [← hW1]
    clear hW1
    have HC0 := Lib.hid ((Below.refl W1.heap.size W1).drew)
    refine wp_region_held_drew (S := fun V => (V.cell? ⟨w1.heap.size, 0, none⟩ = some (.slice A1 n1 c1) ∧ V.cell? ⟨w1.heap.size, 1, none⟩ = some (.int .i64 x1))) (by kernel_rfl) (HS.out _ HC0.out) (fun _ => ?_)
    refine tk 0 (HS.out _ HC0.out) ?_
    try simp only [Act.put, pA, pB, pC]
    refine tk 2 (HS.out _ HC0.out) ?_
    try simp only [Act.put, pA, pB, pC]
    refine one_op 1 (by kernel_rfl) rfl (by rfl) (fun K hK => ?_)
    go_simp
    refine (paths_any (HDa.out _ HC0.out)).mono ?_
    rintro e V1 ⟨X1, v1, base, rfl, hbase, hO1, hlen, hb1⟩
    rw [← HLL.out] at hO1 hlen
    have HC1 := Lib.hid (HC0.out.trans (hb1.mono HC0.out.size))
    have HO1 := Lib.hid (hO1.pthR hlen)
    have HLEN := Lib.hid hlen
    clear hb1 hO1 hlen hbase
    refine hK _ _ (HS.out _ HC1.out) ?_
    try simp only [Act.put, pA, pB, pC]
    clear hK K
    refine one_op 3 (by kernel_rfl) rfl (by rfl) (fun K hK => ?_)
    go_simp
    refine (pathsD_any (HDa.out _ HC1.out)).mono ?_
    rintro e V2 ⟨v2, rfl, hO2, hb2⟩
    rw [← HLL.out] at hO2
    have HC2 := Lib.hid (HC1.out.trans (hb2.mono HC1.out.size))
    have h1 := (HO1.out.on hb2)
    have h2 := hO2.pthR HLEN.out
    have HR1 : Hid (PthR V2 V2.heap.size v1 L) := Lib.hid (RowB.sub h1 (fun b hb => Nat.lt_of_lt_of_le hb hb2.size) (fun j cs ⟨x, hx, s, t, he, hs, ht⟩ => ⟨x, hx, s, t, he, RowB.sub hs (fun b hb => Nat.lt_of_lt_of_le hb hb2.size) (fun _ _ h => h), RowB.sub ht (fun b hb => Nat.lt_of_lt_of_le hb hb2.size) (fun _ _ h => h)⟩))
    have HR2 := Lib.hid h2
    clear hb2 hO2 h1 h2 HO1
    refine hK _ _ (HS.out _ HC2.out) ?_
    try simp only [Act.put, pA, pB, pC]
    clear hK K
    refine tk 4 (HS.out _ HC2.out) ?_
    try simp only [Act.put, pA, pB, pC]
    refine tk 5 (HS.out _ HC2.out) ?_
    try simp only [Act.put, pA, pB, pC]
    refine wpAnyH_done (by kernel_rfl) ?_ _
    obtain ⟨E1, cap1, rfl⟩ : ∃ A c, v1 = .slice A L.length c := by obtain ⟨A, c, h, _⟩ := HR1.out; exact ⟨A, c, h⟩
    obtain ⟨E2, cap2, rfl⟩ : ∃ A c, v2 = .slice A L.length c := by obtain ⟨A, c, h, _⟩ := HR2.out; exact ⟨A, c, h⟩
    generalize hn : L.length = n at HR1 HR2 HLEN ⊢
    have HN := Lib.hid hn
    have HB2 : Hid (Below w.heap.size w V2) := Lib.hid (HW1.out.trans (HC2.out.mono HW1.out.size))
    clear hn
    go_wp2_with fail
    go_loopw [9, 10] (fun u i wr => ∃ j k : Nat, u = .int .i64 k ∧ i = .int .i64 j ∧ j ≤ n ∧ Hid (k = ((L.take j).filter (fun x => hB x (sOf a))).length) ∧ Hid (Below V2.heap.size V2 wr)) (fun _ i _ => n - (intOf i).toNat)
    case atStart => exact ⟨0, 0, rfl, rfl, by omega, Lib.hid (by simp), Lib.hid (Below.refl _ _)⟩
    case round =>
      obtain ⟨j, k, rfl, rfl, hj, h0, hwr⟩ := hrel
      have hkj : k ≤ j := by rw [h0.out]; exact Nat.le_trans (List.length_filter_le _ _) (by rw [List.length_take]; omega)
      by_cases hjn : j < n
      · obtain ⟨b, off, x, s1, t1, rfl, hq1, hx1, hs1, ht1, e0, e1⟩ := (HR1.out.on hwr.out).at HN.out hjn
        obtain ⟨b2, off2, y, s2, t2, rfl, hq2, hy2, hs2, ht2, g0, g1⟩ := (HR2.out.on hwr.out).at HN.out hjn
        obtain rfl : x = y := Option.some.inj (hx1.symm.trans hy2)
        have hsz := hwr.out.size
        have HI : Hid (∀ V, Below wr.heap.size wr V → (IntR V (fun b => b < V.heap.size) s1 x.1 ∧ IntR V (fun b => b < V.heap.size) t1 x.2) ∧ IntR V (fun b => b < V.heap.size) s2 x.1 ∧ IntR V (fun b => b < V.heap.size) t2 x.2) := Lib.hid fun V hV => by
          have up : ∀ (s : Value) (p : List Int), IntR wr (fun b => b < V2.heap.size) s p → IntR V (fun b => b < V.heap.size) s p := fun s p h => RowB.sub (h.on (hV.mono hsz)) (fun b hb => by have := hV.size; omega) (fun _ _ h => h)
          exact ⟨⟨up _ _ hs1, up _ _ ht1⟩, up _ _ hs2, up _ _ ht2⟩
        have HX := Lib.hid (And.intro hx1 (HLI.out x (List.mem_of_getElem? hx1)))
        obtain ⟨B1, d1, rfl, _⟩ := hs1.form
        obtain ⟨B2, d2, rfl, _⟩ := ht1.form
        obtain ⟨B3, d3, rfl, _⟩ := hs2.form
        obtain ⟨B4, d4, rfl, _⟩ := ht2.form
        generalize x.1.length = m1 at *
        generalize x.2.length = m2 at *
        have HC : Hid (∀ V, Below wr.heap.size wr V → ((V.cell? ⟨b, off + j * 2, none⟩ = some (.slice B1 m1 d1) ∧ V.cell? ⟨b, off + j * 2 + 1, none⟩ = some (.slice B2 m2 d2)) ∧ V.cell? ⟨b2, off2 + j * 2, none⟩ = some (.slice B3 m1 d3) ∧ V.cell? ⟨b2, off2 + j * 2 + 1, none⟩ = some (.slice B4 m2 d4))) := Lib.hid fun V hV => ⟨⟨(hV.cell (p := ⟨b, _, none⟩) (by show b < _; omega)).trans e0, (hV.cell (p := ⟨b, _, none⟩) (by show b < _; omega)).trans e1⟩, (hV.cell (p := ⟨b2, _, none⟩) (by show b2 < _; omega)).trans g0, (hV.cell (p := ⟨b2, _, none⟩) (by show b2 < _; omega)).trans g1⟩
        have kn : (j : Int) < (n : Int) := by omega
        have k0 : (0 : Int) ≤ (j : Int) := by omega
        have hwj : IntKind.i64.wrap ((j : Int) + 1) = ((j + 1 : Nat) : Int) := by have := HLEN.out; rw [IntWalk.i64_in _ (by omega)]; omega
        have hwk : IntKind.i64.wrap ((k : Int) + 1) = ((k + 1 : Nat) : Int) := by have := HLEN.out; rw [IntWalk.i64_in _ (by omega)]; omega
        have HJ := Lib.hid (And.intro hjn hkj)
        clear hs1 ht1 hs2 ht2 e0 e1 g0 g1 hx1 hy2 hq1 hq2 hsz hjn hj hkj
        go_wp2_with fail
        have HD0 := Lib.hid ((Below.refl wr.heap.size wr).drew)
        refine wp_region_held_drew (S := fun V => ((V.cell? ⟨b, off + j * 2, none⟩ = some (.slice B1 m1 d1) ∧ V.cell? ⟨b, off + j * 2 + 1, none⟩ = some (.slice B2 m2 d2)) ∧ V.cell? ⟨b2, off2 + j * 2, none⟩ = some (.slice B3 m1 d3) ∧ V.cell? ⟨b2, off2 + j * 2 + 1, none⟩ = some (.slice B4 m2 d4))) (by kernel_rfl) (HC.out _ HD0.out) (fun _ => ?_)
        refine tk 0 (HC.out _ HD0.out) ?_
        try simp only [Act.put, pA, pB, pC]
        refine tk 1 (HC.out _ HD0.out) ?_
        try simp only [Act.put, pA, pB, pC]
        refine tk 2 (HC.out _ HD0.out) ?_
        try simp only [Act.put, pA, pB, pC]
        refine tk 3 (HC.out _ HD0.out) ?_
        try simp only [Act.put, pA, pB, pC]
        refine tk 4 (HC.out _ HD0.out) ?_
        try simp only [Act.put, pA, pB, pC]
        refine tk 5 (HC.out _ HD0.out) ?_
        try simp only [Act.put, pA, pB, pC]
        refine tk 6 (HC.out _ HD0.out) ?_
        try simp only [Act.put, pA, pB, pC]
        refine tk 7 (HC.out _ HD0.out) ?_
        try simp only [Act.put, pA, pB, pC]
        refine tk 8 (HC.out _ HD0.out) ?_
        try simp only [Act.put, pA, pB, pC]
        refine tk 9 (HC.out _ HD0.out) ?_
        try simp only [Act.put, pA, pB, pC]
        refine one_op 10 (by kernel_rfl) rfl (by rfl) (fun K hK => ?_)
        go_simp
        refine (ints_any _ _ x.1 x.1 _ (HI.out _ HD0.out).1.1 (HI.out _ HD0.out).2.1).mono ?_
        rintro e V3 ⟨he, hb3⟩
        rw [decide_eq_true rfl] at he
        subst he
        have HD1 := Lib.hid (HD0.out.trans (hb3.mono HD0.out.size))
        clear hb3
        refine hK _ _ (HC.out _ HD1.out) ?_
        try simp only [Act.put, pA, pB, pC]
        clear hK K
        refine tk 11 (HC.out _ HD1.out) ?_
        try simp only [Act.put, pA, pB, pC]
        refine tk 12 (HC.out _ HD1.out) ?_
        try simp only [Act.put, pA, pB, pC]
        refine tk 13 (HC.out _ HD1.out) ?_
        try simp only [Act.put, pA, pB, pC]
        refine tk 14 (HC.out _ HD1.out) ?_
        try simp only [Act.put, pA, pB, pC]
        refine tk 15 (HC.out _ HD1.out) ?_
        try simp only [Act.put, pA, pB, pC]
        refine tk 16 (HC.out _ HD1.out) ?_
        try simp only [Act.put, pA, pB, pC]
        refine tk 17 (HC.out _ HD1.out) ?_
        try simp only [Act.put, pA, pB, pC]
        refine tk 18 (HC.out _ HD1.out) ?_
        try simp only [Act.put, pA, pB, pC]
        refine tk 19 (HC.out _ HD1.out) ?_
        try simp only [Act.put, pA, pB, pC]
        refine tk 20 (HC.out _ HD1.out) ?_
        try simp only [Act.put, pA, pB, pC]
        refine tk 21 (HC.out _ HD1.out) ?_
        try simp only [Act.put, pA, pB, pC]
        refine tk 22 (HC.out _ HD1.out) ?_
        try simp only [Act.put, pA, pB, pC]
        refine one_op 23 (by kernel_rfl) rfl (by rfl) (fun K hK => ?_)
        go_simp
        refine (ints_any _ _ x.2 x.2 _ (HI.out _ HD1.out).1.2 (HI.out _ HD1.out).2.2).mono ?_
        rintro e V4 ⟨he, hb4⟩
        rw [decide_eq_true rfl] at he
        subst he
        have HD2 := Lib.hid (HD1.out.trans (hb4.mono HD1.out.size))
        clear hb4
        refine hK _ _ (HC.out _ HD2.out) ?_
        try simp only [Act.put, pA, pB, pC]
        clear hK K
        refine tk 24 (HC.out _ HD2.out) ?_
        try simp only [Act.put, pA, pB, pC]
        refine tk 25 (HC.out _ HD2.out) ?_
        try simp only [Act.put, pA, pB, pC]
        refine wpAnyH_done (by kernel_rfl) ?_ _
        obtain ⟨⟨y0, y1⟩, _, _⟩ := HC.out _ HD2.out
        go_wp2_with fail
        clear y0 y1
        refine (holdsL_any _ _ x.1 x.2 a HA.out HX.out.2.1 HX.out.2.2 _ (HI.out _ HD2.out).1.1 (HI.out _ HD2.out).1.2).mono ?_
        rintro e V5 ⟨rfl, hb5⟩
        have HD3 := Lib.hid (hwr.out.trans ((HD2.out.trans (hb5.mono HD2.out.size)).mono hwr.out.size))
        have hst := held_step HX.out.1 (sOf a)
        rw [← h0.out] at hst
        have HST := Lib.hid hst
        clear hb5 hst
        generalize hbx : hB (x.1, x.2) (sOf a) = r
        have HBX : Hid (hB x (sOf a) = r) := Lib.hid hbx
        clear hbx
        cases r
        · go_wp2
          go_roundw
          case rel => exact ⟨j + 1, k, rfl, by go_num, by have := HJ.out.1; omega, Lib.hid (by rw [HST.out, HBX.out]; rfl), HD3⟩
          case measure => have := HJ.out.1; simp [intOf]; omega
        · go_wp2
          go_roundw
          case rel => exact ⟨j + 1, k + 1, by go_num, by go_num, by have := HJ.out.1; omega, Lib.hid (by rw [HST.out, HBX.out]; rfl), HD3⟩
          case measure => have := HJ.out.1; simp [intOf]; omega
      · have hkk : k = if fP l (sOf a) then 1 else 0 := by
          rw [h0.out, List.take_of_length_le (by rw [HN.out]; omega), HLF.out]
        have q1 : ¬ (j : Int) < (n : Int) := by omega
        have HBV : Hid (Below W1.heap.size W1 wr) := Lib.hid (HC2.out.trans (hwr.out.mono HC2.out.size))
        obtain ⟨y0, y1⟩ := HS.out _ HBV.out
        have HKK := Lib.hid hkk
        clear hkk hjn hj hkj h0
        go_wp2_with fail
        clear y0 y1 q1
        refine (evaluate_any (HDa.out _ HBV.out) a HA.out).mono ?_
        rintro e V3 ⟨rfl, hb3⟩
        have HZ3 : Hid (Below w.heap.size w V3) := Lib.hid (HW1.out.trans ((HBV.out.trans (hb3.mono HBV.out.size)).mono HW1.out.size))
        have hawk := awake_any V3
        clear hb3
        generalize hff : fP l (sOf a) = r at HKK ⊢
        cases r
        · obtain rfl : k = 0 := by rw [HKK.out]; rfl
          go_wp2_with fail
          refine hawk.mono ?_
          rintro e w' ⟨rfl, hb⟩
          have HZ := Lib.hid (HZ3.out.trans (hb.mono HZ3.out.size))
          clear hb hawk
          go_wp2
          go_ret
          exact ⟨rfl, HZ.out⟩
        · obtain rfl : k = 1 := by rw [HKK.out]; rfl
          go_wp2_with fail
          refine hawk.mono ?_
          rintro e w' ⟨rfl, hb⟩
          have HZ := Lib.hid (HZ3.out.trans (hb.mono HZ3.out.size))
          clear hb hawk
          go_wp2
          go_ret
          exact ⟨rfl, HZ.out⟩
end Go.Proofs.Ytplmbmecjhmiiaa
