/- FromPaths. -/
import Derived.Test.YtplmbmecjhmiiaaDoorDisjA6
import Derived.Test.YtplmbmecjhmiiaaDoorTerms6
import Derived.Test.YtplmbmecjhmiiaaDoorBox6
import Derived.Test.YtplmbmecjhmiiaaDoorAwake6
namespace Go.Proofs.YtplmbmecjhmiiaaDoor
open Go Go.RowKit
/-- what FromPaths gives -/
def FrPost (l : List (List Int × List Int)) (w : World) (e : Ending) (w' : World) : Prop :=
  ((OkP l → ∃ v, e = .returned (.tuple #[v, .int .i64 0]) ∧ Dia (fP l) w' w'.heap.size v) ∧ (¬ OkP l → e = .returned (.tuple #[.agg #[.slice none 0 0, .int .i64 0], .int .i64 1]))) ∧ Below w.heap.size w w'
set_option maxRecDepth 100000 in
set_option maxHeartbeats 6400000 in
theorem fromPaths_any (v : Value) (l : List (List Int × List Int)) (w : World) (h : PthR w w.heap.size v l) (hl : l.length ≤ 1000) (hx : ∀ x, x ∈ l → x.1.length ≤ 1000 ∧ x.2.length ≤ 1000) (hT : TabW w) :
    Calls Tryd.prog 5 #[v] w (FrPost l w) := by
  obtain ⟨W, hW⟩ : ∃ W, W = w.alloc (.cells #[.slice none 0 0, .int .i64 0] 29) := ⟨_, rfl⟩
  have hb : Below w.heap.size w W := by rw [hW]; exact (Below.refl _ _).alloc (Nat.le_refl _) _
  have kr : W.heap[w.heap.size]? = some (.cells #[.slice none 0 0, .int .i64 0] 29 (0, 0)) := by rw [hW]; exact heap_alloc_new w _
  have hz : W.heap.size = w.heap.size + 1 := by rw [hW]; simp
  have hts := termsOf_any v l W (RowB.sub (h.on hb) (fun b hh => by omega) (fun j cs ⟨x, hx, s, t, h0, h1, h2⟩ => ⟨x, hx, s, t, h0, RowB.sub h1 (fun b hb => by omega) (fun _ _ h => h), RowB.sub h2 (fun b hb => by omega) (fun _ _ h => h)⟩)) hl hx
  have HTS := Lib.hid hts
  have HK : Hid (∀ V, Below W.heap.size W V → V.heap[w.heap.size]? = some (.cells #[.slice none 0 0, .int .i64 0] 29 (0, 0)) ∧ Below w.heap.size w V) := Lib.hid fun V hV => ⟨(hV.block _ (by omega)).trans kr, hb.trans (hV.mono (by omega))⟩
  have HL := Lib.hid (And.intro hl (And.intro (hT.on hb) hz))
  have HF : Hid (∀ e w', (OkP l → ∃ v, e = .returned (.tuple #[v, .int .i64 0]) ∧ Dia (fP l) w' w'.heap.size v) → (¬ OkP l → e = .returned (.tuple #[.agg #[.slice none 0 0, .int .i64 0], .int .i64 1])) → Below w.heap.size w w' → FrPost l w e w') := Lib.hid fun e w' a b c => ⟨⟨a, b⟩, c⟩
  generalize hPost : FrPost l w = Post at *
  clear hPost h hl hx hT hb kr hz hts
  go_enter Tryd.func5, Tryd.ntmps5
  go_wp2_with fail
  rw [← hW]
  clear hW
  refine HTS.out.mono ?_
  rintro e V1 hp
  obtain ⟨⟨hok, hno⟩, hb1⟩ := hp
  obtain ⟨kz, hbz⟩ := HK.out _ hb1
  by_cases hc : OkP l
  · obtain ⟨tv, rfl, hO⟩ := hok hc
    have hll := termsL_len l
    have htm := hO.row (by unfold maxLen; have := HL.out.1; omega)
    have hdj := disjunction_any tv (termsL l) V1 htm (termsL_low hc) (by have := HL.out.1; omega) (HL.out.2.1.on hb1)
    rw [termsL_fun hc] at hdj
    have HD := Lib.hid hdj
    have HB1 := Lib.hid hb1
    have HC := Lib.hid hc
    clear hok hno hb1 kz hbz hO hll htm hdj hc
    go_wp2_with fail
    refine HD.out.mono ?_
    rintro e V2 ⟨d, rfl, hD, hb2⟩
    have hb12 := HB1.out.trans (hb2.mono HB1.out.size)
    obtain ⟨kz, hbz⟩ := HK.out _ hb12
    obtain ⟨A, n, c, x, rfl⟩ := hD.form
    obtain ⟨V7, hV7, hF7, hB7, hk7, t0, t1, z0, z1⟩ := box_fill (z := w.heap.size) kz (Nat.le_refl _) hD hbz
    obtain ⟨b7, A7, n7, c7, x7, e7, -, k7, -⟩ := hF7
    have h0 := heap_setCell_same _ _ 0 _ _ (.slice A n c) kz
    have h1 := heap_setCell_same _ _ 1 _ _ (.int .i64 x) h0
    have k8 : V7.heap[w.heap.size]? = some (.cells #[.slice A n c, .int .i64 x] 29 (0, 0)) := by rw [hV7]; simpa using h1
    obtain ⟨f0, f1⟩ := cells2 k8
    have HE := Lib.hid (HF.out (.returned (.tuple #[.agg #[.slice A n c, .int .i64 x], .int .i64 0])) V7 (fun _ => ⟨_, rfl, hk7 _ _ hD⟩) (fun h => absurd HC.out h) hB7)
    clear hD hb2 hb12 kz hbz hB7 hk7 e7 k7 h0 h1 k8
    go_wp2
    rw [← hV7]
    refine bodyPost_ret (v := .tuple #[.agg #[.slice A n c, .int .i64 x], .int .i64 0]) (by simp [results, Tryd.results5, go_sem, f0, f1]) rfl ?_
    exact HE.out
  · obtain rfl := hno hc
    obtain ⟨d0, d1⟩ := cells2 kz
    have z0 := Lib.frozen_of_heap kz 0
    have z1 := Lib.frozen_of_heap kz 1
    obtain ⟨V7, hV7, f0, f1, hb7⟩ := zero_fill kz
    have HE := Lib.hid (HF.out (.returned (.tuple #[.agg #[.slice none 0 0, .int .i64 0], .int .i64 1])) V7 (fun h => absurd h hc) (fun _ => rfl) (hbz.trans hb7))
    clear hok hno hc kz hbz hb7 hb1
    go_wp2
    rw [← hV7]
    refine bodyPost_ret (v := .tuple #[.agg #[.slice none 0 0, .int .i64 0], .int .i64 1]) (by simp [results, Tryd.results5, go_sem, f0, f1]) rfl ?_
    exact HE.out
end Go.Proofs.YtplmbmecjhmiiaaDoor
namespace Go.Proofs.YtplmbmecjhmiiaaDoor
open Go Go.RowKit
set_option maxRecDepth 100000 in
set_option maxHeartbeats 6400000 in
theorem pathsLaw_any (v : Value) (l : List (List Int × List Int)) (w : World) (h : PthR w w.heap.size v l) (hT : TabW w) : Calls Tryd.prog 3 #[v] w fun e w' => e = .returned (.bool true) ∧ Below w.heap.size w w' := by
  have hh := h
  obtain ⟨A, cap, rfl, hmx, _⟩ := hh
  have hmax := hmx.1
  unfold maxLen at hmax
  obtain ⟨n, hn⟩ : ∃ n, n = l.length := ⟨_, rfl⟩
  rw [← hn] at h hmax ⊢
  have HN := Lib.hid (And.intro hn (And.intro hmax hT))
  have HP := Lib.hid h
  clear h hn hmx hmax hT
  by_cases h5 : n ≤ 5
  · have q0 : ¬ (5 : Int) < (n : Int) := by omega
    have H5 := Lib.hid h5
    clear h5
    go_enter Tryd.func3, Tryd.ntmps3
    go_wp2_with fail
    clear q0
    go_loopw [3] (fun i wr => ∃ j : Nat, i = .int .i64 j ∧ j ≤ n ∧ Hid (∀ k x, k < j → l[k]? = some x → x.1.length ≤ 6 ∧ x.2.length ≤ 6) ∧ Hid (Below w.heap.size w wr)) (fun i _ => n - (intOf i).toNat)
    case atStart => exact ⟨0, rfl, by omega, Lib.hid (fun k x hk => absurd hk (by omega)), Lib.hid (Below.refl _ _)⟩
    case round =>
      obtain ⟨j, rfl, hj, h0, hwr⟩ := hrel
      by_cases hjn : j < n
      · obtain ⟨b, off, x, s, t, rfl, hbH, hx, hs, ht, e0, e1⟩ := (HP.out.on hwr.out).at HN.out.1.symm hjn
        have kn : (j : Int) < (n : Int) := by omega
        have k0 : (0 : Int) ≤ (j : Int) := by omega
        have hwj : IntKind.i64.wrap ((j : Int) + 1) = ((j + 1 : Nat) : Int) := by have := H5.out; rw [IntWalk.i64_in _ (by omega)]; omega
        have HX := Lib.hid (And.intro hx hjn)
        obtain ⟨A1, c1, rfl, _⟩ := hs.form
        obtain ⟨A2, c2, rfl, _⟩ := ht.form
        clear hs ht hx hbH hjn hj
        obtain ⟨n1, hn1⟩ : ∃ n1, n1 = x.1.length := ⟨_, rfl⟩
        obtain ⟨n2, hn2⟩ : ∃ n2, n2 = x.2.length := ⟨_, rfl⟩
        rw [← hn1] at e0
        rw [← hn2] at e1
        have HNN := Lib.hid (And.intro hn1 hn2)
        clear hn1 hn2
        by_cases h1 : n1 ≤ 6
        · by_cases h2 : n2 ≤ 6
          · have p1 : ¬ (6 : Int) < (n1 : Int) := by omega
            have p2 : ¬ (6 : Int) < (n2 : Int) := by omega
            have HLE := Lib.hid (And.intro h1 h2)
            clear h1 h2
            go_wp2
            go_roundw
            case rel => exact ⟨j + 1, by go_num, by have := HX.out.2; omega, Lib.hid (fun q y hq hy => by
              rcases Nat.lt_or_eq_of_le (Nat.le_of_lt_succ hq) with h | h
              · exact h0.out q y h hy
              · rw [h, HX.out.1] at hy
                rw [← Option.some.inj hy, ← HNN.out.1, ← HNN.out.2]
                exact HLE.out), hwr⟩
            case measure => have := HX.out.2; simp [intOf]; omega
          · have p1 : ¬ (6 : Int) < (n1 : Int) := by omega
            have p2 : (6 : Int) < (n2 : Int) := by omega
            clear h1 h2
            go_wp2_with fail
            refine (awake_any wr).mono ?_
            rintro e w' ⟨rfl, hb⟩
            have HZ := Lib.hid (hwr.out.trans (hb.mono hwr.out.size))
            clear hb
            go_wp2
            go_ret
            exact ⟨rfl, HZ.out⟩
        · have p1 : (6 : Int) < (n1 : Int) := by omega
          clear h1
          go_wp2_with fail
          refine (awake_any wr).mono ?_
          rintro e w' ⟨rfl, hb⟩
          have HZ := Lib.hid (hwr.out.trans (hb.mono hwr.out.size))
          clear hb
          go_wp2
          go_ret
          exact ⟨rfl, HZ.out⟩
      · have q1 : ¬ (j : Int) < (n : Int) := by omega
        obtain rfl : j = n := by omega
        have HALL : Hid (∀ x, x ∈ l → x.1.length ≤ 6 ∧ x.2.length ≤ 6) := Lib.hid fun x hx => by
          obtain ⟨k, hk⟩ := List.getElem?_of_mem hx
          exact h0.out k x (by have := (List.getElem?_eq_some_iff.1 hk).1; have := HN.out.1; omega) hk
        have hPr : PthR wr wr.heap.size (.slice A j cap) l := RowB.sub (HP.out.on hwr.out) (fun b hb => Nat.lt_of_lt_of_le hb hwr.out.size) (fun j cs ⟨x, hx, s, t, h0, h1, h2⟩ => ⟨x, hx, s, t, h0, RowB.sub h1 (fun b hb => Nat.lt_of_lt_of_le hb hwr.out.size) (fun _ _ h => h), RowB.sub h2 (fun b hb => Nat.lt_of_lt_of_le hb hwr.out.size) (fun _ _ h => h)⟩)
        have HPR : Hid (∀ V, Below wr.heap.size wr V → PthR V V.heap.size (.slice A j cap) l) := Lib.hid fun V hV => RowB.sub (hPr.on hV) (fun b hb => Nat.lt_of_lt_of_le hb hV.size) (fun j cs ⟨x, hx, s, t, h0, h1, h2⟩ => ⟨x, hx, s, t, h0, RowB.sub h1 (fun b hb => Nat.lt_of_lt_of_le hb hV.size) (fun _ _ h => h), RowB.sub h2 (fun b hb => Nat.lt_of_lt_of_le hb hV.size) (fun _ _ h => h)⟩)
        have HL : Hid (l.length ≤ 1000 ∧ (∀ x, x ∈ l → x.1.length ≤ 1000 ∧ x.2.length ≤ 1000) ∧ TabW wr) := Lib.hid ⟨by have := HN.out.1; have := H5.out; omega, fun x hx => by have := HALL.out x hx; omega, HN.out.2.2.on hwr.out⟩
        clear hPr hj hjn
        go_wp2_with fail
        refine (fromPaths_any _ l wr (HPR.out _ (Below.refl _ _)) HL.out.1 HL.out.2.1 HL.out.2.2).mono ?_
        rintro e w1 hp
        obtain ⟨⟨hok, hno⟩, hb1⟩ := hp
        have HB1 := Lib.hid hb1
        by_cases hc : OkP l
        · obtain ⟨d1, rfl, hD1⟩ := hok hc
          obtain ⟨A1, n1, c1, x1, rfl⟩ := hD1.form
          obtain ⟨W1, hW1⟩ : ∃ W1, W1 = w1.alloc (.cells #[.slice A1 n1 c1, .int .i64 x1] 29) := ⟨_, rfl⟩
          have hbW1 : Below w1.heap.size w1 W1 := by rw [hW1]; exact (Below.refl _ _).alloc (Nat.le_refl _) _
          have k1 : W1.heap[w1.heap.size]? = some (.cells #[.slice A1 n1 c1, .int .i64 x1] 29 (0, 0)) := by rw [hW1]; exact heap_alloc_new w1 _
          have HB2 := Lib.hid (hb1.trans (hbW1.mono hb1.size))
          have HD1 : Hid (∀ V, Below W1.heap.size W1 V → Dia (fP l) V V.heap.size (.agg #[.slice A1 n1 c1, .int .i64 x1]) ∧ V.cell? ⟨w1.heap.size, 0, none⟩ = some (.slice A1 n1 c1) ∧ V.cell? ⟨w1.heap.size, 1, none⟩ = some (.int .i64 x1)) := Lib.hid fun V hV => ⟨(hD1.on hbW1 hbW1.size).on hV hV.size, cells2 ((hV.block _ (lt_of_heap k1)).trans k1)⟩
          have HC := Lib.hid hc
          clear hok hno hb1 hc hD1 hbW1 k1
          go_wp2_with fail
          rw [← hW1]
          clear hW1
          refine (ofPaths_any _ l W1 (HPR.out _ HB2.out) HL.out.1 HL.out.2.1).mono ?_
          rintro e w2 hp
          obtain ⟨hok, -, hb2⟩ := hp
          obtain ⟨d2, rfl, hD2⟩ := hok HC.out
          obtain ⟨A2, n2, c2, x2, rfl⟩ := hD2.form
          obtain ⟨W2, hW2⟩ : ∃ W2, W2 = w2.alloc (.cells #[.slice A2 n2 c2, .int .i64 x2] 29) := ⟨_, rfl⟩
          have hbW2 : Below w2.heap.size w2 W2 := by rw [hW2]; exact (Below.refl _ _).alloc (Nat.le_refl _) _
          have k2 : W2.heap[w2.heap.size]? = some (.cells #[.slice A2 n2 c2, .int .i64 x2] 29 (0, 0)) := by rw [hW2]; exact heap_alloc_new w2 _
          have hb22 : Below W1.heap.size W1 W2 := hb2.trans (hbW2.mono hb2.size)
          have HD2 : Hid (∀ V, Below W2.heap.size W2 V → Dia (fP l) V V.heap.size (.agg #[.slice A2 n2 c2, .int .i64 x2]) ∧ V.cell? ⟨w2.heap.size, 0, none⟩ = some (.slice A2 n2 c2) ∧ V.cell? ⟨w2.heap.size, 1, none⟩ = some (.int .i64 x2)) := Lib.hid fun V hV => ⟨(hD2.on hbW2 hbW2.size).on hV hV.size, cells2 ((hV.block _ (lt_of_heap k2)).trans k2)⟩
          have HD1' : Hid (∀ V, Below W2.heap.size W2 V → Dia (fP l) V V.heap.size (.agg #[.slice A1 n1 c1, .int .i64 x1]) ∧ V.cell? ⟨w1.heap.size, 0, none⟩ = some (.slice A1 n1 c1) ∧ V.cell? ⟨w1.heap.size, 1, none⟩ = some (.int .i64 x1)) := Lib.hid fun V hV => HD1.out V (hb22.trans (hV.mono hb22.size))
          have HB3 : Hid (Below w.heap.size w W2) := Lib.hid (hwr.out.trans ((HB2.out.trans (hb22.mono HB2.out.size)).mono hwr.out.size))
          obtain ⟨-, f0, f1⟩ := HD1'.out _ (Below.refl _ W2)
          obtain ⟨-, g0, g1⟩ := HD2.out _ (Below.refl _ W2)
          rw [hW2] at f0 f1 g0 g1
          clear hok hb2 hD2 hbW2 k2 hb22
          go_wp2_with fail
          rw [← hW2]
          clear hW2 f0 f1 g0 g1
          refine (equalD_dia (HD1'.out _ (Below.refl _ W2)).1 (HD2.out _ (Below.refl _ W2)).1 true ⟨fun _ => rfl, fun _ => rfl⟩).mono ?_
          rintro e w3 ⟨rfl, hb3⟩
          have HB4 := Lib.hid hb3
          obtain ⟨-, f0, f1⟩ := HD1'.out _ hb3
          clear hb3
          go_wp2_with fail
          clear f0 f1
          refine (valid_dia (HD1'.out _ HB4.out).1).mono ?_
          rintro e w4 ⟨rfl, hb4⟩
          have HB5 := Lib.hid (HB4.out.trans (hb4.mono HB4.out.size))
          clear hb4
          go_wp2_with fail
          refine (awake_any w4).mono ?_
          rintro e w5 ⟨rfl, hb5⟩
          have HZ := Lib.hid (HB3.out.trans ((HB5.out.trans (hb5.mono HB5.out.size)).mono HB3.out.size))
          clear hb5
          go_wp2
          go_ret
          exact ⟨rfl, HZ.out⟩
        · obtain rfl := hno hc
          obtain ⟨W1, hW1⟩ : ∃ W1, W1 = w1.alloc (.cells #[.slice none 0 0, .int .i64 0] 29) := ⟨_, rfl⟩
          have hbW1 : Below w1.heap.size w1 W1 := by rw [hW1]; exact (Below.refl _ _).alloc (Nat.le_refl _) _
          have k1 : W1.heap[w1.heap.size]? = some (.cells #[.slice none 0 0, .int .i64 0] 29 (0, 0)) := by rw [hW1]; exact heap_alloc_new w1 _
          have HB2 := Lib.hid (hb1.trans (hbW1.mono hb1.size))
          have HD1 : Hid (∀ V, Below W1.heap.size W1 V → V.cell? ⟨w1.heap.size, 0, none⟩ = some (.slice none 0 0) ∧ V.cell? ⟨w1.heap.size, 1, none⟩ = some (.int .i64 0)) := Lib.hid fun V hV => cells2 ((hV.block _ (lt_of_heap k1)).trans k1)
          have HC := Lib.hid hc
          clear hok hno hb1 hc hbW1 k1
          go_wp2_with fail
          rw [← hW1]
          clear hW1
          refine (ofPaths_any _ l W1 (HPR.out _ HB2.out) HL.out.1 HL.out.2.1).mono ?_
          rintro e w2 hp
          obtain ⟨-, hno, hb2⟩ := hp
          obtain rfl := hno HC.out
          obtain ⟨W2, hW2⟩ : ∃ W2, W2 = w2.alloc (.cells #[.slice none 0 0, .int .i64 0] 29) := ⟨_, rfl⟩
          have hbW2 : Below w2.heap.size w2 W2 := by rw [hW2]; exact (Below.refl _ _).alloc (Nat.le_refl _) _
          have hb22 : Below W1.heap.size W1 W2 := hb2.trans (hbW2.mono hb2.size)
          have HB3 : Hid (Below w.heap.size w W2) := Lib.hid (hwr.out.trans ((HB2.out.trans (hb22.mono HB2.out.size)).mono hwr.out.size))
          obtain ⟨f0, f1⟩ := HD1.out _ hb22
          have hawk := Lib.hid (awake_any W2)
          rw [hW2] at f0 f1
          clear hno hb2 hbW2 hb22
          go_wp2_with fail
          rw [← hW2]
          clear hW2 f0 f1
          refine hawk.out.mono ?_
          rintro e w5 ⟨rfl, hb5⟩
          have HZ := Lib.hid (HB3.out.trans (hb5.mono HB3.out.size))
          clear hb5 hawk
          go_wp2
          go_ret
          exact ⟨rfl, HZ.out⟩
  · have q0 : (5 : Int) < (n : Int) := by omega
    clear h5
    go_enter Tryd.func3, Tryd.ntmps3
    go_wp2_with fail
    refine (awake_any w).mono ?_
    rintro e w' ⟨rfl, hb⟩
    have HZ := Lib.hid hb
    clear hb
    go_wp2
    go_ret
    exact ⟨rfl, HZ.out⟩
end Go.Proofs.YtplmbmecjhmiiaaDoor
