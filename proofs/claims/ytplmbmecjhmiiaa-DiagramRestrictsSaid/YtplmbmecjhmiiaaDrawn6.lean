/- drawn. -/
import Derived.Test.YtplmbmecjhmiiaaOfP6
namespace Go.Proofs.Ytplmbmecjhmiiaa
open Go Go.RowKit
/-- paths that are drawn -/
def Dr (l : List (List Int × List Int)) : Prop := l.length ≤ 5 ∧ (∀ x, x ∈ l → x.1.length ≤ 6 ∧ x.2.length ≤ 6) ∧ OkP l
def DrPost (l : List (List Int × List Int)) (w : World) (e : Ending) (w' : World) : Prop :=
  (Dr l → ∃ v, e = .returned (.tuple #[v, .bool true]) ∧ Dia (fP l) w' w'.heap.size v) ∧ (¬ Dr l → e = .returned (.tuple #[.agg #[.slice none 0 0, .int .i64 0], .bool false])) ∧ Below w.heap.size w w'
set_option maxRecDepth 100000 in
set_option maxHeartbeats 6400000 in
theorem drawn_any (v : Value) (l : List (List Int × List Int)) (w : World) (h : PthR w w.heap.size v l) : Calls Try.prog 9 #[v] w (DrPost l w) := by
  have hh := h
  obtain ⟨A, cap, rfl, hmx, _⟩ := hh
  have hmax := hmx.1
  unfold maxLen at hmax
  obtain ⟨W, hW⟩ : ∃ W, W = w.alloc (.cells #[.slice none 0 0, .int .i64 0] 24) := ⟨_, rfl⟩
  have hb : Below w.heap.size w W := by rw [hW]; exact (Below.refl _ _).alloc (Nat.le_refl _) _
  have hz : W.heap.size = w.heap.size + 1 := by rw [hW]; simp
  have kr : W.heap[w.heap.size]? = some (.cells #[.slice none 0 0, .int .i64 0] 24 (0, 0)) := by rw [hW]; exact heap_alloc_new w _
  obtain ⟨n, hn⟩ : ∃ n, n = l.length := ⟨_, rfl⟩
  rw [← hn] at h hmax ⊢
  have HN := Lib.hid (And.intro hn hmax)
  have HP := Lib.hid h
  have HK : Hid (∀ V, Below W.heap.size W V → V.heap[w.heap.size]? = some (.cells #[.slice none 0 0, .int .i64 0] 24 (0, 0)) ∧ Below w.heap.size w V) := Lib.hid fun V hV => ⟨(hV.block _ (by omega)).trans kr, hb.trans (hV.mono (by omega))⟩
  have HF : Hid (∀ e w', (Dr l → ∃ v, e = .returned (.tuple #[v, .bool true]) ∧ Dia (fP l) w' w'.heap.size v) → (¬ Dr l → e = .returned (.tuple #[.agg #[.slice none 0 0, .int .i64 0], .bool false])) → Below w.heap.size w w' → DrPost l w e w') := Lib.hid fun e w' a b c => ⟨a, b, c⟩
  generalize hPost : DrPost l w = Post at *
  clear hPost h hb hz kr hn hmx hmax
  by_cases h5 : n ≤ 5
  · have q0 : ¬ (5 : Int) < (n : Int) := by omega
    have H5 := Lib.hid h5
    clear h5
    go_enter Try.func9, Try.ntmps9
    go_wp2_with fail
    rw [← hW]
    clear hW q0
    go_loopw [4] (fun i wr => ∃ j : Nat, i = .int .i64 j ∧ j ≤ n ∧ Hid (∀ k x, k < j → l[k]? = some x → x.1.length ≤ 6 ∧ x.2.length ≤ 6) ∧ Hid (Below W.heap.size W wr)) (fun i _ => n - (intOf i).toNat)
    case atStart => exact ⟨0, rfl, by omega, Lib.hid (fun k x hk => absurd hk (by omega)), Lib.hid (Below.refl _ _)⟩
    case round =>
      obtain ⟨j, rfl, hj, h0, hwr⟩ := hrel
      by_cases hjn : j < n
      · obtain ⟨b, off, x, s, t, rfl, hbH, hx, hs, ht, e0, e1⟩ := (HP.out.on (HK.out _ hwr.out).2).at HN.out.1.symm hjn
        have kn : (j : Int) < (n : Int) := by omega
        have k0 : (0 : Int) ≤ (j : Int) := by omega
        have hwj : IntKind.i64.wrap ((j : Int) + 1) = ((j + 1 : Nat) : Int) := by have := H5.out; rw [IntWalk.i64_in _ (by omega)]; omega
        have HX := Lib.hid (And.intro hx hjn)
        obtain ⟨A1, c1, rfl, _⟩ := hs.form
        obtain ⟨A2, c2, rfl, _⟩ := ht.form
        clear hs ht hx hbH hjn hj
        have HE1 := Lib.hid (rfl : x.1.length = x.1.length)
        obtain ⟨n1, hn1⟩ : ∃ n1, n1 = x.1.length := ⟨_, rfl⟩
        obtain ⟨n2, hn2⟩ : ∃ n2, n2 = x.2.length := ⟨_, rfl⟩
        rw [← hn1] at e0
        rw [← hn2] at e1
        have HNN := Lib.hid (And.intro hn1 hn2)
        clear hn1 hn2 HE1
        by_cases h1 : n1 ≤ 6
        · by_cases h2 : n2 ≤ 6
          · have p1 : ¬ (6 : Int) < (n1 : Int) := by omega
            have p2 : ¬ (6 : Int) < (n2 : Int) := by omega
            have HLE := Lib.hid (And.intro h1 h2)
            clear h1 h2
            go_wp2
            go_roundw
            case rel => exact ⟨j + 1, by go_num, by have := HX.out.2; omega, Lib.hid (fun q y hq hy => by
              rcases Nat.lt_or_eq_of_le (Nat.le_of_lt_succ hq) with h | h
              · exact h0.out q y h hy
              · rw [h, HX.out.1] at hy
                rw [← Option.some.inj hy, ← HNN.out.1, ← HNN.out.2]
                exact HLE.out), hwr⟩
            case measure => have := HX.out.2; simp [intOf]; omega
          · have p1 : ¬ (6 : Int) < (n1 : Int) := by omega
            have p2 : (6 : Int) < (n2 : Int) := by omega
            have NOK : Dr l → False := fun hd => by have := (hd.2.1 x (List.mem_of_getElem? HX.out.1)).2; have := HNN.out.2; omega
            clear h1 h2
            obtain ⟨kz, hbz⟩ := HK.out _ (hwr.out)
            obtain ⟨d0, d1⟩ := cells2 kz
            have z0 := Lib.frozen_of_heap kz 0
            have z1 := Lib.frozen_of_heap kz 1
            obtain ⟨V7, hV7, f0, f1, hb7⟩ := zero_fill kz
            have HE := Lib.hid (HF.out (.returned (.tuple #[.agg #[.slice none 0 0, .int .i64 0], .bool false])) V7 (fun hok => absurd (NOK hok) id) (fun _ => rfl) (hbz.trans hb7))
            clear kz hbz hb7
            go_wp2
            rw [← hV7]
            refine bodyPost_ret (v := .tuple #[.agg #[.slice none 0 0, .int .i64 0], .bool false]) (by simp [results, Try.results9, go_sem, f0, f1]) rfl ?_
            exact HE.out
        · have p1 : (6 : Int) < (n1 : Int) := by omega
          have NOK : Dr l → False := fun hd => by have := (hd.2.1 x (List.mem_of_getElem? HX.out.1)).1; have := HNN.out.1; omega
          clear h1
          obtain ⟨kz, hbz⟩ := HK.out _ (hwr.out)
          obtain ⟨d0, d1⟩ := cells2 kz
          have z0 := Lib.frozen_of_heap kz 0
          have z1 := Lib.frozen_of_heap kz 1
          obtain ⟨V7, hV7, f0, f1, hb7⟩ := zero_fill kz
          have HE := Lib.hid (HF.out (.returned (.tuple #[.agg #[.slice none 0 0, .int .i64 0], .bool false])) V7 (fun hok => absurd (NOK hok) id) (fun _ => rfl) (hbz.trans hb7))
          clear kz hbz hb7
          go_wp2
          rw [← hV7]
          refine bodyPost_ret (v := .tuple #[.agg #[.slice none 0 0, .int .i64 0], .bool false]) (by simp [results, Try.results9, go_sem, f0, f1]) rfl ?_
          exact HE.out
      · have q1 : ¬ (j : Int) < (n : Int) := by omega
        have hlen : ∀ y, y ∈ l → y.1.length ≤ 6 ∧ y.2.length ≤ 6 := fun y hy => by
          obtain ⟨k, hk, rfl⟩ := List.mem_iff_getElem.1 hy
          exact h0.out k _ (by have := HN.out.1; omega) (List.getElem?_eq_getElem hk)
        obtain ⟨kz, hbw⟩ := HK.out _ hwr.out
        have hsz := hbw.size
        have hP' : PthR wr wr.heap.size (.slice A n cap) l := RowB.sub (HP.out.on hbw) (fun b hb => by omega) (fun j cs ⟨x, hx, s, t, h1, h2, h3⟩ => ⟨x, hx, s, t, h1, RowB.sub h2 (fun b hb => by omega) (fun _ _ h => h), RowB.sub h3 (fun b hb => by omega) (fun _ _ h => h)⟩)
        have hcall := ofPaths_any (.slice A n cap) l wr hP' (by have := HN.out.1; have := H5.out; omega) (fun y hy => by have := hlen y hy; omega)
        have HL := Lib.hid hlen
        have HCALL := Lib.hid hcall
        have HW := Lib.hid (And.intro kz hbw)
        clear hlen hcall hP' hsz kz hbw hj hjn h0
        go_wp2_with fail
        refine HCALL.out.mono ?_
        rintro e V ⟨hok, hno, hbv⟩
        have kz := (hbv.block _ (lt_of_heap HW.out.1)).trans HW.out.1
        have hbz : Below w.heap.size w V := HW.out.2.trans (hbv.mono HW.out.2.size)
        by_cases hO : OkP l
        · obtain ⟨v, rfl, hd⟩ := hok hO
          obtain ⟨A9, n9, c9, x9, rfl⟩ := hd.form
          obtain ⟨d0, d1⟩ := cells2 kz
          have z0 := Lib.frozen_of_heap kz 0
          have z1 := Lib.frozen_of_heap kz 1
          have h0' := heap_setCell_same _ _ 0 _ _ (.slice A9 n9 c9) kz
          have h1' := heap_setCell_same _ _ 1 _ _ (.int .i64 x9) h0'
          obtain ⟨V7, hV7, _, _, hk7, _, _, _, _⟩ := box_fill kz (Nat.le_refl _) hd hbz
          have kr7 : V7.heap[w.heap.size]? = some (.cells #[.slice A9 n9 c9, .int .i64 x9] 24 (0, 0)) := by rw [hV7]; simpa using h1'
          have hb7 : Below w.heap.size w V7 := by rw [hV7]; exact (hbz.setCell (p := ⟨w.heap.size, 0, none⟩) (Nat.le_refl _) _).setCell (p := ⟨w.heap.size, 1, none⟩) (Nat.le_refl _) _
          obtain ⟨f0, f1⟩ := cells2 kr7
          have HE := Lib.hid (HF.out (.returned (.tuple #[.agg #[.slice A9 n9 c9, .int .i64 x9], .bool true])) V7 (fun _ => ⟨_, rfl, hk7 _ _ hd⟩) (fun hnd => absurd (show Dr l from ⟨by have := HN.out.1; have := H5.out; omega, HL.out, hO⟩) hnd) hb7)
          clear hd hbv kz hbz h0' h1' hk7 kr7 hb7 hok hno hO
          go_wp2
          rw [← hV7]
          refine bodyPost_ret (v := .tuple #[.agg #[.slice A9 n9 c9, .int .i64 x9], .bool true]) (by simp [results, Try.results9, go_sem, f0, f1]) rfl ?_
          exact HE.out
        · obtain rfl := hno hO
          have NOK : Dr l → False := fun hd => hO hd.2.2
          obtain ⟨d0, d1⟩ := cells2 kz
          have z0 := Lib.frozen_of_heap kz 0
          have z1 := Lib.frozen_of_heap kz 1
          obtain ⟨V7, hV7, f0, f1, hb7⟩ := zero_fill kz
          have HE := Lib.hid (HF.out (.returned (.tuple #[.agg #[.slice none 0 0, .int .i64 0], .bool false])) V7 (fun hok => absurd (NOK hok) id) (fun _ => rfl) (hbz.trans hb7))
          clear kz hbz hb7 hok hno hbv hO
          go_wp2
          rw [← hV7]
          refine bodyPost_ret (v := .tuple #[.agg #[.slice none 0 0, .int .i64 0], .bool false]) (by simp [results, Try.results9, go_sem, f0, f1]) rfl ?_
          exact HE.out
  · have q0 : (5 : Int) < (n : Int) := by omega
    have NOK : Dr l → False := fun hd => by have := hd.1; have := HN.out.1; omega
    obtain ⟨kz, hbz⟩ := HK.out _ (Below.refl _ W)
    obtain ⟨d0, d1⟩ := cells2 kz
    have z0 := Lib.frozen_of_heap kz 0
    have z1 := Lib.frozen_of_heap kz 1
    obtain ⟨f0, f1⟩ := cells2 kz
    rw [hW] at d0 d1 z0 z1
    have HE := Lib.hid (HF.out (.returned (.tuple #[.agg #[.slice none 0 0, .int .i64 0], .bool false])) W (fun hok => absurd (NOK hok) id) (fun _ => rfl) hbz)
    clear kz hbz h5
    go_enter Try.func9, Try.ntmps9
    go_wp2
    rw [← hW]
    refine bodyPost_ret (v := .tuple #[.agg #[.slice none 0 0, .int .i64 0], .bool false]) (by simp [results, Try.results9, go_sem, f0, f1]) rfl ?_
    exact HE.out
/-- drawn, in one form -/
theorem drawn_one (v : Value) (l : List (List Int × List Int)) (w : World) (h : PthR w w.heap.size v l) : Calls Try.prog 9 #[v] w fun e w' => ∃ A n c x b, e = .returned (.tuple #[.agg #[.slice A n c, .int .i64 x], .bool b]) ∧ (b = true → Dia (fP l) w' w'.heap.size (.agg #[.slice A n c, .int .i64 x])) ∧ (b = true ↔ Dr l) ∧ Below w.heap.size w w' := by
  refine (drawn_any v l w h).mono ?_
  rintro e w' ⟨h1, h2, h3⟩
  by_cases hd : Dr l
  · obtain ⟨v, rfl, hv⟩ := h1 hd
    obtain ⟨A, n, c, x, rfl⟩ := hv.form
    exact ⟨A, n, c, x, true, rfl, fun _ => hv, ⟨fun _ => hd, fun _ => rfl⟩, h3⟩
  · exact ⟨none, 0, 0, 0, false, h2 hd, nofun, ⟨nofun, fun h => absurd h hd⟩, h3⟩
theorem PthR.up {w : World} {H H' : Nat} {v : Value} {l : List (List Int × List Int)} (h : PthR w H v l) (hH : H ≤ H') : PthR w H' v l :=
  RowB.sub h (fun b hb => by omega) (fun j cs ⟨x, hx, s, t, h0, h1, h2⟩ => ⟨x, hx, s, t, h0, RowB.sub h1 (fun b hb => by omega) (fun _ _ h => h), RowB.sub h2 (fun b hb => by omega) (fun _ _ h => h)⟩)
end Go.Proofs.Ytplmbmecjhmiiaa
