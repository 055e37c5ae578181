/- The walk of the law LiteralsFirst: it returns true. -/
import Derived.Test.YtkmfpkdcedfgfaaLawKit
import Derived.Test.YtkmfpkdcedfgfaaFirstName
namespace Go.Proofs.Ytkmfpkdcedfgfaa
open Go.RowKit Go.Sort
theorem iterT_shape : ∀ j, j ≤ 60 → (j = 0 ∧ iterT j [] = []) ∨ (1 ≤ j ∧ iterT j [] = [UInt8.ofNat (j - 1)]) := by
  have h : ∀ j : Fin 61, (j.1 = 0 ∧ iterT j.1 [] = []) ∨ (1 ≤ j.1 ∧ iterT j.1 [] = [UInt8.ofNat (j.1 - 1)]) := by decide +kernel
  exact fun j hj => h ⟨j, by omega⟩
/-- in order of length and then bytewise, the texts before the N-th one are the first N -/
theorem before_text (N : Nat) (hN : N ≤ 60) (s : Strg) (hb : befB s (iterT N []) = true) : ∃ j, j < N ∧ iterT j [] = s := by
  unfold befB at hb
  rcases iterT_shape N hN with ⟨rfl, h⟩ | ⟨h1, h⟩
  · rw [h] at hb
    cases s with
    | nil => simp [bl, Op.bytesLess] at hb
    | cons a r => simp at hb
  · rw [h] at hb
    cases s with
    | nil => exact ⟨0, by omega, rfl⟩
    | cons a r =>
      cases r with
      | nil =>
        have hlt : a.toNat < N - 1 := by
          simp [bl, Op.bytesLess] at hb
          have := UInt8.lt_iff_toNat_lt.1 hb
          rw [UInt8.toNat_ofNat'] at this
          omega
        refine ⟨a.toNat + 1, by omega, ?_⟩
        rcases iterT_shape (a.toNat + 1) (by omega) with ⟨h0, _⟩ | ⟨_, h2⟩
        · omega
        · rw [h2]; simp
      | cons b r => simp at hb
theorem first_least {co : Bool} {l : List Strg} {kind : Int} {t s : Strg} {ok : Bool} (hF : FirstR co l kind t ok) (hk : keyB kind s = true) (hi : inN co l s = true) : ok = true ∧ befB s t = false := by
  rcases hF with ⟨h0, h1, _, _⟩ | ⟨_, rfl, rfl, hf⟩ | ⟨_, rfl, hf⟩
  · unfold keyB at hk
    rw [if_neg h0, if_neg h1] at hk
    cases hk
  · refine ⟨rfl, ?_⟩
    have hout : s ∉ l := by
      intro h
      unfold inN at hi
      rw [decide_eq_true h] at hi
      cases hi
    rw [← Bool.not_eq_true]
    intro hb
    apply hout
    rcases hf with ⟨rfl, _, N, hN, rfl, hall, _⟩ | ⟨rfl, _, N, hN, rfl, hall, _⟩ | ⟨_, _, h3⟩
    · have hb' : s.length < (iterA N [97]).length ∨ s.length = (iterA N [97]).length ∧ Op.bytesLess s (iterA N [97]) = true := by
        unfold befB at hb
        simpa [bl] using hb
      obtain ⟨j, hj, rfl⟩ := before_in N hN s (by simpa [keyB] using hk) hb'
      have := hall j hj
      rwa [textsOf_keysOf] at this
    · obtain ⟨j, hj, rfl⟩ := before_text N hN s hb
      have := hall j hj
      rwa [textsOf_keysOf] at this
    · omega
  · have hm : s ∈ l := by
      unfold inN at hi
      by_cases h : s ∈ l
      · exact h
      · rw [decide_eq_false h] at hi; cases hi
    have := best_least kind l s hm hk
    rw [hf] at this
    exact this
set_option maxRecDepth 100000 in
set_option maxHeartbeats 6400000 in
theorem literalsFirst_any (co : Bool) (A : Option Addr) (n c : Nat) (ss : List Strg) (kind : Int) (s : Strg) (w : World) (hR : NmS w w.heap.size A n ss) (hn : n ≤ 9223372036854775807) (hl : s.length ≤ maxLen) :
    Calls Try.prog 7 #[.agg #[.bool co, .slice A n c], .int .i64 kind, .string ⟨s.toArray⟩] w fun e w' => e = .returned (.bool true) ∧ Below w.heap.size w w' := by
  have HR := Lib.hid hR
  obtain ⟨hx1, hx2, hxz, hbW⟩ := boxes2 w (.cells #[.bool co, .slice A n c] 24 (0, 0)) (.cells #[.bool co, .slice A n c] 24 (0, 0))
  have hs := short1_any (w.heap.size + 1) A n c _ (cell1 hx2) hn
  have hb1 := hbW
  by_cases hn1 : n ≤ 40
  · rw [decide_eq_true hn1] at hs
    obtain ⟨t, ok, hF⟩ := firstR_exists co ss kind (by have := hR.1; omega)
    have HKEY := Lib.hid (fun h1 h2 => first_least (s := s) hF h1 h2)
    have HF := Lib.hid hF
    have hval := fun W => refValidKey_any kind ⟨s.toArray⟩ W (by show s.length ≤ maxLen; exact hl)
    rw [show (⟨s.toArray⟩ : ByteArray).data.toList = s by simp] at hval
    obtain ⟨k1, hk1⟩ : ∃ d, keyB kind s = d := ⟨_, rfl⟩
    obtain ⟨d, hd⟩ : ∃ d, inN co ss s = d := ⟨_, rfl⟩
    rw [hk1] at hval
    have HK1 := Lib.hid hk1
    have HD := Lib.hid hd
    clear hk1 hd hF hR hl hx2 hxz
    cases ok
    · go_enter Try.func7, Try.ntmps7
      go_wp2_with (go_at_call 8; refine hs.mono ?_; rintro e w1 ⟨rfl, rfl⟩; refine Hid.out ?_)
      refine Lib.hid ?_
      clear hs hb1
      generalize ((w.alloc (.cells #[.bool co, .slice A n c] 24)).alloc (.cells #[.bool co, .slice A n c] 24)) = W1 at hx1 hbW ⊢
      have g1 := cell0 hx1
      have g2 := cell1 hx1
      have hcc := first_any co A n c ss kind t false W1 (HR.out.on hbW) (by omega) HF.out
      go_wp2_with (go_at_call 25; refine hcc.mono ?_; rintro e w2 ⟨rfl, hbc⟩; refine Hid.out ?_)
      refine Lib.hid ?_
      replace hx1 := (hbc.block _ (heap_lt hx1)).trans hx1
      replace hbW := hbW.trans (hbc.mono hbW.size)
      have g1 := cell0 hx1
      have g2 := cell1 hx1
      clear hbc hcc
      have hcc := firstName_any co A n c ss kind t false w2 (HR.out.on hbW) (by omega) HF.out
      go_wp2_with (go_at_call 26; refine hcc.mono ?_; rintro e w3 ⟨rfl, hbc⟩; refine Hid.out ?_)
      refine Lib.hid ?_
      replace hx1 := (hbc.block _ (heap_lt hx1)).trans hx1
      replace hbW := hbW.trans (hbc.mono hbW.size)
      have g1 := cell0 hx1
      have g2 := cell1 hx1
      clear hbc hcc
      have hv := hval w3
      cases k1
      · have hcc := hv
        go_wp2_with (go_at_call 27; refine hcc.mono ?_; rintro e w4 ⟨rfl, hbc⟩; refine Hid.out ?_)
        refine Lib.hid ?_
        replace hx1 := (hbc.block _ (heap_lt hx1)).trans hx1
        replace hbW := hbW.trans (hbc.mono hbW.size)
        have g1 := cell0 hx1
        have g2 := cell1 hx1
        clear hbc hcc hv
        have HB := Lib.hid hbW
        clear hx1 hbW g1 g2
        by_cases l1 : s.length < t.length
        · have q1 : (s.length : Int) < (t.length : Int) := by omega
          clear l1
          go_wp2_with (go_at_call 9; refine (awake_any _).mono ?_; rintro e w9 ⟨rfl, hb9⟩; refine Hid.out ?_)
          refine Lib.hid ?_
          go_wp2
          go_ret
          exact ⟨rfl, HB.out.trans (hb9.mono HB.out.size)⟩
        · have q1 : ¬ (s.length : Int) < (t.length : Int) := by omega
          by_cases l2 : s.length = t.length
          · have q2 : ((s.length : Int) == (t.length : Int)) = true := by rw [beq_iff_eq]; omega
            by_cases l3 : Op.bytesLess s t = true
            · have q3 := l3
              clear l1 l2 l3
              go_wp2_with (go_at_call 9; refine (awake_any _).mono ?_; rintro e w9 ⟨rfl, hb9⟩; refine Hid.out ?_)
              refine Lib.hid ?_
              go_wp2
              go_ret
              exact ⟨rfl, HB.out.trans (hb9.mono HB.out.size)⟩
            · have q3 : Op.bytesLess s t = false := by simpa using l3
              clear l1 l2 l3
              go_wp2_with (go_at_call 9; refine (awake_any _).mono ?_; rintro e w9 ⟨rfl, hb9⟩; refine Hid.out ?_)
              refine Lib.hid ?_
              go_wp2
              go_ret
              exact ⟨rfl, HB.out.trans (hb9.mono HB.out.size)⟩
          · have q2 : ((s.length : Int) == (t.length : Int)) = false := by rw [beq_eq_false_iff_ne]; omega
            clear l1 l2
            go_wp2_with (go_at_call 9; refine (awake_any _).mono ?_; rintro e w9 ⟨rfl, hb9⟩; refine Hid.out ?_)
            refine Lib.hid ?_
            go_wp2
            go_ret
            exact ⟨rfl, HB.out.trans (hb9.mono HB.out.size)⟩
      · have hcc := hv
        go_wp2_with (go_at_call 27; refine hcc.mono ?_; rintro e w4 ⟨rfl, hbc⟩; refine Hid.out ?_)
        refine Lib.hid ?_
        replace hx1 := (hbc.block _ (heap_lt hx1)).trans hx1
        replace hbW := hbW.trans (hbc.mono hbW.size)
        have g1 := cell0 hx1
        have g2 := cell1 hx1
        clear hbc hcc hv
        cases d
        · have hcc := hasName_as co A n c ss s false w4 (HR.out.on hbW) (by omega) HD.out
          go_wp2_with (go_at_call 18; refine hcc.mono ?_; rintro e w5 ⟨rfl, hbc⟩; refine Hid.out ?_)
          refine Lib.hid ?_
          replace hx1 := (hbc.block _ (heap_lt hx1)).trans hx1
          replace hbW := hbW.trans (hbc.mono hbW.size)
          have g1 := cell0 hx1
          have g2 := cell1 hx1
          clear hbc hcc
          have HB := Lib.hid hbW
          clear hx1 hbW g1 g2
          by_cases l1 : s.length < t.length
          · have q1 : (s.length : Int) < (t.length : Int) := by omega
            clear l1
            go_wp2_with (go_at_call 9; refine (awake_any _).mono ?_; rintro e w9 ⟨rfl, hb9⟩; refine Hid.out ?_)
            refine Lib.hid ?_
            go_wp2
            go_ret
            exact ⟨rfl, HB.out.trans (hb9.mono HB.out.size)⟩
          · have q1 : ¬ (s.length : Int) < (t.length : Int) := by omega
            by_cases l2 : s.length = t.length
            · have q2 : ((s.length : Int) == (t.length : Int)) = true := by rw [beq_iff_eq]; omega
              by_cases l3 : Op.bytesLess s t = true
              · have q3 := l3
                clear l1 l2 l3
                go_wp2_with (go_at_call 9; refine (awake_any _).mono ?_; rintro e w9 ⟨rfl, hb9⟩; refine Hid.out ?_)
                refine Lib.hid ?_
                go_wp2
                go_ret
                exact ⟨rfl, HB.out.trans (hb9.mono HB.out.size)⟩
              · have q3 : Op.bytesLess s t = false := by simpa using l3
                clear l1 l2 l3
                go_wp2_with (go_at_call 9; refine (awake_any _).mono ?_; rintro e w9 ⟨rfl, hb9⟩; refine Hid.out ?_)
                refine Lib.hid ?_
                go_wp2
                go_ret
                exact ⟨rfl, HB.out.trans (hb9.mono HB.out.size)⟩
            · have q2 : ((s.length : Int) == (t.length : Int)) = false := by rw [beq_eq_false_iff_ne]; omega
              clear l1 l2
              go_wp2_with (go_at_call 9; refine (awake_any _).mono ?_; rintro e w9 ⟨rfl, hb9⟩; refine Hid.out ?_)
              refine Lib.hid ?_
              go_wp2
              go_ret
              exact ⟨rfl, HB.out.trans (hb9.mono HB.out.size)⟩
        · exact absurd (HKEY.out HK1.out HD.out).1 nofun
    · go_enter Try.func7, Try.ntmps7
      go_wp2_with (go_at_call 8; refine hs.mono ?_; rintro e w1 ⟨rfl, rfl⟩; refine Hid.out ?_)
      refine Lib.hid ?_
      clear hs hb1
      generalize ((w.alloc (.cells #[.bool co, .slice A n c] 24)).alloc (.cells #[.bool co, .slice A n c] 24)) = W1 at hx1 hbW ⊢
      have g1 := cell0 hx1
      have g2 := cell1 hx1
      have hcc := first_any co A n c ss kind t true W1 (HR.out.on hbW) (by omega) HF.out
      go_wp2_with (go_at_call 25; refine hcc.mono ?_; rintro e w2 ⟨rfl, hbc⟩; refine Hid.out ?_)
      refine Lib.hid ?_
      replace hx1 := (hbc.block _ (heap_lt hx1)).trans hx1
      replace hbW := hbW.trans (hbc.mono hbW.size)
      have g1 := cell0 hx1
      have g2 := cell1 hx1
      clear hbc hcc
      have hcc := firstName_any co A n c ss kind t true w2 (HR.out.on hbW) (by omega) HF.out
      go_wp2_with (go_at_call 26; refine hcc.mono ?_; rintro e w3 ⟨rfl, hbc⟩; refine Hid.out ?_)
      refine Lib.hid ?_
      replace hx1 := (hbc.block _ (heap_lt hx1)).trans hx1
      replace hbW := hbW.trans (hbc.mono hbW.size)
      have g1 := cell0 hx1
      have g2 := cell1 hx1
      clear hbc hcc
      have hv := hval w3
      cases k1
      · have hcc := hv
        go_wp2_with (go_at_call 27; refine hcc.mono ?_; rintro e w4 ⟨rfl, hbc⟩; refine Hid.out ?_)
        refine Lib.hid ?_
        replace hx1 := (hbc.block _ (heap_lt hx1)).trans hx1
        replace hbW := hbW.trans (hbc.mono hbW.size)
        have g1 := cell0 hx1
        have g2 := cell1 hx1
        clear hbc hcc hv
        have HB := Lib.hid hbW
        clear hx1 hbW g1 g2
        by_cases l1 : s.length < t.length
        · have q1 : (s.length : Int) < (t.length : Int) := by omega
          clear l1
          go_wp2_with (go_at_call 9; refine (awake_any _).mono ?_; rintro e w9 ⟨rfl, hb9⟩; refine Hid.out ?_)
          refine Lib.hid ?_
          go_wp2
          go_ret
          exact ⟨rfl, HB.out.trans (hb9.mono HB.out.size)⟩
        · have q1 : ¬ (s.length : Int) < (t.length : Int) := by omega
          by_cases l2 : s.length = t.length
          · have q2 : ((s.length : Int) == (t.length : Int)) = true := by rw [beq_iff_eq]; omega
            by_cases l3 : Op.bytesLess s t = true
            · have q3 := l3
              clear l1 l2 l3
              go_wp2_with (go_at_call 9; refine (awake_any _).mono ?_; rintro e w9 ⟨rfl, hb9⟩; refine Hid.out ?_)
              refine Lib.hid ?_
              go_wp2
              go_ret
              exact ⟨rfl, HB.out.trans (hb9.mono HB.out.size)⟩
            · have q3 : Op.bytesLess s t = false := by simpa using l3
              clear l1 l2 l3
              go_wp2_with (go_at_call 9; refine (awake_any _).mono ?_; rintro e w9 ⟨rfl, hb9⟩; refine Hid.out ?_)
              refine Lib.hid ?_
              go_wp2
              go_ret
              exact ⟨rfl, HB.out.trans (hb9.mono HB.out.size)⟩
          · have q2 : ((s.length : Int) == (t.length : Int)) = false := by rw [beq_eq_false_iff_ne]; omega
            clear l1 l2
            go_wp2_with (go_at_call 9; refine (awake_any _).mono ?_; rintro e w9 ⟨rfl, hb9⟩; refine Hid.out ?_)
            refine Lib.hid ?_
            go_wp2
            go_ret
            exact ⟨rfl, HB.out.trans (hb9.mono HB.out.size)⟩
      · have hcc := hv
        go_wp2_with (go_at_call 27; refine hcc.mono ?_; rintro e w4 ⟨rfl, hbc⟩; refine Hid.out ?_)
        refine Lib.hid ?_
        replace hx1 := (hbc.block _ (heap_lt hx1)).trans hx1
        replace hbW := hbW.trans (hbc.mono hbW.size)
        have g1 := cell0 hx1
        have g2 := cell1 hx1
        clear hbc hcc hv
        cases d
        · have hcc := hasName_as co A n c ss s false w4 (HR.out.on hbW) (by omega) HD.out
          go_wp2_with (go_at_call 18; refine hcc.mono ?_; rintro e w5 ⟨rfl, hbc⟩; refine Hid.out ?_)
          refine Lib.hid ?_
          replace hx1 := (hbc.block _ (heap_lt hx1)).trans hx1
          replace hbW := hbW.trans (hbc.mono hbW.size)
          have g1 := cell0 hx1
          have g2 := cell1 hx1
          clear hbc hcc
          have HB := Lib.hid hbW
          clear hx1 hbW g1 g2
          by_cases l1 : s.length < t.length
          · have q1 : (s.length : Int) < (t.length : Int) := by omega
            clear l1
            go_wp2_with (go_at_call 9; refine (awake_any _).mono ?_; rintro e w9 ⟨rfl, hb9⟩; refine Hid.out ?_)
            refine Lib.hid ?_
            go_wp2
            go_ret
            exact ⟨rfl, HB.out.trans (hb9.mono HB.out.size)⟩
          · have q1 : ¬ (s.length : Int) < (t.length : Int) := by omega
            by_cases l2 : s.length = t.length
            · have q2 : ((s.length : Int) == (t.length : Int)) = true := by rw [beq_iff_eq]; omega
              by_cases l3 : Op.bytesLess s t = true
              · have q3 := l3
                clear l1 l2 l3
                go_wp2_with (go_at_call 9; refine (awake_any _).mono ?_; rintro e w9 ⟨rfl, hb9⟩; refine Hid.out ?_)
                refine Lib.hid ?_
                go_wp2
                go_ret
                exact ⟨rfl, HB.out.trans (hb9.mono HB.out.size)⟩
              · have q3 : Op.bytesLess s t = false := by simpa using l3
                clear l1 l2 l3
                go_wp2_with (go_at_call 9; refine (awake_any _).mono ?_; rintro e w9 ⟨rfl, hb9⟩; refine Hid.out ?_)
                refine Lib.hid ?_
                go_wp2
                go_ret
                exact ⟨rfl, HB.out.trans (hb9.mono HB.out.size)⟩
            · have q2 : ((s.length : Int) == (t.length : Int)) = false := by rw [beq_eq_false_iff_ne]; omega
              clear l1 l2
              go_wp2_with (go_at_call 9; refine (awake_any _).mono ?_; rintro e w9 ⟨rfl, hb9⟩; refine Hid.out ?_)
              refine Lib.hid ?_
              go_wp2
              go_ret
              exact ⟨rfl, HB.out.trans (hb9.mono HB.out.size)⟩
        · have HNB := Lib.hid (HKEY.out HK1.out HD.out).2
          have hcc := hasName_as co A n c ss s true w4 (HR.out.on hbW) (by omega) HD.out
          go_wp2_with (go_at_call 18; refine hcc.mono ?_; rintro e w5 ⟨rfl, hbc⟩; refine Hid.out ?_)
          refine Lib.hid ?_
          replace hx1 := (hbc.block _ (heap_lt hx1)).trans hx1
          replace hbW := hbW.trans (hbc.mono hbW.size)
          have g1 := cell0 hx1
          have g2 := cell1 hx1
          clear hbc hcc
          have HB := Lib.hid hbW
          clear hx1 hbW g1 g2
          by_cases l1 : s.length < t.length
          · have q1 : (s.length : Int) < (t.length : Int) := by omega
            refine absurd (show befB s t = true from ?_) (by rw [HNB.out]; nofun)
            unfold befB; simp [l1]
          · have q1 : ¬ (s.length : Int) < (t.length : Int) := by omega
            by_cases l2 : s.length = t.length
            · have q2 : ((s.length : Int) == (t.length : Int)) = true := by rw [beq_iff_eq]; omega
              by_cases l3 : Op.bytesLess s t = true
              · have q3 := l3
                refine absurd (show befB s t = true from ?_) (by rw [HNB.out]; nofun)
                unfold befB; simp [l2, show bl s t = true from l3]
              · have q3 : Op.bytesLess s t = false := by simpa using l3
                clear l1 l2 l3
                go_wp2_with (go_at_call 9; refine (awake_any _).mono ?_; rintro e w9 ⟨rfl, hb9⟩; refine Hid.out ?_)
                refine Lib.hid ?_
                go_wp2
                go_ret
                exact ⟨rfl, HB.out.trans (hb9.mono HB.out.size)⟩
            · have q2 : ((s.length : Int) == (t.length : Int)) = false := by rw [beq_eq_false_iff_ne]; omega
              clear l1 l2
              go_wp2_with (go_at_call 9; refine (awake_any _).mono ?_; rintro e w9 ⟨rfl, hb9⟩; refine Hid.out ?_)
              refine Lib.hid ?_
              go_wp2
              go_ret
              exact ⟨rfl, HB.out.trans (hb9.mono HB.out.size)⟩
  · rw [decide_eq_false hn1] at hs
    go_enter Try.func7, Try.ntmps7
    go_wp2_with (go_at_call 8; refine hs.mono ?_; rintro e w1 ⟨rfl, rfl⟩; refine Hid.out ?_)
    refine Lib.hid ?_
    go_wp2_with (go_at_call 9; refine (awake_any _).mono ?_; rintro e w2 ⟨rfl, hb2⟩; refine Hid.out ?_)
    refine Lib.hid ?_
    go_wp2
    go_ret
    exact ⟨rfl, hb1.trans (hb2.mono hb1.size)⟩
end Go.Proofs.Ytkmfpkdcedfgfaa
