/- The walk of the law IdentFresh: it returns true. -/
import Derived.Test.YtjinngobiefifaaDoorFreshPlain
import Derived.Test.YtjinngobiefifaaDoorRefFresh
import Derived.Test.YtjinngobiefifaaDoorAwake
namespace Go.Proofs.YtjinngobiefifaaDoor
open Go.RowKit
theorem iterR_eq : ∀ j, j ≤ 60 → iterR lowA tailA j [97] = iterA j [97] := by
  have h : ∀ j : Fin 61, iterR lowA tailA j.1 [97] = iterA j.1 [97] := by decide +kernel
  exact fun j hj => h ⟨j, by omega⟩
theorem refFreshAtom_any (A : Option Addr) (n cap N : Nat) (ss : List ByteArray) (w : World) (hS : StrS w w.heap.size A n ss) (hn : n ≤ 60) (hN : N ≤ 60)
    (hin : ∀ j, j < N → iterA j [97] ∈ lists ss) (hout : iterA N [97] ∉ lists ss) :
    Calls Tryd.prog 27 #[.slice A n cap] w fun e w' => e = .returned (.string ⟨(iterA N [97]).toArray⟩) ∧ Below w.heap.size w w' := by
  have H := Lib.hid (refFresh0 A n cap N ss w hS (by omega) (fun j hj => by rw [iterR_eq j (by omega)]; exact iterA_len j (by omega)) (fun j hj => by rw [iterR_eq j (by omega)]; exact hin j hj) (by rw [iterR_eq N hN]; exact hout))
  rw [iterR_eq N hN] at H
  clear hS hin hout
  go_enter Tryd.func27, Tryd.ntmps27
  go_wp2_with fail
  refine H.out.mono ?_
  rintro e w1 ⟨rfl, hb⟩
  go_wp2
  go_ret
  exact ⟨rfl, hb⟩
theorem dec_next {ss : List ByteArray} {k : Nat} {x : ByteArray} (l : List UInt8) (h : ss[k]? = some x) (b : Bool) (hb : decide (l ∈ lists (ss.take k)) = b) (c : Bool) (hc : (x.data.toList == l) = c) :
    decide (l ∈ lists (ss.take (k + 1))) = (b || c) := by
  subst hb hc
  rw [lists_snoc ss k x h]
  by_cases h1 : l ∈ lists (ss.take k)
  · simp [h1]
  · by_cases h2 : x.data.toList = l
    · simp [h2]
    · simp [h1, h2, Ne.symm h2]
set_option maxRecDepth 100000 in
set_option maxHeartbeats 3200000 in
theorem identFresh_any (A : Option Addr) (n cap : Nat) (ss : List ByteArray) (s : ByteArray) (w : World) (hS : StrS w w.heap.size A n ss) (hs : s.size ≤ maxLen) (hcap : n ≤ 9223372036854775807) :
    Calls Tryd.prog 8 #[.slice A n cap, .string s] w fun e w' => e = .returned (.bool true) ∧ Below w.heap.size w w' := by
  unfold maxLen at hs
  have HS := Lib.hid hS
  clear hS
  by_cases hn : n ≤ 60
  · obtain ⟨N, hN, hout, hin⟩ := first_free (fun j => iterA j [97]) (lists ss) 60 iterA_nodup (by unfold lists; rw [List.length_map, ← HS.out.1]; exact hn)
    obtain ⟨f, hf⟩ : ∃ f : ByteArray, f = ⟨(iterA N [97]).toArray⟩ := ⟨_, rfl⟩
    have HF := Lib.hid hf
    have a1 := Lib.hid (freshAtom_any A n cap N ss w HS.out (by omega) (fun j hj => iterA_len j (by omega)) hin hout)
    rw [← hf] at a1
    have HIN := Lib.hid hin
    have HOUT := Lib.hid hout
    clear hin hout hf
    go_enter Tryd.func8, Tryd.ntmps8
    go_wp2_with fail
    refine a1.out.mono ?_
    rintro e w1 ⟨rfl, hb1⟩
    have HS1 := Lib.hid (HS.out.below hb1)
    have hsz1 := hb1.size
    go_wp2_with fail
    go_loop [6, 7, 8] (fun p q i => ∃ k : Nat, i = .int .i64 k ∧ k ≤ n ∧ p = .bool (decide (s.data.toList ∈ lists (ss.take k))) ∧ q = .bool (decide (f.data.toList ∈ lists (ss.take k)))) (fun _ _ i => n - (intOf i).toNat)
    case atStart => exact ⟨0, rfl, by omega, by simp [lists], by simp [lists]⟩
    case round =>
      obtain ⟨k, rfl, hk, rfl, rfl⟩ := hrel
      obtain ⟨b1, hb1'⟩ : ∃ b, decide (s.data.toList ∈ lists (ss.take k)) = b := ⟨_, rfl⟩
      obtain ⟨b2, hb2'⟩ : ∃ b, decide (f.data.toList ∈ lists (ss.take k)) = b := ⟨_, rfl⟩
      rw [hb1', hb2']
      have HB1 := Lib.hid hb1'
      have HB2 := Lib.hid hb2'
      clear hb1' hb2'
      by_cases hkn : k < n
      · obtain ⟨b, off, rfl, hbl, hc⟩ := HS1.out.2.2 (by omega)
        obtain ⟨x, hx⟩ : ∃ x, ss[k]? = some x := ⟨ss[k]'(by have := HS1.out.1; omega), List.getElem?_eq_getElem _⟩
        have hcell := hc k x hx
        obtain ⟨c1, hc1⟩ : ∃ c, (x.toList == s.toList) = c := ⟨_, rfl⟩
        obtain ⟨c2, hc2⟩ : ∃ c, (x.toList == f.toList) = c := ⟨_, rfl⟩
        have HN1 := Lib.hid (dec_next s.data.toList hx b1 HB1.out c1 (by rw [← hc1, Lib.toList_data, Lib.toList_data]))
        have HN2 := Lib.hid (dec_next f.data.toList hx b2 HB2.out c2 (by rw [← hc2, Lib.toList_data, Lib.toList_data]))
        clear hc hx
        cases b1 <;> cases b2
        all_goals
          go_wp2
          go_round
          case rel => exact ⟨k + 1, by go_num, by omega, by rw [HN1.out]; rfl, by rw [HN2.out]; rfl⟩
          case measure => simp [intOf]; omega
      · have hke : Hid (ss.take k = ss) := Lib.hid (List.take_of_length_le (by have := HS.out.1; omega))
        obtain rfl : b2 = false := by
          rw [← HB2.out, hke.out, HF.out]; exact decide_eq_false HOUT.out
        have hfa : atomB f.data.toList = true := by rw [HF.out]; exact iterA_atom N hN
        have hfs : f.size ≤ maxLen := by
          rw [HF.out]; show (iterA N [97]).length ≤ maxLen
          have := iterA_len N hN; unfold maxLen; omega
        have A1 := Lib.hid (fun w => refIsAtom_any f w hfs)
        rw [hfa] at A1
        obtain ⟨x, hx⟩ : ∃ x, atomB s.data.toList = x := ⟨_, rfl⟩
        have A2 := Lib.hid (fun w => refIsAtom_any s w (by unfold maxLen; exact hs))
        rw [hx] at A2
        have A3 := Lib.hid (refFreshAtom_any A n cap N ss w1 ⟨HS1.out.1, HS1.out.2.1, fun h => by
          obtain ⟨b, off, h1, h2, h3⟩ := HS1.out.2.2 h
          exact ⟨b, off, h1, by omega, h3⟩⟩ hn hN HIN.out HOUT.out)
        rw [← HF.out] at A3
        have HBF : Hid (x = true → s.size < f.size ∨ s.size = f.size ∧ Op.bytesLess s.toList f.toList = true → b1 = true) := Lib.hid (by
          intro hxt hbf
          rw [hxt] at hx
          have e : f.data.toList = iterA N [97] := by rw [HF.out]
          have e2 : f.size = (iterA N [97]).length := by rw [HF.out]; rfl
          rw [Lib.toList_data, Lib.toList_data, e, e2] at hbf
          have hsl := sizeList s
          obtain ⟨j, hj, hjs⟩ := before_in N hN s.data.toList hx (by rw [hsl]; exact hbf)
          rw [← HB1.out, hke.out]
          exact decide_eq_true (by rw [← hjs]; exact HIN.out j hj))
        clear hx hfa hfs
        cases x
        · by_cases h1 : s.size < f.size
          · go_wp2_with (first | (go_at_call 11; ((with_reducible refine (A1.out _).mono ?_); rintro e w' ⟨rfl, rfl⟩)) | (go_at_call 11; ((with_reducible refine (A2.out _).mono ?_); rintro e w' ⟨rfl, rfl⟩)) | (go_at_call 27; refine A3.out.mono ?_; rintro e w2 ⟨rfl, hb2⟩) | (go_at_call 16; refine (awake_any _).mono ?_; rintro e w3 ⟨rfl, hb3⟩))
            go_ret
            exact ⟨ret_bool (by simp), (hb1.trans (hb2.mono hsz1)).trans (hb3.mono (by have := hb2.size; omega))⟩
          · by_cases h2 : s.size = f.size
            · have h2b : ((s.size : Int) == (f.size : Int)) = true := by rw [beq_iff_eq]; omega
              clear h2
              cases h3 : Op.bytesLess s.toList f.toList
              all_goals
                go_wp2_with (first | (go_at_call 11; ((with_reducible refine (A1.out _).mono ?_); rintro e w' ⟨rfl, rfl⟩)) | (go_at_call 11; ((with_reducible refine (A2.out _).mono ?_); rintro e w' ⟨rfl, rfl⟩)) | (go_at_call 27; refine A3.out.mono ?_; rintro e w2 ⟨rfl, hb2⟩) | (go_at_call 16; refine (awake_any _).mono ?_; rintro e w3 ⟨rfl, hb3⟩))
                go_ret
                exact ⟨ret_bool (by simp), (hb1.trans (hb2.mono hsz1)).trans (hb3.mono (by have := hb2.size; omega))⟩
            · have h2b : ((s.size : Int) == (f.size : Int)) = false := by rw [beq_eq_false_iff_ne]; omega
              go_wp2_with (first | (go_at_call 11; ((with_reducible refine (A1.out _).mono ?_); rintro e w' ⟨rfl, rfl⟩)) | (go_at_call 11; ((with_reducible refine (A2.out _).mono ?_); rintro e w' ⟨rfl, rfl⟩)) | (go_at_call 27; refine A3.out.mono ?_; rintro e w2 ⟨rfl, hb2⟩) | (go_at_call 16; refine (awake_any _).mono ?_; rintro e w3 ⟨rfl, hb3⟩))
              go_ret
              exact ⟨ret_bool (by simp), (hb1.trans (hb2.mono hsz1)).trans (hb3.mono (by have := hb2.size; omega))⟩
        · by_cases h1 : s.size < f.size
          · obtain rfl : b1 = true := HBF.out rfl (.inl h1)
            go_wp2_with (first | (go_at_call 11; ((with_reducible refine (A1.out _).mono ?_); rintro e w' ⟨rfl, rfl⟩)) | (go_at_call 11; ((with_reducible refine (A2.out _).mono ?_); rintro e w' ⟨rfl, rfl⟩)) | (go_at_call 27; refine A3.out.mono ?_; rintro e w2 ⟨rfl, hb2⟩) | (go_at_call 16; refine (awake_any _).mono ?_; rintro e w3 ⟨rfl, hb3⟩))
            go_ret
            exact ⟨ret_bool (by simp), (hb1.trans (hb2.mono hsz1)).trans (hb3.mono (by have := hb2.size; omega))⟩
          · by_cases h2 : s.size = f.size
            · have h2b : ((s.size : Int) == (f.size : Int)) = true := by rw [beq_iff_eq]; omega
              cases h3 : Op.bytesLess s.toList f.toList
              · clear h2
                go_wp2_with (first | (go_at_call 11; ((with_reducible refine (A1.out _).mono ?_); rintro e w' ⟨rfl, rfl⟩)) | (go_at_call 11; ((with_reducible refine (A2.out _).mono ?_); rintro e w' ⟨rfl, rfl⟩)) | (go_at_call 27; refine A3.out.mono ?_; rintro e w2 ⟨rfl, hb2⟩) | (go_at_call 16; refine (awake_any _).mono ?_; rintro e w3 ⟨rfl, hb3⟩))
                go_ret
                exact ⟨ret_bool (by simp), (hb1.trans (hb2.mono hsz1)).trans (hb3.mono (by have := hb2.size; omega))⟩
              · obtain rfl : b1 = true := HBF.out rfl (.inr ⟨h2, h3⟩)
                clear h2
                go_wp2_with (first | (go_at_call 11; ((with_reducible refine (A1.out _).mono ?_); rintro e w' ⟨rfl, rfl⟩)) | (go_at_call 11; ((with_reducible refine (A2.out _).mono ?_); rintro e w' ⟨rfl, rfl⟩)) | (go_at_call 27; refine A3.out.mono ?_; rintro e w2 ⟨rfl, hb2⟩) | (go_at_call 16; refine (awake_any _).mono ?_; rintro e w3 ⟨rfl, hb3⟩))
                go_ret
                exact ⟨ret_bool (by simp), (hb1.trans (hb2.mono hsz1)).trans (hb3.mono (by have := hb2.size; omega))⟩
            · have h2b : ((s.size : Int) == (f.size : Int)) = false := by rw [beq_eq_false_iff_ne]; omega
              go_wp2_with (first | (go_at_call 11; ((with_reducible refine (A1.out _).mono ?_); rintro e w' ⟨rfl, rfl⟩)) | (go_at_call 11; ((with_reducible refine (A2.out _).mono ?_); rintro e w' ⟨rfl, rfl⟩)) | (go_at_call 27; refine A3.out.mono ?_; rintro e w2 ⟨rfl, hb2⟩) | (go_at_call 16; refine (awake_any _).mono ?_; rintro e w3 ⟨rfl, hb3⟩))
              go_ret
              exact ⟨ret_bool (by simp), (hb1.trans (hb2.mono hsz1)).trans (hb3.mono (by have := hb2.size; omega))⟩
  · go_enter Tryd.func8, Tryd.ntmps8
    go_wp2_with fail
    refine (awake_any _).mono ?_
    rintro e w3 ⟨rfl, hb3⟩
    go_wp2
    go_ret
    exact ⟨ret_bool (by simp), hb3⟩
end Go.Proofs.YtjinngobiefifaaDoor
