/- What the document's Sorted returns: the strings in ascending order, each once. Condition: at most 10^6 strings. -/
import Derived.Test.YtcjgaohblaidjaaGreatDoorVb01
import Derived.Test.YtcjgaohblaidjaaGreatDoorVb02
namespace Go.Proofs.YtcjgaohblaidjaaGreatDoor
open Go.RowKit Go.Sort
set_option maxRecDepth 100000 in
set_option maxHeartbeats 3200000 in
theorem sorted_any (A : Option Addr) (n c : Nat) (ss : List Strg) (w : World) (hR : NmS w w.heap.size A n ss) (hn : n ≤ 1000000) :
  Calls Tryz.prog 63 #[.slice A n c] w fun e w' => ∃ A' c', e = .returned (.slice A' (srt ss).length c') ∧ OwnN w' w.heap.size (.slice A' (srt ss).length c') (srt ss) ∧ Below w.heap.size w w' := by
 have HR := Lib.hid hR
 clear hR
 go_enter Tryz.func63, Tryz.ntmps63
 go_wp2_with fail
 go_loopw [3, 4] (fun v i wr => ∃ (k : Nat) (Ao : Option Addr) (cap : Nat) (out : List Strg), i = .int .i64 k ∧ k ≤ n ∧ v = .slice Ao out.length cap ∧ OwnN wr w.heap.size (.slice Ao out.length cap) out ∧ out = srt (ss.take k) ∧ (out.length = 0 → Ao = none ∧ cap = 0) ∧ Below w.heap.size w wr) (fun _ i _ => n - (intOf i).toNat)
 case atStart => exact ⟨0, none, 0, [], rfl, by omega, rfl, OwnN.nil _ _, by rw [List.take_zero]; exact eq_srt asc_nil (fun x => Iff.rfl), fun _ => ⟨rfl, rfl⟩, Below.refl _ _⟩
 case round =>
  obtain ⟨k, Ao, cap, out, rfl, hk, rfl, hO, hout, hnil, hb⟩ := hrel
  have HOU := Lib.hid hout
  have HOO := Lib.hid hO
  have hsr := hb.size
  clear hout
  by_cases hkn : k < n
  ·
   obtain ⟨bs, offs, s, rfl, hbs, hx, hs, cs⟩ := (HR.out.below hb).at hkn
   have HX := Lib.hid hx
   have HSO : Hid (Short out) := Lib.hid (fun x hx => HR.out.2.1 x (List.mem_of_mem_take ((srt_mem _ x).1 (by rw [← HOU.out]; exact hx))))
   have hol : out.length ≤ n := by
    rw [HOU.out]
    exact Nat.le_trans (srt_len _) (Nat.le_trans (take_length_le' _ _) (by have := HR.out.1; omega))
   have HNM := Lib.hid (hO.rng HSO.out)
   have kn : (k : Int) < (n : Int) := by omega
   have k0 : (0 : Int) ≤ (k : Int) := by omega
   clear hx
   by_cases he : out.length = 0
   ·
    obtain ⟨rfl, rfl⟩ := hnil he
    obtain rfl : out = [] := List.eq_nil_of_length_eq_zero he
    clear hnil he hO
    go_wp2_with fail
    go_loopw [5] (fun i wq => i = .int .i64 0 ∧ ∃ q, wq = wr.drewN q) (fun i _ => 0)
    case atStart => exact ⟨rfl, 0, rfl⟩
    case round =>
     obtain ⟨rfl, q, rfl⟩ := hrel
     go_wp2_with fail
     go_quiet (fail)
     go_wp2_with fail
     go_quiet (fail)
     go_wp2_with fail
     have HLO : Hid (∀ y ∈ ([] : List Strg).take 0, bl y s = true) := Lib.hid (by simp)
     have HHI : Hid (∀ z, ([] : List Strg)[0]? = some z → bl s z = true) := Lib.hid (by simp)
     generalize hw1 : wr.drewN _ = w1
     have hb1 : Below wr.heap.size wr w1 := by rw [← hw1]; exact below_drewN (Below.refl _ _) _
     have ho1 : OwnN w1 wr.heap.size (.slice none 0 0) ([] ++ ([] : List Strg).take 0) := OwnN.nil _ _
     clear hw1
     have hz1 := hb1.size
     have HS : ∀ wq, Below wr.heap.size wr wq → wq.cell? ⟨bs, offs + k, none⟩ = some (.string ⟨s.toArray⟩) := fun wq h => (h.cell (p := ⟨bs, offs + k, none⟩) (by show bs < wr.heap.size; omega)).trans cs
     have hbA : Below wr.heap.size wr (w1.drew.alloc (.cells #[.string ⟨s.toArray⟩] 9)) := hb1.drew.alloc (by show wr.heap.size ≤ w1.heap.size; omega) _
     have hlit : OwnN (w1.drew.alloc (.cells #[.string ⟨s.toArray⟩] 9)) w1.heap.size (.slice (some ⟨w1.heap.size, 0, none⟩) 1 1) [s] := OwnN.lit w1.drew w1.heap.size (Nat.le_refl _) [s] _ 1 rfl rfl (by unfold maxLen; simp)
     have hown1 : OwnN (w1.drew.alloc (.cells #[.string ⟨s.toArray⟩] 9)) wr.heap.size (.slice none 0 0) ([] ++ ([] : List Strg).take 0) := ho1.old (((Below.refl _ _).drew).alloc (Nat.le_refl _) _)
     have hlt1 : (([] : List Strg).take 0).length ≤ 0 := take_length_le' _ _
     obtain ⟨v2, w2, hr2, ho2, hg2⟩ := run_app_src hown1 (by have := hbA.size; omega) (some ⟨w1.heap.size, 0, none⟩) 1 1 [s] (hlit.rng (fun x hx => by rw [List.mem_singleton.1 hx]; exact hs)) (by simp only [List.nil_append]; omega) 25
     have hb2 : Below wr.heap.size wr w2 := hbA.grown hg2 (by have := hbA.size; omega) (fun j hj => (hown1.lt j hj).1)
     obtain ⟨v3, w3, hr3, ho3, hg3⟩ := run_app_src (B' := wr.heap.size) ho2 hb2.size (none) (0) (0) ([]) (NmS.nil _ _ _) (by simp <;> omega) 25
     have hb3 : Below wr.heap.size wr w3 := hb2.grown hg3 hb2.size (fun j hj => (ho2.lt j hj).1)
     have HINS := Lib.hid (ins_srt HOU.out HX.out HLO.out HHI.out)
     obtain ⟨A3, c3, rfl⟩ := ho3.form
     have hfin : (([] ++ ([] : List Strg).take 0) ++ [s]) ++ [] = ([] : List Strg).take 0 ++ s :: ([] : List Strg).drop 0 := by simp
     rw [hfin] at ho3 hr3
     rw [HINS.out] at ho3 hr3
     have hlen : ¬ (srt (ss.take (k + 1))).length = 0 := by rw [← HINS.out]; simp
     have HO3 := Lib.hid (ho3.mono hsr)
     have HB3 := Lib.hid (hb.trans (hb3.mono hsr))
     generalize hLL : (srt (ss.take (k + 1))).length = LL at *
     have HLL := Lib.hid hLL
     clear ho1 hlit hown1 ho2 ho3 hg2 hg3 hfin hlt1 hLL
     refine wp_region_held_drew (S := fun wq => wq.cell? ⟨bs, offs + k, none⟩ = some (.string ⟨s.toArray⟩)) (by kernel_rfl) (HS _ hb1.drew) (fun hHeld => ?_)
     refine tk 0 hHeld ?_
     simp only [Act.put, List.setIfInBounds_toArray, List.set_cons_zero, List.set_cons_succ]
     refine tk 1 hHeld ?_
     simp only [Act.put, List.setIfInBounds_toArray, List.set_cons_zero, List.set_cons_succ]
     refine tk 2 hHeld ?_
     simp only [Act.put, List.setIfInBounds_toArray, List.set_cons_zero, List.set_cons_succ]
     refine tk 3 hHeld ?_
     simp only [Act.put, List.setIfInBounds_toArray, List.set_cons_zero, List.set_cons_succ]
     refine tk 4 hHeld ?_
     simp only [Act.put, List.setIfInBounds_toArray, List.set_cons_zero, List.set_cons_succ]
     refine tk 7 hHeld ?_
     simp only [Act.put, List.setIfInBounds_toArray, List.set_cons_zero, List.set_cons_succ]
     refine tk 8 hHeld ?_
     simp only [Act.put, List.setIfInBounds_toArray, List.set_cons_zero, List.set_cons_succ]
     refine tk 9 hHeld ?_
     simp only [Act.put, List.setIfInBounds_toArray, List.set_cons_zero, List.set_cons_succ]
     refine one_op 5 (by kernel_rfl) rfl (by rfl) (fun K hK => ?_)
     go_simp
     refine hK _ _ (HS _ hbA) ?_
     try simp only [Act.put, pA, pB, pC]
     refine one_op 6 (by kernel_rfl) rfl (by rfl) (fun K hK => ?_)
     refine Lib.wp_append_run _ _ _ _ _ rfl _ _ rfl rfl v2 w2 hr2 ?_
     refine hK _ _ (HS _ hb2) ?_
     try simp only [Act.put, pA, pB, pC]
     refine one_op 10 (by kernel_rfl) rfl (by rfl) (fun K hK => ?_)
     refine Lib.wp_append_run _ _ _ _ _ rfl _ _ rfl rfl _ w3 hr3 ?_
     refine hK _ _ (HS _ hb3) ?_
     try simp only [Act.put, pA, pB, pC]
     refine one_op 11 (by kernel_rfl) rfl (by rfl) (fun K hK => ?_)
     go_simp
     refine hK _ _ (HS _ hb3) ?_
     try simp only [Act.put, pA, pB, pC]
     refine wpAnyH_done (by kernel_rfl) ?_ _
     go_wp2_with fail
     go_roundw
     case rel => exact ⟨k + 1, A3, c3, srt (ss.take (k + 1)), by go_num, by omega, by rw [HLL.out], by rw [HLL.out]; exact HO3.out, rfl, fun h => absurd (HLL.out ▸ h) hlen, HB3.out⟩
     case measure => simp [intOf]; omega
   ·
    obtain ⟨g, cap', hv, hBg, hgs, hlc⟩ := hO.formG (by omega)
    injection hv with e1 e2 e3
    subst e1 e3
    clear hnil hO
    go_wp2_with fail
    go_loopw [5] (fun i wq => ∃ p : Nat, i = .int .i64 p ∧ p ≤ out.length ∧ (∀ y ∈ out.take p, bl y s = true) ∧ ∃ q, wq = wr.drewN q) (fun i _ => out.length - (intOf i).toNat)
    case atStart => exact ⟨0, rfl, Nat.zero_le _, by simp, 0, rfl⟩
    case round =>
     obtain ⟨p, rfl, hp, hlo, q, rfl⟩ := hrel
     have HLO := Lib.hid hlo
     have hpc : p ≤ cap := by omega
     have hcz : ¬ cap = 0 := by omega
     clear hlo
     by_cases hpl : p < out.length
     ·
      obtain ⟨g', og', y, hA, hg, hy, hys, cy⟩ := HNM.out.at hpl
      injection hA with hA
      injection hA with e1 e2
      subst e1 e2
      rw [Nat.zero_add] at cy
      have HY := Lib.hid hy
      have pl : (p : Int) < (out.length : Int) := by omega
      have p0 : (0 : Int) ≤ (p : Int) := by omega
      have hcp : ¬ cap = p := by omega
      clear hy
      cases hbl : bl y s
      ·
       have qb : Op.bytesLess y s = false := hbl
       by_cases hys : y = s
       ·
        subst hys
        have qs : (y == y) = true := by simp
        have HT := Lib.hid (skip_srt HOU.out HX.out (List.mem_of_getElem? HY.out))
        go_wp2_with fail
        go_quiet (fail)
        go_wp2_with fail
        go_quiet (fail)
        go_wp2_with fail
        go_roundw
        case rel => exact ⟨k + 1, _, cap, out, by go_num, by omega, rfl, HOO.out, HT.out, fun h => absurd h he, below_drewN hb _⟩
        case measure => simp [intOf]; omega
       ·
        have qs : (y == s) = false := by rw [beq_eq_false_iff_ne]; exact hys
        have HHI : Hid (∀ z, out[p]? = some z → bl s z = true) := Lib.hid (fun z hz => by
         rw [HY.out] at hz
         injection hz with hz
         rw [← hz]
         rcases bl_tri s y with h | h | h
         · exact h
         · exact absurd h.symm hys
         · rw [hbl] at h; cases h)
        clear hbl hys
        go_wp2_with fail
        go_quiet (fail)
        go_wp2_with fail
        go_quiet (fail)
        go_wp2_with (at_builtin; (refine wp_app_src rfl _ _ rfl wr.heap.size wr.heap.size (.slice none 0 0) [] rfl (OwnN.nil _ _) (some ⟨g, 0, none⟩) p _ (out.take p) rfl ((HNM.out.take (by omega)).drewN _) (by simp only [List.length_nil]; omega) (Nat.le_refl _) ?_); intro v1 w1 ho1 hb1'; refine Hid.out ?_)
        refine Lib.hid ?_
        have hb1 : Below wr.heap.size wr w1 := (below_drewN (Below.refl _ _) _).trans hb1'
        clear hb1'
        go_wp2_with fail
        have hz1 := hb1.size
        have HS : ∀ wq, Below wr.heap.size wr wq → wq.cell? ⟨bs, offs + k, none⟩ = some (.string ⟨s.toArray⟩) := fun wq h => (h.cell (p := ⟨bs, offs + k, none⟩) (by show bs < wr.heap.size; omega)).trans cs
        have hbA : Below wr.heap.size wr (w1.drew.alloc (.cells #[.string ⟨s.toArray⟩] 9)) := hb1.drew.alloc (by show wr.heap.size ≤ w1.heap.size; omega) _
        have hlit : OwnN (w1.drew.alloc (.cells #[.string ⟨s.toArray⟩] 9)) w1.heap.size (.slice (some ⟨w1.heap.size, 0, none⟩) 1 1) [s] := OwnN.lit w1.drew w1.heap.size (Nat.le_refl _) [s] _ 1 rfl rfl (by unfold maxLen; simp)
        have hown1 : OwnN (w1.drew.alloc (.cells #[.string ⟨s.toArray⟩] 9)) wr.heap.size v1 ([] ++ out.take p) := ho1.old (((Below.refl _ _).drew).alloc (Nat.le_refl _) _)
        have hlt1 : (out.take p).length ≤ out.length := take_length_le' _ _
        obtain ⟨v2, w2, hr2, ho2, hg2⟩ := run_app_src hown1 (by have := hbA.size; omega) (some ⟨w1.heap.size, 0, none⟩) 1 1 [s] (hlit.rng (fun x hx => by rw [List.mem_singleton.1 hx]; exact hs)) (by simp only [List.nil_append]; omega) 25
        have hb2 : Below wr.heap.size wr w2 := hbA.grown hg2 (by have := hbA.size; omega) (fun j hj => (hown1.lt j hj).1)
        obtain ⟨v3, w3, hr3, ho3, hg3⟩ := run_app_src (B' := wr.heap.size) ho2 hb2.size (some ⟨g, p, none⟩) (out.length - p) (cap - p) (out.drop p) (by have := HNM.out.drop hpl; rw [Nat.zero_add] at this; exact this.below hb2) (by simp <;> omega) 25
        have hb3 : Below wr.heap.size wr w3 := hb2.grown hg3 hb2.size (fun j hj => (ho2.lt j hj).1)
        have HINS := Lib.hid (ins_srt HOU.out HX.out HLO.out HHI.out)
        obtain ⟨A3, c3, rfl⟩ := ho3.form
        have hfin : (([] ++ out.take p) ++ [s]) ++ out.drop p = out.take p ++ s :: out.drop p := by simp
        rw [hfin] at ho3 hr3
        rw [HINS.out] at ho3 hr3
        have hlen : ¬ (srt (ss.take (k + 1))).length = 0 := by rw [← HINS.out]; simp
        have HO3 := Lib.hid (ho3.mono hsr)
        have HB3 := Lib.hid (hb.trans (hb3.mono hsr))
        generalize hLL : (srt (ss.take (k + 1))).length = LL at *
        have HLL := Lib.hid hLL
        clear ho1 hlit hown1 ho2 ho3 hg2 hg3 hfin hlt1 hLL
        refine wp_region_held_drew (S := fun wq => wq.cell? ⟨bs, offs + k, none⟩ = some (.string ⟨s.toArray⟩)) (by kernel_rfl) (HS _ hb1.drew) (fun hHeld => ?_)
        refine tk 0 hHeld ?_
        simp only [Act.put, List.setIfInBounds_toArray, List.set_cons_zero, List.set_cons_succ]
        refine tk 1 hHeld ?_
        simp only [Act.put, List.setIfInBounds_toArray, List.set_cons_zero, List.set_cons_succ]
        refine tk 2 hHeld ?_
        simp only [Act.put, List.setIfInBounds_toArray, List.set_cons_zero, List.set_cons_succ]
        refine tk 3 hHeld ?_
        simp only [Act.put, List.setIfInBounds_toArray, List.set_cons_zero, List.set_cons_succ]
        refine tk 4 hHeld ?_
        simp only [Act.put, List.setIfInBounds_toArray, List.set_cons_zero, List.set_cons_succ]
        refine tk 7 hHeld ?_
        simp only [Act.put, List.setIfInBounds_toArray, List.set_cons_zero, List.set_cons_succ]
        refine tk 8 hHeld ?_
        simp only [Act.put, List.setIfInBounds_toArray, List.set_cons_zero, List.set_cons_succ]
        refine tk 9 hHeld ?_
        simp only [Act.put, List.setIfInBounds_toArray, List.set_cons_zero, List.set_cons_succ]
        refine one_op 5 (by kernel_rfl) rfl (by rfl) (fun K hK => ?_)
        go_simp
        refine hK _ _ (HS _ hbA) ?_
        try simp only [Act.put, pA, pB, pC]
        refine one_op 6 (by kernel_rfl) rfl (by rfl) (fun K hK => ?_)
        refine Lib.wp_append_run _ _ _ _ _ rfl _ _ rfl rfl v2 w2 hr2 ?_
        refine hK _ _ (HS _ hb2) ?_
        try simp only [Act.put, pA, pB, pC]
        refine one_op 10 (by kernel_rfl) rfl (by rfl) (fun K hK => ?_)
        refine Lib.wp_append_run _ _ _ _ _ rfl _ _ rfl rfl _ w3 hr3 ?_
        refine hK _ _ (HS _ hb3) ?_
        try simp only [Act.put, pA, pB, pC]
        refine one_op 11 (by kernel_rfl) rfl (by rfl) (fun K hK => ?_)
        go_simp
        refine hK _ _ (HS _ hb3) ?_
        try simp only [Act.put, pA, pB, pC]
        refine wpAnyH_done (by kernel_rfl) ?_ _
        go_wp2_with fail
        go_roundw
        case rel => exact ⟨k + 1, A3, c3, srt (ss.take (k + 1)), by go_num, by omega, by rw [HLL.out], by rw [HLL.out]; exact HO3.out, rfl, fun h => absurd (HLL.out ▸ h) hlen, HB3.out⟩
        case measure => simp [intOf]; omega
      ·
       have qb : Op.bytesLess y s = true := hbl
       have HT : Hid (∀ z ∈ out.take (p + 1), bl z s = true) := Lib.hid (fun z hz => by
        rw [List.take_add_one, HY.out] at hz
        rcases List.mem_append.1 hz with hz | hz
        · exact HLO.out z hz
        ·
         obtain rfl : z = y := by simpa using hz
         exact hbl)
       clear hbl
       go_wp2_with fail
       go_quiet (fail)
       go_wp2_with fail
       go_roundw
       case rel => exact ⟨p + 1, by go_num, by omega, HT.out, _, by first | rfl | rw [World.drewN_drewN]⟩
       case measure => simp [intOf]; omega
     ·
      have pl : decide ((p : Int) < (out.length : Int)) = false := by simpa using hpl
      obtain rfl : p = out.length := by omega
      have HHI : Hid (∀ z, out[out.length]? = some z → bl s z = true) := Lib.hid (fun z hz => by simp at hz)
      by_cases hcp : cap = out.length
      ·
       go_wp2_with fail
       go_quiet (fail)
       go_wp2_with fail
       go_quiet (fail)
       go_wp2_with (at_builtin; (refine wp_app_src rfl _ _ rfl wr.heap.size wr.heap.size (.slice none 0 0) [] rfl (OwnN.nil _ _) (some ⟨g, 0, none⟩) out.length _ (out.take out.length) rfl ((HNM.out.take (by omega)).drewN _) (by simp only [List.length_nil]; omega) (Nat.le_refl _) ?_); intro v1 w1 ho1 hb1'; refine Hid.out ?_)
       refine Lib.hid ?_
       have hb1 : Below wr.heap.size wr w1 := (below_drewN (Below.refl _ _) _).trans hb1'
       clear hb1'
       go_wp2_with fail
       have hz1 := hb1.size
       have HS : ∀ wq, Below wr.heap.size wr wq → wq.cell? ⟨bs, offs + k, none⟩ = some (.string ⟨s.toArray⟩) := fun wq h => (h.cell (p := ⟨bs, offs + k, none⟩) (by show bs < wr.heap.size; omega)).trans cs
       have hbA : Below wr.heap.size wr (w1.drew.alloc (.cells #[.string ⟨s.toArray⟩] 9)) := hb1.drew.alloc (by show wr.heap.size ≤ w1.heap.size; omega) _
       have hlit : OwnN (w1.drew.alloc (.cells #[.string ⟨s.toArray⟩] 9)) w1.heap.size (.slice (some ⟨w1.heap.size, 0, none⟩) 1 1) [s] := OwnN.lit w1.drew w1.heap.size (Nat.le_refl _) [s] _ 1 rfl rfl (by unfold maxLen; simp)
       have hown1 : OwnN (w1.drew.alloc (.cells #[.string ⟨s.toArray⟩] 9)) wr.heap.size v1 ([] ++ out.take out.length) := ho1.old (((Below.refl _ _).drew).alloc (Nat.le_refl _) _)
       have hlt1 : (out.take out.length).length ≤ out.length := take_length_le' _ _
       obtain ⟨v2, w2, hr2, ho2, hg2⟩ := run_app_src hown1 (by have := hbA.size; omega) (some ⟨w1.heap.size, 0, none⟩) 1 1 [s] (hlit.rng (fun x hx => by rw [List.mem_singleton.1 hx]; exact hs)) (by simp only [List.nil_append]; omega) 25
       have hb2 : Below wr.heap.size wr w2 := hbA.grown hg2 (by have := hbA.size; omega) (fun j hj => (hown1.lt j hj).1)
       obtain ⟨v3, w3, hr3, ho3, hg3⟩ := run_app_src (B' := wr.heap.size) ho2 hb2.size (some ⟨g, 0, none⟩) (0) (0) ([]) (NmS.nil _ _ _) (by simp <;> omega) 25
       have hb3 : Below wr.heap.size wr w3 := hb2.grown hg3 hb2.size (fun j hj => (ho2.lt j hj).1)
       have HINS := Lib.hid (ins_srt HOU.out HX.out HLO.out HHI.out)
       obtain ⟨A3, c3, rfl⟩ := ho3.form
       have hfin : (([] ++ out.take out.length) ++ [s]) ++ [] = out.take out.length ++ s :: out.drop out.length := by simp
       rw [hfin] at ho3 hr3
       rw [HINS.out] at ho3 hr3
       have hlen : ¬ (srt (ss.take (k + 1))).length = 0 := by rw [← HINS.out]; simp
       have HO3 := Lib.hid (ho3.mono hsr)
       have HB3 := Lib.hid (hb.trans (hb3.mono hsr))
       generalize hLL : (srt (ss.take (k + 1))).length = LL at *
       have HLL := Lib.hid hLL
       clear ho1 hlit hown1 ho2 ho3 hg2 hg3 hfin hlt1 hLL
       refine wp_region_held_drew (S := fun wq => wq.cell? ⟨bs, offs + k, none⟩ = some (.string ⟨s.toArray⟩)) (by kernel_rfl) (HS _ hb1.drew) (fun hHeld => ?_)
       refine tk 0 hHeld ?_
       simp only [Act.put, List.setIfInBounds_toArray, List.set_cons_zero, List.set_cons_succ]
       refine tk 1 hHeld ?_
       simp only [Act.put, List.setIfInBounds_toArray, List.set_cons_zero, List.set_cons_succ]
       refine tk 2 hHeld ?_
       simp only [Act.put, List.setIfInBounds_toArray, List.set_cons_zero, List.set_cons_succ]
       refine tk 3 hHeld ?_
       simp only [Act.put, List.setIfInBounds_toArray, List.set_cons_zero, List.set_cons_succ]
       refine tk 4 hHeld ?_
       simp only [Act.put, List.setIfInBounds_toArray, List.set_cons_zero, List.set_cons_succ]
       refine tk 7 hHeld ?_
       simp only [Act.put, List.setIfInBounds_toArray, List.set_cons_zero, List.set_cons_succ]
       refine tk 8 hHeld ?_
       simp only [Act.put, List.setIfInBounds_toArray, List.set_cons_zero, List.set_cons_succ]
       refine tk 9 hHeld ?_
       simp only [Act.put, List.setIfInBounds_toArray, List.set_cons_zero, List.set_cons_succ]
       refine one_op 5 (by kernel_rfl) rfl (by rfl) (fun K hK => ?_)
       go_simp
       refine hK _ _ (HS _ hbA) ?_
       try simp only [Act.put, pA, pB, pC]
       refine one_op 6 (by kernel_rfl) rfl (by rfl) (fun K hK => ?_)
       refine Lib.wp_append_run _ _ _ _ _ rfl _ _ rfl rfl v2 w2 hr2 ?_
       refine hK _ _ (HS _ hb2) ?_
       try simp only [Act.put, pA, pB, pC]
       refine one_op 10 (by kernel_rfl) rfl (by rfl) (fun K hK => ?_)
       refine Lib.wp_append_run _ _ _ _ _ rfl _ _ rfl rfl _ w3 hr3 ?_
       refine hK _ _ (HS _ hb3) ?_
       try simp only [Act.put, pA, pB, pC]
       refine one_op 11 (by kernel_rfl) rfl (by rfl) (fun K hK => ?_)
       go_simp
       refine hK _ _ (HS _ hb3) ?_
       try simp only [Act.put, pA, pB, pC]
       refine wpAnyH_done (by kernel_rfl) ?_ _
       go_wp2_with fail
       go_roundw
       case rel => exact ⟨k + 1, A3, c3, srt (ss.take (k + 1)), by go_num, by omega, by rw [HLL.out], by rw [HLL.out]; exact HO3.out, rfl, fun h => absurd (HLL.out ▸ h) hlen, HB3.out⟩
       case measure => simp [intOf]; omega
      ·
       go_wp2_with fail
       go_quiet (fail)
       go_wp2_with fail
       go_quiet (fail)
       go_wp2_with (at_builtin; (refine wp_app_src rfl _ _ rfl wr.heap.size wr.heap.size (.slice none 0 0) [] rfl (OwnN.nil _ _) (some ⟨g, 0, none⟩) out.length _ (out.take out.length) rfl ((HNM.out.take (by omega)).drewN _) (by simp only [List.length_nil]; omega) (Nat.le_refl _) ?_); intro v1 w1 ho1 hb1'; refine Hid.out ?_)
       refine Lib.hid ?_
       have hb1 : Below wr.heap.size wr w1 := (below_drewN (Below.refl _ _) _).trans hb1'
       clear hb1'
       go_wp2_with fail
       have hz1 := hb1.size
       have HS : ∀ wq, Below wr.heap.size wr wq → wq.cell? ⟨bs, offs + k, none⟩ = some (.string ⟨s.toArray⟩) := fun wq h => (h.cell (p := ⟨bs, offs + k, none⟩) (by show bs < wr.heap.size; omega)).trans cs
       have hbA : Below wr.heap.size wr (w1.drew.alloc (.cells #[.string ⟨s.toArray⟩] 9)) := hb1.drew.alloc (by show wr.heap.size ≤ w1.heap.size; omega) _
       have hlit : OwnN (w1.drew.alloc (.cells #[.string ⟨s.toArray⟩] 9)) w1.heap.size (.slice (some ⟨w1.heap.size, 0, none⟩) 1 1) [s] := OwnN.lit w1.drew w1.heap.size (Nat.le_refl _) [s] _ 1 rfl rfl (by unfold maxLen; simp)
       have hown1 : OwnN (w1.drew.alloc (.cells #[.string ⟨s.toArray⟩] 9)) wr.heap.size v1 ([] ++ out.take out.length) := ho1.old (((Below.refl _ _).drew).alloc (Nat.le_refl _) _)
       have hlt1 : (out.take out.length).length ≤ out.length := take_length_le' _ _
       obtain ⟨v2, w2, hr2, ho2, hg2⟩ := run_app_src hown1 (by have := hbA.size; omega) (some ⟨w1.heap.size, 0, none⟩) 1 1 [s] (hlit.rng (fun x hx => by rw [List.mem_singleton.1 hx]; exact hs)) (by simp only [List.nil_append]; omega) 25
       have hb2 : Below wr.heap.size wr w2 := hbA.grown hg2 (by have := hbA.size; omega) (fun j hj => (hown1.lt j hj).1)
       obtain ⟨v3, w3, hr3, ho3, hg3⟩ := run_app_src (B' := wr.heap.size) ho2 hb2.size (some ⟨g, out.length, none⟩) (0) (cap - out.length) ([]) (NmS.nil _ _ _) (by simp <;> omega) 25
       have hb3 : Below wr.heap.size wr w3 := hb2.grown hg3 hb2.size (fun j hj => (ho2.lt j hj).1)
       have HINS := Lib.hid (ins_srt HOU.out HX.out HLO.out HHI.out)
       obtain ⟨A3, c3, rfl⟩ := ho3.form
       have hfin : (([] ++ out.take out.length) ++ [s]) ++ [] = out.take out.length ++ s :: out.drop out.length := by simp
       rw [hfin] at ho3 hr3
       rw [HINS.out] at ho3 hr3
       have hlen : ¬ (srt (ss.take (k + 1))).length = 0 := by rw [← HINS.out]; simp
       have HO3 := Lib.hid (ho3.mono hsr)
       have HB3 := Lib.hid (hb.trans (hb3.mono hsr))
       generalize hLL : (srt (ss.take (k + 1))).length = LL at *
       have HLL := Lib.hid hLL
       clear ho1 hlit hown1 ho2 ho3 hg2 hg3 hfin hlt1 hLL
       refine wp_region_held_drew (S := fun wq => wq.cell? ⟨bs, offs + k, none⟩ = some (.string ⟨s.toArray⟩)) (by kernel_rfl) (HS _ hb1.drew) (fun hHeld => ?_)
       refine tk 0 hHeld ?_
       simp only [Act.put, List.setIfInBounds_toArray, List.set_cons_zero, List.set_cons_succ]
       refine tk 1 hHeld ?_
       simp only [Act.put, List.setIfInBounds_toArray, List.set_cons_zero, List.set_cons_succ]
       refine tk 2 hHeld ?_
       simp only [Act.put, List.setIfInBounds_toArray, List.set_cons_zero, List.set_cons_succ]
       refine tk 3 hHeld ?_
       simp only [Act.put, List.setIfInBounds_toArray, List.set_cons_zero, List.set_cons_succ]
       refine tk 4 hHeld ?_
       simp only [Act.put, List.setIfInBounds_toArray, List.set_cons_zero, List.set_cons_succ]
       refine tk 7 hHeld ?_
       simp only [Act.put, List.setIfInBounds_toArray, List.set_cons_zero, List.set_cons_succ]
       refine tk 8 hHeld ?_
       simp only [Act.put, List.setIfInBounds_toArray, List.set_cons_zero, List.set_cons_succ]
       refine tk 9 hHeld ?_
       simp only [Act.put, List.setIfInBounds_toArray, List.set_cons_zero, List.set_cons_succ]
       refine one_op 5 (by kernel_rfl) rfl (by rfl) (fun K hK => ?_)
       go_simp
       refine hK _ _ (HS _ hbA) ?_
       try simp only [Act.put, pA, pB, pC]
       refine one_op 6 (by kernel_rfl) rfl (by rfl) (fun K hK => ?_)
       refine Lib.wp_append_run _ _ _ _ _ rfl _ _ rfl rfl v2 w2 hr2 ?_
       refine hK _ _ (HS _ hb2) ?_
       try simp only [Act.put, pA, pB, pC]
       refine one_op 10 (by kernel_rfl) rfl (by rfl) (fun K hK => ?_)
       refine Lib.wp_append_run _ _ _ _ _ rfl _ _ rfl rfl _ w3 hr3 ?_
       refine hK _ _ (HS _ hb3) ?_
       try simp only [Act.put, pA, pB, pC]
       refine one_op 11 (by kernel_rfl) rfl (by rfl) (fun K hK => ?_)
       go_simp
       refine hK _ _ (HS _ hb3) ?_
       try simp only [Act.put, pA, pB, pC]
       refine wpAnyH_done (by kernel_rfl) ?_ _
       go_wp2_with fail
       go_roundw
       case rel => exact ⟨k + 1, A3, c3, srt (ss.take (k + 1)), by go_num, by omega, by rw [HLL.out], by rw [HLL.out]; exact HO3.out, rfl, fun h => absurd (HLL.out ▸ h) hlen, HB3.out⟩
       case measure => simp [intOf]; omega
  ·
   have hke : Hid (ss.take k = ss) := Lib.hid (List.take_of_length_le (by have := HR.out.1; omega))
   rw [hke.out] at HOU
   have HOF := Lib.hid (show out = srt ss from HOU.out)
   go_wp2
   go_ret
   have h1 := HOF.out
   subst h1
   exact ⟨_, _, rfl, HOO.out, hb⟩
end Go.Proofs.YtcjgaohblaidjaaGreatDoor
