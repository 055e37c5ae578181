/- Map of the program: the keys in ascending order, each value at its key. -/
import Derived.Test.YtjfknigiehggkaaGreatVm14
import Derived.Test.YtjfknigiehggkaaGreatVm15
import Derived.Test.YtjfknigiehggkaaGreatVm23
import Derived.Test.YtjfknigiehggkaaGreatVm25
import Derived.Test.YtjfknigiehggkaaGreatVm26
namespace Go.Proofs.YtjfknigiehggkaaGreat
open Go Go.RowKit
/-- as wpAnyH_par, but where b is full, the rest of the region is walked as the caller says -/
theorem wpAnyH_parTo {P : Program} {md : Region.Mode} {ops : Array Oper} {Q : Exit → Act → World → Prop} {S : World → Prop} {Bs : Type} (L : Bs → Array Bool) (chk : Bs → Nat → Bool) (full : Bs → Bool) (rest : Nat)
    (hkey : ∀ b, full b = false → (Region.ready md ops (L b)).all (chk b) = true) (hne : ∀ b, full b = false → (Region.ready md ops (L b)).isEmpty = false) (hrest : ∀ b, full b = true → rest ≤ (L b).toList.countP (· == false)) (Inv : Bs → Act → World → Prop)
    (hend : ∀ b a w fuel, full b = true → Inv b a w → rest ≤ fuel → wpAnyH P md ops Q S fuel (L b) a w)
    (hstep : ∀ b a w i, Inv b a w → chk b i = true → wpOp P ops Q i (fun a' w' => S w' ∧ ∃ b', L b' = (L b).setIfInBounds i true ∧ Inv b' a' w') a w)
    {fuel : Nat} {listed : Array Bool} {a : Act} {w : World} (b : Bs) (hl : listed = L b) (hc : listed.toList.countP (· == false) ≤ fuel) (h : Inv b a w) : wpAnyH P md ops Q S fuel listed a w := by
  subst hl
  induction fuel generalizing b a w with
  | zero =>
    cases hf : full b with
    | true => exact hend b a w 0 hf h (Nat.le_trans (hrest b hf) hc)
    | false =>
      have h0 := hne b hf
      have hr : Region.ready md ops (L b) = [] := by
        rw [List.eq_nil_iff_forall_not_mem]
        intro i hi
        have := count_set (mem_ready.1 hi).1
        omega
      rw [hr] at h0
      cases h0
  | succ fuel ih =>
    cases hf : full b with
    | true => exact hend b a w (fuel + 1) hf h (Nat.le_trans (hrest b hf) hc)
    | false =>
      refine ⟨fun hr => ?_, fun i hi => ?_⟩
      · have h0 := hne b hf
        rw [hr] at h0
        cases h0
      · refine wpOp_mono (fun a' w' ⟨hS, b', hb', h'⟩ => ⟨hS, ?_⟩) (hstep b a w i h (List.all_eq_true.1 (hkey b hf) i hi))
        rw [← hb']
        refine ih b' h' ?_
        rw [hb']
        have := count_set (mem_ready.1 hi).1
        omega
theorem pick_pw {keys : List (Int × List UInt8)} {ps : List Nat} (h : ps.Pairwise fun a b => ∀ x y, keys[a]? = some x → keys[b]? = some y → ¬ cmpK y x < 0) : (pick keys ps).Pairwise fun a b => ¬ cmpK b a < 0 :=
  List.pairwise_filterMap.2 (h.imp fun {a b} hab x hx y hy => hab x y hx hy)
theorem RowB.cell1 {w : World} {B : Nat → Prop} {g n cap j : Nat} {R : Nat → List Value → Prop} (h : RowB w B 1 (.slice (some ⟨g, 0, none⟩) n cap) n R) (hj : j < n) : ∃ x0, R j [x0] ∧ w.cell? ⟨g, j, none⟩ = some x0 ∧ B g ∧ g < w.heap.size := by
  obtain ⟨A, cap', h1, _, h3⟩ := h
  injection h1 with h1
  obtain ⟨b, off, h4, h5, h6, h7⟩ := h3 (by omega)
  rw [h4] at h1
  injection h1 with h1
  injection h1 with g1 g2
  subst g1 g2
  obtain ⟨cs, h8, h9, h10⟩ := h7 j hj
  match cs, h8 with
  | [x0], _ => exact ⟨x0, h10, by simpa using h9 0 (by omega), h5, h6⟩
set_option maxRecDepth 100000 in
set_option maxHeartbeats 12800000 in
theorem mapP_any (k : Nat) (A : Option Addr) (c : Nat) (keys : List (Int × List UInt8)) (A' : Option Addr) (c' : Nat) (l : List Vl) (w : World) (hK : RowP w w.heap.size 2 (.slice A keys.length c) keys.length (fun j cs => ∃ x, keys[j]? = some x ∧ kyC x cs))
    (hL : RowP w w.heap.size 7 (.slice A' l.length c') l.length (fun j cs => ∃ x, l[j]? = some x ∧ VS k w w.heap.size x cs)) (hn : keys.length ≤ 100000) (hs : smlVs l) :
    Calls Tryz.prog 27 #[.slice A keys.length c, .slice A' l.length c'] w (MapR k w.heap.size keys l w) := by
  have egv := enters_of Tryz.func55 (by kernel_rfl) rfl
  have HALL : Hid (∀ V, Below w.heap.size w V → Calls Tryz.prog 54 #[.slice A keys.length c, .func (.func 55) #[] #[]] V fun e w' => e = .returned (.bool (keysB keys)) ∧ Below V.heap.size V w') := Lib.hid fun V hV => all2 _ egv (fun x => keyB x.1 x.2) A c keys V (Lib.hid fun x U hx => validKeyL_any x U hx.2) ((hK.on hV fun _ _ h => h).mono hV.size fun _ _ h => h)
  have HPL : Hid (∀ V, Below w.heap.size w V → Calls Tryz.prog 56 #[.slice A keys.length c] V fun e w' => ∃ g : Nat, e = .returned (.slice (some ⟨g, 0, none⟩) keys.length keys.length) ∧ ∃ ps : List Nat, RowB w' (Btw V.heap.size w'.heap.size) 1 (.slice (some ⟨g, 0, none⟩) keys.length keys.length) keys.length (fun j cs => ∃ p : Nat, ps[j]? = some p ∧ cs = [.int .i64 (p : Int)]) ∧
      ps.Perm (List.range keys.length) ∧ ps.Pairwise (fun a b => ∀ x y, keys[a]? = some x → keys[b]? = some y → ¬ cmpK y x < 0) ∧ Below V.heap.size V w') := Lib.hid fun V hV => places_any A keys.length c keys rfl V ((hK.on hV fun _ _ h => h).mono hV.size fun _ _ h => h) hn
  obtain ⟨W0, hW0⟩ : ∃ W0, W0 = w.alloc (.cells #[.int .i64 0, .int .i64 0, .string ⟨#[]⟩, .slice none 0 0, .slice none 0 0, .slice none 0 0, .slice none 0 0] 27) := ⟨_, rfl⟩
  have hb0 : Below w.heap.size w W0 := by rw [hW0]; exact (Below.refl _ _).alloc (Nat.le_refl _) _
  have z0 : W0.heap.size = w.heap.size + 1 := by rw [hW0]; simp
  have k0 : W0.heap[w.heap.size]? = some (.cells #[.int .i64 0, .int .i64 0, .string ⟨#[]⟩, .slice none 0 0, .slice none 0 0, .slice none 0 0, .slice none 0 0] 27 (0, 0)) := by rw [hW0]; exact heap_alloc_new w _
  have HK := Lib.hid hK
  have HL := Lib.hid hL
  have HS := Lib.hid (smlVs_iff.1 hs)
  generalize hkn : keys.length = n at *
  generalize hlm : l.length = m at *
  have HN := Lib.hid (And.intro hkn (And.intro hlm hn))
  have HB0 := Lib.hid (And.intro hb0 z0)
  clear hK hL hs hn hkn hlm egv z0 hb0
  by_cases hnm : n = m
  case neg =>
    have q : ((n : Int) != (m : Int)) = true := by rw [bne_iff_ne]; omega
    have HU := Lib.hid hnm
    have HB1 : Hid (Below w.heap.size w (w.alloc (.cells #[.int .i64 0, .int .i64 0, .string ⟨#[]⟩, .slice none 0 0, .slice none 0 0, .slice none 0 0, .slice none 0 0] 27))) := Lib.hid ((Below.refl _ _).alloc (Nat.le_refl _) _)
    clear hnm
    obtain ⟨e0, e1, e2, e3, e4, e5, e6⟩ := cells7 k0
    obtain ⟨f0, f1, f2, f3, f4, f5, f6⟩ := frozen7 k0
    go_enter Tryz.func27, Tryz.ntmps27
    go_wp2
    refine bodyPost_ret (v := .tuple #[.agg #[.int .i64 0, .int .i64 0, .string ⟨#[]⟩, .slice none 0 0, .slice none 0 0, .slice none 0 0, .slice none 0 0], .int .i64 1]) (by simp [results, Tryz.results27, go_sem]) rfl ?_
    exact ⟨HB1.out, .inl ⟨fun h => HU.out (by rw [← HN.out.1, ← HN.out.2.1]; exact h.1), rfl⟩⟩
  have q : ((n : Int) != (m : Int)) = false := by simp [hnm]
  subst hnm
  have HK0 := Lib.hid k0
  clear k0
  go_enter Tryz.func27, Tryz.ntmps27
  go_wp2_with fail
  rw [← hW0]
  clear hW0 q
  refine (HALL.out W0 HB0.out.1).mono ?_
  rintro e w1 ⟨rfl, hb1⟩
  have hz1 := hb1.size
  have kr1 : w1.heap[w.heap.size]? = some (.cells #[.int .i64 0, .int .i64 0, .string ⟨#[]⟩, .slice none 0 0, .slice none 0 0, .slice none 0 0, .slice none 0 0] 27 (0, 0)) := (hb1.block _ (by have := HB0.out.2; omega)).trans HK0.out
  have hbw1 : Below w.heap.size w w1 := HB0.out.1.trans (hb1.mono HB0.out.1.size)
  have hw1 : w.heap.size < w1.heap.size := by have := HB0.out.2; omega
  have HBW1 := Lib.hid (And.intro hbw1 hw1)
  have HKR1 := Lib.hid kr1
  clear hb1 hz1 hbw1 hw1
  generalize hkb : keysB keys = kb
  have HKB := Lib.hid hkb
  clear hkb
  cases kb
  · obtain ⟨e0, e1, e2, e3, e4, e5, e6⟩ := cells7 kr1
    obtain ⟨f0, f1, f2, f3, f4, f5, f6⟩ := frozen7 kr1
    go_wp2
    obtain ⟨V, hV⟩ : ∃ V, V = ((((((w1.setCell ⟨w.heap.size, 0, none⟩ (.int .i64 0)).setCell ⟨w.heap.size, 1, none⟩ (.int .i64 0)).setCell ⟨w.heap.size, 2, none⟩ (.string ⟨#[]⟩)).setCell ⟨w.heap.size, 3, none⟩ (.slice none 0 0)).setCell ⟨w.heap.size, 4, none⟩ (.slice none 0 0)).setCell ⟨w.heap.size, 5, none⟩ (.slice none 0 0)).setCell ⟨w.heap.size, 6, none⟩ (.slice none 0 0) := ⟨_, rfl⟩
    rw [← hV]
    obtain ⟨ob, hzV, hbV, _⟩ := box7m kr1 (Nat.le_refl _) _ _ _ _ _ _ _ V hV
    obtain ⟨p0, p1, p2, p3, p4, p5, p6⟩ := cells7 ob
    clear e0 e1 e2 e3 e4 e5 e6 f0 f1 f2 f3 f4 f5 f6 hV
    refine bodyPost_ret (v := .tuple #[.agg #[.int .i64 0, .int .i64 0, .string ⟨#[]⟩, .slice none 0 0, .slice none 0 0, .slice none 0 0, .slice none 0 0], .int .i64 1]) (by simp [results, Tryz.results27, go_sem, p0, p1, p2, p3, p4, p5, p6]) rfl ?_
    exact ⟨HBW1.out.1.trans hbV, .inl ⟨fun h => (by have := HKB.out; rw [h.2] at this; cases this), rfl⟩⟩
  clear kr1
  go_wp2_with fail
  obtain ⟨W1, hW1⟩ : ∃ W1, W1 = w1.alloc (.cells #[.int .i64 8, .int .i64 0, .string ⟨#[]⟩, .slice none 0 0, .slice none 0 0, .slice none 0 0, .slice none 0 0] 27) := ⟨_, rfl⟩
  have hb2 : Below w1.heap.size w1 W1 := by rw [hW1]; exact (Below.refl _ _).alloc (Nat.le_refl _) _
  have hz2 : W1.heap.size = w1.heap.size + 1 := by rw [hW1]; simp
  have kb1 : W1.heap[w1.heap.size]? = some (.cells #[.int .i64 8, .int .i64 0, .string ⟨#[]⟩, .slice none 0 0, .slice none 0 0, .slice none 0 0, .slice none 0 0] 27 (0, 0)) := by rw [hW1]; exact heap_alloc_new w1 _
  rw [← hW1]
  clear hW1
  have hbw2 : Below w.heap.size w W1 := HBW1.out.1.trans (hb2.mono HBW1.out.1.size)
  refine (HPL.out W1 hbw2).mono ?_
  rintro e w2 ⟨g, rfl, ps, hrow, hperm, hpw, hb3⟩
  have hz3 := hb3.size
  have kb2 : w2.heap[w1.heap.size]? = some (.cells #[.int .i64 8, .int .i64 0, .string ⟨#[]⟩, .slice none 0 0, .slice none 0 0, .slice none 0 0, .slice none 0 0] 27 (0, 0)) := (hb3.block _ (by omega)).trans kb1
  have kr2 : w2.heap[w.heap.size]? = some (.cells #[.int .i64 0, .int .i64 0, .string ⟨#[]⟩, .slice none 0 0, .slice none 0 0, .slice none 0 0, .slice none 0 0] 27 (0, 0)) := (hb3.block _ (by have := HBW1.out.2; omega)).trans ((hb2.block _ HBW1.out.2).trans HKR1.out)
  have HBW2 : Hid (Below w.heap.size w w2) := Lib.hid (hbw2.trans (hb3.mono hbw2.size))
  have HROW : Hid (RowB w2 (fun b => w1.heap.size < b ∧ b < w2.heap.size) 1 (.slice (some ⟨g, 0, none⟩) n n) n (fun j cs => ∃ p : Nat, ps[j]? = some p ∧ cs = [.int .i64 (p : Int)])) := Lib.hid (RowB.sub hrow (fun b hb => ⟨by have := hb.1; omega, hb.2⟩) fun _ _ h => h)
  have HPS := Lib.hid (And.intro hperm hpw)
  have HBX : Hid (w.heap.size < w1.heap.size ∧ w1.heap.size < w2.heap.size) := Lib.hid ⟨HBW1.out.2, by omega⟩
  have HKR2 := Lib.hid kr2
  have HKB2 := Lib.hid kb2
  clear hrow hperm hpw hb3 hz3 kb2 kr2 kb1 hz2 hb2 hbw2 HBW1 HKR1 HK0 HB0
  generalize w1.heap.size = bx at *
  go_wp2_with fail
  go_loopw [8, 24] (fun _ i wo => ∃ (j : Nat) (A1 : Option Addr) (c1 : Nat) (A2 : Option Addr) (c2 : Nat) (D : Nat → Prop), i = .int .i64 j ∧ j ≤ n ∧ wo.heap[bx]? = some (.cells #[.int .i64 8, .int .i64 0, .string ⟨#[]⟩, .slice A2 j c2, .slice A1 j c1, .slice none 0 0, .slice none 0 0] 27 (0, 0)) ∧ MpI k w2.heap.size wo (.slice A1 j c1) (.slice A2 j c2) (pick keys (ps.take j)) (pick l (ps.take j)) D ∧ (pick keys (ps.take j)).length = j ∧ (pick l (ps.take j)).length = j ∧ (∀ b, b < w2.heap.size → b ≠ bx → wo.heap[b]? = w2.heap[b]?) ∧ Below w.heap.size w wo ∧ w2.heap.size ≤ wo.heap.size) (fun _ i _ => n - (intOf i).toNat)
  case atStart => exact ⟨0, none, 0, none, 0, _, rfl, Nat.zero_le _, HKB2.out, MpI.nil _ _ _, rfl, rfl, fun _ _ _ => rfl, HBW2.out, Nat.le_refl _⟩
  case round =>
    rename World => wo
    obtain ⟨j, A1, c1, A2, c2, D, rfl, hj, hbox, hM, hl1, hl2, hsame, hbo, hzo⟩ := hrel
    have HM := Lib.hid hM
    have HSM := Lib.hid (And.intro hsame (And.intro hbo hzo))
    have HBO := Lib.hid hbox
    by_cases hjn : j < n
    · obtain ⟨_, ⟨p, hp, hpc⟩, cg, hgB, hgl⟩ := HROW.out.cell1 hjn
      injection hpc with hpc
      subst hpc
      have hpn : p < n := by
        have := (HPS.out.1.mem_iff).1 (List.mem_of_getElem? hp)
        rw [List.mem_range] at this; exact this
      have sg : wo.cell? ⟨g, j, none⟩ = some (.int .i64 (p : Int)) := (World.cell?_of_block (hsame g hgl (by omega))).trans cg
      obtain ⟨b, off, cap0, x0, x1, hu, hbl, ⟨x, hx, hkx⟩, a0, a1⟩ := RowB.at2 HK.out hpn
      injection hu with hA _ hcc
      subst hA hcc
      obtain ⟨hxc, hxw, hxl⟩ := hkx
      simp only [List.cons.injEq, and_true] at hxc
      obtain ⟨rfl, rfl⟩ := hxc
      obtain ⟨b', off', cap1, u0, u1, u2, u3, u4, u5, u6, hu, hbl', ⟨y, hy, hyv⟩, b0, b1, b2, b3, b4, b5, b6⟩ := RowB.at7 HL.out hpn
      injection hu with hA _ hcc
      subst hA hcc
      obtain ⟨ya, yi, yt, Y1, y1, d1, Y2, y2, d2, Y3, y3, d3, Y4, y4, d4, hf⟩ := hyv.form7
      simp only [List.cons.injEq, and_true] at hf
      obtain ⟨rfl, rfl, rfl, rfl, rfl, rfl, rfl⟩ := hf
      have s0 : wo.cell? ⟨b, off + p * 2, none⟩ = some (.int .i64 x.1) := (hbo.cell (p := ⟨b, _, none⟩) hbl).trans a0
      have s1 : wo.cell? ⟨b, off + p * 2 + 1, none⟩ = some (.string ⟨x.2.toArray⟩) := (hbo.cell (p := ⟨b, _, none⟩) hbl).trans a1
      have HYC : Hid (∀ V, Below w.heap.size w V → V.cell? ⟨b', off' + p * 7, none⟩ = some (.int .i64 ya) ∧ V.cell? ⟨b', off' + p * 7 + 1, none⟩ = some (.int .i64 yi) ∧ V.cell? ⟨b', off' + p * 7 + 2, none⟩ = some (.string yt) ∧ V.cell? ⟨b', off' + p * 7 + 3, none⟩ = some (.slice Y1 y1 d1) ∧ V.cell? ⟨b', off' + p * 7 + 4, none⟩ = some (.slice Y2 y2 d2) ∧ V.cell? ⟨b', off' + p * 7 + 5, none⟩ = some (.slice Y3 y3 d3) ∧ V.cell? ⟨b', off' + p * 7 + 6, none⟩ = some (.slice Y4 y4 d4)) := Lib.hid fun V hV => ⟨(hV.cell (p := ⟨b', _, none⟩) hbl').trans b0, (hV.cell (p := ⟨b', _, none⟩) hbl').trans b1, (hV.cell (p := ⟨b', _, none⟩) hbl').trans b2, (hV.cell (p := ⟨b', _, none⟩) hbl').trans b3, (hV.cell (p := ⟨b', _, none⟩) hbl').trans b4, (hV.cell (p := ⟨b', _, none⟩) hbl').trans b5, (hV.cell (p := ⟨b', _, none⟩) hbl').trans b6⟩
      have HYV := Lib.hid (And.intro hyv (HS.out y (List.mem_of_getElem? hy)))
      have HP := Lib.hid (And.intro hp (And.intro hx hy))
      have kp : (p : Int) < (n : Int) := by omega
      have kp0 : (0 : Int) ≤ (p : Int) := by omega
      have kn : (j : Int) < (n : Int) := by omega
      have k0 : (0 : Int) ≤ (j : Int) := by omega
      have HNN := Lib.hid (And.intro hj (And.intro hjn hpn))
      have HL2 := Lib.hid hl2
      have HGB := Lib.hid hgB
      generalize hK1 : pick keys (ps.take j) = K1 at *
      generalize hK2 : pick l (ps.take j) = K2 at *
      obtain rfl : j = K1.length := hl1.symm
      have HKK := Lib.hid (And.intro hK1 hK2)
      obtain ⟨t0, t1, t2, t3, t4, t5, t6⟩ := cells7 hbox
      obtain ⟨z0, z1, z2, z3, z4, z5, z6⟩ := frozen7 hbox
      have hHw := HSM.out.2.2
      have hlen6 : K1.length ≤ 1000000 := by have := HN.out.2.2; omega
      clear hp hx hy hyv hK1 hK2 hl1 hl2 hsame hbo hzo hM hbox b0 b1 b2 b3 b4 b5 b6 cg hj hjn hpn hgB hgl hbl'
      have HYK : Hid (∀ V, Below w.heap.size w V → V.cell? ⟨b, off + p * 2, none⟩ = some (.int .i64 x.1) ∧ V.cell? ⟨b, off + p * 2 + 1, none⟩ = some (.string ⟨x.2.toArray⟩)) := Lib.hid fun V hV => ⟨(hV.cell (p := ⟨b, _, none⟩) hbl).trans a0, (hV.cell (p := ⟨b, _, none⟩) hbl).trans a1⟩
      have HBOX : Hid (∀ V, Below wo.heap.size wo V → V.heap[bx]? = some (.cells #[.int .i64 8, .int .i64 0, .string ⟨#[]⟩, .slice A2 K1.length c2, .slice A1 K1.length c1, .slice none 0 0, .slice none 0 0] 27 (0, 0))) := Lib.hid fun V hV => (hV.block bx (by have := HBX.out.2; omega)).trans HBO.out
      have HXX := Lib.hid (And.intro hxw hxl)
      have hHw' := Lib.hid (And.intro hHw hlen6)
      clear a0 a1 hbl hHw hlen6 hxw hxl s0 s1
      go_wp2_with fail
      clear t0 t1 t2 t3 t4 t5 t6 z0 z1 z2 z3 z4 z5 z6 sg
      refine wp_region_held_drew (S := fun V => V.cell? ⟨b, off + p * 2, none⟩ = some (.int .i64 x.1) ∧ V.cell? ⟨b, off + p * 2 + 1, none⟩ = some (.string ⟨x.2.toArray⟩)) (by kernel_rfl) (HYK.out _ (HSM.out.2.1.drew)) (fun hHeld => ?_)
      refine tk 0 hHeld ?_
      try simp only [Act.put, pA, pB, pC]
      refine tk 2 hHeld ?_
      try simp only [Act.put, pA, pB, pC]
      refine tk 3 hHeld ?_
      try simp only [Act.put, pA, pB, pC]
      refine tk 4 hHeld ?_
      try simp only [Act.put, pA, pB, pC]
      refine tk 5 hHeld ?_
      try simp only [Act.put, pA, pB, pC]
      generalize hA : ({ tmps := _, defers := [] } : Act) = a0
      refine wpAnyH_parTo (Bs := Bool × Bool) (L := fun ⟨b1, b6⟩ => #[true, b1, true, true, true, true, b6, false, false, false]) (chk := fun ⟨b1, b6⟩ i => (i == 1 && !b1) || (i == 6 && !b6)) (full := fun ⟨b1, b6⟩ => b1 && b6) 3 (by rintro ⟨b1, b6⟩; revert b1 b6; decide +kernel) (by rintro ⟨b1, b6⟩; revert b1 b6; decide +kernel) (by rintro ⟨b1, b6⟩; revert b1 b6; decide +kernel)
        (Inv := fun ⟨b1, b6⟩ a wq => ∃ (v1 v6 : Value), a = ((a0.put (some 29) v1).put (some 34) v6) ∧ Below wo.heap.size wo wq ∧ (b1 = true → v1 = .slice A1 K1.length c1) ∧ (b6 = true → ∃ r, v6 = .slice (some ⟨r, 0, none⟩) 1 1 ∧ r < wq.heap.size ∧ wq.heap[r]? = some (.cells #[.int .i64 x.1, .string ⟨x.2.toArray⟩] 74 (0, 0)))) ?_ ?_ ⟨false, false⟩ rfl (by decide) ?_
      rotate_left
      · rintro ⟨b1, b6⟩ a wq i ⟨v1, v6, rfl, hB, h1, h6⟩ hk
        simp only [Bool.or_eq_true, Bool.and_eq_true, beq_iff_eq, Bool.not_eq_true'] at hk
        subst hA
        rcases hk with ⟨rfl, rfl⟩ | ⟨rfl, rfl⟩
        · obtain ⟨t0, t1, t2, t3, t4, t5, t6⟩ := cells7 (HBOX.out _ hB)
          refine step_op rfl (by rfl) (fun K hK => ?_)
          simp only [Act.put, List.setIfInBounds_toArray, List.set_cons_zero, List.set_cons_succ]
          go_simp
          exact hK _ _ ⟨HYK.out _ (HSM.out.2.1.trans (hB.mono HSM.out.2.1.size)), ⟨true, b6⟩, rfl, _, v6, rfl, hB, fun _ => rfl, h6⟩
        · refine step_op rfl (by rfl) (fun K hK => ?_)
          simp only [Act.put, List.setIfInBounds_toArray, List.set_cons_zero, List.set_cons_succ]
          go_simp
          have hb : Below wq.heap.size wq (wq.alloc (.cells #[.int .i64 x.1, .string ⟨x.2.toArray⟩] 74 (0, 0))) := (Below.refl _ _).alloc (Nat.le_refl _) _
          have hB' := step_below hB (Nat.le_refl _) hb
          exact hK _ _ ⟨HYK.out _ (HSM.out.2.1.trans (hB'.mono HSM.out.2.1.size)), ⟨b1, true⟩, rfl, v1, _, rfl, hB', h1, fun _ => ⟨_, rfl, by simp, heap_alloc_new wq _⟩⟩
      · exact ⟨u29, u34, by subst hA; rfl, (Below.refl _ _).drew, nofun, nofun⟩
      rintro ⟨b1, b6⟩ a wq fuel hf ⟨v1, v6, rfl, hB, h1, h6⟩ hfl
      simp only [Bool.and_eq_true] at hf
      obtain ⟨rfl, rfl⟩ := hf
      subst hA
      obtain ⟨fuel, rfl⟩ : ∃ k, fuel = k + 3 := ⟨fuel - 3, by omega⟩
      obtain rfl := h1 rfl
      obtain ⟨r, rfl, hrq, hkr⟩ := h6 rfl
      clear h1 h6 hfl hHeld
      have hMq := HM.out.keep hB.size fun b _ h2 => hB.block b h2
      obtain ⟨i0, hi, hi0, hi1, hi2⟩ := info_parts Tryz.infoK
      obtain ⟨v', w3, hr3, ho3, hb3, hk3, hg3⟩ := app_row (elC kyC) 23 23 74 i0 (.agg #[.int .i64 0, .string ⟨#[]⟩]) 2 24 Tryz.underlying23 hi hi0 hi1 hi2 rfl (by decide) (by decide) (fun x w' B cs h => kyC_one h) wq w2.heap.size (.slice A1 K1.length c1) K1 hMq.ky (some ⟨r, 0, none⟩) 1 1 [x] rfl (fun _ => True)
        ⟨_, _, rfl, ⟨by decide, Nat.le_refl _⟩, fun _ => ⟨r, 0, rfl, trivial, hrq, fun j hj => ⟨[.int .i64 x.1, .string ⟨x.2.toArray⟩], rfl, fun i hi => by
          obtain rfl : j = 0 := by omega
          have := Lib.cell_of_heap hkr i
          simpa using this, x, by obtain rfl : j = 0 := (by omega); rfl, rfl, HXX.out⟩⟩⟩ (by have := hHw'.out.2; have := HN.out.2.2; have := HNN.out.1; omega) (Nat.le_trans hHw'.out.1 hB.size)
      obtain ⟨A1', c1', rfl⟩ := OwnE.form ho3
      have hll3 : (K1 ++ [x]).length = K1.length + 1 := by rw [List.length_append]; rfl
      have hM3 := hMq.key ho3 hb3 hk3 hg3
      rw [hll3] at hr3 hM3
      have kb3 : w3.heap[bx]? = some (.cells #[.int .i64 8, .int .i64 0, .string ⟨#[]⟩, .slice A2 K1.length c2, .slice A1 K1.length c1, .slice none 0 0, .slice none 0 0] 27 (0, 0)) := (hb3.block bx HBX.out.2).trans (HBOX.out _ hB)
      have HM3 := Lib.hid hM3
      have HB3 : Hid (Below w.heap.size w w3) := Lib.hid ((HSM.out.2.1.trans (hB.mono HSM.out.2.1.size)).trans (hb3.mono HBW2.out.size))
      have HS3 : Hid (∀ b, b < w2.heap.size → b ≠ bx → w3.heap[b]? = w2.heap[b]?) := Lib.hid fun b h1 h2 => (hb3.block b h1).trans ((hB.block b (Nat.lt_of_lt_of_le h1 hHw'.out.1)).trans (HSM.out.1 b h1 h2))
      have HZ3 : Hid (w2.heap.size ≤ w3.heap.size) := Lib.hid (Nat.le_trans hHw'.out.1 (Nat.le_trans hB.size hb3.size))
      have hS3 := HYK.out w3 HB3.out
      clear hMq ho3 hb3 hk3 hg3 hM3 hll3 hkr hi hi0 hi1 hi2
      simp only [Act.put, List.setIfInBounds_toArray, List.set_cons_zero, List.set_cons_succ]
      refine one_op 7 (by kernel_rfl) rfl (by rfl) (fun K hK => ?_)
      refine Lib.wp_append_run _ _ _ _ _ rfl _ _ rfl rfl _ w3 hr3 ?_
      refine hK _ _ hS3 ?_
      clear hK K hr3
      try simp only [Act.put, pA, pB, pC]
      refine tk 8 hS3 ?_
      try simp only [Act.put, pA, pB, pC]
      obtain ⟨t0, t1, t2, t3, t4, t5, t6⟩ := cells7 kb3
      obtain ⟨z0, z1, z2, z3, z4, z5, z6⟩ := frozen7 kb3
      refine one_op 9 (by kernel_rfl) rfl (by rfl) (fun K hK => ?_)
      go_simp
      obtain ⟨W4, hW4⟩ : ∃ U, U = w3.setCell ⟨bx, 4, none⟩ (.slice A1' (K1.length + 1) c1') := ⟨_, rfl⟩
      rw [← hW4]
      have kb4 : W4.heap[bx]? = some (.cells #[.int .i64 8, .int .i64 0, .string ⟨#[]⟩, .slice A2 K1.length c2, .slice A1' (K1.length + 1) c1', .slice none 0 0, .slice none 0 0] 27 (0, 0)) := by
        rw [hW4]
        have := heap_setCell_same w3 bx 4 _ _ (.slice A1' (K1.length + 1) c1') kb3
        simpa using this
      have hz4 : W4.heap.size = w3.heap.size := by rw [hW4]; simp
      have ho4 : ∀ b, b ≠ bx → W4.heap[b]? = w3.heap[b]? := fun b hb => by rw [hW4]; exact heap_setCell_other _ _ _ _ hb
      have hb4 : Below w.heap.size w W4 := by rw [hW4]; exact HB3.out.trans (Below.setCell (Below.refl _ _) (p := ⟨bx, 4, none⟩) (Nat.le_of_lt HBX.out.1) _)
      have HM4 := Lib.hid (HM3.out.keep (Nat.le_of_eq hz4.symm) fun b h1 _ => ho4 b (by have := HBX.out.2; omega))
      have HS4 : Hid (∀ b, b < w2.heap.size → b ≠ bx → W4.heap[b]? = w2.heap[b]?) := Lib.hid fun b h1 h2 => (ho4 b h2).trans (HS3.out b h1 h2)
      have HZ4 : Hid (w2.heap.size ≤ W4.heap.size) := Lib.hid (by have := HZ3.out; omega)
      have HB4 := Lib.hid hb4
      have HK4 : Hid (∀ V, Below W4.heap.size W4 V → V.heap[bx]? = some (.cells #[.int .i64 8, .int .i64 0, .string ⟨#[]⟩, .slice A2 K1.length c2, .slice A1' (K1.length + 1) c1', .slice none 0 0, .slice none 0 0] 27 (0, 0))) := Lib.hid fun V hV => (hV.block bx (by have := HBX.out.2; have := HZ4.out; omega)).trans kb4
      have HYS : Hid (∀ V, Below W4.heap.size W4 V → V.cell? ⟨b', off' + p * 7, none⟩ = some (.int .i64 ya) ∧ V.cell? ⟨b', off' + p * 7 + 1, none⟩ = some (.int .i64 yi) ∧ V.cell? ⟨b', off' + p * 7 + 2, none⟩ = some (.string yt) ∧ V.cell? ⟨b', off' + p * 7 + 3, none⟩ = some (.slice Y1 y1 d1) ∧ V.cell? ⟨b', off' + p * 7 + 4, none⟩ = some (.slice Y2 y2 d2) ∧ V.cell? ⟨b', off' + p * 7 + 5, none⟩ = some (.slice Y3 y3 d3) ∧ V.cell? ⟨b', off' + p * 7 + 6, none⟩ = some (.slice Y4 y4 d4)) := Lib.hid fun V hV => HYC.out V (HB4.out.trans (hV.mono HB4.out.size))
      have hS4 := HYK.out W4 hb4
      clear t0 t1 t2 t3 t4 t5 t6 z0 z1 z2 z3 z4 z5 z6 kb3 kb4 hz4 ho4 hb4 hW4 HM3 HB3 HS3 HZ3 hrq
      refine hK _ _ hS4 ?_
      clear hK K hS3 hS4
      try simp only [Act.put, pA, pB, pC]
      clear hB
      refine wpAnyH_done (by kernel_rfl) ?_ _
      go_wp2_with fail
      refine wp_region_held_drew (S := fun V => V.cell? ⟨b', off' + p * 7, none⟩ = some (.int .i64 ya) ∧ V.cell? ⟨b', off' + p * 7 + 1, none⟩ = some (.int .i64 yi) ∧ V.cell? ⟨b', off' + p * 7 + 2, none⟩ = some (.string yt) ∧ V.cell? ⟨b', off' + p * 7 + 3, none⟩ = some (.slice Y1 y1 d1) ∧ V.cell? ⟨b', off' + p * 7 + 4, none⟩ = some (.slice Y2 y2 d2) ∧ V.cell? ⟨b', off' + p * 7 + 5, none⟩ = some (.slice Y3 y3 d3) ∧ V.cell? ⟨b', off' + p * 7 + 6, none⟩ = some (.slice Y4 y4 d4)) (by kernel_rfl) (HYS.out _ (Below.refl _ _).drew) (fun hHeld => ?_)
      refine tk 0 hHeld ?_
      try simp only [Act.put, pA, pB, pC]
      refine tk 2 hHeld ?_
      try simp only [Act.put, pA, pB, pC]
      refine tk 3 hHeld ?_
      try simp only [Act.put, pA, pB, pC]
      refine tk 4 hHeld ?_
      try simp only [Act.put, pA, pB, pC]
      refine tk 5 hHeld ?_
      try simp only [Act.put, pA, pB, pC]
      generalize hA : ({ tmps := _, defers := [] } : Act) = a0
      refine wpAnyH_parTo (Bs := Bool × Bool × Bool) (L := fun ⟨b1, b6, b7⟩ => #[true, b1, true, true, true, true, b6, b6 && b7, false, false, false]) (chk := fun ⟨b1, b6, b7⟩ i => (i == 1 && !b1) || (i == 6 && !b6) || (i == 7 && (b6 && !b7))) (full := fun ⟨b1, b6, b7⟩ => b1 && (b6 && b7)) 3 (by rintro ⟨b1, b6, b7⟩; revert b1 b6 b7; decide +kernel) (by rintro ⟨b1, b6, b7⟩; revert b1 b6 b7; decide +kernel) (by rintro ⟨b1, b6, b7⟩; revert b1 b6 b7; decide +kernel)
        (Inv := fun ⟨b1, b6, b7⟩ a wq => ∃ (v1 v6 v7 : Value), a = (((a0.put (some 38) v1).put (some 43) v6).put (some 44) v7) ∧ Below W4.heap.size W4 wq ∧ (b1 = true → v1 = .slice A2 K1.length c2) ∧ (b6 = true → ∃ cs, v6 = .agg cs.toArray ∧ VB k wq (Btw W4.heap.size wq.heap.size) y cs) ∧ (b6 = true → b7 = true → ∃ r cs, v7 = .slice (some ⟨r, 0, none⟩) 1 1 ∧ W4.heap.size ≤ r ∧ r < wq.heap.size ∧ wq.heap[r]? = some (.cells cs.toArray 27 (0, 0)) ∧ cs.length = 7 ∧ VB k wq (fun b => W4.heap.size ≤ b ∧ b < wq.heap.size ∧ b ≠ r) y cs)) ?_ ?_ ⟨false, false, false⟩ rfl (by decide) ?_
      rotate_left
      · rintro ⟨b1, b6, b7⟩ a wq i ⟨v1, v6, v7, rfl, hB, h1, h6, h7⟩ hk
        simp only [Bool.or_eq_true, Bool.and_eq_true, beq_iff_eq, Bool.not_eq_true'] at hk
        subst hA
        rcases hk with (⟨rfl, rfl⟩ | ⟨rfl, rfl⟩) | ⟨rfl, rfl, rfl⟩
        · obtain ⟨t0, t1, t2, t3, t4, t5, t6⟩ := cells7 (HK4.out _ hB)
          refine step_op rfl (by rfl) (fun K hK => ?_)
          simp only [Act.put, List.setIfInBounds_toArray, List.set_cons_zero, List.set_cons_succ]
          go_simp
          exact hK _ _ ⟨HYS.out _ hB, ⟨true, b6, b7⟩, rfl, _, v6, v7, rfl, hB, fun _ => rfl, h6, h7⟩
        · refine step_op rfl (by rfl) (fun K hK => ?_)
          simp only [Act.put, List.setIfInBounds_toArray, List.set_cons_zero, List.set_cons_succ]
          go_simp
          have hbq : Below w.heap.size w wq := HB4.out.trans (hB.mono HB4.out.size)
          refine (clone_any k y _ wq (VS.up hbq.size (Nat.le_refl _) (VS.on hbq HYV.out.1)) HYV.out.2).mono ?_
          rintro e w6 ⟨cs', rfl, hv, hb⟩
          have hB' := step_below hB (Nat.le_refl _) hb
          exact hK _ _ ⟨HYS.out _ hB', ⟨b1, true, false⟩, rfl, v1, _, v7, rfl, hB', h1, fun _ => ⟨cs', rfl, VB.sub (fun b hb' => ⟨by have := hb'.1; have := hB.size; omega, hb'.2⟩) (Nat.le_refl _) hv⟩, nofun⟩
        · obtain ⟨cs, rfl, hv⟩ := h6 rfl
          have hv2 := hv
          obtain ⟨ca, ci, ct, C1, n1, e1, C2, n2, e2, C3, n3, e3, C4, n4, e4, rfl⟩ := hv2.form7
          refine step_op rfl (by rfl) (fun K hK => ?_)
          simp only [Act.put, List.setIfInBounds_toArray, List.set_cons_zero, List.set_cons_succ]
          go_simp
          have hb : Below wq.heap.size wq (wq.alloc (.cells #[.int .i64 ca, .int .i64 ci, .string ct, .slice C1 n1 e1, .slice C2 n2 e2, .slice C3 n3 e3, .slice C4 n4 e4] 27 (0, 0))) := (Below.refl _ _).alloc (Nat.le_refl _) _
          have hB' := step_below hB (Nat.le_refl _) hb
          have hs6 := hB.size
          exact hK _ _ ⟨HYS.out _ hB', ⟨b1, true, true⟩, rfl, v1, _, _, rfl, hB', h1, fun _ => ⟨_, rfl, VB.later' hb hv⟩, fun _ _ => ⟨_, _, rfl, hs6, by simp, heap_alloc_new wq _, rfl, VB.sub (fun b hb' => ⟨hb'.1, by have := hb'.2; simp; omega, by have := hb'.2; omega⟩) (Nat.le_refl _) (VB.keep (.of_below hb fun _ h => h.2) hv)⟩⟩
      · exact ⟨u38, u43, u44, by subst hA; rfl, (Below.refl _ _).drew, nofun, nofun, nofun⟩
      rintro ⟨b1, b6, b7⟩ a wq fuel hf ⟨v1, v6, v7, rfl, hB, h1, h6, h7⟩ hfl
      simp only [Bool.and_eq_true] at hf
      obtain ⟨rfl, rfl, rfl⟩ := hf
      subst hA
      obtain ⟨fuel, rfl⟩ : ∃ k, fuel = k + 3 := ⟨fuel - 3, by omega⟩
      obtain rfl := h1 rfl
      obtain ⟨cs0, rfl, _⟩ := h6 rfl
      obtain ⟨r, cs, rfl, hr4, hrq, hkr, hcl, hv⟩ := h7 rfl rfl
      clear h1 h6 h7 hfl hHeld
      have hMq := HM4.out.keep hB.size fun b _ h2 => hB.block b h2
      obtain ⟨i0, hi, hi0, hi1, hi2⟩ := info_parts Tryz.infoV
      have hown : OwnE (elC (fun x cs => VB k wq (fun b => D b ∨ (W4.heap.size ≤ b ∧ b < wq.heap.size ∧ b ≠ r)) x cs)) 27 7 wq w2.heap.size (.slice A2 K1.length c2) K2 := OwnC.imp hMq.vl fun x cs h => VB.sub (fun b hb => .inl hb) (Nat.le_refl _) h
      obtain ⟨v', w8, hr8, ho8, hb8, hk8, hg8⟩ := app_row (elC (fun x cs => VB k wq (fun b => D b ∨ (W4.heap.size ≤ b ∧ b < wq.heap.size ∧ b ≠ r)) x cs)) 22 22 27 i0 (.agg #[.int .i64 0, .int .i64 0, .string ⟨#[]⟩, .slice none 0 0, .slice none 0 0, .slice none 0 0, .slice none 0 0]) 7 128 Tryz.underlying22 hi hi0 hi1 hi2 rfl (by decide) (by decide) (fun x w' B cs h => elV_one k x wq _ cs h) wq w2.heap.size (.slice A2 K1.length c2) K2 hown (some ⟨r, 0, none⟩) 1 1 [y] rfl (fun _ => True)
        ⟨_, _, rfl, ⟨by decide, Nat.le_refl _⟩, fun _ => ⟨r, 0, rfl, trivial, hrq, fun j hj => ⟨cs, hcl, fun i hi => by
          obtain rfl : j = 0 := by omega
          have := Lib.cell_of_heap hkr i
          simpa using this, y, by obtain rfl : j = 0 := (by omega); rfl, VB.sub (fun b hb => .inr hb) (Nat.le_refl _) hv⟩⟩⟩ (by have := HL2.out; have := HN.out.2.2; have := HNN.out.1; simp; omega) (Nat.le_trans HZ4.out hB.size)
      have hD2 : ∀ b, (W4.heap.size ≤ b ∧ b < wq.heap.size ∧ b ≠ r) → W4.heap.size ≤ b ∧ b < wq.heap.size := fun b h => ⟨h.1, h.2.1⟩
      have hM8 := HM4.out.val (D' := fun b => W4.heap.size ≤ b ∧ b < wq.heap.size ∧ b ≠ r) HZ4.out hD2 hB ho8 hb8 hk8 hg8
      obtain ⟨A2', c2', rfl⟩ := ho8.form
      have hll : (K2 ++ [y]).length = K1.length + 1 := by rw [List.length_append, HL2.out]; rfl
      rw [hll] at hr8 hM8
      have kb8 : w8.heap[bx]? = some (.cells #[.int .i64 8, .int .i64 0, .string ⟨#[]⟩, .slice A2 K1.length c2, .slice A1' (K1.length + 1) c1', .slice none 0 0, .slice none 0 0] 27 (0, 0)) := (hb8.block bx HBX.out.2).trans (HK4.out _ hB)
      have HM8 := Lib.hid hM8
      have HLL := Lib.hid hll
      have HB8 : Hid (Below w.heap.size w w8) := Lib.hid ((HB4.out.trans (hB.mono HB4.out.size)).trans (hb8.mono HBW2.out.size))
      have HS8 : Hid (∀ b, b < w2.heap.size → b ≠ bx → w8.heap[b]? = w2.heap[b]?) := Lib.hid fun b q1 q2 => (hb8.block b q1).trans ((hB.block b (Nat.lt_of_lt_of_le q1 HZ4.out)).trans (HS4.out b q1 q2))
      have HZ8 : Hid (w2.heap.size ≤ w8.heap.size) := Lib.hid (Nat.le_trans HZ4.out (Nat.le_trans hB.size hb8.size))
      have HKB8 := Lib.hid kb8
      have hS8 := HYC.out w8 HB8.out
      clear hMq hown ho8 hM8 hk8 hg8 hb8 hD2 hll hv hcl hkr hi hi0 hi1 hi2
      simp only [Act.put, List.setIfInBounds_toArray, List.set_cons_zero, List.set_cons_succ]
      refine one_op 8 (by kernel_rfl) rfl (by rfl) (fun K hK => ?_)
      refine Lib.wp_append_run _ _ _ _ _ rfl _ _ rfl rfl _ w8 hr8 ?_
      refine hK _ _ hS8 ?_
      clear hK K hr8
      try simp only [Act.put, pA, pB, pC]
      refine tk 9 hS8 ?_
      try simp only [Act.put, pA, pB, pC]
      obtain ⟨t0, t1, t2, t3, t4, t5, t6⟩ := cells7 kb8
      obtain ⟨z0, z1, z2, z3, z4, z5, z6⟩ := frozen7 kb8
      refine one_op 10 (by kernel_rfl) rfl (by rfl) (fun K hK => ?_)
      go_simp
      obtain ⟨W9, hW9⟩ : ∃ U, U = w8.setCell ⟨bx, 3, none⟩ (.slice A2' (K1.length + 1) c2') := ⟨_, rfl⟩
      rw [← hW9]
      have kb9 : W9.heap[bx]? = some (.cells #[.int .i64 8, .int .i64 0, .string ⟨#[]⟩, .slice A2' (K1.length + 1) c2', .slice A1' (K1.length + 1) c1', .slice none 0 0, .slice none 0 0] 27 (0, 0)) := by
        rw [hW9]
        have := heap_setCell_same w8 bx 3 _ _ (.slice A2' (K1.length + 1) c2') kb8
        simpa using this
      have hz9 : W9.heap.size = w8.heap.size := by rw [hW9]; simp
      have ho9 : ∀ b, b ≠ bx → W9.heap[b]? = w8.heap[b]? := fun b hb => by rw [hW9]; exact heap_setCell_other _ _ _ _ hb
      have hb9 : Below w.heap.size w W9 := by rw [hW9]; exact HB8.out.trans (Below.setCell (Below.refl _ _) (p := ⟨bx, 3, none⟩) (Nat.le_of_lt HBX.out.1) _)
      have HM9 := Lib.hid (HM8.out.keep (Nat.le_of_eq hz9.symm) fun b h1 _ => ho9 b (by have := HBX.out.2; omega))
      have HS9 : Hid (∀ b, b < w2.heap.size → b ≠ bx → W9.heap[b]? = w2.heap[b]?) := Lib.hid fun b h1 h2 => (ho9 b h2).trans (HS8.out b h1 h2)
      have HE9 := Lib.hid (And.intro kb9 (And.intro hb9 (show w2.heap.size ≤ W9.heap.size by have := HZ8.out; omega)))
      have hS9 := HYC.out W9 hb9
      clear t0 t1 t2 t3 t4 t5 t6 z0 z1 z2 z3 z4 z5 z6 kb8 kb9 hz9 ho9 hb9 hW9 HM8 HS8 HB8 HZ8
      refine hK _ _ hS9 ?_
      clear hK K hS8 hS9 hB hr4 hrq
      try simp only [Act.put, pA, pB, pC]
      refine wpAnyH_done (by kernel_rfl) ?_ _
      have hwj : IntKind.i64.wrap ((K1.length : Int) + 1) = (K1.length : Int) + 1 := IntWalk.i64_in _ (by have := HN.out.2.2; have := HNN.out.1; omega)
      go_wp2_with fail
      go_roundw
      case rel =>
        have e1 := pick_step (l := keys) HP.out.1 HP.out.2.1
        have e2 := pick_step (l := l) HP.out.1 HP.out.2.2
        rw [HKK.out.1] at e1
        rw [HKK.out.2] at e2
        refine ⟨K1.length + 1, A1', c1', A2', c2', (fun b => D b ∨ (W4.heap.size ≤ b ∧ b < wq.heap.size ∧ b ≠ r)), by go_num, by have := HNN.out.2.1; omega, HE9.out.1, ?_, ?_, ?_, HS9.out, HE9.out.2.1, HE9.out.2.2⟩
        · rw [e1, e2]; exact HM9.out
        · rw [e1]; simp
        · rw [e2]; exact HLL.out
      case measure => simp [intOf]; try omega
    · obtain rfl : j = n := by omega
      have hpl : ps.length = j := by rw [HPS.out.1.length_eq, List.length_range]
      have hpt : ps.take j = ps := List.take_of_length_le (by omega)
      rw [hpt] at hl1 hl2
      have HMM : Hid (MpI k w2.heap.size wo (.slice A1 j c1) (.slice A2 j c2) (pick keys ps) (pick l ps) D) := Lib.hid (by have h := HM.out; rw [hpt] at h; exact h)
      have hky : OwnY wo w2.heap.size (.slice A1 (pick keys ps).length c1) (pick keys ps) := by rw [hl1]; exact HMM.out.ky
      have hkr := OwnE.row hky (by decide) (by rw [hl1]; have := HN.out.2.2; unfold maxLen; omega)
      have hasc := asc2 A1 c1 (pick keys ps) wo (RowB.sub hkr (fun b hb => hb.2) fun _ _ h => h)
      rw [hl1] at hasc
      have HSRT := Lib.hid (places_srt (keys := keys) (l := l) (ps := ps) (by rw [HN.out.1, HN.out.2.1]) (by rw [HN.out.1]; exact HPS.out.1) (pick_pw (List.Pairwise.imp (fun {a b} h x y hx hy => by have := h x y hx hy; omega) HPS.out.2)))
      have HLL := Lib.hid (And.intro hl1 hl2)
      generalize hzz : decide (AscC cmpK (pick keys ps)) = z at hasc
      have HZZ := Lib.hid hzz
      obtain ⟨t0, t1, t2, t3, t4, t5, t6⟩ := cells7 hbox
      clear hzz hky hkr hl1 hl2 hpl hpt hM hsame hbo hzo hjn hj hbox HM
      go_wp2_with fail
      refine hasc.mono ?_
      rintro e w9 ⟨rfl, hb9⟩
      have kr9 : w9.heap[w.heap.size]? = some (.cells #[.int .i64 0, .int .i64 0, .string ⟨#[]⟩, .slice none 0 0, .slice none 0 0, .slice none 0 0, .slice none 0 0] 27 (0, 0)) := (hb9.block _ (by have := HBX.out; have := HSM.out.2.2; omega)).trans ((HSM.out.1 _ (by have := HBX.out; omega) (by have := HBX.out; omega)).trans HKR2.out)
      have kb9 : w9.heap[bx]? = some (.cells #[.int .i64 8, .int .i64 0, .string ⟨#[]⟩, .slice A2 j c2, .slice A1 j c1, .slice none 0 0, .slice none 0 0] 27 (0, 0)) := (hb9.block _ (by have := HBX.out; have := HSM.out.2.2; omega)).trans HBO.out
      have HB9 := Lib.hid hb9
      have HBW9 : Hid (Below w.heap.size w w9) := Lib.hid (HSM.out.2.1.trans (hb9.mono HSM.out.2.1.size))
      clear hasc hb9 t0 t1 t2 t3 t4 t5 t6
      cases z
      · obtain ⟨e0, e1, e2, e3, e4, e5, e6⟩ := cells7 kr9
        obtain ⟨f0, f1, f2, f3, f4, f5, f6⟩ := frozen7 kr9
        go_wp2
        obtain ⟨V, hV⟩ : ∃ V, V = ((((((w9.setCell ⟨w.heap.size, 0, none⟩ (.int .i64 0)).setCell ⟨w.heap.size, 1, none⟩ (.int .i64 0)).setCell ⟨w.heap.size, 2, none⟩ (.string ⟨#[]⟩)).setCell ⟨w.heap.size, 3, none⟩ (.slice none 0 0)).setCell ⟨w.heap.size, 4, none⟩ (.slice none 0 0)).setCell ⟨w.heap.size, 5, none⟩ (.slice none 0 0)).setCell ⟨w.heap.size, 6, none⟩ (.slice none 0 0) := ⟨_, rfl⟩
        rw [← hV]
        obtain ⟨ob, hzV, hbV, _⟩ := box7m kr9 (Nat.le_refl _) _ _ _ _ _ _ _ V hV
        obtain ⟨p0, p1, p2, p3, p4, p5, p6⟩ := cells7 ob
        clear e0 e1 e2 e3 e4 e5 e6 f0 f1 f2 f3 f4 f5 f6 hV
        refine bodyPost_ret (v := .tuple #[.agg #[.int .i64 0, .int .i64 0, .string ⟨#[]⟩, .slice none 0 0, .slice none 0 0, .slice none 0 0, .slice none 0 0], .int .i64 6]) (by simp [results, Tryz.results27, go_sem, p0, p1, p2, p3, p4, p5, p6]) rfl ?_
        exact ⟨HBW9.out.trans hbV, .inr (.inl ⟨by rw [HN.out.1, HN.out.2.1], HKB.out, HSRT.out.2 (of_decide_eq_false HZZ.out), rfl⟩)⟩
      · obtain ⟨e0, e1, e2, e3, e4, e5, e6⟩ := cells7 kr9
        obtain ⟨f0, f1, f2, f3, f4, f5, f6⟩ := frozen7 kr9
        obtain ⟨t0, t1, t2, t3, t4, t5, t6⟩ := cells7 kb9
        go_wp2
        obtain ⟨V, hV⟩ : ∃ V, V = ((((((w9.setCell ⟨w.heap.size, 0, none⟩ (.int .i64 8)).setCell ⟨w.heap.size, 1, none⟩ (.int .i64 0)).setCell ⟨w.heap.size, 2, none⟩ (.string ⟨#[]⟩)).setCell ⟨w.heap.size, 3, none⟩ (.slice A2 j c2)).setCell ⟨w.heap.size, 4, none⟩ (.slice A1 j c1)).setCell ⟨w.heap.size, 5, none⟩ (.slice none 0 0)).setCell ⟨w.heap.size, 6, none⟩ (.slice none 0 0) := ⟨_, rfl⟩
        rw [← hV]
        obtain ⟨ob, hzV, hbV, hoV⟩ := box7m kr9 (Nat.le_refl _) _ _ _ _ _ _ _ V hV
        obtain ⟨p0, p1, p2, p3, p4, p5, p6⟩ := cells7 ob
        clear e0 e1 e2 e3 e4 e5 e6 f0 f1 f2 f3 f4 f5 f6 t0 t1 t2 t3 t4 t5 t6 hV
        refine bodyPost_ret (v := .tuple #[.agg #[.int .i64 8, .int .i64 0, .string ⟨#[]⟩, .slice A2 j c2, .slice A1 j c1, .slice none 0 0, .slice none 0 0], .int .i64 0]) (by simp [results, Tryz.results27, go_sem, p0, p1, p2, p3, p4, p5, p6]) rfl ?_
        have hq := HSRT.out.1 (of_decide_eq_true HZZ.out)
        have hMV := HMM.out.keep (w' := V) (by have := HB9.out.size; omega) fun b h1 h2 => (hoV b (by have := HBX.out; omega)).trans (HB9.out.block b h2)
        have hxx := HBX.out
        refine ⟨HBW9.out.trans hbV, .inr (.inr ⟨by rw [HN.out.1, HN.out.2.1], HKB.out, hq.2.1, [.int .i64 8, .int .i64 0, .string ⟨#[]⟩, .slice A2 j c2, .slice A1 j c1, .slice none 0 0, .slice none 0 0], rfl, ?_⟩)⟩
        rw [hq.2.2]
        have r1 : RowB V (Btw w2.heap.size V.heap.size) 2 (.slice A1 j c1) (pick keys ps).length (fun i cs => ∃ x, (pick keys ps)[i]? = some x ∧ kyC x cs) := OwnE.row hMV.ky (by decide) (by rw [HLL.out.1]; have := HN.out.2.2; unfold maxLen; omega)
        have r2 : RowB V (Btw w2.heap.size V.heap.size) 7 (.slice A2 j c2) (pick l ps).length (fun i cs => ∃ x, (pick l ps)[i]? = some x ∧ VB k V D x cs) := OwnE.row hMV.vl (by decide) (by rw [HLL.out.2]; have := HN.out.2.2; unfold maxLen; omega)
        exact ⟨_, _, _, _, rfl, by decide, by decide, Nat.zero_le _, RowB.sub r2 (fun b hb => ⟨by have := hb.1; omega, hb.2⟩) (fun i cs ⟨x, h1, h2⟩ => ⟨x, h1, VB.sub (fun b hb => ⟨by have := (hMV.dd b hb).1; omega, (hMV.dd b hb).2.1⟩) (Nat.le_refl _) h2⟩), RowB.sub r1 (fun b hb => ⟨by have := hb.1; omega, hb.2⟩) (fun _ _ h => h), zeroRow _ _ _ _, zeroRow _ _ _ _⟩
end Go.Proofs.YtjfknigiehggkaaGreat
