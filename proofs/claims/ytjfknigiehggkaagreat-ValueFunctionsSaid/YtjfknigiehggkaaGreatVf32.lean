/- Function of the program: the entries in ascending order, each once. -/
import Derived.Test.YtjfknigiehggkaaGreatVf19
import Derived.Test.YtjfknigiehggkaaGreatVf28
import Derived.Test.YtjfknigiehggkaaGreatVf30
import Derived.Test.YtjfknigiehggkaaGreatVf31
namespace Go.Proofs.YtjfknigiehggkaaGreat
open Go Go.RowKit
set_option maxHeartbeats 800000 in
theorem eachOnce_any (k g n : Nat) (ts : List En) (w : World) (hrow : EntRow k g n ts w) (hn : n ≤ 100000000) :
    Calls Tryz.prog 68 #[.slice (some ⟨g, 0, none⟩) n n] w fun e w' => ∃ m, e = .returned (.slice (some ⟨g, 0, none⟩) m n) ∧ EntCut k g m n (srtC cmpE ts) w' ∧ Below g w w' := by
  have hs := sortE_any k g n ts w hrow hn
  clear hrow
  go_enter Tryz.func68, Tryz.ntmps68
  go_wp2_with fail
  refine hs.mono ?_
  rintro e w1 ⟨rfl, ts', hr', hp, hpw, hb1⟩
  have hc := compactE_any k g n ts' w1 hr' hn
  have hl : ts'.length = n := hr'.choose_spec.2.2.1
  have HD : Hid (ddP ts' n = srtC cmpE ts) := Lib.hid (by
    rw [← hl, ddP_srt (List.Pairwise.imp (fun {a b} h => by omega) hpw)]
    exact srtC_congr totE fun y => hp.mem_iff)
  have HB := Lib.hid hb1
  clear hs hr' hp hpw hb1 hl
  go_wp2_with fail
  refine hc.mono ?_
  rintro e w2 ⟨m, rfl, hcut, hb2⟩
  rw [HD.out] at hcut
  have HC := Lib.hid (And.intro hcut hb2)
  clear hcut hb2 hc
  go_wp2
  go_ret
  exact ⟨_, rfl, HC.out.1, HB.out.trans HC.out.2⟩
set_option maxHeartbeats 800000 in
theorem eachOnce_nil (w : World) : Calls Tryz.prog 68 #[.slice none 0 0] w fun e w' => e = .returned (.slice none 0 0) ∧ w' = w := by
  have h1 := AnyF.slices_SortFunc_none (P := Tryz.prog) (ρ := Tryz.sortE_ren) Tryz.sortE none 0 (.func (.func 104) #[] #[]) w
  change Calls Tryz.prog 103 _ _ _ at h1
  have h2 : Calls Tryz.prog 105 #[.slice none 0 0, .func (.func 106) #[] #[]] w fun e w' => e = .returned (.slice none 0 0) ∧ w' = w := by
    go_enter Tryz.func105, Tryz.ntmps105
    go_wp2
    go_ret
    exact ⟨rfl, rfl⟩
  go_enter Tryz.func68, Tryz.ntmps68
  go_wp2_with fail
  refine h1.mono ?_
  rintro e w1 ⟨rfl, rfl⟩
  go_wp2_with fail
  refine h2.mono ?_
  rintro e w2 ⟨rfl, rfl⟩
  go_wp2
  go_ret
  exact ⟨rfl, rfl⟩
set_option maxRecDepth 100000 in
set_option maxHeartbeats 1600000 in
theorem fnC_any (k : Nat) (e : En) (cs : List Value) (a : Int) (kb : Nat) (w : World) (he : ES (k + 1) w w.heap.size e cs) (hkb : kb < w.heap.size) (hc : w.cell? ⟨kb, 0, none⟩ = some (.int .i64 a)) :
    Calls Tryz.prog 66 #[.agg cs.toArray, .pointer (some ⟨kb, 0, none⟩)] w fun r w' => r = .returned (.bool (entB a e)) ∧ Below w.heap.size w w' := by
  have h1 : EB (k + 1) w (fun b => b < w.heap.size) e cs := he
  obtain ⟨A0, n0, c0, f, ai, i, s, A1, n1, c1, A2, n2, c2, A3, n3, c3, A4, n4, c4, rfl⟩ := h1.form9
  obtain ⟨W, hW⟩ : ∃ W, W = w.alloc (.cells #[.slice A0 n0 c0, .bool f, .int .i64 ai, .int .i64 i, .string s, .slice A1 n1 c1, .slice A2 n2 c2, .slice A3 n3 c3, .slice A4 n4 c4] 55) := ⟨_, rfl⟩
  have hbb : Below w.heap.size w W := by rw [hW]; exact (Below.refl _ _).alloc (Nat.le_refl _) _
  have q0 : W.cell? ⟨w.heap.size, 0, none⟩ = some (.slice A0 n0 c0) := by rw [hW]; simp
  have q1 : W.cell? ⟨w.heap.size, 1, none⟩ = some (.bool f) := by rw [hW]; simp
  have q2 : W.cell? ⟨w.heap.size, 2, none⟩ = some (.int .i64 ai) := by rw [hW]; simp
  have q3 : W.cell? ⟨w.heap.size, 3, none⟩ = some (.int .i64 i) := by rw [hW]; simp
  have q4 : W.cell? ⟨w.heap.size, 4, none⟩ = some (.string s) := by rw [hW]; simp
  have q5 : W.cell? ⟨w.heap.size, 5, none⟩ = some (.slice A1 n1 c1) := by rw [hW]; simp
  have q6 : W.cell? ⟨w.heap.size, 6, none⟩ = some (.slice A2 n2 c2) := by rw [hW]; simp
  have q7 : W.cell? ⟨w.heap.size, 7, none⟩ = some (.slice A3 n3 c3) := by rw [hW]; simp
  have q8 : W.cell? ⟨w.heap.size, 8, none⟩ = some (.slice A4 n4 c4) := by rw [hW]; simp
  have qa : W.cell? ⟨kb, 0, none⟩ = some (.int .i64 a) := (hbb.cell (p := ⟨kb, 0, none⟩) hkb).trans hc
  have qa' := qa
  rw [hW] at qa'
  have hf := fits_any k e _ a W (ES.up hbb.size (Nat.le_refl _) (ES.on hbb he))
  have HB := Lib.hid hbb
  clear he h1 hbb hc hkb
  generalize entB a e = z at hf ⊢
  go_enter Tryz.func66, Tryz.ntmps66
  go_wp2_with fail
  rw [← hW]
  clear hW
  go_wp2_with (go_at_call 67; refine hf.mono ?_; rintro e w1 ⟨rfl, hb1⟩; refine Hid.out ?_)
  refine Lib.hid ?_
  clear hf
  go_wp2
  go_ret
  exact ⟨rfl, HB.out.trans (hb1.mono HB.out.size)⟩
set_option maxRecDepth 100000 in
set_option maxHeartbeats 1600000 in
theorem functionP_any (k : Nat) (a : Int) (A : Option Addr) (c : Nat) (l : List En) (w : World) (hl : RowP w w.heap.size 9 (.slice A l.length c) l.length (fun j cs => ∃ x, l[j]? = some x ∧ ES (k + 1) w w.heap.size x cs)) (hn : l.length ≤ 100000000) (haw : (Lit.int .i64 a).wf = true) (hs : smlEs l) :
    Calls Tryz.prog 30 #[.int .i64 a, .slice A l.length c] w (FunR (k + 1) w.heap.size a l w) := by
  obtain ⟨W0, hW0⟩ : ∃ W0, W0 = (w.alloc (.cells #[.int .i64 a] 3)).alloc (.cells #[.int .i64 0, .int .i64 0, .string ⟨#[]⟩, .slice none 0 0, .slice none 0 0, .slice none 0 0, .slice none 0 0] 27) := ⟨_, rfl⟩
  have hb0 : Below w.heap.size w W0 := by rw [hW0]; exact ((Below.refl _ _).alloc (Nat.le_refl _) _).alloc (by simp) _
  have z0 : W0.heap.size = w.heap.size + 2 := by rw [hW0]; simp
  have ka : W0.heap[w.heap.size]? = some (.cells #[.int .i64 a] 3 (0, 0)) := by rw [hW0, Below.heap_alloc _ _ _ (by simp)]; exact heap_alloc_new w _
  have kr : W0.heap[w.heap.size + 1]? = some (.cells #[.int .i64 0, .int .i64 0, .string ⟨#[]⟩, .slice none 0 0, .slice none 0 0, .slice none 0 0, .slice none 0 0] 27 (0, 0)) := by rw [hW0]; exact new_at' _ (by simp)
  have egf := enters_of Tryz.func66 (by kernel_rfl) rfl
  have egc := enters_of Tryz.func70 (by kernel_rfl) rfl
  have HROW : Hid (∀ V, Below w.heap.size w V → RowP V V.heap.size 9 (.slice A l.length c) l.length (fun j cs => ∃ x, l[j]? = some x ∧ ES (k + 1) V V.heap.size x cs)) := Lib.hid fun V hV => (hl.on hV fun _ _ ⟨x, h1, h2⟩ => ⟨x, h1, ES.up hV.size (Nat.le_refl _) (ES.on hV h2)⟩).mono hV.size fun _ _ h => h
  have HALL : Hid (∀ V, Below W0.heap.size W0 V → Calls Tryz.prog 65 #[.slice A l.length c, .func (.func 66) #[] #[.pointer (some ⟨w.heap.size, 0, none⟩)]] V fun e w' => e = .returned (.bool (l.all (entB a))) ∧ Below V.heap.size V w') := Lib.hid fun V hV => by
    have hbV := hb0.trans (hV.mono hb0.size)
    exact all9c (k + 1) _ egf (.pointer (some ⟨w.heap.size, 0, none⟩)) (entB a) A c l V (Lib.hid fun e cs U hU he => fnC_any k e cs a w.heap.size U he (by have := hV.size; have := hU.size; omega) ((Lib.cell_of_heap ((hU.block w.heap.size (by have := hV.size; omega)).trans ((hV.block w.heap.size (by omega)).trans ka)) 0).trans rfl)) (HROW.out V hbV)
  have HEACH : Hid (∀ V, Below w.heap.size w V → Calls Tryz.prog 69 #[.slice A l.length c, .func (.func 70) #[] #[]] V fun e w' => ∃ u, e = .returned u ∧ ((l = [] ∧ u = .slice none 0 0) ∨ ∃ g, u = .slice (some ⟨g, 0, none⟩) l.length l.length ∧ V.heap.size ≤ g ∧ EachI (fun w B x cs => EB (k + 1) w B x cs) (fun x => x) 55 9 l g l.length w') ∧ Below V.heap.size V w') := Lib.hid fun V hV =>
    each9O (k + 1) _ egc (fun x => x) (Lib.hid fun e cs w h1 h2 => cloneE_any (k + 1) (Lib.hid fun v cs w h1 h2 => clone_any (k + 1) v cs w h1 h2) e cs w h1 h2) A c l V (HROW.out V hV) (by omega) hs
  have hva := validArity_any a W0
  have HB0 := Lib.hid (And.intro hb0 z0)
  have HKA := Lib.hid (And.intro ka kr)
  have HFB : Hid (funB a l = (decide (0 ≤ a ∧ a ≤ 4) && l.all (entB a))) := Lib.hid rfl
  have HN := Lib.hid (And.intro hn haw)
  generalize hll : l.length = n at *
  have HLL := Lib.hid hll
  generalize hz1 : decide (0 ≤ a ∧ a ≤ 4) = z1 at hva HFB
  generalize hz2 : l.all (entB a) = z2 at HALL HFB
  have qa : ((w.alloc (.cells #[.int .i64 a] 3)).alloc (.cells #[.int .i64 0, .int .i64 0, .string ⟨#[]⟩, .slice none 0 0, .slice none 0 0, .slice none 0 0, .slice none 0 0] 27)).cell? ⟨w.heap.size, 0, none⟩ = some (.int .i64 a) := by rw [← hW0]; exact (Lib.cell_of_heap ka 0).trans rfl
  clear hz1 hz2 hl hn haw hs hb0 z0 ka kr egf egc hll
  go_enter Tryz.func30, Tryz.ntmps30
  go_wp2_with fail
  rw [← hW0]
  clear qa hW0
  refine hva.mono ?_
  rintro e w1 ⟨rfl, hw1⟩
  rw [hw1]
  clear hw1 hva
  cases z1
  · have hU : funB a l = false := by rw [HFB.out]; rfl
    obtain ⟨e0, e1, e2, e3, e4, e5, e6⟩ := cells7 HKA.out.2
    obtain ⟨f0, f1, f2, f3, f4, f5, f6⟩ := frozen7 HKA.out.2
    go_wp2
    obtain ⟨V, hV⟩ : ∃ V, V = ((((((W0.setCell ⟨w.heap.size + 1, 0, none⟩ (.int .i64 0)).setCell ⟨w.heap.size + 1, 1, none⟩ (.int .i64 0)).setCell ⟨w.heap.size + 1, 2, none⟩ (.string ⟨#[]⟩)).setCell ⟨w.heap.size + 1, 3, none⟩ (.slice none 0 0)).setCell ⟨w.heap.size + 1, 4, none⟩ (.slice none 0 0)).setCell ⟨w.heap.size + 1, 5, none⟩ (.slice none 0 0)).setCell ⟨w.heap.size + 1, 6, none⟩ (.slice none 0 0) := ⟨_, rfl⟩
    rw [← hV]
    obtain ⟨ob, hzV, hbV, _⟩ := box7m HKA.out.2 (Nat.le_succ _) _ _ _ _ _ _ _ V hV
    obtain ⟨p0, p1, p2, p3, p4, p5, p6⟩ := cells7 ob
    clear e0 e1 e2 e3 e4 e5 e6 f0 f1 f2 f3 f4 f5 f6 hV
    refine bodyPost_ret (v := .tuple #[.agg #[.int .i64 0, .int .i64 0, .string ⟨#[]⟩, .slice none 0 0, .slice none 0 0, .slice none 0 0, .slice none 0 0], .int .i64 1]) (by simp [results, Tryz.results30, go_sem, p0, p1, p2, p3, p4, p5, p6]) rfl ?_
    exact ⟨HB0.out.1.trans hbV, .inr ⟨hU, rfl⟩⟩
  have hall := HALL.out W0 (Below.refl _ _)
  go_wp2_with fail
  refine hall.mono ?_
  rintro e w1 ⟨rfl, hb1⟩
  clear hall
  have k1 : w1.heap[w.heap.size + 1]? = some (.cells #[.int .i64 0, .int .i64 0, .string ⟨#[]⟩, .slice none 0 0, .slice none 0 0, .slice none 0 0, .slice none 0 0] 27 (0, 0)) := (hb1.block _ (by have := HB0.out.2; omega)).trans HKA.out.2
  have ka1 : w1.heap[w.heap.size]? = some (.cells #[.int .i64 a] 3 (0, 0)) := (hb1.block _ (by have := HB0.out.2; omega)).trans HKA.out.1
  have HB1 : Hid (Below w.heap.size w w1 ∧ w.heap.size + 2 ≤ w1.heap.size) := Lib.hid ⟨HB0.out.1.trans (hb1.mono HB0.out.1.size), by have := hb1.size; have := HB0.out.2; omega⟩
  cases z2
  · have hU : funB a l = false := by rw [HFB.out]; rfl
    obtain ⟨e0, e1, e2, e3, e4, e5, e6⟩ := cells7 k1
    obtain ⟨f0, f1, f2, f3, f4, f5, f6⟩ := frozen7 k1
    go_wp2
    obtain ⟨V, hV⟩ : ∃ V, V = ((((((w1.setCell ⟨w.heap.size + 1, 0, none⟩ (.int .i64 0)).setCell ⟨w.heap.size + 1, 1, none⟩ (.int .i64 0)).setCell ⟨w.heap.size + 1, 2, none⟩ (.string ⟨#[]⟩)).setCell ⟨w.heap.size + 1, 3, none⟩ (.slice none 0 0)).setCell ⟨w.heap.size + 1, 4, none⟩ (.slice none 0 0)).setCell ⟨w.heap.size + 1, 5, none⟩ (.slice none 0 0)).setCell ⟨w.heap.size + 1, 6, none⟩ (.slice none 0 0) := ⟨_, rfl⟩
    rw [← hV]
    obtain ⟨ob, hzV, hbV, _⟩ := box7m k1 (Nat.le_succ _) _ _ _ _ _ _ _ V hV
    obtain ⟨p0, p1, p2, p3, p4, p5, p6⟩ := cells7 ob
    clear e0 e1 e2 e3 e4 e5 e6 f0 f1 f2 f3 f4 f5 f6 hV
    refine bodyPost_ret (v := .tuple #[.agg #[.int .i64 0, .int .i64 0, .string ⟨#[]⟩, .slice none 0 0, .slice none 0 0, .slice none 0 0, .slice none 0 0], .int .i64 1]) (by simp [results, Tryz.results30, go_sem, p0, p1, p2, p3, p4, p5, p6]) rfl ?_
    exact ⟨HB1.out.1.trans hbV, .inr ⟨hU, rfl⟩⟩
  have HU : Hid (funB a l = true) := Lib.hid (by rw [HFB.out]; rfl)
  have HK1 := Lib.hid (And.intro k1 ka1)
  clear k1 ka1 hb1
  go_wp2_with fail
  refine (HEACH.out w1 HB1.out.1).mono ?_
  rintro e w2 ⟨u, rfl, hcase, hb2⟩
  have k2 : w2.heap[w.heap.size + 1]? = some (.cells #[.int .i64 0, .int .i64 0, .string ⟨#[]⟩, .slice none 0 0, .slice none 0 0, .slice none 0 0, .slice none 0 0] 27 (0, 0)) := (hb2.block _ (by have := HB1.out.2; omega)).trans HK1.out.1
  have ka2 : w2.heap[w.heap.size]? = some (.cells #[.int .i64 a] 3 (0, 0)) := (hb2.block _ (by have := HB1.out.2; omega)).trans HK1.out.2
  have HB2 : Hid (Below w.heap.size w w2 ∧ w.heap.size + 2 ≤ w2.heap.size) := Lib.hid ⟨HB1.out.1.trans (hb2.mono HB1.out.1.size), by have := hb2.size; have := HB1.out.2; omega⟩
  rcases hcase with ⟨hnil, rfl⟩ | ⟨g, rfl, hgw, hI⟩
  · have HNIL := Lib.hid hnil
    clear hnil
    go_wp2_with fail
    refine (eachOnce_nil w2).mono ?_
    rintro e w3 ⟨rfl, hw3⟩
    have k3 : w3.heap[w.heap.size + 1]? = some (.cells #[.int .i64 0, .int .i64 0, .string ⟨#[]⟩, .slice none 0 0, .slice none 0 0, .slice none 0 0, .slice none 0 0] 27 (0, 0)) := by rw [hw3]; exact k2
    have qa : w3.cell? ⟨w.heap.size, 0, none⟩ = some (.int .i64 a) := by rw [hw3]; exact (Lib.cell_of_heap ka2 0).trans rfl
    have HB3 : Hid (Below w.heap.size w w3 ∧ w.heap.size + 2 ≤ w3.heap.size) := Lib.hid (by rw [hw3]; exact HB2.out)
    clear k2 ka2 hb2 hw3
    obtain ⟨e0, e1, e2, e3, e4, e5, e6⟩ := cells7 k3
    obtain ⟨f0, f1, f2, f3, f4, f5, f6⟩ := frozen7 k3
    go_wp2
    obtain ⟨V, hV⟩ : ∃ V, V = ((((((w3.setCell ⟨w.heap.size + 1, 0, none⟩ (.int .i64 9)).setCell ⟨w.heap.size + 1, 1, none⟩ (.int .i64 a)).setCell ⟨w.heap.size + 1, 2, none⟩ (.string ⟨#[]⟩)).setCell ⟨w.heap.size + 1, 3, none⟩ (.slice none 0 0)).setCell ⟨w.heap.size + 1, 4, none⟩ (.slice none 0 0)).setCell ⟨w.heap.size + 1, 5, none⟩ (.slice none 0 0)).setCell ⟨w.heap.size + 1, 6, none⟩ (.slice none 0 0) := ⟨_, rfl⟩
    rw [← hV]
    obtain ⟨ob, hzV, hbV, hoV⟩ := box7m k3 (Nat.le_succ _) _ _ _ _ _ _ _ V hV
    obtain ⟨p0, p1, p2, p3, p4, p5, p6⟩ := cells7 ob
    clear e0 e1 e2 e3 e4 e5 e6 f0 f1 f2 f3 f4 f5 f6 qa hV
    refine bodyPost_ret (v := .tuple #[.agg #[.int .i64 9, .int .i64 a, .string ⟨#[]⟩, .slice none 0 0, .slice none 0 0, .slice none 0 0, .slice none 0 0], .int .i64 0]) (by simp [results, Tryz.results30, go_sem, p0, p1, p2, p3, p4, p5, p6]) rfl ?_
    refine ⟨HB3.out.1.trans hbV, .inl ⟨HU.out, _, rfl, ?_⟩⟩
    rw [HNIL.out]
    exact ⟨_, _, _, _, rfl, by decide, HN.out.2, Nat.zero_le _, zeroRow _ _ _ _, zeroRow _ _ _ _, zeroRow _ _ _ _, zeroRow _ _ _ _⟩
  · have hrow : EntRow (k + 1) g n l w2 := by
      obtain ⟨xs, h1, h2, h3⟩ := hI
      rw [HLL.out] at h1
      exact ⟨xs, h1, h2, HLL.out, fun q hq => h3 q hq⟩
    have ho := eachOnce_any (k + 1) g n l w2 hrow (by have := HN.out.1; omega)
    have HG := Lib.hid hgw
    clear hrow hI hgw
    go_wp2_with fail
    refine ho.mono ?_
    rintro e w3 ⟨m, rfl, hcut, hb3⟩
    have k3 : w3.heap[w.heap.size + 1]? = some (.cells #[.int .i64 0, .int .i64 0, .string ⟨#[]⟩, .slice none 0 0, .slice none 0 0, .slice none 0 0, .slice none 0 0] 27 (0, 0)) := (hb3.block _ (by have := HG.out; have := HB1.out.2; omega)).trans k2
    have qa : w3.cell? ⟨w.heap.size, 0, none⟩ = some (.int .i64 a) := (Lib.cell_of_heap ((hb3.block _ (by have := HG.out; have := HB1.out.2; omega)).trans ka2) 0).trans rfl
    have HB3 : Hid (Below w.heap.size w w3 ∧ w.heap.size + 2 ≤ w3.heap.size) := Lib.hid ⟨HB2.out.1.trans (hb3.mono (by have := HG.out; have := HB1.out.2; omega)), by have := hb3.size; have := HB2.out.2; omega⟩
    have HC := Lib.hid hcut
    clear k2 ka2 hb2 hb3 hcut ho
    obtain ⟨e0, e1, e2, e3, e4, e5, e6⟩ := cells7 k3
    obtain ⟨f0, f1, f2, f3, f4, f5, f6⟩ := frozen7 k3
    go_wp2
    obtain ⟨V, hV⟩ : ∃ V, V = ((((((w3.setCell ⟨w.heap.size + 1, 0, none⟩ (.int .i64 9)).setCell ⟨w.heap.size + 1, 1, none⟩ (.int .i64 a)).setCell ⟨w.heap.size + 1, 2, none⟩ (.string ⟨#[]⟩)).setCell ⟨w.heap.size + 1, 3, none⟩ (.slice none 0 0)).setCell ⟨w.heap.size + 1, 4, none⟩ (.slice none 0 0)).setCell ⟨w.heap.size + 1, 5, none⟩ (.slice (some ⟨g, 0, none⟩) m n)).setCell ⟨w.heap.size + 1, 6, none⟩ (.slice none 0 0) := ⟨_, rfl⟩
    rw [← hV]
    obtain ⟨ob, hzV, hbV, hoV⟩ := box7m k3 (Nat.le_succ _) _ _ _ _ _ _ _ V hV
    obtain ⟨p0, p1, p2, p3, p4, p5, p6⟩ := cells7 ob
    clear e0 e1 e2 e3 e4 e5 e6 f0 f1 f2 f3 f4 f5 f6 qa hV
    refine bodyPost_ret (v := .tuple #[.agg #[.int .i64 9, .int .i64 a, .string ⟨#[]⟩, .slice none 0 0, .slice none 0 0, .slice (some ⟨g, 0, none⟩) m n, .slice none 0 0], .int .i64 0]) (by simp [results, Tryz.results30, go_sem, p0, p1, p2, p3, p4, p5, p6]) rfl ?_
    refine ⟨HB3.out.1.trans hbV, .inl ⟨HU.out, _, rfl, ?_⟩⟩
    obtain ⟨xs, h1, hg1, hlm, hel⟩ := HC.out
    have hgb : w.heap.size + 2 ≤ g := by have := HG.out; have := HB1.out.2; omega
    have hsl := srtC_len (c := cmpE) l
    have hr := row_of_owns (R := fun j cs => ∃ args fails result, (srtC cmpE l)[j]? = some (.mk args fails result) ∧ ∃ ua rs, cs = ua :: .bool fails :: rs ∧ RowB w3 (fun b => g < b ∧ b < w3.heap.size) 7 ua args.length (fun j cs => ∃ x, args[j]? = some x ∧ VB (k + 1) w3 (fun b => g < b ∧ b < w3.heap.size) x cs) ∧ VB (k + 1) w3 (fun b => g < b ∧ b < w3.heap.size) result rs) (B := Btw g w3.heap.size) h1 (by have := HN.out.1; have := HLL.out; unfold maxLen; omega) (fun g' _ h h' => ⟨h, h'⟩) (fun q hq => by
      obtain ⟨x, hx, args, fails, result, rfl, ua, rs, hcs, r1, r2⟩ := hel q hq
      exact ⟨args, fails, result, hx, ua, rs, hcs, r1, r2⟩) (by omega)
    have hsm : Same (fun b => g ≤ b ∧ b < w3.heap.size) w3 V := ⟨by omega, fun b i hb _ => World.cell?_of_block (hoV b (by have := hb.1; omega))⟩
    have hsm2 : Same (fun b => g < b ∧ b < w3.heap.size) w3 V := ⟨by omega, fun b i hb _ => World.cell?_of_block (hoV b (by have := hb.1; omega))⟩
    have hr2 := RowB.sub (RowB.keep hr hsm fun _ _ h => h) (B' := Btw w.heap.size V.heap.size) (fun b hb => ⟨by have := hb.1; omega, by have := hb.2; omega⟩) (R' := fun j cs => ∃ args fails result, (srtC cmpE l)[j]? = some (.mk args fails result) ∧ ∃ ua rs, cs = ua :: .bool fails :: rs ∧ RowB V (Btw w.heap.size V.heap.size) 7 ua args.length (fun j cs => ∃ x, args[j]? = some x ∧ VB (k + 1) V (Btw w.heap.size V.heap.size) x cs) ∧ VB (k + 1) V (Btw w.heap.size V.heap.size) result rs) (fun j cs ⟨args, fails, result, hx, ua, rs, hcs, r1, r2⟩ => ⟨args, fails, result, hx, ua, rs, hcs,
        RowB.sub (RowB.keep r1 hsm2 fun _ _ h => h) (fun b hb => ⟨by have := hb.1; omega, by have := hb.2; omega⟩) (fun _ _ ⟨x, q1, q2⟩ => ⟨x, q1, VB.sub (fun b hb => ⟨by have := hb.1; omega, by have := hb.2; omega⟩) (Nat.le_refl _) (VB.keep hsm2 q2)⟩),
        VB.sub (fun b hb => ⟨by have := hb.1; omega, by have := hb.2; omega⟩) (Nat.le_refl _) (VB.keep hsm2 r2)⟩)
    subst hlm
    exact ⟨_, _, _, _, rfl, by decide, HN.out.2, Nat.zero_le _, zeroRow _ _ _ _, zeroRow _ _ _ _, hr2, zeroRow _ _ _ _⟩
end Go.Proofs.YtjfknigiehggkaaGreat
