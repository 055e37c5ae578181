/- The walk of Paths, walked. -/
import Derived.Test.YtplmbmecjhmiiaaDoorPth6
namespace Go.Proofs.YtplmbmecjhmiiaaDoor
open Go Go.RowKit Go.Maps
theorem OwnI.low {w : World} {base base' : Nat} {v : Value} {l : List Int} (h : OwnI w base v l) (hb : base' ≤ base) : OwnI w base' v l := by
  obtain ⟨xs, ho, hx⟩ := h
  refine ⟨xs, ⟨ho.1, ?_⟩, fun j x hj => hx j x hj⟩
  rcases ho.2 with hn | ⟨g, cap, cur, rfl, hB, rest⟩
  · exact .inl hn
  · exact .inr ⟨g, cap, cur, rfl, by omega, rest⟩
theorem slice_pop (V : World) (g n cap : Nat) (hc : n + 1 ≤ cap) : (Instr.slice 24 (.slice (some ⟨g, 0, none⟩) (n + 1) cap) none (some (.int .i64 (n : Int))) none).run Tryd.prog V = .ok (.slice (some ⟨g, 0, none⟩) n cap) V := by
  have ht' : Tryd.prog.underlying 24 = some (.slice (Tryd.prog.elem 24)) := by kernel_rfl
  have he : Tryd.prog.elem 24 = 3 := by kernel_rfl
  have hsz : ∀ V, (Go.sizeOf 3).run Tryd.prog V = .ok 1 V := fun V => by kernel_rfl
  rw [run_slice_h V 24 _ _ _ ht' .i64 _ (by omega) (by omega), he, hsz]
  have h0 : cap ≠ 0 := by omega
  simp [Result.andThen, sliced, Addr.add, h0]
/-- a path appended, and the store -/
theorem PE.leaf {E : PE} (hW : E.Wf) {w V2 : World} {p q : List Int} {ps : List (List Int × List Int)} {u1 u2 u3 : Option Nat} {vp vq vs s t : Value} (h : E.St w p q ps u1 u2 u3 vp vq vs) (hb : Below w.heap.size w V2) (hs : OwnI V2 w.heap.size s p) (ht : OwnI V2 w.heap.size t q) (hps : ps.length ≤ 200000) (hl : p.length ≤ 100000 ∧ q.length ≤ 100000) (h1c : s.oneCell' = true ∧ t.oneCell' = true) :
    ∃ g cap w3, (Builtin.append_ #[22, 22] 22 #[vs, .slice (some ⟨V2.heap.size, 0, none⟩) 1 1]).run Tryd.prog (V2.alloc (.cells #[s, t] 26)) = .ok (.slice (some ⟨g, 0, none⟩) (ps.length + 1) cap) w3 ∧ w3.cell? ⟨E.bp, 0, none⟩ = some vs ∧ w3.frozen? ⟨E.bp, 0, none⟩ = false ∧ (w3.cell? ⟨E.bq, 0, none⟩ = some vp ∧ w3.cell? ⟨E.bn, 0, none⟩ = some vq) ∧
      E.St (w3.setCell ⟨E.bp, 0, none⟩ (.slice (some ⟨g, 0, none⟩) (ps.length + 1) cap)) p q (ps ++ [(p, q)]) u1 u2 (some g) vp vq (.slice (some ⟨g, 0, none⟩) (ps.length + 1) cap) ∧ E.Acc w u1 u2 u3 (w3.setCell ⟨E.bp, 0, none⟩ (.slice (some ⟨g, 0, none⟩) (ps.length + 1) cap)) u1 u2 (some g) := by
  have h2 := h.old hW hb
  have own := h.own
  have hsz := hb.size
  have hbs := h.base
  have hX : ∀ v l, OwnI V2 w.heap.size v l → l.length ≤ 100000 → IntR V2 (fun b => (E.base ≤ b ∧ b < V2.heap.size ∧ some b ≠ vs.ownBlock) ∧ ¬ (some b = u1 ∨ some b = u2)) v l := fun v l ho hll => by
    refine RowB.sub (ho.int (by unfold maxLen; omega)) (fun b hb => ⟨⟨by omega, hb.2.1, fun e => ?_⟩, fun e => ?_⟩) (fun _ _ h => h)
    · rw [h.e3] at e
      have := (own b (.inr (.inr e))).2
      omega
    · rcases e with e | e
      · have := (own b (.inl e)).2; omega
      · have := (own b (.inr (.inl e))).2; omega
  obtain ⟨g, cap, w3, hr, hO, hb3, hk, hg⟩ := app_p (fun b => some b = u1 ∨ some b = u2) V2 E.base vs ps h2.os (p, q) s t ⟨s, t, rfl, hX s p hs hl.1, hX t q ht hl.2⟩ h1c (by omega) (by omega) 22
  have hk' := hk
  rw [h.e3] at hk'
  obtain ⟨l1, l2, l3, _, _⟩ := hW.lt
  have nb : ∀ b, b < E.base → some b ≠ u3 := fun b hb e => by have := (own b (.inr (.inr e))).1; omega
  have k1 := (hk' _ (by omega) (nb _ l1)).trans h2.ks
  have k2 := (hk' _ (by omega) (nb _ l2)).trans h2.kp
  have k3 := (hk' _ (by omega) (nb _ l3)).trans h2.kq
  obtain ⟨p1, p2, p3⟩ := h2.push3 hW (v' := .slice (some ⟨g, 0, none⟩) (ps.length + 1) cap) rfl hO hb3 hk hg
  exact ⟨g, cap, w3, hr, (Lib.cell_of_heap k1 0).trans rfl, Lib.frozen_of_heap k1 0, ⟨(Lib.cell_of_heap k2 0).trans rfl, (Lib.cell_of_heap k3 0).trans rfl⟩, p1, ((PE.Acc.refl E w u1 u2 u3).old hb).step p3 (.inl rfl) (.inl rfl) p2⟩
set_option maxRecDepth 100000 in
set_option maxHeartbeats 6400000 in
theorem walkP_zero (E : PE) (N : Nat) (p q : List Int) (ps : List (List Int × List Int)) (u1 u2 u3 : Option Nat) (w : World) (hP : E.Pre 0 p q ps u1 u2 u3 w) : Calls Tryd.prog 27 #[.int .i64 0, .pointer (some ⟨E.bp, 0, none⟩), .pointer (some ⟨E.bq, 0, none⟩), .pointer (some ⟨E.bn, 0, none⟩), .pointer (some ⟨E.ba, 0, none⟩), .pointer (some ⟨E.bw, 0, none⟩)] w (E.Post N 0 p q ps u1 u2 u3 w) := by
  obtain ⟨_, ⟨vp, vq, vs, hS⟩, _⟩ := hP
  have HF : Hid (∀ e, e = Ending.returned (.tuple #[]) → E.Post N 0 p q ps u1 u2 u3 w e w) := Lib.hid fun e he => by
    unfold PE.Post
    rw [pth_zero, List.append_nil]
    exact ⟨he, u1, u2, u3, vp, vq, vs, hS, PE.Acc.refl _ _ _ _ _⟩
  generalize hPost : E.Post N 0 p q ps u1 u2 u3 w = Post at *
  clear hPost hS
  go_enter Tryd.func27, Tryd.ntmps27
  go_wp2
  refine bodyPost_ret (v := .tuple #[]) (by simp [results, Tryd.results27, go_sem]) rfl ?_
  exact HF.out _ rfl
set_option maxRecDepth 100000 in
set_option maxHeartbeats 6400000 in
theorem walkP_one (E : PE) (hW : E.Wf) (N : Nat) (p q : List Int) (ps : List (List Int × List Int)) (u1 u2 u3 : Option Nat) (w : World) (hP : E.Pre 1 p q ps u1 u2 u3 w) : Calls Tryd.prog 27 #[.int .i64 1, .pointer (some ⟨E.bp, 0, none⟩), .pointer (some ⟨E.bq, 0, none⟩), .pointer (some ⟨E.bn, 0, none⟩), .pointer (some ⟨E.ba, 0, none⟩), .pointer (some ⟨E.bw, 0, none⟩)] w (E.Post (N + 1) 1 p q ps u1 u2 u3 w) := by
  obtain ⟨_, ⟨vp, vq, vs, hS⟩, hl1, hl2⟩ := hP
  have hWW := Lib.hid hW
  have HS := Lib.hid hS
  have HL := Lib.hid (And.intro hl1 hl2)
  have HF : Hid (∀ e w' g v, e = Ending.returned (.tuple #[]) → E.St w' p q (ps ++ [(p, q)]) u1 u2 (some g) vp vq v → E.Acc w u1 u2 u3 w' u1 u2 (some g) → E.Post (N + 1) 1 p q ps u1 u2 u3 w e w') := Lib.hid fun e w' g v he h1 h2 => by
    unfold PE.Post
    rw [pth_one]
    exact ⟨he, u1, u2, some g, vp, vq, v, h1, h2⟩
  have hbs := hS.base
  have HC : Hid (∀ V, Below w.heap.size w V → (V.cell? ⟨E.bq, 0, none⟩ = some vp ∧ V.cell? ⟨E.bn, 0, none⟩ = some vq) ∧ V.cell? ⟨E.bp, 0, none⟩ = some vs) := Lib.hid fun V hV => by
    have h := hS.old hW hV
    exact ⟨⟨(Lib.cell_of_heap h.kp 0).trans rfl, (Lib.cell_of_heap h.kq 0).trans rfl⟩, (Lib.cell_of_heap h.ks 0).trans rfl⟩
  have HCp : Hid (∀ V, Below w.heap.size w V → Calls Tryd.prog 28 #[vp] V fun e w' => ∃ v', e = .returned v' ∧ OwnI w' V.heap.size v' p ∧ Below V.heap.size V w') := Lib.hid fun V hV => copyOf_any vp p V (RowB.sub ((hS.old hW hV).op.int (by unfold maxLen; omega)) (fun b hb => hb.2.1) (fun _ _ h => h)) (by omega)
  have HCq : Hid (∀ V, Below w.heap.size w V → Calls Tryd.prog 28 #[vq] V fun e w' => ∃ v', e = .returned v' ∧ OwnI w' V.heap.size v' q ∧ Below V.heap.size V w') := Lib.hid fun V hV => copyOf_any vq q V (RowB.sub ((hS.old hW hV).oq.int (by unfold maxLen; omega)) (fun b hb => hb.2.1) (fun _ _ h => h)) (by omega)
  generalize hPost : E.Post (N + 1) 1 p q ps u1 u2 u3 w = Post at *
  clear hPost hS hl1 hl2 hW hbs
  go_enter Tryd.func27, Tryd.ntmps27
  go_wp2_with fail
  have HB0 := Lib.hid ((Below.refl w.heap.size w).drew)
  refine wp_region_held_drew (S := fun V => (V.cell? ⟨E.bq, 0, none⟩ = some vp ∧ V.cell? ⟨E.bn, 0, none⟩ = some vq)) (by kernel_rfl) (HC.out _ HB0.out).1 (fun _ => ?_)
  refine tk 1 ((HC.out _ HB0.out).1) ?_
  try simp only [Act.put, pA, pB, pC]
  refine tk 3 ((HC.out _ HB0.out).1) ?_
  try simp only [Act.put, pA, pB, pC]
  refine wpAnyH_all (rs := [0, 2]) (by kernel_rfl) (by simp) fun j hj => ?_
  have hj2 : j = 0 ∨ j = 2 := by simpa using hj
  clear hj
  rcases hj2 with rfl | rfl
  · have t0 := (HC.out _ HB0.out).2
    refine step_op rfl (by rfl) (fun K hK => ?_)
    go_simp
    refine hK _ _ ⟨(HC.out _ HB0.out).1, ?_⟩
    try simp only [Act.put, pA, pB, pC]
    clear hK K t0
    refine one_op 2 (by kernel_rfl) rfl (by rfl) (fun K hK => ?_)
    go_simp
    refine (HCp.out _ HB0.out).mono ?_
    rintro e V1 ⟨s, rfl, hs, hb1⟩
    obtain ⟨sA, sc, rfl⟩ := hs.form
    have HB1 := Lib.hid (HB0.out.trans (hb1.mono (Nat.le_refl _)))
    have HSs := Lib.hid (hs.low (Nat.le_refl w.heap.size))
    clear hs hb1
    refine hK _ _ (HC.out _ HB1.out).1 ?_
    try simp only [Act.put, pA, pB, pC]
    clear hK K
    refine one_op 4 (by kernel_rfl) rfl (by rfl) (fun K hK => ?_)
    go_simp
    refine (HCq.out _ HB1.out).mono ?_
    rintro e V2 ⟨t, rfl, ht, hb2⟩
    obtain ⟨tA, tc, rfl⟩ := ht.form
    have HB2 := Lib.hid (HB1.out.trans (hb2.mono HB1.out.size))
    have HSt := Lib.hid (And.intro (HSs.out.old hb2) (ht.low HB1.out.size))
    clear ht hb2
    refine hK _ _ (HC.out _ HB2.out).1 ?_
    try simp only [Act.put, pA, pB, pC]
    clear hK K
    refine tk 5 ((HC.out _ HB2.out).1) ?_
    try simp only [Act.put, pA, pB, pC]
    refine one_op 6 (by kernel_rfl) rfl (by rfl) (fun K hK => ?_)
    have HB3 := Lib.hid (HB2.out.alloc HB2.out.size (.cells #[.slice sA p.length sc, .slice tA q.length tc] 26))
    go_simp
    refine hK _ _ (HC.out _ HB3.out).1 ?_
    try simp only [Act.put, pA, pB, pC]
    clear hK K
    refine one_op 7 (by kernel_rfl) rfl (by rfl) (fun K hK => ?_)
    obtain ⟨g, cap, w3, hr, t1, z1, hS3, hSt4, hAc⟩ := PE.leaf hWW.out HS.out HB2.out HSt.out.1 HSt.out.2 (by have := Nat.le_trans (Nat.le_add_right ps.length _) HL.out.2; omega) (by have := HL.out.1; omega) ⟨rfl, rfl⟩
    refine Lib.wp_append_run _ _ _ _ _ rfl _ _ rfl rfl _ w3 hr ?_
    refine hK _ _ hS3 ?_
    try simp only [Act.put, pA, pB, pC]
    clear hK K
    refine one_op 8 (by kernel_rfl) rfl (by rfl) (fun K hK => ?_)
    clear hr
    go_simp
    have hS4 : (fun V => (V.cell? ⟨E.bq, 0, none⟩ = some vp ∧ V.cell? ⟨E.bn, 0, none⟩ = some vq)) (w3.setCell ⟨E.bp, 0, none⟩ (.slice (some ⟨g, 0, none⟩) (ps.length + 1) cap)) := ⟨(Lib.cell_of_heap hSt4.kp 0).trans rfl, (Lib.cell_of_heap hSt4.kq 0).trans rfl⟩
    refine hK _ _ hS4 ?_
    try simp only [Act.put, pA, pB, pC]
    clear hK K
    refine wpAnyH_done (by kernel_rfl) ?_ _
    have HZ := Lib.hid (HF.out _ _ g _ rfl hSt4 hAc)
    clear hSt4 hAc t1 z1 hS3 hS4
    go_wp2
    refine bodyPost_ret (v := .tuple #[]) (by simp [results, Tryd.results27, go_sem]) rfl ?_
    exact HZ.out
  · refine step_op rfl (by rfl) (fun K hK => ?_)
    go_simp
    refine (HCp.out _ HB0.out).mono ?_
    rintro e V1 ⟨s, rfl, hs, hb1⟩
    obtain ⟨sA, sc, rfl⟩ := hs.form
    have HB1 := Lib.hid (HB0.out.trans (hb1.mono (Nat.le_refl _)))
    have HSs := Lib.hid (hs.low (Nat.le_refl w.heap.size))
    clear hs hb1
    refine hK _ _ ⟨(HC.out _ HB1.out).1, ?_⟩
    try simp only [Act.put, pA, pB, pC]
    clear hK K
    refine wpAnyH_all (rs := [0, 4]) (by kernel_rfl) (by simp) fun j hj => ?_
    have hj2 : j = 0 ∨ j = 4 := by simpa using hj
    clear hj
    rcases hj2 with rfl | rfl
    · have t0 := (HC.out _ HB1.out).2
      refine step_op rfl (by rfl) (fun K hK => ?_)
      go_simp
      refine hK _ _ ⟨(HC.out _ HB1.out).1, ?_⟩
      try simp only [Act.put, pA, pB, pC]
      clear hK K t0
      refine one_op 4 (by kernel_rfl) rfl (by rfl) (fun K hK => ?_)
      go_simp
      refine (HCq.out _ HB1.out).mono ?_
      rintro e V2 ⟨t, rfl, ht, hb2⟩
      obtain ⟨tA, tc, rfl⟩ := ht.form
      have HB2 := Lib.hid (HB1.out.trans (hb2.mono HB1.out.size))
      have HSt := Lib.hid (And.intro (HSs.out.old hb2) (ht.low HB1.out.size))
      clear ht hb2
      refine hK _ _ (HC.out _ HB2.out).1 ?_
      try simp only [Act.put, pA, pB, pC]
      clear hK K
      refine tk 5 ((HC.out _ HB2.out).1) ?_
      try simp only [Act.put, pA, pB, pC]
      refine one_op 6 (by kernel_rfl) rfl (by rfl) (fun K hK => ?_)
      have HB3 := Lib.hid (HB2.out.alloc HB2.out.size (.cells #[.slice sA p.length sc, .slice tA q.length tc] 26))
      go_simp
      refine hK _ _ (HC.out _ HB3.out).1 ?_
      try simp only [Act.put, pA, pB, pC]
      clear hK K
      refine one_op 7 (by kernel_rfl) rfl (by rfl) (fun K hK => ?_)
      obtain ⟨g, cap, w3, hr, t1, z1, hS3, hSt4, hAc⟩ := PE.leaf hWW.out HS.out HB2.out HSt.out.1 HSt.out.2 (by have := Nat.le_trans (Nat.le_add_right ps.length _) HL.out.2; omega) (by have := HL.out.1; omega) ⟨rfl, rfl⟩
      refine Lib.wp_append_run _ _ _ _ _ rfl _ _ rfl rfl _ w3 hr ?_
      refine hK _ _ hS3 ?_
      try simp only [Act.put, pA, pB, pC]
      clear hK K
      refine one_op 8 (by kernel_rfl) rfl (by rfl) (fun K hK => ?_)
      clear hr
      go_simp
      have hS4 : (fun V => (V.cell? ⟨E.bq, 0, none⟩ = some vp ∧ V.cell? ⟨E.bn, 0, none⟩ = some vq)) (w3.setCell ⟨E.bp, 0, none⟩ (.slice (some ⟨g, 0, none⟩) (ps.length + 1) cap)) := ⟨(Lib.cell_of_heap hSt4.kp 0).trans rfl, (Lib.cell_of_heap hSt4.kq 0).trans rfl⟩
      refine hK _ _ hS4 ?_
      try simp only [Act.put, pA, pB, pC]
      clear hK K
      refine wpAnyH_done (by kernel_rfl) ?_ _
      have HZ := Lib.hid (HF.out _ _ g _ rfl hSt4 hAc)
      clear hSt4 hAc t1 z1 hS3 hS4
      go_wp2
      refine bodyPost_ret (v := .tuple #[]) (by simp [results, Tryd.results27, go_sem]) rfl ?_
      exact HZ.out
    · refine step_op rfl (by rfl) (fun K hK => ?_)
      go_simp
      refine (HCq.out _ HB1.out).mono ?_
      rintro e V2 ⟨t, rfl, ht, hb2⟩
      obtain ⟨tA, tc, rfl⟩ := ht.form
      have HB2 := Lib.hid (HB1.out.trans (hb2.mono HB1.out.size))
      have HSt := Lib.hid (And.intro (HSs.out.old hb2) (ht.low HB1.out.size))
      clear ht hb2
      refine hK _ _ ⟨(HC.out _ HB2.out).1, ?_⟩
      try simp only [Act.put, pA, pB, pC]
      clear hK K
      refine tk 5 ((HC.out _ HB2.out).1) ?_
      try simp only [Act.put, pA, pB, pC]
      refine wpAnyH_all (rs := [0, 6]) (by kernel_rfl) (by simp) fun j hj => ?_
      have hj2 : j = 0 ∨ j = 6 := by simpa using hj
      clear hj
      rcases hj2 with rfl | rfl
      · have t0 := (HC.out _ HB2.out).2
        refine step_op rfl (by rfl) (fun K hK => ?_)
        go_simp
        refine hK _ _ ⟨(HC.out _ HB2.out).1, ?_⟩
        try simp only [Act.put, pA, pB, pC]
        clear hK K t0
        refine one_op 6 (by kernel_rfl) rfl (by rfl) (fun K hK => ?_)
        have HB3 := Lib.hid (HB2.out.alloc HB2.out.size (.cells #[.slice sA p.length sc, .slice tA q.length tc] 26))
        go_simp
        refine hK _ _ (HC.out _ HB3.out).1 ?_
        try simp only [Act.put, pA, pB, pC]
        clear hK K
        refine one_op 7 (by kernel_rfl) rfl (by rfl) (fun K hK => ?_)
        obtain ⟨g, cap, w3, hr, t1, z1, hS3, hSt4, hAc⟩ := PE.leaf hWW.out HS.out HB2.out HSt.out.1 HSt.out.2 (by have := Nat.le_trans (Nat.le_add_right ps.length _) HL.out.2; omega) (by have := HL.out.1; omega) ⟨rfl, rfl⟩
        refine Lib.wp_append_run _ _ _ _ _ rfl _ _ rfl rfl _ w3 hr ?_
        refine hK _ _ hS3 ?_
        try simp only [Act.put, pA, pB, pC]
        clear hK K
        refine one_op 8 (by kernel_rfl) rfl (by rfl) (fun K hK => ?_)
        clear hr
        go_simp
        have hS4 : (fun V => (V.cell? ⟨E.bq, 0, none⟩ = some vp ∧ V.cell? ⟨E.bn, 0, none⟩ = some vq)) (w3.setCell ⟨E.bp, 0, none⟩ (.slice (some ⟨g, 0, none⟩) (ps.length + 1) cap)) := ⟨(Lib.cell_of_heap hSt4.kp 0).trans rfl, (Lib.cell_of_heap hSt4.kq 0).trans rfl⟩
        refine hK _ _ hS4 ?_
        try simp only [Act.put, pA, pB, pC]
        clear hK K
        refine wpAnyH_done (by kernel_rfl) ?_ _
        have HZ := Lib.hid (HF.out _ _ g _ rfl hSt4 hAc)
        clear hSt4 hAc t1 z1 hS3 hS4
        go_wp2
        refine bodyPost_ret (v := .tuple #[]) (by simp [results, Tryd.results27, go_sem]) rfl ?_
        exact HZ.out
      · refine step_op rfl (by rfl) (fun K hK => ?_)
        have HB3 := Lib.hid (HB2.out.alloc HB2.out.size (.cells #[.slice sA p.length sc, .slice tA q.length tc] 26))
        go_simp
        refine hK _ _ ⟨(HC.out _ HB3.out).1, ?_⟩
        try simp only [Act.put, pA, pB, pC]
        clear hK K
        have t0 := (HC.out _ HB3.out).2
        refine one_op 0 (by kernel_rfl) rfl (by rfl) (fun K hK => ?_)
        go_simp
        refine hK _ _ (HC.out _ HB3.out).1 ?_
        try simp only [Act.put, pA, pB, pC]
        clear hK K t0
        refine one_op 7 (by kernel_rfl) rfl (by rfl) (fun K hK => ?_)
        obtain ⟨g, cap, w3, hr, t1, z1, hS3, hSt4, hAc⟩ := PE.leaf hWW.out HS.out HB2.out HSt.out.1 HSt.out.2 (by have := Nat.le_trans (Nat.le_add_right ps.length _) HL.out.2; omega) (by have := HL.out.1; omega) ⟨rfl, rfl⟩
        refine Lib.wp_append_run _ _ _ _ _ rfl _ _ rfl rfl _ w3 hr ?_
        refine hK _ _ hS3 ?_
        try simp only [Act.put, pA, pB, pC]
        clear hK K
        refine one_op 8 (by kernel_rfl) rfl (by rfl) (fun K hK => ?_)
        clear hr
        go_simp
        have hS4 : (fun V => (V.cell? ⟨E.bq, 0, none⟩ = some vp ∧ V.cell? ⟨E.bn, 0, none⟩ = some vq)) (w3.setCell ⟨E.bp, 0, none⟩ (.slice (some ⟨g, 0, none⟩) (ps.length + 1) cap)) := ⟨(Lib.cell_of_heap hSt4.kp 0).trans rfl, (Lib.cell_of_heap hSt4.kq 0).trans rfl⟩
        refine hK _ _ hS4 ?_
        try simp only [Act.put, pA, pB, pC]
        clear hK K
        refine wpAnyH_done (by kernel_rfl) ?_ _
        have HZ := Lib.hid (HF.out _ _ g _ rfl hSt4 hAc)
        clear hSt4 hAc t1 z1 hS3 hS4
        go_wp2
        refine bodyPost_ret (v := .tuple #[]) (by simp [results, Tryd.results27, go_sem]) rfl ?_
        exact HZ.out
set_option maxRecDepth 100000 in
set_option maxHeartbeats 6400000 in
theorem walkP_node (E : PE) (hW : E.Wf) (N i : Nat) (n : Nd) (p q : List Int) (ps : List (List Int × List Int)) (u1 u2 u3 : Option Nat) (w : World) (hP : E.Pre (i + 2) p q ps u1 u2 u3 w) (hn : E.us[i]? = some n)
    (IH : Hid (∀ (r' : Nat) (p' q' : List Int) (ps' : List (List Int × List Int)) (v1 v2 v3 : Option Nat) (w' : World), n.l < litR E.us r' → E.Pre r' p' q' ps' v1 v2 v3 w' → Calls Tryd.prog 27 #[.int .i64 r', .pointer (some ⟨E.bp, 0, none⟩), .pointer (some ⟨E.bq, 0, none⟩), .pointer (some ⟨E.bn, 0, none⟩), .pointer (some ⟨E.ba, 0, none⟩), .pointer (some ⟨E.bw, 0, none⟩)] w' (E.Post N r' p' q' ps' v1 v2 v3 w'))) : Calls Tryd.prog 27 #[.int .i64 ((i + 2 : Nat) : Int), .pointer (some ⟨E.bp, 0, none⟩), .pointer (some ⟨E.bq, 0, none⟩), .pointer (some ⟨E.bn, 0, none⟩), .pointer (some ⟨E.ba, 0, none⟩), .pointer (some ⟨E.bw, 0, none⟩)] w (E.Post (N + 1) (i + 2) p q ps u1 u2 u3 w) := by
  obtain ⟨hr, ⟨vp, vq, vs, hS⟩, hl1, hl2⟩ := hP
  have hlen := hW.len
  have hil := (List.getElem?_eq_some_iff.1 hn).1
  obtain ⟨o1, o2, o3, o4, o5⟩ := hW.ou i n hn
  rw [litR_node hn] at hl1 hl2
  have hTa : 2 ^ (12 - litR E.us n.h) ≤ 2 ^ (11 - n.l) := Nat.pow_le_pow_right (by omega) (by omega)
  have hTb : 2 ^ (12 - litR E.us n.o) ≤ 2 ^ (11 - n.l) := Nat.pow_le_pow_right (by omega) (by omega)
  have hT : 2 * 2 ^ (11 - n.l) = 2 ^ (12 - n.l) := by rw [show 12 - n.l = (11 - n.l) + 1 by omega, Nat.pow_succ]; omega
  have hpl := pth_len hW.ou N n.h (p ++ [(n.l : Int)]) q (by omega)
  have q1 : (((i + 2 : Nat) : Int) == 0) = false := by rw [beq_eq_false_iff_ne]; omega
  have q2 : (((i + 2 : Nat) : Int) == 1) = false := by rw [beq_eq_false_iff_ne]; omega
  have hwr : IntKind.i64.wrap (((i + 2 : Nat) : Int) - 2) = (i : Int) := by rw [IntWalk.i64_in _ (by omega)]; omega
  have kn : (i : Int) < (E.us.length : Int) := by omega
  have k0 : (0 : Int) ≤ (i : Int) := by omega
  obtain ⟨b, off, x, hA, hbH, hx, c0, c1, c2⟩ := hS.box.ru.at (j := i) hil
  have hxe : x = ni n := by rw [List.getElem?_map, hn] at hx; exact (Option.some.inj hx).symm
  subst hxe
  change w.cell? ⟨b, off + i * 3, none⟩ = some (.int .i64 n.l) at c0
  change w.cell? ⟨b, off + i * 3 + 1, none⟩ = some (.int .i64 n.h) at c1
  change w.cell? ⟨b, off + i * 3 + 2, none⟩ = some (.int .i64 n.o) at c2
  obtain ⟨W, hWd⟩ : ∃ W, W = w.alloc (.cells #[.int .i64 n.l, .int .i64 n.h, .int .i64 n.o] 51) := ⟨_, rfl⟩
  have hb : Below w.heap.size w W := by rw [hWd]; exact (Below.refl _ _).alloc (Nat.le_refl _) _
  have hz : W.heap.size = w.heap.size + 1 := by rw [hWd]; simp
  have kd : W.heap[w.heap.size]? = some (.cells #[.int .i64 n.l, .int .i64 n.h, .int .i64 n.o] 51 (0, 0)) := by rw [hWd]; exact heap_alloc_new w _
  have hbs := hS.base
  have hSW := hS.old hW hb
  have HSW := Lib.hid hSW
  have HKD : Hid (∀ V v1 v2 v3, E.Acc W u1 u2 u3 V v1 v2 v3 → V.heap[w.heap.size]? = some (.cells #[.int .i64 n.l, .int .i64 n.h, .int .i64 n.o] 51 (0, 0))) := Lib.hid fun V v1 v2 v3 hA => (hA.ke.block _ (by omega) (fun hO => by
    obtain ⟨l1, l2, l3, _, _⟩ := hW.lt
    rcases hO with hO | hO
    · rcases hO with hO | hO | hO <;> omega
    · have := (hS.own _ hO).2; omega)).trans kd
  have HB := Lib.hid hb
  have HWW := Lib.hid hW
  have eg : ∀ args w, (callFunc 27 args).run Tryd.prog w = .ok (.enter 27 args) w := enters_of Tryd.func27 (by kernel_rfl) rfl
  obtain ⟨d0, d1, d2⟩ := cells3 kd
  obtain ⟨a0, -⟩ := cells2 hS.box.a
  rw [hA] at a0
  have p0 := (Lib.cell_of_heap hSW.kp 0).trans (show (#[vp] : Array Value)[0]? = some vp from rfl)
  -- the first append
  obtain ⟨g1, cap1, w1, hr1, hO1, hb1, hk1, hg1⟩ := app_i W E.base vp p hSW.op n.l (by omega) (by omega) 24
  obtain ⟨hS1, hN1, hK1⟩ := hSW.push1 hW (v' := .slice (some ⟨g1, 0, none⟩) (p.length + 1) cap1) rfl hO1 hb1 hk1 hg1
  have hp1 : w1.heap[E.bq]? = some (.cells #[vp] 24 (0, 0)) := by
    obtain ⟨l1, l2, l3, _, _⟩ := hW.lt
    exact (hk1 _ (by omega) (fun e => by have := (own_same hSW.op _ e.symm).1; omega)).trans hSW.kp
  have p1 := (Lib.cell_of_heap hp1 0).trans (show (#[vp] : Array Value)[0]? = some vp from rfl)
  have p2 := Lib.frozen_of_heap hp1 0
  obtain ⟨V1, hV1⟩ : ∃ V1, V1 = w1.setCell ⟨E.bq, 0, none⟩ (.slice (some ⟨g1, 0, none⟩) (p.length + 1) cap1) := ⟨_, rfl⟩
  rw [← hV1] at hS1 hK1
  have hA1 := (PE.Acc.refl E W u1 u2 u3).step hK1 hN1 (.inl rfl) (.inl rfl)
  have HS1 := Lib.hid hS1
  have HA1 := Lib.hid hA1
  have HI := Lib.hid (And.intro hil (And.intro (And.intro hl1 hl2) (And.intro (And.intro o1 (And.intro o4 o5)) (And.intro hTa (And.intro hTb (And.intro hT hpl))))))
  have HO23 := Lib.hid (And.intro o2 o3)
  have HF : Hid (∀ w' v1 v2 v3 x1 x2 x3, E.St w' p q ((ps ++ pth E.us N n.h (p ++ [(n.l : Int)]) q) ++ pth E.us N n.o p (q ++ [(n.l : Int)])) v1 v2 v3 x1 x2 x3 → E.Acc W u1 u2 u3 w' v1 v2 v3 → E.Post (N + 1) (i + 2) p q ps u1 u2 u3 w (.returned (.tuple #[])) w') := Lib.hid fun w' v1 v2 v3 x1 x2 x3 h1 h2 => by
    unfold PE.Post
    rw [pth_node hn, ← List.append_assoc]
    exact ⟨rfl, v1, v2, v3, x1, x2, x3, h1, ((PE.Acc.refl E w u1 u2 u3).old hb).trans h2⟩
  have f1 := (Lib.cell_of_heap hS1.box.fw 0).trans (show (#[.func (.func 27) #[] #[.pointer (some ⟨E.bp, 0, none⟩), .pointer (some ⟨E.bq, 0, none⟩), .pointer (some ⟨E.bn, 0, none⟩), .pointer (some ⟨E.ba, 0, none⟩), .pointer (some ⟨E.bw, 0, none⟩)]] : Array Value)[0]? = some (.func (.func 27) #[] #[.pointer (some ⟨E.bp, 0, none⟩), .pointer (some ⟨E.bq, 0, none⟩), .pointer (some ⟨E.bn, 0, none⟩), .pointer (some ⟨E.ba, 0, none⟩), .pointer (some ⟨E.bw, 0, none⟩)]) from rfl)
  obtain ⟨_, e1, _⟩ := cells3 (HKD.out _ _ _ _ hA1)
  rw [hz] at hr1
  rw [hWd] at hr1 d0 p0
  rw [hV1] at f1 e1
  generalize hPost : E.Post (N + 1) (i + 2) p q ps u1 u2 u3 w = Post at *
  generalize hr2 : ((i + 2 : Nat) : Int) = r at *
  clear hPost hr2 hS hSW hr hl1 hl2 hlen hil hb hz kd hbs hA hx hn o1 o2 o3 o4 o5 hTa hTb hT hpl hS1 hN1 hK1 hO1 hb1 hk1 hg1 hp1 hA1 hW d1 d2
  go_enter Tryd.func27, Tryd.ntmps27
  go_wp2_with (at_builtin; refine Lib.wpList_append_run _ rfl _ _ 24 24 rfl _ _ rfl rfl _ w1 hr1 ?_)
  rw [← hV1]
  clear hV1 hr1 c0 c1 c2 a0 d0 p0 p1 p2 f1 e1 hWd
  refine (IH.out n.h (p ++ [(n.l : Int)]) q ps (some g1) u2 u3 V1 HI.out.2.2.1.2.1 ⟨by have := HO23.out.1; have := HI.out.1; omega, ⟨_, _, _, HS1.out⟩, by have := HI.out.2.1.1; have := HI.out.2.2.1; rw [List.length_append, List.length_singleton]; omega, by have := HI.out.2.1.2; have := HI.out.2.2.2; omega⟩).mono ?_
  rintro e V2 ⟨rfl, a1, a2, a3, xp, xq, xs, hS2, hA2⟩
  have hAA2 := HA1.out.trans hA2
  obtain ⟨g2, cap2, rfl, hcap, hO3⟩ := hS2.op.pop
  obtain ⟨hS3, hK3⟩ := hS2.pop1 HWW.out (v' := .slice (some ⟨g2, 0, none⟩) p.length cap2) (hS2.e1 ▸ rfl) hO3
  have hs1 : ∀ V, (Instr.slice 24 (.slice (some ⟨g2, 0, none⟩) (p.length + 1) cap2) none (some (.int .i64 (p.length : Int))) none).run Tryd.prog V = .ok (.slice (some ⟨g2, 0, none⟩) p.length cap2) V := fun V => slice_pop V g2 p.length cap2 hcap
  have hw1 : IntKind.i64.wrap ((p.length : Int) + 1 - 1) = (p.length : Int) := by have := HI.out.2.1.1; rw [IntWalk.i64_in _ (by omega)]; omega
  have hw2 : IntKind.i64.wrap (p.length : Int) = (p.length : Int) := by have := HI.out.2.1.1; rw [IntWalk.i64_in _ (by omega)]
  have b1 := (Lib.cell_of_heap hS2.kp 0).trans (show (#[.slice (some ⟨g2, 0, none⟩) (p.length + 1) cap2] : Array Value)[0]? = some (.slice (some ⟨g2, 0, none⟩) (p.length + 1) cap2) from rfl)
  have b2 := Lib.frozen_of_heap hS2.kp 0
  obtain ⟨V3, hV3⟩ : ∃ V3, V3 = V2.setCell ⟨E.bq, 0, none⟩ (.slice (some ⟨g2, 0, none⟩) p.length cap2) := ⟨_, rfl⟩
  rw [← hV3] at hS3 hK3
  have hA3 := hAA2.step hK3 (.inl rfl) (.inl rfl) (.inl rfl)
  obtain ⟨e0, _, _⟩ := cells3 (HKD.out _ _ _ _ hA3)
  have b3 := (Lib.cell_of_heap hS3.kq 0).trans (show (#[xq] : Array Value)[0]? = some xq from rfl)
  have HLEN : Hid (p.length ≤ 1000 ∧ q.length ≤ 1000) := Lib.hid (by have := HI.out.2.1.1; omega)
  obtain ⟨g4, cap4, w4, hr4, hO4, hb4, hk4, hg4⟩ := app_i V3 E.base xq q hS3.oq n.l (by have := HLEN.out; omega) hS3.base 24
  obtain ⟨hS5, hN5, hK5⟩ := hS3.push2 HWW.out (v' := .slice (some ⟨g4, 0, none⟩) (q.length + 1) cap4) rfl hO4 hb4 hk4 hg4
  have hp4 : w4.heap[E.bn]? = some (.cells #[xq] 24 (0, 0)) := by
    obtain ⟨l1, l2, l3, _, _⟩ := HWW.out.lt
    have := hS3.base
    exact (hk4 _ (by omega) (fun e => by have := (own_same hS3.oq _ e.symm).1; omega)).trans hS3.kq
  have y1 := (Lib.cell_of_heap hp4 0).trans (show (#[xq] : Array Value)[0]? = some xq from rfl)
  have y2 := Lib.frozen_of_heap hp4 0
  obtain ⟨V5, hV5⟩ : ∃ V5, V5 = w4.setCell ⟨E.bn, 0, none⟩ (.slice (some ⟨g4, 0, none⟩) (q.length + 1) cap4) := ⟨_, rfl⟩
  rw [← hV5] at hS5 hK5
  have hA5 := hA3.step hK5 (.inl rfl) hN5 (.inl rfl)
  have f5 := (Lib.cell_of_heap hS5.box.fw 0).trans (show (#[.func (.func 27) #[] #[.pointer (some ⟨E.bp, 0, none⟩), .pointer (some ⟨E.bq, 0, none⟩), .pointer (some ⟨E.bn, 0, none⟩), .pointer (some ⟨E.ba, 0, none⟩), .pointer (some ⟨E.bw, 0, none⟩)]] : Array Value)[0]? = some (.func (.func 27) #[] #[.pointer (some ⟨E.bp, 0, none⟩), .pointer (some ⟨E.bq, 0, none⟩), .pointer (some ⟨E.bn, 0, none⟩), .pointer (some ⟨E.ba, 0, none⟩), .pointer (some ⟨E.bw, 0, none⟩)]) from rfl)
  obtain ⟨_, _, e5⟩ := cells3 (HKD.out _ _ _ _ hA5)
  have HS5 := Lib.hid hS5
  have HA5 := Lib.hid hA5
  rw [hV3] at hr4 e0 b3
  rw [hV5] at f5 e5
  have hvs : V2.heap.size = (V2.setCell ⟨E.bq, 0, none⟩ (.slice (some ⟨g2, 0, none⟩) p.length cap2)).heap.size := by simp
  rw [← hvs] at hr4
  clear hvs hS2 hA2 hAA2 hO3 hS3 hK3 hA3 hO4 hb4 hk4 hg4 hS5 hN5 hK5 hp4 hA5 hcap
  go_wp2_with (at_builtin; refine Lib.wpList_append_run _ rfl _ _ 24 24 rfl _ _ rfl rfl _ w4 hr4 ?_)
  rw [← hV5]
  clear hV3 hV5 hr4 b1 b2 b3 e0 y1 y2 f5 e5 hs1 hw1 hw2
  refine (IH.out n.o p (q ++ [(n.l : Int)]) (ps ++ pth E.us N n.h (p ++ [(n.l : Int)]) q) a1 (some g4) a3 V5 HI.out.2.2.1.2.2 ⟨by have := HO23.out.2; have := HI.out.1; omega, ⟨_, _, _, HS5.out⟩, by have := HI.out.2.1.1; have := HI.out.2.2.1; rw [List.length_append, List.length_singleton]; omega, by have := HI.out.2.1.2; have := HI.out.2.2.2; rw [List.length_append]; omega⟩).mono ?_
  rintro e V6 ⟨rfl, z1, z2, z3, yp, yq, ys, hS6, hA6⟩
  have hAA6 := HA5.out.trans hA6
  obtain ⟨g6, cap6, rfl, hcap, hO7⟩ := hS6.oq.pop
  obtain ⟨hS7, hK7⟩ := hS6.pop2 HWW.out (v' := .slice (some ⟨g6, 0, none⟩) q.length cap6) (hS6.e2 ▸ rfl) hO7
  have hs1 : ∀ V, (Instr.slice 24 (.slice (some ⟨g6, 0, none⟩) (q.length + 1) cap6) none (some (.int .i64 (q.length : Int))) none).run Tryd.prog V = .ok (.slice (some ⟨g6, 0, none⟩) q.length cap6) V := fun V => slice_pop V g6 q.length cap6 hcap
  have hw1 : IntKind.i64.wrap ((q.length : Int) + 1 - 1) = (q.length : Int) := by have := HI.out.2.1.1; rw [IntWalk.i64_in _ (by omega)]; omega
  have hw2 : IntKind.i64.wrap (q.length : Int) = (q.length : Int) := by have := HI.out.2.1.1; rw [IntWalk.i64_in _ (by omega)]
  have b1 := (Lib.cell_of_heap hS6.kq 0).trans (show (#[.slice (some ⟨g6, 0, none⟩) (q.length + 1) cap6] : Array Value)[0]? = some (.slice (some ⟨g6, 0, none⟩) (q.length + 1) cap6) from rfl)
  have b2 := Lib.frozen_of_heap hS6.kq 0
  obtain ⟨V7, hV7⟩ : ∃ V7, V7 = V6.setCell ⟨E.bn, 0, none⟩ (.slice (some ⟨g6, 0, none⟩) q.length cap6) := ⟨_, rfl⟩
  rw [← hV7] at hS7 hK7
  have HZ := Lib.hid (HF.out _ _ _ _ _ _ _ hS7 (hAA6.step hK7 (.inl rfl) (.inl rfl) (.inl rfl)))
  clear hS6 hA6 hAA6 hO7 hS7 hK7 hcap
  go_wp2
  refine bodyPost_ret (v := .tuple #[]) (by simp [results, Tryd.results27, go_sem]) rfl ?_
  rw [← hV7]
  exact HZ.out
/-- walk: the paths from a reference to true, behind those that are there -/
theorem walkP_any (E : PE) (hW : E.Wf) : ∀ (N r : Nat) (p q : List Int) (ps : List (List Int × List Int)) (u1 u2 u3 : Option Nat) (w : World), 12 - litR E.us r < N → E.Pre r p q ps u1 u2 u3 w → Calls Tryd.prog 27 #[.int .i64 r, .pointer (some ⟨E.bp, 0, none⟩), .pointer (some ⟨E.bq, 0, none⟩), .pointer (some ⟨E.bn, 0, none⟩), .pointer (some ⟨E.ba, 0, none⟩), .pointer (some ⟨E.bw, 0, none⟩)] w (E.Post N r p q ps u1 u2 u3 w)
  | 0, _, _, _, _, _, _, _, _, h, _ => absurd h (by omega)
  | N + 1, r, p, q, ps, u1, u2, u3, w, hN, hP => by
    by_cases h0 : r = 0
    · subst h0; exact walkP_zero E (N + 1) p q ps u1 u2 u3 w hP
    by_cases h1 : r = 1
    · subst h1; exact walkP_one E hW N p q ps u1 u2 u3 w hP
    obtain ⟨i, rfl⟩ : ∃ i, r = i + 2 := ⟨r - 2, by omega⟩
    have hil : i < E.us.length := by have := hP.1; omega
    have hn : E.us[i]? = some E.us[i] := List.getElem?_eq_getElem hil
    generalize E.us[i] = n at hn
    have hl12 := (hW.ou i n hn).1
    rw [litR_node hn] at hN
    exact walkP_node E hW N i n p q ps u1 u2 u3 w hP hn (Lib.hid fun r' p' q' ps' v1 v2 v3 w' h hp => walkP_any E hW N r' p' q' ps' v1 v2 v3 w' (by omega) hp)
end Go.Proofs.YtplmbmecjhmiiaaDoor
