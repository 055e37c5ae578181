/- The comparison of what stands behind the kids of two values. -/
import Derived.Test.YtpgnkfobgjplmaaGreatVb06
namespace Go.Proofs.YtpgnkfobgjplmaaGreat
open Go Go.RowKit
set_option maxRecDepth 100000 in
set_option maxHeartbeats 6400000 in
theorem behind_any (k : Nat) (IH : Hid (∀ (a b : Vl) (ca cb : List Value) (w : World), VS k w w.heap.size a ca → VS k w w.heap.size b cb → Calls Tryz.prog 81 #[.agg ca.toArray, .agg cb.toArray] w fun e w' => e = .returned (.int .i64 (cmpV a b)) ∧ Below w.heap.size w w')) (a b : Vl) (ca cb : List Value) (w : World) (h : VS (k + 1) w w.heap.size a ca) (h' : VS (k + 1) w w.heap.size b cb) :
    Calls Tryz.prog 111 #[.agg ca.toArray, .agg cb.toArray] w fun e w' => e = .returned (.int .i64 (tailV a b)) ∧ Below w.heap.size w w' := by
  have hP : Hid (∀ (a b : En) (ca cb : List Value) (w : World), ES k w w.heap.size a ca → ES k w w.heap.size b cb → Calls Tryz.prog 104 #[.agg ca.toArray, .agg cb.toArray] w fun e w' => e = .returned (.int .i64 (cmpE a b)) ∧ Below w.heap.size w w') := Lib.hid fun a b ca cb w h1 h2 => entP_any k IH a b ca cb w h1 h2
  obtain ⟨kd, it, tx, kids, keys, ents, labs⟩ := a
  obtain ⟨kd', it', tx', kids', keys', ents', labs'⟩ := b
  obtain ⟨uk, uy, ue, ul, rfl, _, _, _, hk, hy, he, hl⟩ := h
  obtain ⟨uk', uy', ue', ul', rfl, _, _, _, hk', hy', he', hl'⟩ := h'
  obtain ⟨A, c, rfl, _⟩ := hk.form
  obtain ⟨A', c', rfl, _⟩ := hk'.form
  obtain ⟨Y, cy, rfl, _⟩ := hy.form
  obtain ⟨Y', cy', rfl, _⟩ := hy'.form
  obtain ⟨E, ce, rfl, _⟩ := he.form
  obtain ⟨E', ce', rfl, _⟩ := he'.form
  obtain ⟨L, cl, rfl, _⟩ := hl.form
  obtain ⟨L', cl', rfl, _⟩ := hl'.form
  obtain ⟨W, hW⟩ : ∃ W, W = (w.alloc (.cells #[.int .i64 kd, .int .i64 it, .string ⟨tx.toArray⟩, .slice A kids.length c, .slice Y keys.length cy, .slice E ents.length ce, .slice L labs.length cl] 27)).alloc (.cells #[.int .i64 kd', .int .i64 it', .string ⟨tx'.toArray⟩, .slice A' kids'.length c', .slice Y' keys'.length cy', .slice E' ents'.length ce', .slice L' labs'.length cl'] 27) := ⟨_, rfl⟩
  have hb : Below w.heap.size w W := by rw [hW]; exact ((Below.refl _ _).alloc (Nat.le_refl _) _).alloc (by simp) _
  have hz : W.heap.size = w.heap.size + 2 := by rw [hW]; simp
  have k1 : W.heap[w.heap.size]? = some (.cells #[.int .i64 kd, .int .i64 it, .string ⟨tx.toArray⟩, .slice A kids.length c, .slice Y keys.length cy, .slice E ents.length ce, .slice L labs.length cl] 27 (0, 0)) := by
    rw [hW, Below.heap_alloc _ _ _ (by simp)]
    exact heap_alloc_new w _
  have k2 : W.heap[w.heap.size + 1]? = some (.cells #[.int .i64 kd', .int .i64 it', .string ⟨tx'.toArray⟩, .slice A' kids'.length c', .slice Y' keys'.length cy', .slice E' ents'.length ce', .slice L' labs'.length cl'] 27 (0, 0)) := by
    rw [hW]
    exact new_at' _ (by simp)
  have HE : Hid (∀ V, Below w.heap.size w V → Calls Tryz.prog 135 #[.slice E ents.length ce, .slice E' ents'.length ce', .func (.func 104) #[] #[]] V fun e w' => e = .returned (.int .i64 (thn (cmpI ents.length ents'.length) (cmpL cmpE ents ents'))) ∧ Below V.heap.size V w') := Lib.hid fun V hV => cmpls9 k hP E E' ce ce' ents ents' V (ents_row hV he) (ents_row hV he')
  have HL : Hid (∀ V, Below w.heap.size w V → Calls Tryz.prog 136 #[.slice L labs.length cl, .slice L' labs'.length cl', .func (.func 96) #[] #[]] V fun e w' => e = .returned (.int .i64 (thn (cmpI labs.length labs'.length) (cmpL cmpT labs labs'))) ∧ Below V.heap.size V w') := Lib.hid fun V hV => cmpls1 L L' cl cl' labs labs' V ((hl.on hV fun _ _ h => h).mono hV.size fun _ _ h => h) ((hl'.on hV fun _ _ h => h).mono hV.size fun _ _ h => h)
  clear hk hk' hy hy' he he' hl hl' hP
  have HT : Hid (tailV (.mk kd it tx kids keys ents labs) (.mk kd' it' tx' kids' keys' ents' labs') = thn (thn (cmpI ents.length ents'.length) (cmpL cmpE ents ents')) (thn (cmpI labs.length labs'.length) (cmpL cmpT labs labs'))) := Lib.hid rfl
  generalize thn (cmpI (ents.length : Int) (ents'.length : Int)) (cmpL cmpE ents ents') = z3 at HE HT
  generalize thn (cmpI (labs.length : Int) (labs'.length : Int)) (cmpL cmpT labs labs') = z4 at HL HT
  generalize tailV (.mk kd it tx kids keys ents labs) (.mk kd' it' tx' kids' keys' ents' labs') = y at HT ⊢
  have HB := Lib.hid hb
  have K1 := Lib.hid k1
  have K2 := Lib.hid k2
  have q5 : W.cell? ⟨w.heap.size, 5, none⟩ = some (.slice E ents.length ce) := (Lib.cell_of_heap k1 5).trans rfl
  have r5 : W.cell? ⟨w.heap.size + 1, 5, none⟩ = some (.slice E' ents'.length ce') := (Lib.cell_of_heap k2 5).trans rfl
  clear hb k1 k2
  go_enter Tryz.func111, Tryz.ntmps111
  go_wp2_with fail
  rw [← hW]
  clear hW
  go_wp2_with (go_at_call 135; refine (HE.out _ HB.out).mono ?_; rintro e w1 ⟨rfl, hb1⟩; refine Hid.out ?_)
  refine Lib.hid ?_
  have HB1 := Lib.hid (HB.out.trans (hb1.mono HB.out.size))
  have KA1 : Hid (w1.heap[w.heap.size]? = some (.cells #[.int .i64 kd, .int .i64 it, .string ⟨tx.toArray⟩, .slice A kids.length c, .slice Y keys.length cy, .slice E ents.length ce, .slice L labs.length cl] 27 (0, 0))) := Lib.hid ((hb1.block _ (by omega)).trans K1.out)
  have KB1 : Hid (w1.heap[w.heap.size + 1]? = some (.cells #[.int .i64 kd', .int .i64 it', .string ⟨tx'.toArray⟩, .slice A' kids'.length c', .slice Y' keys'.length cy', .slice E' ents'.length ce', .slice L' labs'.length cl'] 27 (0, 0))) := Lib.hid ((hb1.block _ (by omega)).trans K2.out)
  clear hb1 q5 r5 hz
  by_cases h0 : z3 = 0
  case neg =>
    have hq : (z3 != 0) = true := by rw [bne_iff_ne]; exact h0
    have HU : Hid (y = z3) := Lib.hid (by rw [HT.out]; exact thn_of h0 _)
    clear h0
    go_wp2
    go_ret
    exact ⟨ret_i HU.out.symm, HB1.out⟩
  subst h0
  have HU : Hid (y = z4) := Lib.hid (by rw [HT.out]; rfl)
  have p6 : w1.cell? ⟨w.heap.size, 6, none⟩ = some (.slice L labs.length cl) := (Lib.cell_of_heap KA1.out 6).trans rfl
  have s6 : w1.cell? ⟨w.heap.size + 1, 6, none⟩ = some (.slice L' labs'.length cl') := (Lib.cell_of_heap KB1.out 6).trans rfl
  go_wp2_with (go_at_call 136; refine (HL.out _ HB1.out).mono ?_; rintro e w2 ⟨rfl, hb2⟩; refine Hid.out ?_)
  refine Lib.hid ?_
  go_wp2
  go_ret
  exact ⟨ret_i HU.out.symm, HB1.out.trans (hb2.mono HB1.out.size)⟩
end Go.Proofs.YtpgnkfobgjplmaaGreat
