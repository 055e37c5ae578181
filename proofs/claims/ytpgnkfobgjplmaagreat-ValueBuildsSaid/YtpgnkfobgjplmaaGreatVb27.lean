/- What copies, Tuple and Cons of the document return. -/
import Derived.Test.YtpgnkfobgjplmaaGreatVb24
import Derived.Test.YtpgnkfobgjplmaaGreatVb25
namespace Go.Proofs.YtpgnkfobgjplmaaGreat
open Go Go.RowKit
theorem below_of_keep {lo : Nat} {w w' : World} (hb : Below lo w w') (hk : ∀ b, b < w.heap.size → w'.heap[b]? = w.heap[b]?) : Below w.heap.size w w' := ⟨hb.os, hb.tape, hb.output, hb.size, hk⟩
abbrev RowV (k lo : Nat) (w : World) (v : Value) (l : List Vl) : Prop := RowB w (Btw lo w.heap.size) 7 v l.length (fun j cs => ∃ x, l[j]? = some x ∧ VB k w (Btw lo w.heap.size) x cs)
theorem RowV.on {k lo : Nat} {w w' : World} {v : Value} {l : List Vl} (h : RowV k lo w v l) (hb : Below w.heap.size w w') : RowV k lo w' v l := by
  have hs : Same (Btw lo w.heap.size) w w' := .of_below hb fun _ h => h.2
  have hsub : ∀ b, Btw lo w.heap.size b → Btw lo w'.heap.size b := fun b h => ⟨h.1, by have := h.2; have := hb.size; omega⟩
  exact (RowB.keep h hs fun _ _ h => h).sub hsub fun j cs ⟨x, hx, hv⟩ => ⟨x, hx, VB.sub hsub (Nat.le_refl _) (VB.keep hs hv)⟩
def elVB (k : Nat) (B0 : Nat → Prop) : ElK Vl := ⟨fun x w B cs => VB k w (fun b => B b ∧ B0 b) x cs, fun h h' => VB.keep ⟨h.size, fun b i hB hl => h.cell b i hB.1 hl⟩ h', fun h h' => VB.sub (fun b hb => ⟨h b hb.1, hb.2⟩) (Nat.le_refl _) h'⟩
theorem elVB_one (k : Nat) (B0 : Nat → Prop) (x : Vl) (w : World) (B : Nat → Prop) (cs : List Value) (h : (elVB k B0).E x w B cs) : ∀ u ∈ cs, u.oneCell' = true := elV_one k x w _ cs h
abbrev OwnVB (k : Nat) (B0 : Nat → Prop) (w : World) (base : Nat) (v : Value) (l : List Vl) : Prop := OwnE (elVB k B0) 27 7 w base v l
theorem wp_row_vB {ops : Array Oper} {rest : List Oper} {o : Oper} {a : Act} {Q : Exit → Act → World → Prop} {w0 : World} (hgd : o.guard = none) (s x : Operand)
    (ho : o.op = .call { callee := .builtin .append, args := #[s, x], argTypes := #[22, 22] }) (k : Nat) (B0 : Nat → Prop) (base : Nat) (v : Value) (l : List Vl) (hs : a.eval s = v) (hown : OwnVB k B0 w0 base v l)
    (A : Option Addr) (m cap1 : Nat) (l' : List Vl) (hm : l'.length = m) (Bs : Nat → Prop) (hx : a.eval x = .slice A m cap1)
    (hR : RowB w0 Bs 7 (.slice A m cap1) m (fun j cs => ∃ y, l'[j]? = some y ∧ (elVB k B0).E y w0 (fun b => base ≤ b ∧ b < w0.heap.size ∧ some b ≠ v.ownBlock) cs)) (hn : l.length + m ≤ 1000000) (hbase : base ≤ w0.heap.size)
    (h : ∀ v' w', OwnVB k B0 w' base v' (l ++ l') → Below base w0 w' → (∀ b, b < w0.heap.size → some b ≠ v.ownBlock → w'.heap[b]? = w0.heap[b]?) → (∀ g, v'.ownBlock = some g → v.ownBlock = some g ∨ w0.heap.size ≤ g) → wpList Tryz.prog ops Q rest (a.put o.dst v') w') :
    wpList Tryz.prog ops Q (o :: rest) a w0 := by
  obtain ⟨i0, hi, hz0, hz1, hz2⟩ := info_parts Tryz.infoV
  obtain ⟨v', w', h1, h2, h3, h4, h5⟩ := app_row (elVB k B0) 22 o.type 27 i0 (.agg #[.int .i64 0, .int .i64 0, .string ⟨#[]⟩, .slice none 0 0, .slice none 0 0, .slice none 0 0, .slice none 0 0]) 7 128 Tryz.underlying22 hi hz0 hz1 hz2 rfl (by decide) (by decide) (elVB_one k B0) w0 base v l hown A m cap1 l' hm Bs hR hn hbase
  exact Lib.wpList_append_run _ hgd s x 22 22 ho v _ hs hx _ w' h1 (h v' w' h2 h3 h4 h5)
/-- rows in blocks of B: the copy in new blocks, the trees in the old ones -/
abbrev RowT (k : Nat) (w : World) (B : Nat → Prop) (B0 : Nat → Prop) (v : Value) (l : List Vl) : Prop := RowB w B 7 v l.length (fun j cs => ∃ x, l[j]? = some x ∧ VB k w B0 x cs)
set_option maxHeartbeats 800000 in
theorem copies_any (k : Nat) (B0 : Nat → Prop) (Bs : Nat → Prop) (A : Option Addr) (c : Nat) (l : List Vl) (w : World) (hB : ∀ b, B0 b → b < w.heap.size) (hl : RowT k w Bs B0 (.slice A l.length c) l) (hn : l.length ≤ 1000000) :
    Calls Tryz.prog 61 #[.slice A l.length c] w fun e w' => ∃ A' c', e = .returned (.slice A' l.length c') ∧ RowT k w' (Btw w.heap.size w'.heap.size) B0 (.slice A' l.length c') l ∧ Below w.heap.size w w' := by
  have HL := Lib.hid hl
  clear hl
  go_enter Tryz.func61, Tryz.ntmps61
  go_wp2_with (refine wp_row_vB rfl _ _ rfl k B0 0 (.slice none 0 0) [] rfl (OwnE.nil _ _ _ _ _) A l.length c l rfl Bs rfl (RowB.sub HL.out (fun _ h => h) fun j cs ⟨x, hx, hv⟩ => ⟨x, hx, VB.sub (fun b h => ⟨⟨Nat.zero_le _, hB b h, by simp [Value.ownBlock]⟩, h⟩) (Nat.le_refl _) hv⟩) (by simpa using hn) (Nat.zero_le _) ?_)
  intro v' w' ho hb hk hg
  have ho' : OwnVB k B0 w' 0 v' l := ho
  obtain ⟨A', c', rfl⟩ := ho'.form
  have hfin : Hid (RowT k w' (Btw w.heap.size w'.heap.size) B0 (.slice A' l.length c') l ∧ Below w.heap.size w w') := Lib.hid (by
    refine ⟨?_, below_of_keep hb fun b hb => hk b hb (by simp [Value.ownBlock])⟩
    obtain ⟨xs, ho1, hx⟩ := ho'
    refine row_of_owns ho1 (by unfold maxLen; omega) (fun g hg1 h1 h2 => ⟨(hg g hg1).resolve_left (by simp [Value.ownBlock]), h2⟩) (fun j hj => ⟨l[j], List.getElem?_eq_getElem hj, VB.sub (fun b h => h.2) (Nat.le_refl _) (hx j _ (List.getElem?_eq_getElem hj))⟩) (by omega))
  clear ho ho' hb hk hg
  go_wp2
  go_ret
  exact ⟨A', c', rfl, hfin.out⟩
set_option maxRecDepth 100000 in
set_option maxHeartbeats 3200000 in
theorem refTuple_any (k lo : Nat) (A : Option Addr) (c : Nat) (l : List Vl) (w : World) (hlo : lo ≤ w.heap.size) (hl : RowV k lo w (.slice A l.length c) l) (hn : l.length ≤ 1000000) :
    Calls Tryz.prog 99 #[.slice A l.length c] w fun e w' => ∃ cs, e = .returned (.agg cs.toArray) ∧ VB (k + 1) w' (Btw lo w'.heap.size) (tupV l) cs ∧ Below w.heap.size w w' := by
  have hba : Below w.heap.size w (w.alloc (.cells #[.int .i64 0, .int .i64 0, .string ⟨#[]⟩, .slice none 0 0, .slice none 0 0, .slice none 0 0, .slice none 0 0] 27)) := (Below.refl _ _).alloc (Nat.le_refl _) _
  have k0 := heap_alloc_new w (.cells #[.int .i64 0, .int .i64 0, .string ⟨#[]⟩, .slice none 0 0, .slice none 0 0, .slice none 0 0, .slice none 0 0] 27)
  have hc := copies_any k (Btw lo w.heap.size) (Btw lo w.heap.size) A c l _ (fun b h => Nat.lt_of_lt_of_le h.2 hba.size) (RowB.keep hl (.of_below hba fun _ h => h.2) fun j cs ⟨x, hx, hv⟩ => ⟨x, hx, VB.keep (.of_below hba fun _ h => h.2) hv⟩) hn
  clear hl
  go_enter Tryz.func99, Tryz.ntmps99
  go_wp2_with fail
  refine hc.mono ?_
  rintro e w1 ⟨A', c', rfl, hr, hb1⟩
  clear hc
  have k1 : w1.heap[w.heap.size]? = some (.cells #[.int .i64 0, .int .i64 0, .string ⟨#[]⟩, .slice none 0 0, .slice none 0 0, .slice none 0 0, .slice none 0 0] 27 (0, 0)) := (hb1.block _ (by simp)).trans k0
  have hbb : Below w.heap.size w w1 := hba.trans (hb1.mono (by simp))
  have HR := Lib.hid (show RowT k w1 (Btw (w.heap.size + 1) w1.heap.size) (Btw lo w.heap.size) (.slice A' l.length c') l by simpa using hr)
  have hb1z : w.heap.size + 1 ≤ w1.heap.size := by have := hb1.size; simpa using this
  clear k0 hba hb1 hr
  have e0 : w1.cell? ⟨w.heap.size, 0, none⟩ = some (.int .i64 0) := (Lib.cell_of_heap k1 0).trans rfl
  have z0 := Lib.frozen_of_heap k1 0
  have e1 : w1.cell? ⟨w.heap.size, 1, none⟩ = some (.int .i64 0) := (Lib.cell_of_heap k1 1).trans rfl
  have z1 := Lib.frozen_of_heap k1 1
  have e2 : w1.cell? ⟨w.heap.size, 2, none⟩ = some (.string ⟨#[]⟩) := (Lib.cell_of_heap k1 2).trans rfl
  have z2 := Lib.frozen_of_heap k1 2
  have e3 : w1.cell? ⟨w.heap.size, 3, none⟩ = some (.slice none 0 0) := (Lib.cell_of_heap k1 3).trans rfl
  have z3 := Lib.frozen_of_heap k1 3
  have e4 : w1.cell? ⟨w.heap.size, 4, none⟩ = some (.slice none 0 0) := (Lib.cell_of_heap k1 4).trans rfl
  have z4 := Lib.frozen_of_heap k1 4
  have e5 : w1.cell? ⟨w.heap.size, 5, none⟩ = some (.slice none 0 0) := (Lib.cell_of_heap k1 5).trans rfl
  have z5 := Lib.frozen_of_heap k1 5
  have e6 : w1.cell? ⟨w.heap.size, 6, none⟩ = some (.slice none 0 0) := (Lib.cell_of_heap k1 6).trans rfl
  have z6 := Lib.frozen_of_heap k1 6
  go_wp2
  obtain ⟨V, hV⟩ : ∃ V, V = (((((((w1.setCell ⟨w.heap.size, 0, none⟩ (Value.int .i64 6)).setCell ⟨w.heap.size, 1, none⟩ (Value.int .i64 0)).setCell ⟨w.heap.size, 2, none⟩ (Value.string ⟨#[]⟩)).setCell ⟨w.heap.size, 3, none⟩ (Value.slice A' l.length c')).setCell ⟨w.heap.size, 4, none⟩ (Value.slice none 0 0)).setCell ⟨w.heap.size, 5, none⟩ (Value.slice none 0 0)).setCell ⟨w.heap.size, 6, none⟩ (Value.slice none 0 0)) := ⟨_, rfl⟩
  rw [← hV]
  have hob : V.heap[w.heap.size]? = some (.cells #[Value.int .i64 6, Value.int .i64 0, Value.string ⟨#[]⟩, Value.slice A' l.length c', Value.slice none 0 0, Value.slice none 0 0, Value.slice none 0 0] 27 (0, 0)) := by rw [hV]; exact obj7 k1 (Value.int .i64 6) (Value.int .i64 0) (Value.string ⟨#[]⟩) (Value.slice A' l.length c') (Value.slice none 0 0) (Value.slice none 0 0) (Value.slice none 0 0)
  have hBV : Below w.heap.size w V := by rw [hV]; exact Below.setCell (Below.setCell (Below.setCell (Below.setCell (Below.setCell (Below.setCell (Below.setCell (hbb) (p := ⟨w.heap.size, 0, none⟩) (Nat.le_refl _) _) (p := ⟨w.heap.size, 1, none⟩) (Nat.le_refl _) _) (p := ⟨w.heap.size, 2, none⟩) (Nat.le_refl _) _) (p := ⟨w.heap.size, 3, none⟩) (Nat.le_refl _) _) (p := ⟨w.heap.size, 4, none⟩) (Nat.le_refl _) _) (p := ⟨w.heap.size, 5, none⟩) (Nat.le_refl _) _) (p := ⟨w.heap.size, 6, none⟩) (Nat.le_refl _) _
  have hszV : V.heap.size = w1.heap.size := by rw [hV]; simp
  have hsm : ∀ B : Nat → Prop, ¬ B w.heap.size → Same B w1 V := fun B h => by rw [hV]; exact same_setCell (same_setCell (same_setCell (same_setCell (same_setCell (same_setCell (same_setCell ((Same.refl _ _)) h) h) h) h) h) h) h
  clear hV e0 z0 e1 z1 e2 z2 e3 z3 e4 z4 e5 z5 e6 z6
  have ps0 : V.cell? ⟨w.heap.size, 0, none⟩ = some (Value.int .i64 6) := (Lib.cell_of_heap hob 0).trans rfl
  have ps1 : V.cell? ⟨w.heap.size, 1, none⟩ = some (Value.int .i64 0) := (Lib.cell_of_heap hob 1).trans rfl
  have ps2 : V.cell? ⟨w.heap.size, 2, none⟩ = some (Value.string ⟨#[]⟩) := (Lib.cell_of_heap hob 2).trans rfl
  have ps3 : V.cell? ⟨w.heap.size, 3, none⟩ = some (Value.slice A' l.length c') := (Lib.cell_of_heap hob 3).trans rfl
  have ps4 : V.cell? ⟨w.heap.size, 4, none⟩ = some (Value.slice none 0 0) := (Lib.cell_of_heap hob 4).trans rfl
  have ps5 : V.cell? ⟨w.heap.size, 5, none⟩ = some (Value.slice none 0 0) := (Lib.cell_of_heap hob 5).trans rfl
  have ps6 : V.cell? ⟨w.heap.size, 6, none⟩ = some (Value.slice none 0 0) := (Lib.cell_of_heap hob 6).trans rfl
  refine bodyPost_ret (v := .agg #[Value.int .i64 6, Value.int .i64 0, Value.string ⟨#[]⟩, Value.slice A' l.length c', Value.slice none 0 0, Value.slice none 0 0, Value.slice none 0 0]) (by simp [results, Tryz.results99, go_sem, ps0, ps1, ps2, ps3, ps4, ps5, ps6]) rfl ?_
  have hsz : V.heap.size = w1.heap.size := hszV
  have hr := HR.out
  have hz1 := hb1z
  have hsub : ∀ b, Btw (w.heap.size + 1) w1.heap.size b → Btw lo V.heap.size b := fun b h => ⟨by have := h.1; omega, by have := h.2; omega⟩
  have hsub2 : ∀ b, Btw lo w.heap.size b → Btw lo V.heap.size b := fun b h => ⟨h.1, by have := h.2; omega⟩
  refine ⟨_, rfl, ⟨_, _, _, _, rfl, by decide, by decide, Nat.zero_le _, RowB.sub (RowB.keep hr (hsm _ (fun h => by have := h.1; omega)) (fun _ _ h => h)) hsub ?_, zeroRw _ _ _ _, zeroRw _ _ _ _, zeroRw _ _ _ _⟩, hBV⟩
  rintro j cs ⟨x, hx, hv⟩
  exact ⟨x, hx, VB.sub hsub2 (Nat.le_refl _) (VB.keep (hsm _ (fun h => by have := h.2; omega)) hv)⟩
set_option maxRecDepth 100000 in
set_option maxHeartbeats 3200000 in
theorem refCons_any (k lo : Nat) (u v : Vl) (ca cb : List Value) (w : World) (hlo : lo ≤ w.heap.size) (ha : VB k w (Btw lo w.heap.size) u ca) (hb : VB k w (Btw lo w.heap.size) v cb) :
    Calls Tryz.prog 51 #[.agg ca.toArray, .agg cb.toArray] w fun e w' => ∃ cs, e = .returned (.agg cs.toArray) ∧ VB (k + 1) w' (Btw lo w'.heap.size) (consV u v) cs ∧ Below w.heap.size w w' := by
  obtain ⟨a, i, s, B1, n1, d1, B2, n2, d2, B3, n3, d3, B4, n4, d4, rfl⟩ := ha.form7
  obtain ⟨a', i', s', B1', n1', d1', B2', n2', d2', B3', n3', d3', B4', n4', d4', rfl⟩ := hb.form7
  go_enter Tryz.func51, Tryz.ntmps51
  go_wp2
  obtain ⟨V, hV⟩ : ∃ V, V = (((w.alloc (.cells #[.int .i64 a, .int .i64 i, .string s, .slice B1 n1 d1, .slice B2 n2 d2, .slice B3 n3 d3, .slice B4 n4 d4] 27)).alloc (.cells #[.int .i64 a', .int .i64 i', .string s', .slice B1' n1' d1', .slice B2' n2' d2', .slice B3' n3' d3', .slice B4' n4' d4'] 27)).alloc (.cells #[Value.int .i64 7, Value.int .i64 0, Value.string ⟨#[]⟩, Value.slice (some ⟨w.heap.size + 1 + 1 + 1, 0, none⟩) 2 2, Value.slice none 0 0, Value.slice none 0 0, Value.slice none 0 0] 27)).alloc (.cells #[.int .i64 a, .int .i64 i, .string s, .slice B1 n1 d1, .slice B2 n2 d2, .slice B3 n3 d3, .slice B4 n4 d4, .int .i64 a', .int .i64 i', .string s', .slice B1' n1' d1', .slice B2' n2' d2', .slice B3' n3' d3', .slice B4' n4' d4'] 27) := ⟨_, rfl⟩
  rw [← hV]
  have hb4 : Below w.heap.size w V := by rw [hV]; exact ((((Below.refl _ _).alloc (Nat.le_refl _) _).alloc (by simp) _).alloc (by simp; omega) _).alloc (by simp; omega) _
  have hz : V.heap.size = w.heap.size + 4 := by rw [hV]; simp
  have k4 : V.heap[w.heap.size + 3]? = some (.cells #[.int .i64 a, .int .i64 i, .string s, .slice B1 n1 d1, .slice B2 n2 d2, .slice B3 n3 d3, .slice B4 n4 d4, .int .i64 a', .int .i64 i', .string s', .slice B1' n1' d1', .slice B2' n2' d2', .slice B3' n3' d3', .slice B4' n4' d4'] 27 (0, 0)) := by rw [hV]; exact new_at' _ (by simp)
  have k3 : V.heap[w.heap.size + 2]? = some (.cells #[Value.int .i64 7, Value.int .i64 0, Value.string ⟨#[]⟩, Value.slice (some ⟨w.heap.size + 1 + 1 + 1, 0, none⟩) 2 2, Value.slice none 0 0, Value.slice none 0 0, Value.slice none 0 0] 27 (0, 0)) := by rw [hV, Below.heap_alloc _ _ _ (by simp)]; exact new_at' _ (by simp)
  have e0 : V.cell? ⟨w.heap.size + 1 + 1, 0, none⟩ = some (Value.int .i64 7) := (Lib.cell_of_heap k3 0).trans rfl
  have e1 : V.cell? ⟨w.heap.size + 1 + 1, 1, none⟩ = some (Value.int .i64 0) := (Lib.cell_of_heap k3 1).trans rfl
  have e2 : V.cell? ⟨w.heap.size + 1 + 1, 2, none⟩ = some (Value.string ⟨#[]⟩) := (Lib.cell_of_heap k3 2).trans rfl
  have e3 : V.cell? ⟨w.heap.size + 1 + 1, 3, none⟩ = some (Value.slice (some ⟨w.heap.size + 1 + 1 + 1, 0, none⟩) 2 2) := (Lib.cell_of_heap k3 3).trans rfl
  have e4 : V.cell? ⟨w.heap.size + 1 + 1, 4, none⟩ = some (Value.slice none 0 0) := (Lib.cell_of_heap k3 4).trans rfl
  have e5 : V.cell? ⟨w.heap.size + 1 + 1, 5, none⟩ = some (Value.slice none 0 0) := (Lib.cell_of_heap k3 5).trans rfl
  have e6 : V.cell? ⟨w.heap.size + 1 + 1, 6, none⟩ = some (Value.slice none 0 0) := (Lib.cell_of_heap k3 6).trans rfl
  clear hV
  refine bodyPost_ret (v := .agg #[Value.int .i64 7, Value.int .i64 0, Value.string ⟨#[]⟩, Value.slice (some ⟨w.heap.size + 1 + 1 + 1, 0, none⟩) 2 2, Value.slice none 0 0, Value.slice none 0 0, Value.slice none 0 0]) (by simp [results, Tryz.results51, go_sem, e0, e1, e2, e3, e4, e5, e6]) rfl ?_
  have hs : Same (Btw lo w.heap.size) w V := .of_below hb4 fun _ h => h.2
  have hsub : ∀ b, Btw lo w.heap.size b → Btw lo V.heap.size b := fun b h => ⟨h.1, by have := h.2; omega⟩
  refine ⟨_, rfl, ⟨_, _, _, _, rfl, by decide, by decide, Nat.zero_le _, ⟨_, _, rfl, by unfold maxLen; simp, fun _ => ⟨w.heap.size + 3, 0, rfl, ⟨by omega, by omega⟩, by omega, fun j hj => ?_⟩⟩, zeroRw _ _ _ _, zeroRw _ _ _ _, zeroRw _ _ _ _⟩, hb4⟩
  have hcell : ∀ q, V.cell? ⟨w.heap.size + 3, q, none⟩ = (#[.int .i64 a, .int .i64 i, .string s, .slice B1 n1 d1, .slice B2 n2 d2, .slice B3 n3 d3, .slice B4 n4 d4, .int .i64 a', .int .i64 i', .string s', .slice B1' n1' d1', .slice B2' n2' d2', .slice B3' n3' d3', .slice B4' n4' d4'] : Array Value)[q]? := fun q => Lib.cell_of_heap k4 q
  match j, hj with
  | 0, _ =>
    refine ⟨[.int .i64 a, .int .i64 i, .string s, .slice B1 n1 d1, .slice B2 n2 d2, .slice B3 n3 d3, .slice B4 n4 d4], rfl, fun q hq => ?_, u, rfl, VB.sub hsub (Nat.le_refl _) (VB.keep hs ha)⟩
    rw [show 0 + 0 * 7 + q = q by omega, hcell]
    match q, hq with
    | 0, _ => rfl
    | 1, _ => rfl
    | 2, _ => rfl
    | 3, _ => rfl
    | 4, _ => rfl
    | 5, _ => rfl
    | 6, _ => rfl
  | 1, _ =>
    refine ⟨[.int .i64 a', .int .i64 i', .string s', .slice B1' n1' d1', .slice B2' n2' d2', .slice B3' n3' d3', .slice B4' n4' d4'], rfl, fun q hq => ?_, v, rfl, VB.sub hsub (Nat.le_refl _) (VB.keep hs hb)⟩
    rw [show 0 + 1 * 7 + q = 7 + q by omega, hcell]
    match q, hq with
    | 0, _ => rfl
    | 1, _ => rfl
    | 2, _ => rfl
    | 3, _ => rfl
    | 4, _ => rfl
    | 5, _ => rfl
    | 6, _ => rfl
end Go.Proofs.YtpgnkfobgjplmaaGreat
