/- Appending a whole row; what copies, Tuple and Cons of the document return. -/
import Derived.Test.YtpgnkfobgjplmaaGreatVb23
namespace Go.Proofs.YtpgnkfobgjplmaaGreat
open Go Go.RowKit
theorem row_news {w : World} {B : Nat → Prop} {c n cap : Nat} {A : Option Addr} {R : Nat → List Value → Prop} (hc : 0 < c) (h : RowB w B c (.slice A n cap) n R) (hn : 0 < n) :
    ∃ b off, ∃ news : List Value, A = some ⟨b, off, none⟩ ∧ news.length = n * c ∧ (∀ q u, news[q]? = some u → w.cell? ⟨b, off + q, none⟩ = some u) ∧ (∀ j, j < n → R j ((news.drop (j * c)).take c)) ∧ ∀ u, u ∈ news → ∃ j cs, R j cs ∧ u ∈ cs := by
  obtain ⟨A', cap', h1, _, h3⟩ := h
  obtain ⟨b, off, rfl, _, _, h7⟩ := h3 hn
  injection h1 with hA _ _
  have hch : ∀ j : Fin n, ∃ cs : List Value, cs.length = c ∧ (∀ i, i < c → w.cell? ⟨b, off + j.1 * c + i, none⟩ = cs[i]?) ∧ R j.1 cs := fun j => h7 j.1 j.2
  let enc : Fin n → List Value := fun j => Classical.choose (hch j)
  have he : ∀ j, (enc j).length = c ∧ (∀ i, i < c → w.cell? ⟨b, off + j.1 * c + i, none⟩ = (enc j)[i]?) ∧ R j.1 (enc j) := fun j => Classical.choose_spec (hch j)
  have hfr : ∀ j (hj : j < n), (List.finRange n)[j]? = some ⟨j, hj⟩ := fun j hj => by simp [hj]
  have hlen : ∀ l : List (Fin n), (l.flatMap enc).length = l.length * c := by
    intro l
    induction l with
    | nil => simp
    | cons a s ih => rw [List.flatMap_cons, List.length_append, ih, (he a).1, List.length_cons, Nat.add_mul]; omega
  refine ⟨b, off, (List.finRange n).flatMap enc, hA, by rw [hlen, List.length_finRange], fun q u hq => ?_, fun j hj => ?_, fun u hu => ?_⟩
  · obtain ⟨x, hx, hu⟩ := flat_at (fun x => (he x).1) hc hq
    have hd : q / c < n := by have := (List.getElem?_eq_some_iff.1 hx).1; simpa using this
    rw [hfr _ hd] at hx
    injection hx with hx
    subst hx
    have := (he ⟨q / c, hd⟩).2.1 (q % c) (Nat.mod_lt _ hc)
    rw [hu, Nat.add_assoc, show q / c * c + q % c = q by rw [Nat.mul_comm]; exact Nat.div_add_mod q c] at this
    exact this
  · rw [flat_sub (fun x => (he x).1) (hfr j hj)]
    exact (he ⟨j, hj⟩).2.2
  · obtain ⟨x, _, hx⟩ := List.mem_flatMap.1 hu
    exact ⟨x.1, enc x, (he x).2.2, hx⟩
/-- appending a whole row to a row of the call's own -/
theorem app_row {α : Type} (K : ElK α) (t ty : TypeId) (e : TypeId) (i : TypeInfo) (z : Value) (c bytes : Nat) (ht : Tryz.prog.underlying t = some (.slice e)) (hi : Tryz.prog.info? e = some i) (hz : i.zero = some z)
    (hsize : i.size = c) (hby : i.bytes = bytes) (hzs : z.cells.size = c) (hc : 0 < c) (hb8 : bytes ≤ 1000) (h1K : ∀ x w B cs, K.E x w B cs → ∀ u ∈ cs, u.oneCell' = true)
    (w0 : World) (base : Nat) (v : Value) (l : List α) (h : OwnE K e c w0 base v l) (A : Option Addr) (m cap1 : Nat) (l' : List α) (hm : l'.length = m) (Bs : Nat → Prop)
    (hx : RowB w0 Bs c (.slice A m cap1) m (fun j cs => ∃ x, l'[j]? = some x ∧ K.E x w0 (fun b => base ≤ b ∧ b < w0.heap.size ∧ some b ≠ v.ownBlock) cs))
    (hn : l.length + m ≤ 1000000) (hbase : base ≤ w0.heap.size) :
    ∃ v' w', (Builtin.append_ #[t, t] ty #[v, .slice A m cap1]).run Tryz.prog w0 = .ok v' w' ∧ OwnE K e c w' base v' (l ++ l') ∧ Below base w0 w' ∧ (∀ b, b < w0.heap.size → some b ≠ v.ownBlock → w'.heap[b]? = w0.heap[b]?) ∧ (∀ g, v'.ownBlock = some g → v.ownBlock = some g ∨ w0.heap.size ≤ g) := by
  subst hm
  have hown := h
  obtain ⟨xs, ho, hxs⟩ := h
  have hvlt : ∀ b, v.ownBlock = some b → base ≤ b ∧ b < w0.heap.size := by
    intro b hb
    rcases ho.2 with ⟨rfl, _⟩ | ⟨g', cap', cur, rfl, hB, hg, _⟩
    · simp [Value.ownBlock] at hb
    · simp [Value.ownBlock] at hb
      subst hb
      exact ⟨hB, (Array.getElem?_eq_some_iff.1 hg).1⟩
  have hnone : A = none → l' = [] := by
    intro hA
    rcases Nat.eq_zero_or_pos l'.length with h0 | h0
    · exact List.eq_nil_of_length_eq_zero h0
    · obtain ⟨b, off, news, hA', _⟩ := row_news hc hx h0
      rw [hA] at hA'
      cases hA'
  rcases A with _ | ad
  · have hl' := hnone rfl
    subst hl'
    have hr : (Builtin.append_ #[t, t] ty #[v, .slice none 0 cap1]).run Tryz.prog w0 = .ok v w0 := by
      rcases ho.2 with ⟨rfl, _⟩ | ⟨g, cap, cur, rfl, _, _, hnc, _⟩
      · simp [Builtin.append_, run_underlying ht, sizeOf, typeInfo, hi, Builtin.lenOf, Builtin.firstCells]
      · simp [Builtin.append_, run_underlying ht, sizeOf, typeInfo, hi, Builtin.lenOf, Builtin.firstCells, hnc, storeCells]
    exact ⟨v, w0, hr, by rw [List.append_nil]; exact hown, Below.refl _ _, fun _ _ _ => rfl, fun g hg => .inl hg⟩
  · obtain ⟨news, hnl, hnc, hnR, hn1⟩ : ∃ news : List Value, news.length = l'.length * c ∧ (∀ q u, news[q]? = some u → w0.cell? (ad.add q) = some u) ∧ (∀ j, j < l'.length → ∃ x, l'[j]? = some x ∧ K.E x w0 (fun b => base ≤ b ∧ b < w0.heap.size ∧ some b ≠ v.ownBlock) ((news.drop (j * c)).take c)) ∧ ∀ u, u ∈ news → u.oneCell' = true := by
      rcases Nat.eq_zero_or_pos l'.length with h0 | h0
      · exact ⟨[], by simp [h0], fun q u h => by simp at h, fun j hj => by omega, fun u h => by cases h⟩
      · obtain ⟨b, off, news, hA, hnl, hnc, hnR, hn1⟩ := row_news hc hx h0
        injection hA with hA
        subst hA
        exact ⟨news, hnl, fun j u hj => by rw [addr_add]; exact hnc j u hj, hnR, fun u hu => by obtain ⟨j, cs, ⟨x, _, hE⟩, hm⟩ := hn1 u hu; exact h1K x _ _ cs hE u hm⟩
    have hby8 : (l.length + l'.length) * bytes ≤ 140737488355328 := Nat.le_trans (Nat.mul_le_mul (show l.length + l'.length ≤ 1000001 by omega) hb8) (by decide)
    obtain ⟨v', w', hr, h2, h3, _, h4⟩ := run_append_own_at (P := Tryz.prog) (w := w0) base t ty e i z c bytes ht hi hz hsize hby hzs hc v l.length xs ho ad l'.length cap1 news hnl hnc hn1 (by unfold maxLen; omega) hby8 hbase
    have hkeep : ∀ b, b < w0.heap.size → some b ≠ v.ownBlock → w'.heap[b]? = w0.heap[b]? := fun b hb hne => h3.block b hb hne
    have hs3 := h3.size
    have hsm : Same (fun b => base ≤ b ∧ b < w0.heap.size ∧ some b ≠ v.ownBlock) w0 w' := ⟨hs3, fun b i hB hl => World.cell?_of_block (hkeep b hl hB.2.2)⟩
    have hsub : ∀ b, (base ≤ b ∧ b < w0.heap.size ∧ some b ≠ v.ownBlock) → (base ≤ b ∧ b < w'.heap.size ∧ some b ≠ v'.ownBlock) := by
      intro b ⟨a1, a2, a3⟩
      refine ⟨a1, by omega, ?_⟩
      rcases h4 with h4 | h4
      · rw [h4]; exact a3
      · rw [h4]
        intro e
        injection e with e
        omega
    have hll : (l ++ l').length = l.length + l'.length := by simp
    refine ⟨v', w', hr, ⟨xs ++ news, by rw [hll]; exact h2, fun j y hj => ?_⟩, (Below.refl base w0).grown h3 hbase (fun k hk => (hvlt k hk).1), hkeep, fun g' hg' => by
      rcases h4 with h4 | h4
      · exact .inl (h4 ▸ hg')
      · right
        rw [h4] at hg'
        injection hg' with hg'
        omega⟩
    have hjl : j < l.length + l'.length := by have := (List.getElem?_eq_some_iff.1 hj).1; omega
    have hxl := ho.1
    by_cases hjn : j < l.length
    · rw [List.getElem?_append_left hjn] at hj
      have hle : (j + 1) * c ≤ l.length * c := Nat.mul_le_mul_right c hjn
      rw [Nat.add_mul, Nat.one_mul] at hle
      rw [show ((xs ++ news).drop (j * c)).take c = (xs.drop (j * c)).take c by rw [List.drop_append_of_le_length (by omega), List.take_append_of_le_length (by rw [List.length_drop]; omega)]]
      exact K.sub hsub (K.keep hsm (hxs j y hj))
    · rw [List.getElem?_append_right (by omega)] at hj
      obtain ⟨x, hx1, hx2⟩ := hnR (j - l.length) (by omega)
      rw [hx1] at hj
      injection hj with hj
      subst hj
      have hq : j * c = xs.length + (j - l.length) * c := by rw [hxl, ← Nat.add_mul, show l.length + (j - l.length) = j by omega]
      rw [hq, List.drop_append, List.drop_eq_nil_of_le (Nat.le_add_right _ _), List.nil_append, Nat.add_sub_cancel_left]
      exact K.sub hsub (K.keep hsm hx2)
theorem elV_one (k : Nat) (x : Vl) (w : World) (B : Nat → Prop) (cs : List Value) (h : (elV k).E x w B cs) : ∀ u ∈ cs, u.oneCell' = true := by
  obtain ⟨a, i, s, A1, n1, c1, A2, n2, c2, A3, n3, c3, A4, n4, c4, rfl⟩ := VB.form7 h
  intro u hu
  simp only [List.mem_cons, List.not_mem_nil, or_false] at hu
  rcases hu with rfl | rfl | rfl | rfl | rfl | rfl | rfl <;> rfl
theorem elK_one (x : Int × List UInt8) (w : World) (B : Nat → Prop) (cs : List Value) (h : elK.E x w B cs) : ∀ u ∈ cs, u.oneCell' = true := by
  obtain ⟨rfl, _⟩ := h
  intro u hu
  simp only [List.mem_cons, List.not_mem_nil, or_false] at hu
  rcases hu with rfl | rfl <;> rfl
theorem elE_one (k : Nat) (x : En) (w : World) (B : Nat → Prop) (cs : List Value) (h : (elE k).E x w B cs) : ∀ u ∈ cs, u.oneCell' = true := by
  obtain ⟨a, f, r, _, ua, rs, rfl, ⟨A, cap, rfl, _⟩, hr⟩ := h
  obtain ⟨a, i, s, A1, n1, c1, A2, n2, c2, A3, n3, c3, A4, n4, c4, rfl⟩ := VB.form7 hr
  intro u hu
  simp only [List.mem_cons, List.not_mem_nil, or_false] at hu
  rcases hu with rfl | rfl | rfl | rfl | rfl | rfl | rfl | rfl | rfl <;> rfl
theorem vb_len {k : Nat} {w : World} {B : Nat → Prop} {x : Vl} {cs : List Value} (h : VB k w B x cs) : cs.length = 7 := by
  obtain ⟨a, i, s, A1, n1, c1, A2, n2, c2, A3, n3, c3, A4, n4, c4, rfl⟩ := VB.form7 h
  rfl
theorem wp_row_v {ops : Array Oper} {rest : List Oper} {o : Oper} {a : Act} {Q : Exit → Act → World → Prop} {w0 : World} (hgd : o.guard = none) (s x : Operand)
    (ho : o.op = .call { callee := .builtin .append, args := #[s, x], argTypes := #[22, 22] }) (k : Nat) (base : Nat) (v : Value) (l : List Vl) (hs : a.eval s = v) (hown : OwnV k w0 base v l)
    (A : Option Addr) (m cap1 : Nat) (l' : List Vl) (hm : l'.length = m) (Bs : Nat → Prop) (hx : a.eval x = .slice A m cap1)
    (hR : RowB w0 Bs 7 (.slice A m cap1) m (fun j cs => ∃ y, l'[j]? = some y ∧ (elV k).E y w0 (fun b => base ≤ b ∧ b < w0.heap.size ∧ some b ≠ v.ownBlock) cs)) (hn : l.length + m ≤ 1000000) (hbase : base ≤ w0.heap.size)
    (h : ∀ v' w', OwnV k w' base v' (l ++ l') → Below base w0 w' → (∀ b, b < w0.heap.size → some b ≠ v.ownBlock → w'.heap[b]? = w0.heap[b]?) → (∀ g, v'.ownBlock = some g → v.ownBlock = some g ∨ w0.heap.size ≤ g) → wpList Tryz.prog ops Q rest (a.put o.dst v') w') :
    wpList Tryz.prog ops Q (o :: rest) a w0 := by
  obtain ⟨i0, hi, hz0, hz1, hz2⟩ := info_parts Tryz.infoV
  obtain ⟨v', w', h1, h2, h3, h4, h5⟩ := app_row (elV k) 22 o.type 27 i0 (.agg #[.int .i64 0, .int .i64 0, .string ⟨#[]⟩, .slice none 0 0, .slice none 0 0, .slice none 0 0, .slice none 0 0]) 7 128 Tryz.underlying22 hi hz0 hz1 hz2 rfl (by decide) (by decide) (elV_one k) w0 base v l hown A m cap1 l' hm Bs hR hn hbase
  exact Lib.wpList_append_run _ hgd s x 22 22 ho v _ hs hx _ w' h1 (h v' w' h2 h3 h4 h5)
theorem wp_row_k {ops : Array Oper} {rest : List Oper} {o : Oper} {a : Act} {Q : Exit → Act → World → Prop} {w0 : World} (hgd : o.guard = none) (s x : Operand)
    (ho : o.op = .call { callee := .builtin .append, args := #[s, x], argTypes := #[23, 23] }) (base : Nat) (v : Value) (l : List (Int × List UInt8)) (hs : a.eval s = v) (hown : OwnK w0 base v l)
    (A : Option Addr) (m cap1 : Nat) (l' : List (Int × List UInt8)) (hm : l'.length = m) (Bs : Nat → Prop) (hx : a.eval x = .slice A m cap1)
    (hR : RowB w0 Bs 2 (.slice A m cap1) m (fun j cs => ∃ y, l'[j]? = some y ∧ (elK).E y w0 (fun b => base ≤ b ∧ b < w0.heap.size ∧ some b ≠ v.ownBlock) cs)) (hn : l.length + m ≤ 1000000) (hbase : base ≤ w0.heap.size)
    (h : ∀ v' w', OwnK w' base v' (l ++ l') → Below base w0 w' → (∀ b, b < w0.heap.size → some b ≠ v.ownBlock → w'.heap[b]? = w0.heap[b]?) → (∀ g, v'.ownBlock = some g → v.ownBlock = some g ∨ w0.heap.size ≤ g) → wpList Tryz.prog ops Q rest (a.put o.dst v') w') :
    wpList Tryz.prog ops Q (o :: rest) a w0 := by
  obtain ⟨i0, hi, hz0, hz1, hz2⟩ := info_parts Tryz.infoK
  obtain ⟨v', w', h1, h2, h3, h4, h5⟩ := app_row (elK) 23 o.type 74 i0 (.agg #[.int .i64 0, .string ⟨#[]⟩]) 2 24 Tryz.underlying23 hi hz0 hz1 hz2 rfl (by decide) (by decide) (elK_one) w0 base v l hown A m cap1 l' hm Bs hR hn hbase
  exact Lib.wpList_append_run _ hgd s x 23 23 ho v _ hs hx _ w' h1 (h v' w' h2 h3 h4 h5)
theorem wp_row_e {ops : Array Oper} {rest : List Oper} {o : Oper} {a : Act} {Q : Exit → Act → World → Prop} {w0 : World} (hgd : o.guard = none) (s x : Operand)
    (ho : o.op = .call { callee := .builtin .append, args := #[s, x], argTypes := #[24, 24] }) (k : Nat) (base : Nat) (v : Value) (l : List En) (hs : a.eval s = v) (hown : OwnEn k w0 base v l)
    (A : Option Addr) (m cap1 : Nat) (l' : List En) (hm : l'.length = m) (Bs : Nat → Prop) (hx : a.eval x = .slice A m cap1)
    (hR : RowB w0 Bs 9 (.slice A m cap1) m (fun j cs => ∃ y, l'[j]? = some y ∧ (elE k).E y w0 (fun b => base ≤ b ∧ b < w0.heap.size ∧ some b ≠ v.ownBlock) cs)) (hn : l.length + m ≤ 1000000) (hbase : base ≤ w0.heap.size)
    (h : ∀ v' w', OwnEn k w' base v' (l ++ l') → Below base w0 w' → (∀ b, b < w0.heap.size → some b ≠ v.ownBlock → w'.heap[b]? = w0.heap[b]?) → (∀ g, v'.ownBlock = some g → v.ownBlock = some g ∨ w0.heap.size ≤ g) → wpList Tryz.prog ops Q rest (a.put o.dst v') w') :
    wpList Tryz.prog ops Q (o :: rest) a w0 := by
  obtain ⟨i0, hi, hz0, hz1, hz2⟩ := info_parts Tryz.infoE
  obtain ⟨v', w', h1, h2, h3, h4, h5⟩ := app_row (elE k) 24 o.type 55 i0 (.agg #[.slice none 0 0, .bool false, .int .i64 0, .int .i64 0, .string ⟨#[]⟩, .slice none 0 0, .slice none 0 0, .slice none 0 0, .slice none 0 0]) 9 160 Tryz.underlying24 hi hz0 hz1 hz2 rfl (by decide) (by decide) (elE_one k) w0 base v l hown A m cap1 l' hm Bs hR hn hbase
  exact Lib.wpList_append_run _ hgd s x 24 24 ho v _ hs hx _ w' h1 (h v' w' h2 h3 h4 h5)
end Go.Proofs.YtpgnkfobgjplmaaGreat
