/- small and judged of the document; boxes of seven cells; appending a row of strings. -/
import Derived.Test.YtjfknigiehggkaaGreatVv01
import Derived.Test.YtjfknigiehggkaaGreatVv03
import Derived.Test.YtjfknigiehggkaaGreatVv18
import Derived.Test.YtjfknigiehggkaaGreatVv21
import Derived.Test.YtjfknigiehggkaaGreatVv23
import Derived.Test.YtjfknigiehggkaaGreatVv31
namespace Go.Proofs.YtjfknigiehggkaaGreat
open Go Go.RowKit
set_option maxRecDepth 100000 in
set_option maxHeartbeats 1600000 in
theorem small_any (k : Nat) (v : Vl) (cs : List Value) (w : World) (h : VS k w w.heap.size v cs) : Calls Tryz.prog 8 #[.agg cs.toArray] w fun e w' => e = .returned (.bool (decide (wrap64 (nodes v) ≤ 60))) ∧ Below w.heap.size w w' := by
  obtain ⟨a, i, s, B1, n1, d1, B2, n2, d2, B3, n3, d3, B4, n4, d4, rfl⟩ := h.form7
  obtain ⟨W, hW⟩ : ∃ W, W = w.alloc (.cells #[.int .i64 a, .int .i64 i, .string s, .slice B1 n1 d1, .slice B2 n2 d2, .slice B3 n3 d3, .slice B4 n4 d4] 27) := ⟨_, rfl⟩
  have hbb : Below w.heap.size w W := by rw [hW]; exact (Below.refl _ _).alloc (Nat.le_refl _) _
  have q0 : W.cell? ⟨w.heap.size, 0, none⟩ = some (.int .i64 a) := by rw [hW]; simp
  have q1 : W.cell? ⟨w.heap.size, 1, none⟩ = some (.int .i64 i) := by rw [hW]; simp
  have q2 : W.cell? ⟨w.heap.size, 2, none⟩ = some (.string s) := by rw [hW]; simp
  have q3 : W.cell? ⟨w.heap.size, 3, none⟩ = some (.slice B1 n1 d1) := by rw [hW]; simp
  have q4 : W.cell? ⟨w.heap.size, 4, none⟩ = some (.slice B2 n2 d2) := by rw [hW]; simp
  have q5 : W.cell? ⟨w.heap.size, 5, none⟩ = some (.slice B3 n3 d3) := by rw [hW]; simp
  have q6 : W.cell? ⟨w.heap.size, 6, none⟩ = some (.slice B4 n4 d4) := by rw [hW]; simp
  have hc := nodes_any k v _ W (VS.up hbb.size (Nat.le_refl _) (VS.on hbb h))
  have HB := Lib.hid hbb
  clear h hbb
  generalize wrap64 (nodes v : Int) = z at hc ⊢
  go_enter Tryz.func8, Tryz.ntmps8
  go_wp2_with fail
  rw [← hW]
  clear hW
  go_wp2_with (go_at_call 37; refine hc.mono ?_; rintro e w1 ⟨rfl, hb1⟩; refine Hid.out ?_)
  refine Lib.hid ?_
  clear hc
  go_wp2
  go_ret
  exact ⟨rfl, HB.out.trans (hb1.mono HB.out.size)⟩
set_option maxRecDepth 100000 in
set_option maxHeartbeats 1600000 in
theorem judged_any (k : Nat) (v : Vl) (cs : List Value) (w : World) (h : VS k w w.heap.size v cs) : Calls Tryz.prog 12 #[.agg cs.toArray] w fun e w' => e = .returned (.bool true) ∧ Below w.heap.size w w' := by
  obtain ⟨a, i, s, B1, n1, d1, B2, n2, d2, B3, n3, d3, B4, n4, d4, rfl⟩ := h.form7
  obtain ⟨W, hW⟩ : ∃ W, W = w.alloc (.cells #[.int .i64 a, .int .i64 i, .string s, .slice B1 n1 d1, .slice B2 n2 d2, .slice B3 n3 d3, .slice B4 n4 d4] 27) := ⟨_, rfl⟩
  have hbb : Below w.heap.size w W := by rw [hW]; exact (Below.refl _ _).alloc (Nat.le_refl _) _
  have hlt : w.heap.size < W.heap.size := by rw [hW]; simp
  have q0 : W.cell? ⟨w.heap.size, 0, none⟩ = some (.int .i64 a) := by rw [hW]; simp
  have q1 : W.cell? ⟨w.heap.size, 1, none⟩ = some (.int .i64 i) := by rw [hW]; simp
  have q2 : W.cell? ⟨w.heap.size, 2, none⟩ = some (.string s) := by rw [hW]; simp
  have q3 : W.cell? ⟨w.heap.size, 3, none⟩ = some (.slice B1 n1 d1) := by rw [hW]; simp
  have q4 : W.cell? ⟨w.heap.size, 4, none⟩ = some (.slice B2 n2 d2) := by rw [hW]; simp
  have q5 : W.cell? ⟨w.heap.size, 5, none⟩ = some (.slice B3 n3 d3) := by rw [hW]; simp
  have q6 : W.cell? ⟨w.heap.size, 6, none⟩ = some (.slice B4 n4 d4) := by rw [hW]; simp
  have hc := refValid_any (Lib.hid refNode_any) k v _ W (VS.up hbb.size (Nat.le_refl _) (VS.on hbb h))
  have HV : Hid (∀ V, Below W.heap.size W V → Calls Tryz.prog 11 #[.agg #[.int .i64 a, .int .i64 i, .string s, .slice B1 n1 d1, .slice B2 n2 d2, .slice B3 n3 d3, .slice B4 n4 d4]] V fun e w' => e = .returned (.int .i64 (if okV v then 0 else 1)) ∧ Below V.heap.size V w') := Lib.hid fun V hV => validate_any k v _ V (VS.up (Nat.le_trans hbb.size hV.size) (Nat.le_refl _) (VS.on (hbb.trans (hV.mono hbb.size)) h))
  have HB := Lib.hid hbb
  have HC : Hid (∀ V, Below W.heap.size W V → V.cell? ⟨w.heap.size, 0, none⟩ = some (.int .i64 a) ∧ V.cell? ⟨w.heap.size, 1, none⟩ = some (.int .i64 i) ∧ V.cell? ⟨w.heap.size, 2, none⟩ = some (.string s) ∧ V.cell? ⟨w.heap.size, 3, none⟩ = some (.slice B1 n1 d1) ∧ V.cell? ⟨w.heap.size, 4, none⟩ = some (.slice B2 n2 d2) ∧ V.cell? ⟨w.heap.size, 5, none⟩ = some (.slice B3 n3 d3) ∧ V.cell? ⟨w.heap.size, 6, none⟩ = some (.slice B4 n4 d4)) := Lib.hid fun V hV => ⟨(hV.cell (p := ⟨w.heap.size, 0, none⟩) hlt).trans q0, (hV.cell (p := ⟨w.heap.size, 1, none⟩) hlt).trans q1, (hV.cell (p := ⟨w.heap.size, 2, none⟩) hlt).trans q2, (hV.cell (p := ⟨w.heap.size, 3, none⟩) hlt).trans q3, (hV.cell (p := ⟨w.heap.size, 4, none⟩) hlt).trans q4, (hV.cell (p := ⟨w.heap.size, 5, none⟩) hlt).trans q5, (hV.cell (p := ⟨w.heap.size, 6, none⟩) hlt).trans q6⟩
  clear h hbb
  generalize okV v = z at hc HV
  go_enter Tryz.func12, Tryz.ntmps12
  go_wp2_with fail
  rw [← hW]
  clear hW
  go_wp2_with (go_at_call 43; refine hc.mono ?_; rintro e w1 ⟨rfl, hb1⟩; refine Hid.out ?_)
  refine Lib.hid ?_
  clear hc q0 q1 q2 q3 q4 q5 q6
  have hVv := HV.out w1 hb1
  obtain ⟨q0, q1, q2, q3, q4, q5, q6⟩ := HC.out w1 hb1
  have HB1 := Lib.hid (HB.out.trans (hb1.mono HB.out.size))
  clear hb1 hlt
  cases z
  all_goals (
    go_wp2_with (go_at_call 11; refine hVv.mono ?_; rintro e w2 ⟨rfl, hb2⟩; refine Hid.out ?_)
    refine Lib.hid ?_
    clear hVv
    go_wp2
    go_ret
    exact ⟨by rfl, HB1.out.trans (hb2.mono HB1.out.size)⟩)
theorem app_rowL {α : Type} (K : ElK α) (t ty : TypeId) (e : TypeId) (i : TypeInfo) (z : Value) (c bytes : Nat) (ht : Tryz.prog.underlying t = some (.slice e)) (hi : Tryz.prog.info? e = some i) (hz : i.zero = some z)
    (hsize : i.size = c) (hby : i.bytes = bytes) (hzs : z.cells.size = c) (hc : 0 < c) (hb8 : bytes ≤ 1000) (h1K : ∀ x w B cs, K.E x w B cs → ∀ u ∈ cs, u.oneCell' = true)
    (w0 : World) (base : Nat) (v : Value) (l : List α) (h : OwnE K e c w0 base v l) (A : Option Addr) (m cap1 : Nat) (l' : List α) (hm : l'.length = m) (Bs : Nat → Prop)
    (hx : RowB w0 Bs c (.slice A m cap1) m (fun j cs => ∃ x, l'[j]? = some x ∧ K.E x w0 (fun b => base ≤ b ∧ b < w0.heap.size ∧ some b ≠ v.ownBlock) cs))
    (hn : l.length + m ≤ 2000000) (hbase : base ≤ w0.heap.size) :
    ∃ v' w', (Builtin.append_ #[t, t] ty #[v, .slice A m cap1]).run Tryz.prog w0 = .ok v' w' ∧ OwnE K e c w' base v' (l ++ l') ∧ Below base w0 w' ∧ (∀ b, b < w0.heap.size → some b ≠ v.ownBlock → w'.heap[b]? = w0.heap[b]?) ∧ (∀ g, v'.ownBlock = some g → v.ownBlock = some g ∨ w0.heap.size ≤ g) := by
  subst hm
  have hown := h
  obtain ⟨xs, ho, hxs⟩ := h
  have hvlt : ∀ b, v.ownBlock = some b → base ≤ b ∧ b < w0.heap.size := by
    intro b hb
    rcases ho.2 with ⟨rfl, _⟩ | ⟨g', cap', cur, rfl, hB, hg, _⟩
    · simp [Value.ownBlock] at hb
    · simp [Value.ownBlock] at hb
      subst hb
      exact ⟨hB, (Array.getElem?_eq_some_iff.1 hg).1⟩
  have hnone : A = none → l' = [] := by
    intro hA
    rcases Nat.eq_zero_or_pos l'.length with h0 | h0
    · exact List.eq_nil_of_length_eq_zero h0
    · obtain ⟨b, off, news, hA', _⟩ := row_news hc hx h0
      rw [hA] at hA'
      cases hA'
  rcases A with _ | ad
  · have hl' := hnone rfl
    subst hl'
    have hr : (Builtin.append_ #[t, t] ty #[v, .slice none 0 cap1]).run Tryz.prog w0 = .ok v w0 := by
      rcases ho.2 with ⟨rfl, _⟩ | ⟨g, cap, cur, rfl, _, _, hnc, _⟩
      · simp [Builtin.append_, run_underlying ht, sizeOf, typeInfo, hi, Builtin.lenOf, Builtin.firstCells]
      · simp [Builtin.append_, run_underlying ht, sizeOf, typeInfo, hi, Builtin.lenOf, Builtin.firstCells, hnc, storeCells]
    exact ⟨v, w0, hr, by rw [List.append_nil]; exact hown, Below.refl _ _, fun _ _ _ => rfl, fun g hg => .inl hg⟩
  · obtain ⟨news, hnl, hnc, hnR, hn1⟩ : ∃ news : List Value, news.length = l'.length * c ∧ (∀ q u, news[q]? = some u → w0.cell? (ad.add q) = some u) ∧ (∀ j, j < l'.length → ∃ x, l'[j]? = some x ∧ K.E x w0 (fun b => base ≤ b ∧ b < w0.heap.size ∧ some b ≠ v.ownBlock) ((news.drop (j * c)).take c)) ∧ ∀ u, u ∈ news → u.oneCell' = true := by
      rcases Nat.eq_zero_or_pos l'.length with h0 | h0
      · exact ⟨[], by simp [h0], fun q u h => by simp at h, fun j hj => by omega, fun u h => by cases h⟩
      · obtain ⟨b, off, news, hA, hnl, hnc, hnR, hn1⟩ := row_news hc hx h0
        injection hA with hA
        subst hA
        exact ⟨news, hnl, fun j u hj => by rw [addr_add]; exact hnc j u hj, hnR, fun u hu => by obtain ⟨j, cs, ⟨x, _, hE⟩, hm⟩ := hn1 u hu; exact h1K x _ _ cs hE u hm⟩
    have hby8 : (l.length + l'.length) * bytes ≤ 140737488355328 := Nat.le_trans (Nat.mul_le_mul (show l.length + l'.length ≤ 2000001 by omega) hb8) (by decide)
    obtain ⟨v', w', hr, h2, h3, _, h4⟩ := run_append_own_at (P := Tryz.prog) (w := w0) base t ty e i z c bytes ht hi hz hsize hby hzs hc v l.length xs ho ad l'.length cap1 news hnl hnc hn1 (by unfold maxLen; omega) hby8 hbase
    have hkeep : ∀ b, b < w0.heap.size → some b ≠ v.ownBlock → w'.heap[b]? = w0.heap[b]? := fun b hb hne => h3.block b hb hne
    have hs3 := h3.size
    have hsm : Same (fun b => base ≤ b ∧ b < w0.heap.size ∧ some b ≠ v.ownBlock) w0 w' := ⟨hs3, fun b i hB hl => World.cell?_of_block (hkeep b hl hB.2.2)⟩
    have hsub : ∀ b, (base ≤ b ∧ b < w0.heap.size ∧ some b ≠ v.ownBlock) → (base ≤ b ∧ b < w'.heap.size ∧ some b ≠ v'.ownBlock) := by
      intro b ⟨a1, a2, a3⟩
      refine ⟨a1, by omega, ?_⟩
      rcases h4 with h4 | h4
      · rw [h4]; exact a3
      · rw [h4]
        intro e
        injection e with e
        omega
    have hll : (l ++ l').length = l.length + l'.length := by simp
    refine ⟨v', w', hr, ⟨xs ++ news, by rw [hll]; exact h2, fun j y hj => ?_⟩, (Below.refl base w0).grown h3 hbase (fun k hk => (hvlt k hk).1), hkeep, fun g' hg' => by
      rcases h4 with h4 | h4
      · exact .inl (h4 ▸ hg')
      · right
        rw [h4] at hg'
        injection hg' with hg'
        omega⟩
    have hjl : j < l.length + l'.length := by have := (List.getElem?_eq_some_iff.1 hj).1; omega
    have hxl := ho.1
    by_cases hjn : j < l.length
    · rw [List.getElem?_append_left hjn] at hj
      have hle : (j + 1) * c ≤ l.length * c := Nat.mul_le_mul_right c hjn
      rw [Nat.add_mul, Nat.one_mul] at hle
      rw [show ((xs ++ news).drop (j * c)).take c = (xs.drop (j * c)).take c by rw [List.drop_append_of_le_length (by omega), List.take_append_of_le_length (by rw [List.length_drop]; omega)]]
      exact K.sub hsub (K.keep hsm (hxs j y hj))
    · rw [List.getElem?_append_right (by omega)] at hj
      obtain ⟨x, hx1, hx2⟩ := hnR (j - l.length) (by omega)
      rw [hx1] at hj
      injection hj with hj
      subst hj
      have hq : j * c = xs.length + (j - l.length) * c := by rw [hxl, ← Nat.add_mul, show l.length + (j - l.length) = j by omega]
      rw [hq, List.drop_append, List.drop_eq_nil_of_le (Nat.le_add_right _ _), List.nil_append, Nat.add_sub_cancel_left]
      exact K.sub hsub (K.keep hsm hx2)
theorem app_oneL {α : Type} (K : ElK α) (t ty : TypeId) (e : TypeId) (i : TypeInfo) (z : Value) (c bytes : Nat) (ht : Tryz.prog.underlying t = some (.slice e)) (hi : Tryz.prog.info? e = some i) (hz : i.zero = some z)
    (hsize : i.size = c) (hby : i.bytes = bytes) (hzs : z.cells.size = c) (hc : 0 < c) (hb8 : bytes ≤ 1000)
    (w0 : World) (base : Nat) (v : Value) (l : List α) (h : OwnE K e c w0 base v l) (x : α) (cs : List Value) (hx : K.E x w0 (fun b => base ≤ b ∧ b < w0.heap.size ∧ some b ≠ v.ownBlock) cs) (hcs : cs.length = c) (h1c : ∀ u ∈ cs, u.oneCell' = true)
    (hn : l.length ≤ 2000000) (hbase : base ≤ w0.heap.size) (H : Nat) (hH : w0.heap.size = H) (cap1 : Nat) :
    ∃ g cap w', (Builtin.append_ #[t, t] ty #[v, .slice (some ⟨H, 0, none⟩) 1 cap1]).run Tryz.prog (w0.alloc (.cells cs.toArray e)) = .ok (.slice (some ⟨g, 0, none⟩) (l.length + 1) cap) w' ∧
      OwnE K e c w' base (.slice (some ⟨g, 0, none⟩) (l.length + 1) cap) (l ++ [x]) ∧ Below base w0 w' ∧ (∀ b, b < w0.heap.size → some b ≠ v.ownBlock → w'.heap[b]? = w0.heap[b]?) ∧ (v.ownBlock = some g ∨ H ≤ g) := by
  subst hH
  obtain ⟨xs, ho, hxs⟩ := h
  have hz0 : (w0.alloc (.cells cs.toArray e)).heap.size = w0.heap.size + 1 := by simp
  obtain ⟨g, cap, w', hr, h2, h3, h4, h5⟩ := run_append_lies (P := Tryz.prog) (w := w0.alloc (.cells cs.toArray e)) t ty base e i z c bytes ht hi hz hsize hby hzs hc v l.length xs (World.ownsRow.alloc ho _) ⟨w0.heap.size, 0, none⟩ 1 cap1 cs (by simpa using hcs)
    (World.news_of_block (cs := cs.toArray) (heap_alloc_new w0 _)) h1c (by omega) (by unfold maxLen; omega) (Nat.le_trans (Nat.mul_le_mul (show l.length + 1 ≤ 2000001 by omega) hb8) (by omega)) (by omega) _ hz0
  have hkeep : ∀ b, b < w0.heap.size → some b ≠ v.ownBlock → w'.heap[b]? = w0.heap[b]? := fun b hb hne => (h3.block b (by omega) hne).trans (Below.heap_alloc _ _ _ hb)
  have hvlt : ∀ b, v.ownBlock = some b → base ≤ b ∧ b < w0.heap.size := by
    intro b hb
    rcases ho.2 with ⟨rfl, _⟩ | ⟨g', cap', cur, rfl, hB, hg, _⟩
    · simp [Value.ownBlock] at hb
    · simp [Value.ownBlock] at hb
      subst hb
      exact ⟨hB, (Array.getElem?_eq_some_iff.1 hg).1⟩
  have hs3 := h3.size
  have hsm : Same (fun b => base ≤ b ∧ b < w0.heap.size ∧ some b ≠ v.ownBlock) w0 w' := ⟨by omega, fun b i hB hl => World.cell?_of_block (hkeep b hl hB.2.2)⟩
  have hsub : ∀ b, (base ≤ b ∧ b < w0.heap.size ∧ some b ≠ v.ownBlock) → (base ≤ b ∧ b < w'.heap.size ∧ some b ≠ (Value.slice (some ⟨g, 0, none⟩) (l.length + 1) cap).ownBlock) := by
    intro b ⟨a1, a2, a3⟩
    refine ⟨a1, by omega, ?_⟩
    simp only [Value.ownBlock, ne_eq, Option.some.injEq]
    intro e
    rcases h4 with h4 | h4
    · exact a3 (by rw [h4, e])
    · omega
  have hll : (l ++ [x]).length = l.length + 1 := by simp
  refine ⟨g, cap, w', hr, ⟨xs ++ cs, by rw [hll]; exact h2, fun j y hj => ?_⟩, ((Below.refl base w0).alloc hbase _).grown h3 (by omega) (fun k hk => (hvlt k hk).1), hkeep, h4.imp_right fun h => by omega⟩
  have hjl : j < l.length + 1 := by have := (List.getElem?_eq_some_iff.1 hj).1; omega
  by_cases hjn : j < l.length
  · rw [List.getElem?_append_left hjn] at hj
    have hle : (j + 1) * c ≤ l.length * c := Nat.mul_le_mul_right c hjn
    rw [Nat.add_mul, Nat.one_mul] at hle
    have hxl := ho.1
    rw [show ((xs ++ cs).drop (j * c)).take c = (xs.drop (j * c)).take c by rw [List.drop_append_of_le_length (by omega), List.take_append_of_le_length (by rw [List.length_drop]; omega)]]
    exact K.sub hsub (K.keep hsm (hxs j y hj))
  · have hjq : j = l.length := by omega
    subst hjq
    rw [List.getElem?_append_right (Nat.le_refl _), Nat.sub_self] at hj
    simp only [List.getElem?_cons_zero, Option.some.injEq] at hj
    subst hj
    rw [← ho.1, List.drop_left, ← hcs, List.take_length]
    exact K.sub hsub (K.keep hsm hx)
/-- a string as the element of a row -/
def elS : ElK (List UInt8) := elC fun x cs => cs = [.string ⟨x.toArray⟩] ∧ x.length ≤ maxLen
theorem elS_one (x : List UInt8) (w : World) (B : Nat → Prop) (cs : List Value) (h : elS.E x w B cs) : ∀ u ∈ cs, u.oneCell' = true := by
  obtain ⟨rfl, _⟩ := h
  intro u hu
  rw [List.mem_singleton.1 hu]; rfl
theorem app_rowS (ty : TypeId) (w0 : World) (base : Nat) (v : Value) (l : List (List UInt8)) (h : OwnE elS 9 1 w0 base v l) (A : Option Addr) (m cap1 : Nat) (l' : List (List UInt8)) (hm : l'.length = m) (Bs : Nat → Prop)
    (hx : RowB w0 Bs 1 (.slice A m cap1) m (fun j cs => ∃ x, l'[j]? = some x ∧ cs = [.string ⟨x.toArray⟩] ∧ x.length ≤ maxLen)) (hn : l.length + m ≤ 2000000) (hbase : base ≤ w0.heap.size) :
    ∃ v' w', (Builtin.append_ #[25, 25] ty #[v, .slice A m cap1]).run Tryz.prog w0 = .ok v' w' ∧ OwnE elS 9 1 w' base v' (l ++ l') ∧ Below base w0 w' ∧ (∀ b, b < w0.heap.size → some b ≠ v.ownBlock → w'.heap[b]? = w0.heap[b]?) ∧ (∀ g, v'.ownBlock = some g → v.ownBlock = some g ∨ w0.heap.size ≤ g) := by
  obtain ⟨i0, hi, hz0, hz1, hz2⟩ := info_parts Tryz.infoStr
  exact app_rowL elS 25 ty 9 i0 (.string ⟨#[]⟩) 1 16 Tryz.underlying25 hi hz0 hz1 hz2 rfl (by decide) (by decide) elS_one w0 base v l h A m cap1 l' hm Bs hx hn hbase
theorem wp_row_s {ops : Array Oper} {rest : List Oper} {o : Oper} {a : Act} {Q : Exit → Act → World → Prop} {w0 : World} (hgd : o.guard = none) (s x : Operand)
    (ho : o.op = .call { callee := .builtin .append, args := #[s, x], argTypes := #[25, 25] }) (base : Nat) (v : Value) (l : List (List UInt8)) (hs : a.eval s = v) (hown : OwnE elS 9 1 w0 base v l)
    (A : Option Addr) (m cap1 : Nat) (l' : List (List UInt8)) (hm : l'.length = m) (Bs : Nat → Prop) (hx : a.eval x = .slice A m cap1)
    (hR : RowB w0 Bs 1 (.slice A m cap1) m (fun j cs => ∃ x, l'[j]? = some x ∧ cs = [.string ⟨x.toArray⟩] ∧ x.length ≤ maxLen)) (hn : l.length + m ≤ 2000000) (hbase : base ≤ w0.heap.size)
    (h : ∀ v' w', OwnE elS 9 1 w' base v' (l ++ l') → Below base w0 w' → wpList Tryz.prog ops Q rest (a.put o.dst v') w') :
    wpList Tryz.prog ops Q (o :: rest) a w0 := by
  obtain ⟨v', w', h1, h2, h3, _, _⟩ := app_rowS o.type w0 base v l hown A m cap1 l' hm Bs hR hn hbase
  exact Lib.wpList_append_run _ hgd s x 25 25 ho v _ hs hx _ w' h1 (h v' w' h2 h3)
theorem wp_app_s {ops : Array Oper} {rest : List Oper} {o : Oper} {a : Act} {Q : Exit → Act → World → Prop} {w0 : World} (hgd : o.guard = none) (s x : Operand)
    (ho : o.op = .call { callee := .builtin .append, args := #[s, x], argTypes := #[25, 25] }) (base : Nat) (v : Value) (l : List (List UInt8)) (hs : a.eval s = v) (hown : OwnE elS 9 1 w0 base v l)
    (y : List UInt8) (hyl : y.length ≤ maxLen) (cap1 : Nat) (H : Nat) (hH : w0.heap.size = H) (hx : a.eval x = .slice (some ⟨H, 0, none⟩) 1 cap1) (hn : l.length ≤ 2000000) (hbase : base ≤ w0.heap.size)
    (h : ∀ g cap w', OwnE elS 9 1 w' base (.slice (some ⟨g, 0, none⟩) (l.length + 1) cap) (l ++ [y]) → Below base w0 w' → wpList Tryz.prog ops Q rest (a.put o.dst (.slice (some ⟨g, 0, none⟩) (l.length + 1) cap)) w') :
    wpList Tryz.prog ops Q (o :: rest) a (w0.alloc (.cells #[.string ⟨y.toArray⟩] 9)) := by
  obtain ⟨i0, hi, hz0, hz1, hz2⟩ := info_parts Tryz.infoStr
  obtain ⟨g, cap, w', h1, h2, h3, _, _⟩ := app_oneL elS 25 o.type 9 i0 (.string ⟨#[]⟩) 1 16 Tryz.underlying25 hi hz0 hz1 hz2 rfl (by decide) (by decide) w0 base v l hown y [.string ⟨y.toArray⟩] ⟨rfl, hyl⟩ rfl (elS_one y w0 (fun _ => True) _ ⟨rfl, hyl⟩) hn hbase H hH cap1
  exact Lib.wpList_append_run _ hgd s x 25 25 ho v _ hs hx _ w' h1 (h g cap w' h2 h3)
/-- u points at a box of the seven cells cs, not below H -/
def Bx7 (H : Nat) (u : Value) (cs : Array Value) (w : World) : Prop := ∃ r, u = .pointer (some ⟨r, 0, none⟩) ∧ H ≤ r ∧ w.heap[r]? = some (.cells cs 27 (0, 0))
theorem Bx7.lt {H : Nat} {u : Value} {cs : Array Value} {w : World} (h : Bx7 H u cs w) : ∃ r, u = .pointer (some ⟨r, 0, none⟩) ∧ H ≤ r ∧ r < w.heap.size ∧ w.heap[r]? = some (.cells cs 27 (0, 0)) := by
  obtain ⟨r, h1, h2, h3⟩ := h
  exact ⟨r, h1, h2, (Array.getElem?_eq_some_iff.1 h3).1, h3⟩
theorem Bx7.old {H : Nat} {u : Value} {cs : Array Value} {w w' : World} (h : Bx7 H u cs w) (hb : Below w.heap.size w w') : Bx7 H u cs w' := by
  obtain ⟨r, h1, h2, h3, h4⟩ := h.lt
  exact ⟨r, h1, h2, by rw [hb.block r h3]; exact h4⟩
theorem Bx7.new {H : Nat} {w : World} (hH : H ≤ w.heap.size) (cs : Array Value) : Bx7 H (.pointer (some ⟨w.heap.size, 0, none⟩)) cs (w.alloc (.cells cs 27 (0, 0))) := ⟨_, rfl, hH, heap_alloc_new w _⟩
theorem Bx7.ne {H : Nat} {u : Value} {cs : Array Value} {w : World} (h : Bx7 H u cs w) : u ≠ .pointer (some ⟨w.heap.size, 0, none⟩) := by
  obtain ⟨r, rfl, h2, h3, h4⟩ := h.lt
  intro e
  injection e with e
  injection e with e
  injection e with e
  omega
/-- seven stores into a box -/
theorem box7 {w : World} {g H : Nat} {e : TypeId} {z0 z1 z2 z3 z4 z5 z6 : Value} (h : w.heap[g]? = some (.cells #[z0, z1, z2, z3, z4, z5, z6] e (0, 0))) (hH : H ≤ g) (v0 v1 v2 v3 v4 v5 v6 : Value) (V : World) (hV : V = (((((((w.setCell ⟨g, 0, none⟩ v0).setCell ⟨g, 1, none⟩ v1).setCell ⟨g, 2, none⟩ v2).setCell ⟨g, 3, none⟩ v3).setCell ⟨g, 4, none⟩ v4).setCell ⟨g, 5, none⟩ v5).setCell ⟨g, 6, none⟩ v6)) :
    V.heap[g]? = some (.cells #[v0, v1, v2, v3, v4, v5, v6] e (0, 0)) ∧ V.heap.size = w.heap.size ∧ Below H w V ∧ (∀ b, b ≠ g → V.heap[b]? = w.heap[b]?) := by
  subst hV
  refine ⟨obj7 h v0 v1 v2 v3 v4 v5 v6, by simp, ?_, fun b hb => ?_⟩
  · exact Below.setCell (Below.setCell (Below.setCell (Below.setCell (Below.setCell (Below.setCell (Below.setCell (Below.refl _ _) (p := ⟨g, 0, none⟩) hH _) (p := ⟨g, 1, none⟩) hH _) (p := ⟨g, 2, none⟩) hH _) (p := ⟨g, 3, none⟩) hH _) (p := ⟨g, 4, none⟩) hH _) (p := ⟨g, 5, none⟩) hH _) (p := ⟨g, 6, none⟩) hH _
  · exact (heap_setCell_other _ _ _ _ hb).trans ((heap_setCell_other _ _ _ _ hb).trans ((heap_setCell_other _ _ _ _ hb).trans ((heap_setCell_other _ _ _ _ hb).trans ((heap_setCell_other _ _ _ _ hb).trans ((heap_setCell_other _ _ _ _ hb).trans (heap_setCell_other _ _ _ _ hb))))))
theorem VB.setKind {k : Nat} {w : World} {B : Nat → Prop} {x : Vl} {a : Int} {i s p1 p2 p3 p4 : Value} (h : VB (k + 1) w B x [.int .i64 a, i, s, p1, p2, p3, p4]) (kd : Int) (hkd : (Lit.int .i64 kd).wf = true) : ∃ x', VB (k + 1) w B x' [.int .i64 kd, i, s, p1, p2, p3, p4] := by
  obtain ⟨kind, int, text, kids, keys, ents, labs⟩ := x
  obtain ⟨uk, uy, ue, ul, hcs, wf1, wf2, wf3, hk, hy, he, hl⟩ := h
  simp only [List.cons.injEq, and_true] at hcs
  obtain ⟨_, rfl, rfl, rfl, rfl, rfl, rfl⟩ := hcs
  exact ⟨.mk kd int text kids keys ents labs, _, _, _, _, rfl, hkd, wf2, wf3, hk, hy, he, hl⟩
theorem VB.setInt {k : Nat} {w : World} {B : Nat → Prop} {x : Vl} {a : Int} {i s p1 p2 p3 p4 : Value} (h : VB (k + 1) w B x [i, .int .i64 a, s, p1, p2, p3, p4]) (kd : Int) (hkd : (Lit.int .i64 kd).wf = true) : ∃ x', VB (k + 1) w B x' [i, .int .i64 kd, s, p1, p2, p3, p4] := by
  obtain ⟨kind, int, text, kids, keys, ents, labs⟩ := x
  obtain ⟨uk, uy, ue, ul, hcs, wf1, wf2, wf3, hk, hy, he, hl⟩ := h
  simp only [List.cons.injEq, and_true] at hcs
  obtain ⟨rfl, _, rfl, rfl, rfl, rfl, rfl⟩ := hcs
  exact ⟨.mk kind kd text kids keys ents labs, _, _, _, _, rfl, wf1, hkd, wf3, hk, hy, he, hl⟩
theorem VB.setText {k : Nat} {w : World} {B : Nat → Prop} {x : Vl} {i a s p1 p2 p3 p4 : Value} (h : VB (k + 1) w B x [i, a, s, p1, p2, p3, p4]) (t : List UInt8) (ht : t.length ≤ maxLen) : ∃ x', VB (k + 1) w B x' [i, a, .string ⟨t.toArray⟩, p1, p2, p3, p4] := by
  obtain ⟨kind, int, text, kids, keys, ents, labs⟩ := x
  obtain ⟨uk, uy, ue, ul, hcs, wf1, wf2, wf3, hk, hy, he, hl⟩ := h
  simp only [List.cons.injEq, and_true] at hcs
  obtain ⟨rfl, rfl, _, rfl, rfl, rfl, rfl⟩ := hcs
  exact ⟨.mk kind int t kids keys ents labs, _, _, _, _, rfl, wf1, wf2, ht, hk, hy, he, hl⟩
theorem VB.setLabs {k : Nat} {w : World} {B : Nat → Prop} {x : Vl} {i a s p1 p2 p3 p4 : Value} (h : VB (k + 1) w B x [i, a, s, p1, p2, p3, p4]) (ls : List (List UInt8)) (u : Value) (hu : RowB w B 1 u ls.length (fun j cs => ∃ x, ls[j]? = some x ∧ cs = [.string ⟨x.toArray⟩] ∧ x.length ≤ maxLen)) : ∃ x', VB (k + 1) w B x' [i, a, s, p1, p2, p3, u] := by
  obtain ⟨kind, int, text, kids, keys, ents, labs⟩ := x
  obtain ⟨uk, uy, ue, ul, hcs, wf1, wf2, wf3, hk, hy, he, hl⟩ := h
  simp only [List.cons.injEq, and_true] at hcs
  obtain ⟨rfl, rfl, rfl, rfl, rfl, rfl, _⟩ := hcs
  exact ⟨.mk kind int text kids keys ents ls, _, _, _, _, rfl, wf1, wf2, wf3, hk, hy, he, hu⟩
theorem VB.labs {k : Nat} {w : World} {B : Nat → Prop} {x : Vl} {i a s p1 p2 p3 : Value} {A : Option Addr} {n c : Nat} (h : VB (k + 1) w B x [i, a, s, p1, p2, p3, .slice A n c]) (hs : sml x) : ∃ ls : List (List UInt8), ls.length = n ∧ n ≤ 1048576 ∧ RowB w B 1 (.slice A n c) n (fun j cs => ∃ x, ls[j]? = some x ∧ cs = [.string ⟨x.toArray⟩] ∧ x.length ≤ maxLen) := by
  obtain ⟨kind, int, text, kids, keys, ents, labs⟩ := x
  obtain ⟨uk, uy, ue, ul, hcs, wf1, wf2, wf3, hk, hy, he, hl⟩ := h
  simp only [List.cons.injEq, and_true] at hcs
  obtain ⟨rfl, rfl, rfl, rfl, rfl, rfl, rfl⟩ := hcs
  obtain ⟨A', c', hu, _⟩ := hl.form
  injection hu with _ hn _
  subst hn
  exact ⟨labs, rfl, hs.2.2.2.1, hl⟩
end Go.Proofs.YtjfknigiehggkaaGreat
