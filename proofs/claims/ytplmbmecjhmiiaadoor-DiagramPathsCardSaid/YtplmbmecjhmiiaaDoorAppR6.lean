/- Appending a whole row; rows of integers and of paths. -/
import Derived.Test.YtplmbmecjhmiiaaDoorApp6
import Derived.Test.YtplmbmecjhmiiaaDoorPar
import Derived.Lib.AppendZeros
namespace Go.Proofs.YtplmbmecjhmiiaaDoor
open Go Go.RowKit
theorem addr_add (b off q : Nat) : (⟨b, off, none⟩ : Addr).add q = ⟨b, off + q, none⟩ := by
  unfold Addr.add; rcases Nat.eq_zero_or_pos q with h | h
  · subst h; simp
  · simp [Nat.ne_of_gt h]
theorem flat_sub {α β : Type} {enc : α → List β} {c : Nat} (hc : ∀ x, (enc x).length = c) : ∀ {l : List α} {j : Nat} {x : α}, l[j]? = some x → ((l.flatMap enc).drop (j * c)).take c = enc x
  | [], j, x, h => by simp at h
  | a :: s, 0, x, h => by
    simp only [List.getElem?_cons_zero, Option.some.injEq] at h
    subst h
    simp [List.flatMap_cons, hc]
  | a :: s, j + 1, x, h => by
    simp only [List.getElem?_cons_succ] at h
    rw [List.flatMap_cons, List.drop_append, List.drop_eq_nil_of_le (by rw [hc, Nat.add_mul]; omega), hc, show (j + 1) * c - c = j * c by rw [Nat.add_mul]; omega, List.nil_append, flat_sub hc h]
theorem flat_at {α β : Type} {enc : α → List β} {c : Nat} (hc : ∀ x, (enc x).length = c) {l : List α} {q : Nat} {u : β} (h0 : 0 < c) (h : (l.flatMap enc)[q]? = some u) : ∃ x, l[q / c]? = some x ∧ (enc x)[q % c]? = some u := by
  have hlen : (l.flatMap enc).length = l.length * c := by
    clear h
    induction l with
    | nil => simp
    | cons a s ih => rw [List.flatMap_cons, List.length_append, ih, hc, List.length_cons, Nat.add_mul]; omega
  have hq : q < l.length * c := by
    have := (List.getElem?_eq_some_iff.1 h).1
    omega
  have hd : q / c < l.length := Nat.div_lt_of_lt_mul (by rwa [Nat.mul_comm])
  refine ⟨l[q / c], List.getElem?_eq_getElem hd, ?_⟩
  have e := flat_sub hc (List.getElem?_eq_getElem hd)
  rw [← e, List.getElem?_take_of_lt (Nat.mod_lt _ h0), List.getElem?_drop, show q / c * c + q % c = q by rw [Nat.mul_comm]; exact Nat.div_add_mod q c]
  exact h
theorem row_news {w : World} {B : Nat → Prop} {c n cap : Nat} {A : Option Addr} {R : Nat → List Value → Prop} (hc : 0 < c) (h : RowB w B c (.slice A n cap) n R) (hn : 0 < n) :
    ∃ b off, ∃ news : List Value, A = some ⟨b, off, none⟩ ∧ news.length = n * c ∧ (∀ q u, news[q]? = some u → w.cell? ⟨b, off + q, none⟩ = some u) ∧ (∀ j, j < n → R j ((news.drop (j * c)).take c)) ∧ ∀ u, u ∈ news → ∃ j cs, R j cs ∧ u ∈ cs := by
  obtain ⟨A', cap', h1, _, h3⟩ := h
  obtain ⟨b, off, rfl, _, _, h7⟩ := h3 hn
  injection h1 with hA _ _
  have hch : ∀ j : Fin n, ∃ cs : List Value, cs.length = c ∧ (∀ i, i < c → w.cell? ⟨b, off + j.1 * c + i, none⟩ = cs[i]?) ∧ R j.1 cs := fun j => h7 j.1 j.2
  let enc : Fin n → List Value := fun j => Classical.choose (hch j)
  have he : ∀ j, (enc j).length = c ∧ (∀ i, i < c → w.cell? ⟨b, off + j.1 * c + i, none⟩ = (enc j)[i]?) ∧ R j.1 (enc j) := fun j => Classical.choose_spec (hch j)
  have hfr : ∀ j (hj : j < n), (List.finRange n)[j]? = some ⟨j, hj⟩ := fun j hj => by simp [hj]
  have hlen : ∀ l : List (Fin n), (l.flatMap enc).length = l.length * c := by
    intro l
    induction l with
    | nil => simp
    | cons a s ih => rw [List.flatMap_cons, List.length_append, ih, (he a).1, List.length_cons, Nat.add_mul]; omega
  refine ⟨b, off, (List.finRange n).flatMap enc, hA, by rw [hlen, List.length_finRange], fun q u hq => ?_, fun j hj => ?_, fun u hu => ?_⟩
  · obtain ⟨x, hx, hu⟩ := flat_at (fun x => (he x).1) hc hq
    have hd : q / c < n := by have := (List.getElem?_eq_some_iff.1 hx).1; simpa using this
    rw [hfr _ hd] at hx
    injection hx with hx
    subst hx
    have := (he ⟨q / c, hd⟩).2.1 (q % c) (Nat.mod_lt _ hc)
    rw [hu, Nat.add_assoc, show q / c * c + q % c = q by rw [Nat.mul_comm]; exact Nat.div_add_mod q c] at this
    exact this
  · rw [flat_sub (fun x => (he x).1) (hfr j hj)]
    exact (he ⟨j, hj⟩).2.2
  · obtain ⟨x, _, hx⟩ := List.mem_flatMap.1 hu
    exact ⟨x.1, enc x, (he x).2.2, hx⟩
theorem app_row {α : Type} (K : ElK α) (t ty : TypeId) (e : TypeId) (i : TypeInfo) (z : Value) (c bytes : Nat) (ht : Tryd.prog.underlying t = some (.slice e)) (hi : Tryd.prog.info? e = some i) (hz : i.zero = some z)
    (hsize : i.size = c) (hby : i.bytes = bytes) (hzs : z.cells.size = c) (hc : 0 < c) (hb8 : bytes ≤ 1000) (h1K : ∀ x w B cs, K.E x w B cs → ∀ u ∈ cs, u.oneCell' = true)
    (w0 : World) (base : Nat) (v : Value) (l : List α) (h : OwnE K e c w0 base v l) (A : Option Addr) (m cap1 : Nat) (l' : List α) (hm : l'.length = m) (Bs : Nat → Prop)
    (hx : RowB w0 Bs c (.slice A m cap1) m (fun j cs => ∃ x, l'[j]? = some x ∧ K.E x w0 (fun b => base ≤ b ∧ b < w0.heap.size ∧ some b ≠ v.ownBlock) cs))
    (hn : l.length + m ≤ 300000000) (hbase : base ≤ w0.heap.size) :
    ∃ v' w', (Builtin.append_ #[t, t] ty #[v, .slice A m cap1]).run Tryd.prog w0 = .ok v' w' ∧ OwnE K e c w' base v' (l ++ l') ∧ Below base w0 w' ∧ (∀ b, b < w0.heap.size → some b ≠ v.ownBlock → w'.heap[b]? = w0.heap[b]?) ∧ (∀ g, v'.ownBlock = some g → v.ownBlock = some g ∨ w0.heap.size ≤ g) := by
  subst hm
  have hown := h
  obtain ⟨xs, ho, hxs⟩ := h
  have hvlt : ∀ b, v.ownBlock = some b → base ≤ b ∧ b < w0.heap.size := by
    intro b hb
    rcases ho.2 with ⟨rfl, _⟩ | ⟨g', cap', cur, rfl, hB, hg, _⟩
    · simp [Value.ownBlock] at hb
    · simp [Value.ownBlock] at hb
      subst hb
      exact ⟨hB, (Array.getElem?_eq_some_iff.1 hg).1⟩
  have hnone : A = none → l' = [] := by
    intro hA
    rcases Nat.eq_zero_or_pos l'.length with h0 | h0
    · exact List.eq_nil_of_length_eq_zero h0
    · obtain ⟨b, off, news, hA', _⟩ := row_news hc hx h0
      rw [hA] at hA'
      cases hA'
  rcases A with _ | ad
  · have hl' := hnone rfl
    subst hl'
    have hr : (Builtin.append_ #[t, t] ty #[v, .slice none 0 cap1]).run Tryd.prog w0 = .ok v w0 := by
      rcases ho.2 with ⟨rfl, _⟩ | ⟨g, cap, cur, rfl, _, _, hnc, _⟩
      · simp [Builtin.append_, run_underlying ht, sizeOf, typeInfo, hi, Builtin.lenOf, Builtin.firstCells]
      · simp [Builtin.append_, run_underlying ht, sizeOf, typeInfo, hi, Builtin.lenOf, Builtin.firstCells, hnc, storeCells]
    exact ⟨v, w0, hr, by rw [List.append_nil]; exact hown, Below.refl _ _, fun _ _ _ => rfl, fun g hg => .inl hg⟩
  · obtain ⟨news, hnl, hnc, hnR, hn1⟩ : ∃ news : List Value, news.length = l'.length * c ∧ (∀ q u, news[q]? = some u → w0.cell? (ad.add q) = some u) ∧ (∀ j, j < l'.length → ∃ x, l'[j]? = some x ∧ K.E x w0 (fun b => base ≤ b ∧ b < w0.heap.size ∧ some b ≠ v.ownBlock) ((news.drop (j * c)).take c)) ∧ ∀ u, u ∈ news → u.oneCell' = true := by
      rcases Nat.eq_zero_or_pos l'.length with h0 | h0
      · exact ⟨[], by simp [h0], fun q u h => by simp at h, fun j hj => by omega, fun u h => by cases h⟩
      · obtain ⟨b, off, news, hA, hnl, hnc, hnR, hn1⟩ := row_news hc hx h0
        injection hA with hA
        subst hA
        exact ⟨news, hnl, fun j u hj => by rw [addr_add]; exact hnc j u hj, hnR, fun u hu => by obtain ⟨j, cs, ⟨x, _, hE⟩, hm⟩ := hn1 u hu; exact h1K x _ _ cs hE u hm⟩
    have hby8 : (l.length + l'.length) * bytes ≤ 140737488355328 := Nat.le_trans (Nat.mul_le_mul (show l.length + l'.length ≤ 300000001 by omega) hb8) (by decide)
    obtain ⟨v', w', hr, h2, h3, _, h4⟩ := run_append_own_at (P := Tryd.prog) (w := w0) base t ty e i z c bytes ht hi hz hsize hby hzs hc v l.length xs ho ad l'.length cap1 news hnl hnc hn1 (by unfold maxLen; omega) hby8 hbase
    have hkeep : ∀ b, b < w0.heap.size → some b ≠ v.ownBlock → w'.heap[b]? = w0.heap[b]? := fun b hb hne => h3.block b hb hne
    have hs3 := h3.size
    have hsm : Same (fun b => base ≤ b ∧ b < w0.heap.size ∧ some b ≠ v.ownBlock) w0 w' := ⟨hs3, fun b i hB hl => World.cell?_of_block (hkeep b hl hB.2.2)⟩
    have hsub : ∀ b, (base ≤ b ∧ b < w0.heap.size ∧ some b ≠ v.ownBlock) → (base ≤ b ∧ b < w'.heap.size ∧ some b ≠ v'.ownBlock) := by
      intro b ⟨a1, a2, a3⟩
      refine ⟨a1, by omega, ?_⟩
      rcases h4 with h4 | h4
      · rw [h4]; exact a3
      · rw [h4]
        intro e
        injection e with e
        omega
    have hll : (l ++ l').length = l.length + l'.length := by simp
    refine ⟨v', w', hr, ⟨xs ++ news, by rw [hll]; exact h2, fun j y hj => ?_⟩, (Below.refl base w0).grown h3 hbase (fun k hk => (hvlt k hk).1), hkeep, fun g' hg' => by
      rcases h4 with h4 | h4
      · exact .inl (h4 ▸ hg')
      · right
        rw [h4] at hg'
        injection hg' with hg'
        omega⟩
    have hjl : j < l.length + l'.length := by have := (List.getElem?_eq_some_iff.1 hj).1; omega
    have hxl := ho.1
    by_cases hjn : j < l.length
    · rw [List.getElem?_append_left hjn] at hj
      have hle : (j + 1) * c ≤ l.length * c := Nat.mul_le_mul_right c hjn
      rw [Nat.add_mul, Nat.one_mul] at hle
      rw [show ((xs ++ news).drop (j * c)).take c = (xs.drop (j * c)).take c by rw [List.drop_append_of_le_length (by omega), List.take_append_of_le_length (by rw [List.length_drop]; omega)]]
      exact K.sub hsub (K.keep hsm (hxs j y hj))
    · rw [List.getElem?_append_right (by omega)] at hj
      obtain ⟨x, hx1, hx2⟩ := hnR (j - l.length) (by omega)
      rw [hx1] at hj
      injection hj with hj
      subst hj
      have hq : j * c = xs.length + (j - l.length) * c := by rw [hxl, ← Nat.add_mul, show l.length + (j - l.length) = j by omega]
      rw [hq, List.drop_append, List.drop_eq_nil_of_le (Nat.le_add_right _ _), List.nil_append, Nat.add_sub_cancel_left]
      exact K.sub hsub (K.keep hsm hx2)
/-- integers -/
def elI : ElK Int := ⟨fun x _ _ cs => cs = [.int .i64 x], fun _ h => h, fun _ h => h⟩
abbrev OwnI (w : World) (base : Nat) (v : Value) (l : List Int) : Prop := OwnE elI 3 1 w base v l
/-- a row of integers in blocks of B -/
def IntR (w : World) (B : Nat → Prop) (v : Value) (l : List Int) : Prop := RowB w B 1 v l.length (fun j cs => ∃ z, l[j]? = some z ∧ cs = [.int .i64 z])
/-- paths: two rows of integers, in no block of X -/
def elP (X : Nat → Prop) : ElK (List Int × List Int) :=
  ⟨fun x w B cs => ∃ s t, cs = [s, t] ∧ IntR w (fun b => B b ∧ ¬ X b) s x.1 ∧ IntR w (fun b => B b ∧ ¬ X b) t x.2,
   fun hS ⟨s, t, h1, h2, h3⟩ => ⟨s, t, h1, RowB.keep h2 ⟨hS.size, fun b i hb hl => hS.cell b i hb.1 hl⟩ (fun _ _ h => h), RowB.keep h3 ⟨hS.size, fun b i hb hl => hS.cell b i hb.1 hl⟩ (fun _ _ h => h)⟩,
   fun hB ⟨s, t, h1, h2, h3⟩ => ⟨s, t, h1, RowB.sub h2 (fun b hb => ⟨hB b hb.1, hb.2⟩) (fun _ _ h => h), RowB.sub h3 (fun b hb => ⟨hB b hb.1, hb.2⟩) (fun _ _ h => h)⟩⟩
abbrev OwnP (X : Nat → Prop) (w : World) (base : Nat) (v : Value) (l : List (List Int × List Int)) : Prop := OwnE (elP X) 26 2 w base v l
theorem own_same {α : Type} {K : ElK α} {e : TypeId} {c : Nat} {w : World} {base : Nat} {v : Value} {l : List α} (h : OwnE K e c w base v l) : ∀ b, v.ownBlock = some b → base ≤ b ∧ b < w.heap.size := by
  obtain ⟨xs, ho, _⟩ := h
  exact ho.lt
theorem OwnI.kept1 {w w' : World} {base : Nat} {v : Value} {l : List Int} (h : OwnI w base v l) (hs : w.heap.size ≤ w'.heap.size) (hb : ∀ g, v.ownBlock = some g → w'.heap[g]? = w.heap[g]?) : OwnI w' base v l := by
  obtain ⟨xs, ho, hx⟩ := h
  refine ⟨xs, ⟨ho.1, ?_⟩, fun j x hj => hx j x hj⟩
  rcases ho.2 with hn | ⟨g, cap, cur, rfl, hB, hg, rest⟩
  · exact .inl hn
  · exact .inr ⟨g, cap, cur, rfl, hB, (hb g rfl).trans hg, rest⟩
theorem OwnP.kept1 {X X' : Nat → Prop} {w w' : World} {base : Nat} {v : Value} {l : List (List Int × List Int)} (h : OwnP X w base v l) (hs : w.heap.size ≤ w'.heap.size) (hb : ∀ g, v.ownBlock = some g → w'.heap[g]? = w.heap[g]?)
    (hk : ∀ b, base ≤ b → b < w.heap.size → ¬ X b → some b ≠ v.ownBlock → w'.heap[b]? = w.heap[b]?) (hX : ∀ b, b < w.heap.size → X' b → X b) : OwnP X' w' base v l := by
  obtain ⟨xs, ho, hx⟩ := h
  refine ⟨xs, ⟨ho.1, ?_⟩, fun j x hj => ?_⟩
  · rcases ho.2 with hn | ⟨g, cap, cur, rfl, hB, hg, rest⟩
    · exact .inl hn
    · exact .inr ⟨g, cap, cur, rfl, hB, (hb g rfl).trans hg, rest⟩
  · obtain ⟨s, t, h1, h2, h3⟩ := hx j x hj
    have hS : Same (fun b => (base ≤ b ∧ b < w.heap.size ∧ some b ≠ v.ownBlock) ∧ ¬ X b) w w' := ⟨hs, fun b i hB _ => World.cell?_of_block (hk b hB.1.1 hB.1.2.1 hB.2 hB.1.2.2)⟩
    have hB : ∀ b, ((base ≤ b ∧ b < w.heap.size ∧ some b ≠ v.ownBlock) ∧ ¬ X b) → ((base ≤ b ∧ b < w'.heap.size ∧ some b ≠ v.ownBlock) ∧ ¬ X' b) := fun b hb => ⟨⟨hb.1.1, Nat.lt_of_lt_of_le hb.1.2.1 hs, hb.1.2.2⟩, fun hx => hb.2 (hX b hb.1.2.1 hx)⟩
    exact ⟨s, t, h1, RowB.sub (RowB.keep h2 hS (fun _ _ h => h)) hB (fun _ _ h => h), RowB.sub (RowB.keep h3 hS (fun _ _ h => h)) hB (fun _ _ h => h)⟩
/-- the last one taken away -/
theorem OwnI.pop {w : World} {base : Nat} {v : Value} {l : List Int} {x : Int} (h : OwnI w base v (l ++ [x])) : ∃ g cap, v = .slice (some ⟨g, 0, none⟩) (l.length + 1) cap ∧ l.length + 1 ≤ cap ∧ OwnI w base (.slice (some ⟨g, 0, none⟩) l.length cap) l := by
  obtain ⟨xs, ho, hx⟩ := h
  rcases ho.2 with ⟨_, hn⟩ | ⟨g, cap, cur, rfl, hB, hg, h1, h2, h3, h4⟩
  · simp at hn
  · rw [List.length_append, List.length_singleton] at *
    refine ⟨g, cap, rfl, h1, xs.take l.length, ⟨?_, .inr ⟨g, cap, cur, rfl, hB, hg, by omega, h2, h3, ?_⟩⟩, fun j y hj => ?_⟩
    · rw [List.length_take, ho.1]; simp
    · rw [← h4, List.take_take]; congr 1; omega
    · have hjl := (List.getElem?_eq_some_iff.1 hj).1
      have := hx j y (by rw [List.getElem?_append_left hjl]; exact hj)
      rw [List.drop_take, List.take_take, show min 1 (l.length - j * 1) = 1 by omega]
      exact this
theorem Tryd.infoIntR : (Tryd.prog.info? 3).map (fun i => (i.zero, i.size, i.bytes)) = some (some (.int .i64 0), 1, 8) := by kernel_rfl
theorem Tryd.infoPath : (Tryd.prog.info? 26).map (fun i => (i.zero, i.size, i.bytes)) = some (some (.agg #[.slice none 0 0, .slice none 0 0]), 2, 48) := by kernel_rfl
/-- append of one integer -/
theorem app_i (w0 : World) (base : Nat) (v : Value) (l : List Int) (h : OwnI w0 base v l) (x : Int) (hn : l.length ≤ 300000000) (hbase : base ≤ w0.heap.size) (ty : TypeId) :
    ∃ g cap w', (Builtin.append_ #[24, 24] ty #[v, .slice (some ⟨w0.heap.size, 0, none⟩) 1 1]).run Tryd.prog (w0.alloc (.cells #[.int .i64 x] 3)) = .ok (.slice (some ⟨g, 0, none⟩) (l.length + 1) cap) w' ∧
      OwnI w' base (.slice (some ⟨g, 0, none⟩) (l.length + 1) cap) (l ++ [x]) ∧ Below base w0 w' ∧ (∀ b, b < w0.heap.size → some b ≠ v.ownBlock → w'.heap[b]? = w0.heap[b]?) ∧ (v.ownBlock = some g ∨ w0.heap.size ≤ g) := by
  obtain ⟨i0, hi, hz0, hz1, hz2⟩ := info_parts Tryd.infoIntR
  exact app_one elI 24 ty 3 i0 (.int .i64 0) 1 8 Tryd.underlying24 hi hz0 hz1 hz2 rfl (by decide) (by decide) w0 base v l h x [.int .i64 x] rfl rfl (by intro u hu; simp at hu; subst hu; rfl) hn hbase _ rfl 1
/-- append of one path -/
theorem app_p (X : Nat → Prop) (w0 : World) (base : Nat) (v : Value) (l : List (List Int × List Int)) (h : OwnP X w0 base v l) (x : List Int × List Int) (s t : Value) (hx : (elP X).E x w0 (fun b => base ≤ b ∧ b < w0.heap.size ∧ some b ≠ v.ownBlock) [s, t]) (h1c : s.oneCell' = true ∧ t.oneCell' = true) (hn : l.length ≤ 300000000) (hbase : base ≤ w0.heap.size) (ty : TypeId) :
    ∃ g cap w', (Builtin.append_ #[22, 22] ty #[v, .slice (some ⟨w0.heap.size, 0, none⟩) 1 1]).run Tryd.prog (w0.alloc (.cells #[s, t] 26)) = .ok (.slice (some ⟨g, 0, none⟩) (l.length + 1) cap) w' ∧
      OwnP X w' base (.slice (some ⟨g, 0, none⟩) (l.length + 1) cap) (l ++ [x]) ∧ Below base w0 w' ∧ (∀ b, b < w0.heap.size → some b ≠ v.ownBlock → w'.heap[b]? = w0.heap[b]?) ∧ (v.ownBlock = some g ∨ w0.heap.size ≤ g) := by
  obtain ⟨i0, hi, hz0, hz1, hz2⟩ := info_parts Tryd.infoPath
  exact app_one (elP X) 22 ty 26 i0 (.agg #[.slice none 0 0, .slice none 0 0]) 2 48 Tryd.underlying22 hi hz0 hz1 hz2 rfl (by decide) (by decide) w0 base v l h x [s, t] hx rfl (by intro u hu; simp at hu; rcases hu with rfl | rfl; exact h1c.1; exact h1c.2) hn hbase _ rfl 1
theorem IntR.one {w : World} {B : Nat → Prop} {v : Value} {l : List Int} (h : IntR w B v l) : ∃ A n c, v = .slice A n c ∧ v.oneCell' = true := by
  obtain ⟨A, cap, rfl, _⟩ := h
  exact ⟨A, _, cap, rfl, rfl⟩
theorem OwnI.int {w : World} {base : Nat} {v : Value} {l : List Int} (h : OwnI w base v l) (hn : l.length ≤ maxLen) : IntR w (fun b => base ≤ b ∧ b < w.heap.size ∧ v.ownBlock = some b) v l := by
  obtain ⟨xs, ho, hx⟩ := h
  refine row_of_owns ho hn (fun g h0 h1 h2 => ⟨h1, h2, h0⟩) (fun j hj => ?_) (by omega)
  exact ⟨l[j], List.getElem?_eq_getElem hj, hx j _ (List.getElem?_eq_getElem hj)⟩
set_option maxRecDepth 100000 in
set_option maxHeartbeats 1600000 in
theorem copyOf_any (v : Value) (l : List Int) (w : World) (h : IntR w (fun b => b < w.heap.size) v l) (hn : l.length ≤ 100000000) :
    Calls Tryd.prog 28 #[v] w fun e w' => ∃ v', e = .returned v' ∧ OwnI w' w.heap.size v' l ∧ Below w.heap.size w w' := by
  obtain ⟨i0, hi, hz0, hz1, hz2⟩ := info_parts Tryd.infoIntR
  have hh := h
  obtain ⟨A, cap, rfl, _⟩ := hh
  obtain ⟨v', w', hr, hO, hb, _, _⟩ := app_row elI 24 24 3 i0 (.int .i64 0) 1 8 Tryd.underlying24 hi hz0 hz1 hz2 rfl (by decide) (by decide) (fun x w B cs h u hu => by rw [h] at hu; simp at hu; subst hu; rfl) w w.heap.size (.slice none 0 0) [] (OwnE.nil _ _ _ _ _) A l.length cap l rfl (fun b => b < w.heap.size) (RowB.sub h (fun _ h => h) (fun j cs ⟨z, h1, h2⟩ => ⟨z, h1, h2⟩)) (by simp; omega) (Nat.le_refl _)
  rw [List.nil_append] at hO
  clear hi hz0 hz1 hz2 h hn
  generalize hm : l.length = m at *
  clear hm
  go_enter Tryd.func28, Tryd.ntmps28
  go_wp2_with (at_builtin; refine Lib.wpList_append_run _ rfl _ _ 24 24 rfl _ _ rfl rfl _ w' hr ?_)
  go_wp2
  go_ret
  exact ⟨v', rfl, hO, hb⟩
end Go.Proofs.YtplmbmecjhmiiaaDoor
