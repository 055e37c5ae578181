/- slices.SortFunc at entries: the same entries, in the order of P4.2, in the row that they had. -/
import Derived.Test.YtjfknigiehggkaaGreatVl13
import Derived.Test.YtjfknigiehggkaaGreatVl23
import Derived.Test.YtjfknigiehggkaaGreatVlShelfC
namespace Go.Proofs.YtjfknigiehggkaaGreat
open Go Go.RowKit Go.Sort
/-- entries in a row of the call's own, what they refer to behind it -/
def EntRow (k g n : Nat) (ts : List En) (w : World) : Prop :=
  ∃ xs, w.ownsRow g 55 9 (.slice (some ⟨g, 0, none⟩) n n) n xs ∧ g < w.heap.size ∧ ts.length = n ∧ ∀ q, q < n → ∃ x, ts[q]? = some x ∧ EB k w (fun b => g < b ∧ b < w.heap.size) x ((xs.drop (q * 9)).take 9)
theorem EB.one {k : Nat} {w : World} {B : Nat → Prop} {v : En} {cs : List Value} (h : EB k w B v cs) : cs.length = 9 ∧ ∀ u ∈ cs, u.oneCell' = true := by
  obtain ⟨A0, n0, c0, f, a, i, s, A1, n1, c1, A2, n2, c2, A3, n3, c3, A4, n4, c4, rfl⟩ := h.form9
  refine ⟨rfl, fun u hu => ?_⟩
  simp only [List.mem_cons, List.not_mem_nil, or_false] at hu
  rcases hu with rfl | rfl | rfl | rfl | rfl | rfl | rfl | rfl | rfl <;> rfl
theorem sortWK_other {α : Type} [Inhabited α] (enc : α → List Value) (c : Nat) (V : World) (g m : Nat) (dk : Array α) (os : Array Obj) (b : Nat) (hb : b ≠ g) (hl : b < V.heap.size) : (sortWorldK enc c V g 0 m dk os).heap[b]? = V.heap[b]? := by
  unfold sortWorldK putRowK
  rw [heap_grow_old _ _ (by simpa [putRow, mapBlock, Sort.ahead] using hl)]
  have : g ≠ b := fun e => hb e.symm
  simp [putRow, mapBlock, Sort.ahead, Array.getElem?_modify, this]
theorem sortWK_below {α : Type} [Inhabited α] (enc : α → List Value) (c : Nat) (V : World) (g m : Nat) (dk : Array α) (os : Array Obj) (hg : g < V.heap.size) : Below g V (sortWorldK enc c V g 0 m dk os) :=
  ⟨rfl, rfl, rfl, by simp [sortWorldK, putRowK, putRow, mapBlock, Sort.ahead, grow], fun k hk => sortWK_other enc c V g m dk os k (by omega) (by omega)⟩
theorem swoEnts {α : Type} (f : α → En) : SWO (ltOf fun p q => cmpE (f p) (f q)) where
  irrefl x := by have := (totE.zero (f x) (f x)).2 rfl; unfold ltOf; simp; omega
  trans x y z h1 h2 := by
    unfold ltOf at *
    simp only [decide_eq_true_eq] at *
    exact totE.trans _ _ _ h1 h2
  ntrans x y z h1 h2 := by
    unfold ltOf at *
    simp only [decide_eq_false_iff_not] at *
    intro h3
    have s1 := totE.swap (f x) (f y)
    by_cases e1 : cmpE (f x) (f y) = 0
    · have := (totE.zero _ _).1 e1
      rw [this] at h3
      exact h2 h3
    · have h4 : cmpE (f y) (f x) < 0 := by omega
      exact h2 (totE.trans _ _ _ h4 h3)
theorem own_sorted {α : Type} [Inhabited α] {enc : α → List Value} {w : World} {g n m : Nat} {xs : List Value} {d : Array α} {os : Array Obj} (h : w.ownsRow g 55 9 (.slice (some ⟨g, 0, none⟩) n n) n xs) (hd : d.size = n) :
    (sortWorldK enc 9 w g 0 m d os).ownsRow g 55 9 (.slice (some ⟨g, 0, none⟩) n n) n (flatK enc 9 d).toList := by
  rcases h.2 with ⟨h', _⟩ | ⟨g', cap', cur, h', hb, hg, hnc, hcm, hcs, htake⟩
  · simp at h'
  · simp only [Value.slice.injEq, Option.some.injEq, Addr.mk.injEq, and_true, true_and] at h'
    obtain ⟨rfl, rfl⟩ := h'
    have hlt : g < w.heap.size := (Array.getElem?_eq_some_iff.1 hg).1
    have hh : (sortWorldK enc 9 w g 0 m d os).heap[g]? = some (.cells (putCells id 0 (flatK enc 9 d) cur) 55 (0, 0)) := by
      unfold sortWorldK putRowK
      rw [heap_grow_old _ _ (by simpa [putRow, mapBlock, Sort.ahead] using hlt)]
      simp [putRow, mapBlock, Sort.ahead, Array.getElem?_modify, hg, onCells]
    refine ⟨by simp [hd], .inr ⟨g, n, _, rfl, hb, hh, Nat.le_refl _, hcm, by simp [putCells, hcs], ?_⟩⟩
    apply List.ext_getElem?
    intro j
    by_cases hj : j < n * 9
    · rw [List.getElem?_take_of_lt hj, Array.getElem?_toList, Array.getElem?_toList]
      have hc : j < cur.size := by omega
      simp [putCells, hc, show j < d.size * 9 by omega]
    · rw [List.getElem?_take_eq_none (by omega), Array.getElem?_toList, Array.getElem?_eq_none (by simp; omega)]
theorem flat_slice {α : Type} [Inhabited α] (enc : α → List Value) (he : ∀ x, (enc x).length = 9) (d : Array α) (q : Nat) (hq : q < d.size) : ((flatK enc 9 d).toList.drop (q * 9)).take 9 = enc d[q]! := by
  apply List.ext_getElem?
  intro i
  by_cases hi : i < 9
  · rw [List.getElem?_take_of_lt hi, List.getElem?_drop, Array.getElem?_toList]
    have hlt : q * 9 + i < d.size * 9 := by omega
    rw [Array.getElem?_eq_getElem (by simpa using hlt)]
    have h := get_flatK enc 9 d (q * 9 + i) hlt
    rw [getElem!_pos _ _ (by simpa using hlt), show (q * 9 + i) / 9 = q by omega, show (q * 9 + i) % 9 = i by omega, getElem!_pos (enc d[q]!) i (by rw [he]; exact hi)] at h
    rw [h, List.getElem?_eq_getElem (by rw [he]; exact hi)]
  · rw [List.getElem?_take_eq_none (by omega), List.getElem?_eq_none (by rw [he]; omega)]
set_option maxRecDepth 100000 in
set_option maxHeartbeats 3200000 in
theorem sortE_any (k g n : Nat) (l : List En) (w : World) (hrow : EntRow k g n l w) (hn : n ≤ 100000000) :
    Calls Tryz.prog 103 #[.slice (some ⟨g, 0, none⟩) n n, .func (.func 104) #[] #[]] w fun e w' => e = .returned (.tuple #[]) ∧ ∃ ts, EntRow k g n ts w' ∧ ts.Perm l ∧ ts.Pairwise (fun a b => ¬ cmpE b a < 0) ∧ Below g w w' := by
  rcases Nat.eq_zero_or_pos n with h0 | h0
  · subst h0
    have h := AnyF.slices_SortFunc_none (P := Tryz.prog) (ρ := Tryz.sortE_ren) Tryz.sortE (some ⟨g, 0, none⟩) 0 (.func (.func 104) #[] #[]) w
    change Calls Tryz.prog 103 _ _ _ at h
    refine h.mono fun e w' ⟨he, hw⟩ => ⟨he, l, ?_, List.Perm.refl _, ?_, ?_⟩
    · rw [hw]; exact hrow
    · have : l = [] := List.eq_nil_of_length_eq_zero hrow.choose_spec.2.2.1
      rw [this]; exact List.Pairwise.nil
    · rw [hw]; exact Below.refl _ _
  · obtain ⟨xs, hown, hg, hln, hel⟩ := hrow
    have hxl := hown.1
    have hP : ∀ q : Nat, (hq : q < n) → ((xs.drop (q * 9)).take 9).length = 9 ∧ (∀ u ∈ (xs.drop (q * 9)).take 9, u.oneCell' = true) ∧ EB k w (fun b => g < b ∧ b < w.heap.size) (l[q]'(by omega)) ((xs.drop (q * 9)).take 9) := fun q hq => by
      obtain ⟨x, hx, hE⟩ := hel q hq
      have : l[q]'(by omega) = x := (List.getElem?_eq_some_iff.1 hx).2
      rw [this]
      exact ⟨hE.one.1, hE.one.2, hE⟩
    have hin : Inhabited {p : En × List Value // p.2.length = 9 ∧ (∀ u ∈ p.2, u.oneCell' = true) ∧ EB k w (fun b => g < b ∧ b < w.heap.size) p.1 p.2} := ⟨⟨(l[0]'(by omega), (xs.drop (0 * 9)).take 9), hP 0 h0⟩⟩
    obtain ⟨d0, hd0⟩ : ∃ d0 : Array {p : En × List Value // p.2.length = 9 ∧ (∀ u ∈ p.2, u.oneCell' = true) ∧ EB k w (fun b => g < b ∧ b < w.heap.size) p.1 p.2}, d0 = Array.ofFn (n := n) fun q => ⟨(l[q.1]'(by omega), (xs.drop (q.1 * 9)).take 9), hP q.1 q.2⟩ := ⟨_, rfl⟩
    have hds : d0.size = n := by rw [hd0]; simp
    have hdg : ∀ q, (hq : q < n) → d0[q]! = ⟨(l[q]'(by omega), (xs.drop (q * 9)).take 9), hP q hq⟩ := fun q hq => by rw [getElem!_pos d0 q (by omega)]; simp [hd0]
    have hH : HoldsK (fun p : {p : En × List Value // p.2.length = 9 ∧ (∀ u ∈ p.2, u.oneCell' = true) ∧ EB k w (fun b => g < b ∧ b < w.heap.size) p.1 p.2} => p.1.2) 9 w g 0 d0 := fun j hj => by
      have hj' : j < n * 9 := by simpa [hds] using hj
      refine ⟨?_, by rw [Nat.zero_add]; exact hown.frozenAt j⟩
      rw [Nat.zero_add, hown.cellAt j hj', get_flatK _ 9 d0 j (by rw [hds]; exact hj'), hdg (j / 9) (by omega)]
      have hjx : j < xs.length := by omega
      have e1 : ((xs.drop (j / 9 * 9)).take 9)[j % 9]? = xs[j]? := by
        rw [List.getElem?_take_of_lt (by omega), List.getElem?_drop, show j / 9 * 9 + j % 9 = j by omega]
      rw [List.getElem?_eq_getElem hjx] at e1
      rw [List.getElem?_eq_getElem hjx]
      have e2 := (List.getElem?_eq_some_iff.1 e1)
      show some xs[j] = some (id (((xs.drop (j / 9 * 9)).take 9)[j % 9]!))
      rw [getElem!_pos ((xs.drop (j / 9 * 9)).take 9) (j % 9) e2.1, e2.2]; rfl
    have eg : ∀ args w, (callFunc 104 args).run Tryz.prog w = .ok (.enter 104 args) w := enters_of Tryz.func104 (by kernel_rfl) rfl
    have hcmp : CmpLays Tryz.prog 104 #[] (fun p : {p : En × List Value // p.2.length = 9 ∧ (∀ u ∈ p.2, u.oneCell' = true) ∧ EB k w (fun b => g < b ∧ b < w.heap.size) p.1 p.2} => p.1.2) 9 (fun p q => cmpE p.1.1 q.1.1) g 0 d0.size w := fun m os dk hdk x y => by
      have hsz : w.heap.size ≤ (sortWorldK (fun p : {p : En × List Value // p.2.length = 9 ∧ (∀ u ∈ p.2, u.oneCell' = true) ∧ EB k w (fun b => g < b ∧ b < w.heap.size) p.1 p.2} => p.1.2) 9 w g 0 m dk os).heap.size := (sortWK_below _ 9 w g m dk os hg).size
      have hs : Same (fun b => g < b ∧ b < w.heap.size) w (sortWorldK (fun p : {p : En × List Value // p.2.length = 9 ∧ (∀ u ∈ p.2, u.oneCell' = true) ∧ EB k w (fun b => g < b ∧ b < w.heap.size) p.1 p.2} => p.1.2) 9 w g 0 m dk os) := ⟨hsz, fun b i hb hl => World.cell?_of_block (sortWK_other _ 9 w g m dk os b (by have := hb.1; omega) hl)⟩
      have hES : ∀ z : {p : En × List Value // p.2.length = 9 ∧ (∀ u ∈ p.2, u.oneCell' = true) ∧ EB k w (fun b => g < b ∧ b < w.heap.size) p.1 p.2}, ES k (sortWorldK (fun p : {p : En × List Value // p.2.length = 9 ∧ (∀ u ∈ p.2, u.oneCell' = true) ∧ EB k w (fun b => g < b ∧ b < w.heap.size) p.1 p.2} => p.1.2) 9 w g 0 m dk os) (sortWorldK (fun p : {p : En × List Value // p.2.length = 9 ∧ (∀ u ∈ p.2, u.oneCell' = true) ∧ EB k w (fun b => g < b ∧ b < w.heap.size) p.1 p.2} => p.1.2) 9 w g 0 m dk os).heap.size z.1.1 z.1.2 := fun z =>
        EB.sub (fun b hb => by have := hb.2; omega) (Nat.le_refl _) (EB.keep hs z.2.2.2)
      exact (D.entP_any k (Lib.hid (D.compareP_any k)) x.1.1 y.1.1 x.1.2 y.1.2 _ (hES x) (hES y)).mono fun e w' ⟨he, hb⟩ => ⟨he, hb.grow⟩
    have hcon := AnyQ.slices_SortFunc Tryz.sortE 9 Tryz.isAgg55 Tryz.sizeOf55 (fun p : {p : En × List Value // p.2.length = 9 ∧ (∀ u ∈ p.2, u.oneCell' = true) ∧ EB k w (fun b => g < b ∧ b < w.heap.size) p.1 p.2} => p.1.2) (fun x => x.2.1) (fun x => x.2.2.1) (fun p q => cmpE p.1.1 q.1.1) (swoEnts fun p : {p : En × List Value // p.2.length = 9 ∧ (∀ u ∈ p.2, u.oneCell' = true) ∧ EB k w (fun b => g < b ∧ b < w.heap.size) p.1 p.2} => p.1.1) 104 #[] g 0 n d0 w eg hcmp hH hg (by omega)
    change Calls Tryz.prog 103 _ _ _ at hcon
    rw [hds] at hcon
    refine hcon.mono fun e w' ⟨he, d', m, os, hp, hs, hw⟩ => ⟨he, d'.toList.map (·.1.1), ?_, ?_, ?_, ?_⟩
    · have e1 := hp.1
      rw [hds] at e1
      rw [hw]
      have hsz := (sortWK_below (fun p : {p : En × List Value // p.2.length = 9 ∧ (∀ u ∈ p.2, u.oneCell' = true) ∧ EB k w (fun b => g < b ∧ b < w.heap.size) p.1 p.2} => p.1.2) 9 w g m d' os hg).size
      refine ⟨_, own_sorted hown e1, by omega, by simp [e1], fun q hq => ⟨(d'[q]!).1.1, ?_, ?_⟩⟩
      · rw [List.getElem?_map, Array.getElem?_toList, Array.getElem?_eq_getElem (by omega), getElem!_pos d' q (by omega)]; rfl
      · rw [flat_slice _ (fun x => x.2.1) d' q (by omega)]
        exact EB.sub (fun b hb => ⟨hb.1, by have := hb.2; omega⟩) (Nat.le_refl _) (EB.keep ⟨hsz, fun b i hb hl => World.cell?_of_block (sortWK_other _ 9 w g m d' os b (by have := hb.1; omega) hl)⟩ (d'[q]!).2.2.2)
    · have e1 := hp.1
      rw [hds] at e1
      have h3 := hp.2.2
      have e2 : (d'.extract 0 n).toList = d'.toList := by
        rw [Array.toList_extract]
        simp [List.take_of_length_le (show d'.toList.length ≤ n by simp; omega)]
      have e3 : (d0.extract 0 n).toList = d0.toList := by
        rw [Array.toList_extract]
        simp [List.take_of_length_le (show d0.toList.length ≤ n by simp; omega)]
      rw [e2, e3] at h3
      refine (h3.map (·.1.1)).trans (List.Perm.of_eq ?_)
      apply List.ext_getElem
      · simp [hds, hln]
      · intro q h1 h2
        simp [hd0]
    · rw [List.pairwise_iff_getElem]
      intro i q hi hq hiq
      simp only [List.length_map, Array.length_toList] at hi hq
      have e1 := hp.1
      rw [hds] at e1
      have h4 := of_decide_eq_false (hs i q (Nat.zero_le _) hiq (by omega))
      rw [getElem!_pos d' i hi, getElem!_pos d' q hq] at h4
      simpa using h4
    · rw [hw]
      exact sortWK_below _ 9 w g m d' os hg
end Go.Proofs.YtjfknigiehggkaaGreat
namespace Go.Proofs.YtjfknigiehggkaaGreat
open Go Go.RowKit
theorem EntRow.at {k g n : Nat} {ts : List En} {w : World} (h : EntRow k g n ts w) {q : Nat} (hq : q < n) : ∃ x y0 y1 x0 x1 x2 x3 x4 x5 x6, ts[q]? = some x ∧ EB k w (fun b => g < b ∧ b < w.heap.size) x [y0, y1, x0, x1, x2, x3, x4, x5, x6] ∧
    w.cell? ⟨g, q * 9, none⟩ = some y0 ∧ w.cell? ⟨g, q * 9 + 1, none⟩ = some y1 ∧ w.cell? ⟨g, q * 9 + 2, none⟩ = some x0 ∧ w.cell? ⟨g, q * 9 + 3, none⟩ = some x1 ∧ w.cell? ⟨g, q * 9 + 4, none⟩ = some x2 ∧ w.cell? ⟨g, q * 9 + 5, none⟩ = some x3 ∧ w.cell? ⟨g, q * 9 + 6, none⟩ = some x4 ∧ w.cell? ⟨g, q * 9 + 7, none⟩ = some x5 ∧ w.cell? ⟨g, q * 9 + 8, none⟩ = some x6 := by
  obtain ⟨xs, h1, h2, h3, h4⟩ := h
  obtain ⟨x, hx, hE⟩ := h4 q hq
  have hl := hE.one.1
  have hxl := h1.1
  have hc : ∀ i, i < 9 → w.cell? ⟨g, q * 9 + i, none⟩ = ((xs.drop (q * 9)).take 9)[i]? := fun i hi => by
    rw [h1.cellAt _ (by omega), List.getElem?_take_of_lt hi, List.getElem?_drop]
  generalize (xs.drop (q * 9)).take 9 = cs at *
  match cs, hl with
  | [y0, y1, x0, x1, x2, x3, x4, x5, x6], _ =>
    exact ⟨x, y0, y1, x0, x1, x2, x3, x4, x5, x6, hx, hE, hc 0 (by omega), hc 1 (by omega), hc 2 (by omega), hc 3 (by omega), hc 4 (by omega), hc 5 (by omega), hc 6 (by omega), hc 7 (by omega), hc 8 (by omega)⟩
theorem EntRow.fz {k g n : Nat} {ts : List En} {w : World} (h : EntRow k g n ts w) (q : Nat) : w.frozen? ⟨g, q, none⟩ = false := by
  obtain ⟨xs, h1, _⟩ := h
  exact h1.frozenAt q
theorem EntRow.below {k g n : Nat} {ts : List En} {w w' : World} (h : EntRow k g n ts w) (hb : Below w.heap.size w w') : EntRow k g n ts w' := by
  obtain ⟨xs, h1, h2, h3, h4⟩ := h
  refine ⟨xs, owns_below h1 hb (fun g' hg => by simp [Value.ownBlock] at hg; omega), Nat.lt_of_lt_of_le h2 hb.size, h3, fun q hq => ?_⟩
  obtain ⟨x, hx, ht⟩ := h4 q hq
  exact ⟨x, hx, EB.later hb x _ ht⟩
theorem EntRow.store {k g n q p : Nat} {ts : List En} {w : World} {x : En} {v0 v1 v2 v3 v4 v5 v6 v7 v8 : Value} (hp : p = q * 9) (h : EntRow k g n ts w) (hq : q < n)
    (hv : EB k w (fun b => g < b ∧ b < w.heap.size) x [v0, v1, v2, v3, v4, v5, v6, v7, v8]) : EntRow k g n (ts.set q x) (((((((((w.setCell ⟨g, p, none⟩ v0).setCell ⟨g, p + 1, none⟩ v1).setCell ⟨g, p + 2, none⟩ v2).setCell ⟨g, p + 3, none⟩ v3).setCell ⟨g, p + 4, none⟩ v4).setCell ⟨g, p + 5, none⟩ v5).setCell ⟨g, p + 6, none⟩ v6).setCell ⟨g, p + 7, none⟩ v7).setCell ⟨g, p + 8, none⟩ v8) := by
  subst hp
  obtain ⟨xs, h1, h2, hl, h3⟩ := h
  have hsame : Same (fun b => g < b ∧ b < w.heap.size) w (((((((((w.setCell ⟨g, q * 9, none⟩ v0).setCell ⟨g, q * 9 + 1, none⟩ v1).setCell ⟨g, q * 9 + 2, none⟩ v2).setCell ⟨g, q * 9 + 3, none⟩ v3).setCell ⟨g, q * 9 + 4, none⟩ v4).setCell ⟨g, q * 9 + 5, none⟩ v5).setCell ⟨g, q * 9 + 6, none⟩ v6).setCell ⟨g, q * 9 + 7, none⟩ v7).setCell ⟨g, q * 9 + 8, none⟩ v8) :=
    (fun (hg : ¬ (g < g ∧ g < w.heap.size)) => same_setCell (same_setCell (same_setCell (same_setCell (same_setCell (same_setCell (same_setCell (same_setCell (same_setCell (Same.refl _ _) hg) hg) hg) hg) hg) hg) hg) hg) hg) (by omega)
  have hle : (q + 1) * 9 ≤ n * 9 := Nat.mul_le_mul_right _ hq
  have hxl := h1.1
  have o0 := (h1.stored (q * 9) v0).1
  have o1 := (o0.stored (q * 9 + 1) v1).1
  have o2 := (o1.stored (q * 9 + 2) v2).1
  have o3 := (o2.stored (q * 9 + 3) v3).1
  have o4 := (o3.stored (q * 9 + 4) v4).1
  have o5 := (o4.stored (q * 9 + 5) v5).1
  have o6 := (o5.stored (q * 9 + 6) v6).1
  have o7 := (o6.stored (q * 9 + 7) v7).1
  have o8 := (o7.stored (q * 9 + 8) v8).1
  refine ⟨_, o8, by simpa using h2, by simpa using hl, fun r hr => ?_⟩
  by_cases hrq : r = q
  · subst hrq
    refine ⟨x, by rw [List.getElem?_set_self (by omega)], ?_⟩
    have e := sub_set9 (xs := xs) (p := r * 9) v0 v1 v2 v3 v4 v5 v6 v7 v8 (by omega)
    rw [e]
    exact EB.sub (fun b hb => ⟨hb.1, by simpa using hb.2⟩) (Nat.le_refl _) (EB.keep hsame hv)
  · obtain ⟨y, hy, ht⟩ := h3 r hr
    refine ⟨y, by rw [List.getElem?_set_ne (fun e => hrq e.symm)]; exact hy, ?_⟩
    have hlr : (r + 1) * 9 ≤ q * 9 ∨ (q + 1) * 9 ≤ r * 9 := by
      rcases Nat.lt_or_ge r q with h | h
      · exact .inl (Nat.mul_le_mul_right _ h)
      · exact .inr (Nat.mul_le_mul_right _ (by omega))
    have hset : ∀ (ys : List Value) (i : Nat) (v : Value), i < 9 → ((ys.set (q * 9 + i) v).drop (r * 9)).take 9 = (ys.drop (r * 9)).take 9 := fun ys i v hi => by
      apply List.ext_getElem?
      intro j
      by_cases hj : j < 9
      · rw [List.getElem?_take_of_lt hj, List.getElem?_take_of_lt hj, List.getElem?_drop, List.getElem?_drop, List.getElem?_set_ne (by omega)]
      · rw [List.getElem?_take_eq_none (by omega), List.getElem?_take_eq_none (by omega)]
    have h0 := fun ys v => hset ys 0 v (by omega)
    simp only [Nat.add_zero] at h0
    rw [hset _ 8 _ (by omega), hset _ 7 _ (by omega), hset _ 6 _ (by omega), hset _ 5 _ (by omega), hset _ 4 _ (by omega), hset _ 3 _ (by omega), hset _ 2 _ (by omega), hset _ 1 _ (by omega), h0]
    exact EB.sub (fun b hb => ⟨hb.1, by simpa using hb.2⟩) (Nat.le_refl _) (EB.keep hsame ht)
/-- element j is as the one before it -/
def nb (ts : List En) (j : Nat) : Bool := match ts[j - 1]?, ts[j]? with
  | some a, some b => decide (0 < j) && decide (cmpE b a = 0)
  | _, _ => false
theorem nb_eq {ts : List En} {j : Nat} {a b : En} (h0 : 0 < j) (ha : ts[j - 1]? = some a) (hb : ts[j]? = some b) : nb ts j = decide (cmpE b a = 0) := by
  unfold nb
  rw [ha, hb]
  simp [h0]
theorem nb_iff {ts : List En} {j : Nat} (h : j < ts.length) : nb ts j = true ↔ 0 < j ∧ ts[j - 1]? = ts[j]? := by
  rcases Nat.eq_zero_or_pos j with h0 | h0
  · subst h0
    unfold nb
    rw [List.getElem?_eq_getElem h]
    simp
  · have ha : ts[j - 1]? = some ts[j - 1] := List.getElem?_eq_getElem (by omega)
    have hb : ts[j]? = some ts[j] := List.getElem?_eq_getElem h
    rw [nb_eq h0 ha hb, decide_eq_true_iff, ha, hb]
    constructor
    · intro e
      exact ⟨h0, by rw [(totE.zero _ _).1 e]⟩
    · rintro ⟨_, e⟩
      injection e with e
      rw [e]; exact (totE.zero _ _).2 rfl
/-- neighbours that are equal told once, in the first j -/
def ddP (ts : List En) : Nat → List En
  | 0 => []
  | j + 1 => if nb ts j = true then ddP ts j else ddP ts j ++ ts[j]?.toList
theorem ddP_spec {ts : List En} (hs : ts.Pairwise fun a b => ¬ cmpE b a < 0) : ∀ j, j ≤ ts.length → AscC cmpE (ddP ts j) ∧ ∀ y, y ∈ ddP ts j ↔ y ∈ ts.take j
  | 0, _ => ⟨List.Pairwise.nil, by simp [ddP]⟩
  | j + 1, h => by
    obtain ⟨ih1, ih2⟩ := ddP_spec hs j (by omega)
    have hx : ts[j]? = some ts[j] := List.getElem?_eq_getElem (by omega)
    have ht : ts.take (j + 1) = ts.take j ++ [ts[j]] := by rw [List.take_add_one, hx]; rfl
    rw [ddP]
    split
    · rename_i hc0
      have hc := (nb_iff (by omega)).1 hc0
      refine ⟨ih1, fun y => ?_⟩
      rw [ih2, ht, List.mem_append, List.mem_singleton]
      constructor
      · exact .inl
      · rintro (h1 | h1)
        · exact h1
        · have h2 : ts[j - 1]? = some y := by rw [hc.2, hx, h1]
          rw [List.mem_iff_getElem?]
          exact ⟨j - 1, by rw [List.getElem?_take_of_lt (by omega)]; exact h2⟩
    · rename_i hc0
      have hc : ¬ (0 < j ∧ ts[j - 1]? = ts[j]?) := fun h => hc0 ((nb_iff (by omega)).2 h)
      rw [hx]
      refine ⟨?_, fun y => ?_⟩
      · show List.Pairwise _ _
        rw [List.pairwise_append]
        refine ⟨ih1, by simp, fun a ha b hb => ?_⟩
        have hb' : b = ts[j] := by simpa using hb
        subst hb'
        have ha' := (ih2 a).1 ha
        obtain ⟨i, hi⟩ := List.mem_iff_getElem?.1 ha'
        have hij : i < j := by
          have := (List.getElem?_eq_some_iff.1 hi).1
          rw [List.length_take] at this
          omega
        rw [List.getElem?_take_of_lt hij] at hi
        have hp := List.pairwise_iff_getElem.1 hs
        have hai : ts[i] = a := (List.getElem?_eq_some_iff.1 hi).2
        have w1 : ¬ cmpE ts[j] a < 0 := hai ▸ hp i j (by omega) (by omega) hij
        have sw := totE.swap a ts[j]
        by_cases e : cmpE a ts[j] = 0
        · exfalso
          have ea := (totE.zero _ _).1 e
          have hj0 : 0 < j := by omega
          apply hc
          refine ⟨hj0, ?_⟩
          rw [hx, List.getElem?_eq_getElem (show j - 1 < ts.length by omega)]
          congr 1
          -- ts[i] = ts[j], so what lies between is equal too
          have w2 : ¬ cmpE ts[j] ts[j - 1] < 0 := hp (j - 1) j (by omega) (by omega) (by omega)
          rcases Nat.lt_or_ge i (j - 1) with h5 | h5
          · have w3 : ¬ cmpE ts[j - 1] ts[i] < 0 := hp i (j - 1) (by omega) (by omega) h5
            rw [hai, ea] at w3
            have sw2 := totE.swap ts[j] ts[j - 1]
            exact (totE.zero _ _).1 (by omega)
          · have : i = j - 1 := by omega
            subst this
            rw [hai, ea]
        · omega
      · rw [ht, List.mem_append, List.mem_append, ih2]
        simp
theorem ddP_srt {ts : List En} (hs : ts.Pairwise fun a b => ¬ cmpE b a < 0) : ddP ts ts.length = srtC cmpE ts := by
  obtain ⟨h1, h2⟩ := ddP_spec hs ts.length (Nat.le_refl _)
  rw [List.take_length] at h2
  exact ascC_unique totE h1 (asc_srtC totE ts) fun y => by rw [h2, mem_srtC totE]
end Go.Proofs.YtjfknigiehggkaaGreat
namespace Go.Proofs.YtjfknigiehggkaaGreat
open Go Go.RowKit
def zE : Array Value := #[.slice none 0 0, .bool false, .int .i64 0, .int .i64 0, .string ⟨#[]⟩, .slice none 0 0, .slice none 0 0, .slice none 0 0, .slice none 0 0]
theorem zE_len (n : Nat) : (Builtin.zeroCells zE n).toList.length = n * 9 := by simp [Builtin.zeroCells, zE]
theorem zE_one (n : Nat) : ∀ u ∈ (Builtin.zeroCells zE n).toList, u.oneCell' = true := by
  intro u hu
  simp only [Builtin.zeroCells, Array.toList_map, List.mem_map] at hu
  obtain ⟨a, _, rfl⟩ := hu
  have h9 : zE.size = 9 := rfl
  rw [h9]
  have h : a % 9 < 9 := Nat.mod_lt _ (by omega)
  generalize a % 9 = b at h
  match b, h with
  | 0, _ => rfl
  | 1, _ => rfl
  | 2, _ => rfl
  | 3, _ => rfl
  | 4, _ => rfl
  | 5, _ => rfl
  | 6, _ => rfl
  | 7, _ => rfl
  | 8, _ => rfl
/-- clear(s[i:]): what stands ahead of i stays -/
theorem run_clearE {w : World} {g n : Nat} {xs : List Value} (h : w.ownsRow g 55 9 (.slice (some ⟨g, 0, none⟩) n n) n xs) (i c : Nat) (hi : i < n) :
    ∃ w', (∀ ty, (Builtin.clear_ #[24] ty #[.slice (some ⟨g, i * 9, none⟩) (n - i) c]).run Tryz.prog w = .ok (.tuple #[]) w') ∧ w'.ownsRow g 55 9 (.slice (some ⟨g, 0, none⟩) i n) i (xs.take (i * 9)) ∧ w.grownBy w' (some g) := by
  have hxl := h.1
  rcases h.2 with ⟨h', _⟩ | ⟨g', cap', cur, h', hb, hg, hnc, hcm, hcs, htake⟩
  · simp at h'
  · simp only [Value.slice.injEq, Option.some.injEq, Addr.mk.injEq, and_true, true_and] at h'
    obtain ⟨rfl, rfl⟩ := h'
    have hst := run_storeCells_at (P := Tryz.prog) g (i * 9) 55 (Builtin.zeroCells zE (n - i)).toList 0 cur w hg (by rw [zE_len]; omega) (zE_one _)
    simp only [Nat.add_zero] at hst
    have hv := Tryz.zeroValue55
    have hzl := zE_len (n - i)
    obtain ⟨m, hm⟩ : ∃ m, n - i = m + 1 := ⟨n - i - 1, by omega⟩
    refine ⟨w.setRow g (cur.toList.take (i * 9) ++ (Builtin.zeroCells zE (n - i)).toList ++ cur.toList.drop (i * 9 + (Builtin.zeroCells zE (n - i)).toList.length)).toArray, ?_, ⟨by rw [List.length_take]; omega, .inr ⟨g, n, _, rfl, hb, setRow_heap w g cur _ 55 (0, 0) hg, by omega, hcm, ?_, ?_⟩⟩, ⟨rfl, rfl, rfl, by simp, fun k _ hk => setRow_other w g k _ (fun e => hk (by simp [e]))⟩⟩
    · intro ty
      rw [hm] at hst ⊢
      unfold zE at hst ⊢
      simp [Builtin.clear_, run_underlying Tryz.underlying24, hv, Value.cells]
      rw [hst]
      simp
    · simp only [List.size_toArray, List.length_append, List.length_take, List.length_drop, Array.length_toList, hzl]
      omega
    · rw [List.append_assoc, List.take_append_of_le_length (by simp; omega), List.take_take, Nat.min_self, ← htake, List.take_take, show min (i * 9) (n * 9) = i * 9 by omega]
set_option maxRecDepth 100000 in
set_option maxHeartbeats 800000 in
theorem eqE_any (k : Nat) (e e' : En) (ca cb : List Value) (w : World) (ha : ES k w w.heap.size e ca) (hb : ES k w w.heap.size e' cb) : Calls Tryz.prog 106 #[.agg ca.toArray, .agg cb.toArray] w fun r w' => r = .returned (.bool (decide (cmpE e e' = 0))) ∧ Below w.heap.size w w' := by
  have h1 : EB k w (fun b => b < w.heap.size) e ca := ha
  have h2 : EB k w (fun b => b < w.heap.size) e' cb := hb
  obtain ⟨A0, n0, c0, f, a, i, s, A1, n1, c1, A2, n2, c2, A3, n3, c3, A4, n4, c4, rfl⟩ := h1.form9
  obtain ⟨B0, m0, d0, f', a', i', s', B1, m1, d1, B2, m2, d2, B3, m3, d3, B4, m4, d4, rfl⟩ := h2.form9
  obtain ⟨W, hW⟩ : ∃ W, W = (w.alloc (.cells #[.slice A0 n0 c0, .bool f, .int .i64 a, .int .i64 i, .string s, .slice A1 n1 c1, .slice A2 n2 c2, .slice A3 n3 c3, .slice A4 n4 c4] 55)).alloc (.cells #[.slice B0 m0 d0, .bool f', .int .i64 a', .int .i64 i', .string s', .slice B1 m1 d1, .slice B2 m2 d2, .slice B3 m3 d3, .slice B4 m4 d4] 55) := ⟨_, rfl⟩
  have hbb : Below w.heap.size w W := by rw [hW]; exact ((Below.refl _ _).alloc (Nat.le_refl _) _).alloc (by simp) _
  have q0 : W.cell? ⟨w.heap.size, 0, none⟩ = some (.slice A0 n0 c0) := by rw [hW]; simp
  have q1 : W.cell? ⟨w.heap.size, 1, none⟩ = some (.bool f) := by rw [hW]; simp
  have q2 : W.cell? ⟨w.heap.size, 2, none⟩ = some (.int .i64 a) := by rw [hW]; simp
  have q3 : W.cell? ⟨w.heap.size, 3, none⟩ = some (.int .i64 i) := by rw [hW]; simp
  have q4 : W.cell? ⟨w.heap.size, 4, none⟩ = some (.string s) := by rw [hW]; simp
  have q5 : W.cell? ⟨w.heap.size, 5, none⟩ = some (.slice A1 n1 c1) := by rw [hW]; simp
  have q6 : W.cell? ⟨w.heap.size, 6, none⟩ = some (.slice A2 n2 c2) := by rw [hW]; simp
  have q7 : W.cell? ⟨w.heap.size, 7, none⟩ = some (.slice A3 n3 c3) := by rw [hW]; simp
  have q8 : W.cell? ⟨w.heap.size, 8, none⟩ = some (.slice A4 n4 c4) := by rw [hW]; simp
  have r0 : W.cell? ⟨w.heap.size + 1, 0, none⟩ = some (.slice B0 m0 d0) := by rw [hW]; simp
  have r1 : W.cell? ⟨w.heap.size + 1, 1, none⟩ = some (.bool f') := by rw [hW]; simp
  have r2 : W.cell? ⟨w.heap.size + 1, 2, none⟩ = some (.int .i64 a') := by rw [hW]; simp
  have r3 : W.cell? ⟨w.heap.size + 1, 3, none⟩ = some (.int .i64 i') := by rw [hW]; simp
  have r4 : W.cell? ⟨w.heap.size + 1, 4, none⟩ = some (.string s') := by rw [hW]; simp
  have r5 : W.cell? ⟨w.heap.size + 1, 5, none⟩ = some (.slice B1 m1 d1) := by rw [hW]; simp
  have r6 : W.cell? ⟨w.heap.size + 1, 6, none⟩ = some (.slice B2 m2 d2) := by rw [hW]; simp
  have r7 : W.cell? ⟨w.heap.size + 1, 7, none⟩ = some (.slice B3 m3 d3) := by rw [hW]; simp
  have r8 : W.cell? ⟨w.heap.size + 1, 8, none⟩ = some (.slice B4 m4 d4) := by rw [hW]; simp
  have hc := entP_any k (Lib.hid (compareP_any k)) e e' _ _ W (ES.up hbb.size (Nat.le_refl _) (ES.on hbb ha)) (ES.up hbb.size (Nat.le_refl _) (ES.on hbb hb))
  have HB := Lib.hid hbb
  clear ha hb hbb h1 h2
  generalize hz : decide (cmpE e e' = 0) = r
  have HZ := Lib.hid hz
  clear hz
  generalize cmpE e e' = z at hc HZ
  go_enter Tryz.func106, Tryz.ntmps106
  go_wp2_with fail
  rw [← hW]
  clear hW
  go_wp2_with (go_at_call 104; refine hc.mono ?_; rintro e w1 ⟨rfl, hb1⟩; refine Hid.out ?_)
  refine Lib.hid ?_
  clear hc
  go_wp2
  go_ret
  exact ⟨ret_bool (by rw [← HZ.out]; by_cases h : z = 0 <;> simp [h]), HB.out.trans (hb1.mono HB.out.size)⟩
end Go.Proofs.YtjfknigiehggkaaGreat
