/- A value that comes in is a tree that is no greater than what it reads as. No program is named: the types come by hypotheses. -/
import Derived.Test.YtpgnkfobgjplmaaValOpen
import Derived.Test.YtpgnkfobgjplmaaOwn
import Derived.Test.YtpgnkfobgjplmaaRows
namespace Go.Proofs.Ytpgnkfobgjplmaa
open Go Go.RowKit Go.WideShapes Go.Deep
mutual
/-- how great a tree is: its nodes, the results that are none, keys and labels -/
def wt : Vl → Nat
  | .mk _ _ _ v y e l => 1 + wtVs v + y.length + wtEs e + l.length
def wtVs : List Vl → Nat
  | [] => 0
  | a :: s => wt a + wtVs s
def wtE : En → Nat
  | .mk a _ r => wtVs a + wt r
def wtEs : List En → Nat
  | [] => 0
  | a :: s => wtE a + wtEs s
end
theorem wtVs_sum : ∀ l : List Vl, wtVs l = (l.map wt).sum
  | [] => rfl
  | a :: s => by rw [wtVs, wtVs_sum s]; rfl
theorem wtEs_sum : ∀ l : List En, wtEs l = (l.map wtE).sum
  | [] => rfl
  | a :: s => by rw [wtEs, wtEs_sum s]; rfl
theorem wt_pos (v : Vl) : 1 ≤ wt v := by obtain ⟨_, _, _, _, _, _, _⟩ := v; unfold wt; omega
theorem wtE_pos (e : En) : 1 ≤ wtE e := by obtain ⟨_, _, r⟩ := e; unfold wtE; have := wt_pos r; omega
theorem wtVs_len : ∀ l : List Vl, l.length ≤ wtVs l
  | [] => Nat.zero_le _
  | a :: s => by have := wtVs_len s; have := wt_pos a; simp only [wtVs, List.length_cons]; omega
theorem wtEs_len : ∀ l : List En, l.length ≤ wtEs l
  | [] => Nat.zero_le _
  | a :: s => by have := wtEs_len s; have := wtE_pos a; simp only [wtEs, List.length_cons]; omega
mutual
theorem sml_wt : ∀ v : Vl, wt v ≤ 1048576 → sml v
  | .mk _ _ _ v y e l, h => by
    unfold wt at h
    unfold sml
    have := wtVs_len v
    have := wtEs_len e
    exact ⟨by omega, by omega, by omega, by omega, smlVs_wt v (by omega), smlEs_wt e (by omega)⟩
theorem smlVs_wt : ∀ l : List Vl, wtVs l ≤ 1048576 → smlVs l
  | [], _ => by simp [smlVs]
  | a :: s, h => by
    unfold wtVs at h
    unfold smlVs
    exact ⟨sml_wt a (by omega), smlVs_wt s (by omega)⟩
theorem smlE_wt : ∀ e : En, wtE e ≤ 1048576 → smlE e
  | .mk a _ r, h => by
    unfold wtE at h
    unfold smlE
    have := wtVs_len a
    exact ⟨by omega, smlVs_wt a (by omega), sml_wt r (by omega)⟩
theorem smlEs_wt : ∀ l : List En, wtEs l ≤ 1048576 → smlEs l
  | [], _ => by simp [smlEs]
  | a :: s, h => by
    unfold wtEs at h
    unfold smlEs
    exact ⟨smlE_wt a (by omega), smlEs_wt s (by omega)⟩
end
mutual
theorem high_wt : ∀ v : Vl, high v ≤ wt v
  | .mk _ _ _ v y e l => by
    unfold high wt
    have := highVs_wt v
    have := highEs_wt e
    omega
theorem highVs_wt : ∀ l : List Vl, highVs l ≤ wtVs l
  | [] => Nat.zero_le _
  | a :: s => by
    unfold highVs wtVs
    have := high_wt a
    have := highVs_wt s
    omega
theorem highE_wt : ∀ e : En, highE e ≤ wtE e
  | .mk a f r => by
    unfold highE wtE
    have := highVs_wt a
    have := high_wt r
    cases f <;> simp <;> omega
theorem highEs_wt : ∀ l : List En, highEs l ≤ wtEs l
  | [] => Nat.zero_le _
  | a :: s => by
    unfold highEs wtEs
    have := highE_wt a
    have := highEs_wt s
    omega
end
theorem sum_le {H α : Type} {f : α → Nat} : ∀ (l : List α) (m : List (DataW H)), l.length = m.length → (∀ (i : Nat) (x : α) (d : DataW H), l[i]? = some x → m[i]? = some d → f x ≤ Rows.uptoBulk d) → (l.map f).sum ≤ Rows.uptoBulkAll m
  | [], [], _, _ => Nat.zero_le _
  | a :: s, d :: t, h, h2 => by
    have h3 := sum_le s t (by simpa using h) fun i x d hx hd => h2 (i + 1) x d (by simpa using hx) (by simpa using hd)
    have h4 := h2 0 a d rfl rfl
    simp only [List.map_cons, List.sum_cons, Rows.uptoBulkAll]
    omega
section
variable {H : Type} {enc : TypeId × Value → H} {P : Program} {w : World} {spare : Nat → Bool} {held : Bool}
theorem trod_fields {t : TypeId} {l : List (TypeId × Nat)} {k : Nat} {cs : List Value} {x : DataW H × List MemPlace} (hl : fieldsOf P t = some l) (h : DataW.trod enc P w 0 spare held k t cs = some x) :
    ∃ (n : Nat) (xs : List (DataW H × List MemPlace)), k = n + 1 ∧ cs.length = P.cellsOf t ∧ x.1 = .agg (xs.map (·.1)) ∧ xs.length = l.length ∧ ∀ (i : Nat) (p : TypeId × Nat), l[i]? = some p → DataW.trod enc P w 0 spare held n p.1 ((cs.drop p.2).take (P.cellsOf p.1)) = xs[i]? := by
  obtain ⟨fs, hfs, hsz, hf⟩ := fields_struct hl
  obtain ⟨xs, n, hk, hx1, hlen, hxl, hx⟩ := DataW.trod_struct hfs h
  refine ⟨n, xs, hk, hlen, by rw [hx1], by omega, fun i p hp => ?_⟩
  obtain ⟨f, h1, h2, h3⟩ := hf i p hp
  have := hx i f h1
  rwa [h2, h3] at this
theorem open_row_wt {n c : Nat} {t e : TypeId} {u : Value} {y : DataW H × List MemPlace} {α : Type} (f : α → Nat) (R : α → List Value → Prop) (ht : P.underlying t = some (.slice e)) (hc : P.cellsOf e = c) (hpos : 0 < c)
    (h : DataW.trod enc P w 0 spare held n t [u] = some y) (hR : ∀ m cs z, m < n → DataW.trod enc P w 0 spare held m e cs = some z → ∃ x : α, R x cs ∧ f x ≤ Rows.uptoBulk z.1) :
    ∃ l : List α, RowP w w.heap.size c u l.length (fun j cs => ∃ x, l[j]? = some x ∧ R x cs) ∧ (l.map f).sum ≤ Rows.uptoBulk y.1 := by
  rcases DataW.trod_slice ht h with ⟨h0, _⟩ | ⟨a, len, cap, elems, rest, m, rfl, hu, hy, _, hl, hm, hlen, hel, _⟩
  · simp only [List.cons.injEq, and_true] at h0
    subst h0
    exact ⟨[], ⟨none, 0, rfl, ⟨Nat.zero_le _, Nat.le_refl _⟩, fun hn => absurd hn (by simp)⟩, Nat.zero_le _⟩
  · simp only [List.cons.injEq, and_true] at hu
    subst hu
    have each : ∀ i : Fin len, ∃ x : α, ∃ cs : List Value, cs.length = c ∧ (∀ q, q < c → w.cell? ((a.add (i.1 * c)).add q) = cs[q]?) ∧ R x cs ∧ f x ≤ Rows.uptoBulk (elems[i.1]'(by omega)).1 := by
      intro i
      have h1 := hel i.1 i.2
      rw [List.getElem?_eq_getElem (by omega), hc] at h1
      obtain ⟨cs, h2, h3⟩ := Option.bind_eq_some_iff.1 h1
      obtain ⟨_, h4, h5⟩ := World.cells?_some h2
      obtain ⟨x, hx, hw⟩ := hR m cs _ (by omega) h3
      exact ⟨x, cs, h4, h5, hx, hw⟩
    refine ⟨List.ofFn fun i => Classical.choose (each i), ⟨some a, cap, by simp, ⟨by simp; omega, by simp; omega⟩, fun hn => ?_⟩, ?_⟩
    · rw [List.length_ofFn] at hn
      obtain ⟨b, off, spot⟩ := a
      obtain ⟨cs0, k1, k2, _⟩ := Classical.choose_spec (each ⟨0, hn⟩)
      have hc0 := k2 0 hpos
      rw [List.getElem?_eq_getElem (by omega)] at hc0
      have hspot : spot = none := by simpa [Addr.add] using World.cell?_spot hc0
      subst hspot
      refine ⟨b, off, rfl, ?_, ?_, fun j hj => ?_⟩
      · simpa [Addr.add] using World.block_lt_of_cell? _ _ hc0
      · simpa [Addr.add] using World.block_lt_of_cell? _ _ hc0
      · rw [List.length_ofFn] at hj
        obtain ⟨cs, k3, k4, k5, _⟩ := Classical.choose_spec (each ⟨j, hj⟩)
        refine ⟨cs, k3, fun i hi => ?_, _, by rw [List.getElem?_ofFn, dif_pos hj], k5⟩
        have := k4 i hi
        rw [addr_plus, addr_plus] at this
        rw [← this]
    · rw [hy]
      have h9 := sum_le (f := f) (List.ofFn fun i => Classical.choose (each i)) (elems.map (·.1)) (by simp [hlen]) (by
        intro i x d hx hd
        have hi : i < len := by have := (List.getElem?_eq_some_iff.1 hx).1; simpa using this
        rw [List.getElem?_ofFn, dif_pos hi] at hx
        injection hx with hx
        subst hx
        rw [List.getElem?_map, List.getElem?_eq_getElem (by omega)] at hd
        simp only [Option.map_some, Option.some.injEq] at hd
        subst hd
        obtain ⟨_, _, _, _, h⟩ := Classical.choose_spec (each ⟨i, hi⟩)
        exact h)
      simp only [Rows.uptoBulk]
      omega
theorem bulk_pos (d : DataW H) : 1 ≤ Rows.uptoBulk d := by
  cases d with
  | lit l => cases l <;> simp [Rows.uptoBulk]
  | nil => simp [Rows.uptoBulk]
  | ptr d => simp [Rows.uptoBulk]
  | slice elems spare => simp [Rows.uptoBulk]
  | agg parts => simp [Rows.uptoBulk]
  | iface t d => simp [Rows.uptoBulk]
  | map entries => simp [Rows.uptoBulk]
  | held h => simp [Rows.uptoBulk]
theorem const_sum {α : Type} (l : List α) : (l.map fun _ => (1 : Nat)).sum = l.length := by
  induction l with
  | nil => rfl
  | cons a s ih => rw [List.map_cons, List.sum_cons, ih, List.length_cons]; omega
theorem list7 {α : Type} {l : List α} (h : l.length = 7) : ∃ a b c d e f g, l = [a, b, c, d, e, f, g] := by
  match l, h with
  | [a, b, c, d, e, f, g], _ => exact ⟨a, b, c, d, e, f, g, rfl⟩
theorem val_wt {tV tI tL tS tVs tK tKs tE tEs tB tSs : TypeId} (T : ValT P tV tI tL tS tVs tK tKs tE tEs tB tSs) :
    ∀ (k : Nat) (cs : List Value) (x : DataW H × List MemPlace), DataW.trod enc P w 0 spare held k tV cs = some x → ∃ v, VS k w w.heap.size v cs ∧ wt v ≤ Rows.uptoBulk x.1 := by
  have hcl := T.cells
  simp only [List.map_cons, List.map_nil, List.cons.injEq, and_true] at hcl
  obtain ⟨cV, cI, cL, cS, cVs, cK, cKs, cE, cEs, cB, cSs⟩ := hcl
  intro k
  induction k using Nat.strongRecOn with
  | ind k ih =>
  intro cs x h
  obtain ⟨n, xs, rfl, hlen, hx1, hxl, hf⟩ := trod_fields T.v h
  rw [cV] at hlen
  obtain ⟨c0, c1, c2, c3, c4, c5, c6, rfl⟩ := list7 hlen
  obtain ⟨y0, y1, y2, y3, y4, y5, y6, rfl⟩ := list7 hxl
  have h0 := hf 0 _ rfl
  have h1 := hf 1 _ rfl
  have h2 := hf 2 _ rfl
  have h3 := hf 3 _ rfl
  have h4 := hf 4 _ rfl
  have h5 := hf 5 _ rfl
  have h6 := hf 6 _ rfl
  simp only [cI, cL, cS, cVs, cKs, cEs, cSs, List.drop_zero, List.drop_succ_cons, List.take_succ_cons, List.take_zero, List.getElem?_cons_zero, List.getElem?_cons_succ] at h0 h1 h2 h3 h4 h5 h6
  obtain ⟨kind, e0, _, w0⟩ := DataW.trod_int T.i h0
  obtain ⟨int, e1, _, w1⟩ := DataW.trod_int T.l h1
  obtain ⟨text, e2, _, w2⟩ := DataW.trod_string T.s h2
  simp only [List.cons.injEq, and_true] at e0 e1 e2
  subst e0 e1 e2
  have kidsOf : ∀ m u (y : DataW H × List MemPlace), m ≤ n → DataW.trod enc P w 0 spare held m tVs [u] = some y → ∃ l : List Vl, RowP w w.heap.size 7 u l.length (fun j cs => ∃ x, l[j]? = some x ∧ VS n w w.heap.size x cs) ∧ (l.map wt).sum ≤ Rows.uptoBulk y.1 := by
    intro m u y hm hy
    refine open_row_wt wt (fun x cs => VS n w w.heap.size x cs) T.vs cV (by omega) hy fun m' cs z hlt hz => ?_
    obtain ⟨v, hv, hw⟩ := ih m' (by omega) cs z hz
    exact ⟨v, hv.up (Nat.le_refl _) (by omega), hw⟩
  obtain ⟨kids, hk, wk⟩ := kidsOf n c3 y3 (Nat.le_refl _) h3
  obtain ⟨keys, hy, wy⟩ := open_row_wt (α := Int × List UInt8) (fun _ => 1) (fun x cs => cs = [.int .i64 x.1, .string ⟨x.2.toArray⟩] ∧ (Lit.int .i64 x.1).wf = true ∧ x.2.length ≤ maxLen) T.ks cK (by omega) h4 (by
    intro m cs z _ hz
    obtain ⟨q, rfl, hl, hg⟩ := trod_field T.k hz
    rw [cK] at hl
    obtain ⟨a, b, rfl⟩ : ∃ a b, cs = [a, b] := by
      match cs, hl with
      | [a, b], _ => exact ⟨a, b, rfl⟩
    obtain ⟨z0, g0⟩ := hg 0 _ rfl
    obtain ⟨z1, g1⟩ := hg 1 _ rfl
    simp only [cI, cS, List.drop_zero, List.drop_succ_cons, List.take_succ_cons, List.take_zero] at g0 g1
    obtain ⟨i, e0, _, wi⟩ := DataW.trod_int T.i g0
    obtain ⟨s, e1, _, ws⟩ := DataW.trod_string T.s g1
    simp only [List.cons.injEq, and_true] at e0 e1
    subst e0 e1
    exact ⟨(i, s.data.toList), ⟨by rw [str_cell], wi, by simpa using ws⟩, bulk_pos _⟩)
  obtain ⟨ents, he, we⟩ := open_row_wt (α := En) wtE (fun x cs => ∃ args fails result, x = .mk args fails result ∧ ∃ ua rs, cs = ua :: .bool fails :: rs ∧ RowP w w.heap.size 7 ua args.length (fun j cs => ∃ x, args[j]? = some x ∧ VS n w w.heap.size x cs) ∧ VS n w w.heap.size result rs) T.es cE (by omega) h5 (by
    intro m cs z hm hz
    obtain ⟨q, zs, rfl, hl, hz1, hzl, hg⟩ := trod_fields T.e hz
    rw [cE] at hl
    obtain ⟨ua, ub, rs, rfl, hrs⟩ : ∃ ua ub rs, cs = ua :: ub :: rs ∧ rs.length = 7 := by
      match cs, hl with
      | ua :: ub :: rs, hl => exact ⟨ua, ub, rs, rfl, by simpa using hl⟩
    obtain ⟨z0, z1, z2, rfl⟩ : ∃ z0 z1 z2, zs = [z0, z1, z2] := by
      match zs, hzl with
      | [a, b, c], _ => exact ⟨a, b, c, rfl⟩
    have g0 := hg 0 _ rfl
    have g1 := hg 1 _ rfl
    have g2 := hg 2 _ rfl
    simp only [cVs, cB, cV, List.drop_zero, List.drop_succ_cons, List.take_succ_cons, List.take_zero, List.getElem?_cons_zero, List.getElem?_cons_succ] at g0 g1 g2
    rw [← hrs, List.take_length] at g2
    obtain ⟨args, ha, wa⟩ := kidsOf q ua z0 (by omega) g0
    obtain ⟨fails, e1, _⟩ := DataW.trod_bool T.b g1
    simp only [List.cons.injEq, and_true] at e1
    subst e1
    obtain ⟨result, hr, wr⟩ := ih q (by omega) rs z2 g2
    refine ⟨.mk args fails result, ⟨args, fails, result, rfl, ua, rs, rfl, ha, hr.up (Nat.le_refl _) (by omega)⟩, ?_⟩
    rw [hz1]
    simp only [List.map_cons, List.map_nil, Rows.uptoBulk, Rows.uptoBulkAll]
    rw [wtE, wtVs_sum]
    omega)
  obtain ⟨labels, hb, wl⟩ := open_row_wt (α := List UInt8) (fun _ => 1) (fun x cs => cs = [.string ⟨x.toArray⟩] ∧ x.length ≤ maxLen) T.ss cS (by omega) h6 (by
    intro m cs z _ hz
    obtain ⟨s, rfl, _, ws⟩ := DataW.trod_string T.s hz
    exact ⟨s.data.toList, ⟨by rw [str_cell], by simpa using ws⟩, bulk_pos _⟩)
  refine ⟨.mk kind int text.data.toList kids keys ents labels, ⟨c3, c4, c5, c6, by rw [str_cell], w0, w1, by simpa using w2, hk, hy, he.mono (Nat.le_refl _) ?_, hb⟩, ?_⟩
  · rintro j cs ⟨x, hx, args, fails, result, rfl, hrest⟩
    exact ⟨args, fails, result, hx, hrest⟩
  · rw [hx1]
    simp only [List.map_cons, List.map_nil, Rows.uptoBulk, Rows.uptoBulkAll]
    rw [const_sum] at wy wl
    rw [wt, wtVs_sum, wtEs_sum]
    have p0 := bulk_pos y0.1
    omega
end
end Go.Proofs.Ytpgnkfobgjplmaa
