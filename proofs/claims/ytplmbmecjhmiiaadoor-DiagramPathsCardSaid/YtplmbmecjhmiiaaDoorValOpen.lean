/- A value that comes in as an argument is a tree that lies in the heap. No program is named: the types come by hypotheses. -/
import Derived.Test.YtplmbmecjhmiiaaDoorVal
namespace Go.Proofs.YtplmbmecjhmiiaaDoor
open Go Go.RowKit Go.WideShapes Go.Deep
theorem addr_plus (b off q : Nat) : (⟨b, off, none⟩ : Addr).add q = ⟨b, off + q, none⟩ := by cases q <;> rfl
/-- the fields of a struct: types and offsets -/
def fieldsOf (P : Program) (t : TypeId) : Option (List (TypeId × Nat)) :=
  match P.underlying t with
  | some (.struct fs) => some (fs.toList.map fun f => (f.type, f.offset))
  | _ => none
theorem fields_struct {P : Program} {t : TypeId} {l : List (TypeId × Nat)} (h : fieldsOf P t = some l) : ∃ fs, P.underlying t = some (.struct fs) ∧ fs.size = l.length ∧ ∀ (i : Nat) (p : TypeId × Nat), l[i]? = some p → ∃ f, fs[i]? = some f ∧ f.type = p.1 ∧ f.offset = p.2 := by
  unfold fieldsOf at h
  split at h
  · rename_i fs hfs
    simp only [Option.some.injEq] at h
    subst h
    refine ⟨fs, hfs, by simp, fun i p hp => ?_⟩
    simp only [List.getElem?_map, Option.map_eq_some_iff] at hp
    obtain ⟨f, hf, rfl⟩ := hp
    exact ⟨f, by simpa using hf, rfl, rfl⟩
  · cases h
section
variable {H : Type} {enc : TypeId × Value → H} {P : Program} {w : World} {spare : Nat → Bool} {held : Bool}
/-- field number i of a struct that reads -/
theorem trod_field {t : TypeId} {l : List (TypeId × Nat)} {k : Nat} {cs : List Value} {x : DataW H × List MemPlace} (hl : fieldsOf P t = some l) (h : DataW.trod enc P w 0 spare held k t cs = some x) :
    ∃ n, k = n + 1 ∧ cs.length = P.cellsOf t ∧ ∀ (i : Nat) (p : TypeId × Nat), l[i]? = some p → ∃ y, DataW.trod enc P w 0 spare held n p.1 ((cs.drop p.2).take (P.cellsOf p.1)) = some y := by
  obtain ⟨fs, hfs, hsz, hf⟩ := fields_struct hl
  obtain ⟨xs, n, hk, _, hlen, hxl, hx⟩ := DataW.trod_struct hfs h
  refine ⟨n, hk, hlen, fun i p hp => ?_⟩
  obtain ⟨f, h1, h2, h3⟩ := hf i p hp
  have := hx i f h1
  rw [h2, h3] at this
  have hi : i < xs.length := by
    have := (List.getElem?_eq_some_iff.1 hp).1
    omega
  exact ⟨xs[i], by rw [this]; exact List.getElem?_eq_getElem hi⟩
theorem open_row {n c : Nat} {t e : TypeId} {u : Value} {y : DataW H × List MemPlace} {α : Type} (R : α → List Value → Prop) (ht : P.underlying t = some (.slice e)) (hc : P.cellsOf e = c) (hpos : 0 < c)
    (h : DataW.trod enc P w 0 spare held n t [u] = some y) (hR : ∀ m cs z, m < n → DataW.trod enc P w 0 spare held m e cs = some z → ∃ x : α, R x cs) :
    ∃ l : List α, RowP w w.heap.size c u l.length (fun j cs => ∃ x, l[j]? = some x ∧ R x cs) := by
  rcases DataW.trod_slice ht h with ⟨h0, _⟩ | ⟨a, len, cap, elems, rest, m, rfl, hu, _, hb, hl, hm, hlen, hel, _⟩
  · simp only [List.cons.injEq, and_true] at h0
    subst h0
    exact ⟨[], none, 0, rfl, ⟨Nat.zero_le _, Nat.le_refl _⟩, fun hn => absurd hn (by simp)⟩
  · simp only [List.cons.injEq, and_true] at hu
    subst hu
    have each : ∀ i : Fin len, ∃ x : α, ∃ cs : List Value, cs.length = c ∧ (∀ q, q < c → w.cell? ((a.add (i.1 * c)).add q) = cs[q]?) ∧ R x cs := by
      intro i
      have h1 := hel i.1 i.2
      rw [List.getElem?_eq_getElem (by omega), hc] at h1
      obtain ⟨cs, h2, h3⟩ := Option.bind_eq_some_iff.1 h1
      obtain ⟨_, h4, h5⟩ := World.cells?_some h2
      obtain ⟨x, hx⟩ := hR m cs _ (by omega) h3
      exact ⟨x, cs, h4, h5, hx⟩
    refine ⟨List.ofFn fun i => Classical.choose (each i), some a, cap, by simp, ⟨by simp; omega, by simp; omega⟩, fun hn => ?_⟩
    rw [List.length_ofFn] at hn
    obtain ⟨b, off, spot⟩ := a
    obtain ⟨cs0, k1, k2, _⟩ := Classical.choose_spec (each ⟨0, hn⟩)
    have hc0 := k2 0 hpos
    rw [List.getElem?_eq_getElem (by omega)] at hc0
    have hspot : spot = none := by simpa [Addr.add] using World.cell?_spot hc0
    subst hspot
    refine ⟨b, off, rfl, ?_, ?_, fun j hj => ?_⟩
    · simpa [Addr.add] using World.block_lt_of_cell? _ _ hc0
    · simpa [Addr.add] using World.block_lt_of_cell? _ _ hc0
    · rw [List.length_ofFn] at hj
      obtain ⟨cs, k3, k4, k5⟩ := Classical.choose_spec (each ⟨j, hj⟩)
      refine ⟨cs, k3, fun i hi => ?_, _, by rw [List.getElem?_ofFn, dif_pos hj], k5⟩
      have := k4 i hi
      rw [addr_plus, addr_plus] at this
      rw [← this]
/-- the types that a value is made of -/
structure ValT (P : Program) (tV tI tL tS tVs tK tKs tE tEs tB tSs : TypeId) : Prop where
  v : fieldsOf P tV = some [(tI, 0), (tL, 1), (tS, 2), (tVs, 3), (tKs, 4), (tEs, 5), (tSs, 6)]
  e : fieldsOf P tE = some [(tVs, 0), (tB, 1), (tV, 2)]
  k : fieldsOf P tK = some [(tI, 0), (tS, 1)]
  i : P.underlying tI = some (.int .i64)
  l : P.underlying tL = some (.int .i64)
  s : P.underlying tS = some .string
  b : P.underlying tB = some .bool
  vs : P.underlying tVs = some (.slice tV)
  ks : P.underlying tKs = some (.slice tK)
  es : P.underlying tEs = some (.slice tE)
  ss : P.underlying tSs = some (.slice tS)
  cells : [tV, tI, tL, tS, tVs, tK, tKs, tE, tEs, tB, tSs].map P.cellsOf = [7, 1, 1, 1, 1, 2, 1, 9, 1, 1, 1]
theorem str_cell (s : ByteArray) : (⟨s.data.toList.toArray⟩ : ByteArray) = s := by cases s; simp
theorem val_of_trod {tV tI tL tS tVs tK tKs tE tEs tB tSs : TypeId} (T : ValT P tV tI tL tS tVs tK tKs tE tEs tB tSs) :
    ∀ (k : Nat) (cs : List Value) (x : DataW H × List MemPlace), DataW.trod enc P w 0 spare held k tV cs = some x → ∃ v, VS k w w.heap.size v cs := by
  have hcl := T.cells
  simp only [List.map_cons, List.map_nil, List.cons.injEq, and_true] at hcl
  obtain ⟨cV, cI, cL, cS, cVs, cK, cKs, cE, cEs, cB, cSs⟩ := hcl
  intro k
  induction k using Nat.strongRecOn with
  | ind k ih =>
  intro cs x h
  obtain ⟨n, rfl, hlen, hf⟩ := trod_field T.v h
  rw [cV] at hlen
  obtain ⟨c0, c1, c2, c3, c4, c5, c6, rfl⟩ : ∃ c0 c1 c2 c3 c4 c5 c6, cs = [c0, c1, c2, c3, c4, c5, c6] := by
    match cs, hlen with
    | [c0, c1, c2, c3, c4, c5, c6], _ => exact ⟨c0, c1, c2, c3, c4, c5, c6, rfl⟩
  obtain ⟨y0, h0⟩ := hf 0 _ rfl
  obtain ⟨y1, h1⟩ := hf 1 _ rfl
  obtain ⟨y2, h2⟩ := hf 2 _ rfl
  obtain ⟨y3, h3⟩ := hf 3 _ rfl
  obtain ⟨y4, h4⟩ := hf 4 _ rfl
  obtain ⟨y5, h5⟩ := hf 5 _ rfl
  obtain ⟨y6, h6⟩ := hf 6 _ rfl
  simp only [cI, cL, cS, cVs, cKs, cEs, cSs, List.drop_zero, List.drop_succ_cons, List.take_succ_cons, List.take_zero] at h0 h1 h2 h3 h4 h5 h6
  obtain ⟨kind, e0, _, w0⟩ := DataW.trod_int T.i h0
  obtain ⟨int, e1, _, w1⟩ := DataW.trod_int T.l h1
  obtain ⟨text, e2, _, w2⟩ := DataW.trod_string T.s h2
  simp only [List.cons.injEq, and_true] at e0 e1 e2
  subst e0 e1 e2
  have kidsOf : ∀ m u (y : DataW H × List MemPlace), m ≤ n → DataW.trod enc P w 0 spare held m tVs [u] = some y → ∃ l : List Vl, RowP w w.heap.size 7 u l.length (fun j cs => ∃ x, l[j]? = some x ∧ VS n w w.heap.size x cs) := by
    intro m u y hm hy
    refine open_row (fun x cs => VS n w w.heap.size x cs) T.vs cV (by omega) hy fun m' cs z hlt hz => ?_
    obtain ⟨v, hv⟩ := ih m' (by omega) cs z hz
    exact ⟨v, hv.up (Nat.le_refl _) (by omega)⟩
  obtain ⟨kids, hk⟩ := kidsOf n c3 y3 (Nat.le_refl _) h3
  obtain ⟨keys, hy⟩ := open_row (α := Int × List UInt8) (fun x cs => cs = [.int .i64 x.1, .string ⟨x.2.toArray⟩] ∧ (Lit.int .i64 x.1).wf = true ∧ x.2.length ≤ maxLen) T.ks cK (by omega) h4 (by
    intro m cs z _ hz
    obtain ⟨q, rfl, hl, hg⟩ := trod_field T.k hz
    rw [cK] at hl
    obtain ⟨a, b, rfl⟩ : ∃ a b, cs = [a, b] := by
      match cs, hl with
      | [a, b], _ => exact ⟨a, b, rfl⟩
    obtain ⟨z0, g0⟩ := hg 0 _ rfl
    obtain ⟨z1, g1⟩ := hg 1 _ rfl
    simp only [cI, cS, List.drop_zero, List.drop_succ_cons, List.take_succ_cons, List.take_zero] at g0 g1
    obtain ⟨i, e0, _, wi⟩ := DataW.trod_int T.i g0
    obtain ⟨s, e1, _, ws⟩ := DataW.trod_string T.s g1
    simp only [List.cons.injEq, and_true] at e0 e1
    subst e0 e1
    exact ⟨(i, s.data.toList), by rw [str_cell], wi, by simpa using ws⟩)
  obtain ⟨ents, he⟩ := open_row (α := En) (fun x cs => ∃ args fails result, x = .mk args fails result ∧ ∃ ua rs, cs = ua :: .bool fails :: rs ∧ RowP w w.heap.size 7 ua args.length (fun j cs => ∃ x, args[j]? = some x ∧ VS n w w.heap.size x cs) ∧ VS n w w.heap.size result rs) T.es cE (by omega) h5 (by
    intro m cs z hm hz
    obtain ⟨q, rfl, hl, hg⟩ := trod_field T.e hz
    rw [cE] at hl
    obtain ⟨ua, ub, rs, rfl, hrs⟩ : ∃ ua ub rs, cs = ua :: ub :: rs ∧ rs.length = 7 := by
      match cs, hl with
      | ua :: ub :: rs, hl => exact ⟨ua, ub, rs, rfl, by simpa using hl⟩
    obtain ⟨z0, g0⟩ := hg 0 _ rfl
    obtain ⟨z1, g1⟩ := hg 1 _ rfl
    obtain ⟨z2, g2⟩ := hg 2 _ rfl
    simp only [cVs, cB, cV, List.drop_zero, List.drop_succ_cons, List.take_succ_cons, List.take_zero] at g0 g1 g2
    rw [← hrs, List.take_length] at g2
    obtain ⟨args, ha⟩ := kidsOf q ua z0 (by omega) g0
    obtain ⟨fails, e1, _⟩ := DataW.trod_bool T.b g1
    simp only [List.cons.injEq, and_true] at e1
    subst e1
    obtain ⟨result, hr⟩ := ih q (by omega) rs z2 g2
    exact ⟨.mk args fails result, args, fails, result, rfl, ua, rs, rfl, ha, hr.up (Nat.le_refl _) (by omega)⟩)
  obtain ⟨labels, hb⟩ := open_row (α := List UInt8) (fun x cs => cs = [.string ⟨x.toArray⟩] ∧ x.length ≤ maxLen) T.ss cS (by omega) h6 (by
    intro m cs z _ hz
    obtain ⟨s, rfl, _, ws⟩ := DataW.trod_string T.s hz
    exact ⟨s.data.toList, by rw [str_cell], by simpa using ws⟩)
  refine ⟨.mk kind int text.data.toList kids keys ents labels, c3, c4, c5, c6, by rw [str_cell], w0, w1, by simpa using w2, hk, hy, he.mono (Nat.le_refl _) ?_, hb⟩
  rintro j cs ⟨x, hx, args, fails, result, rfl, hrest⟩
  exact ⟨args, fails, result, hx, hrest⟩
end
end Go.Proofs.YtplmbmecjhmiiaaDoor
