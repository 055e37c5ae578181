/- A map from terms to true; rows of terms. -/
import Derived.Test.YtplmbmecjhmiiaaDoorMapF6
import Derived.Test.YtplmbmecjhmiiaaDoorTerm6
import Derived.Test.YtplmbmecjhmiiaaDoorAppR6
namespace Go.Proofs.YtplmbmecjhmiiaaDoor
open Go Go.RowKit Go.Maps
def kvT (x : Tm) : Value := .agg #[.int .u64 x.1, .int .u64 x.2]
theorem kvT_inj {x y : Tm} (h : kvT x = kvT y) : x = y := by
  obtain ⟨a, b⟩ := x
  obtain ⟨c, d⟩ := y
  simp [kvT] at h
  exact Prod.ext (by omega) (by omega)
theorem keyedT : Keyed Tryd.prog 64 := Keyed.of_law (deep_law_laid laidOut6 (m := 2) (by omega) (of_decide_eq_true (by kernel_rfl)) (by kernel_rfl) (by kernel_rfl))
def WT (x : Nat) : Prop := x < 18446744073709551616
theorem WT.wf {x : Nat} (h : WT x) : (Lit.int .u64 (x : Int)).wf = true := by
  unfold WT at h
  simp [Lit.wf, IntKind.min, IntKind.max, IntKind.signed, IntKind.bits]
  omega
theorem keyT_ok (x : Tm) (h : WT x.1 ∧ WT x.2) : ∃ l, keyOf Tryd.prog 64 (kvT x) = some l := by
  have hk : Tryd.prog.keyType 64 = true := by kernel_rfl
  obtain ⟨N6, hsz⟩ : ∃ N6, Tryd.prog.types.size = N6 + 1 := ⟨Tryd.prog.types.size - 1, by kernel_rfl⟩
  have hc : Tryd.prog.cellsOf 64 = 2 := by kernel_rfl
  have hc1 : Tryd.prog.cellsOf 60 = 1 := by kernel_rfl
  have hi : ∀ (d : Nat) (a : Nat), WT a → Tryd.prog.keyLits (d + 1) 60 [.int .u64 a] = some [.int .u64 a] := fun d a ha => by
    have := ha.wf
    simp [Program.keyLits, Tryd.underlying60, this]
  refine Option.isSome_iff_exists.1 ?_
  unfold keyOf kvT
  rw [Tryd.underlying64]
  simp only [hk, Value.formed, Tryd.underlying64, hc, hsz, Bool.true_and]
  have hcells : (Value.agg #[.int .u64 (x.1 : Int), .int .u64 (x.2 : Int)]).cells.toList = [.int .u64 x.1, .int .u64 x.2] := by simp [Value.cells]
  rw [hcells]
  unfold Program.keyLits
  rw [Tryd.underlying64]
  simp [hc, hc1, hi, h.1, h.2]
theorem plainElem_bool_inv6 {P : Program} {e : TypeId} (he : P.underlying e = some .bool) {v : Value} {z : DataW Unit × List MemPlace} (h : plainElem P e v = some z) : ∃ x, v = .bool x ∧ z = (.lit (.bool x), []) := by
  unfold plainElem at h
  rw [he] at h
  cases v <;> simp at h
  exact ⟨_, rfl, h.symm⟩
theorem zeroBool6 (w : World) : (zeroValue 4).run Tryd.prog w = .ok (.bool false) w := by kernel_rfl
/-- block b is a map of at most n entries that holds true at the terms acc, and nothing else -/
def MapT (w : World) (b n : Nat) (acc : List Tm) : Prop :=
  ∃ D : DataW Unit, w.ownsMap Tryd.prog 64 (plainElem Tryd.prog 4) b n D ∧ ∀ x l, keyOf Tryd.prog 64 (kvT x) = some l → D.atKey l (.lit (.bool false)) = .lit (.bool (decide (x ∈ acc)))
theorem MapT.lt {w : World} {b n : Nat} {acc : List Tm} (h : MapT w b n acc) : b < w.heap.size := by
  obtain ⟨D, h1, _⟩ := h
  exact World.ownsMap.lt h1
theorem MapT.kept {w w' : World} {b n : Nat} {acc : List Tm} (h : MapT w b n acc) (hb : w'.heap[b]? = w.heap[b]?) : MapT w' b n acc := by
  obtain ⟨D, ⟨es, clock, hh, F, hs, hD⟩, h2⟩ := h
  exact ⟨D, ⟨es, clock, hb.trans hh, F, hs, hD⟩, h2⟩
theorem MapT.made (w : World) : MapT (w.alloc (.map #[] 0)) w.heap.size 0 [] :=
  ⟨.map [], World.ownsMap_made _ _ _ _, fun x l _ => by simp; rfl⟩
theorem MapT.look {w : World} {b n : Nat} {acc : List Tm} (h : MapT w b n acc) (x : Tm) (hx : WT x.1 ∧ WT x.2) :
    (Instr.lookup 59 (.map (some b)) (kvT x) false).run Tryd.prog w = .ok (.bool (decide (x ∈ acc))) w := by
  obtain ⟨D, hown, h2⟩ := h
  obtain ⟨l, hl⟩ := keyT_ok x hx
  obtain ⟨v, ps, hrun, hv⟩ := World.ownsMap.lookup hown keyedT Tryd.underlying59 (zeroBool6 w) (plainElem_bool Tryd.underlying4 false) hl
  obtain ⟨y, rfl, hy⟩ := plainElem_bool_inv6 Tryd.underlying4 hv
  simp only [Prod.mk.injEq] at hy
  have h3 := (h2 x l hl).symm.trans hy.1
  rw [hrun, Lit.bool.inj (DataW.lit.inj h3)]
set_option maxRecDepth 100000 in
theorem MapT.put {w : World} {b n : Nat} {acc : List Tm} (h : MapT w b n acc) (hn : n < maxLen) (x : Tm) (hx : WT x.1 ∧ WT x.2) :
    ∃ w', (Instr.mapUpdate 59 (.map (some b)) (kvT x) (.bool true)).run Tryd.prog w = .ok () w' ∧ MapT w' b (n + 1) (acc ++ [x]) ∧ w.grownBy w' (some b) := by
  obtain ⟨D, hown, h2⟩ := h
  obtain ⟨l, hl⟩ := keyT_ok x hx
  obtain ⟨w', hrun, hown', hg⟩ := hown.update keyedT Tryd.underlying59 hn hl (plainElem_bool Tryd.underlying4 true)
  have hM := hown.isMap
  refine ⟨w', hrun, ⟨_, hown', fun z l' hl' => ?_⟩, hg⟩
  by_cases hzx : z = x
  · subst hzx
    rw [hl] at hl'
    injection hl' with hl'
    subst hl'
    have hd : decide (z ∈ acc ++ [z]) = true := decide_eq_true (List.mem_append_right _ (List.mem_singleton.2 rfl))
    rw [hd]
    exact atKey_put_same hM (keyedT.key hl) _ _
  · have hne : l' ≠ l := fun e => hzx (kvT_inj (keyedT.inj (e ▸ hl') hl))
    rw [atKey_put_other hne, h2 z l' hl']
    refine congrArg (fun q => DataW.lit (Lit.bool q)) ?_
    rw [decide_eq_decide, List.mem_append, List.mem_singleton]
    exact ⟨.inl, fun h => h.resolve_right hzx⟩
/-- terms as elements of a row -/
def CT (x : Tm) : List Value := [.int .u64 x.1, .int .u64 x.2]
def elT : ElK Tm := ⟨fun x _ _ cs => cs = CT x, fun _ h => h, fun _ h => h⟩
abbrev OwnT (w : World) (base : Nat) (v : Value) (l : List Tm) : Prop := OwnE elT 64 2 w base v l
/-- a row of terms in blocks of B -/
def TmR (w : World) (B : Nat → Prop) (v : Value) (l : List Tm) : Prop := RowB w B 2 v l.length (fun j cs => ∃ z, l[j]? = some z ∧ cs = CT z)
theorem OwnT.row {w : World} {base : Nat} {v : Value} {l : List Tm} (h : OwnT w base v l) (hn : l.length ≤ maxLen) : TmR w (fun b => b < w.heap.size) v l :=
  RowB.sub (OwnE.row h (by decide) hn) (fun b hb => hb.2) fun j cs ⟨x, hx, hc⟩ => ⟨x, hx, hc⟩
theorem TmR.on {w w' : World} {H : Nat} {v : Value} {l : List Tm} (h : TmR w (fun b => b < H) v l) (hb : Below H w w') : TmR w' (fun b => b < H) v l := RowB.on h hb fun _ _ h => h
theorem TmR.up {w : World} {H H' : Nat} {v : Value} {l : List Tm} (h : TmR w (fun b => b < H) v l) (hH : H ≤ H') : TmR w (fun b => b < H') v l := RowB.sub h (fun b hb => Nat.lt_of_lt_of_le hb hH) fun _ _ h => h
theorem TmR.form {w : World} {B : Nat → Prop} {v : Value} {l : List Tm} (h : TmR w B v l) : ∃ A c, v = .slice A l.length c := by
  obtain ⟨A, cap, h1, _⟩ := RowB.form h
  exact ⟨A, cap, h1⟩
theorem TmR.at {w : World} {H : Nat} {A : Option Addr} {n c : Nat} {l : List Tm} (h : TmR w (fun b => b < H) (.slice A n c) l) {j : Nat} (hj : j < l.length) :
    ∃ b off x, A = some ⟨b, off, none⟩ ∧ b < H ∧ l[j]? = some x ∧ w.cell? ⟨b, off + j * 2, none⟩ = some (.int .u64 x.1) ∧ w.cell? ⟨b, off + j * 2 + 1, none⟩ = some (.int .u64 x.2) := by
  obtain ⟨A', cap, e1, _, h3⟩ := h
  injection e1 with e1 _ _
  subst e1
  obtain ⟨b, off, h4, h5, _, h7⟩ := h3 (by omega)
  obtain ⟨cs, h8, h9, x, hx, rfl⟩ := h7 j hj
  have c0 := h9 0 (by omega)
  have c1 := h9 1 (by omega)
  exact ⟨b, off, x, h4, h5, hx, by simpa [CT] using c0, by simpa [CT] using c1⟩
theorem Tryd.infoT : (Tryd.prog.info? 64).map (fun i => (i.zero, i.size, i.bytes)) = some (some (.agg #[.int .u64 0, .int .u64 0]), 2, 16) := by kernel_rfl
/-- append of one term -/
theorem app_t (w0 : World) (base : Nat) (v : Value) (l : List Tm) (h : OwnT w0 base v l) (x : Tm) (hn : l.length ≤ 300000000) (hbase : base ≤ w0.heap.size) (ty : TypeId) :
    ∃ g cap w', (Builtin.append_ #[43, 43] ty #[v, .slice (some ⟨w0.heap.size, 0, none⟩) 1 1]).run Tryd.prog (w0.alloc (.cells #[.int .u64 x.1, .int .u64 x.2] 64)) = .ok (.slice (some ⟨g, 0, none⟩) (l.length + 1) cap) w' ∧
      OwnT w' base (.slice (some ⟨g, 0, none⟩) (l.length + 1) cap) (l ++ [x]) ∧ Below base w0 w' ∧ (∀ b, b < w0.heap.size → some b ≠ v.ownBlock → w'.heap[b]? = w0.heap[b]?) ∧ (v.ownBlock = some g ∨ w0.heap.size ≤ g) := by
  obtain ⟨i0, hi, hz0, hz1, hz2⟩ := info_parts Tryd.infoT
  exact app_one elT 43 ty 64 i0 (.agg #[.int .u64 0, .int .u64 0]) 2 16 Tryd.underlying43 hi hz0 hz1 hz2 rfl (by decide) (by decide) w0 base v l h x [.int .u64 x.1, .int .u64 x.2] rfl rfl (by intro u hu; simp at hu; rcases hu with rfl | rfl <;> rfl) hn hbase _ rfl 1
end Go.Proofs.YtplmbmecjhmiiaaDoor
