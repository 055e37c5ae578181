/- Maps from pairs and nodes to references: look-up with ok, store, what stays. -/
import Derived.Test.YtplmbmecjhmiiaaDoorMap6
namespace Go.Proofs.YtplmbmecjhmiiaaDoor
open Go Go.RowKit Go.Maps
/-- block b is a map of at most n entries whose keys are the kv of κ's; it holds m -/
def MapF {κ : Type} (k : TypeId) (kv : κ → Value) (w : World) (b n : Nat) (m : κ → Option Int) : Prop :=
  ∃ D : DataW Unit, w.ownsMap Tryd.prog k (plainElem Tryd.prog 3) b n D ∧ ∀ x l, keyOf Tryd.prog k (kv x) = some l → Maps.has D l = (m x).isSome ∧ ∀ y, m x = some y → ∀ z, D.atKey l z = .lit (.int .i64 y)
theorem zeroInt6 (w : World) : (zeroValue 3).run Tryd.prog w = .ok (.int .i64 0) w := by kernel_rfl
theorem MapF.lt {κ : Type} {k : TypeId} {kv : κ → Value} {w : World} {b n : Nat} {m : κ → Option Int} (h : MapF k kv w b n m) : b < w.heap.size := by
  obtain ⟨D, h1, _⟩ := h
  exact World.ownsMap.lt h1
theorem MapF.kept {κ : Type} {k : TypeId} {kv : κ → Value} {w w' : World} {b n : Nat} {m : κ → Option Int} (h : MapF k kv w b n m) (hb : w'.heap[b]? = w.heap[b]?) : MapF k kv w' b n m := by
  obtain ⟨D, ⟨es, clock, hh, F, hs, hD⟩, h2⟩ := h
  exact ⟨D, ⟨es, clock, hb.trans hh, F, hs, hD⟩, h2⟩
theorem MapF.made {κ : Type} (k : TypeId) (kv : κ → Value) (w : World) : MapF k kv (w.alloc (.map #[] 0)) w.heap.size 0 (fun _ => none) :=
  ⟨.map [], World.ownsMap_made _ _ _ _, fun x l _ => ⟨rfl, fun y hy => by cases hy⟩⟩
theorem MapF.look {κ : Type} {k t : TypeId} {kv : κ → Value} {w : World} {b n : Nat} {m : κ → Option Int} (h : MapF k kv w b n m) (K : Keyed Tryd.prog k) (ht : Tryd.prog.underlying t = some (.map k 3)) (x : κ) (hx : ∃ l, keyOf Tryd.prog k (kv x) = some l) :
    ∃ c, (Instr.lookup t (.map (some b)) (kv x) true).run Tryd.prog w = .ok (.tuple #[.int .i64 c, .bool (m x).isSome]) w ∧ ∀ y, m x = some y → c = y := by
  obtain ⟨D, ⟨es, clock, hb, F, hs, rfl⟩, h2⟩ := h
  obtain ⟨l, hl⟩ := hx
  obtain ⟨g1, g2⟩ := h2 x l hl
  rcases Maps.fit_look true K ht (zeroInt6 w) hb F hl with ⟨hrun, _, hat⟩ | ⟨e0, y, _, _, hrun, hRv, hat, _⟩
  · have hno := has_false_of_atKey hat
    rw [hno] at g1
    refine ⟨0, by rw [hrun, ← g1]; rfl, fun y hy => ?_⟩
    rw [hy] at g1
    cases g1
  · obtain ⟨c, hc, hlit, _⟩ := plainElem_int_inv Tryd.underlying3 hRv
    have hyes := has_true_of_atKey hat
    rw [hyes] at g1
    refine ⟨c, by rw [hrun, ← g1, hc]; rfl, fun y' hy => ?_⟩
    have h3 := g2 y' hy (.lit (.int .i64 0))
    rw [hat] at h3
    have h4 := congrArg Prod.fst hlit
    rw [h3] at h4
    have h5 : (DataW.lit (Lit.int .i64 y') : DataW Unit) = .lit (Lit.int .i64 c) := h4
    simp only [DataW.lit.injEq, Lit.int.injEq, true_and] at h5
    exact h5.symm
theorem MapF.put {κ : Type} [DecidableEq κ] {k t : TypeId} {kv : κ → Value} {w : World} {b n : Nat} {m : κ → Option Int} (h : MapF k kv w b n m) (K : Keyed Tryd.prog k) (hinj : ∀ x y, kv x = kv y → x = y) (ht : Tryd.prog.underlying t = some (.map k 3)) (hn : n < maxLen) (x : κ) (hx : ∃ l, keyOf Tryd.prog k (kv x) = some l) (y : Int) (hy : (Lit.int .i64 y).wf = true) :
    ∃ w', (Instr.mapUpdate t (.map (some b)) (kv x) (.int .i64 y)).run Tryd.prog w = .ok () w' ∧ MapF k kv w' b (n + 1) (fun z => if z = x then some y else m z) ∧ w.grownBy w' (some b) := by
  obtain ⟨D, hown, h2⟩ := h
  obtain ⟨l, hl⟩ := hx
  obtain ⟨w', hrun, hown', hg⟩ := hown.update K ht hn hl (plainElem_int Tryd.underlying3 hy)
  have hM := hown.isMap
  refine ⟨w', hrun, ⟨_, hown', fun z l' hl' => ?_⟩, hg⟩
  dsimp only
  by_cases hzx : z = x
  · subst hzx
    rw [hl] at hl'
    injection hl' with hl'
    subst hl'
    rw [if_pos rfl]
    exact ⟨has_put_same hM (K.key hl) _, fun y' hy' z' => by rw [← Option.some.inj hy']; exact atKey_put_same hM (K.key hl) _ _⟩
  · rw [if_neg hzx]
    have hne : l' ≠ l := fun e => hzx (hinj _ _ (K.inj (e ▸ hl') hl))
    rw [has_put_other hne]
    exact ⟨(h2 z l' hl').1, fun y' hy' z' => by rw [atKey_put_other hne]; exact (h2 z l' hl').2 y' hy' z'⟩
end Go.Proofs.YtplmbmecjhmiiaaDoor
