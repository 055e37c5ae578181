/- Diagrams as values: a value that is the diagram of a function; when a list of nodes is ordered. -/
import Derived.Test.YtplmbmecjhmiiaaDoorOrd6
import Derived.Test.YtplmbmecjhmiiaaDoorCombK6
namespace Go.Proofs.YtplmbmecjhmiiaaDoor
open Go Go.RowKit
/-- v is the diagram of f, its nodes in blocks below H -/
def Dia (f : BF) (w : World) (H : Nat) (v : Value) : Prop := F12 f ∧ ∃ A c, v = .agg #[.slice A (can f []).1.length c, .int .i64 (can f []).2] ∧ NdR w (fun b => b < H) A (can f []).1.length c ((can f []).1.map ni)
theorem can_small {f : BF} (hf : F12 f) : (can f []).1.length ≤ 4095 := by
  have := can_len hf (Nat.zero_le _) (fun x h => absurd h (by omega)) Good_nil
  simp at this
  omega
theorem Dia.on {f : BF} {w w' : World} {H H' : Nat} {v : Value} (h : Dia f w H v) (hb : Below H w w') (hH : H ≤ H') : Dia f w' H' v := by
  obtain ⟨h0, A, c, h1, h2⟩ := h
  exact ⟨h0, A, c, h1, (h2.on hb).up fun b hb => by omega⟩
theorem NdR_of_own {w : World} {base c : Nat} {A : Option Addr} {ns : List Nd} (h : OwnNd w base (.slice A ns.length c) ns) (hn : ns.length ≤ 1000000) : NdR w (fun b => b < w.heap.size) A ns.length c (ns.map ni) := by
  refine ⟨by simp, ?_⟩
  have hr := OwnE.row h (by omega) (by unfold maxLen; omega)
  exact hr.sub (fun b hb => hb.2) fun j cs ⟨x, hx, hc⟩ => ⟨ni x, by rw [List.getElem?_map, hx]; rfl, hc⟩
theorem Dia.of_own {f : BF} (hf : F12 f) {w : World} {base c : Nat} {A : Option Addr} (h : OwnNd w base (.slice A (can f []).1.length c) (can f []).1) : Dia f w w.heap.size (.agg #[.slice A (can f []).1.length c, .int .i64 (can f []).2]) :=
  ⟨hf, A, c, rfl, NdR_of_own h (by have := can_small hf; omega)⟩
theorem litI_ni (us : List Nd) (r : Nat) : litI (us.map ni) (r : Int) = (litR us r : Int) := by
  unfold litI litR
  by_cases h : r < 2
  · rw [if_pos (by omega), if_pos h]; rfl
  · rw [if_neg (by omega), if_neg h, show ((r : Int) - 2).toNat = r - 2 by omega, List.getElem?_map]
    cases us[r - 2]? <;> rfl
/-- an ordered list of nodes is one of natural numbers -/
theorem ord_of_ordI {is : List (Int × Int × Int)} {q : Int} (h : ordI is q = true) : ∃ (us : List Nd) (x : Nat), is = us.map ni ∧ Ord us ∧ q = (x : Int) ∧ x < us.length + 2 := by
  unfold ordI at h
  rw [Bool.and_eq_true, List.all_eq_true, decide_eq_true_eq] at h
  obtain ⟨h1, h2, h3⟩ := h
  have hat : ∀ (i : Nat) (x : Int × Int × Int), is[i]? = some x → (0 ≤ x.1 ∧ x.1 < 12) ∧ (0 ≤ x.2.1 ∧ x.2.1 < 2 + (i : Int)) ∧ x.1 < litI is x.2.1 ∧ (0 ≤ x.2.2 ∧ x.2.2 < 2 + (i : Int)) ∧ x.1 < litI is x.2.2 := fun i x hx => by
    have hi := (List.getElem?_eq_some_iff.1 hx).1
    have := h1 i (List.mem_range.2 hi)
    unfold okI at this
    rw [hx] at this
    simp only [blwI, Bool.and_eq_true, decide_eq_true_eq] at this
    obtain ⟨a, ⟨b, c⟩, d, e⟩ := this
    exact ⟨a, b, c, d, e⟩
  let g : Int × Int × Int → Nd := fun x => ⟨x.1.toNat, x.2.1.toNat, x.2.2.toNat⟩
  have hmap : is = (is.map g).map ni := by
    apply List.ext_getElem?
    intro i
    rw [List.map_map, List.getElem?_map]
    cases hx : is[i]? with
    | none => rfl
    | some x =>
      obtain ⟨⟨a, _⟩, ⟨b, _⟩, _, ⟨d, _⟩, _⟩ := hat i x hx
      obtain ⟨x0, x1, x2⟩ := x
      simp only [Option.map_some, Function.comp, ni, g]
      congr 1
      refine Prod.ext ?_ (Prod.ext ?_ ?_) <;> (dsimp only at *; omega)
  refine ⟨is.map g, q.toNat, hmap, fun i n hn => ?_, by omega, by rw [List.length_map]; omega⟩
  rw [List.getElem?_map] at hn
  cases hx : is[i]? with
  | none => rw [hx] at hn; cases hn
  | some x =>
    rw [hx] at hn
    have hn' := Option.some.inj hn
    subst hn'
    obtain ⟨⟨a1, a2⟩, ⟨b1, b2⟩, c, ⟨d1, d2⟩, e⟩ := hat i x hx
    have eb : x.2.1 = ((x.2.1.toNat : Nat) : Int) := by omega
    have ed : x.2.2 = ((x.2.2.toNat : Nat) : Int) := by omega
    rw [eb, congrArg (fun z => litI z _) hmap, litI_ni] at c
    rw [ed, congrArg (fun z => litI z _) hmap, litI_ni] at e
    exact ⟨by show x.1.toNat < 12; omega, by show x.2.1.toNat < i + 2; omega, by show x.2.2.toNat < i + 2; omega, by show x.1.toNat < litR (is.map g) x.2.1.toNat; omega, by show x.1.toNat < litR (is.map g) x.2.2.toNat; omega⟩
theorem ordI_of_ord {us : List Nd} (hO : Ord us) {x : Nat} (hx : x < us.length + 2) : ordI (us.map ni) (x : Int) = true := by
  have h1 : ∀ i, i < (us.map ni).length → okI (us.map ni) i = true := fun i hi => by
    rw [List.length_map] at hi
    have hn : us[i]? = some us[i] := List.getElem?_eq_getElem hi
    obtain ⟨a, b, c, d, e⟩ := hO i _ hn
    generalize us[i] = n at *
    unfold okI
    rw [List.getElem?_map, hn]
    simp only [Option.map_some, blwI, ni, litI_ni, Bool.and_eq_true, decide_eq_true_eq]
    omega
  rw [ordI_true h1, decide_eq_true_eq, List.length_map]
  omega
end Go.Proofs.YtplmbmecjhmiiaaDoor
