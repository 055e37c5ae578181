/- A diagram that comes in, as the walks take it. -/
import Derived.Test.YtplmbmecjhmiiaaRowKit6
namespace Go.Proofs.Ytplmbmecjhmiiaa
open Go.ChangeShapes Go.WideShapes Go.ChangeAt Go.RowKit Go.Joins Go.Deep
set_option maxRecDepth 100000 in
theorem ndR_of {H : Type} {enc : TypeId × Value → H} {W : World} {fuel : Nat} {u : Value} {x : DataW H × List MemPlace} (hf : DataW.trod enc Try.prog W 0 (fun _ => true) true fuel 22 [u] = some x) :
    ∃ A n c is, u = .slice A n c ∧ NdR W (fun b => b < W.heap.size) A n c is := by
  have hfl : fieldsOf Try.prog 32 = some [(3, 0), (3, 1), (3, 2)] := by kernel_rfl
  have hc1 : Try.prog.cellsOf 3 = 1 := by kernel_rfl
  have hc3 : Try.prog.cellsOf 32 = 3 := by kernel_rfl
  obtain ⟨l, hl⟩ := open_row (α := Int × Int × Int) (fun x cs => cs = C3 x) Try.underlying22 hc3 (by omega) hf (by
    intro m cs z _ hz
    obtain ⟨q, rfl, hl, hg⟩ := trod_field hfl hz
    rw [hc3] at hl
    obtain ⟨a, b, c, rfl⟩ : ∃ a b c, cs = [a, b, c] := by
      match cs, hl with
      | [a, b, c], _ => exact ⟨a, b, c, rfl⟩
    obtain ⟨z0, g0⟩ := hg 0 _ rfl
    obtain ⟨z1, g1⟩ := hg 1 _ rfl
    obtain ⟨z2, g2⟩ := hg 2 _ rfl
    simp only [hc1, List.drop_zero, List.drop_succ_cons, List.take_succ_cons, List.take_zero] at g0 g1 g2
    obtain ⟨i0, e0, _, _⟩ := DataW.trod_int Try.underlying3 g0
    obtain ⟨i1, e1, _, _⟩ := DataW.trod_int Try.underlying3 g1
    obtain ⟨i2, e2, _, _⟩ := DataW.trod_int Try.underlying3 g2
    simp only [List.cons.injEq, and_true] at e0 e1 e2
    subst e0 e1 e2
    exact ⟨(i0, i1, i2), rfl⟩)
  obtain ⟨A, c, rfl, hr⟩ := hl
  exact ⟨A, l.length, c, l, rfl, rfl, A, c, rfl, hr⟩
set_option maxRecDepth 100000 in
theorem dia_of_trod {H : Type} {enc : TypeId × Value → H} {W : World} {base : Nat} {v : Value} {d : DataW H} {p : List MemPlace} (hval : Value.okWide Try.prog W .any base 24 v) (h : DataW.Trod enc Try.prog W 0 (fun _ => true) true 24 v d p) :
    ∃ A n c q is, v = .agg #[.slice A n c, .int .i64 q] ∧ NdR W (fun b => b < W.heap.size) A n c is := by
  have hfl : fieldsOf Try.prog 24 = some [(22, 0), (3, 1)] := by kernel_rfl
  have hc1 : Try.prog.cellsOf 3 = 1 := by kernel_rfl
  have hcN : Try.prog.cellsOf 22 = 1 := by kernel_rfl
  have hcD : Try.prog.cellsOf 24 = 2 := by kernel_rfl
  obtain ⟨fs, hfs, _⟩ := fields_struct hfl
  obtain ⟨cs, rfl, hsz⟩ := okWide_struct hfs hval
  obtain ⟨fuel, hf⟩ := h
  have hc : (Value.agg cs).cells.toList = cs.toList := rfl
  rw [hc] at hf
  obtain ⟨q, rfl, hl, hg⟩ := trod_field hfl hf
  rw [hcD] at hl
  obtain ⟨a, b, hab⟩ : ∃ a b, cs.toList = [a, b] := by
    match h : cs.toList, hl with
    | [a, b], _ => exact ⟨a, b, rfl⟩
  rw [hab] at hg
  obtain ⟨z0, g0⟩ := hg 0 _ rfl
  obtain ⟨z1, g1⟩ := hg 1 _ rfl
  simp only [hc1, hcN, List.drop_zero, List.drop_succ_cons, List.take_succ_cons, List.take_zero] at g0 g1
  obtain ⟨A, n, c, is, rfl, hN⟩ := ndR_of g0
  obtain ⟨i1, e1, _, _⟩ := DataW.trod_int Try.underlying3 g1
  simp only [List.cons.injEq, and_true] at e1
  subst e1
  exact ⟨A, n, c, i1, is, by rw [← Array.toArray_toList (xs := cs), hab], hN⟩
end Go.Proofs.Ytplmbmecjhmiiaa
