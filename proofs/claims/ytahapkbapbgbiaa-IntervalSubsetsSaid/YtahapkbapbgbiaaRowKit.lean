/- A slice of ranges that comes in, as the walks take it; small closed facts of the rows. -/
import Derived.Test.YtahapkbapbgbiaaKit
import Derived.ProofKit
import Derived.OpenShut
import Derived.Deep.DeepHandedRow
import Derived.Deep.Slices
import Derived.Lib.SmallJoins
namespace Go.Proofs.Ytahapkbapbgbiaa
open Go.ChangeShapes Go.WideShapes Go.ChangeAt Go.RowKit Go.Joins Go.Deep
theorem own : ownKnob Try.prog.godebug = none := by kernel_rfl
theorem laidOut : laidOutB Try.prog = true := by kernel_rfl
theorem Try.cellsR35 : Try.prog.cellsOf 35 = 2 := by kernel_rfl
theorem wf_bounds {k : Int} (h : (Lit.int .i64 k).wf = true) : LO ≤ k ∧ k ≤ HI := by
  unfold LO HI
  simp only [Lit.wf, Bool.and_eq_true, decide_eq_true_eq] at h
  have e1 : IntKind.i64.min = -9223372036854775808 := by decide
  have e2 : IntKind.i64.max = 9223372036854775807 := by decide
  omega
theorem range_cells {H : Type} {enc : TypeId × Value → H} {W : World} {fuel : Nat} {cs : List Value} {x : DataW H × List MemPlace} (h : DataW.trod enc Try.prog W 0 (fun _ => true) true fuel 35 cs = some x) :
    ∃ (a b : Int), cs = [.int .i64 a, .int .i64 b] ∧ Fit1 (a, b) := by
  obtain ⟨y0, y1, n, _, hl, h0, h1⟩ := trod_struct2 Try.underlying35 h
  rw [Try.cellsR35] at hl
  match cs, hl with
  | [c0, c1], _ =>
    obtain ⟨a, e0, _, w0⟩ := DataW.trod_int Try.underlying2 h0
    obtain ⟨b, e1, _, w1⟩ := DataW.trod_int Try.underlying2 h1
    have c2 : Try.prog.cellsOf 2 = 1 := by kernel_rfl
    simp [c2] at e0
    simp [c2] at e1
    subst e0 e1
    have p := wf_bounds w0
    have q := wf_bounds w1
    exact ⟨a, b, rfl, p.1, p.2, q.1, q.2⟩
theorem rng_list {P : Nat → Rg → Prop} : ∀ n, (∀ j, j < n → ∃ k, P j k) → ∃ ks : List Rg, ks.length = n ∧ ∀ j k, ks[j]? = some k → P j k
  | 0, _ => ⟨[], rfl, by simp⟩
  | n + 1, h => by
    obtain ⟨ks, hl, hk⟩ := rng_list n (fun j hj => h j (by omega))
    obtain ⟨k, hp⟩ := h n (by omega)
    refine ⟨ks ++ [k], by simp [hl], fun j x hx => ?_⟩
    by_cases hj : j < n
    · rw [List.getElem?_append_left (by omega)] at hx
      exact hk j x hx
    · rw [List.getElem?_append_right (by omega)] at hx
      have e : j = n := by
        have := (List.getElem?_eq_some_iff.1 hx).1
        simp at this; omega
      subst e
      simp [hl] at hx
      subst hx; exact hp
theorem rngS_of_trod {H : Type} {enc : TypeId × Value → H} {W : World} {A : Option Addr} {n cap : Nat} {d : DataW H} {p : List MemPlace} (h : DataW.Trod enc Try.prog W 0 (fun _ => true) true 22 (.slice A n cap) d p) :
    ∃ ks, RngS W W.heap.size A n ks := by
  obtain ⟨fuel, hf⟩ := h
  rcases open_slice Try.underlying22 hf with ⟨hcs, _⟩ | ⟨a, l, c, m, q, D, Pl, hcs, _, hl, hm, hmm, _, heach⟩
  · simp [Value.cells] at hcs
    obtain ⟨rfl, rfl, rfl⟩ := hcs
    exact ⟨[], RngS.nil _ _ _⟩
  · simp [Value.cells] at hcs
    obtain ⟨rfl, rfl, rfl⟩ := hcs
    have hnm : n ≤ m := by rw [hmm]; split <;> omega
    have hev : ∀ j, j < n → ∃ k : Rg, Fit1 k ∧ W.cell? (a.add (j * 2)) = some (.int .i64 k.1) ∧ W.cell? ((a.add (j * 2)).add 1) = some (.int .i64 k.2) := by
      intro j hj
      obtain ⟨cs', h1, h2⟩ := heach j (by omega)
      obtain ⟨x, y, rfl, hs⟩ := range_cells h2
      rw [Try.cellsR35] at h1
      obtain ⟨_, _, hcell⟩ := World.cells?_some h1
      have g0 := hcell 0 (by omega)
      have g1 := hcell 1 (by omega)
      refine ⟨(x, y), hs, ?_, ?_⟩
      · simpa [Addr.add] using g0
      · simpa using g1
    obtain ⟨ks, hkl, hkp⟩ := rng_list n hev
    refine ⟨ks, hkl.symm, ?_, ?_⟩
    · intro k hk
      obtain ⟨j, hj⟩ := List.mem_iff_getElem?.1 hk
      exact (hkp j k hj).1
    · intro hn
      obtain ⟨k0, _, g, _⟩ := hev 0 hn
      have hs : a.spot = none := World.cell?_spot g
      have hb := g
      replace hb : (a.add (0 * 2)).block < W.heap.size := by apply World.block_lt_of_cell?; exact g
      obtain ⟨b, off, sp⟩ := a
      simp at hs
      subst hs
      refine ⟨b, off, rfl, by simpa [Addr.add] using hb, fun j k hk => ?_⟩
      have az : ∀ q : Nat, (⟨b, off, none⟩ : Addr).add q = ⟨b, off + q, none⟩ := by
        intro q; unfold Addr.add; rcases Nat.eq_zero_or_pos q with h | h
        · subst h; simp
        · simp [Nat.ne_of_gt h]
      have h2 := (hkp j k hk).2
      rw [az] at h2
      refine ⟨h2.1, ?_⟩
      have h3 := h2.2
      simpa [Addr.add, Nat.add_assoc] using h3
end Go.Proofs.Ytahapkbapbgbiaa
