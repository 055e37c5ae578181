/- A slice of keys that comes in, as the walks take it. -/
import Derived.Test.YtjinngobiefifaaDoorRowKit
import Derived.Test.YtjinngobiefifaaDoorFreshKey
import Derived.Deep.Slices
namespace Go.Proofs.YtjinngobiefifaaDoor
open Go.ChangeShapes Go.WideShapes Go.ChangeAt Go.RowKit Go.Joins Go.Deep
theorem key_cells {H : Type} {enc : TypeId × Value → H} {W : World} {fuel : Nat} {cs : List Value} {x : DataW H × List MemPlace} (h : DataW.trod enc Tryd.prog W 0 (fun _ => true) true fuel 23 cs = some x) :
    ∃ (k : Int) (s : ByteArray), cs = [.int .i64 k, .string s] ∧ s.size ≤ maxLen := by
  obtain ⟨y0, y1, n, _, hl, h0, h1⟩ := trod_struct2 Tryd.underlying23 h
  rw [Tryd.cells23] at hl
  match cs, hl with
  | [c0, c1], _ =>
    obtain ⟨k, e0, _, _⟩ := DataW.trod_int Tryd.underlying3 h0
    obtain ⟨s, e1, _, hs⟩ := DataW.trod_string Tryd.underlying9 h1
    have c3 : Tryd.prog.cellsOf 3 = 1 := by kernel_rfl
    have c9 : Tryd.prog.cellsOf 9 = 1 := by kernel_rfl
    simp [c3] at e0
    simp [c9] at e1
    subst e0 e1
    exact ⟨k, s, rfl, hs⟩
theorem keys_list {P : Nat → Int × ByteArray → Prop} : ∀ n, (∀ j, j < n → ∃ k, P j k) → ∃ ks : List (Int × ByteArray), ks.length = n ∧ ∀ j k, ks[j]? = some k → P j k
  | 0, _ => ⟨[], rfl, by simp⟩
  | n + 1, h => by
    obtain ⟨ks, hl, hk⟩ := keys_list n (fun j hj => h j (by omega))
    obtain ⟨k, hp⟩ := h n (by omega)
    refine ⟨ks ++ [k], by simp [hl], fun j x hx => ?_⟩
    by_cases hj : j < n
    · rw [List.getElem?_append_left (by omega)] at hx
      exact hk j x hx
    · rw [List.getElem?_append_right (by omega)] at hx
      have e : j = n := by
        have := (List.getElem?_eq_some_iff.1 hx).1
        simp at this; omega
      subst e
      simp [hl] at hx
      subst hx; exact hp
theorem keyS_of_trod {H : Type} {enc : TypeId × Value → H} {W : World} {A : Option Addr} {n cap : Nat} {d : DataW H} {p : List MemPlace} (h : DataW.Trod enc Tryd.prog W 0 (fun _ => true) true 46 (.slice A n cap) d p) :
    ∃ ks, KeyS W W.heap.size A n ks ∧ n ≤ 9223372036854775807 := by
  obtain ⟨fuel, hf⟩ := h
  rcases open_slice Tryd.underlying46 hf with ⟨hcs, _⟩ | ⟨a, l, c, m, q, D, Pl, hcs, _, hl, hm, hmm, _, heach⟩
  · simp [Value.cells] at hcs
    obtain ⟨rfl, rfl, rfl⟩ := hcs
    exact ⟨[], ⟨rfl, by simp, fun h => by omega⟩, by omega⟩
  · simp [Value.cells] at hcs
    obtain ⟨rfl, rfl, rfl⟩ := hcs
    have hnm : n ≤ m := by rw [hmm]; split <;> omega
    have hc23 : Tryd.prog.cellsOf 23 = 2 := Tryd.cells23
    have hev : ∀ j, j < n → ∃ k : Int × ByteArray, k.2.size ≤ maxLen ∧ W.cell? (a.add (j * 2)) = some (.int .i64 k.1) ∧ W.cell? ((a.add (j * 2)).add 1) = some (.string k.2) := by
      intro j hj
      obtain ⟨cs', h1, h2⟩ := heach j (by omega)
      obtain ⟨k, s, rfl, hs⟩ := key_cells h2
      rw [hc23] at h1
      obtain ⟨_, _, hcell⟩ := World.cells?_some h1
      have g0 := hcell 0 (by omega)
      have g1 := hcell 1 (by omega)
      refine ⟨(k, s), hs, ?_, ?_⟩
      · simpa [Addr.add] using g0
      · simpa using g1
    obtain ⟨ks, hkl, hkp⟩ := keys_list n hev
    have hmx : maxLen = 9223372036854775807 := by kernel_rfl
    refine ⟨ks, ⟨hkl.symm, ?_, ?_⟩, by omega⟩
    · intro k hk
      obtain ⟨j, hj⟩ := List.mem_iff_getElem?.1 hk
      exact (hkp j k hj).1
    · intro hn
      obtain ⟨k0, _, g, _⟩ := hev 0 hn
      have hs : a.spot = none := World.cell?_spot g
      have hb := g
      replace hb : (a.add (0 * 2)).block < W.heap.size := by apply World.block_lt_of_cell?; exact g
      obtain ⟨b, off, sp⟩ := a
      simp at hs
      subst hs
      refine ⟨b, off, rfl, by simpa [Addr.add] using hb, fun j k hk => ?_⟩
      have az : ∀ q : Nat, (⟨b, off, none⟩ : Addr).add q = ⟨b, off + q, none⟩ := by
        intro q; unfold Addr.add; rcases Nat.eq_zero_or_pos q with h | h
        · subst h; simp
        · simp [Nat.ne_of_gt h]
      have h2 := (hkp j k hk).2
      rw [az] at h2
      refine ⟨h2.1, ?_⟩
      have h3 := h2.2
      simpa [Addr.add, Nat.add_assoc] using h3
end Go.Proofs.YtjinngobiefifaaDoor
