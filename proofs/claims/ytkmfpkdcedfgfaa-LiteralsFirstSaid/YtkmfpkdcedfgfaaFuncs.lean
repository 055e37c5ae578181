/- What the small functions of combine return: the tests, and whether a sorted list holds a string. -/
import Derived.Test.YtkmfpkdcedfgfaaHeld
import Derived.Shelf.SlSortCmp.QuietGrown
namespace Go.Proofs.Ytkmfpkdcedfgfaa
open Go.RowKit Go.Sort
set_option maxHeartbeats 400000 in
theorem union1_any (a b : Bool) (w : World) : Calls Try.prog 31 #[.bool a, .bool b] w fun e w' => e = .returned (.bool (a || b)) ∧ w = w' := by
  cases a
  all_goals
    go_enter Try.func31, Try.ntmps31
    go_wp2
    go_ret
    exact ⟨ret_bool (by simp), rfl⟩
set_option maxHeartbeats 400000 in
theorem inter1_any (a b : Bool) (w : World) : Calls Try.prog 32 #[.bool a, .bool b] w fun e w' => e = .returned (.bool (a && b)) ∧ w = w' := by
  cases a
  all_goals
    go_enter Try.func32, Try.ntmps32
    go_wp2
    go_ret
    exact ⟨ret_bool (by simp), rfl⟩
set_option maxHeartbeats 400000 in
theorem sub1_any (a b : Bool) (w : World) : Calls Try.prog 35 #[.bool a, .bool b] w fun e w' => e = .returned (.bool (a && !b)) ∧ w = w' := by
  cases a
  all_goals
    go_enter Try.func35, Try.ntmps35
    go_wp2
    go_ret
    exact ⟨ret_bool (by simp), rfl⟩
set_option maxRecDepth 100000 in
set_option maxHeartbeats 1600000 in
theorem sortedContains_any (co : Bool) (A : Option Addr) (n c : Nat) (m : List Strg) (x : Strg) (w : World) (B : Nat) (hR : NmS w B A n m) (hB : B ≤ w.heap.size) (ha : Asc m) (hn : n ≤ 1000000000) :
    Calls Try.prog 46 #[.agg #[.bool co, .slice A n c], .string ⟨x.toArray⟩] w fun e w' => e = .returned (.bool (inN co m x)) ∧ ∃ q os', w' = grow (w.drewN q) os' := by
  have hb0 : Below w.heap.size w (w.alloc (.cells #[.bool co, .slice A n c] 45)) := (Below.refl _ _).alloc (Nat.le_refl _) _
  have hbs := bsearch_any A n c m x (w.alloc (.cells #[.bool co, .slice A n c] 45)) B (hR.below (hb0.mono hB)) ha hn
  have HT : Hid (inN co m x = (decide (x ∈ m) != co)) := Lib.hid rfl
  clear hR hb0
  generalize decide (x ∈ m) = d at hbs HT
  go_enter Try.func46, Try.ntmps46
  go_wp2_with (go_at_call 57; refine hbs.mono ?_; rintro e w1 ⟨k, rfl, q, rfl⟩; refine Hid.out ?_)
  refine Lib.hid ?_
  go_wp2
  go_ret
  exact ⟨ret_bool (by rw [HT.out]; rfl), q, #[.cells #[.bool co, .slice A n c] 45 (0, 0)], by rw [alloc_eq_grow]; rfl⟩
/-- blocks below B but r are as they were -/
structure KeepX (B r : Nat) (w w' : World) : Prop where
  os : w'.os = w.os
  tape : w'.tape = w.tape
  output : w'.output = w.output
  size : w.heap.size ≤ w'.heap.size
  block : ∀ k, k < B → k ≠ r → w'.heap[k]? = w.heap[k]?
theorem KeepX.refl (B r : Nat) (w : World) : KeepX B r w w := ⟨rfl, rfl, rfl, Nat.le_refl _, fun _ _ _ => rfl⟩
theorem KeepX.below {B r : Nat} {w w1 w2 : World} (h : KeepX B r w w1) (hb : Below B w1 w2) : KeepX B r w w2 :=
  ⟨hb.os.trans h.os, hb.tape.trans h.tape, hb.output.trans h.output, Nat.le_trans h.size hb.size, fun k hk hr => (hb.block k hk).trans (h.block k hk hr)⟩
theorem KeepX.set {B r : Nat} {w w1 : World} (h : KeepX B r w w1) (o : Nat) (x : Value) : KeepX B r w (w1.setCell ⟨r, o, none⟩ x) :=
  ⟨h.os, h.tape, h.output, by simpa [World.setCell] using h.size, fun k hk hr => (Below.heap_setCell _ _ _ _ (by exact hr)).trans (h.block k hk hr)⟩
theorem KeepX.nm {B r n : Nat} {A : Option Addr} {ss : List Strg} {w w' : World} (h : KeepX B r w w') (hR : NmS w B A n ss) (hne : ∀ b off, A = some ⟨b, off, none⟩ → b ≠ r) : NmS w' B A n ss :=
  ⟨hR.1, hR.2.1, fun hn => by
    obtain ⟨b, off, hA, hlt, hc⟩ := hR.2.2 hn
    exact ⟨b, off, hA, hlt, fun j s hs => (World.cell?_of_block (h.block b hlt (hne b off hA))).trans (hc j s hs)⟩⟩
theorem KeepX.low {B r : Nat} {w0 w w' : World} (h : KeepX B r w w') (hb : Below r w0 w) (hr : r ≤ B) : Below r w0 w' :=
  ⟨h.os.trans hb.os, h.tape.trans hb.tape, h.output.trans hb.output, Nat.le_trans hb.size h.size, fun k hk => (h.block k (by omega) (by omega)).trans (hb.block k hk)⟩
theorem OwnN.base {w : World} {B n c : Nat} {A : Option Addr} {ss : List Strg} (h : OwnN w B (.slice A n c) ss) : ∀ b off, A = some ⟨b, off, none⟩ → B ≤ b := by
  intro b off hA
  rcases h.2 with ⟨hv, _⟩ | ⟨g, cap, cur, hv, hB, _⟩
  · injection hv with e1 e2 e3
    rw [e1] at hA; cases hA
  · injection hv with e1 e2 e3
    rw [e1] at hA
    injection hA with hA
    injection hA with e _
    omega
theorem _root_.Go.Calls.grown_same {P : Program} {f : FuncId} {args : Array Value} {w : World} {n : Nat} {os : Array Obj} {v : Value}
    (h : Calls P f args (grow (w.drewN n) os) fun e w' => e = .returned v ∧ grow (w.drewN n) os = w') : Calls P f args (grow (w.drewN n) os) fun e w'' => e = .returned v ∧ ∃ p : GrownBy, w'' = grow (w.drewN p.n) p.os :=
  h.mono fun _ _ ⟨he, hq⟩ => ⟨he, ⟨n, os⟩, hq.symm⟩
end Go.Proofs.Ytkmfpkdcedfgfaa
