/- A region that draws its order: one relation on what has come up so far, the frame and the world, kept by every operation that may come up, serves all orders at once. No program is named. -/
import Derived.Deep.RegionHeld3
namespace Go.Proofs.YtplmbmecjhmiiaaDoor
open Go
theorem count_set {l : Array Bool} {i : Nat} (h : l.getD i true = false) : (l.setIfInBounds i true).toList.countP (· == false) + 1 = l.toList.countP (· == false) := by
  obtain ⟨l⟩ := l
  have hi : i < l.length := by
    rcases Nat.lt_or_ge i l.length with h' | h'
    · exact h'
    · simp [Array.getD, show ¬ i < l.length by omega] at h
  have hv : l[i] = false := by simpa [Array.getD, hi] using h
  simp only [List.setIfInBounds_toArray]
  induction l generalizing i with
  | nil => simp at hi
  | cons b l ih =>
    cases i with
    | zero =>
      simp only [List.getElem_cons_zero] at hv
      subst hv
      simp
    | succ i =>
      simp only [List.length_cons] at hi
      simp only [List.getElem_cons_succ] at hv
      have := ih (i := i) (by simp [Array.getD, show i < l.length by omega, hv]) (by omega) hv
      simp only [List.set_cons_succ, List.countP_cons]
      omega
/-- operation number i of a list that is written out -/
def nthOp : List Oper → Nat → Option Oper
  | [], _ => none
  | o :: _, 0 => some o
  | _ :: l, n + 1 => nthOp l n
theorem nthOp_eq : ∀ (l : List Oper) (i : Nat), l[i]? = nthOp l i
  | [], _ => by simp [nthOp]
  | _ :: _, 0 => by simp [nthOp]
  | _ :: l, n + 1 => by simpa [nthOp] using nthOp_eq l n
theorem op_at {l : List Oper} {i : Nat} {o : Oper} (h : nthOp l i = some o) : l.toArray[i]? = some o := by
  rw [List.getElem?_toArray, nthOp_eq]; exact h
theorem take_op {P : Program} {md : Region.Mode} {l : List Oper} {Q : Exit → Act → World → Prop} {S : World → Prop} {i : Nat} {oi : Oper} {v : Value} {fuel : Nat} {listed : Array Bool} {a : Act} {w : World} (hi : nthOp l i = some oi)
    (hs : Region.noSelect l.toArray = true) (hf : Region.free md l.toArray listed i = true) (hr : (Region.ready md l.toArray listed).contains i = true)
    (hQ : ∀ c a w, Q (.panic c) (a.put oi.dst v) w → Q (.panic c) a w) (hy : YieldsIf P l.toArray S oi v a) (hS : S w)
    (h : wpAnyH P md l.toArray Q S fuel (listed.setIfInBounds i true) (a.put oi.dst v) w) : wpAnyH P md l.toArray Q S (fuel + 1) listed a w :=
  wpAnyH_take (op_at hi) hs hf hr hQ hy hS h
/-- take_op, its side goals closed by the usual tactics -/
theorem tk {P : Program} {md : Region.Mode} {l : List Oper} {Q : Exit → Act → World → Prop} {S : World → Prop} (i : Nat) {oi : Oper} {v : Value} {fuel : Nat} {listed : Array Bool} {a : Act} {w : World} (hS : S w)
    (h : wpAnyH P md l.toArray Q S fuel (listed.setIfInBounds i true) (a.put oi.dst v) w)
    (hi : nthOp l i = some oi := by exact rfl) (hs : Region.noSelect l.toArray = true := by kernel_rfl) (hf : Region.free md l.toArray listed i = true := by kernel_rfl) (hr : (Region.ready md l.toArray listed).contains i = true := by kernel_rfl)
    (hQ : ∀ c a w, Q (.panic c) (a.put oi.dst v) w → Q (.panic c) a w := by exact fun _ _ _ h => h) (hy : YieldsIf P l.toArray S oi v a := by exact Or.inl ⟨by rfl, (by intro w hSw; (try dsimp only at hSw); go_simp; try with_reducible rfl)⟩) : wpAnyH P md l.toArray Q S (fuel + 1) listed a w :=
  take_op hi hs hf hr hQ hy hS h
/-- .. where the operation is skipped -/
theorem tu {P : Program} {md : Region.Mode} {l : List Oper} {Q : Exit → Act → World → Prop} {S : World → Prop} (i : Nat) {oi : Oper} {fuel : Nat} {listed : Array Bool} {a : Act} {w : World} (hS : S w)
    (h : wpAnyH P md l.toArray Q S fuel (listed.setIfInBounds i true) (a.put oi.dst undef) w)
    (hi : nthOp l i = some oi := by exact rfl) (hs : Region.noSelect l.toArray = true := by kernel_rfl) (hf : Region.free md l.toArray listed i = true := by kernel_rfl) (hr : (Region.ready md l.toArray listed).contains i = true := by kernel_rfl)
    (hQ : ∀ c a w, Q (.panic c) (a.put oi.dst undef) w → Q (.panic c) a w := by exact fun _ _ _ h => h) (hy : YieldsIf P l.toArray S oi undef a := by exact Or.inr ⟨by rfl, rfl⟩) : wpAnyH P md l.toArray Q S (fuel + 1) listed a w :=
  take_op hi hs hf hr hQ hy hS h
theorem pA {α : Type} (l : List α) (i : Nat) (a : α) : l.toArray.setIfInBounds i a = (l.set i a).toArray := List.setIfInBounds_toArray ..
theorem pB {α : Type} (x : α) (l : List α) (a : α) : (x :: l).set 0 a = a :: l := rfl
theorem pC {α : Type} (x : α) (l : List α) (n : Nat) (a : α) : (x :: l).set (n + 1) a = x :: l.set n a := rfl
theorem step_op {P : Program} {l : List Oper} {Q : Exit → Act → World → Prop} {i : Nat} {o : Oper} {K : Act → World → Prop} {a : Act} {w : World} (ho : nthOp l i = some o) (hw : Region.wanted o (yielded l.toArray a.tmps) = true)
    (h : ∀ K' : Act → World → Prop, (∀ a w, K a w → K' a w) → Oper.wp P o a w K' Q) : wpOp P l.toArray Q i K a w :=
  wpOp_step (op_at ho) fun K' hK => by rw [if_pos hw]; exact h K' hK
/-- one operation alone may come up -/
theorem one_op {P : Program} {md : Region.Mode} {l : List Oper} {Q : Exit → Act → World → Prop} {S : World → Prop} (i : Nat) {o : Oper} {fuel : Nat} {listed : Array Bool} {a : Act} {w : World} (hr : Region.ready md l.toArray listed = [i]) (ho : nthOp l i = some o)
    (hw : Region.wanted o (yielded l.toArray a.tmps) = true) (h : ∀ K' : Act → World → Prop, (∀ a' w', S w' → wpAnyH P md l.toArray Q S fuel (listed.setIfInBounds i true) a' w' → K' a' w') → Oper.wp P o a w K' Q) : wpAnyH P md l.toArray Q S (fuel + 1) listed a w := by
  refine wpAnyH_all (rs := [i]) hr (by simp) fun j hj => ?_
  obtain rfl : j = i := by simpa using hj
  exact step_op ho hw fun K' hK => h K' fun a w hS hW => hK a w ⟨hS, hW⟩
/-- every operation that may come up keeps the relation, and where nothing is left it gives what follows -/
theorem wpAnyH_inv {P : Program} {md : Region.Mode} {ops : Array Oper} {Q : Exit → Act → World → Prop} {S : World → Prop} (Inv : Array Bool → Act → World → Prop)
    (hend : ∀ listed a w, Inv listed a w → Region.ready md ops listed = [] → Q .normal a w)
    (hstep : ∀ listed a w i, Inv listed a w → i ∈ Region.ready md ops listed → wpOp P ops Q i (fun a' w' => S w' ∧ Inv (listed.setIfInBounds i true) a' w') a w) :
    ∀ fuel listed a w, Inv listed a w → listed.toList.countP (· == false) ≤ fuel → wpAnyH P md ops Q S fuel listed a w
  | 0, listed, a, w, h, hc => by
    have hr : Region.ready md ops listed = [] := by
      rw [List.eq_nil_iff_forall_not_mem]
      intro i hi
      have := count_set (mem_ready.1 hi).1
      omega
    exact ⟨hr, hend listed a w h hr⟩
  | fuel + 1, listed, a, w, h, hc => by
    refine ⟨hend listed a w h, fun i hi => ?_⟩
    refine wpOp_mono (fun a' w' ⟨hS, h'⟩ => ⟨hS, wpAnyH_inv Inv hend hstep fuel _ a' w' h' ?_⟩) (hstep listed a w i h hi)
    have := count_set (mem_ready.1 hi).1
    omega
/-- the same, what has come up so far told by b; which operations may come up is reckoned ahead -/
theorem wpAnyH_par {P : Program} {md : Region.Mode} {ops : Array Oper} {Q : Exit → Act → World → Prop} {S : World → Prop} {Bs : Type} (L : Bs → Array Bool) (chk : Bs → Nat → Bool) (full : Bs → Bool)
    (hkey : ∀ b, (Region.ready md ops (L b)).all (chk b) = true) (hfull : ∀ b, (Region.ready md ops (L b)).isEmpty = true → full b = true) (Inv : Bs → Act → World → Prop)
    (hend : ∀ b a w, full b = true → Inv b a w → Q .normal a w)
    (hstep : ∀ b a w i, Inv b a w → chk b i = true → wpOp P ops Q i (fun a' w' => S w' ∧ ∃ b', L b' = (L b).setIfInBounds i true ∧ Inv b' a' w') a w)
    {fuel : Nat} {listed : Array Bool} {a : Act} {w : World} (b : Bs) (hl : listed = L b) (hc : listed.toList.countP (· == false) ≤ fuel) (h : Inv b a w) : wpAnyH P md ops Q S fuel listed a w := by
  refine wpAnyH_inv (Inv := fun l a w => ∃ b, l = L b ∧ Inv b a w) ?_ ?_ fuel listed a w ⟨b, hl, h⟩ hc
  · rintro l a w ⟨b, rfl, h⟩ hr
    exact hend b a w (hfull b (by rw [hr]; rfl)) h
  · rintro l a w i ⟨b, rfl, h⟩ hi
    refine wpOp_mono (fun a' w' ⟨hS, b', hb', h'⟩ => ⟨hS, b', hb'.symm, h'⟩) (hstep b a w i h (List.all_eq_true.1 (hkey b) i hi))
end Go.Proofs.YtplmbmecjhmiiaaDoor
