/- What the laws' walks share. -/
import Derived.Test.YtahapkbapbgbiaaValid
import Derived.Test.YtahapkbapbgbiaaAwake
namespace Go.Proofs.Ytahapkbapbgbiaa
open Go.RowKit
theorem nf_eq {m : List Rg} {P : Int → Prop} (h1 : m = nfOf P) {Q : Int → Prop} (h : ∀ x, P x ↔ Q x) : m = nfOf Q := by rw [h1, nfOf_congr h]
theorem nfB_of {m : List Rg} (h : Nf m) : nfB m = true := by unfold nfB; simpa using h
theorem hasB_congr {a b : List Rg} {x : Int} (h : hasI a x ↔ hasI b x) : hasB a x = hasB b x := by
  rw [Bool.eq_iff_iff, hasB_iff, hasB_iff]; exact h
theorem step_on {B a b : World} (h : Below B.heap.size B a) (k : Below a.heap.size a b) : Below B.heap.size B b := h.trans (k.mono h.size)
theorem kept_from {w : World} {A : Option Addr} {n : Nat} {m : List Rg} (h : RngS w w.heap.size A n m) : ∀ w', Below w.heap.size w w' → RngS w' w'.heap.size A n m := fun _ hb => h.kept hb hb.size
theorem same_as (A A' : Option Addr) (n n' cap cap' : Nat) (rs rs' : List Rg) (b : Bool) (w : World) (hR : RngS w w.heap.size A n rs) (hR' : RngS w w.heap.size A' n' rs') (hn : n ≤ 1000000) (hn' : n' ≤ 1000000) (h : decide (rs = rs') = b) :
    Calls Try.prog 14 #[.slice A n cap, .slice A' n' cap'] w fun e w' => e = .returned (.bool b) ∧ Below w.heap.size w w' := by
  have := same_any A A' n n' cap cap' rs rs' w _ _ hR hR' (by omega) (by omega)
  rw [h] at this
  exact this.mono fun e w' ⟨he, q, hw⟩ => ⟨he, by rw [hw]; exact below_drewN (Below.refl _ _) q⟩
theorem same_yes (A A' : Option Addr) (n n' cap cap' : Nat) (rs rs' : List Rg) (w : World) (hR : RngS w w.heap.size A n rs) (hR' : RngS w w.heap.size A' n' rs') (hn : n ≤ 1000000) (hn' : n' ≤ 1000000) (h : rs = rs') :
    Calls Try.prog 14 #[.slice A n cap, .slice A' n' cap'] w fun e w' => e = .returned (.bool true) ∧ Below w.heap.size w w' :=
  same_as A A' n n' cap cap' rs rs' true w hR hR' hn hn' (by rw [decide_eq_true_eq]; exact h)
theorem valid_yes (A : Option Addr) (n c : Nat) (m : List Rg) (w : World) (hR : RngS w w.heap.size A n m) (hn : n ≤ 1000000) (h : Nf m) :
    Calls Try.prog 10 #[.slice A n c] w fun e w' => e = .returned (.bool true) ∧ Below w.heap.size w w' := by
  have := valid_any A n c m w hR (by omega)
  rwa [nfB_of h] at this
theorem contains_as (A : Option Addr) (n c : Nat) (m : List Rg) (x : Int) (b : Bool) (w : World) (hR : RngS w w.heap.size A n m) (hn : n ≤ 1000000) (h : hasB m x = b) :
    Calls Try.prog 11 #[.slice A n c, .int .i64 x] w fun e w' => e = .returned (.bool b) ∧ Below w.heap.size w w' := by
  have := contains_any A n c m x w hR (by omega)
  rwa [h] at this
theorem hasInt_as (A : Option Addr) (n c : Nat) (m : List Rg) (x : Int) (b : Bool) (w : World) (hR : RngS w w.heap.size A n m) (hn : n ≤ 1000000) (h : hasB m x = b) :
    Calls Try.prog 12 #[.slice A n c, .int .i64 x] w fun e w' => e = .returned (.bool b) ∧ w = w' := by
  have := hasInt_any A n c m x w _ hR (by omega)
  rwa [h] at this
theorem no_member {m : List Rg} (h : Nf m) (hm : ∀ x, ¬ hasI m x) : m = [] := by
  cases m with
  | nil => rfl
  | cons r l => exact absurd ((hasI_cons r l r.1).2 (.inl ⟨Int.le_refl _, h.1 r (by simp)⟩)) (hm _)
theorem eq_of_mem {a b : List Rg} (ha : Nf a) (hb : Nf b) (h : ∀ x, hasI a x ↔ hasI b x) : a = b := nf_unique a b ha hb h
end Go.Proofs.Ytahapkbapbgbiaa
