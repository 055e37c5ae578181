/- What the document's fresh returns for a kind of keys. Conditions: at most 1000000 names are used, and the free name is among the first 61. -/
import Derived.Test.YtkmfpkdcedfgfaaFreshKey
namespace Go.Proofs.Ytkmfpkdcedfgfaa
open Go.RowKit
theorem iterR_eq : ∀ j, j ≤ 60 → iterR lowA tailA j [97] = iterA j [97] := by
  have h : ∀ j : Fin 61, iterR lowA tailA j.1 [97] = iterA j.1 [97] := by decide +kernel
  exact fun j hj => h ⟨j, by omega⟩
theorem refFreshK (kind : Int) (A : Option Addr) (n cap : Nat) (ss : List ByteArray) (ks : List (Int × ByteArray)) (r : Int) (t : List UInt8) (w : World) (hS : StrS w w.heap.size A n ss) (hn : n ≤ 1000000) (hl : lists ss = textsOf kind ks) (hk : kind = 0 ∨ kind = 1) (hFK : FK kind ks r t) :
    r = kind ∧ Calls Try.prog 39 #[.int .i64 kind, .slice A n cap] w fun e w' => e = .returned (.string ⟨t.toArray⟩) ∧ Below w.heap.size w w' := by
  rcases hFK with ⟨rfl, rfl, N, hN, rfl, hin, hout⟩ | ⟨rfl, rfl, N, hN, rfl, hin, hout⟩ | ⟨h1, h2, _⟩
  · rw [← hl] at hin hout
    refine ⟨rfl, ?_⟩
    have h := refFresh0 A n cap N ss w hS hn (fun j hj => by rw [iterR_eq j (by omega)]; exact iterA_len j (by omega)) (fun j hj => by rw [iterR_eq j (by omega)]; exact hin j hj) (by rw [iterR_eq N hN]; exact hout)
    rw [iterR_eq N hN] at h
    exact h
  · rw [← hl] at hin hout
    exact ⟨rfl, refFresh1 A n cap N ss w hS hn hN hin hout⟩
  · omega
end Go.Proofs.Ytkmfpkdcedfgfaa
