/- Lists and tuples of valid values: valid again, as deep as their shape says; what Elements finds in them. -/
import Derived.Test.YtpgnkfobgjplmaaGreatVb00
import Derived.Test.YtpgnkfobgjplmaaGreatVb01
import Derived.Test.YtpgnkfobgjplmaaGreatVb29
import Derived.Test.YtpgnkfobgjplmaaGreatVb31
import Derived.Test.YtpgnkfobgjplmaaGreatVb36
import Derived.Test.YtpgnkfobgjplmaaGreatVb38
namespace Go.Proofs.YtpgnkfobgjplmaaGreat
open Go Go.RowKit
theorem elemsF_list : ∀ {l : List Vl} {K : Nat}, l.length < K → elemsF K (listV l) = some l
  | [], K + 1, _ => by simp [elemsF, listV, nilV]
  | a :: s, K + 1, h => by
    have := elemsF_list (l := s) (K := K) (by simpa using h)
    simp only [listV, List.foldr_cons, consV, elemsF, if_true]
    simp only [listV] at this
    rw [this]; rfl
theorem elemsF_text (n : Int) (s : List UInt8) : ∀ K : Nat, elemsF K (consV (intV n) (.mk 2 0 s [] [] [] [])) = none
  | 0 => rfl
  | 1 => rfl
  | K + 2 => by simp [elemsF, consV]
theorem okV_list : ∀ {l : List Vl}, (∀ x ∈ l, okV x = true) → okV (listV l) = true ∧ (kindOf (listV l) = 5 ∨ kindOf (listV l) = 7)
  | [], _ => ⟨by simp [listV, nilV, okV, labelsB, AscC, usesB, kindB, okVs, okEs], .inl rfl⟩
  | a :: s, h => by
    have h1 := h a (by simp)
    obtain ⟨h2, h3⟩ := okV_list (l := s) fun x hx => h x (by simp [hx])
    refine ⟨?_, .inr rfl⟩
    show okV (consV a (listV s)) = true
    simp only [consV, okV, okVs, okEs, h1, h2]
    rcases h3 with h3 | h3 <;> simp [labelsB, AscC, usesB, kindB, consB, h3]
theorem sml_list : ∀ {l : List Vl}, smlVs l → sml (listV l)
  | [], _ => ⟨by simp, by simp, by simp, by simp, by simp [smlVs], by simp [smlEs]⟩
  | a :: s, h => ⟨by simp, by simp, by simp, by simp, ⟨h.1, sml_list h.2, trivial⟩, by simp [smlEs]⟩
theorem dep_list {k : Nat} : ∀ {l : List Vl}, (∀ x ∈ l, dep x ≤ k) → dep (listV l) ≤ k + l.length + 1
  | [], _ => by simp [listV, nilV, dep, depVs, depEs]
  | a :: s, h => by
    have h1 := h a (by simp)
    have h2 := dep_list (l := s) fun x hx => h x (by simp [hx])
    show dep (consV a (listV s)) ≤ _
    simp only [consV, dep, depVs, depEs, List.length_cons]
    omega
theorem okV_tup {l : List Vl} (h : ∀ x ∈ l, okV x = true) (hn : l.length ≤ 4) : okV (tupV l) = true := by
  have : okVs l = true := by rw [okVs_all, List.all_eq_true]; exact h
  simp [okV, tupV, labelsB, AscC, usesB, kindB, okEs, this]; omega
/-- a row of values in a later world, its length by name -/
theorem rowVS_onN {k : Nat} {w V : World} {A : Option Addr} {c n : Nat} {l : List Vl} (hV : Below w.heap.size w V) (h : RowP w w.heap.size 7 (.slice A n c) n (fun j cs => ∃ x, l[j]? = some x ∧ VS k w w.heap.size x cs)) : RowP V V.heap.size 7 (.slice A n c) n (fun j cs => ∃ x, l[j]? = some x ∧ VS k V V.heap.size x cs) :=
  (h.on hV fun _ _ ⟨x, h1, h2⟩ => ⟨x, h1, VS.up hV.size (Nat.le_refl _) (VS.on hV h2)⟩).mono hV.size fun _ _ h => h
theorem row_dep {k n : Nat} {w : World} {B : Nat → Prop} {u : Value} {l : List Vl} (h : RowB w B 7 u n (fun j cs => ∃ x, l[j]? = some x ∧ VB k w B x cs)) (hn : l.length = n) : ∀ x ∈ l, dep x ≤ k :=
  mem_of_row fun j hj => by
    obtain ⟨cs, x, hx, hv⟩ := h.elem (hn ▸ hj)
    exact ⟨x, hx, hv.dep_le⟩
/-- a slice of slices of integers, as it comes in -/
def RowII (w : World) (A : Option Addr) (n c : Nat) : Prop :=
  RowP w w.heap.size 1 (.slice A n c) n (fun _ cs => ∃ A' n' c', cs = [.slice A' n' c'] ∧ RowP w w.heap.size 1 (.slice A' n' c') n' (fun _ cs => ∃ x, cs = [.int .i64 x] ∧ (Lit.int .i64 x).wf = true))
/-- what drawn returns -/
def DrawnOk : Prop := ∀ (A : Option Addr) (n c : Nat) (w : World), RowP w w.heap.size 1 (.slice A n c) n (fun _ cs => ∃ x, cs = [.int .i64 x] ∧ (Lit.int .i64 x).wf = true) → n ≤ maxLen →
    Calls Tryz.prog 10 #[.slice A n c] w fun e w' => ∃ v cs, e = .returned (.agg cs.toArray) ∧ VB 4 w' (Btw w.heap.size w'.heap.size) v cs ∧ okV v = true ∧ sml v ∧ Below w.heap.size w w'
end Go.Proofs.YtpgnkfobgjplmaaGreat
namespace Go.Proofs.YtpgnkfobgjplmaaGreat
open Go.ChangeShapes Go.WideShapes Go.ChangeAt Go.RowKit Go.Joins Go.Deep
set_option maxRecDepth 100000 in
theorem rowI_of {H : Type} {enc : TypeId × Value → H} {W : World} {fuel : Nat} {u : Value} {x : DataW H × List MemPlace} (hf : DataW.trod enc Tryz.prog W 0 (fun _ => true) true fuel 28 [u] = some x) :
    ∃ A n c, u = .slice A n c ∧ RowP W W.heap.size 1 (.slice A n c) n (fun _ cs => ∃ x, cs = [.int .i64 x] ∧ (Lit.int .i64 x).wf = true) := by
  obtain ⟨l, hl⟩ := open_row (α := Int) (fun x cs => cs = [.int .i64 x] ∧ (Lit.int .i64 x).wf = true) Tryz.underlying28 (show Tryz.prog.cellsOf 3 = 1 by kernel_rfl) (by omega) hf (fun m cs z _ hz => by
    obtain ⟨i, e, _, wi⟩ := DataW.trod_int Tryz.underlying3 hz
    exact ⟨i, e, wi⟩)
  obtain ⟨A, c, hu, _⟩ := hl.form
  subst hu
  exact ⟨A, l.length, c, rfl, RowB.sub hl (fun _ h => h) (fun _ _ ⟨x, _, hx⟩ => ⟨x, hx⟩)⟩
set_option maxRecDepth 100000 in
theorem rowI_of_trod {H : Type} {enc : TypeId × Value → H} {W : World} {A : Option Addr} {n c : Nat} {d : DataW H} {p : List MemPlace} (h : DataW.Trod enc Tryz.prog W 0 (fun _ => true) true 28 (.slice A n c) d p) :
    RowP W W.heap.size 1 (.slice A n c) n (fun _ cs => ∃ x, cs = [.int .i64 x] ∧ (Lit.int .i64 x).wf = true) := by
  obtain ⟨fuel, hf⟩ := h
  have hf' : DataW.trod enc Tryz.prog W 0 (fun _ => true) true fuel 28 [.slice A n c] = some (d, p) := hf
  obtain ⟨A', n', c', hu, hR⟩ := rowI_of hf'
  injection hu with e1 e2 e3
  subst e1 e2 e3
  exact hR
set_option maxRecDepth 100000 in
theorem rowII_of_trod {H : Type} {enc : TypeId × Value → H} {W : World} {A : Option Addr} {n c : Nat} {d : DataW H} {p : List MemPlace} (h : DataW.Trod enc Tryz.prog W 0 (fun _ => true) true 35 (.slice A n c) d p) : RowII W A n c := by
  obtain ⟨fuel, hf⟩ := h
  have hf' : DataW.trod enc Tryz.prog W 0 (fun _ => true) true fuel 35 [.slice A n c] = some (d, p) := hf
  obtain ⟨l, hl⟩ := open_row (α := Unit) (fun _ cs => ∃ A' n' c', cs = [.slice A' n' c'] ∧ RowP W W.heap.size 1 (.slice A' n' c') n' (fun _ cs => ∃ x, cs = [.int .i64 x] ∧ (Lit.int .i64 x).wf = true)) Tryz.underlying35 (show Tryz.prog.cellsOf 28 = 1 by kernel_rfl) (by omega) hf' (fun m cs z _ hz => by
    have hz' := hz
    rcases DataW.trod_slice Tryz.underlying28 hz with ⟨h0, _⟩ | ⟨a, len, cap, elems, rest, m, _, hcs, _⟩
    · subst h0
      obtain ⟨A', n', c', hu, hR⟩ := rowI_of hz'
      exact ⟨(), A', n', c', by rw [hu], hR⟩
    · subst hcs
      obtain ⟨A', n', c', hu, hR⟩ := rowI_of hz'
      exact ⟨(), A', n', c', by rw [hu], hR⟩)
  obtain ⟨A', c', hu, _⟩ := hl.form
  injection hu with e1 e2 e3
  subst e1 e2 e3
  exact RowB.sub hl (fun _ h => h) (fun _ _ ⟨_, _, hx⟩ => hx)
theorem str_of (s : ByteArray) : ∃ x : List UInt8, s = ⟨x.toArray⟩ := ⟨s.data.toList, (str_cell s).symm⟩
end Go.Proofs.YtpgnkfobgjplmaaGreat
