/- Bytes that the call appends to a slice of its own. -/
import Derived.Test.YtkmfpkdcedfgfaaNames
import Derived.Deep.AppendLies
import Derived.Deep.RegionLaw
import Derived.Lib.BufferWrite
namespace Go.Proofs.Ytkmfpkdcedfgfaa
open Go.RowKit
theorem Try.infoU8 : (Try.prog.info? 5).map (fun i => (i.zero, i.size, i.bytes)) = some (some (.int .u8 0), 1, 1) := by kernel_rfl
/-- The slice v of bytes owns the bytes l, in a block from B on. -/
def OwnB (w : World) (B : Nat) (v : Value) (l : List UInt8) : Prop := w.ownsRow B 5 1 v l.length (Lib.byteCells l)
theorem OwnB.drewN {w : World} {B : Nat} {v : Value} {l : List UInt8} (h : OwnB w B v l) (n : Nat) : OwnB (w.drewN n) B v l := h
theorem OwnB.below {w0 w1 : World} {B : Nat} {v : Value} {l : List UInt8} {o : Obj} (h : OwnB w0 B v l) (hb : B ≤ w0.heap.size) (hg : (w0.alloc o).grownBy w1 v.ownBlock) : Below B w0 w1 :=
  ((Below.refl B w0).alloc hb o).grown hg (by simp; omega) (fun j hj => (h.lt j hj).1)
theorem wp_app_u8 {ops : Array Oper} {rest : List Oper} {o : Oper} {a : Act} {Q : Exit → Act → World → Prop} {w0 : World} (hgd : o.guard = none) (s x : Operand)
    (ho : o.op = .call { callee := .builtin .append, args := #[s, x], argTypes := #[61, 61] }) (B : Nat) (v : Value) (l : List UInt8) (hs : a.eval s = v) (hown : OwnB w0 B v l)
    (l' : List UInt8) (m c : Nat) (hm : l'.length = m) (cells : Array Value) (hc : cells.toList = Lib.byteCells l') (hx : a.eval x = .slice (some ⟨w0.heap.size, 0, none⟩) m c)
    (hbytes : l.length + m ≤ 140737488355328) (hbase : B ≤ w0.heap.size)
    (h : ∀ v' w', OwnB w' B v' (l ++ l') → Below B w0 w' → wpList Try.prog ops Q rest (a.put o.dst v') w') :
    wpList Try.prog ops Q (o :: rest) a (w0.alloc (.cells cells 5)) := by
  obtain ⟨i0, hi, hz0, hz1, hz2⟩ := info_parts Try.infoU8
  subst hm
  refine wpList_append_own _ hgd s x 61 ho B 5 i0 (.int .u8 0) 1 1 Try.underlying61 hi hz0 hz1 hz2 rfl (by decide) v l.length (Lib.byteCells l) hs (World.ownsRow.alloc hown _)
    ⟨w0.heap.size, 0, none⟩ l'.length c (Lib.byteCells l') hx (by simp [Lib.byteCells]) ?_ (Lib.byteCells_one _) (by unfold maxLen; omega) (by omega) (by simp; omega) ?_
  · rw [← hc]; exact World.news_of_block (heap_alloc_new w0 _)
  · intro v' w' h1 h2 _
    exact h v' w' (by unfold OwnB; rw [List.length_append, Lib.byteCells_append]; exact h1) (hown.below hbase h2)
theorem step_app_u8 {ops : Array Oper} {o : Oper} {a : Act} {K : Act → World → Prop} {Q : Exit → Act → World → Prop} {E : Prop} {w0 : World} (hgd : o.guard = none) (s x : Operand)
    (ho : o.op = .call { callee := .builtin .append, args := #[s, x], argTypes := #[61, 61] }) (B : Nat) (v : Value) (l : List UInt8) (hs : a.eval s = v) (hown : OwnB w0 B v l)
    (l' : List UInt8) (m c : Nat) (hm : l'.length = m) (hm0 : 0 < m) (cells : Array Value) (hc : cells.toList = Lib.byteCells l') (hx : a.eval x = .slice (some ⟨w0.heap.size, 0, none⟩) m c)
    (hbytes : l.length + m ≤ 140737488355328) (hbase : B ≤ w0.heap.size)
    (h : ∀ v' w', OwnB w' B v' (l ++ l') → Below B w0 w' → K (a.put o.dst v') w') :
    if Region.wanted o (yielded ops a.tmps) = true then Oper.wp Try.prog o a (w0.alloc (.cells cells 5)).drew K Q else E := by
  obtain ⟨i0, hi, hz0, hz1, hz2⟩ := info_parts Try.infoU8
  subst hm
  have ho1 : (w0.alloc (.cells cells 5)).drew.ownsRow B 5 1 v l.length (Lib.byteCells l) := World.ownsRow.alloc hown _
  refine step_append_lies _ hgd s x 61 ho B 5 i0 (.int .u8 0) 1 1 Try.underlying61 hi hz0 hz1 hz2 rfl (by decide) v l.length (Lib.byteCells l) hs ho1
    ⟨w0.heap.size, 0, none⟩ l'.length c (Lib.byteCells l') hx (by simp [Lib.byteCells]) ?_ (Lib.byteCells_one _) hm0 (by unfold maxLen; omega) (by omega) (by simp; omega) _ rfl ?_
  · rw [← hc]; exact World.news_of_block (w := (w0.alloc (.cells cells 5)).drew) (heap_alloc_new w0 _)
  · intro g cap w' h1 h2 _ _
    exact h _ w' (by unfold OwnB; rw [List.length_append, Lib.byteCells_append]; exact h1)
      ((((Below.refl B w0).alloc hbase _).drew).grown h2 (by simp; omega) (fun j hj => (hown.lt j hj).1))
theorem OwnB.lit (w : World) (B : Nat) (hB : B ≤ w.heap.size) (l : List UInt8) (cells : Array Value) (n : Nat) (hn : l.length = n) (hc : cells.toList = Lib.byteCells l) (hl : l.length ≤ maxLen) :
    OwnB (w.alloc (.cells cells 5)) B (.slice (some ⟨w.heap.size, 0, none⟩) n n) l := by
  subst hn
  have hsz : cells.size = l.length := by rw [← Array.length_toList, hc]; simp [Lib.byteCells]
  exact ⟨by simp [Lib.byteCells], .inr ⟨w.heap.size, l.length, cells, rfl, hB, heap_alloc_new w _, Nat.le_refl _, hl, by omega, by rw [hc]; rw [List.take_of_length_le]; simp [Lib.byteCells]⟩⟩
theorem OwnB.str {w : World} {B : Nat} {v : Value} {l : List UInt8} (h : OwnB w B v l) : (convert 61 9 v).run Try.prog w = .ok (.string ⟨l.toArray⟩) w := by
  obtain ⟨hlen, ⟨rfl, h0⟩ | ⟨g, cap, cur, rfl, hB, hg, hnc, hcm, hcs, htk⟩⟩ := h
  · obtain rfl : l = [] := List.eq_nil_of_length_eq_zero h0
    exact run_convert_bytes_nil _ 61 5 Try.underlying61 Try.underlying5 0 0 9 Try.underlying9
  · refine run_convert_bytes_back w 61 9 5 ⟨g, 0, none⟩ cap l Try.underlying61 Try.underlying5 Try.underlying9 ?_
    intro j hj
    have hadd : (⟨g, 0, none⟩ : Addr).add j = ⟨g, j, none⟩ := by unfold Addr.add; split <;> simp_all
    rw [hadd, cell_of_row w g j cur 5 (0, 0) hg]
    have h1 := congrArg (fun x : List Value => x[j]?) htk
    simp only [Nat.mul_one, List.getElem?_take_of_lt hj] at h1
    rw [← Array.getElem?_toList, h1]
    simp [Lib.byteCells, hj]
theorem own_cells_str {w : World} {B : Nat} {v : Value} {l : List UInt8} (h : OwnB w B v l) : ∃ A n c, v = .slice A n c := by
  rcases h.2 with ⟨rfl, _⟩ | ⟨g, cap, cur, rfl, _⟩
  · exact ⟨_, _, _, rfl⟩
  · exact ⟨_, _, _, rfl⟩
theorem byteEq {c : UInt8} {n : Nat} (h : (c.toNat : Int) = n) (hn : n < 256) : c = UInt8.ofNat n := UInt8.toNat_inj.1 (by simp; omega)
end Go.Proofs.Ytkmfpkdcedfgfaa
