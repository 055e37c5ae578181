/- Slices of ranges, as the walks take them: what comes in, what a call owns, and what an append makes of it. -/
import Derived.Test.YtahapkbapbgbiaaRows
import Derived.Test.YtahapkbapbgbiaaSets
import Derived.WalkKit
import Derived.WalkSpells
import Derived.WalkLawsBesides
import Derived.BigQuiet
import Derived.Deep.QuietTactic
import Derived.Deep.RegionLaw
import Derived.Lib.Hide
import Derived.Lib.Walk
import Derived.Lib.SliceRun
import Derived.Deep.Onto
import Derived.Deep.AppendLies
import Derived.Outline
namespace Go.Proofs.Ytahapkbapbgbiaa
open Go.RowKit
theorem ret_bool {a b : Bool} (h : a = b) : Ending.returned (.bool a) = .returned (.bool b) := by rw [h]
theorem ret_int {k : IntKind} {a b : Int} (h : a = b) : Ending.returned (.int k a) = .returned (.int k b) := by rw [h]
theorem Try.infoR : (Try.prog.info? 35).map (fun i => (i.zero, i.size, i.bytes)) = some (some (.agg #[.int .i64 0, .int .i64 0]), 2, 16) := by kernel_rfl
def cellsR (r : Rg) : List Value := [.int .i64 r.1, .int .i64 r.2]
def flatR (l : List Rg) : List Value := l.flatMap cellsR
theorem flatR_append (a b : List Rg) : flatR (a ++ b) = flatR a ++ flatR b := by simp [flatR]
theorem flatR_cons (r : Rg) (b : List Rg) : flatR (r :: b) = .int .i64 r.1 :: .int .i64 r.2 :: flatR b := by simp [flatR, cellsR]
theorem flatR_length : ∀ (l : List Rg), (flatR l).length = l.length * 2
  | [] => rfl
  | r :: l => by rw [flatR_cons]; simp [flatR_length l]; omega
theorem flatR_one : ∀ (l : List Rg), ∀ u ∈ flatR l, u.oneCell' = true
  | [], u, h => by simp [flatR] at h
  | r :: l, u, h => by
    rw [flatR_cons] at h
    rcases List.mem_cons.1 h with rfl | h
    · rfl
    · rcases List.mem_cons.1 h with rfl | h
      · rfl
      · exact flatR_one l u h
theorem flatR_lo : ∀ (l : List Rg) (j : Nat) (r : Rg), l[j]? = some r → (flatR l)[j * 2]? = some (.int .i64 r.1)
  | [], j, r, h => by simp at h
  | x :: l, 0, r, h => by simp at h; subst h; rw [flatR_cons]; rfl
  | x :: l, j + 1, r, h => by
    rw [flatR_cons, show (j + 1) * 2 = j * 2 + 1 + 1 by omega, List.getElem?_cons_succ, List.getElem?_cons_succ]
    exact flatR_lo l j r (by simpa using h)
theorem flatR_hi : ∀ (l : List Rg) (j : Nat) (r : Rg), l[j]? = some r → (flatR l)[j * 2 + 1]? = some (.int .i64 r.2)
  | [], j, r, h => by simp at h
  | x :: l, 0, r, h => by simp at h; subst h; rw [flatR_cons]; rfl
  | x :: l, j + 1, r, h => by
    rw [flatR_cons, show (j + 1) * 2 + 1 = (j * 2 + 1) + 1 + 1 by omega, List.getElem?_cons_succ, List.getElem?_cons_succ]
    exact flatR_hi l j r (by simpa using h)
/-- the slice .slice A n cap reads as the ranges rs, in blocks below B -/
def RngS (w : World) (B : Nat) (A : Option Addr) (n : Nat) (rs : List Rg) : Prop :=
  n = rs.length ∧ Fit rs ∧ (0 < n → ∃ b off, A = some ⟨b, off, none⟩ ∧ b < B ∧ ∀ j r, rs[j]? = some r → w.cell? ⟨b, off + j * 2, none⟩ = some (.int .i64 r.1) ∧ w.cell? ⟨b, off + j * 2 + 1, none⟩ = some (.int .i64 r.2))
theorem RngS.below {w w' : World} {B : Nat} {A : Option Addr} {n : Nat} {rs : List Rg} (h : RngS w B A n rs) (hb : Below B w w') : RngS w' B A n rs :=
  ⟨h.1, h.2.1, fun hn => by
    obtain ⟨b, off, hA, hlt, hc⟩ := h.2.2 hn
    exact ⟨b, off, hA, hlt, fun j k hk => ⟨(hb.cell (p := ⟨b, off + j * 2, none⟩) hlt).trans (hc j k hk).1, (hb.cell (p := ⟨b, off + j * 2 + 1, none⟩) hlt).trans (hc j k hk).2⟩⟩⟩
theorem RngS.mono {w : World} {B B' : Nat} {A : Option Addr} {n : Nat} {rs : List Rg} (h : RngS w B A n rs) (hB : B ≤ B') : RngS w B' A n rs :=
  ⟨h.1, h.2.1, fun hn => by
    obtain ⟨b, off, hA, hlt, hc⟩ := h.2.2 hn
    exact ⟨b, off, hA, by omega, hc⟩⟩
theorem RngS.nil (w : World) (B : Nat) (A : Option Addr) : RngS w B A 0 [] := ⟨rfl, by simp [Fit], fun h => by omega⟩
/-- kept by a later world -/
theorem RngS.kept {w w' : World} {B : Nat} {A : Option Addr} {n : Nat} {rs : List Rg} (h : RngS w B A n rs) (hb : Below B w w') (hB : B ≤ w'.heap.size) : RngS w' w'.heap.size A n rs := (h.below hb).mono hB
/-- the range at an index, and its two cells -/
theorem RngS.at {w : World} {B : Nat} {A : Option Addr} {n : Nat} {rs : List Rg} (h : RngS w B A n rs) {k : Nat} (hk : k < n) :
    ∃ b off r1 r2, A = some ⟨b, off, none⟩ ∧ b < B ∧ rs[k]? = some (r1, r2) ∧ Fit1 (r1, r2) ∧ w.cell? ⟨b, off + k * 2, none⟩ = some (.int .i64 r1) ∧ w.cell? ⟨b, off + k * 2 + 1, none⟩ = some (.int .i64 r2) := by
  obtain ⟨b, off, hA, hb, hc⟩ := h.2.2 (by omega)
  have hx : rs[k]? = some (rs[k]'(by have := h.1; omega)) := List.getElem?_eq_getElem _
  have := hc k _ hx
  exact ⟨b, off, _, _, hA, hb, hx, h.2.1 _ (List.mem_of_getElem? hx), this.1, this.2⟩
/-- v is a slice of the call's own that holds the ranges rs -/
def OwnR (w : World) (B : Nat) (v : Value) (rs : List Rg) : Prop := w.ownsRow B 35 2 v rs.length (flatR rs)
theorem OwnR.nil (w : World) (B : Nat) : OwnR w B (.slice none 0 0) [] := World.ownsRow_nil _ _ _ _
theorem OwnR.form {w : World} {B : Nat} {v : Value} {rs : List Rg} (h : OwnR w B v rs) : ∃ A c, v = .slice A rs.length c := by
  rcases h.2 with ⟨rfl, h0⟩ | ⟨g, cap, cur, rfl, _⟩
  · rw [h0]; exact ⟨_, _, rfl⟩
  · exact ⟨_, _, rfl⟩
theorem OwnR.rng {w : World} {B : Nat} {A : Option Addr} {n c : Nat} {rs : List Rg} (h : OwnR w B (.slice A n c) rs) (hf : Fit rs) : RngS w w.heap.size A n rs := by
  have hl := h.lt
  have hcs : ∀ g, (Value.slice A n c).ownBlock = some g → ∀ j u, (flatR rs)[j]? = some u → w.cell? ((⟨g, 0, none⟩ : Addr).add j) = some u := fun g hg => World.ownsRow.cells h hg
  rcases h.2 with ⟨hv, h0⟩ | ⟨g, cap, cur, hv, hB, hg, hnc, hcm, hcz, htk⟩
  · injection hv with e1 e2 e3
    subst e1 e2
    exact ⟨h0.symm, hf, fun h => by omega⟩
  · injection hv with e1 e2 e3
    subst e1 e2
    refine ⟨rfl, hf, fun _ => ⟨g, 0, rfl, (hl g rfl).2, fun j r hj => ?_⟩⟩
    have az : ∀ q : Nat, (⟨g, 0, none⟩ : Addr).add q = ⟨g, 0 + q, none⟩ := by
      intro q; unfold Addr.add; rcases Nat.eq_zero_or_pos q with h | h
      · subst h; simp
      · simp [Nat.ne_of_gt h]
    have a := hcs g rfl (j * 2) _ (flatR_lo rs j r hj)
    have b := hcs g rfl (j * 2 + 1) _ (flatR_hi rs j r hj)
    rw [az] at a b
    exact ⟨a, by rw [Nat.add_assoc]; exact b⟩
theorem OwnR.old {w w' : World} {B : Nat} {v : Value} {rs : List Rg} (h : OwnR w B v rs) (hb : Below w.heap.size w w') : OwnR w' B v rs := by
  have hl := h.lt
  refine ⟨h.1, ?_⟩
  rcases h.2 with hn | ⟨g, cap, cur, rfl, hB, hg, rest⟩
  · exact .inl hn
  · exact .inr ⟨g, cap, cur, rfl, hB, by rw [hb.block g (hl g rfl).2]; exact hg, rest⟩
theorem OwnR.drewN {w : World} {B : Nat} {v : Value} {rs : List Rg} (h : OwnR w B v rs) (n : Nat) : OwnR (w.drewN n) B v rs := h
theorem below_drewN {B : Nat} {a w : World} (h : Below B a w) (n : Nat) : Below B a (w.drewN n) := ⟨h.os, h.tape, h.output, h.size, h.block⟩
theorem OwnR.mono {w : World} {B B' : Nat} {v : Value} {rs : List Rg} (h : OwnR w B v rs) (hB : B' ≤ B) : OwnR w B' v rs := by
  refine ⟨h.1, ?_⟩
  rcases h.2 with hn | ⟨g, cap, cur, hv, hg, rest⟩
  · exact .inl hn
  · exact .inr ⟨g, cap, cur, hv, by omega, rest⟩
theorem OwnR.below {w0 w1 : World} {B : Nat} {v : Value} {rs : List Rg} {o : Obj} (h : OwnR w0 B v rs) (hb : B ≤ w0.heap.size) (hg : (w0.alloc o).grownBy w1 v.ownBlock) : Below B w0 w1 :=
  ((Below.refl B w0).alloc hb o).grown hg (by simp; omega) (fun j hj => (h.lt j hj).1)
theorem OwnR.lit (w : World) (B : Nat) (hB : B ≤ w.heap.size) (rs : List Rg) (cells : Array Value) (n : Nat) (hn : rs.length = n) (hc : cells.toList = flatR rs) (hl : rs.length ≤ maxLen) :
    OwnR (w.alloc (.cells cells 35)) B (.slice (some ⟨w.heap.size, 0, none⟩) n n) rs := by
  subst hn
  have hsz : cells.size = rs.length * 2 := by rw [← Array.length_toList, hc, flatR_length]
  exact ⟨flatR_length rs, .inr ⟨w.heap.size, rs.length, cells, rfl, hB, heap_alloc_new w _, Nat.le_refl _, hl, hsz, by rw [hc]; rw [List.take_of_length_le]; rw [flatR_length]; exact Nat.le_refl _⟩⟩
theorem wp_app_r {ops : Array Oper} {rest : List Oper} {o : Oper} {a : Act} {Q : Exit → Act → World → Prop} {w0 : World} (hgd : o.guard = none) (s x : Operand)
    (ho : o.op = .call { callee := .builtin .append, args := #[s, x], argTypes := #[22, 22] }) (B : Nat) (v : Value) (l : List Rg) (hs : a.eval s = v) (hown : OwnR w0 B v l)
    (l' : List Rg) (m c : Nat) (hm : l'.length = m) (cells : Array Value) (hc : cells.toList = flatR l') (hx : a.eval x = .slice (some ⟨w0.heap.size, 0, none⟩) m c)
    (hbytes : l.length + m ≤ 1000000000) (hbase : B ≤ w0.heap.size)
    (h : ∀ v' w', OwnR w' B v' (l ++ l') → Below B w0 w' → wpList Try.prog ops Q rest (a.put o.dst v') w') :
    wpList Try.prog ops Q (o :: rest) a (w0.alloc (.cells cells 35)) := by
  obtain ⟨i0, hi, hz0, hz1, hz2⟩ := info_parts Try.infoR
  subst hm
  refine wpList_append_own _ hgd s x 22 ho B 35 i0 (.agg #[.int .i64 0, .int .i64 0]) 2 16 Try.underlying22 hi hz0 hz1 hz2 rfl (by decide) v l.length (flatR l) hs (World.ownsRow.alloc hown _)
    ⟨w0.heap.size, 0, none⟩ l'.length c (flatR l') hx (flatR_length l') ?_ (flatR_one l') (by unfold maxLen; omega) (by omega) (by simp; omega) ?_
  · rw [← hc]; exact World.news_of_block (heap_alloc_new w0 _)
  · intro v' w' h1 h2 _
    exact h v' w' (by unfold OwnR; rw [List.length_append, flatR_append]; exact h1) (hown.below hbase h2)
theorem step_app_r {ops : Array Oper} {o : Oper} {a : Act} {K : Act → World → Prop} {Q : Exit → Act → World → Prop} {E : Prop} {w0 : World} (hgd : o.guard = none) (s x : Operand)
    (ho : o.op = .call { callee := .builtin .append, args := #[s, x], argTypes := #[22, 22] }) (B : Nat) (v : Value) (l : List Rg) (hs : a.eval s = v) (hown : OwnR w0 B v l)
    (l' : List Rg) (m c : Nat) (hm : l'.length = m) (hm0 : 0 < m) (cells : Array Value) (hc : cells.toList = flatR l') (hx : a.eval x = .slice (some ⟨w0.heap.size, 0, none⟩) m c)
    (hbytes : l.length + m ≤ 1000000000) (hbase : B ≤ w0.heap.size)
    (h : ∀ v' w', OwnR w' B v' (l ++ l') → Below B w0 w' → K (a.put o.dst v') w') :
    if Region.wanted o (yielded ops a.tmps) = true then Oper.wp Try.prog o a (w0.alloc (.cells cells 35)).drew K Q else E := by
  obtain ⟨i0, hi, hz0, hz1, hz2⟩ := info_parts Try.infoR
  subst hm
  have ho1 : (w0.alloc (.cells cells 35)).drew.ownsRow B 35 2 v l.length (flatR l) := World.ownsRow.alloc hown _
  refine step_append_lies _ hgd s x 22 ho B 35 i0 (.agg #[.int .i64 0, .int .i64 0]) 2 16 Try.underlying22 hi hz0 hz1 hz2 rfl (by decide) v l.length (flatR l) hs ho1
    ⟨w0.heap.size, 0, none⟩ l'.length c (flatR l') hx (flatR_length l') ?_ (flatR_one l') hm0 (by unfold maxLen; omega) (by omega) (by simp; omega) _ rfl ?_
  · rw [← hc]; exact World.news_of_block (w := (w0.alloc (.cells cells 35)).drew) (heap_alloc_new w0 _)
  · intro g cap w' h1 h2 _ _
    exact h _ w' (by unfold OwnR; rw [List.length_append, flatR_append]; exact h1)
      ((((Below.refl B w0).alloc hbase _).drew).grown h2 (by simp; omega) (fun j hj => (hown.lt j hj).1))
theorem wp_app_rH {ops : Array Oper} {rest : List Oper} {o : Oper} {a : Act} {Q : Exit → Act → World → Prop} {w0 : World} (hgd : o.guard = none) (s x : Operand)
    (ho : o.op = .call { callee := .builtin .append, args := #[s, x], argTypes := #[22, 22] }) (B : Nat) (v : Value) (l : List Rg) (hs : a.eval s = v) (hown : OwnR w0 B v l)
    (l' : List Rg) (m c : Nat) (hm : l'.length = m) (cells : Array Value) (hc : cells.toList = flatR l') (H : Nat) (hH : w0.heap.size = H) (hx : a.eval x = .slice (some ⟨H, 0, none⟩) m c)
    (hbytes : l.length + m ≤ 1000000000) (hbase : B ≤ w0.heap.size)
    (h : ∀ v' w', OwnR w' B v' (l ++ l') → Below B w0 w' → wpList Try.prog ops Q rest (a.put o.dst v') w') :
    wpList Try.prog ops Q (o :: rest) a (w0.alloc (.cells cells 35)) := by
  subst hH
  exact wp_app_r hgd s x ho B v l hs hown l' m c hm cells hc hx hbytes hbase h
/-- a call hands back the ranges rs in memory that stays -/
def RetR (rs : List Rg) (w : World) (e : Ending) (w' : World) : Prop := ∃ A n c, e = .returned (.slice A n c) ∧ RngS w' w'.heap.size A n rs ∧ Below w.heap.size w w'
end Go.Proofs.Ytahapkbapbgbiaa
