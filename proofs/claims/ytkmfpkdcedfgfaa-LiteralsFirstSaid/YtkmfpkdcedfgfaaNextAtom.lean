/- What nextAtom does to a name of the call's own: the next atom name. Condition: the name has at most 1000 bytes and is not empty. -/
import Derived.Test.YtkmfpkdcedfgfaaBytes
import Derived.Laws.BitsAllLaws
import Derived.Laws.OwnMore
namespace Go.Proofs.Ytkmfpkdcedfgfaa
open Go.RowKit
def succA (c : UInt8) : UInt8 := if c = 57 then 95 else if c = 95 then 97 else c + 1
def goA : Nat → List UInt8 → List UInt8
  | 0, l => if l.headD 0 ≠ 122 then l.set 0 (l.headD 0 + 1) else l.set 0 97 ++ [48]
  | i + 1, l => if l.getD (i + 1) 0 ≠ 122 then l.set (i + 1) (succA (l.getD (i + 1) 0)) else goA i (l.set (i + 1) 48)
/-- the next atom name -/
def nextA (l : List UInt8) : List UInt8 := goA (l.length - 1) l
set_option maxHeartbeats 400000 in
theorem nextAtomByte_any (c : UInt8) (w : World) : Calls Try.prog 69 #[.int .u8 c.toNat] w fun e w' => e = .returned (.int .u8 (succA c).toNat) ∧ w = w' := by
  have hc := c.toNat_lt
  by_cases h1 : c = 57
  · subst h1
    go_enter Try.func69, Try.ntmps69
    go_wp2
    go_ret
    exact ⟨rfl, rfl⟩
  by_cases h2 : c = 95
  · subst h2
    go_enter Try.func69, Try.ntmps69
    go_wp2
    go_ret
    exact ⟨rfl, rfl⟩
  have h1b : ((c.toNat : Int) == 57) = false := by rw [beq_eq_false_iff_ne]; intro e; exact h1 (UInt8.toNat_inj.1 (by have : (57 : UInt8).toNat = 57 := rfl; omega))
  have h2b : ((c.toNat : Int) == 95) = false := by rw [beq_eq_false_iff_ne]; intro e; exact h2 (UInt8.toNat_inj.1 (by have : (95 : UInt8).toNat = 95 := rfl; omega))
  have hs : succA c = c + 1 := by unfold succA; rw [if_neg h1, if_neg h2]
  have HS := Lib.hid hs
  clear hs
  go_enter Try.func69, Try.ntmps69
  go_wp2
  go_ret
  exact ⟨ret_int (by rw [HS.out, UInt8.toNat_add]; simp), rfl⟩
theorem OwnB.form {w : World} {B : Nat} {v : Value} {l : List UInt8} (h : OwnB w B v l) (hl : 0 < l.length) :
    ∃ g cap, v = .slice (some ⟨g, 0, none⟩) l.length cap ∧ B ≤ g ∧ l.length ≤ cap := by
  rcases h.2 with ⟨_, h0⟩ | ⟨g, cap, cur, rfl, hB, hg, hnc, _⟩
  · omega
  · exact ⟨g, cap, rfl, hB, hnc⟩
theorem OwnB.cellAt {w : World} {B g cap n : Nat} {l : List UInt8} (h : OwnB w B (.slice (some ⟨g, 0, none⟩) n cap) l) (hn : l.length = n) (j : Nat) (hj : j < n) : w.cell? ⟨g, j, none⟩ = some (.int .u8 (l[j]'(by omega)).toNat) := by
  subst hn
  rw [World.ownsRow.cellAt h j (by omega)]
  simp [Lib.byteCells, hj]
theorem OwnB.cellX {w : World} {B g cap n : Nat} {l : List UInt8} (h : OwnB w B (.slice (some ⟨g, 0, none⟩) n cap) l) (hn : l.length = n) (j : Nat) (hj : j < n) : ∃ x, x = l.getD j 0 ∧ w.cell? ⟨g, j, none⟩ = some (.int .u8 x.toNat) :=
  ⟨l[j]'(by omega), by simp [List.getD_eq_getElem?_getD, List.getElem?_eq_getElem (show j < l.length by omega)], h.cellAt hn j hj⟩
theorem OwnB.set {w : World} {B g cap n : Nat} {l : List UInt8} (h : OwnB w B (.slice (some ⟨g, 0, none⟩) n cap) l) (hn : l.length = n) (j : Nat) (c : UInt8) :
    OwnB (w.setCell ⟨g, j, none⟩ (.int .u8 c.toNat)) B (.slice (some ⟨g, 0, none⟩) n cap) (l.set j c) := by
  subst hn
  have := (World.ownsRow.stored h j (.int .u8 c.toNat)).1
  unfold OwnB
  rw [List.length_set]
  simpa [Lib.byteCells, List.map_set] using this
theorem OwnB.free {w : World} {B g cap n : Nat} {l : List UInt8} (h : OwnB w B (.slice (some ⟨g, 0, none⟩) n cap) l) (hn : l.length = n) (j : Nat) : w.frozen? ⟨g, j, none⟩ = false := by
  subst hn
  exact World.ownsRow.frozenAt h j
theorem wp_app_u8H {ops : Array Oper} {rest : List Oper} {o : Oper} {a : Act} {Q : Exit → Act → World → Prop} {w0 : World} (hgd : o.guard = none) (s x : Operand)
    (ho : o.op = .call { callee := .builtin .append, args := #[s, x], argTypes := #[61, 61] }) (B : Nat) (v : Value) (l : List UInt8) (hs : a.eval s = v) (hown : OwnB w0 B v l)
    (l' : List UInt8) (m c : Nat) (hm : l'.length = m) (cells : Array Value) (hc : cells.toList = Lib.byteCells l') (H : Nat) (hH : w0.heap.size = H) (hx : a.eval x = .slice (some ⟨H, 0, none⟩) m c)
    (hbytes : l.length + m ≤ 140737488355328) (hbase : B ≤ w0.heap.size)
    (h : ∀ v' w', OwnB w' B v' (l ++ l') → Below B w0 w' → wpList Try.prog ops Q rest (a.put o.dst v') w') :
    wpList Try.prog ops Q (o :: rest) a (w0.alloc (.cells cells 5)) := by
  subst hH
  exact wp_app_u8 hgd s x ho B v l hs hown l' m c hm cells hc hx hbytes hbase h
theorem goA_zero (l : List UInt8) : goA 0 l = if l.headD 0 ≠ 122 then l.set 0 (l.headD 0 + 1) else l.set 0 97 ++ [48] := rfl
theorem goA_succ (i : Nat) (l : List UInt8) : goA (i + 1) l = if l.getD (i + 1) 0 ≠ 122 then l.set (i + 1) (succA (l.getD (i + 1) 0)) else goA i (l.set (i + 1) 48) := rfl
set_option maxHeartbeats 1600000 in
theorem nextAtom_any (B : Nat) (v : Value) (l : List UInt8) (w : World) (h : OwnB w B v l) (hl : 0 < l.length) (hm : l.length ≤ 1000) (hBw : B ≤ w.heap.size) :
    Calls Try.prog 59 #[v] w fun e w' => ∃ v', e = .returned v' ∧ OwnB w' B v' (nextA l) ∧ Below B w w' := by
  obtain ⟨g, cap, rfl, hBg, hcap⟩ := h.form hl
  obtain ⟨n, hn⟩ : ∃ n, n = l.length := ⟨_, rfl⟩
  rw [← hn] at h hm hl hcap ⊢
  have HN := Lib.hid hn
  clear hn
  have HG := Lib.hid (show nextA l = goA (n - 1) l by unfold nextA; rw [HN.out])
  go_enter Try.func59, Try.ntmps59
  go_wp2_with fail
  go_loopw [3] (fun i wr => ∃ (k : Nat) (cur : List UInt8), i = .int .i64 k ∧ k + 1 ≤ n ∧ cur.length = n ∧ OwnB wr B (.slice (some ⟨g, 0, none⟩) n cap) cur ∧ Hid (nextA l = goA k cur) ∧ Below B w wr) (fun i _ => (intOf i).toNat)
  case atStart => exact ⟨n - 1, l, by first | rfl | (congr 1; omega), by omega, HN.out.symm, h, HG, Below.refl _ _⟩
  case round =>
    obtain ⟨k, cur, rfl, hk, hcl, hB, HQ, hb⟩ := hrel
    have hsr := hb.size
    have HC := Lib.hid hcl
    obtain ⟨x0, hx0, c0⟩ := hB.cellX hcl 0 (by omega)
    have HX0 := Lib.hid hx0
    have f0 := hB.free hcl 0
    clear hcl hx0
    cases k with
    | zero =>
      by_cases h1 : (x0.toNat : Int) = 122
      · have hgo := Lib.hid (show nextA l = cur.set 0 97 ++ [48] by
          have e : x0 = 122 := byteEq (n := 122) h1 (by decide)
          rw [HQ.out, goA_zero, if_neg]
          rw [show cur.headD 0 = cur.getD 0 0 by cases cur <;> rfl, ← HX0.out, e]
          simp)
        have hB2 : OwnB (wr.setCell ⟨g, 0, none⟩ (.int .u8 97)) B (.slice (some ⟨g, 0, none⟩) n cap) (cur.set 0 97) := hB.set HC.out 0 97
        have hsr2 : B ≤ (wr.setCell ⟨g, 0, none⟩ (.int .u8 97)).heap.size := by simp; omega
        have hlen : (cur.set 0 97).length + 1 ≤ 140737488355328 := by rw [List.length_set, HC.out]; omega
        go_wp2_with (at_builtin; refine wp_app_u8H rfl _ _ rfl B _ _ rfl hB2 [48] 1 1 rfl _ rfl _ (World.size_setCell _ _ _) rfl hlen hsr2 ?_; intro v' w1 hown' hbl; refine Hid.out ?_)
        refine Lib.hid ?_
        go_wp2
        go_ret
        exact ⟨_, rfl, by rw [hgo.out]; exact hown', (hb.setCell (p := ⟨g, 0, none⟩) hBg _).trans hbl⟩
      · have h1b : ((x0.toNat : Int) != 122) = true := by rw [bne_iff_ne]; exact h1
        have hgo := Lib.hid (show nextA l = cur.set 0 (x0 + 1) by
          have e2 : cur.headD 0 = x0 := by rw [HX0.out]; cases cur <;> rfl
          rw [HQ.out, goA_zero, if_pos, e2]
          rw [e2]; intro e; exact h1 (by rw [e]; rfl))
        have hB2 := hB.set HC.out 0 (x0 + 1)
        have hbs : Below B w (wr.setCell ⟨g, 0, none⟩ (.int .u8 (x0 + 1).toNat)) := hb.setCell (p := ⟨g, 0, none⟩) hBg _
        have hplus := Lib.hid (show (((x0 + 1 : UInt8).toNat : Nat) : Int) = ((x0.toNat : Int) + 1) % 256 by rw [UInt8.toNat_add]; simp)
        have hlt := x0.toNat_lt
        go_wp2
        go_ret
        refine ⟨_, rfl, ?_, ?_⟩
        · rw [hgo.out]; rw [hplus.out] at hB2; exact hB2
        · rw [hplus.out] at hbs; exact hbs
    | succ k =>
      obtain ⟨x1, hx1, c1⟩ := hB.cellX HC.out (k + 1) (by omega)
      have HX1 := Lib.hid hx1
      clear hx1
      have f1 := hB.free HC.out (k + 1)
      by_cases h1 : (x1.toNat : Int) = 122
      · have hgo : Hid (nextA l = goA k (cur.set (k + 1) 48)) := Lib.hid (by
          have e : x1 = 122 := byteEq (n := 122) h1 (by decide)
          rw [HQ.out, goA_succ, if_neg]
          rw [← HX1.out, e]; simp)
        have hB2 := hB.set HC.out (k + 1) 48
        go_wp2
        go_roundw
        case rel => exact ⟨k, _, by go_num, by omega, by rw [List.length_set]; exact HC.out, hB2, hgo, hb.setCell (p := ⟨g, k + 1, none⟩) hBg _⟩
        case measure => simp [intOf]
      · have h1b : ((x1.toNat : Int) != 122) = true := by rw [bne_iff_ne]; exact h1
        have hgo := Lib.hid (show nextA l = cur.set (k + 1) (succA x1) by
          rw [HQ.out, goA_succ, if_pos, ← HX1.out]
          rw [← HX1.out]; intro e; exact h1 (by rw [e]; rfl))
        have hB2 := hB.set HC.out (k + 1) (succA x1)
        go_wp2_with (go_at_call 69; refine (nextAtomByte_any _ _).mono ?_; rintro e w' ⟨rfl, rfl⟩)
        go_ret
        exact ⟨_, rfl, by rw [hgo.out]; exact hB2, hb.setCell (p := ⟨g, k + 1, none⟩) hBg _⟩
end Go.Proofs.Ytkmfpkdcedfgfaa
