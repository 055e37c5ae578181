/- What slices.Grow, slices.Concat and Union return at slices of ranges. Condition: at most 10^6 ranges in all. -/
import Derived.Test.YtahapkbapbgbiaaNorm
import Derived.Lib.AppendZeros
namespace Go.Proofs.Ytahapkbapbgbiaa
open Go.RowKit
theorem run_app_none {w : World} {B : Nat} {v : Value} {l : List Rg} (h : OwnR w B v l) (c : Nat) (ty : TypeId) : (Builtin.append_ #[22, 22] ty #[v, .slice none 0 c]).run Try.prog w = .ok v w := by
  obtain ⟨i, hi, hz0, hz1, hz2⟩ := info_parts Try.infoR
  rcases h.2 with ⟨rfl, _⟩ | ⟨g, cap, cur, rfl, _, _, hnc, _⟩
  · simp [Builtin.append_, run_underlying Try.underlying22, sizeOf, typeInfo, hi, Builtin.lenOf, Builtin.firstCells]
  · simp [Builtin.append_, run_underlying Try.underlying22, sizeOf, typeInfo, hi, Builtin.lenOf, Builtin.firstCells, hnc, storeCells]
theorem run_app_src {w : World} {B B' : Nat} {v : Value} {l : List Rg} (h : OwnR w B v l) (hB : B ≤ w.heap.size) (A : Option Addr) (m c : Nat) (rs : List Rg) (hR : RngS w B' A m rs) (hbytes : l.length + m ≤ 1000000000) (ty : TypeId) :
    ∃ v' w', (Builtin.append_ #[22, 22] ty #[v, .slice A m c]).run Try.prog w = .ok v' w' ∧ OwnR w' B v' (l ++ rs) ∧ w.grownBy w' v.ownBlock := by
  obtain ⟨i0, hi, hz0, hz1, hz2⟩ := info_parts Try.infoR
  rcases Nat.eq_zero_or_pos m with h0 | h0
  · have hr : rs = [] := List.eq_nil_of_length_eq_zero (hR.1.symm.trans h0)
    subst hr
    subst h0
    rcases A with _ | a
    · exact ⟨v, w, run_app_none h c ty, by rw [List.append_nil]; exact h, ⟨rfl, rfl, rfl, Nat.le_refl _, fun _ _ _ => rfl⟩⟩
    · obtain ⟨v', w', h1, h2, h3, _⟩ := run_append_own w B 22 ty 35 i0 (.agg #[.int .i64 0, .int .i64 0]) 2 16 Try.underlying22 hi hz0 hz1 hz2 rfl (by decide) v l.length (flatR l) h a 0 c [] rfl (by intro j u hj; simp at hj) (by intro u hu; cases hu) (by unfold maxLen; omega) (by omega) hB
      exact ⟨v', w', h1, by unfold OwnR; rw [List.append_nil]; simpa using h2, h3⟩
  · obtain ⟨b, off, rfl, hb, hc⟩ := hR.2.2 h0
    have hm := hR.1
    obtain ⟨v', w', h1, h2, h3, _⟩ := run_append_own w B 22 ty 35 i0 (.agg #[.int .i64 0, .int .i64 0]) 2 16 Try.underlying22 hi hz0 hz1 hz2 rfl (by decide) v l.length (flatR l) h ⟨b, off, none⟩ m c (flatR rs) (by rw [flatR_length, hm]) (by
      intro j u hj
      have az : ∀ q : Nat, (⟨b, off, none⟩ : Addr).add q = ⟨b, off + q, none⟩ := by
        intro q; unfold Addr.add; rcases Nat.eq_zero_or_pos q with h | h
        · subst h; simp
        · simp [Nat.ne_of_gt h]
      rw [az]
      exact flatR_at hc j u hj) (flatR_one rs) (by unfold maxLen; omega) (by omega) hB
    exact ⟨v', w', h1, by unfold OwnR; rw [List.length_append, flatR_append, ← hm]; exact h2, h3⟩
theorem wp_app_src {ops : Array Oper} {rest : List Oper} {o : Oper} {a : Act} {Q : Exit → Act → World → Prop} {w : World} (hgd : o.guard = none) (s x : Operand)
    (ho : o.op = .call { callee := .builtin .append, args := #[s, x], argTypes := #[22, 22] }) (B B' : Nat) (v : Value) (l : List Rg) (hs : a.eval s = v) (hown : OwnR w B v l)
    (A : Option Addr) (m c : Nat) (rs : List Rg) (hx : a.eval x = .slice A m c) (hR : RngS w B' A m rs) (hbytes : l.length + m ≤ 1000000000) (hbase : B ≤ w.heap.size)
    (h : ∀ v' w', OwnR w' B v' (l ++ rs) → Below B w w' → wpList Try.prog ops Q rest (a.put o.dst v') w') :
    wpList Try.prog ops Q (o :: rest) a w := by
  obtain ⟨v', w', h1, h2, h3⟩ := run_app_src hown hbase A m c rs hR hbytes o.type
  exact Lib.wpList_append_run w hgd s x 22 22 ho v (.slice A m c) hs hx v' w' h1 (h v' w' h2 ((Below.refl B w).grown h3 hbase (fun j hj => (hown.lt j hj).1)))
set_option maxHeartbeats 800000 in
theorem grow_any (n : Nat) (w : World) (hn : n ≤ 1000000000) :
    Calls Try.prog 43 #[.slice none 0 0, .int .i64 n] w fun e w' => ∃ v, e = .returned v ∧ OwnR w' w.heap.size v [] ∧ Below w.heap.size w w' := by
  rcases Nat.eq_zero_or_pos n with h0 | h0
  · subst h0
    go_enter Try.func43, Try.ntmps43
    go_wp2
    all_goals go_ret
    all_goals exact ⟨_, rfl, OwnR.nil _ _, Below.refl _ _⟩
  · obtain ⟨i0, hi, hz0, hz1, hz2⟩ := info_parts Try.infoR
    have happ := Lib.run_append_nil_zeros (P := Try.prog) w 22 3 22 35 i0 (.agg #[.int .i64 0, .int .i64 0]) .i64 .i64 Try.underlying22 Try.underlying3 hi hz0 n (by omega) (by omega) (by omega) (by rw [hz2]; omega)
    generalize hcap : grownCap w n 0 35 = cap2 at happ
    have hcapge : n ≤ cap2 := by rw [← hcap]; exact grownCap_ge w _ 0 35
    have hcaple : cap2 ≤ maxLen := by rw [← hcap]; exact grownCap_le_maxLen w _ 0 35 (by unfold maxLen; omega)
    generalize hZ : (Builtin.zeroCells (Value.agg #[.int .i64 0, .int .i64 0]).cells n ++ Builtin.zeroCells (Value.agg #[.int .i64 0, .int .i64 0]).cells (cap2 - n)) = Z at happ
    have hZs : Z.size = cap2 * 2 := by rw [← hZ]; simp [size_zeroCells, Value.cells]; omega
    clear hcap hZ
    have HZ := Lib.hid hZs
    have HC := Lib.hid hcaple
    clear hZs hcaple
    go_enter Try.func43, Try.ntmps43
    go_wp2_with (at_builtin; refine Lib.wpList_append_run _ rfl _ _ _ _ rfl _ _ rfl rfl _ _ happ ?_)
    all_goals go_ret
    all_goals exact ⟨_, rfl, ⟨rfl, .inr ⟨w.heap.size, cap2, Z, rfl, Nat.le_refl _, heap_alloc_new w.drew _, Nat.zero_le _, HC.out, HZ.out, by simp [flatR]⟩⟩, ((Below.refl _ _).drew).alloc (Nat.le_refl _) _⟩
set_option maxHeartbeats 1600000 in
theorem concat_any (A A' : Option Addr) (n c n' c' : Nat) (rs rs' : List Rg) (b : Nat) (w : World) (hR : RngS w w.heap.size A n rs) (hR' : RngS w w.heap.size A' n' rs') (hn : n ≤ 1000000) (hn' : n' ≤ 1000000) (hb : b < w.heap.size)
    (h0 : w.cell? ⟨b, 0, none⟩ = some (.slice A n c)) (h1 : w.cell? ⟨b, 1, none⟩ = some (.slice A' n' c')) :
    Calls Try.prog 34 #[.slice (some ⟨b, 0, none⟩) 2 2] w fun e w' => ∃ v, e = .returned v ∧ OwnR w' w.heap.size v (rs ++ rs') ∧ Below w.heap.size w w' := by
  have HR := Lib.hid hR
  have HR' := Lib.hid hR'
  clear hR hR'
  have hg := fun W => grow_any (n + n') W (by omega)
  go_enter Try.func34, Try.ntmps34
  go_wp2
  go_loop [3, 5, 11] (fun sz _ i => ∃ k : Nat, i = .int .i64 k ∧ ((k = 0 ∧ sz = .int .i64 0) ∨ (k = 1 ∧ sz = .int .i64 n) ∨ (k = 2 ∧ sz = .int .i64 (n + n' : Nat)))) (fun _ _ i => 2 - (intOf i).toNat)
  case atStart => exact ⟨0, rfl, .inl ⟨rfl, rfl⟩⟩
  case round =>
    obtain ⟨k, rfl, ⟨rfl, rfl⟩ | ⟨rfl, rfl⟩ | ⟨rfl, rfl⟩⟩ := hrel
    · go_wp2
      all_goals go_round
      case rel => exact ⟨1, by go_num, .inr (.inl ⟨rfl, by first | rfl | go_num | (simp)⟩)⟩
      case measure => simp [intOf]
    · go_wp2
      all_goals go_round
      case rel => exact ⟨2, by go_num, .inr (.inr ⟨rfl, by first | rfl | go_num | (simp)⟩)⟩
      case measure => simp [intOf]
    · go_wp2_with (go_at_call 43; refine (hg _).mono ?_; rintro e w1 ⟨v1, rfl, ho1, hb1⟩; refine Hid.out ?_)
      refine Lib.hid ?_
      have hs1 := hb1.size
      have HO1 := Lib.hid ho1
      clear ho1
      go_wp2
      go_loopw [6, 8, 27] (fun v _ i wr => ∃ (k : Nat) (l : List Rg), i = .int .i64 k ∧ ((k = 0 ∧ l = []) ∨ (k = 1 ∧ l = rs) ∨ (k = 2 ∧ l = rs ++ rs')) ∧ OwnR wr w.heap.size v l ∧ Below w.heap.size w wr) (fun _ _ i _ => 2 - (intOf i).toNat)
      case atStart => exact ⟨0, [], rfl, .inl ⟨rfl, rfl⟩, HO1.out, hb1⟩
      case round =>
        obtain ⟨k, l, rfl, hk, hO, hbw⟩ := hrel
        have HO := Lib.hid hO
        have hsw := hbw.size
        have c0 : wr.cell? ⟨b, 0, none⟩ = some (.slice A n c) := (hbw.cell (p := ⟨b, 0, none⟩) hb).trans h0
        have c1 : wr.cell? ⟨b, 1, none⟩ = some (.slice A' n' c') := (hbw.cell (p := ⟨b, 1, none⟩) hb).trans h1
        clear hO h0 h1
        rcases hk with ⟨rfl, rfl⟩ | ⟨rfl, rfl⟩ | ⟨rfl, rfl⟩
        · go_wp2_with (at_builtin; (refine wp_app_src rfl _ _ rfl w.heap.size w.heap.size _ _ rfl HO.out A n c rs rfl (HR.out.below hbw) (by simp; omega) hsw ?_); intro v' w4 hown' hb4; refine Hid.out ?_)
          refine Lib.hid ?_
          go_wp2
          go_roundw
          case rel => exact ⟨1, rs, by go_num, .inr (.inl ⟨rfl, rfl⟩), hown', hbw.trans hb4⟩
          case measure => simp [intOf]
        · go_wp2_with (at_builtin; (refine wp_app_src rfl _ _ rfl w.heap.size w.heap.size _ _ rfl HO.out A' n' c' rs' rfl (HR'.out.below hbw) (by have := HR.out.1; omega) hsw ?_); intro v' w4 hown' hb4; refine Hid.out ?_)
          refine Lib.hid ?_
          go_wp2
          go_roundw
          case rel => exact ⟨2, l ++ rs', by go_num, .inr (.inr ⟨rfl, rfl⟩), hown', hbw.trans hb4⟩
          case measure => simp [intOf]
        · go_wp2
          all_goals go_ret
          all_goals exact ⟨_, rfl, HO.out, hbw⟩
/-- a call hands back the normal form of a set, of at most k ranges -/
def RetN (P : Int → Prop) (k : Nat) (w : World) (e : Ending) (w' : World) : Prop := ∃ m, m = nfOf P ∧ Nf m ∧ (∀ x, hasI m x ↔ P x) ∧ m.length ≤ k ∧ RetR m w e w'
theorem RetN.congr {P Q : Int → Prop} {k k' : Nat} {w w' : World} {e : Ending} (h : RetN P k w e w') (hp : ∀ x, P x ↔ Q x) (hk : k ≤ k') : RetN Q k' w e w' := by
  obtain ⟨m, h1, h2, h3, h4, h5⟩ := h
  exact ⟨m, by rw [h1, nfOf_congr hp], h2, fun x => (h3 x).trans (hp x), by omega, h5⟩
theorem fit_append {a b : List Rg} (h : Fit a) (h' : Fit b) : Fit (a ++ b) := fun r hr => by
  rcases List.mem_append.1 hr with hr | hr
  · exact h r hr
  · exact h' r hr
set_option maxHeartbeats 800000 in
theorem union_any (A A' : Option Addr) (n c n' c' : Nat) (rs rs' : List Rg) (w : World) (hR : RngS w w.heap.size A n rs) (hR' : RngS w w.heap.size A' n' rs') (hn : n ≤ 100000) (hn' : n' ≤ 100000) :
    Calls Try.prog 16 #[.slice A n c, .slice A' n' c'] w (RetN (fun x => hasI rs x ∨ hasI rs' x) (n + n') w) := by
  have HR := Lib.hid hR
  have HR' := Lib.hid hR'
  clear hR hR'
  have hb0 : Below w.heap.size w (w.alloc (.cells #[.slice A n c, .slice A' n' c'] 22)) := (Below.refl _ _).alloc (Nat.le_refl _) _
  have hcc := concat_any A A' n c n' c' rs rs' w.heap.size (w.alloc (.cells #[.slice A n c, .slice A' n' c'] 22)) (HR.out.kept hb0 (by simp)) (HR'.out.kept hb0 (by simp)) (by omega) (by omega) (by simp) (by simp) (by simp)
  go_enter Try.func16, Try.ntmps16
  go_wp2_with (go_at_call 34; refine hcc.mono ?_; rintro e w1 ⟨v1, rfl, ho1, hb1⟩; refine Hid.out ?_)
  refine Lib.hid ?_
  obtain ⟨A1, c1, rfl⟩ := ho1.form
  have hr1 := ho1.rng (fit_append HR.out.2.1 HR'.out.2.1)
  have hlen : (rs ++ rs').length = n + n' := by rw [List.length_append, HR.out.1, HR'.out.1]
  have hnn := normalize_any A1 (rs ++ rs').length c1 (rs ++ rs') w1 hr1 (by omega)
  have HL := Lib.hid hlen
  clear ho1 hr1 hlen hcc
  generalize (rs ++ rs').length = q at hnn HL ⊢
  go_wp2_with (go_at_call 9; refine hnn.mono ?_; rintro e w2 ⟨m, hm1, hm2, hm3, hm4, A2, n2, c2, rfl, hr2, hb2⟩; refine Hid.out ?_)
  refine Lib.hid ?_
  have hz0 := hb1.size
  have H1 := Lib.hid hm1
  have H3 := Lib.hid hm3
  clear hm1 hm3
  go_wp2
  go_ret
  exact ⟨m, by rw [H1.out]; exact nfOf_congr (fun x => hasI_append rs rs' x), hm2, fun x => (H3.out x).trans (hasI_append rs rs' x), by rw [← HL.out]; exact hm4, A2, n2, c2, rfl, hr2, (hb0.trans (hb1.mono (by simp))).trans (hb2.mono (by simp at hz0; omega))⟩
end Go.Proofs.Ytahapkbapbgbiaa
