/- A list of literals as a set. -/
import Derived.Test.YtplmbmecjhmiiaaDoorMapT6
import Derived.Test.YtplmbmecjhmiiaaDoorSmall6
import Derived.Test.YtplmbmecjhmiiaaDoorShelfT
namespace Go.Proofs.YtplmbmecjhmiiaaDoor
open Go Go.RowKit
theorem shl_lit (q : Nat) (h : q < 12) : IntKind.u64.wrap (2 ^ min q 64) = ((2 ^ q : Nat) : Int) := by
  have e : min q 64 = q := by omega
  rw [e]
  have h1 : 2 ^ q < 2 ^ 12 := Nat.pow_lt_pow_right (by omega) h
  rw [IntKind.wrap_u64]
  have : ((2 : Int) ^ q) = ((2 ^ q : Nat) : Int) := by simp
  rw [this]
  generalize 2 ^ q = y at *
  omega
/-- what setOf gives -/
def SetPost (p : List Int) (w : World) (e : Ending) (w' : World) : Prop := ∃ (b : Bool) (z : Nat), e = .returned (.tuple #[.int .u64 z, .bool b]) ∧ (b = true ↔ Lit12 p) ∧ (b = true → z = setB p) ∧ Below w.heap.size w w'
set_option maxRecDepth 100000 in
set_option maxHeartbeats 1600000 in
theorem setOf_any (v : Value) (p : List Int) (w : World) (h : IntR w (fun b => b < w.heap.size) v p) (hp : p.length ≤ 100000) :
    Calls Tryd.prog 30 #[v] w (SetPost p w) := by
  obtain ⟨A, c, rfl, _⟩ := h.form
  obtain ⟨n, hn⟩ : ∃ n, n = p.length := ⟨_, rfl⟩
  rw [← hn] at hp h ⊢
  have HN := Lib.hid (And.intro h (And.intro hn.symm hp))
  clear h hp hn
  go_enter Tryd.func30, Tryd.ntmps30
  go_wp2_with fail
  go_loopw [2, 5, 8] (fun s _ i wr => ∃ (k z : Nat), i = .int .i64 k ∧ k ≤ n ∧ s = .int .u64 z ∧ Hid (z = setB (p.take k) ∧ Lit12 (p.take k)) ∧ Hid (Below w.heap.size w wr)) (fun _ _ i _ => n - (intOf i).toNat)
  case atStart => exact ⟨0, 0, rfl, by omega, rfl, Lib.hid ⟨rfl, fun x hx => by simp at hx⟩, Lib.hid (Below.refl _ _)⟩
  case round =>
    obtain ⟨k, z, rfl, hk, rfl, hz, hwr⟩ := hrel
    by_cases hkn : k < n
    · obtain ⟨gI, gn, gl⟩ := HN.out
      obtain ⟨b, off, x, rfl, _, _, hx, cx⟩ := IntR.at (RowB.on gI hwr.out (fun _ _ h => h)) hkn
      have kn : (k : Int) < (n : Int) := by omega
      have k0 : (0 : Int) ≤ (k : Int) := by omega
      have hwk : IntKind.i64.wrap ((k : Int) + 1) = ((k + 1 : Nat) : Int) := by rw [IntWalk.i64_in _ (by omega)]; omega
      have HX := Lib.hid (And.intro hkn hx)
      have hlit := isLiteral_any x wr
      clear gI gn gl hkn hx hk
      by_cases hd : 0 ≤ x ∧ x < 12
      · rw [decide_eq_true hd] at hlit
        obtain ⟨q, rfl⟩ : ∃ q : Nat, x = (q : Int) := ⟨x.toNat, by omega⟩
        have hq : q < 12 := by omega
        have hsh := shl_lit q hq
        have hzl : z < 4096 := by rw [hz.out.1]; exact setB_lt hz.out.2
        have hpl : 2 ^ q < 2 ^ 12 := Nat.pow_lt_pow_right (by omega) hq
        have hor := bits_or_u64_nat z (2 ^ q) (by omega) (by omega)
        have HZ : Hid (z ||| 2 ^ q = setB (p.take (k + 1)) ∧ Lit12 (p.take (k + 1))) := Lib.hid (by
          have e : p.take (k + 1) = p.take k ++ [(q : Int)] := by rw [List.take_add_one, HX.out.2]; rfl
          rw [e, setB_snoc, hz.out.1]
          exact ⟨rfl, fun y hy => by
            rcases List.mem_append.1 hy with hy | hy
            · exact hz.out.2 y hy
            · rw [List.mem_singleton] at hy; subst hy; omega⟩)
        have q0 : (0 : Int) ≤ (q : Int) := by omega
        clear hd hzl hq
        generalize (2 ^ q : Nat) = y at *
        clear hpl
        go_wp2_with fail
        refine hlit.mono ?_
        rintro e w5 ⟨rfl, rfl⟩
        clear hlit
        go_wp2_with fail
        go_roundw
        case rel => exact ⟨k + 1, z ||| y, by go_num, by have := HX.out.1; omega, by go_num, HZ, hwr⟩
        case measure => have := HX.out.1; simp [intOf]; omega
      · rw [decide_eq_false hd] at hlit
        have HNO : Hid (¬ Lit12 p) := Lib.hid fun h => hd (h x (List.mem_of_getElem? HX.out.2))
        clear hd
        go_wp2_with fail
        refine hlit.mono ?_
        rintro e w5 ⟨rfl, rfl⟩
        clear hlit
        go_wp2
        refine bodyPost_ret (v := .tuple #[.int .u64 0, .bool false]) (by simp [results, Tryd.results30, go_sem]) rfl ?_
        exact ⟨false, 0, rfl, ⟨nofun, fun h => absurd h HNO.out⟩, nofun, hwr.out⟩
    · have q1 : ¬ (k : Int) < (n : Int) := by omega
      obtain rfl : k = n := by omega
      have HZ : Hid (z = setB p ∧ Lit12 p) := Lib.hid (by
        have h := hz.out
        rw [List.take_of_length_le (by have := HN.out.2.1; omega)] at h
        exact h)
      clear hk hkn
      go_wp2
      refine bodyPost_ret (v := .tuple #[.int .u64 z, .bool true]) (by simp [results, Tryd.results30, go_sem]) rfl ?_
      exact ⟨true, z, rfl, ⟨fun _ => HZ.out.2, fun _ => rfl⟩, fun _ => HZ.out.1, hwr.out⟩
end Go.Proofs.YtplmbmecjhmiiaaDoor
namespace Go.Proofs.YtplmbmecjhmiiaaDoor
open Go Go.RowKit
/-- the table of the look-up lies in its variable -/
def TabW (w : World) : Prop := TabAt 1 Lib.deBruijn64tab w
theorem TabW.on {w w' : World} (h : TabW w) (hb : Below w.heap.size w w') : TabW w' := fun j hj => by
  have hc := h j hj
  exact (hb.cell (World.block_lt_of_cell? _ _ hc)).trans hc
theorem trailing_any (x : Nat) (hx : x < 4096) (w : World) (hT : TabW w) : Calls Tryd.prog 49 #[.int .u64 x] w fun e w' => e = .returned (.int .i64 (Lib.ctz 64 x)) ∧ w' = w :=
  Any7.bits_TrailingZeros Tryd.laysTZ x (by omega) w fun _ => hT
theorem Low.take {l : List Tm} {m : Nat} (h : Low l m) (k : Nat) : Low (l.take k) m := fun t ht => h t (List.mem_of_mem_take ht)
theorem or_lt12 {a b : Nat} (ha : a < 4096) (hb : b < 4096) : a ||| b < 4096 := Nat.or_lt_two_pow (n := 12) ha hb
set_option maxRecDepth 100000 in
set_option maxHeartbeats 1600000 in
theorem firstLiteral_any (v : Value) (l : List Tm) (m : Nat) (w : World) (h : TmR w (fun b => b < w.heap.size) v l) (hl : l.length ≤ 100000) (hlow : Low l m) (hT : TabW w) :
    Calls Tryd.prog 34 #[v] w fun e w' => e = .returned (.int .i64 (Lib.ctz 64 (orT l))) ∧ Below w.heap.size w w' := by
  obtain ⟨A, c, rfl⟩ := h.form
  obtain ⟨n, hn⟩ : ∃ n, n = l.length := ⟨_, rfl⟩
  rw [← hn] at hl h ⊢
  have HN := Lib.hid (And.intro h (And.intro hn.symm (And.intro hl (And.intro hlow hT))))
  clear h hl hn hlow hT
  go_enter Tryd.func34, Tryd.ntmps34
  go_wp2_with fail
  go_loopw [3, 5, 8] (fun s _ i wr => ∃ (k z : Nat), i = .int .i64 k ∧ k ≤ n ∧ s = .int .u64 z ∧ Hid (z = orT (l.take k)) ∧ Hid (Below w.heap.size w wr)) (fun _ _ i _ => n - (intOf i).toNat)
  case atStart => exact ⟨0, 0, rfl, by omega, rfl, Lib.hid rfl, Lib.hid (Below.refl _ _)⟩
  case round =>
    obtain ⟨k, z, rfl, hk, rfl, hz, hwr⟩ := hrel
    by_cases hkn : k < n
    · obtain ⟨gI, gn, gl, gw, _⟩ := HN.out
      obtain ⟨b, off, x, rfl, _, hx, c0, c1⟩ := (gI.on hwr.out).at (show k < l.length by omega)
      have kn : (k : Int) < (n : Int) := by omega
      have k0 : (0 : Int) ≤ (k : Int) := by omega
      have hwk : IntKind.i64.wrap ((k : Int) + 1) = ((k + 1 : Nat) : Int) := by rw [IntWalk.i64_in _ (by omega)]; omega
      obtain ⟨x1, x2⟩ := x
      dsimp only at c0 c1
      obtain ⟨g1, g2, _⟩ := gw _ (List.mem_of_getElem? hx)
      dsimp only at g1 g2
      have hzl : z < 4096 := by rw [hz.out]; exact orT_lt (gw.take k)
      have ho1 := bits_or_u64_nat x1 x2 (by omega) (by omega)
      have hxl := or_lt12 g1 g2
      have ho2 := bits_or_u64_nat z (x1 ||| x2) (by omega) (by omega)
      have HZ : Hid (z ||| (x1 ||| x2) = orT (l.take (k + 1))) := Lib.hid (by
        have e : l.take (k + 1) = l.take k ++ [(x1, x2)] := by rw [List.take_add_one, hx]; rfl
        rw [e, orT_snoc, hz.out])
      have HX := Lib.hid hkn
      obtain ⟨V4, hV4⟩ : ∃ V4, V4 = wr.alloc (.cells #[.int .u64 x1, .int .u64 x2] 64) := ⟨_, rfl⟩
      have hb4 : Below wr.heap.size wr V4 := by rw [hV4]; exact (Below.refl _ _).alloc (Nat.le_refl _) _
      have k4 : V4.heap[wr.heap.size]? = some (.cells #[.int .u64 x1, .int .u64 x2] 64 (0, 0)) := by rw [hV4]; exact heap_alloc_new wr _
      have HB4 := Lib.hid (hwr.out.trans (hb4.mono hwr.out.size))
      obtain ⟨f0, f1⟩ := cells2 k4
      rw [hV4] at f0 f1
      clear gI gn gl gw g1 g2 hkn hx hk hzl hxl hb4 k4
      generalize z ||| (x1 ||| x2) = y at *
      generalize x1 ||| x2 = y2 at *
      go_wp2_with fail
      rw [← hV4]
      clear hV4 f0 f1 c0 c1
      go_roundw
      case rel => exact ⟨k + 1, y, by go_num, by have := HX.out; omega, by go_num, HZ, HB4⟩
      case measure => have := HX.out; simp [intOf]; omega
    · have q1 : ¬ (k : Int) < (n : Int) := by omega
      obtain rfl : k = n := by omega
      have HZ : Hid (z = orT l) := Lib.hid (by
        have h := hz.out
        rw [List.take_of_length_le (by have := HN.out.2.1; omega)] at h
        exact h)
      have htz := trailing_any z (by rw [HZ.out]; exact orT_lt HN.out.2.2.2.1) wr (HN.out.2.2.2.2.on hwr.out)
      have HTZ := Lib.hid htz
      clear hk hkn htz
      go_wp2_with fail
      refine HTZ.out.mono ?_
      rintro e w5 ⟨rfl, rfl⟩
      go_wp2
      go_ret
      have he : (Ending.returned (.int .i64 (Lib.ctz 64 z)) : Ending) = .returned (.int .i64 (Lib.ctz 64 (orT l))) := by rw [HZ.out]
      exact ⟨he, hwr.out⟩
end Go.Proofs.YtplmbmecjhmiiaaDoor
namespace Go.Proofs.YtplmbmecjhmiiaaDoor
open Go Go.RowKit
theorem and_pow (a n : Nat) : a &&& 2 ^ n = if a.testBit n then 2 ^ n else 0 := by
  apply Nat.eq_of_testBit_eq
  intro k
  rw [Nat.testBit_and, Nat.testBit_two_pow]
  by_cases e : n = k
  · subst e
    cases h : a.testBit n <;> simp
  · rw [decide_eq_false e, Bool.and_false]
    cases h : a.testBit n
    · simp
    · rw [if_pos rfl, Nat.testBit_two_pow, decide_eq_false e]
theorem fixL_snoc (l : List Tm) (x : Tm) (n : Nat) (v : Bool) : fixL (l ++ [x]) n v = if (if v then x.2 else x.1).testBit n then fixL l n v else fixL l n v ++ [(anb x.1 (2 ^ n), anb x.2 (2 ^ n))] := by
  unfold fixL
  rw [List.filter_append, List.map_append]
  cases h : (if v then x.2 else x.1).testBit n <;> simp [h]
set_option maxRecDepth 100000 in
set_option maxHeartbeats 3200000 in
theorem fix_any (a : Value) (l : List Tm) (m q : Nat) (v : Bool) (w : World) (h : TmR w (fun b => b < w.heap.size) a l) (hl : l.length ≤ 100000) (hlow : Low l m) (hq : q < 12) :
    Calls Tryd.prog 35 #[a, .int .i64 q, .bool v] w fun e w' => ∃ a', e = .returned a' ∧ OwnT w' w.heap.size a' (fixL l q v) ∧ Below w.heap.size w w' := by
  obtain ⟨A, c, rfl⟩ := h.form
  obtain ⟨n, hn⟩ : ∃ n, n = l.length := ⟨_, rfl⟩
  rw [← hn] at hl h ⊢
  have HN := Lib.hid (And.intro h (And.intro hn.symm (And.intro hl (And.intro hlow hq))))
  have hsh := shl_lit q hq
  have HPW : Hid (2 ^ q < 2 ^ 12 ∧ 0 < 2 ^ q) := Lib.hid ⟨Nat.pow_lt_pow_right (by omega) hq, Nat.pow_pos (by omega)⟩
  have HFX : Hid (∀ k x, l[k]? = some x → fixL (l.take (k + 1)) q v = if (if v then x.2 else x.1) &&& 2 ^ q = 0 then fixL (l.take k) q v ++ [(anb x.1 (2 ^ q), anb x.2 (2 ^ q))] else fixL (l.take k) q v) := Lib.hid fun k x hx => by
    have e : l.take (k + 1) = l.take k ++ [x] := by rw [List.take_add_one, hx]; rfl
    rw [e, fixL_snoc, and_pow]
    have := HPW.out.2
    cases (if v then x.2 else x.1).testBit q <;> simp <;> omega
  have q0 : (0 : Int) ≤ (q : Int) := by omega
  clear h hl hn hlow hq
  obtain ⟨p, hp⟩ : ∃ p : Nat, p = 2 ^ q := ⟨_, rfl⟩
  rw [← hp] at hsh HPW HFX
  clear hp
  cases v
  · go_enter Tryd.func35, Tryd.ntmps35
    go_wp2_with fail
    go_loopw [7, 10, 11, 16] (fun s _ _ i wr => ∃ (k r : Nat) (Ao : Option Addr) (cap : Nat), i = .int .i64 k ∧ k ≤ n ∧ s = .slice Ao r cap ∧ Hid (OwnT wr w.heap.size (.slice Ao r cap) (fixL (l.take k) q false) ∧ (fixL (l.take k) q false).length = r) ∧ Hid (Below w.heap.size w wr)) (fun _ _ _ i _ => n - (intOf i).toNat)
    case atStart => exact ⟨0, 0, none, 0, rfl, by omega, rfl, Lib.hid ⟨OwnE.nil _ _ _ _ _, rfl⟩, Lib.hid (Below.refl _ _)⟩
    case round =>
      obtain ⟨k, r, Ao, cap, rfl, hk, rfl, hO, hwr⟩ := hrel
      by_cases hkn : k < n
      · obtain ⟨gI, gn, gl, gw, _⟩ := HN.out
        obtain ⟨b, off, x, rfl, _, hx, c0, c1⟩ := (gI.on hwr.out).at (show k < l.length by omega)
        have kn : (k : Int) < (n : Int) := by omega
        have k0 : (0 : Int) ≤ (k : Int) := by omega
        have hwk : IntKind.i64.wrap ((k : Int) + 1) = ((k + 1 : Nat) : Int) := by rw [IntWalk.i64_in _ (by omega)]; omega
        have hfx := HFX.out k x hx
        obtain ⟨x1, x2⟩ := x
        dsimp only at c0 c1
        obtain ⟨g1, g2, _⟩ := gw _ (List.mem_of_getElem? hx)
        dsimp only at g1 g2
        simp only [Bool.false_eq_true, if_false, if_true] at hfx
        have hand := bits_and_u64_nat x1 p (by omega) (by have := HPW.out.1; omega)
        have hn1 := bits_anb x1 p
        have hn2 := bits_anb x2 p
        have hrl : r ≤ 100000 := by
          have h1 := hO.out.2
          have h2 := fixL_len (l.take k) q false
          rw [List.length_take] at h2
          omega
        have HX := Lib.hid (And.intro hkn hrl)
        obtain ⟨V4, hV4⟩ : ∃ V4, V4 = wr.alloc (.cells #[.int .u64 x1, .int .u64 x2] 64) := ⟨_, rfl⟩
        have hb4 : Below wr.heap.size wr V4 := by rw [hV4]; exact (Below.refl _ _).alloc (Nat.le_refl _) _
        have k4 : V4.heap[wr.heap.size]? = some (.cells #[.int .u64 x1, .int .u64 x2] 64 (0, 0)) := by rw [hV4]; exact heap_alloc_new wr _
        have HB4 := Lib.hid (hwr.out.trans (hb4.mono hwr.out.size))
        have HO4 := Lib.hid (hO.out.1.old hb4)
        have hsz : V4.heap.size = wr.heap.size + 1 := by rw [hV4]; simp
        obtain ⟨f0, f1⟩ := cells2 k4
        by_cases hz : x1 &&& p = 0
        · rw [if_pos hz] at hfx
          have hO5 : OwnT V4 w.heap.size (.slice Ao (fixL (l.take k) q false).length cap) (fixL (l.take k) q false) := by rw [hO.out.2]; exact HO4.out
          obtain ⟨g, cap6, w6, hr6, hO6, hb6, _, _⟩ := app_t V4 w.heap.size _ _ hO5 (anb x1 p, anb x2 p) (by rw [hO.out.2]; omega) HB4.out.size 43
          rw [hO.out.2] at hr6 hO6
          have HO6 : Hid (OwnT w6 w.heap.size (.slice (some ⟨g, 0, none⟩) (r + 1) cap6) (fixL (l.take (k + 1)) q false) ∧ (fixL (l.take (k + 1)) q false).length = r + 1) := Lib.hid ⟨by rw [hfx]; exact hO6, by rw [hfx, List.length_append, hO.out.2]; rfl⟩
          have HB6 := Lib.hid (HB4.out.trans hb6)
          have hz' : ((x1 &&& p : Nat) : Int) = 0 := by rw [hz]; rfl
          rw [hz'] at hand
          rw [hsz] at hr6
          rw [hV4] at f0 f1 hr6
          dsimp only at hr6
          clear gI gn gl gw g1 g2 hkn hx hk hb4 k4 hsz hV4 hO5 hO6 hb6 hfx hz hz' hrl
          go_wp2_with (at_builtin; refine Lib.wpList_append_run _ rfl _ _ 43 43 rfl _ _ rfl rfl _ w6 hr6 ?_)
          clear c0 c1 f0 f1 hr6 hand hn1 hn2
          go_wp2_with fail
          go_roundw
          case rel => exact ⟨k + 1, r + 1, some ⟨g, 0, none⟩, cap6, by go_num, by have := HX.out; omega, by go_num, HO6, HB6⟩
          case measure => have := HX.out; simp [intOf]; omega
        · rw [if_neg hz] at hfx
          have HO6 : Hid (OwnT V4 w.heap.size (.slice Ao r cap) (fixL (l.take (k + 1)) q false) ∧ (fixL (l.take (k + 1)) q false).length = r) := Lib.hid ⟨by rw [hfx]; exact HO4.out, by rw [hfx, hO.out.2]⟩
          obtain ⟨y, hy⟩ : ∃ y : Nat, y = x1 &&& p := ⟨_, rfl⟩
          rw [← hy] at hand hz
          have hne : ¬ (y : Int) = 0 := by omega
          rw [hV4] at f0 f1
          clear gI gn gl gw g1 g2 hkn hx hk hb4 k4 hsz hfx hz hy hn1 hn2 hrl
          go_wp2_with fail
          rw [← hV4]
          clear hV4 c0 c1 f0 f1 hand hne
          go_roundw
          case rel => exact ⟨k + 1, r, Ao, cap, by go_num, by have := HX.out; omega, by go_num, HO6, HB4⟩
          case measure => have := HX.out; simp [intOf]; omega
      · have q1 : ¬ (k : Int) < (n : Int) := by omega
        obtain rfl : k = n := by omega
        have HZ : Hid (OwnT wr w.heap.size (.slice Ao r cap) (fixL l q false)) := Lib.hid (by
          have h := hO.out.1
          rw [List.take_of_length_le (by have := HN.out.2.1; omega)] at h
          exact h)
        clear hk hkn
        go_wp2
        go_ret
        exact ⟨_, rfl, HZ.out, hwr.out⟩
  · go_enter Tryd.func35, Tryd.ntmps35
    go_wp2_with fail
    go_loopw [7, 10, 11, 16] (fun s _ _ i wr => ∃ (k r : Nat) (Ao : Option Addr) (cap : Nat), i = .int .i64 k ∧ k ≤ n ∧ s = .slice Ao r cap ∧ Hid (OwnT wr w.heap.size (.slice Ao r cap) (fixL (l.take k) q true) ∧ (fixL (l.take k) q true).length = r) ∧ Hid (Below w.heap.size w wr)) (fun _ _ _ i _ => n - (intOf i).toNat)
    case atStart => exact ⟨0, 0, none, 0, rfl, by omega, rfl, Lib.hid ⟨OwnE.nil _ _ _ _ _, rfl⟩, Lib.hid (Below.refl _ _)⟩
    case round =>
      obtain ⟨k, r, Ao, cap, rfl, hk, rfl, hO, hwr⟩ := hrel
      by_cases hkn : k < n
      · obtain ⟨gI, gn, gl, gw, _⟩ := HN.out
        obtain ⟨b, off, x, rfl, _, hx, c0, c1⟩ := (gI.on hwr.out).at (show k < l.length by omega)
        have kn : (k : Int) < (n : Int) := by omega
        have k0 : (0 : Int) ≤ (k : Int) := by omega
        have hwk : IntKind.i64.wrap ((k : Int) + 1) = ((k + 1 : Nat) : Int) := by rw [IntWalk.i64_in _ (by omega)]; omega
        have hfx := HFX.out k x hx
        obtain ⟨x1, x2⟩ := x
        dsimp only at c0 c1
        obtain ⟨g1, g2, _⟩ := gw _ (List.mem_of_getElem? hx)
        dsimp only at g1 g2
        simp only [Bool.false_eq_true, if_false, if_true] at hfx
        have hand := bits_and_u64_nat x2 p (by omega) (by have := HPW.out.1; omega)
        have hn1 := bits_anb x1 p
        have hn2 := bits_anb x2 p
        have hrl : r ≤ 100000 := by
          have h1 := hO.out.2
          have h2 := fixL_len (l.take k) q true
          rw [List.length_take] at h2
          omega
        have HX := Lib.hid (And.intro hkn hrl)
        obtain ⟨V4, hV4⟩ : ∃ V4, V4 = wr.alloc (.cells #[.int .u64 x1, .int .u64 x2] 64) := ⟨_, rfl⟩
        have hb4 : Below wr.heap.size wr V4 := by rw [hV4]; exact (Below.refl _ _).alloc (Nat.le_refl _) _
        have k4 : V4.heap[wr.heap.size]? = some (.cells #[.int .u64 x1, .int .u64 x2] 64 (0, 0)) := by rw [hV4]; exact heap_alloc_new wr _
        have HB4 := Lib.hid (hwr.out.trans (hb4.mono hwr.out.size))
        have HO4 := Lib.hid (hO.out.1.old hb4)
        have hsz : V4.heap.size = wr.heap.size + 1 := by rw [hV4]; simp
        obtain ⟨f0, f1⟩ := cells2 k4
        by_cases hz : x2 &&& p = 0
        · rw [if_pos hz] at hfx
          have hO5 : OwnT V4 w.heap.size (.slice Ao (fixL (l.take k) q true).length cap) (fixL (l.take k) q true) := by rw [hO.out.2]; exact HO4.out
          obtain ⟨g, cap6, w6, hr6, hO6, hb6, _, _⟩ := app_t V4 w.heap.size _ _ hO5 (anb x1 p, anb x2 p) (by rw [hO.out.2]; omega) HB4.out.size 43
          rw [hO.out.2] at hr6 hO6
          have HO6 : Hid (OwnT w6 w.heap.size (.slice (some ⟨g, 0, none⟩) (r + 1) cap6) (fixL (l.take (k + 1)) q true) ∧ (fixL (l.take (k + 1)) q true).length = r + 1) := Lib.hid ⟨by rw [hfx]; exact hO6, by rw [hfx, List.length_append, hO.out.2]; rfl⟩
          have HB6 := Lib.hid (HB4.out.trans hb6)
          have hz' : ((x2 &&& p : Nat) : Int) = 0 := by rw [hz]; rfl
          rw [hz'] at hand
          rw [hsz] at hr6
          rw [hV4] at f0 f1 hr6
          dsimp only at hr6
          clear gI gn gl gw g1 g2 hkn hx hk hb4 k4 hsz hV4 hO5 hO6 hb6 hfx hz hz' hrl
          go_wp2_with (at_builtin; refine Lib.wpList_append_run _ rfl _ _ 43 43 rfl _ _ rfl rfl _ w6 hr6 ?_)
          clear c0 c1 f0 f1 hr6 hand hn1 hn2
          go_wp2_with fail
          go_roundw
          case rel => exact ⟨k + 1, r + 1, some ⟨g, 0, none⟩, cap6, by go_num, by have := HX.out; omega, by go_num, HO6, HB6⟩
          case measure => have := HX.out; simp [intOf]; omega
        · rw [if_neg hz] at hfx
          have HO6 : Hid (OwnT V4 w.heap.size (.slice Ao r cap) (fixL (l.take (k + 1)) q true) ∧ (fixL (l.take (k + 1)) q true).length = r) := Lib.hid ⟨by rw [hfx]; exact HO4.out, by rw [hfx, hO.out.2]⟩
          obtain ⟨y, hy⟩ : ∃ y : Nat, y = x2 &&& p := ⟨_, rfl⟩
          rw [← hy] at hand hz
          have hne : ¬ (y : Int) = 0 := by omega
          rw [hV4] at f0 f1
          clear gI gn gl gw g1 g2 hkn hx hk hb4 k4 hsz hfx hz hy hn1 hn2 hrl
          go_wp2_with fail
          rw [← hV4]
          clear hV4 c0 c1 f0 f1 hand hne
          go_roundw
          case rel => exact ⟨k + 1, r, Ao, cap, by go_num, by have := HX.out; omega, by go_num, HO6, HB4⟩
          case measure => have := HX.out; simp [intOf]; omega
      · have q1 : ¬ (k : Int) < (n : Int) := by omega
        obtain rfl : k = n := by omega
        have HZ : Hid (OwnT wr w.heap.size (.slice Ao r cap) (fixL l q true)) := Lib.hid (by
          have h := hO.out.1
          rw [List.take_of_length_le (by have := HN.out.2.1; omega)] at h
          exact h)
        clear hk hkn
        go_wp2
        go_ret
        exact ⟨_, rfl, HZ.out, hwr.out⟩
end Go.Proofs.YtplmbmecjhmiiaaDoor
