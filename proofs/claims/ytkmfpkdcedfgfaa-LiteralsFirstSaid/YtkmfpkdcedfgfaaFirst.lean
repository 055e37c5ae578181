/- What firstUnlisted and First return. Condition: at most 60 strings. -/
import Derived.Test.YtkmfpkdcedfgfaaListed
import Derived.Test.YtkmfpkdcedfgfaaRefFreshK
import Derived.OwnWalk
namespace Go.Proofs.Ytkmfpkdcedfgfaa
open Go.RowKit Go.Sort
theorem field_key (a b : Value) (w : World) : (Instr.field 41 (.agg #[a, b]) 1).run Try.prog w = .ok b w := by kernel_rfl
theorem Try.infoK : (Try.prog.info? 41).map (fun i => (i.zero, i.size, i.bytes)) = some (some (.agg #[.int .i64 0, .string ⟨#[]⟩]), 2, 24) := by kernel_rfl
abbrev Ky := Int × ByteArray
def cellsKy (k : Ky) : List Value := [.int .i64 k.1, .string k.2]
def flatKy (l : List Ky) : List Value := l.flatMap cellsKy
theorem flatKy_cons (r : Ky) (b : List Ky) : flatKy (r :: b) = .int .i64 r.1 :: .string r.2 :: flatKy b := by simp [flatKy, cellsKy]
theorem flatKy_length : ∀ (l : List Ky), (flatKy l).length = l.length * 2
  | [] => rfl
  | r :: l => by rw [flatKy_cons]; simp [flatKy_length l]; omega
theorem flatKy_lo : ∀ (l : List Ky) (j : Nat) (r : Ky), l[j]? = some r → (flatKy l)[j * 2]? = some (.int .i64 r.1)
  | [], j, r, h => by simp at h
  | x :: l, 0, r, h => by simp at h; subst h; rw [flatKy_cons]; rfl
  | x :: l, j + 1, r, h => by
    rw [flatKy_cons, show (j + 1) * 2 = j * 2 + 1 + 1 by omega, List.getElem?_cons_succ, List.getElem?_cons_succ]
    exact flatKy_lo l j r (by simpa using h)
theorem flatKy_hi : ∀ (l : List Ky) (j : Nat) (r : Ky), l[j]? = some r → (flatKy l)[j * 2 + 1]? = some (.string r.2)
  | [], j, r, h => by simp at h
  | x :: l, 0, r, h => by simp at h; subst h; rw [flatKy_cons]; rfl
  | x :: l, j + 1, r, h => by
    rw [flatKy_cons, show (j + 1) * 2 + 1 = (j * 2 + 1) + 1 + 1 by omega, List.getElem?_cons_succ, List.getElem?_cons_succ]
    exact flatKy_hi l j r (by simpa using h)
theorem flatKy_set : ∀ (l : List Ky) (j : Nat) (r : Ky), ((flatKy l).set (j * 2) (.int .i64 r.1)).set (j * 2 + 1) (.string r.2) = flatKy (l.set j r)
  | [], j, r => by simp [flatKy]
  | x :: l, 0, r => by
    rw [flatKy_cons]
    show Value.int .i64 r.1 :: Value.string r.2 :: flatKy l = flatKy (r :: l)
    rw [flatKy_cons]
  | x :: l, j + 1, r => by
    rw [flatKy_cons, show (j + 1) * 2 + 1 = (j * 2 + 1) + 1 + 1 by omega, show (j + 1) * 2 = j * 2 + 1 + 1 by omega]
    rw [List.set_cons_succ, List.set_cons_succ, List.set_cons_succ, List.set_cons_succ, flatKy_set l j r, List.set_cons_succ, flatKy_cons]
theorem made_keys : ∀ n, (madeCells (Value.agg #[.int .i64 0, .string ⟨#[]⟩]).cells (n * 2)).toList = flatKy (List.replicate n (0, ⟨#[]⟩)) := by
  intro n
  have hz : (Value.agg #[.int .i64 0, .string ⟨#[]⟩]).cells = #[Value.int .i64 0, Value.string ⟨#[]⟩] := rfl
  rw [hz]
  apply List.ext_getElem?
  intro j
  by_cases hj : j < n * 2
  · have hl : (List.replicate n ((0 : Int), (⟨#[]⟩ : ByteArray)))[j / 2]? = some (0, ⟨#[]⟩) := by
      rw [List.getElem?_replicate, if_pos (by omega)]
    have h1 := flatKy_lo _ _ _ hl
    have h2 := flatKy_hi _ _ _ hl
    have e : (madeCells #[Value.int .i64 0, Value.string ⟨#[]⟩] (n * 2)).toList[j]? = some (#[Value.int .i64 0, Value.string ⟨#[]⟩] : Array Value)[j % 2]! := by
      simp [madeCells, hj]
    rw [e]
    rcases Nat.mod_two_eq_zero_or_one j with q | q
    · rw [show j / 2 * 2 = j by omega] at h1
      rw [h1, q]; rfl
    · rw [show j / 2 * 2 + 1 = j by omega] at h2
      rw [h2, q]; rfl
  · rw [List.getElem?_eq_none (by simp [madeCells]; omega), List.getElem?_eq_none (by rw [flatKy_length]; simp; omega)]
/-- v is a slice of the call's own that holds the keys ks -/
def OwnK (w : World) (B : Nat) (v : Value) (ks : List Ky) : Prop := w.ownsRow B 41 2 v ks.length (flatKy ks)
theorem OwnK.keyS {w : World} {B g n cap : Nat} {ks : List Ky} (h : OwnK w B (.slice (some ⟨g, 0, none⟩) n cap) ks) (hn : ks.length = n) (hs : ∀ k ∈ ks, k.2.size ≤ maxLen) : KeyS w w.heap.size (some ⟨g, 0, none⟩) n ks := by
  subst hn
  refine ⟨rfl, hs, fun _ => ⟨g, 0, rfl, (h.lt g rfl).2, fun j k hj => ?_⟩⟩
  have hlt : j < ks.length := (List.getElem?_eq_some_iff.1 hj).1
  rw [Nat.zero_add, World.ownsRow.cellAt h (j * 2) (by omega), World.ownsRow.cellAt h (j * 2 + 1) (by omega)]
  exact ⟨flatKy_lo ks j k hj, flatKy_hi ks j k hj⟩
theorem OwnK.set {w : World} {B g n cap : Nat} {ks : List Ky} (h : OwnK w B (.slice (some ⟨g, 0, none⟩) n cap) ks) (hn : ks.length = n) (j : Nat) (r : Ky) :
    OwnK ((w.setCell ⟨g, j * 2, none⟩ (.int .i64 r.1)).setCell ⟨g, j * 2 + 1, none⟩ (.string r.2)) B (.slice (some ⟨g, 0, none⟩) n cap) (ks.set j r) := by
  subst hn
  unfold OwnK
  rw [List.length_set, ← flatKy_set]
  exact (World.ownsRow.stored (World.ownsRow.stored h (j * 2) (.int .i64 r.1)).1 (j * 2 + 1) (.string r.2)).1
def keysOf (kind : Int) (ss : List Strg) : List Ky := ss.map fun s => (kind, mkB s)
theorem textsOf_keysOf (kind : Int) (ss : List Strg) : textsOf kind (keysOf kind ss) = ss := by
  unfold textsOf keysOf
  rw [List.filter_eq_self.2 (by intro k hk; obtain ⟨s, _, rfl⟩ := List.mem_map.1 hk; simp), List.map_map]
  conv => rhs; rw [← List.map_id ss]
  exact List.map_congr_left fun s _ => mkB_list s
/-- the keys stored so far, and zero keys behind them -/
def upTo (kind : Int) (ss : List Strg) (n k : Nat) : List Ky := keysOf kind (ss.take k) ++ List.replicate (n - k) (0, ⟨#[]⟩)
theorem upTo_length {kind : Int} {ss : List Strg} {n k : Nat} (hn : n = ss.length) (hk : k ≤ n) : (upTo kind ss n k).length = n := by
  unfold upTo keysOf; simp; omega
theorem upTo_set {kind : Int} {ss : List Strg} {n k : Nat} {s : Strg} (hn : n = ss.length) (hk : k < n) (hs : ss[k]? = some s) : (upTo kind ss n k).set k (kind, mkB s) = upTo kind ss n (k + 1) := by
  unfold upTo keysOf
  rw [List.take_add_one, hs, List.set_append, if_neg (by simp; omega)]
  have e : n - k = (n - (k + 1)) + 1 := by omega
  rw [e, List.replicate_succ]
  simp only [List.length_map, List.length_take]
  rw [show k - min k ss.length = 0 by omega]
  simp
set_option maxRecDepth 100000 in
set_option maxHeartbeats 3200000 in
theorem firstUnlisted_any (kind : Int) (A : Option Addr) (n c : Nat) (ss : List Strg) (r : Int) (t : Strg) (w : World) (hR : NmS w w.heap.size A n ss) (hn : n ≤ 60) (hFK : FK kind (keysOf kind ss) r t) :
    Calls Try.prog 37 #[.slice A n c, .int .i64 kind] w fun e w' => e = .returned (.string ⟨t.toArray⟩) ∧ Below w.heap.size w w' := by
  have HR := Lib.hid hR
  have HF := Lib.hid hFK
  clear hR hFK
  obtain ⟨i0, hi, hz0, hz1, hz2⟩ := info_parts Try.infoK
  have hfk := field_key
  go_enter Try.func37, Try.ntmps37
  go_wp2_with (at_make; refine wpList_make_full _ rfl _ _ 58 rfl w.heap.size 41 i0 (.agg #[.int .i64 0, .string ⟨#[]⟩]) 2 Try.underlying58 hi hz0 hz1 .i64 .i64 n n n rfl rfl rfl rfl (by rw [hz2]; omega) (by unfold maxLen; omega) (Nat.le_refl _) ?_; intro w1 hown hg; refine Hid.out ?_)
  refine Lib.hid ?_
  have hO : OwnK w1 w.heap.size (.slice (some ⟨w.heap.size, 0, none⟩) n n) (upTo kind ss n 0) := by
    unfold OwnK
    rw [upTo_length HR.out.1 (Nat.zero_le _)]
    rw [made_keys] at hown
    simpa [upTo, keysOf] using hown
  have hb1 : Below w.heap.size w w1 := (Below.refl _ _).grown hg (Nat.le_refl _) (fun j hj => by cases hj)
  clear hown hg hi hz0 hz1 hz2
  go_wp2_with fail
  go_loopw [13] (fun i wr => ∃ k : Nat, i = .int .i64 k ∧ k ≤ n ∧ OwnK wr w.heap.size (.slice (some ⟨w.heap.size, 0, none⟩) n n) (upTo kind ss n k) ∧ Below w.heap.size w wr) (fun i _ => n - (intOf i).toNat)
  case atStart => exact ⟨0, rfl, by omega, hO, hb1⟩
  case round =>
    obtain ⟨k, rfl, hk, hO, hb⟩ := hrel
    have hul := upTo_length (kind := kind) HR.out.1 hk
    by_cases hkn : k < n
    · obtain ⟨b, off, s, rfl, hbl, hx, hs, cs⟩ := (HR.out.below hb).at hkn
      have HX := Lib.hid (upTo_set (kind := kind) HR.out.1 hkn hx)
      have kn : (k : Int) < (n : Int) := by omega
      have k0 : (0 : Int) ≤ (k : Int) := by omega
      obtain ⟨u, hu⟩ : ∃ u, (upTo kind ss n k)[k]? = some u := ⟨_, List.getElem?_eq_getElem (by omega)⟩
      have hOw : wr.ownsRow w.heap.size 41 2 (.slice (some ⟨w.heap.size, 0, none⟩) n n) n (flatKy (upTo kind ss n k)) := by
        have := hO
        unfold OwnK at this
        rw [hul] at this
        exact this
      have d0 : wr.cell? ⟨w.heap.size, k * 2, none⟩ = some (.int .i64 u.1) := by rw [World.ownsRow.cellAt hOw (k * 2) (by omega)]; exact flatKy_lo _ _ _ hu
      have d1 : wr.cell? ⟨w.heap.size, k * 2 + 1, none⟩ = some (.string u.2) := by rw [World.ownsRow.cellAt hOw (k * 2 + 1) (by omega)]; exact flatKy_hi _ _ _ hu
      have f0 : wr.frozen? ⟨w.heap.size, k * 2, none⟩ = false := World.ownsRow.frozenAt hOw _
      have f1 : wr.frozen? ⟨w.heap.size, k * 2 + 1, none⟩ = false := World.ownsRow.frozenAt hOw _
      have HO2 := Lib.hid (hO.set hul k (kind, mkB s))
      clear hx hO hOw hul hu
      go_wp2
      go_roundw
      case rel => exact ⟨k + 1, by go_num, by omega, by rw [← HX.out]; exact HO2.out, (hb.setCell (p := ⟨w.heap.size, k * 2, none⟩) (Nat.le_refl _) _).setCell (p := ⟨w.heap.size, k * 2 + 1, none⟩) (Nat.le_refl _) _⟩
      case measure => simp [intOf]; omega
    · obtain rfl : k = n := by omega
      have e : upTo kind ss k k = keysOf kind ss := by
        unfold upTo
        rw [Nat.sub_self, List.replicate_zero, List.append_nil, List.take_of_length_le (by have := HR.out.1; omega)]
      rw [e] at hO hul
      have hks := hO.keyS hul (fun q hq => by
        obtain ⟨s, hs, rfl⟩ := List.mem_map.1 hq
        rw [mkB_size]; exact HR.out.2.1 s hs)
      have hf := freshKey_any kind (some ⟨w.heap.size, 0, none⟩) k k (keysOf kind ss) r t wr hks (by omega) HF.out
      have HB := Lib.hid hb
      clear hO hul e hks hb
      go_wp2_with (go_at_call 47; refine hf.mono ?_; rintro e w2 ⟨rfl, hb2⟩; refine Hid.out ?_)
      refine Lib.hid ?_
      go_wp2
      go_ret
      exact ⟨rfl, HB.out.trans (hb2.mono HB.out.size)⟩
end Go.Proofs.Ytkmfpkdcedfgfaa
