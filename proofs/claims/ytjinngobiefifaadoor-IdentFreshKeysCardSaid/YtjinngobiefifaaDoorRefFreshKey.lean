/- What the document's FreshKey returns. Conditions: at most 1000000 keys are used, and the free key is among the first 61. -/
import Derived.Test.YtjinngobiefifaaDoorFreshKey
import Derived.Test.YtjinngobiefifaaDoorFreshLaw
namespace Go.Proofs.YtjinngobiefifaaDoor
open Go.RowKit
theorem Tryd.infoStr : (Tryd.prog.info? 9).map (fun i => (i.zero, i.size, i.bytes)) = some (some (.string ⟨#[]⟩), 1, 16) := by kernel_rfl
def strsOf (kind : Int) (ks : List (Int × ByteArray)) : List ByteArray := (ks.filter (fun k => k.1 == kind)).map (fun k => k.2)
theorem lists_strsOf (kind : Int) (ks : List (Int × ByteArray)) : lists (strsOf kind ks) = textsOf kind ks := by
  unfold lists strsOf textsOf
  rw [List.map_map]; rfl
theorem strsOf_hit {kind : Int} {ks : List (Int × ByteArray)} {j : Nat} {k : Int × ByteArray} (h : ks[j]? = some k) (hk : k.1 = kind) : strsOf kind (ks.take (j + 1)) = strsOf kind (ks.take j) ++ [k.2] := by
  unfold strsOf
  rw [List.take_add_one, h]
  simp [List.filter_append, hk]
theorem strsOf_miss {kind : Int} {ks : List (Int × ByteArray)} {j : Nat} {k : Int × ByteArray} (h : ks[j]? = some k) (hk : k.1 ≠ kind) : strsOf kind (ks.take (j + 1)) = strsOf kind (ks.take j) := by
  unfold strsOf
  rw [List.take_add_one, h]
  simp [List.filter_append, hk]
theorem strsOf_len (kind : Int) (ks : List (Int × ByteArray)) (k : Nat) : (strsOf kind (ks.take k)).length ≤ k := by
  unfold strsOf
  rw [List.length_map]
  have := List.length_filter_le (fun k : Int × ByteArray => k.1 == kind) (ks.take k)
  have := List.length_take_le k ks
  omega
/-- The slice v owns the strings ss, in a block from B on. -/
def OwnS (w : World) (B : Nat) (v : Value) (ss : List ByteArray) : Prop := w.ownsRow B 9 1 v ss.length (ss.map Value.string)
theorem wp_app_str {ops : Array Oper} {rest : List Oper} {o : Oper} {a : Act} {Q : Exit → Act → World → Prop} {w0 : World} (hgd : o.guard = none) (s x : Operand)
    (ho : o.op = .call { callee := .builtin .append, args := #[s, x], argTypes := #[42, 42] }) (B : Nat) (v : Value) (ss : List ByteArray) (hs : a.eval s = v) (hown : OwnS w0 B v ss)
    (y : ByteArray) (hx : a.eval x = .slice (some ⟨w0.heap.size, 0, none⟩) 1 1) (hbytes : ss.length ≤ 1000000) (hbase : B ≤ w0.heap.size)
    (h : ∀ v' w', OwnS w' B v' (ss ++ [y]) → Below B w0 w' → wpList Tryd.prog ops Q rest (a.put o.dst v') w') :
    wpList Tryd.prog ops Q (o :: rest) a (w0.alloc (.cells #[.string y] 9)) := by
  obtain ⟨i0, hi, hz0, hz1, hz2⟩ := info_parts Tryd.infoStr
  refine wpList_append_own _ hgd s x 42 ho B 9 i0 (.string ⟨#[]⟩) 1 16 Tryd.underlying42 hi hz0 hz1 hz2 rfl (by decide) v ss.length (ss.map Value.string) hs (World.ownsRow.alloc hown _)
    ⟨w0.heap.size, 0, none⟩ 1 1 [.string y] hx (by simp) ?_ ?_ (by unfold maxLen; omega) (by omega) (by simp; omega) ?_
  · exact World.news_of_block (cs := #[.string y]) (heap_alloc_new w0 _)
  · intro u hu
    simp only [List.mem_singleton] at hu
    subst hu; rfl
  · intro v' w' h1 h2 _
    refine h v' w' (by unfold OwnS; rw [List.length_append, List.map_append]; exact h1) ?_
    exact ((Below.refl B w0).alloc hbase _).grown h2 (by simp; omega) (fun j hj => (hown.lt j hj).1)
theorem OwnS.strS {w : World} {B : Nat} {v : Value} {ss : List ByteArray} (h : OwnS w B v ss) (hm : ∀ s ∈ ss, s.size ≤ maxLen) : ∃ A n cap, v = .slice A n cap ∧ n = ss.length ∧ StrS w w.heap.size A n ss := by
  obtain ⟨hlen, ⟨rfl, h0⟩ | ⟨g, cap, cur, rfl, hB, hg, hnc, hcm, hcs, htk⟩⟩ := id h
  · obtain rfl : ss = [] := List.eq_nil_of_length_eq_zero h0
    exact ⟨_, _, _, rfl, rfl, rfl, by simp, fun h => by omega⟩
  · refine ⟨_, _, _, rfl, rfl, rfl, hm, fun _ => ⟨g, 0, rfl, ?_, ?_⟩⟩
    · rcases Nat.lt_or_ge g w.heap.size with hlt | hge
      · exact hlt
      · rw [Array.getElem?_eq_none hge] at hg; cases hg
    · intro j s hs
      have hj : j < ss.length := (List.getElem?_eq_some_iff.1 hs).1
      have := World.ownsRow.cellAt h j (by omega)
      rw [Nat.zero_add, this, List.getElem?_map, hs]; rfl
theorem refFreshK (kind : Int) (A : Option Addr) (n cap : Nat) (ss : List ByteArray) (ks : List (Int × ByteArray)) (r : Int) (t : List UInt8) (w : World) (hS : StrS w w.heap.size A n ss) (hn : n ≤ 1000000) (hl : lists ss = textsOf kind ks) (hk : kind = 0 ∨ kind = 1) (hFK : FK kind ks r t) :
    r = kind ∧ Calls Tryd.prog 49 #[.int .i64 kind, .slice A n cap] w fun e w' => e = .returned (.string ⟨t.toArray⟩) ∧ Below w.heap.size w w' := by
  rcases hFK with ⟨rfl, rfl, N, hN, rfl, hin, hout⟩ | ⟨rfl, rfl, N, hN, rfl, hin, hout⟩ | ⟨h1, h2, _⟩
  · rw [← hl] at hin hout
    refine ⟨rfl, ?_⟩
    have h := refFresh0 A n cap N ss w hS hn (fun j hj => by rw [iterR_eq j (by omega)]; exact iterA_len j (by omega)) (fun j hj => by rw [iterR_eq j (by omega)]; exact hin j hj) (by rw [iterR_eq N hN]; exact hout)
    rw [iterR_eq N hN] at h
    exact h
  · rw [← hl] at hin hout
    exact ⟨rfl, refFresh1 A n cap N ss w hS hn hN hin hout⟩
  · omega
set_option maxRecDepth 100000 in
set_option maxHeartbeats 3200000 in
theorem refFreshKey_any (kind : Int) (A : Option Addr) (n cap : Nat) (ks : List (Int × ByteArray)) (r : Int) (t : List UInt8) (w : World) (hK : KeyS w w.heap.size A n ks) (hn : n ≤ 1000000) (hFK : FK kind ks r t) :
    Calls Tryd.prog 29 #[.int .i64 kind, .slice A n cap] w fun e w' => e = .returned (.agg #[.int .i64 r, .string ⟨t.toArray⟩]) ∧ Below w.heap.size w w' := by
  have HK := Lib.hid hK
  clear hK
  have hb0 : Below w.heap.size w (w.alloc (.cells #[.int .i64 0, .string ⟨#[]⟩] 23)) := (Below.refl _ _).alloc (Nat.le_refl _) _
  have hblk : (w.alloc (.cells #[.int .i64 0, .string ⟨#[]⟩] 23)).heap[w.heap.size]? = some (.cells #[.int .i64 0, .string ⟨#[]⟩] 23 (0, 0)) := heap_alloc_new w _
  have HBLK := Lib.hid hblk
  clear hblk
  by_cases hk01 : kind = 0 ∨ kind = 1
  · have q0 : (kind != 0 && kind != 1) = false := by
      rcases hk01 with rfl | rfl <;> rfl
    have HF := Lib.hid hFK
    have HK01 := Lib.hid hk01
    have main : ∀ b0 : Bool, (kind != 0) = b0 → Calls Tryd.prog 29 #[.int .i64 kind, .slice A n cap] w fun e w' => e = .returned (.agg #[.int .i64 r, .string ⟨t.toArray⟩]) ∧ Below w.heap.size w w' := by
      intro b0 hb0'
      have q1 : b0 = true → (kind != 1) = false := by
        intro e; subst e; rw [hb0'] at q0; simpa using q0
      cases b0
      all_goals
        try have q2 := q1 rfl
        clear q1 q0 hk01 hFK
        go_enter Tryd.func29, Tryd.ntmps29
        go_wp2_with fail
        go_loopw [6, 5] (fun i v wr => ∃ k : Nat, i = .int .i64 k ∧ k ≤ n ∧ OwnS wr (w.heap.size + 1) v (strsOf kind (ks.take k)) ∧ wr.heap[w.heap.size]? = some (.cells #[.int .i64 0, .string ⟨#[]⟩] 23 (0, 0)) ∧ Below w.heap.size w wr ∧ w.heap.size + 1 ≤ wr.heap.size) (fun i _ _ => n - (intOf i).toNat)
        case atStart => exact ⟨0, rfl, by omega, World.ownsRow_nil _ _ _ _, HBLK.out, hb0, by simp⟩
        case round =>
          obtain ⟨k, rfl, hk, hO, hb4, hb, hsz⟩ := hrel
          have hsr := hb.size
          by_cases hkn : k < n
          · obtain ⟨b, off, rfl, hbl, hc⟩ := (HK.out.below hb).2.2 (by omega)
            obtain ⟨x, hx⟩ : ∃ x, ks[k]? = some x := ⟨ks[k]'(by have := HK.out.1; omega), List.getElem?_eq_getElem _⟩
            obtain ⟨x1, x2⟩ := x
            obtain ⟨hc1, hc2⟩ := hc k _ hx
            simp only at hc1 hc2
            have hsl := strsOf_len kind ks k
            have HB4 := Lib.hid hb4
            clear hb4
            by_cases hkk : x1 = kind
            · have q5 : (x1 == kind) = true := by rw [beq_iff_eq]; exact hkk
              have HT := Lib.hid (strsOf_hit hx hkk)
              clear hc hx hkk
              go_wp2_with (at_builtin; refine wp_app_str rfl _ _ rfl (w.heap.size + 1) _ _ rfl hO x2 rfl (by omega) hsz ?_; intro v' w1 hown' hbl; refine Hid.out ?_)
              refine Lib.hid ?_
              go_wp2
              go_roundw
              case rel => exact ⟨k + 1, by go_num, by omega, by rw [HT.out]; exact hown', (hbl.block _ (by omega)).trans HB4.out, hb.trans (hbl.mono (by omega)), by have := hbl.size; omega⟩
              case measure => simp [intOf]; omega
            · have q5 : (x1 == kind) = false := by rw [beq_eq_false_iff_ne]; exact hkk
              have HT := Lib.hid (strsOf_miss hx hkk)
              clear hc hx hkk
              go_wp2
              go_roundw
              case rel => exact ⟨k + 1, by go_num, by omega, by rw [HT.out]; exact hO, HB4.out, hb, hsz⟩
              case measure => simp [intOf]; omega
          · have hke : Hid (ks.take k = ks) := Lib.hid (List.take_of_length_le (by have := HK.out.1; omega))
            have hsl := strsOf_len kind ks k
            rw [hke.out] at hO hsl
            have hmx : ∀ s ∈ strsOf kind ks, s.size ≤ maxLen := by
              intro s hs
              unfold strsOf at hs
              obtain ⟨y, hy, rfl⟩ := List.mem_map.1 hs
              exact HK.out.2.1 y (List.mem_filter.1 hy).1
            obtain ⟨A2, n2, cap2, rfl, hn2, hS2⟩ := hO.strS hmx
            obtain ⟨hrk, hcall⟩ := refFreshK kind A2 n2 cap2 _ ks r t wr hS2 (by omega) (lists_strsOf kind ks) HK01.out HF.out
            have HCALL := Lib.hid hcall
            have HRK := Lib.hid hrk
            have HB4 := Lib.hid hb4
            clear hcall hrk hO hmx hb4 hn2 hS2
            go_wp2_with fail
            refine HCALL.out.mono ?_
            rintro e w1 ⟨rfl, hb1⟩
            have hz1 := hb1.size
            have hh : w1.heap[w.heap.size]? = some (.cells #[.int .i64 0, .string ⟨#[]⟩] 23 (0, 0)) := (hb1.block _ (by omega)).trans HB4.out
            have d0 : w1.cell? ⟨w.heap.size, 0, none⟩ = some (.int .i64 0) := by rw [Lib.cell_of_heap hh]; rfl
            have d1 : w1.cell? ⟨w.heap.size, 1, none⟩ = some (.string ⟨#[]⟩) := by rw [Lib.cell_of_heap hh]; rfl
            have g0 : w1.frozen? ⟨w.heap.size, 0, none⟩ = false := Lib.frozen_of_heap hh 0
            have g1 : w1.frozen? ⟨w.heap.size, 1, none⟩ = false := Lib.frozen_of_heap hh 1
            have hbw : Below w.heap.size w w1 := hb.trans (hb1.mono hsr)
            clear hh hb1 hb
            go_wp2
            refine bodyPost_ret (v := .agg #[.int .i64 kind, .string ⟨t.toArray⟩]) (by simp [results, Tryd.results29, go_sem, d0, d1]) rfl ⟨by rw [HRK.out], ?_⟩
            exact (hbw.setCell (p := ⟨w.heap.size, 0, none⟩) (Nat.le_refl _) _).setCell (p := ⟨w.heap.size, 1, none⟩) (Nat.le_refl _) _
    exact main _ rfl
  · have q0 : (kind != 0) = true := by rw [bne_iff_ne]; omega
    have q1 : (kind != 1) = true := by rw [bne_iff_ne]; omega
    rcases hFK with ⟨h1, _⟩ | ⟨h1, _⟩ | ⟨_, _, rfl, rfl⟩
    · omega
    · omega
    · clear hk01
      go_enter Tryd.func29, Tryd.ntmps29
      go_wp2
      refine bodyPost_ret (v := .agg #[.int .i64 0, .string ⟨#[]⟩]) (by simp [results, Tryd.results29, go_sem]) rfl ⟨rfl, ?_⟩
      first | exact hb0 | exact (Below.refl _ _).alloc (Nat.le_refl _) _
end Go.Proofs.YtjinngobiefifaaDoor
