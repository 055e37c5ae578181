/- Bytes that the call appends to a slice of its own; what the document's Quote returns. Condition: the string has at most 2^45 - 2 bytes. -/
import Derived.Test.YtjinngobiefifaaDoorQuote
import Derived.Deep.AppendLies
import Derived.Deep.RegionLaw
namespace Go.Proofs.YtjinngobiefifaaDoor
open Go.RowKit
theorem Tryd.infoU8 : (Tryd.prog.info? 5).map (fun i => (i.zero, i.size, i.bytes)) = some (some (.int .u8 0), 1, 1) := by kernel_rfl
/-- The slice v of bytes owns the bytes l, in a block from B on. -/
def OwnB (w : World) (B : Nat) (v : Value) (l : List UInt8) : Prop := w.ownsRow B 5 1 v l.length (Lib.byteCells l)
theorem OwnB.drewN {w : World} {B : Nat} {v : Value} {l : List UInt8} (h : OwnB w B v l) (n : Nat) : OwnB (w.drewN n) B v l := h
theorem OwnB.below {w0 w1 : World} {B : Nat} {v : Value} {l : List UInt8} {o : Obj} (h : OwnB w0 B v l) (hb : B ≤ w0.heap.size) (hg : (w0.alloc o).grownBy w1 v.ownBlock) : Below B w0 w1 :=
  ((Below.refl B w0).alloc hb o).grown hg (by simp; omega) (fun j hj => (h.lt j hj).1)
theorem wp_app_u8 {ops : Array Oper} {rest : List Oper} {o : Oper} {a : Act} {Q : Exit → Act → World → Prop} {w0 : World} (hgd : o.guard = none) (s x : Operand)
    (ho : o.op = .call { callee := .builtin .append, args := #[s, x], argTypes := #[54, 54] }) (B : Nat) (v : Value) (l : List UInt8) (hs : a.eval s = v) (hown : OwnB w0 B v l)
    (l' : List UInt8) (m c : Nat) (hm : l'.length = m) (cells : Array Value) (hc : cells.toList = Lib.byteCells l') (hx : a.eval x = .slice (some ⟨w0.heap.size, 0, none⟩) m c)
    (hbytes : l.length + m ≤ 140737488355328) (hbase : B ≤ w0.heap.size)
    (h : ∀ v' w', OwnB w' B v' (l ++ l') → Below B w0 w' → wpList Tryd.prog ops Q rest (a.put o.dst v') w') :
    wpList Tryd.prog ops Q (o :: rest) a (w0.alloc (.cells cells 5)) := by
  obtain ⟨i0, hi, hz0, hz1, hz2⟩ := info_parts Tryd.infoU8
  subst hm
  refine wpList_append_own _ hgd s x 54 ho B 5 i0 (.int .u8 0) 1 1 Tryd.underlying54 hi hz0 hz1 hz2 rfl (by decide) v l.length (Lib.byteCells l) hs (World.ownsRow.alloc hown _)
    ⟨w0.heap.size, 0, none⟩ l'.length c (Lib.byteCells l') hx (by simp [Lib.byteCells]) ?_ (Lib.byteCells_one _) (by unfold maxLen; omega) (by omega) (by simp; omega) ?_
  · rw [← hc]; exact World.news_of_block (heap_alloc_new w0 _)
  · intro v' w' h1 h2 _
    exact h v' w' (by unfold OwnB; rw [List.length_append, Lib.byteCells_append]; exact h1) (hown.below hbase h2)
theorem step_app_u8 {ops : Array Oper} {o : Oper} {a : Act} {K : Act → World → Prop} {Q : Exit → Act → World → Prop} {E : Prop} {w0 : World} (hgd : o.guard = none) (s x : Operand)
    (ho : o.op = .call { callee := .builtin .append, args := #[s, x], argTypes := #[54, 54] }) (B : Nat) (v : Value) (l : List UInt8) (hs : a.eval s = v) (hown : OwnB w0 B v l)
    (l' : List UInt8) (m c : Nat) (hm : l'.length = m) (hm0 : 0 < m) (cells : Array Value) (hc : cells.toList = Lib.byteCells l') (hx : a.eval x = .slice (some ⟨w0.heap.size, 0, none⟩) m c)
    (hbytes : l.length + m ≤ 140737488355328) (hbase : B ≤ w0.heap.size)
    (h : ∀ v' w', OwnB w' B v' (l ++ l') → Below B w0 w' → K (a.put o.dst v') w') :
    if Region.wanted o (yielded ops a.tmps) = true then Oper.wp Tryd.prog o a (w0.alloc (.cells cells 5)).drew K Q else E := by
  obtain ⟨i0, hi, hz0, hz1, hz2⟩ := info_parts Tryd.infoU8
  subst hm
  have ho1 : (w0.alloc (.cells cells 5)).drew.ownsRow B 5 1 v l.length (Lib.byteCells l) := World.ownsRow.alloc hown _
  refine step_append_lies _ hgd s x 54 ho B 5 i0 (.int .u8 0) 1 1 Tryd.underlying54 hi hz0 hz1 hz2 rfl (by decide) v l.length (Lib.byteCells l) hs ho1
    ⟨w0.heap.size, 0, none⟩ l'.length c (Lib.byteCells l') hx (by simp [Lib.byteCells]) ?_ (Lib.byteCells_one _) hm0 (by unfold maxLen; omega) (by omega) (by simp; omega) _ rfl ?_
  · rw [← hc]; exact World.news_of_block (w := (w0.alloc (.cells cells 5)).drew) (heap_alloc_new w0 _)
  · intro g cap w' h1 h2 _ _
    exact h _ w' (by unfold OwnB; rw [List.length_append, Lib.byteCells_append]; exact h1)
      ((((Below.refl B w0).alloc hbase _).drew).grown h2 (by simp; omega) (fun j hj => (hown.lt j hj).1))
theorem OwnB.lit (w : World) (B : Nat) (hB : B ≤ w.heap.size) (l : List UInt8) (cells : Array Value) (n : Nat) (hn : l.length = n) (hc : cells.toList = Lib.byteCells l) (hl : l.length ≤ maxLen) :
    OwnB (w.alloc (.cells cells 5)) B (.slice (some ⟨w.heap.size, 0, none⟩) n n) l := by
  subst hn
  have hsz : cells.size = l.length := by rw [← Array.length_toList, hc]; simp [Lib.byteCells]
  exact ⟨by simp [Lib.byteCells], .inr ⟨w.heap.size, l.length, cells, rfl, hB, heap_alloc_new w _, Nat.le_refl _, hl, by omega, by rw [hc]; rw [List.take_of_length_le]; simp [Lib.byteCells]⟩⟩
theorem OwnB.str {w : World} {B : Nat} {v : Value} {l : List UInt8} (h : OwnB w B v l) : (convert 54 9 v).run Tryd.prog w = .ok (.string ⟨l.toArray⟩) w := by
  obtain ⟨hlen, ⟨rfl, h0⟩ | ⟨g, cap, cur, rfl, hB, hg, hnc, hcm, hcs, htk⟩⟩ := h
  · obtain rfl : l = [] := List.eq_nil_of_length_eq_zero h0
    exact run_convert_bytes_nil _ 54 5 Tryd.underlying54 Tryd.underlying5 0 0 9 Tryd.underlying9
  · refine run_convert_bytes_back w 54 9 5 ⟨g, 0, none⟩ cap l Tryd.underlying54 Tryd.underlying5 Tryd.underlying9 ?_
    intro j hj
    have hadd : (⟨g, 0, none⟩ : Addr).add j = ⟨g, j, none⟩ := by unfold Addr.add; split <;> simp_all
    rw [hadd, cell_of_row w g j cur 5 (0, 0) hg]
    have h1 := congrArg (fun x : List Value => x[j]?) htk
    simp only [Nat.mul_one, List.getElem?_take_of_lt hj] at h1
    rw [← Array.getElem?_toList, h1]
    simp [Lib.byteCells, hj]
theorem own_cells_str {w : World} {B : Nat} {v : Value} {l : List UInt8} (h : OwnB w B v l) : ∃ A n c, v = .slice A n c := by
  rcases h.2 with ⟨rfl, _⟩ | ⟨g, cap, cur, rfl, _⟩
  · exact ⟨_, _, _, rfl⟩
  · exact ⟨_, _, _, rfl⟩
theorem hexLit1 (c : UInt8) (h : ((c.toNat : Int) / 16).toNat < 16) : (⟨#[48, 49, 50, 51, 52, 53, 54, 55, 56, 57, 97, 98, 99, 100, 101, 102]⟩ : ByteArray)[((c.toNat : Int) / 16).toNat]'h = hexD (c.toNat / 16) := by
  have e : ((c.toNat : Int) / 16).toNat = c.toNat / 16 := by omega
  simp only [e]
  exact hexD_lit _ _
theorem hexLit2 (c : UInt8) (h : ((c.toNat : Int) % 16).toNat < 16) : (⟨#[48, 49, 50, 51, 52, 53, 54, 55, 56, 57, 97, 98, 99, 100, 101, 102]⟩ : ByteArray)[((c.toNat : Int) % 16).toNat]'h = hexD (c.toNat % 16) := by
  have e : ((c.toNat : Int) % 16).toNat = c.toNat % 16 := by omega
  simp only [e]
  exact hexD_lit _ _
theorem and15 (c : UInt8) : bits BinOp.and IntKind.u8 (c.toNat : Int) 15 = (c.toNat : Int) % 16 := by
  have : ∀ n : Fin 256, bits BinOp.and IntKind.u8 (n.1 : Int) 15 = (n.1 : Int) % 16 := by decide +kernel
  exact this ⟨c.toNat, c.toNat_lt⟩
set_option maxHeartbeats 1600000 in
theorem refQuote_any (s : ByteArray) (w : World) (hs : s.size ≤ 35184372088830) :
    Calls Tryd.prog 21 #[.string s] w fun e w' => e = .returned (.string ⟨(quoteL s.data.toList).toArray⟩) ∧ Below w.heap.size w w' := by
  have hsz : s.data.toList.length = s.size := by simp
  go_enter Tryd.func21, Tryd.ntmps21
  go_wp2_with fail
  go_loopw [4, 5, 6] (fun v i _ wr => ∃ k : Nat, k ≤ s.size ∧ i = .int .i64 k ∧ OwnB wr w.heap.size v (34 :: (s.data.toList.take k).flatMap qByte) ∧ Below w.heap.size w wr) (fun _ i _ _ => s.size - (intOf i).toNat)
  case atStart => exact ⟨0, by omega, rfl, OwnB.lit w w.heap.size (Nat.le_refl _) [34] #[.int .u8 34] 1 rfl rfl (by decide), (Below.refl _ _).alloc (Nat.le_refl _) _⟩
  case round =>
    obtain ⟨k, hk, rfl, hB, hb⟩ := hrel
    have hsr := hb.size
    have hl := flatMap_qByte_length (s.data.toList.take k)
    have hl2 : (s.data.toList.take k).length ≤ k := List.length_take_le _ _
    by_cases hlt : k < s.size
    · have hq := Lib.hid (quoteTake s k hlt)
      by_cases h1 : ((s[k]'hlt).toNat : Int) = 34
      · have hc : s[k]'hlt = 34 := UInt8.toNat_inj.1 (by have : (34 : UInt8).toNat = 34 := rfl; omega)
        have hq2 := Lib.hid (show qByte (s[k]'hlt) = [92, 34] by unfold qByte; rw [if_pos (.inl hc), hc])
        clear hc
        go_wp2_with (at_builtin; (refine wp_app_u8 rfl _ _ rfl w.heap.size _ _ rfl hB [92, 34] 2 2 rfl _ rfl rfl (by simp only [List.length_cons]; omega) hsr ?_); intro v' w1 hown' hbl; refine Hid.out ?_)
        refine Lib.hid ?_
        go_wp2
        go_roundw
        case rel => exact ⟨k + 1, by omega, by go_num, by rw [hq.out, hq2.out]; exact hown', hb.trans hbl⟩
        case measure => simp [intOf]; omega
      by_cases h2 : ((s[k]'hlt).toNat : Int) = 92
      · have hc : s[k]'hlt = 92 := UInt8.toNat_inj.1 (by have : (92 : UInt8).toNat = 92 := rfl; omega)
        have hq2 := Lib.hid (show qByte (s[k]'hlt) = [92, 92] by unfold qByte; rw [if_pos (.inr hc), hc])
        clear hc
        go_wp2_with (at_builtin; (refine wp_app_u8 rfl _ _ rfl w.heap.size _ _ rfl hB [92, 92] 2 2 rfl _ rfl rfl (by simp only [List.length_cons]; omega) hsr ?_); intro v' w1 hown' hbl; refine Hid.out ?_)
        refine Lib.hid ?_
        go_wp2
        go_roundw
        case rel => exact ⟨k + 1, by omega, by go_num, by rw [hq.out, hq2.out]; exact hown', hb.trans hbl⟩
        case measure => simp [intOf]; omega
      have h1' : (((s[k]'hlt).toNat : Int) == 34) = false := by rw [beq_eq_false_iff_ne]; exact h1
      have h2' : (((s[k]'hlt).toNat : Int) == 92) = false := by rw [beq_eq_false_iff_ne]; exact h2
      by_cases h3 : (32 : Int) ≤ (s[k]'hlt).toNat
      · by_cases h4 : ((s[k]'hlt).toNat : Int) ≤ 126
        · have hq2 := Lib.hid (qByte_plain (by simp [printB]; omega) h1' h2')
          go_wp2_with (at_builtin; (refine wp_app_u8 rfl _ _ rfl w.heap.size _ _ rfl hB [s[k]'hlt] 1 1 rfl _ rfl rfl (by simp only [List.length_cons]; omega) hsr ?_); intro v' w1 hown' hbl; refine Hid.out ?_)
          refine Lib.hid ?_
          go_wp2
          go_roundw
          case rel => exact ⟨k + 1, by omega, by go_num, by rw [hq.out, hq2.out]; exact hown', hb.trans hbl⟩
          case measure => simp [intOf]; omega
        · have hq2 := Lib.hid (qByte_esc (by simp [printB]; omega) h1' h2')
          have d1 : 0 ≤ ((s[k]'hlt).toNat : Int) / 16 ∧ ((s[k]'hlt).toNat : Int) / 16 < 16 := by have := (s[k]'hlt).toNat_lt; omega
          have d2 : 0 ≤ ((s[k]'hlt).toNat : Int) % 16 ∧ ((s[k]'hlt).toNat : Int) % 16 < 16 := by omega
          have d3 := and15 (s[k]'hlt)
          go_wp2_with fail
          go_region_law (first | (refine step_app_u8 rfl _ _ rfl w.heap.size _ _ rfl hB [92, 120, hexD ((s[k]'hlt).toNat / 16), hexD ((s[k]'hlt).toNat % 16)] 4 4 rfl (by decide) _ (by simp only [hexLit1, hexLit2, Lib.byteCells, List.map]; rfl) rfl (by simp only [List.length_cons]; omega) hsr ?_; intro v' w1 hown' hbl) | fail)
          all_goals
            go_wp2
            go_roundw
            case rel => exact ⟨k + 1, by omega, by go_num, by rw [hq.out, hq2.out]; exact hown', hb.trans hbl⟩
            case measure => simp [intOf]; omega
      · have hq2 := Lib.hid (qByte_esc (by simp [printB]; omega) h1' h2')
        have hc := (s[k]'hlt).toNat_lt
        have d1 : 0 ≤ ((s[k]'hlt).toNat : Int) / 16 ∧ ((s[k]'hlt).toNat : Int) / 16 < 16 := by have := (s[k]'hlt).toNat_lt; omega
        have d2 : 0 ≤ ((s[k]'hlt).toNat : Int) % 16 ∧ ((s[k]'hlt).toNat : Int) % 16 < 16 := by omega
        have d3 := and15 (s[k]'hlt)
        go_wp2_with fail
        go_region_law (first | (refine step_app_u8 rfl _ _ rfl w.heap.size _ _ rfl hB [92, 120, hexD ((s[k]'hlt).toNat / 16), hexD ((s[k]'hlt).toNat % 16)] 4 4 rfl (by decide) _ (by simp only [hexLit1, hexLit2, Lib.byteCells, List.map]; rfl) rfl (by simp only [List.length_cons]; omega) hsr ?_; intro v' w1 hown' hbl) | fail)
        all_goals
          go_wp2
          go_roundw
          case rel => exact ⟨k + 1, by omega, by go_num, by rw [hq.out, hq2.out]; exact hown', hb.trans hbl⟩
          case measure => simp [intOf]; omega
    · have hke : k = s.size := by omega
      have hq := Lib.hid (show s.data.toList.take k = s.data.toList from List.take_of_length_le (by omega))
      go_wp2_with (at_builtin; (refine wp_app_u8 rfl _ _ rfl w.heap.size _ _ rfl hB [34] 1 1 rfl _ rfl rfl (by simp only [List.length_cons]; omega) hsr ?_); intro v' w1 hown' hbl; refine Hid.out ?_)
      refine Lib.hid ?_
      rw [hq.out] at hown'
      have hstr := hown'.str
      go_wp2
      go_ret
      exact ⟨rfl, hb.trans hbl⟩
end Go.Proofs.YtjinngobiefifaaDoor
