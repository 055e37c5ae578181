/- bytes.Buffer's Grow on a new buffer, and writeQuoted. Condition: what is written takes at most 2^47 bytes. -/
import Derived.Test.YtjinngobiefifaaDoorNames
import Derived.Test.YtjinngobiefifaaDoorShelf
import Derived.Lib.BufferWrite
namespace Go.Proofs.YtjinngobiefifaaDoor
open Go.RowKit
set_option maxHeartbeats 800000 in
theorem bufferGrow (B b n : Nat) (w : World) (h : Lib.IsBuffer 58 5 B b [] w) (hn : 1 ≤ n) (h0 : w.cell? ⟨b, 0, none⟩ = some (.slice none 0 0)) (hBw : B ≤ w.heap.size) (hlim : n ≤ 140737488355328) :
    Calls Tryd.prog 40 #[.pointer (some ⟨b, 0, none⟩), .int .i64 n] w fun e w' => e = .returned (.tuple #[]) ∧ Lib.IsBuffer 58 5 B b [] w' ∧ Below B w w' := by
  have hnr : Lib.NoRoom b n w := ⟨none, 0, 0, h0, by omega⟩
  go_enter Tryd.func40, Tryd.ntmps40
  go_wp2_with (go_at_call 53; refine (Tryd.Buffer_grow B b n [] w h hnr hBw (by simp) (by simpa using hlim)).mono ?_; rintro e W1 ⟨rfl, xs, hxl, hI, hbel⟩; refine Hid.out ?_)
  refine Lib.hid ?_
  obtain ⟨hB, lr2, hc⟩ := hI.cases
  rcases hc with ⟨hnil, -⟩ | ⟨g, cap, cur, hbk2, hBg, hg, hnc, hcm, hcs, htk, hgb⟩
  · exact absurd (congrArg List.length hnil) (by simp [hxl]; omega)
  · have d0 : W1.cell? ⟨b, 0, none⟩ = some (.slice (some ⟨g, 0, none⟩) ([] ++ xs).length cap) := by rw [Lib.cell_of_heap hbk2]; rfl
    have f0 : W1.frozen? ⟨b, 0, none⟩ = false := Lib.frozen_of_heap hbk2 0
    clear hI h0 h hnr
    go_wp2
    go_end0
    refine ⟨rfl, ?_, ?_⟩
    · have hgf : (W1.setCell ⟨b, 0, none⟩ (.slice (some ⟨g, 0, none⟩) 0 cap)).heap[g]? = some (.cells cur 5 (0, 0)) := by rw [Below.heap_setCell _ _ _ _ hgb]; exact hg
      exact ⟨hB, _, lr2, Lib.heap_setCell_same (i := 0) hbk2 _, ⟨by simp, .inr ⟨g, cap, cur, rfl, hBg, hgf, Nat.zero_le _, hcm, by omega, by simp⟩⟩, by simp [Value.ownBlock]; omega⟩
    · exact hbel.setCell (p := ⟨b, 0, none⟩) hB _
def hexD (n : Nat) : UInt8 := [48, 49, 50, 51, 52, 53, 54, 55, 56, 57, 97, 98, 99, 100, 101, 102].getD n 0
def qByte (c : UInt8) : List UInt8 := if c = 34 ∨ c = 92 then [92, c] else if 32 ≤ c ∧ c ≤ 126 then [c] else [92, 120, hexD (c.toNat / 16), hexD (c.toNat % 16)]
def quoteL (l : List UInt8) : List UInt8 := 34 :: (l.flatMap qByte ++ [34])
def printB (c : Int) : Bool := decide (32 ≤ c) && decide (c ≤ 126)
set_option maxHeartbeats 400000 in
theorem isPrintable_any (c : Int) (w : World) :
    Calls Tryd.prog 55 #[.int .u8 c] w fun e w' => e = .returned (.bool (printB c)) ∧ w = w' := by
  go_enter Tryd.func55, Tryd.ntmps55
  go_wp2
  all_goals go_ret
  all_goals exact ⟨ret_bool (by unfold printB; simp; omega), rfl⟩
theorem bufByte (B b : Nat) (l : List UInt8) (c : UInt8) (w : World) (h : Lib.IsBuffer 58 5 B b (Lib.byteCells l) w) (hBw : B ≤ w.heap.size) (hlim : l.length + 1 ≤ 140737488355328) :
    Calls Tryd.prog 41 #[.pointer (some ⟨b, 0, none⟩), .int .u8 c.toNat] w fun e w' => e = .returned .nilIface ∧ Lib.IsBuffer 58 5 B b (Lib.byteCells (l ++ [c])) w' ∧ Below B w w' :=
  (Tryd.Buffer_WriteByte B b _ _ w h hBw (Lib.byteCells_one _) (by simpa [Lib.byteCells_length] using hlim)).mono fun _ _ ⟨he, h, hb⟩ => ⟨he, by rw [Lib.byteCells_append]; exact h, hb⟩
theorem bufString (B b : Nat) (l : List UInt8) (s : ByteArray) (w : World) (h : Lib.IsBuffer 58 5 B b (Lib.byteCells l) w) (hBw : B ≤ w.heap.size) (hlim : l.length + s.size ≤ 140737488355328) :
    Calls Tryd.prog 56 #[.pointer (some ⟨b, 0, none⟩), .string s] w fun e w' => e = .returned (.tuple #[.int .i64 s.size, .nilIface]) ∧ Lib.IsBuffer 58 5 B b (Lib.byteCells (l ++ s.data.toList)) w' ∧ Below B w w' :=
  (Tryd.Buffer_WriteString B b _ _ w h hBw (Lib.byteCells_one _) (by simpa [Lib.byteCells_length] using hlim)).mono fun _ _ ⟨he, h, hb⟩ => ⟨he, by rw [Lib.byteCells_append]; exact h, hb⟩
theorem hexD_lit (n : Nat) (h : n < 16) : (⟨#[48, 49, 50, 51, 52, 53, 54, 55, 56, 57, 97, 98, 99, 100, 101, 102]⟩ : ByteArray)[n]'h = hexD n := by
  have : ∀ i : Fin 16, (⟨#[48, 49, 50, 51, 52, 53, 54, 55, 56, 57, 97, 98, 99, 100, 101, 102]⟩ : ByteArray)[i.1]'i.2 = hexD i.1 := by decide
  exact this ⟨n, h⟩
theorem qByte_esc {c : UInt8} (hp : printB c.toNat = false) (h1 : ((c.toNat : Int) == 34) = false) (h2 : ((c.toNat : Int) == 92) = false) : qByte c = [92, 120, hexD (c.toNat / 16), hexD (c.toNat % 16)] := by
  unfold qByte
  rw [if_neg, if_neg]
  · simp only [printB, Bool.and_eq_false_iff, decide_eq_false_iff_not] at hp
    rintro ⟨h, h'⟩
    rw [UInt8.le_iff_toNat_le] at h h'
    have e1 : (32 : UInt8).toNat = 32 := rfl
    have e2 : (126 : UInt8).toNat = 126 := rfl
    omega
  · rintro (rfl | rfl)
    · exact absurd h1 (by decide)
    · exact absurd h2 (by decide)
theorem qByte_plain {c : UInt8} (hp : printB c.toNat = true) (h1 : ((c.toNat : Int) == 34) = false) (h2 : ((c.toNat : Int) == 92) = false) : qByte c = [c] := by
  unfold qByte
  rw [if_neg, if_pos]
  · simp only [printB, Bool.and_eq_true, decide_eq_true_eq] at hp
    rw [UInt8.le_iff_toNat_le, UInt8.le_iff_toNat_le]
    have e1 : (32 : UInt8).toNat = 32 := rfl
    have e2 : (126 : UInt8).toNat = 126 := rfl
    omega
  · rintro (rfl | rfl)
    · exact absurd h1 (by decide)
    · exact absurd h2 (by decide)
theorem qByte_length (c : UInt8) : (qByte c).length ≤ 4 := by
  unfold qByte; split
  · simp
  · split <;> simp
set_option maxHeartbeats 800000 in
theorem writeQuoted_any (B b : Nat) (c : UInt8) (l : List UInt8) (w : World) (h : Lib.IsBuffer 58 5 B b (Lib.byteCells l) w) (hBw : B ≤ w.heap.size) (hlim : l.length + 4 ≤ 140737488355328) :
    Calls Tryd.prog 42 #[.pointer (some ⟨b, 0, none⟩), .int .u8 c.toNat] w fun e w' => e = .returned (.tuple #[]) ∧ Lib.IsBuffer 58 5 B b (Lib.byteCells (l ++ qByte c)) w' ∧ Below B w w' := by
  have hc := c.toNat_lt
  by_cases e1 : c = 34
  · subst e1
    go_enter Tryd.func42, Tryd.ntmps42
    go_wp2_with fail
    refine (bufByte B b _ 92 _ h hBw (by omega)).mono ?_
    rintro e W1 ⟨rfl, h3, b1⟩
    have hs1 := b1.size
    go_wp2_with fail
    refine (bufByte B b _ 34 _ h3 (by omega) (by simp; omega)).mono ?_
    rintro e W2 ⟨rfl, h4, b2⟩
    go_wp2
    go_end0
    exact ⟨rfl, by simpa [qByte] using h4, b1.trans b2⟩
  by_cases e2 : c = 92
  · subst e2
    go_enter Tryd.func42, Tryd.ntmps42
    go_wp2_with fail
    refine (bufByte B b _ 92 _ h hBw (by omega)).mono ?_
    rintro e W1 ⟨rfl, h3, b1⟩
    have hs1 := b1.size
    go_wp2_with fail
    refine (bufByte B b _ 92 _ h3 (by omega) (by simp; omega)).mono ?_
    rintro e W2 ⟨rfl, h4, b2⟩
    go_wp2
    go_end0
    exact ⟨rfl, by simpa [qByte] using h4, b1.trans b2⟩
  have h1 : ((c.toNat : Int) == 34) = false := by
    rw [beq_eq_false_iff_ne]; intro e; exact e1 (UInt8.toNat_inj.1 (by have : (34 : UInt8).toNat = 34 := rfl; omega))
  have h2 : ((c.toNat : Int) == 92) = false := by
    rw [beq_eq_false_iff_ne]; intro e; exact e2 (UInt8.toNat_inj.1 (by have : (92 : UInt8).toNat = 92 := rfl; omega))
  cases hp : printB c.toNat
  · have hq := Lib.hid (qByte_esc hp h1 h2)
    have e1 : (⟨#[92, 120]⟩ : ByteArray).size = 2 := rfl
    go_enter Tryd.func42, Tryd.ntmps42
    go_wp2_with (go_at_call 55; refine (isPrintable_any _ _).mono ?_; rintro e w' ⟨rfl, rfl⟩)
    refine (bufString B b _ _ _ h hBw (by omega)).mono ?_
    rintro e W1 ⟨rfl, h3, b1⟩
    have hs1 := b1.size
    go_wp2_with fail
    rw [hexD_lit _ (by omega)]
    refine (bufByte B b _ _ _ h3 (by omega) (by simp; omega)).mono ?_
    rintro e W2 ⟨rfl, h4, b2⟩
    have hs2 := b2.size
    go_wp2_with fail
    rw [hexD_lit _ (by omega)]
    refine (bufByte B b _ _ _ h4 (by omega) (by simp; omega)).mono ?_
    rintro e W3 ⟨rfl, h5, b3⟩
    go_wp2
    go_end0
    exact ⟨rfl, by rw [hq.out]; simpa using h5, (b1.trans b2).trans b3⟩
  · have hq := Lib.hid (qByte_plain hp h1 h2)
    go_enter Tryd.func42, Tryd.ntmps42
    go_wp2_with (go_at_call 55; refine (isPrintable_any _ _).mono ?_; rintro e w' ⟨rfl, rfl⟩)
    refine (bufByte B b _ _ _ h hBw (by omega)).mono ?_
    rintro e W1 ⟨rfl, h3, b1⟩
    go_wp2
    go_end0
    exact ⟨rfl, by rw [hq.out]; exact h3, b1⟩
end Go.Proofs.YtjinngobiefifaaDoor
