/- What Quote returns. Condition: the string has at most 2^45 - 2 bytes. -/
import Derived.Test.YtjinngobiefifaaDoorBuf
import Derived.Lib.BufferOld
namespace Go.Proofs.YtjinngobiefifaaDoor
open Go.RowKit
theorem quoteTake (s : ByteArray) (k : Nat) (hk : k < s.size) : (s.data.toList.take (k + 1)).flatMap qByte = (s.data.toList.take k).flatMap qByte ++ qByte (s[k]'hk) := by
  rw [List.take_succ_eq_append_getElem (by simpa using hk)]
  simp [List.flatMap_append]
  rfl
theorem flatMap_qByte_length (l : List UInt8) : (l.flatMap qByte).length ≤ 4 * l.length := by
  induction l with
  | nil => simp
  | cons a r ih => have := qByte_length a; simp only [List.flatMap_cons, List.length_append, List.length_cons]; omega
theorem quoteL_length (l : List UInt8) : (quoteL l).length ≤ 4 * l.length + 2 := by
  have := flatMap_qByte_length l
  simp only [quoteL, List.length_cons, List.length_append, List.length_nil]; omega
theorem bufferGrowI (B b n : Nat) (m : Int) (w : World) (hm : m = (n : Int)) (h : Lib.IsBuffer 58 5 B b [] w) (hn : 1 ≤ n) (h0 : w.cell? ⟨b, 0, none⟩ = some (.slice none 0 0)) (hBw : B ≤ w.heap.size) (hlim : n ≤ 140737488355328) :
    Calls Tryd.prog 40 #[.pointer (some ⟨b, 0, none⟩), .int .i64 m] w fun e w' => e = .returned (.tuple #[]) ∧ Lib.IsBuffer 58 5 B b [] w' ∧ Below B w w' := by
  subst hm
  exact bufferGrow B b n w h hn h0 hBw hlim
set_option maxHeartbeats 800000 in
theorem quote_any (s : ByteArray) (w : World) (hs : s.size ≤ 35184372088830) :
    Calls Tryd.prog 19 #[.string s] w fun e w' => e = .returned (.string ⟨(quoteL s.data.toList).toArray⟩) ∧ Below w.heap.size w w' := by
  have hsz : s.data.toList.length = s.size := by simp
  have hfr := Lib.fresh_isBuffer 58 5 w
  have hc0 : (w.alloc (.cells #[.slice none 0 0, .int .i64 0, .int .i8 0] 58)).cell? ⟨w.heap.size, 0, none⟩ = some (.slice none 0 0) := by rw [Lib.cell_of_heap (heap_alloc_new w _)]; rfl
  have hb0 : Below w.heap.size w (w.alloc (.cells #[.slice none 0 0, .int .i64 0, .int .i8 0] 58)) := (Below.refl _ _).alloc (Nat.le_refl _) _
  have hs0 := hb0.size
  have HF := Lib.hid hfr
  clear hfr
  go_enter Tryd.func19, Tryd.ntmps19
  go_wp2_with fail
  refine (bufferGrowI w.heap.size w.heap.size (s.size + 2) _ _ (by omega) HF.out (by omega) hc0 hs0 (by omega)).mono ?_
  rintro e W1 ⟨rfl, h1, b1⟩
  clear hc0
  have b1 := hb0.trans b1
  have hs1 := b1.size
  go_wp2_with fail
  refine (bufByte w.heap.size w.heap.size [] 34 _ h1 (by omega) (by simp)).mono ?_
  rintro e W2 ⟨rfl, h2, b2⟩
  have b2 := b1.trans b2
  have hs2 := b2.size
  clear b1 h1 hs1 hb0 hs0 HF
  go_wp2_with fail
  go_loopw [4] (fun i wr => ∃ k : Nat, k ≤ s.size ∧ i = .int .i64 k ∧ Lib.IsBuffer 58 5 w.heap.size w.heap.size (Lib.byteCells (34 :: (s.data.toList.take k).flatMap qByte)) wr ∧ Below w.heap.size w wr) (fun i _ => s.size - (intOf i).toNat)
  case atStart => exact ⟨0, by omega, rfl, h2, b2⟩
  case round =>
    obtain ⟨k, hk, rfl, hI, hb⟩ := hrel
    have hsr := hb.size
    have hl := flatMap_qByte_length (s.data.toList.take k)
    have hl2 : (s.data.toList.take k).length ≤ k := List.length_take_le _ _
    by_cases hlt : k < s.size
    · have hq := Lib.hid (quoteTake s k hlt)
      go_wp2_with fail
      refine (writeQuoted_any _ _ _ _ _ hI hsr (by simp only [List.length_cons]; omega)).mono ?_
      rintro e W3 ⟨rfl, h3, b3⟩
      go_wp2
      go_roundw
      case rel => exact ⟨k + 1, by omega, by go_num, by rw [hq.out]; exact h3, hb.trans b3⟩
      case measure => simp [intOf]; omega
    · have hke : k = s.size := by omega
      have hq := Lib.hid (show s.data.toList.take k = s.data.toList from List.take_of_length_le (by omega))
      go_wp2_with fail
      refine (bufByte _ _ _ 34 _ hI hsr (by simp only [List.length_cons]; omega)).mono ?_
      rintro e W3 ⟨rfl, h3, b3⟩
      rw [hq.out] at h3
      go_wp2_with fail
      refine (Tryd.Buffer_String _ _ _ _ h3).mono ?_
      rintro e W4 ⟨rfl, nq, rfl⟩
      go_wp2
      go_ret
      exact ⟨rfl, (hb.trans b3).trans ⟨rfl, rfl, rfl, Nat.le_refl _, fun _ _ => rfl⟩⟩
end Go.Proofs.YtjinngobiefifaaDoor
