/- What Unquote returns. Condition: the string has at most 2^47 bytes. -/
import Derived.Test.YtjinngobiefifaaDoorUnByte
namespace Go.Proofs.YtjinngobiefifaaDoor
open Go.RowKit
def strLen : Value → Nat
  | .string s => s.size
  | _ => 0
/-- what Unquote returns for the bytes l: the string whose Quote is l, and 0; else the empty string and 5 -/
def UnQ (l : List UInt8) (w : World) (e : Ending) (w' : World) : Prop :=
  Below w.heap.size w w' ∧ ((∃ t : List UInt8, quoteL t = l ∧ e = .returned (.tuple #[.string ⟨t.toArray⟩, .int .i64 0])) ∨ ((∀ t : List UInt8, quoteL t ≠ l) ∧ e = .returned (.tuple #[.string ⟨#[]⟩, .int .i64 5])))
theorem unQ_no {l : List UInt8} {w w' : World} (h : ∀ t : List UInt8, quoteL t ≠ l) (hb : Below w.heap.size w w') : UnQ l w (.returned (.tuple #[.string ⟨#[]⟩, .int .i64 5])) w' := ⟨hb, .inr ⟨h, rfl⟩⟩
theorem unQ_yes {l t : List UInt8} {w w' : World} (h : quoteL t = l) (hb : Below w.heap.size w w') : UnQ l w (.returned (.tuple #[.string ⟨t.toArray⟩, .int .i64 0])) w' := ⟨hb, .inl ⟨t, h, rfl⟩⟩
theorem quoteL_len (t : List UInt8) : 2 ≤ (quoteL t).length := by simp [quoteL]
theorem ba_list {s : ByteArray} {l : List UInt8} (h : s.data.toList = l) : s = ⟨⟨l⟩⟩ := by
  obtain ⟨⟨x⟩⟩ := s
  simp only at h
  subst h
  rfl
theorem quoteL_first {t : List UInt8} {s : ByteArray} (h : quoteL t = s.data.toList) (h0 : 0 < s.size) : s[0]'h0 = 34 := by
  have e := ba_list h.symm
  subst e
  rfl
theorem quoteL_last {t : List UInt8} {s : ByteArray} (h : quoteL t = s.data.toList) (h0 : s.size - 1 < s.size) : s[s.size - 1]'h0 = 34 := by
  have e := ba_list h.symm
  subst e
  show (quoteL t)[(quoteL t).length - 1]'_ = 34
  simp [quoteL]
theorem list_ends : ∀ {l : List UInt8}, 2 ≤ l.length → l[0]? = some 34 → l[l.length - 1]? = some 34 → l = 34 :: ((l.drop 1).take (l.length - 2) ++ [34])
  | a :: r, h2, h0, h1 => by
    simp only [List.getElem?_cons_zero, Option.some.injEq] at h0
    subst h0
    simp only [List.length_cons] at h2 h1
    have hr : r ≠ [] := by intro e; subst e; simp at h2
    have hp : 0 < r.length := List.length_pos_iff.2 hr
    have e2 : r.length + 1 - 1 = (r.length - 1) + 1 := by omega
    rw [e2, List.getElem?_cons_succ, List.getElem?_eq_getElem (by omega)] at h1
    simp only [Option.some.injEq] at h1
    simp only [List.length_cons, List.drop_succ_cons, List.drop_zero, List.cons.injEq, true_and]
    have hr2 : r.length + 1 - 2 = r.length - 1 := by omega
    rw [hr2, ← h1]
    have := List.take_succ_eq_append_getElem (l := r) (i := r.length - 1) (by omega)
    rw [← this, show r.length - 1 + 1 = r.length by omega, List.take_length]
theorem inside_of {s : ByteArray} (h2 : 2 ≤ s.size) (h0 : s[0]'(by omega) = 34) (h1 : s[s.size - 1]'(by omega) = 34) :
    s.data.toList = 34 :: ((s.extract 1 (s.size - 1)).data.toList ++ [34]) := by
  rw [Lib.extract_data]
  have hl : s.data.toList.length = s.size := by simp
  have e := list_ends (l := s.data.toList) (by omega) (by rw [List.getElem?_eq_getElem (by omega)]; exact congrArg some h0) (by rw [List.getElem?_eq_getElem (by omega)]; simp only [hl]; exact congrArg some h1)
  rw [hl] at e
  exact e
theorem quoteL_inside {t ins : List UInt8} (h : quoteL t = 34 :: (ins ++ [34])) : t.flatMap qByte = ins := by
  unfold quoteL at h
  simp only [List.cons.injEq, true_and] at h
  exact List.append_cancel_right h
theorem strLen_mk (s : ByteArray) : strLen (.string s) = s.size := rfl
theorem below_drewN0 (B : Nat) (w : World) (n : Nat) : Below B w (w.drewN n) := ⟨rfl, rfl, rfl, Nat.le_refl _, fun _ _ => rfl⟩
set_option maxHeartbeats 3200000 in
theorem unquote_any (s : ByteArray) (w : World) (hs : s.size ≤ 140737488355328) : Calls Tryd.prog 20 #[.string s] w (UnQ s.data.toList w) := by
  have hsl := Lib.hid (sizeList s)
  by_cases h1 : s.size < 2
  · go_enter Tryd.func20, Tryd.ntmps20
    go_wp2
    go_ret2
    exact unQ_no (fun t e => by have := quoteL_len t; rw [e, hsl.out] at this; omega) (Below.refl _ _)
  have h2 : 0 < s.size := by omega
  have h3 : s.size - 1 < s.size := by omega
  by_cases h4 : ((s[0]'h2).toNat : Int) = 34
  · have h4b : (((s[0]'h2).toNat : Int) != 34) = false := by rw [bne_eq_false_iff_eq]; exact h4
    by_cases h5 : ((s[s.size - 1]'h3).toNat : Int) = 34
    · have hin := Lib.hid (inside_of (s := s) (by omega) (byteEq (n := 34) h4 (by decide)) (byteEq (n := 34) h5 (by decide)))
      have hd : decide ((s.size : Int) < 2) = false := by simp; omega
      have hil : (s.extract 1 (s.size - 1)).size ≤ s.size := by simp; omega
      obtain ⟨ins, hins⟩ : ∃ ins, ins = s.extract 1 (s.size - 1) := ⟨_, rfl⟩
      rw [← hins] at hin hil
      have HI := Lib.hid hins
      clear hins
      have hb0 : Below w.heap.size w (w.alloc (.cells #[.slice none 0 0, .int .i64 0, .int .i8 0] 58)) := (Below.refl _ _).alloc (Nat.le_refl _) _
      have HF := Lib.hid (Lib.fresh_isBuffer 58 5 w)
      go_enter Tryd.func20, Tryd.ntmps20
      go_wp2_with fail
      rw [← HI.out]
      go_loopw [5, 6, 7, 2, 3] (fun v _ _ u2 u3 wr => ∃ (r : ByteArray) (acc : List UInt8), v = .string r ∧ u2 = .string ⟨#[]⟩ ∧ u3 = .int .i64 0 ∧ ins.data.toList = acc.flatMap qByte ++ r.data.toList ∧ acc.length + r.size ≤ ins.size ∧ Lib.IsBuffer 58 5 w.heap.size w.heap.size (Lib.byteCells acc) wr ∧ Below w.heap.size w wr) (fun v _ _ _ _ _ => strLen v)
      case atStart => exact ⟨ins, [], rfl, rfl, rfl, by simp, by simp, HF.out, hb0⟩
      case round =>
        obtain ⟨r, acc, rfl, rfl, rfl, heq, hlen, hI, hb⟩ := hrel
        have HQ := Lib.hid heq
        clear heq
        have hsr := hb.size
        by_cases hr : r.size = 0
        · have hr0 : r.data.toList = [] := by rw [← List.length_eq_zero_iff]; simpa using hr
          have hr1 : r.toList.isEmpty = true := by rw [Lib.toList_data, hr0]; rfl
          have HR0 := Lib.hid hr0
          clear hr0
          go_wp2_with fail
          refine (Tryd.Buffer_String _ _ _ _ hI).mono ?_
          rintro e w1 ⟨rfl, nq, rfl⟩
          go_wp2
          go_ret2
          exact unQ_yes (by rw [hin.out, HQ.out, HR0.out]; simp [quoteL]) (hb.trans ⟨rfl, rfl, rfl, Nat.le_refl _, fun _ _ => rfl⟩)
        · have hr1 : r.toList.isEmpty = false := by
            rw [Lib.toList_data, List.isEmpty_eq_false_iff]
            intro e; apply hr; have := congrArg List.length e; simpa using this
          have hrm : r.size ≤ maxLen := by unfold maxLen; omega
          go_wp2_with fail
          refine (unquoteByte_any r wr (by omega) hrm).mono ?_
          rintro e w1 ⟨⟨nq, rfl⟩, ⟨c, rest, hc, rfl⟩ | ⟨hno, rfl⟩⟩
          · have HC := Lib.hid hc
            clear hc
            have hq1 := qByte_pos c
            have hq4 := qByte_length c
            have hrl : (qByte c).length ≤ r.size := by
              have := congrArg List.length HC.out
              simp only [List.length_append] at this
              have h' : r.data.toList.length = r.size := by simp
              omega
            have hz : (((qByte c).length : Int) == 0) = false := by rw [beq_eq_false_iff_ne]; omega
            go_wp2_with fail
            refine (bufByte _ _ _ _ _ (hI.drewN nq) hsr (by omega)).mono ?_
            rintro e w2 ⟨rfl, hI2, hb2⟩
            go_wp2
            go_roundw
            case rel =>
              refine ⟨_, acc ++ [c], rfl, rfl, rfl, ?_, ?_, hI2, (hb.trans (below_drewN0 _ _ nq)).trans hb2⟩
              · have hrest : rest.length = r.size - (qByte c).length := by
                  have := congrArg List.length HC.out
                  simp only [List.length_append] at this
                  have h' : r.data.toList.length = r.size := by simp
                  omega
                rw [HQ.out, Lib.extract_data, HC.out, List.flatMap_append, List.drop_left, List.take_of_length_le (by omega)]
                simp
              · simp only [List.length_append, List.length_cons, List.length_nil, ByteArray.size_extract]; omega
            case measure => simp only [strLen_mk, ByteArray.size_extract]; omega
          · have hn2 := Lib.hid (show ∀ t : List UInt8, quoteL t ≠ s.data.toList by
              intro t e
              have h1 := quoteL_inside (e.trans hin.out)
              rw [HQ.out] at h1
              obtain ⟨c, rfl, hc⟩ := flat_prefix h1.symm
              cases c with
              | nil =>
                have h' : r.data.toList.length = r.size := sizeList r
                rw [hc] at h'
                simp only [List.flatMap_nil, List.length_nil] at h'
                omega
              | cons p c => exact hno p _ hc)
            clear hno
            go_wp2
            go_ret2
            exact unQ_no hn2.out (hb.trans ⟨rfl, rfl, rfl, Nat.le_refl _, fun _ _ => rfl⟩)
    · have h5b : (((s[s.size - 1]'h3).toNat : Int) != 34) = true := by rw [bne_iff_ne]; exact h5
      go_enter Tryd.func20, Tryd.ntmps20
      go_wp2
      go_ret2
      exact unQ_no (fun t e => h5 (by rw [quoteL_last e h3]; rfl)) (Below.refl _ _)
  · have h4b : (((s[0]'h2).toNat : Int) != 34) = true := by rw [bne_iff_ne]; exact h4
    go_enter Tryd.func20, Tryd.ntmps20
    go_wp2
    go_ret2
    exact unQ_no (fun t e => h4 (by rw [quoteL_first e h2]; rfl)) (Below.refl _ _)
end Go.Proofs.YtjinngobiefifaaDoor
