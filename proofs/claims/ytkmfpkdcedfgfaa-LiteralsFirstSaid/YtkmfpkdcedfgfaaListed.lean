/- The first of the listed names of a kind: what isBefore, firstListed and the document's fits return. Condition: at most 10^6 strings. -/
import Derived.Test.YtkmfpkdcedfgfaaRead
import Derived.Test.YtkmfpkdcedfgfaaKeys
namespace Go.Proofs.Ytkmfpkdcedfgfaa
open Go.RowKit Go.Sort
/-- by length, then bytewise -/
def befB (a b : Strg) : Bool := decide (a.length < b.length) || (decide (a.length = b.length) && bl a b)
def bestStep (kind : Int) (acc : Strg × Bool) (x : Strg) : Strg × Bool := if (keyB kind x && (!acc.2 || befB x acc.1)) = true then (x, true) else acc
/-- the first of l that is a valid key's text, and whether there is one -/
def best (kind : Int) (l : List Strg) : Strg × Bool := l.foldl (bestStep kind) ([], false)
theorem best_snoc (kind : Int) (l : List Strg) (x : Strg) : best kind (l ++ [x]) = bestStep kind (best kind l) x := by
  unfold best; rw [List.foldl_append]; rfl
theorem best_take (kind : Int) {l : List Strg} {k : Nat} {x : Strg} (h : l[k]? = some x) : best kind (l.take (k + 1)) = bestStep kind (best kind (l.take k)) x := by
  rw [List.take_add_one, h]; exact best_snoc _ _ _
theorem best_mem (kind : Int) (l : List Strg) : ((best kind l).2 = true → (best kind l).1 ∈ l) ∧ ((best kind l).2 = false → (best kind l).1 = []) := by
  have key : ∀ (l : List Strg) (acc : Strg × Bool) (L : List Strg), (∀ x ∈ l, x ∈ L) → (acc.2 = true → acc.1 ∈ L) ∧ (acc.2 = false → acc.1 = []) → ((l.foldl (bestStep kind) acc).2 = true → (l.foldl (bestStep kind) acc).1 ∈ L) ∧ ((l.foldl (bestStep kind) acc).2 = false → (l.foldl (bestStep kind) acc).1 = []) := by
    intro l
    induction l with
    | nil => intro acc L _ h; exact h
    | cons x l ih =>
      intro acc L hL h
      rw [List.foldl_cons]
      refine ih _ L (fun y hy => hL y (List.mem_cons_of_mem _ hy)) ?_
      unfold bestStep
      split
      · exact ⟨fun _ => hL x (by simp), nofun⟩
      · exact h
  exact key l _ l (fun _ h => h) ⟨nofun, fun _ => rfl⟩
theorem bl_lt_irrefl (a : Strg) : befB a a = false := by
  unfold befB
  rw [bl_irrefl]; simp
theorem befB_trans {a b c : Strg} (h : befB a b = true) (k : befB b c = true) : befB a c = true := by
  unfold befB at *
  simp only [Bool.or_eq_true, Bool.and_eq_true, decide_eq_true_eq] at *
  rcases h with h | ⟨h, h'⟩
  · rcases k with k | ⟨k, k'⟩
    · exact .inl (by omega)
    · exact .inl (by omega)
  · rcases k with k | ⟨k, k'⟩
    · exact .inl (by omega)
    · exact .inr ⟨by omega, bl_trans h' k'⟩
/-- nothing valid in the list comes before the first one; none at all where there is none -/
theorem best_least (kind : Int) (l : List Strg) : ∀ x ∈ l, keyB kind x = true → (best kind l).2 = true ∧ befB x (best kind l).1 = false := by
  have key : ∀ (l : List Strg) (acc : Strg × Bool), (∀ x ∈ l, keyB kind x = true → (l.foldl (bestStep kind) acc).2 = true ∧ befB x (l.foldl (bestStep kind) acc).1 = false) ∧ (acc.2 = true → (l.foldl (bestStep kind) acc).2 = true ∧ ∀ y, befB y acc.1 = false → befB y (l.foldl (bestStep kind) acc).1 = false) := by
    intro l
    induction l with
    | nil => intro acc; exact ⟨fun x hx => by simp at hx, fun h => ⟨h, fun y hy => hy⟩⟩
    | cons a l ih =>
      intro acc
      rw [List.foldl_cons]
      have ih2 := ih (bestStep kind acc a)
      have hstep : acc.2 = true → (bestStep kind acc a).2 = true ∧ ∀ y, befB y acc.1 = false → befB y (bestStep kind acc a).1 = false := by
        intro h
        unfold bestStep
        split
        · rename_i hc
          refine ⟨rfl, fun y hy => ?_⟩
          simp only [h, Bool.not_true, Bool.false_or, Bool.and_eq_true] at hc
          cases hk : befB y a
          · rfl
          · rw [befB_trans hk hc.2] at hy; cases hy
        · exact ⟨h, fun y hy => hy⟩
      have ha : keyB kind a = true → (bestStep kind acc a).2 = true ∧ befB a (bestStep kind acc a).1 = false := by
        intro hk
        unfold bestStep
        split
        · exact ⟨rfl, bl_lt_irrefl a⟩
        · rename_i hc
          simp only [hk, Bool.true_and, Bool.or_eq_true, Bool.not_eq_true'] at hc
          refine ⟨?_, ?_⟩
          · cases h2 : acc.2
            · exact absurd (.inl h2) hc
            · rfl
          · cases h2 : befB a acc.1
            · rfl
            · exact absurd (.inr h2) hc
      refine ⟨fun x hx hk => ?_, fun h => ?_⟩
      · rcases List.mem_cons.1 hx with rfl | hx
        · obtain ⟨h1, h2⟩ := ha hk
          have := ih2.2 h1
          exact ⟨this.1, this.2 _ h2⟩
        · exact ih2.1 x hx hk
      · obtain ⟨h1, h2⟩ := hstep h
        have := ih2.2 h1
        exact ⟨this.1, fun y hy => this.2 _ (h2 y hy)⟩
  exact (key l _).1
theorem best_key (kind : Int) (l : List Strg) : (best kind l).2 = true → keyB kind (best kind l).1 = true := by
  have key : ∀ (l : List Strg) (acc : Strg × Bool), (acc.2 = true → keyB kind acc.1 = true) → ((l.foldl (bestStep kind) acc).2 = true → keyB kind (l.foldl (bestStep kind) acc).1 = true) := by
    intro l
    induction l with
    | nil => intro acc h; exact h
    | cons x l ih =>
      intro acc h
      rw [List.foldl_cons]
      refine ih _ ?_
      unfold bestStep
      split
      · rename_i hc
        simp only [Bool.and_eq_true] at hc
        exact fun _ => hc.1
      · exact h
  exact key l _ nofun
theorem compare_lt : ∀ {a b : List UInt8}, Op.bytesLess a b = true → Lib.compareBytes a b = -1
  | [], [], h => by simp [Op.bytesLess] at h
  | [], _ :: _, _ => rfl
  | _ :: _, [], h => by simp [Op.bytesLess] at h
  | a :: x, b :: y, h => by
    simp only [Op.bytesLess, Bool.or_eq_true, decide_eq_true_eq, Bool.and_eq_true, beq_iff_eq] at h
    unfold Lib.compareBytes
    by_cases h1 : a < b
    · rw [if_pos h1]
    · rcases h with h | ⟨rfl, h⟩
      · exact absurd h h1
      · rw [if_neg h1, if_neg h1]; exact compare_lt h
theorem compare_eq {a b : List UInt8} (h : a = b) : Lib.compareBytes a b = 0 := by
  subst h
  induction a with
  | nil => rfl
  | cons x r ih => unfold Lib.compareBytes; simp [ih]
theorem compare_gt : ∀ {a b : List UInt8}, Op.bytesLess a b = false → a ≠ b → Lib.compareBytes a b = 1
  | [], [], _, h => absurd rfl h
  | [], _ :: _, h, _ => by simp [Op.bytesLess] at h
  | _ :: _, [], _, _ => rfl
  | a :: x, b :: y, h, hne => by
    simp only [Op.bytesLess, Bool.or_eq_false_iff, decide_eq_false_iff_not, Bool.and_eq_false_imp, beq_iff_eq] at h
    unfold Lib.compareBytes
    rw [if_neg h.1]
    by_cases h1 : b < a
    · rw [if_pos h1]
    · rw [if_neg h1]
      have e : a = b := UInt8.le_antisymm (UInt8.not_lt.1 h1) (UInt8.not_lt.1 h.1)
      subst e
      exact compare_gt (h.2 rfl) (fun e => hne (by rw [e]))
theorem compare_neg (a b : Strg) : decide (Lib.compareBytes a b < 0) = bl a b := by
  cases h : bl a b
  · by_cases e : a = b
    · rw [compare_eq e]; rfl
    · rw [compare_gt h e]; rfl
  · rw [compare_lt h]; rfl
set_option maxHeartbeats 800000 in
theorem cmpOr2_any (b : Nat) (x y : Int) (w : World) (h0 : w.cell? ⟨b, 0, none⟩ = some (.int .i64 x)) (h1 : w.cell? ⟨b, 1, none⟩ = some (.int .i64 y)) :
    Calls Try.prog 62 #[.slice (some ⟨b, 0, none⟩) 2 2] w fun e w' => e = .returned (.int .i64 (if x = 0 then y else x)) ∧ w = w' := by
  by_cases hx : x = 0
  · subst hx
    by_cases hy : y = 0
    · subst hy
      go_enter Try.func62, Try.ntmps62
      go_wp2
      go_loop [8] (fun i => i = .int .i64 0 ∨ i = .int .i64 1 ∨ i = .int .i64 2) (fun i => 2 - (intOf i).toNat)
      case atStart => exact .inl rfl
      case round =>
        obtain rfl | rfl | rfl := hrel
        · go_wp2
          all_goals go_round
          case rel => exact .inr (.inl (by go_num))
          case measure => simp [intOf]
        · go_wp2
          all_goals go_round
          case rel => exact .inr (.inr (by go_num))
          case measure => simp [intOf]
        · go_wp2
          all_goals go_ret
          all_goals exact ⟨rfl, rfl⟩
    · have q : (y != 0) = true := by rw [bne_iff_ne]; exact hy
      go_enter Try.func62, Try.ntmps62
      go_wp2
      go_loop [8] (fun i => i = .int .i64 0 ∨ i = .int .i64 1) (fun i => 1 - (intOf i).toNat)
      case atStart => exact .inl rfl
      case round =>
        obtain rfl | rfl := hrel
        · go_wp2
          all_goals go_round
          case rel => exact .inr (by go_num)
          case measure => simp [intOf]
        · go_wp2
          all_goals go_ret
          all_goals exact ⟨rfl, rfl⟩
  · have q : (x != 0) = true := by rw [bne_iff_ne]; exact hx
    go_enter Try.func62, Try.ntmps62
    go_wp2
    go_loop [8] (fun i => i = .int .i64 0) (fun _ => 0)
    case atStart => rfl
    case round =>
      obtain rfl := hrel
      go_wp2
      all_goals go_ret
      all_goals exact ⟨ret_int (by first | rfl | rw [if_neg hx]), rfl⟩
set_option maxHeartbeats 800000 in
theorem isBefore_any (a b : Strg) (w : World) :
    Calls Try.prog 49 #[.string ⟨a.toArray⟩, .string ⟨b.toArray⟩] w fun e w' => e = .returned (.bool (befB a b)) ∧ Below w.heap.size w w' := by
  obtain ⟨x, hx⟩ : ∃ x, Lib.compareInt a.length b.length = x := ⟨_, rfl⟩
  obtain ⟨y, hy⟩ : ∃ y, Lib.compareBytes a b = y := ⟨_, rfl⟩
  have h1 := Try.cmp_Compare_int a.length b.length w
  have h2 := Try.strings_Compare ⟨a.toArray⟩ ⟨b.toArray⟩ w
  rw [hx] at h1
  rw [show (⟨a.toArray⟩ : ByteArray).data.toList = a by simp, show (⟨b.toArray⟩ : ByteArray).data.toList = b by simp, hy] at h2
  have h3 := cmpOr2_any w.heap.size x y (w.alloc (.cells #[.int .i64 x, .int .i64 y] 3)) (by simp) (by simp)
  have HT : Hid (decide ((if x = 0 then y else x) < 0) = befB a b) := Lib.hid (by
    subst hx hy
    unfold befB Lib.compareInt
    by_cases l1 : a.length < b.length
    · rw [if_pos (show (a.length : Int) < (b.length : Int) by omega), decide_eq_true l1]; rfl
    · rw [if_neg (show ¬ (a.length : Int) < (b.length : Int) by omega), decide_eq_false l1]
      by_cases l2 : a.length = b.length
      · rw [if_neg (show ¬ (a.length : Int) > (b.length : Int) by omega), decide_eq_true l2]
        simpa using compare_neg a b
      · rw [if_pos (show (a.length : Int) > (b.length : Int) by omega), decide_eq_false l2]; rfl)
  generalize (if x = 0 then y else x) = z at h3 HT
  go_enter Try.func49, Try.ntmps49
  go_wp2_with (first | (go_at_call 63; refine h1.mono ?_; rintro e w' ⟨rfl, rfl⟩) | (go_at_call 64; refine h2.mono ?_; rintro e w' ⟨rfl, rfl⟩) | (go_at_call 62; refine h3.mono ?_; rintro e w' ⟨rfl, rfl⟩))
  all_goals go_ret
  all_goals exact ⟨ret_bool (by rw [← HT.out]), (Below.refl _ _).alloc (Nat.le_refl _) _⟩
set_option maxHeartbeats 800000 in
theorem fits_any (kind : Int) (x : Strg) (w : World) (hx : x.length ≤ maxLen) :
    Calls Try.prog 40 #[.int .i64 kind, .string ⟨x.toArray⟩] w fun e w' => e = .returned (.bool (keyB kind x)) ∧ Below w.heap.size w w' := by
  have h := refValidKey_any kind ⟨x.toArray⟩ w (by show x.length ≤ maxLen; exact hx)
  rw [show (⟨x.toArray⟩ : ByteArray).data.toList = x by simp] at h
  go_enter Try.func40, Try.ntmps40
  go_wp2_with (go_at_call 27; refine h.mono ?_; rintro e w' ⟨rfl, hb⟩; refine Hid.out ?_)
  refine Lib.hid ?_
  go_wp2
  go_ret
  exact ⟨rfl, hb⟩
set_option maxRecDepth 100000 in
set_option maxHeartbeats 3200000 in
theorem firstListed_any (kind : Int) (A : Option Addr) (n c : Nat) (ss : List Strg) (w : World) (hR : NmS w w.heap.size A n ss) (hn : n ≤ 1000000) :
    Calls Try.prog 38 #[.slice A n c, .int .i64 kind] w fun e w' => e = .returned (.tuple #[.string ⟨(best kind ss).1.toArray⟩, .bool (best kind ss).2]) ∧ Below w.heap.size w w' := by
  have HR := Lib.hid hR
  clear hR
  go_enter Try.func38, Try.ntmps38
  go_wp2_with fail
  go_loopw [4, 5, 10] (fun v f i wr => ∃ k : Nat, i = .int .i64 k ∧ k ≤ n ∧ v = .string ⟨(best kind (ss.take k)).1.toArray⟩ ∧ f = .bool (best kind (ss.take k)).2 ∧ Below w.heap.size w wr) (fun _ _ i _ => n - (intOf i).toNat)
  case atStart => exact ⟨0, rfl, by omega, rfl, rfl, Below.refl _ _⟩
  case round =>
    obtain ⟨k, rfl, hk, rfl, rfl, hb⟩ := hrel
    by_cases hkn : k < n
    · obtain ⟨b, off, s, rfl, hbl, hx, hs, cs⟩ := (HR.out.on hb).at hkn
      have HX := Lib.hid (best_take kind hx)
      generalize best kind (ss.take k) = acc at HX ⊢
      obtain ⟨a1, a2⟩ := acc
      simp only
      have kn : (k : Int) < (n : Int) := by omega
      have h1 := fun W => validKey_any kind ⟨s.toArray⟩ W (by show s.length ≤ maxLen; exact hs)
      rw [show (⟨s.toArray⟩ : ByteArray).data.toList = s by simp] at h1
      have h2 := fun W => isBefore_any s a1 W
      obtain ⟨d1, hd1⟩ : ∃ d, keyB kind s = d := ⟨_, rfl⟩
      obtain ⟨d2, hd2⟩ : ∃ d, befB s a1 = d := ⟨_, rfl⟩
      have HT : Hid (best kind (ss.take (k + 1)) = if (d1 && (!a2 || d2)) = true then (s, true) else (a1, a2)) := Lib.hid (by rw [HX.out, ← hd1, ← hd2]; rfl)
      rw [hd1] at h1
      rw [hd2] at h2
      have HB := Lib.hid hb
      clear hx hd1 hd2 hb
      cases d1 <;> cases a2 <;> cases d2
      all_goals
        go_wp2_with (first | (go_at_call 48; refine (h1 _).mono ?_; rintro e w1 ⟨rfl, hb1⟩; refine Hid.out ?_) | (go_at_call 49; refine (h2 _).mono ?_; rintro e w2 ⟨rfl, hb2⟩; refine Hid.out ?_))
        refine Lib.hid ?_
        try
          go_wp2_with (first | (go_at_call 48; refine (h1 _).mono ?_; rintro e w1 ⟨rfl, hb1⟩; refine Hid.out ?_) | (go_at_call 49; refine (h2 _).mono ?_; rintro e w2 ⟨rfl, hb2⟩; refine Hid.out ?_))
          refine Lib.hid ?_
        go_wp2
        go_roundw
        case rel => exact ⟨k + 1, by go_num, by omega, by rw [HT.out]; rfl, by rw [HT.out]; rfl, by first | exact HB.out.trans (hb1.mono HB.out.size) | exact (HB.out.trans (hb1.mono HB.out.size)).trans (hb2.mono (Nat.le_trans HB.out.size hb1.size))⟩
        case measure => simp [intOf]; omega
    · have hke : Hid (ss.take k = ss) := Lib.hid (List.take_of_length_le (by have := HR.out.1; omega))
      rw [hke.out]
      go_wp2
      go_ret2
      exact ⟨rfl, hb⟩
end Go.Proofs.Ytkmfpkdcedfgfaa
