/- Maps as lists of pairs in the order of their keys; rows of elements told by their cells; copies of the document. -/
import Derived.Test.YtjfknigiehggkaaGreatVv01
import Derived.Test.YtjfknigiehggkaaGreatVv35
namespace Go.Proofs.YtjfknigiehggkaaGreat
open Go Go.RowKit
abbrev Kv := (Int × List UInt8) × Vl
def cK (p q : Kv) : Int := cmpK p.1 q.1
def mapV (z : List Kv) : Vl := .mk 8 0 [] (z.map Prod.snd) (z.map Prod.fst) [] []
theorem ins_lt {α : Type} {c : α → α → Int} {x a : α} {l : List α} (h : c a x < 0) : ins c x (a :: l) = a :: ins c x l := by simp [ins, h]
theorem ins_eq {α : Type} {c : α → α → Int} {x a : α} {l : List α} (h : c a x = 0) : ins c x (a :: l) = a :: l := by simp [ins, h]
theorem ins_gt {α : Type} {c : α → α → Int} {x a : α} {l : List α} (h : ¬ c a x < 0) (h2 : ¬ c a x = 0) : ins c x (a :: l) = x :: a :: l := by rw [ins, if_neg h, if_neg h2]
theorem ins_fst (x : Kv) : ∀ l : List Kv, (ins cK x l).map Prod.fst = ins cmpK x.1 (l.map Prod.fst)
  | [] => rfl
  | a :: l => by
    by_cases h1 : cmpK a.1 x.1 < 0
    · rw [ins_lt (c := cK) h1, List.map_cons, List.map_cons, ins_lt (c := cmpK) h1, ins_fst x l]
    · by_cases h2 : cmpK a.1 x.1 = 0
      · rw [ins_eq (c := cK) h2, List.map_cons, ins_eq (c := cmpK) h2]
      · rw [ins_gt (c := cK) h1 h2, List.map_cons, List.map_cons, ins_gt (c := cmpK) h1 h2]
theorem srt_fst (z : List Kv) : (srtC cK z).map Prod.fst = srtC cmpK (z.map Prod.fst) := by
  have h : ∀ (z acc : List Kv), (z.foldl (fun acc x => ins cK x acc) acc).map Prod.fst = (z.map Prod.fst).foldl (fun acc x => ins cmpK x acc) (acc.map Prod.fst) := by
    intro z
    induction z with
    | nil => intro acc; rfl
    | cons a z ih => intro acc; rw [List.foldl_cons, ih, ins_fst, List.map_cons, List.foldl_cons]
  exact h z []
theorem ins_len {α : Type} {c : α → α → Int} (x : α) (m : List α) : (ins c x m).length ≤ m.length + 1 := by
  induction m with
  | nil => simp [ins]
  | cons a m ih =>
    unfold ins
    split
    · simp; omega
    · split <;> simp
theorem srtC_more {α : Type} {c : α → α → Int} (l : List α) (j : Nat) : (srtC c l).length ≤ (srtC c (l.take j)).length + (l.length - j) := by
  have hf : ∀ (l m : List α), (l.foldl (fun acc x => ins c x acc) m).length ≤ m.length + l.length := by
    intro l
    induction l with
    | nil => intro m; simp
    | cons a l ih =>
      intro m
      rw [List.foldl_cons]
      have := ih (ins c a m)
      have := ins_len (c := c) a m
      rw [List.length_cons]
      omega
  have := hf (l.drop j) (srtC c (l.take j))
  rw [← List.length_drop]
  have e : srtC c l = (l.drop j).foldl (fun acc x => ins c x acc) (srtC c (l.take j)) := by
    unfold srtC
    rw [← List.foldl_append, List.take_append_drop]
  rw [e]; exact this
theorem mem_ins_sub {α : Type} {c : α → α → Int} {x y : α} : ∀ {l : List α}, y ∈ ins c x l → y = x ∨ y ∈ l
  | [], h => by simpa [ins] using h
  | a :: l, h => by
    unfold ins at h
    split at h
    · rcases List.mem_cons.1 h with h | h
      · exact .inr (h ▸ List.mem_cons_self ..)
      · rcases mem_ins_sub h with h | h
        · exact .inl h
        · exact .inr (List.mem_cons_of_mem _ h)
    · split at h
      · exact .inr h
      · rcases List.mem_cons.1 h with h | h
        · exact .inl h
        · exact .inr h
theorem mem_srtC_sub {α : Type} {c : α → α → Int} {y : α} {l : List α} (h : y ∈ srtC c l) : y ∈ l := by
  have hf : ∀ (l m : List α), y ∈ l.foldl (fun acc x => ins c x acc) m → y ∈ l ∨ y ∈ m := by
    intro l
    induction l with
    | nil => intro m h; exact .inr h
    | cons a l ih =>
      intro m h
      rw [List.foldl_cons] at h
      rcases ih _ h with h | h
      · exact .inl (List.mem_cons_of_mem _ h)
      · rcases mem_ins_sub h with h | h
        · exact .inl (h ▸ List.mem_cons_self ..)
        · exact .inr h
  rcases hf l [] h with h | h
  · exact h
  · simp at h
/-- a row of elements told by their cells stays while its own block does -/
theorem OwnC.kept {α : Type} {Pr : α → List Value → Prop} {e : TypeId} {c : Nat} {w w' : World} {base : Nat} {v : Value} {l : List α} (h : OwnE (elC Pr) e c w base v l) (hb : ∀ g, v.ownBlock = some g → w'.heap[g]? = w.heap[g]?) : OwnE (elC Pr) e c w' base v l := by
  obtain ⟨xs, ho, hx⟩ := h
  refine ⟨xs, ⟨ho.1, ?_⟩, fun j x hj => hx j x hj⟩
  rcases ho.2 with hn | ⟨g, cap, cur, rfl, hB, hg, rest⟩
  · exact .inl hn
  · exact .inr ⟨g, cap, cur, rfl, hB, (hb g rfl).trans hg, rest⟩
def kyC (x : Int × List UInt8) (cs : List Value) : Prop := cs = [.int .i64 x.1, .string ⟨x.2.toArray⟩] ∧ (Lit.int .i64 x.1).wf = true ∧ x.2.length ≤ maxLen
theorem kyC_one {x : Int × List UInt8} {cs : List Value} (h : kyC x cs) : ∀ u ∈ cs, u.oneCell' = true := by
  obtain ⟨rfl, _⟩ := h
  intro u hu
  simp only [List.mem_cons, List.not_mem_nil, or_false] at hu
  rcases hu with rfl | rfl <;> rfl
abbrev OwnY (w : World) (base : Nat) (v : Value) (l : List (Int × List UInt8)) : Prop := OwnE (elC kyC) 74 2 w base v l
abbrev OwnX7 (k : Nat) (w0 : World) (B0 : Nat → Prop) (w : World) (base : Nat) (v : Value) (l : List Vl) : Prop := OwnE (elC (fun x cs => VB k w0 B0 x cs)) 27 7 w base v l
set_option maxRecDepth 100000 in
set_option maxHeartbeats 3200000 in
theorem copies_own (k : Nat) (w0 : World) (B0 : Nat → Prop) (Bs : Nat → Prop) (A : Option Addr) (c : Nat) (l : List Vl) (w : World) (hl : RowB w Bs 7 (.slice A l.length c) l.length (fun j cs => ∃ x, l[j]? = some x ∧ VB k w0 B0 x cs)) (hn : l.length ≤ 1000000) :
    Calls Tryz.prog 61 #[.slice A l.length c] w fun e w' => ∃ A' c', e = .returned (.slice A' l.length c') ∧ OwnX7 k w0 B0 w' w.heap.size (.slice A' l.length c') l ∧ Below w.heap.size w w' := by
  have HL := Lib.hid hl
  clear hl
  go_enter Tryz.func61, Tryz.ntmps61
  go_wp2_with (refine wp_rowg_v (elC (fun x cs => VB k w0 B0 x cs)) (fun x w' B cs h => elV_one k x w0 B0 cs h) rfl _ _ rfl w.heap.size (.slice none 0 0) [] rfl (OwnE.nil _ _ _ _ _) A l.length c l rfl Bs rfl HL.out (by simpa using hn) (Nat.le_refl _) ?_)
  intro v' w' ho hb hk hg
  have ho' : OwnX7 k w0 B0 w' w.heap.size v' l := ho
  obtain ⟨A', c', rfl⟩ := ho'.form
  have HF := Lib.hid (And.intro ho' hb)
  clear ho ho' hb hk hg
  go_wp2
  go_ret
  exact ⟨A', c', rfl, HF.out⟩
theorem copies_ownN (k : Nat) (w0 : World) (B0 : Nat → Prop) (Bs : Nat → Prop) (A : Option Addr) (c : Nat) (l : List Vl) (w : World) (m : Nat) (hm : l.length = m) (hl : RowB w Bs 7 (.slice A m c) m (fun j cs => ∃ x, l[j]? = some x ∧ VB k w0 B0 x cs)) (hn : m ≤ 1000000) :
    Calls Tryz.prog 61 #[.slice A m c] w fun e w' => ∃ A' c', e = .returned (.slice A' m c') ∧ OwnX7 k w0 B0 w' w.heap.size (.slice A' m c') l ∧ Below w.heap.size w w' := by
  subst hm
  exact copies_own k w0 B0 Bs A c l w hl hn
theorem OwnE.rowN {α : Type} {K : ElK α} {e : TypeId} {c : Nat} {w : World} {base m : Nat} {v : Value} {l : List α} (h : OwnE K e c w base v l) (hc : 0 < c) (hn : l.length ≤ maxLen) (hm : l.length = m) :
    RowB w (Btw base w.heap.size) c v m (fun j cs => ∃ x, l[j]? = some x ∧ K.E x w (Btw base w.heap.size) cs) := by
  subst hm
  exact h.row hc hn
theorem OwnE.formN {α : Type} {K : ElK α} {e : TypeId} {c : Nat} {w : World} {base m : Nat} {v : Value} {l : List α} (h : OwnE K e c w base v l) (hm : l.length = m) (hl : 0 < m) : ∃ g cap, v = .slice (some ⟨g, 0, none⟩) m cap ∧ base ≤ g ∧ g < w.heap.size ∧ m ≤ cap := by
  subst hm
  exact h.formG hl
theorem wp_appg_v {ops : Array Oper} {rest : List Oper} {o : Oper} {a : Act} {Q : Exit → Act → World → Prop} {w0 : World} (K : ElK Vl) (hgd : o.guard = none) (s x : Operand)
    (ho : o.op = .call { callee := .builtin .append, args := #[s, x], argTypes := #[22, 22] }) (base : Nat) (v : Value) (l : List Vl) (hs : a.eval s = v) (hown : OwnE K 27 7 w0 base v l)
    (y : Vl) (cs : List Value) (cap1 : Nat) (H : Nat) (hH : w0.heap.size = H) (hx : a.eval x = .slice (some ⟨H, 0, none⟩) 1 cap1) (cells : Array Value) (hcells : cells = cs.toArray)
    (hy : K.E y w0 (fun b => base ≤ b ∧ b < w0.heap.size ∧ some b ≠ v.ownBlock) cs) (hcs : cs.length = 7) (h1c : ∀ u ∈ cs, u.oneCell' = true) (hn : l.length ≤ 1000000) (hbase : base ≤ w0.heap.size)
    (h : ∀ g cap w', OwnE K 27 7 w' base (.slice (some ⟨g, 0, none⟩) (l.length + 1) cap) (l ++ [y]) → Below base w0 w' → (∀ b, b < w0.heap.size → some b ≠ v.ownBlock → w'.heap[b]? = w0.heap[b]?) → (v.ownBlock = some g ∨ H ≤ g) → wpList Tryz.prog ops Q rest (a.put o.dst (.slice (some ⟨g, 0, none⟩) (l.length + 1) cap)) w') :
    wpList Tryz.prog ops Q (o :: rest) a (w0.alloc (.cells cells 27)) := by
  subst hcells
  obtain ⟨i0, hi, hz0, hz1, hz2⟩ := info_parts Tryz.infoV
  obtain ⟨g, cap, w', h1, h2, h3, h4, h5⟩ := app_one K 22 o.type 27 i0 (.agg #[.int .i64 0, .int .i64 0, .string ⟨#[]⟩, .slice none 0 0, .slice none 0 0, .slice none 0 0, .slice none 0 0]) 7 128 Tryz.underlying22 hi hz0 hz1 hz2 rfl (by decide) (by decide) w0 base v l hown y cs hy hcs h1c hn hbase H hH cap1
  exact Lib.wpList_append_run _ hgd s x 22 22 ho v _ hs hx _ w' h1 (h g cap w' h2 h3 h4 h5)
end Go.Proofs.YtjfknigiehggkaaGreat
namespace Go.Proofs.YtjfknigiehggkaaGreat
open Go Go.RowKit
abbrev RowY (w : World) (B : Nat → Prop) (v : Value) (l : List (Int × List UInt8)) : Prop := RowB w B 2 v l.length (fun j cs => ∃ x, l[j]? = some x ∧ kyC x cs)
def keysB (keys : List (Int × List UInt8)) : Bool := keys.all (fun x => keyB x.1 x.2)
def MapR (k lo : Nat) (keys : List (Int × List UInt8)) (l : List Vl) (w : World) (e : Ending) (w' : World) : Prop :=
  Below w.heap.size w w' ∧ ((¬ (keys.length = l.length ∧ keysB keys = true) ∧ e = .returned (.tuple #[.agg #[.int .i64 0, .int .i64 0, .string ⟨#[]⟩, .slice none 0 0, .slice none 0 0, .slice none 0 0, .slice none 0 0], .int .i64 1])) ∨
    (keys.length = l.length ∧ keysB keys = true ∧ (srtC cK (keys.zip l)).length ≠ keys.length ∧ e = .returned (.tuple #[.agg #[.int .i64 0, .int .i64 0, .string ⟨#[]⟩, .slice none 0 0, .slice none 0 0, .slice none 0 0, .slice none 0 0], .int .i64 6])) ∨
    (keys.length = l.length ∧ keysB keys = true ∧ (srtC cK (keys.zip l)).length = keys.length ∧ ∃ cs, e = .returned (.tuple #[.agg cs.toArray, .int .i64 0]) ∧ VB (k + 1) w' (Btw lo w'.heap.size) (mapV (srtC cK (keys.zip l))) cs))
end Go.Proofs.YtjfknigiehggkaaGreat
