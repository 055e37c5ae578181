/- The labels of the source: at most two, in ascending order, in memory of the call's own. -/
import Derived.Test.YtjfknigiehggkaaGreatVl15
import Derived.Test.YtjfknigiehggkaaGreatVl16
import Derived.Deep.AppendLies
namespace Go.Proofs.YtjfknigiehggkaaGreat
open Go Go.RowKit
theorem cmpT_of_bl : ∀ {a b : List UInt8}, bl a b = true → cmpT a b < 0
  | [], [], h => by simp [bl_irrefl] at h
  | [], _ :: _, _ => by simp [cmpT]
  | _ :: _, [], h => by rw [bl_nil'] at h; cases h
  | x :: s, y :: t, h => by
    rcases (bl_cons x y s t).1 h with h' | ⟨rfl, h'⟩
    · have h1 := UInt8.lt_iff_toNat_lt.1 h'
      have h2 : cmpI (x.toNat : Int) y.toNat = -1 := by unfold cmpI; rw [if_pos (by omega)]
      simp [cmpT, h2, thn]
    · have := cmpT_of_bl h'
      have h2 : cmpI (x.toNat : Int) x.toNat = 0 := by unfold cmpI; simp
      simpa [cmpT, h2, thn] using this
theorem labelsB_srt {ss : List (List UInt8)} (h : ∀ x, x ∈ ss → LabN x) : labelsB (srt ss) = true := by
  unfold labelsB
  rw [Bool.and_eq_true, List.all_eq_true, decide_eq_true_iff]
  exact ⟨fun x hx => (h x ((srt_mem ss x).1 hx)).ok, List.Pairwise.imp (fun h => cmpT_of_bl h) (srt_asc ss)⟩
theorem OwnN.eff {p : Nat} {w w' : World} {B : Nat} {v : Value} {ss : List Strg} (h : OwnN w B v ss) (hE : Eff p w w') (hp : p < B) : OwnN w' B v ss := by
  refine ⟨h.1, ?_⟩
  rcases h.2 with hn | ⟨g, cap, cur, rfl, hB, hg, rest⟩
  · exact .inl hn
  · exact .inr ⟨g, cap, cur, rfl, hB, (hE.other g (by omega) (Array.getElem?_eq_some_iff.1 hg).1).trans hg, rest⟩
/-- what turns own blocks alone (from B on, where w ended) leaves the source as it was -/
theorem SrcOk.below3 {h p B : Nat} {w w' : World} (hs : SrcOk h p w) (hb : Below B w w') (hp : p < B) : SrcOk h p w' := by
  have hl := hs.lt
  obtain ⟨A, n, c, q, h1, h2, h3, h4, h5⟩ := hs
  exact ⟨A, n, c, q, (hb.block p hp).trans h1, h2, h3, h4, h5.on (hb.mono (by omega)) fun _ _ h => h⟩
theorem Eff.grow {p : Nat} {w w1 w2 : World} (h : Eff p w w1) (hb : Below w.heap.size w1 w2) (hp : p < w.heap.size) : Eff p w w2 :=
  ⟨h.below.trans (hb.mono (by omega)), fun b hb' hl => (hb.block b hl).trans (h.other b hb' hl)⟩
/-- what Labels hands back -/
def LabsR (h p : Nat) (w : World) (e : Ending) (w' : World) : Prop :=
  (∃ A n c, ∃ ls : List (List UInt8), e = .returned (.slice A n c) ∧ ls.length = n ∧ n ≤ 2 ∧ labelsB ls = true ∧ (∀ x, x ∈ ls → LabN x) ∧ RowB w' (Btw w.heap.size w'.heap.size) 1 (.slice A n c) n (fun j cs => ∃ x, ls[j]? = some x ∧ cs = [.string ⟨x.toArray⟩] ∧ x.length ≤ maxLen)) ∧ SrcOk h p w' ∧ Eff p w w'
theorem labs_end {h p : Nat} {w wc w9 : World} {ss : List Strg} {A : Option Addr} {c : Nat} (ha : ∀ x, x ∈ ss → LabN x) (hl : ss.length ≤ 2) (hS : SrcOk h p wc) (hE : Eff p w wc) (hlp : p < w.heap.size)
    (ho : OwnN w9 wc.heap.size (.slice A (srt ss).length c) (srt ss)) (hb : Below wc.heap.size wc w9) : LabsR h p w (.returned (.slice A (srt ss).length c)) w9 := by
  have hn : (srt ss).length ≤ 2 := Nat.le_trans (srt_len ss) hl
  have hs := hE.size
  refine ⟨⟨A, _, c, srt ss, rfl, rfl, hn, labelsB_srt ha, fun x hx => ha x ((srt_mem ss x).1 hx), ?_⟩, hS.below hb, hE.trans (Eff.of_below hb (by omega))⟩
  refine row_of_owns ho (by unfold maxLen; omega) (fun g _ h1 h2 => ⟨by omega, h2⟩) (fun j hj => ?_) (by omega)
  refine ⟨(srt ss)[j], List.getElem?_eq_getElem hj, ?_, ?_⟩
  · apply List.ext_getElem?
    intro i
    match i with
    | 0 => rw [List.getElem?_take_of_lt (by omega), List.getElem?_drop]; simp [encStr, List.getElem?_eq_getElem hj]
    | i + 1 => rw [List.getElem?_take_eq_none (by omega), List.getElem?_eq_none (by simp)]
  · have := (ha _ ((srt_mem ss _).1 (List.getElem_mem hj))).len
    unfold maxLen
    omega
set_option maxRecDepth 100000 in
set_option maxHeartbeats 3200000 in
theorem labels_src (h p : Nat) (w : World) (hS : SrcOk h p w) : Calls Tryz.prog 63 #[.pointer (some ⟨p, 0, none⟩)] w (LabsR h p w) := by
  have hlp := hS.lt
  have hc := next_any h p 3 _ hS (by omega) (by omega)
  go_enter Tryz.func63, Tryz.ntmps63
  go_wp2_with fail
  refine hc.mono ?_
  rintro e w1 ⟨j, rfl, j0, j1, hS1, hE1⟩
  have hz1 := hE1.size
  clear hc hS
  have HA := Lib.hid (And.intro hS1 hE1)
  clear hS1 hE1
  have hj : j = 0 ∨ j = 1 ∨ j = 2 := by omega
  rcases hj with rfl | rfl | rfl
  · have hT := sorted_any none 0 0 [] w1 (NmS.nil _ _ _) (by omega)
    go_wp2_with fail
    refine hT.mono ?_
    rintro e w9 ⟨A', c', rfl, ho, hb⟩
    clear hT
    have hfin := Lib.hid (labs_end (by simp) (by simp) HA.out.1 HA.out.2 hlp ho hb)
    clear ho hb
    go_wp2
    go_ret
    exact hfin.out
  · have hL := label_any h p w1 HA.out.1
    go_wp2_with fail
    refine hL.mono ?_
    rintro e w2 ⟨⟨s, rfl, hs⟩, hS2, hE2⟩
    have hz2 := hE2.size
    have HB := Lib.hid (And.intro hS2 (HA.out.2.trans hE2))
    clear hL hS2 hE2
    go_wp2_with (refine wp_app_n rfl _ _ rfl w.heap.size (.slice none 0 0) [] rfl (OwnN.nil _ _) [s] 1 1 rfl #[.string ⟨s.toArray⟩] rfl _ rfl rfl (by simp) (by omega) ?_)
    intro v3 w3 ho3 hb3
    have hz3 := hb3.size
    have hpre : SrcOk h p w3 ∧ Eff p w w3 := ⟨HB.out.1.below3 hb3 (by omega), HB.out.2.grow hb3 hlp⟩
    clear hb3
    have ho3' : OwnN w3 w.heap.size v3 [s] := ho3
    clear ho3
    obtain ⟨A3, c3, hv3⟩ : ∃ A3 c3, v3 = .slice A3 1 c3 := ho3'.form
    subst hv3
    have HC := Lib.hid hpre
    have HO := Lib.hid ho3'
    clear hpre ho3'
    have hN2 := next_any h p 2 w3 HC.out.1 (by omega) (by omega)
    go_wp2_with fail
    refine hN2.mono ?_
    rintro e w4 ⟨j, rfl, j0, j1, hS4, hE4⟩
    have hz4 := hE4.size
    have HD := Lib.hid (And.intro hS4 (And.intro (HC.out.2.trans hE4) (HO.out.eff hE4 hlp)))
    clear hN2 hS4 hE4
    have hj : j = 0 ∨ j = 1 := by omega
    rcases hj with rfl | rfl
    · have hT := sorted_any A3 1 c3 [s] w4 (HD.out.2.2.rng (by intro x hx; simp at hx; subst hx; have := hs.len; unfold maxLen; omega)) (by omega)
      go_wp2_with fail
      refine hT.mono ?_
      rintro e w9 ⟨A', c', rfl, ho, hb⟩
      clear hT
      have hfin := Lib.hid (labs_end (by intro x hx; simp at hx; subst hx; exact hs) (by simp) HD.out.1 HD.out.2.1 hlp ho hb)
      clear ho hb
      go_wp2
      go_ret
      exact hfin.out
    · have hL := label_any h p w4 HD.out.1
      go_wp2_with fail
      refine hL.mono ?_
      rintro e w5 ⟨⟨t, rfl, ht⟩, hS5, hE5⟩
      have hz5 := hE5.size
      have HF := Lib.hid (And.intro hS5 (And.intro (HD.out.2.1.trans hE5) (HD.out.2.2.eff hE5 hlp)))
      clear hL hS5 hE5
      go_wp2_with (refine wp_app_n rfl _ _ rfl w.heap.size (.slice A3 1 c3) [s] rfl HF.out.2.2 [t] 1 1 rfl #[.string ⟨t.toArray⟩] rfl _ rfl rfl (by simp) (by omega) ?_)
      intro v6 w6 ho6 hb6
      have hz6 := hb6.size
      have hlab : ∀ x, x ∈ [s, t] → LabN x := by
        intro x hx
        simp at hx
        rcases hx with rfl | rfl <;> assumption
      have hpre : SrcOk h p w6 ∧ Eff p w w6 := ⟨HF.out.1.below3 hb6 (by omega), HF.out.2.1.grow hb6 hlp⟩
      clear hb6
      have ho6' : OwnN w6 w.heap.size v6 [s, t] := ho6
      clear ho6
      obtain ⟨A6, c6, hv6⟩ : ∃ A6 c6, v6 = .slice A6 2 c6 := ho6'.form
      subst hv6
      have HG := Lib.hid (And.intro hpre ho6')
      clear hpre ho6'
      have hT := sorted_any A6 2 c6 [s, t] w6 (HG.out.2.rng (fun x hx => by have := (hlab x hx).len; unfold maxLen; omega)) (by omega)
      go_wp2_with fail
      refine hT.mono ?_
      rintro e w9 ⟨A', c', rfl, ho, hb⟩
      clear hT
      have hfin := Lib.hid (labs_end hlab (by simp) HG.out.1.1 HG.out.1.2 hlp ho hb)
      clear ho hb
      go_wp2
      go_ret
      exact hfin.out
  · have hT := sorted_any none 0 0 [] w1 (NmS.nil _ _ _) (by omega)
    go_wp2_with fail
    refine hT.mono ?_
    rintro e w9 ⟨A', c', rfl, ho, hb⟩
    clear hT
    have hfin := Lib.hid (labs_end (by simp) (by simp) HA.out.1 HA.out.2 hlp ho hb)
    clear ho hb
    go_wp2
    go_ret
    exact hfin.out
end Go.Proofs.YtjfknigiehggkaaGreat
namespace Go.Proofs.YtjfknigiehggkaaGreat
open Go Go.RowKit
/-- how an element x lies in w in blocks of B, its root in the cells cs -/
structure ElK (α : Type) where
  E : α → World → (Nat → Prop) → List Value → Prop
  keep : ∀ {x w w' B cs}, Same B w w' → E x w B cs → E x w' B cs
  sub : ∀ {x w B B' cs}, (∀ b, B b → B' b) → E x w B cs → E x w B' cs
def OwnE {α : Type} (K : ElK α) (e : TypeId) (c : Nat) (w : World) (base : Nat) (v : Value) (l : List α) : Prop :=
  ∃ xs, w.ownsRow base e c v l.length xs ∧ ∀ j x, l[j]? = some x → K.E x w (fun b => base ≤ b ∧ b < w.heap.size ∧ some b ≠ v.ownBlock) ((xs.drop (j * c)).take c)
theorem OwnE.nil {α : Type} (K : ElK α) (e : TypeId) (c : Nat) (w : World) (base : Nat) : OwnE K e c w base (.slice none 0 0) [] := ⟨[], World.ownsRow_nil _ _ _ _, fun j x h => by simp at h⟩
theorem OwnE.form {α : Type} {K : ElK α} {e : TypeId} {c : Nat} {w : World} {base : Nat} {v : Value} {l : List α} (h : OwnE K e c w base v l) : ∃ A cap, v = .slice A l.length cap := by
  obtain ⟨xs, ⟨_, hc⟩, _⟩ := h
  rcases hc with ⟨rfl, hn⟩ | ⟨g, cap, cur, rfl, _⟩
  · exact ⟨none, 0, by rw [hn]⟩
  · exact ⟨_, cap, rfl⟩
/-- the row, seen as a row of trees -/
theorem OwnE.row {α : Type} {K : ElK α} {e : TypeId} {c : Nat} {w : World} {base : Nat} {v : Value} {l : List α} (h : OwnE K e c w base v l) (hc : 0 < c) (hn : l.length ≤ maxLen) :
    RowB w (Btw base w.heap.size) c v l.length (fun j cs => ∃ x, l[j]? = some x ∧ K.E x w (Btw base w.heap.size) cs) := by
  obtain ⟨xs, ho, hx⟩ := h
  exact row_of_owns ho hn (fun g _ h1 h2 => ⟨h1, h2⟩) (fun j hj => ⟨l[j], List.getElem?_eq_getElem hj, K.sub (fun b hb => ⟨hb.1, hb.2.1⟩) (hx j _ (List.getElem?_eq_getElem hj))⟩) hc
/-- what leaves the blocks from base on as they were, keeps the row -/
theorem OwnE.kept {α : Type} {K : ElK α} {e : TypeId} {c : Nat} {w w' : World} {base : Nat} {v : Value} {l : List α} (h : OwnE K e c w base v l) (hs : w.heap.size ≤ w'.heap.size) (hb : ∀ b, base ≤ b → b < w.heap.size → w'.heap[b]? = w.heap[b]?) : OwnE K e c w' base v l := by
  obtain ⟨xs, ho, hx⟩ := h
  refine ⟨xs, ⟨ho.1, ?_⟩, fun j x hj => K.sub (fun b hb => ⟨hb.1, by have := hb.2.1; omega, hb.2.2⟩) (K.keep ⟨hs, fun b i hB hl => World.cell?_of_block (hb b hB.1 hl)⟩ (hx j x hj))⟩
  rcases ho.2 with hn | ⟨g, cap, cur, rfl, hB, hg, rest⟩
  · exact .inl hn
  · exact .inr ⟨g, cap, cur, rfl, hB, (hb g hB (Array.getElem?_eq_some_iff.1 hg).1).trans hg, rest⟩
theorem OwnE.eff {α : Type} {K : ElK α} {e : TypeId} {c p : Nat} {w w' : World} {base : Nat} {v : Value} {l : List α} (h : OwnE K e c w base v l) (hE : Eff p w w') (hp : p < base) : OwnE K e c w' base v l :=
  h.kept hE.size fun b h1 h2 => hE.other b (by omega) h2
theorem OwnE.old {α : Type} {K : ElK α} {e : TypeId} {c : Nat} {w w' : World} {base : Nat} {v : Value} {l : List α} (h : OwnE K e c w base v l) (hb : Below w.heap.size w w') : OwnE K e c w' base v l :=
  h.kept hb.size fun b _ h2 => hb.block b h2
/-- a store into a block that is neither the row's nor above base -/
theorem OwnE.low {α : Type} {K : ElK α} {e : TypeId} {c : Nat} {w : World} {base g i : Nat} {v u : Value} {l : List α} (h : OwnE K e c w base v l) (hg : g < base) : OwnE K e c (w.setCell ⟨g, i, none⟩ u) base v l :=
  h.kept (by simp) fun b h1 _ => heap_setCell_other _ _ _ _ (show b ≠ g by omega)
theorem app_one {α : Type} (K : ElK α) (t ty : TypeId) (e : TypeId) (i : TypeInfo) (z : Value) (c bytes : Nat) (ht : Tryz.prog.underlying t = some (.slice e)) (hi : Tryz.prog.info? e = some i) (hz : i.zero = some z)
    (hsize : i.size = c) (hby : i.bytes = bytes) (hzs : z.cells.size = c) (hc : 0 < c) (hb8 : bytes ≤ 1000)
    (w0 : World) (base : Nat) (v : Value) (l : List α) (h : OwnE K e c w0 base v l) (x : α) (cs : List Value) (hx : K.E x w0 (fun b => base ≤ b ∧ b < w0.heap.size ∧ some b ≠ v.ownBlock) cs) (hcs : cs.length = c) (h1c : ∀ u ∈ cs, u.oneCell' = true)
    (hn : l.length ≤ 300000000) (hbase : base ≤ w0.heap.size) (H : Nat) (hH : w0.heap.size = H) (cap1 : Nat) :
    ∃ g cap w', (Builtin.append_ #[t, t] ty #[v, .slice (some ⟨H, 0, none⟩) 1 cap1]).run Tryz.prog (w0.alloc (.cells cs.toArray e)) = .ok (.slice (some ⟨g, 0, none⟩) (l.length + 1) cap) w' ∧
      OwnE K e c w' base (.slice (some ⟨g, 0, none⟩) (l.length + 1) cap) (l ++ [x]) ∧ Below base w0 w' ∧ (∀ b, b < w0.heap.size → some b ≠ v.ownBlock → w'.heap[b]? = w0.heap[b]?) ∧ (v.ownBlock = some g ∨ H ≤ g) := by
  subst hH
  obtain ⟨xs, ho, hxs⟩ := h
  have hz0 : (w0.alloc (.cells cs.toArray e)).heap.size = w0.heap.size + 1 := by simp
  obtain ⟨g, cap, w', hr, h2, h3, h4, h5⟩ := run_append_lies (P := Tryz.prog) (w := w0.alloc (.cells cs.toArray e)) t ty base e i z c bytes ht hi hz hsize hby hzs hc v l.length xs (World.ownsRow.alloc ho _) ⟨w0.heap.size, 0, none⟩ 1 cap1 cs (by simpa using hcs)
    (World.news_of_block (cs := cs.toArray) (heap_alloc_new w0 _)) h1c (by omega) (by unfold maxLen; omega) (Nat.le_trans (Nat.mul_le_mul (show l.length + 1 ≤ 300000001 by omega) hb8) (by omega)) (by omega) _ hz0
  have hkeep : ∀ b, b < w0.heap.size → some b ≠ v.ownBlock → w'.heap[b]? = w0.heap[b]? := fun b hb hne => (h3.block b (by omega) hne).trans (Below.heap_alloc _ _ _ hb)
  have hvlt : ∀ b, v.ownBlock = some b → base ≤ b ∧ b < w0.heap.size := by
    intro b hb
    rcases ho.2 with ⟨rfl, _⟩ | ⟨g', cap', cur, rfl, hB, hg, _⟩
    · simp [Value.ownBlock] at hb
    · simp [Value.ownBlock] at hb
      subst hb
      exact ⟨hB, (Array.getElem?_eq_some_iff.1 hg).1⟩
  have hs3 := h3.size
  have hsm : Same (fun b => base ≤ b ∧ b < w0.heap.size ∧ some b ≠ v.ownBlock) w0 w' := ⟨by omega, fun b i hB hl => World.cell?_of_block (hkeep b hl hB.2.2)⟩
  have hsub : ∀ b, (base ≤ b ∧ b < w0.heap.size ∧ some b ≠ v.ownBlock) → (base ≤ b ∧ b < w'.heap.size ∧ some b ≠ (Value.slice (some ⟨g, 0, none⟩) (l.length + 1) cap).ownBlock) := by
    intro b ⟨a1, a2, a3⟩
    refine ⟨a1, by omega, ?_⟩
    simp only [Value.ownBlock, ne_eq, Option.some.injEq]
    intro e
    rcases h4 with h4 | h4
    · exact a3 (by rw [h4, e])
    · omega
  have hll : (l ++ [x]).length = l.length + 1 := by simp
  refine ⟨g, cap, w', hr, ⟨xs ++ cs, by rw [hll]; exact h2, fun j y hj => ?_⟩, ((Below.refl base w0).alloc hbase _).grown h3 (by omega) (fun k hk => (hvlt k hk).1), hkeep, h4.imp_right fun h => by omega⟩
  have hjl : j < l.length + 1 := by have := (List.getElem?_eq_some_iff.1 hj).1; omega
  by_cases hjn : j < l.length
  · rw [List.getElem?_append_left hjn] at hj
    have hle : (j + 1) * c ≤ l.length * c := Nat.mul_le_mul_right c hjn
    rw [Nat.add_mul, Nat.one_mul] at hle
    have hxl := ho.1
    rw [show ((xs ++ cs).drop (j * c)).take c = (xs.drop (j * c)).take c by rw [List.drop_append_of_le_length (by omega), List.take_append_of_le_length (by rw [List.length_drop]; omega)]]
    exact K.sub hsub (K.keep hsm (hxs j y hj))
  · have hjq : j = l.length := by omega
    subst hjq
    rw [List.getElem?_append_right (Nat.le_refl _), Nat.sub_self] at hj
    simp only [List.getElem?_cons_zero, Option.some.injEq] at hj
    subst hj
    rw [← ho.1, List.drop_left, ← hcs, List.take_length]
    exact K.sub hsub (K.keep hsm hx)
def elV (k : Nat) : ElK Vl := ⟨fun x w B cs => VB k w B x cs, fun h h' => VB.keep h h', fun h h' => VB.sub h (Nat.le_refl _) h'⟩
def elK : ElK (Int × List UInt8) := ⟨fun x _ _ cs => cs = [.int .i64 x.1, .string ⟨x.2.toArray⟩] ∧ (Lit.int .i64 x.1).wf = true ∧ x.2.length ≤ maxLen, fun _ h => h, fun _ h => h⟩
/-- an entry in nine cells -/
def EnB (k : Nat) (x : En) (w : World) (B : Nat → Prop) (cs : List Value) : Prop :=
  ∃ args fails result, x = .mk args fails result ∧ ∃ ua rs, cs = ua :: .bool fails :: rs ∧ RowB w B 7 ua args.length (fun j cs => ∃ x, args[j]? = some x ∧ VB k w B x cs) ∧ VB k w B result rs
def elE (k : Nat) : ElK En := ⟨EnB k, fun hs ⟨a, f, r, h1, ua, rs, h2, h3, h4⟩ => ⟨a, f, r, h1, ua, rs, h2, h3.keep hs fun _ _ ⟨x, hx, hv⟩ => ⟨x, hx, VB.keep hs hv⟩, VB.keep hs h4⟩, fun hs ⟨a, f, r, h1, ua, rs, h2, h3, h4⟩ => ⟨a, f, r, h1, ua, rs, h2, h3.sub hs fun _ _ ⟨x, hx, hv⟩ => ⟨x, hx, VB.sub hs (Nat.le_refl _) hv⟩, VB.sub hs (Nat.le_refl _) h4⟩⟩
abbrev OwnV (k : Nat) (w : World) (base : Nat) (v : Value) (l : List Vl) : Prop := OwnE (elV k) 27 7 w base v l
abbrev OwnK (w : World) (base : Nat) (v : Value) (l : List (Int × List UInt8)) : Prop := OwnE elK 74 2 w base v l
abbrev OwnEn (k : Nat) (w : World) (base : Nat) (v : Value) (l : List En) : Prop := OwnE (elE k) 55 9 w base v l
theorem Tryz.infoK : (Tryz.prog.info? 74).map (fun i => (i.zero, i.size, i.bytes)) = some (some (.agg #[.int .i64 0, .string ⟨#[]⟩]), 2, 24) := by kernel_rfl
theorem Tryz.infoE : (Tryz.prog.info? 55).map (fun i => (i.zero, i.size, i.bytes)) = some (some (.agg #[.slice none 0 0, .bool false, .int .i64 0, .int .i64 0, .string ⟨#[]⟩, .slice none 0 0, .slice none 0 0, .slice none 0 0, .slice none 0 0]), 9, 160) := by kernel_rfl
theorem wp_app_v {ops : Array Oper} {rest : List Oper} {o : Oper} {a : Act} {Q : Exit → Act → World → Prop} {w0 : World} (hgd : o.guard = none) (s x : Operand)
    (ho : o.op = .call { callee := .builtin .append, args := #[s, x], argTypes := #[22, 22] }) (k : Nat) (base : Nat) (v : Value) (l : List Vl) (hs : a.eval s = v) (hown : OwnV k w0 base v l)
    (y : Vl) (cs : List Value) (cap1 : Nat) (H : Nat) (hH : w0.heap.size = H) (hx : a.eval x = .slice (some ⟨H, 0, none⟩) 1 cap1) (cells : Array Value) (hcells : cells = cs.toArray)
    (hy : (elV k).E y w0 (fun b => base ≤ b ∧ b < w0.heap.size ∧ some b ≠ v.ownBlock) cs) (hcs : cs.length = 7) (h1c : ∀ u ∈ cs, u.oneCell' = true) (hn : l.length ≤ 300000000) (hbase : base ≤ w0.heap.size)
    (h : ∀ g cap w', OwnV k w' base (.slice (some ⟨g, 0, none⟩) (l.length + 1) cap) (l ++ [y]) → Below base w0 w' → (∀ b, b < w0.heap.size → some b ≠ v.ownBlock → w'.heap[b]? = w0.heap[b]?) → (v.ownBlock = some g ∨ H ≤ g) → wpList Tryz.prog ops Q rest (a.put o.dst (.slice (some ⟨g, 0, none⟩) (l.length + 1) cap)) w') :
    wpList Tryz.prog ops Q (o :: rest) a (w0.alloc (.cells cells 27)) := by
  subst hcells
  obtain ⟨i0, hi, hz0, hz1, hz2⟩ := info_parts Tryz.infoV
  obtain ⟨g, cap, w', h1, h2, h3, h4, h5⟩ := app_one (elV k) 22 o.type 27 i0 (.agg #[.int .i64 0, .int .i64 0, .string ⟨#[]⟩, .slice none 0 0, .slice none 0 0, .slice none 0 0, .slice none 0 0]) 7 128 Tryz.underlying22 hi hz0 hz1 hz2 rfl (by decide) (by decide) w0 base v l hown y cs hy hcs h1c hn hbase H hH cap1
  exact Lib.wpList_append_run _ hgd s x 22 22 ho v _ hs hx _ w' h1 (h g cap w' h2 h3 h4 h5)
theorem wp_app_k {ops : Array Oper} {rest : List Oper} {o : Oper} {a : Act} {Q : Exit → Act → World → Prop} {w0 : World} (hgd : o.guard = none) (s x : Operand)
    (ho : o.op = .call { callee := .builtin .append, args := #[s, x], argTypes := #[23, 23] }) (base : Nat) (v : Value) (l : List (Int × List UInt8)) (hs : a.eval s = v) (hown : OwnK w0 base v l)
    (y : (Int × List UInt8)) (cs : List Value) (cap1 : Nat) (H : Nat) (hH : w0.heap.size = H) (hx : a.eval x = .slice (some ⟨H, 0, none⟩) 1 cap1) (cells : Array Value) (hcells : cells = cs.toArray)
    (hy : (elK).E y w0 (fun b => base ≤ b ∧ b < w0.heap.size ∧ some b ≠ v.ownBlock) cs) (hcs : cs.length = 2) (h1c : ∀ u ∈ cs, u.oneCell' = true) (hn : l.length ≤ 300000000) (hbase : base ≤ w0.heap.size)
    (h : ∀ g cap w', OwnK w' base (.slice (some ⟨g, 0, none⟩) (l.length + 1) cap) (l ++ [y]) → Below base w0 w' → (∀ b, b < w0.heap.size → some b ≠ v.ownBlock → w'.heap[b]? = w0.heap[b]?) → (v.ownBlock = some g ∨ H ≤ g) → wpList Tryz.prog ops Q rest (a.put o.dst (.slice (some ⟨g, 0, none⟩) (l.length + 1) cap)) w') :
    wpList Tryz.prog ops Q (o :: rest) a (w0.alloc (.cells cells 74)) := by
  subst hcells
  obtain ⟨i0, hi, hz0, hz1, hz2⟩ := info_parts Tryz.infoK
  obtain ⟨g, cap, w', h1, h2, h3, h4, h5⟩ := app_one (elK) 23 o.type 74 i0 (.agg #[.int .i64 0, .string ⟨#[]⟩]) 2 24 Tryz.underlying23 hi hz0 hz1 hz2 rfl (by decide) (by decide) w0 base v l hown y cs hy hcs h1c hn hbase H hH cap1
  exact Lib.wpList_append_run _ hgd s x 23 23 ho v _ hs hx _ w' h1 (h g cap w' h2 h3 h4 h5)
theorem wp_app_e {ops : Array Oper} {rest : List Oper} {o : Oper} {a : Act} {Q : Exit → Act → World → Prop} {w0 : World} (hgd : o.guard = none) (s x : Operand)
    (ho : o.op = .call { callee := .builtin .append, args := #[s, x], argTypes := #[24, 24] }) (k : Nat) (base : Nat) (v : Value) (l : List En) (hs : a.eval s = v) (hown : OwnEn k w0 base v l)
    (y : En) (cs : List Value) (cap1 : Nat) (H : Nat) (hH : w0.heap.size = H) (hx : a.eval x = .slice (some ⟨H, 0, none⟩) 1 cap1) (cells : Array Value) (hcells : cells = cs.toArray)
    (hy : (elE k).E y w0 (fun b => base ≤ b ∧ b < w0.heap.size ∧ some b ≠ v.ownBlock) cs) (hcs : cs.length = 9) (h1c : ∀ u ∈ cs, u.oneCell' = true) (hn : l.length ≤ 300000000) (hbase : base ≤ w0.heap.size)
    (h : ∀ g cap w', OwnEn k w' base (.slice (some ⟨g, 0, none⟩) (l.length + 1) cap) (l ++ [y]) → Below base w0 w' → (∀ b, b < w0.heap.size → some b ≠ v.ownBlock → w'.heap[b]? = w0.heap[b]?) → (v.ownBlock = some g ∨ H ≤ g) → wpList Tryz.prog ops Q rest (a.put o.dst (.slice (some ⟨g, 0, none⟩) (l.length + 1) cap)) w') :
    wpList Tryz.prog ops Q (o :: rest) a (w0.alloc (.cells cells 55)) := by
  subst hcells
  obtain ⟨i0, hi, hz0, hz1, hz2⟩ := info_parts Tryz.infoE
  obtain ⟨g, cap, w', h1, h2, h3, h4, h5⟩ := app_one (elE k) 24 o.type 55 i0 (.agg #[.slice none 0 0, .bool false, .int .i64 0, .int .i64 0, .string ⟨#[]⟩, .slice none 0 0, .slice none 0 0, .slice none 0 0, .slice none 0 0]) 9 160 Tryz.underlying24 hi hz0 hz1 hz2 rfl (by decide) (by decide) w0 base v l hown y cs hy hcs h1c hn hbase H hH cap1
  exact Lib.wpList_append_run _ hgd s x 24 24 ho v _ hs hx _ w' h1 (h g cap w' h2 h3 h4 h5)
end Go.Proofs.YtjfknigiehggkaaGreat
namespace Go.Proofs.YtjfknigiehggkaaGreat
open Go Go.RowKit
theorem row_news {w : World} {B : Nat → Prop} {c n cap : Nat} {A : Option Addr} {R : Nat → List Value → Prop} (hc : 0 < c) (h : RowB w B c (.slice A n cap) n R) (hn : 0 < n) :
    ∃ b off, ∃ news : List Value, A = some ⟨b, off, none⟩ ∧ news.length = n * c ∧ (∀ q u, news[q]? = some u → w.cell? ⟨b, off + q, none⟩ = some u) ∧ (∀ j, j < n → R j ((news.drop (j * c)).take c)) ∧ ∀ u, u ∈ news → ∃ j cs, R j cs ∧ u ∈ cs := by
  obtain ⟨A', cap', h1, _, h3⟩ := h
  obtain ⟨b, off, rfl, _, _, h7⟩ := h3 hn
  injection h1 with hA _ _
  have hch : ∀ j : Fin n, ∃ cs : List Value, cs.length = c ∧ (∀ i, i < c → w.cell? ⟨b, off + j.1 * c + i, none⟩ = cs[i]?) ∧ R j.1 cs := fun j => h7 j.1 j.2
  let enc : Fin n → List Value := fun j => Classical.choose (hch j)
  have he : ∀ j, (enc j).length = c ∧ (∀ i, i < c → w.cell? ⟨b, off + j.1 * c + i, none⟩ = (enc j)[i]?) ∧ R j.1 (enc j) := fun j => Classical.choose_spec (hch j)
  have hfr : ∀ j (hj : j < n), (List.finRange n)[j]? = some ⟨j, hj⟩ := fun j hj => by simp [hj]
  have hlen : ∀ l : List (Fin n), (l.flatMap enc).length = l.length * c := by
    intro l
    induction l with
    | nil => simp
    | cons a s ih => rw [List.flatMap_cons, List.length_append, ih, (he a).1, List.length_cons, Nat.add_mul]; omega
  refine ⟨b, off, (List.finRange n).flatMap enc, hA, by rw [hlen, List.length_finRange], fun q u hq => ?_, fun j hj => ?_, fun u hu => ?_⟩
  · obtain ⟨x, hx, hu⟩ := flat_at (fun x => (he x).1) hc hq
    have hd : q / c < n := by have := (List.getElem?_eq_some_iff.1 hx).1; simpa using this
    rw [hfr _ hd] at hx
    injection hx with hx
    subst hx
    have := (he ⟨q / c, hd⟩).2.1 (q % c) (Nat.mod_lt _ hc)
    rw [hu, Nat.add_assoc, show q / c * c + q % c = q by rw [Nat.mul_comm]; exact Nat.div_add_mod q c] at this
    exact this
  · rw [flat_sub (fun x => (he x).1) (hfr j hj)]
    exact (he ⟨j, hj⟩).2.2
  · obtain ⟨x, _, hx⟩ := List.mem_flatMap.1 hu
    exact ⟨x.1, enc x, (he x).2.2, hx⟩
/-- appending a whole row to a row of the call's own -/
theorem app_row {α : Type} (K : ElK α) (t ty : TypeId) (e : TypeId) (i : TypeInfo) (z : Value) (c bytes : Nat) (ht : Tryz.prog.underlying t = some (.slice e)) (hi : Tryz.prog.info? e = some i) (hz : i.zero = some z)
    (hsize : i.size = c) (hby : i.bytes = bytes) (hzs : z.cells.size = c) (hc : 0 < c) (hb8 : bytes ≤ 1000) (h1K : ∀ x w B cs, K.E x w B cs → ∀ u ∈ cs, u.oneCell' = true)
    (w0 : World) (base : Nat) (v : Value) (l : List α) (h : OwnE K e c w0 base v l) (A : Option Addr) (m cap1 : Nat) (l' : List α) (hm : l'.length = m) (Bs : Nat → Prop)
    (hx : RowB w0 Bs c (.slice A m cap1) m (fun j cs => ∃ x, l'[j]? = some x ∧ K.E x w0 (fun b => base ≤ b ∧ b < w0.heap.size ∧ some b ≠ v.ownBlock) cs))
    (hn : l.length + m ≤ 300000000) (hbase : base ≤ w0.heap.size) :
    ∃ v' w', (Builtin.append_ #[t, t] ty #[v, .slice A m cap1]).run Tryz.prog w0 = .ok v' w' ∧ OwnE K e c w' base v' (l ++ l') ∧ Below base w0 w' ∧ (∀ b, b < w0.heap.size → some b ≠ v.ownBlock → w'.heap[b]? = w0.heap[b]?) ∧ (∀ g, v'.ownBlock = some g → v.ownBlock = some g ∨ w0.heap.size ≤ g) := by
  subst hm
  have hown := h
  obtain ⟨xs, ho, hxs⟩ := h
  have hvlt : ∀ b, v.ownBlock = some b → base ≤ b ∧ b < w0.heap.size := by
    intro b hb
    rcases ho.2 with ⟨rfl, _⟩ | ⟨g', cap', cur, rfl, hB, hg, _⟩
    · simp [Value.ownBlock] at hb
    · simp [Value.ownBlock] at hb
      subst hb
      exact ⟨hB, (Array.getElem?_eq_some_iff.1 hg).1⟩
  have hnone : A = none → l' = [] := by
    intro hA
    rcases Nat.eq_zero_or_pos l'.length with h0 | h0
    · exact List.eq_nil_of_length_eq_zero h0
    · obtain ⟨b, off, news, hA', _⟩ := row_news hc hx h0
      rw [hA] at hA'
      cases hA'
  rcases A with _ | ad
  · have hl' := hnone rfl
    subst hl'
    have hr : (Builtin.append_ #[t, t] ty #[v, .slice none 0 cap1]).run Tryz.prog w0 = .ok v w0 := by
      rcases ho.2 with ⟨rfl, _⟩ | ⟨g, cap, cur, rfl, _, _, hnc, _⟩
      · simp [Builtin.append_, run_underlying ht, sizeOf, typeInfo, hi, Builtin.lenOf, Builtin.firstCells]
      · simp [Builtin.append_, run_underlying ht, sizeOf, typeInfo, hi, Builtin.lenOf, Builtin.firstCells, hnc, storeCells]
    exact ⟨v, w0, hr, by rw [List.append_nil]; exact hown, Below.refl _ _, fun _ _ _ => rfl, fun g hg => .inl hg⟩
  · obtain ⟨news, hnl, hnc, hnR, hn1⟩ : ∃ news : List Value, news.length = l'.length * c ∧ (∀ q u, news[q]? = some u → w0.cell? (ad.add q) = some u) ∧ (∀ j, j < l'.length → ∃ x, l'[j]? = some x ∧ K.E x w0 (fun b => base ≤ b ∧ b < w0.heap.size ∧ some b ≠ v.ownBlock) ((news.drop (j * c)).take c)) ∧ ∀ u, u ∈ news → u.oneCell' = true := by
      rcases Nat.eq_zero_or_pos l'.length with h0 | h0
      · exact ⟨[], by simp [h0], fun q u h => by simp at h, fun j hj => by omega, fun u h => by cases h⟩
      · obtain ⟨b, off, news, hA, hnl, hnc, hnR, hn1⟩ := row_news hc hx h0
        injection hA with hA
        subst hA
        exact ⟨news, hnl, fun j u hj => by rw [addr_add]; exact hnc j u hj, hnR, fun u hu => by obtain ⟨j, cs, ⟨x, _, hE⟩, hm⟩ := hn1 u hu; exact h1K x _ _ cs hE u hm⟩
    have hby8 : (l.length + l'.length) * bytes ≤ 140737488355328 := Nat.le_trans (Nat.mul_le_mul (show l.length + l'.length ≤ 300000001 by omega) hb8) (by decide)
    obtain ⟨v', w', hr, h2, h3, _, h4⟩ := run_append_own_at (P := Tryz.prog) (w := w0) base t ty e i z c bytes ht hi hz hsize hby hzs hc v l.length xs ho ad l'.length cap1 news hnl hnc hn1 (by unfold maxLen; omega) hby8 hbase
    have hkeep : ∀ b, b < w0.heap.size → some b ≠ v.ownBlock → w'.heap[b]? = w0.heap[b]? := fun b hb hne => h3.block b hb hne
    have hs3 := h3.size
    have hsm : Same (fun b => base ≤ b ∧ b < w0.heap.size ∧ some b ≠ v.ownBlock) w0 w' := ⟨hs3, fun b i hB hl => World.cell?_of_block (hkeep b hl hB.2.2)⟩
    have hsub : ∀ b, (base ≤ b ∧ b < w0.heap.size ∧ some b ≠ v.ownBlock) → (base ≤ b ∧ b < w'.heap.size ∧ some b ≠ v'.ownBlock) := by
      intro b ⟨a1, a2, a3⟩
      refine ⟨a1, by omega, ?_⟩
      rcases h4 with h4 | h4
      · rw [h4]; exact a3
      · rw [h4]
        intro e
        injection e with e
        omega
    have hll : (l ++ l').length = l.length + l'.length := by simp
    refine ⟨v', w', hr, ⟨xs ++ news, by rw [hll]; exact h2, fun j y hj => ?_⟩, (Below.refl base w0).grown h3 hbase (fun k hk => (hvlt k hk).1), hkeep, fun g' hg' => by
      rcases h4 with h4 | h4
      · exact .inl (h4 ▸ hg')
      · right
        rw [h4] at hg'
        injection hg' with hg'
        omega⟩
    have hjl : j < l.length + l'.length := by have := (List.getElem?_eq_some_iff.1 hj).1; omega
    have hxl := ho.1
    by_cases hjn : j < l.length
    · rw [List.getElem?_append_left hjn] at hj
      have hle : (j + 1) * c ≤ l.length * c := Nat.mul_le_mul_right c hjn
      rw [Nat.add_mul, Nat.one_mul] at hle
      rw [show ((xs ++ news).drop (j * c)).take c = (xs.drop (j * c)).take c by rw [List.drop_append_of_le_length (by omega), List.take_append_of_le_length (by rw [List.length_drop]; omega)]]
      exact K.sub hsub (K.keep hsm (hxs j y hj))
    · rw [List.getElem?_append_right (by omega)] at hj
      obtain ⟨x, hx1, hx2⟩ := hnR (j - l.length) (by omega)
      rw [hx1] at hj
      injection hj with hj
      subst hj
      have hq : j * c = xs.length + (j - l.length) * c := by rw [hxl, ← Nat.add_mul, show l.length + (j - l.length) = j by omega]
      rw [hq, List.drop_append, List.drop_eq_nil_of_le (Nat.le_add_right _ _), List.nil_append, Nat.add_sub_cancel_left]
      exact K.sub hsub (K.keep hsm hx2)
theorem elV_one (k : Nat) (x : Vl) (w : World) (B : Nat → Prop) (cs : List Value) (h : (elV k).E x w B cs) : ∀ u ∈ cs, u.oneCell' = true := by
  obtain ⟨a, i, s, A1, n1, c1, A2, n2, c2, A3, n3, c3, A4, n4, c4, rfl⟩ := VB.form7 h
  intro u hu
  simp only [List.mem_cons, List.not_mem_nil, or_false] at hu
  rcases hu with rfl | rfl | rfl | rfl | rfl | rfl | rfl <;> rfl
theorem elE_one (k : Nat) (x : En) (w : World) (B : Nat → Prop) (cs : List Value) (h : (elE k).E x w B cs) : ∀ u ∈ cs, u.oneCell' = true := by
  obtain ⟨a, f, r, _, ua, rs, rfl, ⟨A, cap, rfl, _⟩, hr⟩ := h
  obtain ⟨a, i, s, A1, n1, c1, A2, n2, c2, A3, n3, c3, A4, n4, c4, rfl⟩ := VB.form7 hr
  intro u hu
  simp only [List.mem_cons, List.not_mem_nil, or_false] at hu
  rcases hu with rfl | rfl | rfl | rfl | rfl | rfl | rfl | rfl | rfl <;> rfl
end Go.Proofs.YtjfknigiehggkaaGreat
namespace Go.Proofs.YtjfknigiehggkaaGreat
open Go Go.RowKit
theorem below_of_keep {lo : Nat} {w w' : World} (hb : Below lo w w') (hk : ∀ b, b < w.heap.size → w'.heap[b]? = w.heap[b]?) : Below w.heap.size w w' := ⟨hb.os, hb.tape, hb.output, hb.size, hk⟩
abbrev RowV (k lo : Nat) (w : World) (v : Value) (l : List Vl) : Prop := RowB w (Btw lo w.heap.size) 7 v l.length (fun j cs => ∃ x, l[j]? = some x ∧ VB k w (Btw lo w.heap.size) x cs)
theorem RowV.on {k lo : Nat} {w w' : World} {v : Value} {l : List Vl} (h : RowV k lo w v l) (hb : Below w.heap.size w w') : RowV k lo w' v l := by
  have hs : Same (Btw lo w.heap.size) w w' := .of_below hb fun _ h => h.2
  have hsub : ∀ b, Btw lo w.heap.size b → Btw lo w'.heap.size b := fun b h => ⟨h.1, by have := h.2; have := hb.size; omega⟩
  exact (RowB.keep h hs fun _ _ h => h).sub hsub fun j cs ⟨x, hx, hv⟩ => ⟨x, hx, VB.sub hsub (Nat.le_refl _) (VB.keep hs hv)⟩
def elVB (k : Nat) (B0 : Nat → Prop) : ElK Vl := ⟨fun x w B cs => VB k w (fun b => B b ∧ B0 b) x cs, fun h h' => VB.keep ⟨h.size, fun b i hB hl => h.cell b i hB.1 hl⟩ h', fun h h' => VB.sub (fun b hb => ⟨h b hb.1, hb.2⟩) (Nat.le_refl _) h'⟩
theorem elVB_one (k : Nat) (B0 : Nat → Prop) (x : Vl) (w : World) (B : Nat → Prop) (cs : List Value) (h : (elVB k B0).E x w B cs) : ∀ u ∈ cs, u.oneCell' = true := elV_one k x w _ cs h
abbrev OwnVB (k : Nat) (B0 : Nat → Prop) (w : World) (base : Nat) (v : Value) (l : List Vl) : Prop := OwnE (elVB k B0) 27 7 w base v l
theorem wp_row_vB {ops : Array Oper} {rest : List Oper} {o : Oper} {a : Act} {Q : Exit → Act → World → Prop} {w0 : World} (hgd : o.guard = none) (s x : Operand)
    (ho : o.op = .call { callee := .builtin .append, args := #[s, x], argTypes := #[22, 22] }) (k : Nat) (B0 : Nat → Prop) (base : Nat) (v : Value) (l : List Vl) (hs : a.eval s = v) (hown : OwnVB k B0 w0 base v l)
    (A : Option Addr) (m cap1 : Nat) (l' : List Vl) (hm : l'.length = m) (Bs : Nat → Prop) (hx : a.eval x = .slice A m cap1)
    (hR : RowB w0 Bs 7 (.slice A m cap1) m (fun j cs => ∃ y, l'[j]? = some y ∧ (elVB k B0).E y w0 (fun b => base ≤ b ∧ b < w0.heap.size ∧ some b ≠ v.ownBlock) cs)) (hn : l.length + m ≤ 300000000) (hbase : base ≤ w0.heap.size)
    (h : ∀ v' w', OwnVB k B0 w' base v' (l ++ l') → Below base w0 w' → (∀ b, b < w0.heap.size → some b ≠ v.ownBlock → w'.heap[b]? = w0.heap[b]?) → (∀ g, v'.ownBlock = some g → v.ownBlock = some g ∨ w0.heap.size ≤ g) → wpList Tryz.prog ops Q rest (a.put o.dst v') w') :
    wpList Tryz.prog ops Q (o :: rest) a w0 := by
  obtain ⟨i0, hi, hz0, hz1, hz2⟩ := info_parts Tryz.infoV
  obtain ⟨v', w', h1, h2, h3, h4, h5⟩ := app_row (elVB k B0) 22 o.type 27 i0 (.agg #[.int .i64 0, .int .i64 0, .string ⟨#[]⟩, .slice none 0 0, .slice none 0 0, .slice none 0 0, .slice none 0 0]) 7 128 Tryz.underlying22 hi hz0 hz1 hz2 rfl (by decide) (by decide) (elVB_one k B0) w0 base v l hown A m cap1 l' hm Bs hR hn hbase
  exact Lib.wpList_append_run _ hgd s x 22 22 ho v _ hs hx _ w' h1 (h v' w' h2 h3 h4 h5)
/-- rows in blocks of B: the copy in new blocks, the trees in the old ones -/
abbrev RowT (k : Nat) (w : World) (B : Nat → Prop) (B0 : Nat → Prop) (v : Value) (l : List Vl) : Prop := RowB w B 7 v l.length (fun j cs => ∃ x, l[j]? = some x ∧ VB k w B0 x cs)
set_option maxHeartbeats 800000 in
theorem copies_any (k : Nat) (B0 : Nat → Prop) (Bs : Nat → Prop) (A : Option Addr) (c : Nat) (l : List Vl) (w : World) (hB : ∀ b, B0 b → b < w.heap.size) (hl : RowT k w Bs B0 (.slice A l.length c) l) (hn : l.length ≤ 300000000) :
    Calls Tryz.prog 61 #[.slice A l.length c] w fun e w' => ∃ A' c', e = .returned (.slice A' l.length c') ∧ RowT k w' (Btw w.heap.size w'.heap.size) B0 (.slice A' l.length c') l ∧ Below w.heap.size w w' := by
  have HL := Lib.hid hl
  clear hl
  go_enter Tryz.func61, Tryz.ntmps61
  go_wp2_with (refine wp_row_vB rfl _ _ rfl k B0 0 (.slice none 0 0) [] rfl (OwnE.nil _ _ _ _ _) A l.length c l rfl Bs rfl (RowB.sub HL.out (fun _ h => h) fun j cs ⟨x, hx, hv⟩ => ⟨x, hx, VB.sub (fun b h => ⟨⟨Nat.zero_le _, hB b h, by simp [Value.ownBlock]⟩, h⟩) (Nat.le_refl _) hv⟩) (by simpa using hn) (Nat.zero_le _) ?_)
  intro v' w' ho hb hk hg
  have ho' : OwnVB k B0 w' 0 v' l := ho
  obtain ⟨A', c', rfl⟩ := ho'.form
  have hfin : Hid (RowT k w' (Btw w.heap.size w'.heap.size) B0 (.slice A' l.length c') l ∧ Below w.heap.size w w') := Lib.hid (by
    refine ⟨?_, below_of_keep hb fun b hb => hk b hb (by simp [Value.ownBlock])⟩
    obtain ⟨xs, ho1, hx⟩ := ho'
    refine row_of_owns ho1 (by unfold maxLen; omega) (fun g hg1 h1 h2 => ⟨(hg g hg1).resolve_left (by simp [Value.ownBlock]), h2⟩) (fun j hj => ⟨l[j], List.getElem?_eq_getElem hj, VB.sub (fun b h => h.2) (Nat.le_refl _) (hx j _ (List.getElem?_eq_getElem hj))⟩) (by omega))
  clear ho ho' hb hk hg
  go_wp2
  go_ret
  exact ⟨A', c', rfl, hfin.out⟩
set_option maxRecDepth 100000 in
set_option maxHeartbeats 3200000 in
theorem refTuple_any (k lo : Nat) (A : Option Addr) (c : Nat) (l : List Vl) (w : World) (hlo : lo ≤ w.heap.size) (hl : RowV k lo w (.slice A l.length c) l) (hn : l.length ≤ 300000000) :
    Calls Tryz.prog 99 #[.slice A l.length c] w fun e w' => ∃ cs, e = .returned (.agg cs.toArray) ∧ VB (k + 1) w' (Btw lo w'.heap.size) (tupV l) cs ∧ Below w.heap.size w w' := by
  have hba : Below w.heap.size w (w.alloc (.cells #[.int .i64 0, .int .i64 0, .string ⟨#[]⟩, .slice none 0 0, .slice none 0 0, .slice none 0 0, .slice none 0 0] 27)) := (Below.refl _ _).alloc (Nat.le_refl _) _
  have k0 := heap_alloc_new w (.cells #[.int .i64 0, .int .i64 0, .string ⟨#[]⟩, .slice none 0 0, .slice none 0 0, .slice none 0 0, .slice none 0 0] 27)
  have hc := copies_any k (Btw lo w.heap.size) (Btw lo w.heap.size) A c l _ (fun b h => Nat.lt_of_lt_of_le h.2 hba.size) (RowB.keep hl (.of_below hba fun _ h => h.2) fun j cs ⟨x, hx, hv⟩ => ⟨x, hx, VB.keep (.of_below hba fun _ h => h.2) hv⟩) hn
  clear hl
  go_enter Tryz.func99, Tryz.ntmps99
  go_wp2_with fail
  refine hc.mono ?_
  rintro e w1 ⟨A', c', rfl, hr, hb1⟩
  clear hc
  have k1 : w1.heap[w.heap.size]? = some (.cells #[.int .i64 0, .int .i64 0, .string ⟨#[]⟩, .slice none 0 0, .slice none 0 0, .slice none 0 0, .slice none 0 0] 27 (0, 0)) := (hb1.block _ (by simp)).trans k0
  have hbb : Below w.heap.size w w1 := hba.trans (hb1.mono (by simp))
  have HR := Lib.hid (show RowT k w1 (Btw (w.heap.size + 1) w1.heap.size) (Btw lo w.heap.size) (.slice A' l.length c') l by simpa using hr)
  have hb1z : w.heap.size + 1 ≤ w1.heap.size := by have := hb1.size; simpa using this
  clear k0 hba hb1 hr
  obtain ⟨e0, e1, e2, e3, e4, e5, e6⟩ := cells7 k1
  obtain ⟨z0, z1, z2, z3, z4, z5, z6⟩ := frozen7 k1
  go_wp2
  obtain ⟨V, hV⟩ : ∃ V, V = (((((((w1.setCell ⟨w.heap.size, 0, none⟩ (Value.int .i64 6)).setCell ⟨w.heap.size, 1, none⟩ (Value.int .i64 0)).setCell ⟨w.heap.size, 2, none⟩ (Value.string ⟨#[]⟩)).setCell ⟨w.heap.size, 3, none⟩ (Value.slice A' l.length c')).setCell ⟨w.heap.size, 4, none⟩ (Value.slice none 0 0)).setCell ⟨w.heap.size, 5, none⟩ (Value.slice none 0 0)).setCell ⟨w.heap.size, 6, none⟩ (Value.slice none 0 0)) := ⟨_, rfl⟩
  rw [← hV]
  have hob : V.heap[w.heap.size]? = some (.cells #[Value.int .i64 6, Value.int .i64 0, Value.string ⟨#[]⟩, Value.slice A' l.length c', Value.slice none 0 0, Value.slice none 0 0, Value.slice none 0 0] 27 (0, 0)) := by rw [hV]; exact obj7 k1 (Value.int .i64 6) (Value.int .i64 0) (Value.string ⟨#[]⟩) (Value.slice A' l.length c') (Value.slice none 0 0) (Value.slice none 0 0) (Value.slice none 0 0)
  have hBV : Below w.heap.size w V := by rw [hV]; exact Below.setCell (Below.setCell (Below.setCell (Below.setCell (Below.setCell (Below.setCell (Below.setCell (hbb) (p := ⟨w.heap.size, 0, none⟩) (Nat.le_refl _) _) (p := ⟨w.heap.size, 1, none⟩) (Nat.le_refl _) _) (p := ⟨w.heap.size, 2, none⟩) (Nat.le_refl _) _) (p := ⟨w.heap.size, 3, none⟩) (Nat.le_refl _) _) (p := ⟨w.heap.size, 4, none⟩) (Nat.le_refl _) _) (p := ⟨w.heap.size, 5, none⟩) (Nat.le_refl _) _) (p := ⟨w.heap.size, 6, none⟩) (Nat.le_refl _) _
  have hszV : V.heap.size = w1.heap.size := by rw [hV]; simp
  have hsm : ∀ B : Nat → Prop, ¬ B w.heap.size → Same B w1 V := fun B h => by rw [hV]; exact same_setCell (same_setCell (same_setCell (same_setCell (same_setCell (same_setCell (same_setCell ((Same.refl _ _)) h) h) h) h) h) h) h
  clear hV e0 z0 e1 z1 e2 z2 e3 z3 e4 z4 e5 z5 e6 z6
  obtain ⟨ps0, ps1, ps2, ps3, ps4, ps5, ps6⟩ := cells7 hob
  refine bodyPost_ret (v := .agg #[Value.int .i64 6, Value.int .i64 0, Value.string ⟨#[]⟩, Value.slice A' l.length c', Value.slice none 0 0, Value.slice none 0 0, Value.slice none 0 0]) (by simp [results, Tryz.results99, go_sem, ps0, ps1, ps2, ps3, ps4, ps5, ps6]) rfl ?_
  have hsz : V.heap.size = w1.heap.size := hszV
  have hr := HR.out
  have hz1 := hb1z
  have hsub : ∀ b, Btw (w.heap.size + 1) w1.heap.size b → Btw lo V.heap.size b := fun b h => ⟨by have := h.1; omega, by have := h.2; omega⟩
  have hsub2 : ∀ b, Btw lo w.heap.size b → Btw lo V.heap.size b := fun b h => ⟨h.1, by have := h.2; omega⟩
  refine ⟨_, rfl, ⟨_, _, _, _, rfl, by decide, by decide, Nat.zero_le _, RowB.sub (RowB.keep hr (hsm _ (fun h => by have := h.1; omega)) (fun _ _ h => h)) hsub ?_, zeroRw _ _ _ _, zeroRw _ _ _ _, zeroRw _ _ _ _⟩, hBV⟩
  rintro j cs ⟨x, hx, hv⟩
  exact ⟨x, hx, VB.sub hsub2 (Nat.le_refl _) (VB.keep (hsm _ (fun h => by have := h.2; omega)) hv)⟩
set_option maxRecDepth 100000 in
set_option maxHeartbeats 3200000 in
theorem refCons_any (k lo : Nat) (u v : Vl) (ca cb : List Value) (w : World) (hlo : lo ≤ w.heap.size) (ha : VB k w (Btw lo w.heap.size) u ca) (hb : VB k w (Btw lo w.heap.size) v cb) :
    Calls Tryz.prog 51 #[.agg ca.toArray, .agg cb.toArray] w fun e w' => ∃ cs, e = .returned (.agg cs.toArray) ∧ VB (k + 1) w' (Btw lo w'.heap.size) (consV u v) cs ∧ Below w.heap.size w w' := by
  obtain ⟨a, i, s, B1, n1, d1, B2, n2, d2, B3, n3, d3, B4, n4, d4, rfl⟩ := ha.form7
  obtain ⟨a', i', s', B1', n1', d1', B2', n2', d2', B3', n3', d3', B4', n4', d4', rfl⟩ := hb.form7
  go_enter Tryz.func51, Tryz.ntmps51
  go_wp2
  obtain ⟨V, hV⟩ : ∃ V, V = (((w.alloc (.cells #[.int .i64 a, .int .i64 i, .string s, .slice B1 n1 d1, .slice B2 n2 d2, .slice B3 n3 d3, .slice B4 n4 d4] 27)).alloc (.cells #[.int .i64 a', .int .i64 i', .string s', .slice B1' n1' d1', .slice B2' n2' d2', .slice B3' n3' d3', .slice B4' n4' d4'] 27)).alloc (.cells #[Value.int .i64 7, Value.int .i64 0, Value.string ⟨#[]⟩, Value.slice (some ⟨w.heap.size + 1 + 1 + 1, 0, none⟩) 2 2, Value.slice none 0 0, Value.slice none 0 0, Value.slice none 0 0] 27)).alloc (.cells #[.int .i64 a, .int .i64 i, .string s, .slice B1 n1 d1, .slice B2 n2 d2, .slice B3 n3 d3, .slice B4 n4 d4, .int .i64 a', .int .i64 i', .string s', .slice B1' n1' d1', .slice B2' n2' d2', .slice B3' n3' d3', .slice B4' n4' d4'] 27) := ⟨_, rfl⟩
  rw [← hV]
  have hb4 : Below w.heap.size w V := by rw [hV]; exact ((((Below.refl _ _).alloc (Nat.le_refl _) _).alloc (by simp) _).alloc (by simp; omega) _).alloc (by simp; omega) _
  have hz : V.heap.size = w.heap.size + 4 := by rw [hV]; simp
  have k4 : V.heap[w.heap.size + 3]? = some (.cells #[.int .i64 a, .int .i64 i, .string s, .slice B1 n1 d1, .slice B2 n2 d2, .slice B3 n3 d3, .slice B4 n4 d4, .int .i64 a', .int .i64 i', .string s', .slice B1' n1' d1', .slice B2' n2' d2', .slice B3' n3' d3', .slice B4' n4' d4'] 27 (0, 0)) := by rw [hV]; exact new_at' _ (by simp)
  have k3 : V.heap[w.heap.size + 2]? = some (.cells #[Value.int .i64 7, Value.int .i64 0, Value.string ⟨#[]⟩, Value.slice (some ⟨w.heap.size + 1 + 1 + 1, 0, none⟩) 2 2, Value.slice none 0 0, Value.slice none 0 0, Value.slice none 0 0] 27 (0, 0)) := by rw [hV, Below.heap_alloc _ _ _ (by simp)]; exact new_at' _ (by simp)
  obtain ⟨e0, e1, e2, e3, e4, e5, e6⟩ := cells7 k3
  clear hV
  refine bodyPost_ret (v := .agg #[Value.int .i64 7, Value.int .i64 0, Value.string ⟨#[]⟩, Value.slice (some ⟨w.heap.size + 1 + 1 + 1, 0, none⟩) 2 2, Value.slice none 0 0, Value.slice none 0 0, Value.slice none 0 0]) (by simp [results, Tryz.results51, go_sem, e0, e1, e2, e3, e4, e5, e6]) rfl ?_
  have hs : Same (Btw lo w.heap.size) w V := .of_below hb4 fun _ h => h.2
  have hsub : ∀ b, Btw lo w.heap.size b → Btw lo V.heap.size b := fun b h => ⟨h.1, by have := h.2; omega⟩
  refine ⟨_, rfl, ⟨_, _, _, _, rfl, by decide, by decide, Nat.zero_le _, ⟨_, _, rfl, by unfold maxLen; simp, fun _ => ⟨w.heap.size + 3, 0, rfl, ⟨by omega, by omega⟩, by omega, fun j hj => ?_⟩⟩, zeroRw _ _ _ _, zeroRw _ _ _ _, zeroRw _ _ _ _⟩, hb4⟩
  have hcell : ∀ q, V.cell? ⟨w.heap.size + 3, q, none⟩ = (#[.int .i64 a, .int .i64 i, .string s, .slice B1 n1 d1, .slice B2 n2 d2, .slice B3 n3 d3, .slice B4 n4 d4, .int .i64 a', .int .i64 i', .string s', .slice B1' n1' d1', .slice B2' n2' d2', .slice B3' n3' d3', .slice B4' n4' d4'] : Array Value)[q]? := fun q => Lib.cell_of_heap k4 q
  match j, hj with
  | 0, _ =>
    refine ⟨[.int .i64 a, .int .i64 i, .string s, .slice B1 n1 d1, .slice B2 n2 d2, .slice B3 n3 d3, .slice B4 n4 d4], rfl, fun q hq => ?_, u, rfl, VB.sub hsub (Nat.le_refl _) (VB.keep hs ha)⟩
    rw [show 0 + 0 * 7 + q = q by omega, hcell]
    match q, hq with
    | 0, _ => rfl
    | 1, _ => rfl
    | 2, _ => rfl
    | 3, _ => rfl
    | 4, _ => rfl
    | 5, _ => rfl
    | 6, _ => rfl
  | 1, _ =>
    refine ⟨[.int .i64 a', .int .i64 i', .string s', .slice B1' n1' d1', .slice B2' n2' d2', .slice B3' n3' d3', .slice B4' n4' d4'], rfl, fun q hq => ?_, v, rfl, VB.sub hsub (Nat.le_refl _) (VB.keep hs hb)⟩
    rw [show 0 + 1 * 7 + q = 7 + q by omega, hcell]
    match q, hq with
    | 0, _ => rfl
    | 1, _ => rfl
    | 2, _ => rfl
    | 3, _ => rfl
    | 4, _ => rfl
    | 5, _ => rfl
    | 6, _ => rfl
end Go.Proofs.YtjfknigiehggkaaGreat
namespace Go.Proofs.YtjfknigiehggkaaGreat
open Go Go.RowKit
def labsOf : Vl → List (List UInt8) | .mk _ _ _ _ _ _ l => l
def withL (ls : List (List UInt8)) : Vl → Vl | .mk k i t v y e _ => .mk k i t v y e ls
/-- what a draw of a value hands back: a valid value in memory of the call's own -/
def DrawR (k h p : Nat) (w : World) (e : Ending) (w' : World) : Prop :=
  (∃ v cs, e = .returned (.agg cs.toArray) ∧ VB k w' (Btw w.heap.size w'.heap.size) v cs ∧ okV v = true ∧ sml v) ∧ SrcOk h p w' ∧ Eff p w w'
/-- .. without labels at its root -/
def DrawR0 (k h p : Nat) (w : World) (e : Ending) (w' : World) : Prop :=
  (∃ v cs, e = .returned (.agg cs.toArray) ∧ VB k w' (Btw w.heap.size w'.heap.size) v cs ∧ okV v = true ∧ sml v ∧ labsOf v = []) ∧ SrcOk h p w' ∧ Eff p w w'
theorem okV_withL {v : Vl} {ls : List (List UInt8)} (h : okV v = true) (hl : labelsB ls = true) : okV (withL ls v) = true := by
  obtain ⟨k, i, t, v, y, e, l⟩ := v
  unfold okV at h
  unfold withL okV
  simp only [Bool.and_eq_true] at h ⊢
  exact ⟨⟨⟨⟨hl, h.1.1.1.2⟩, h.1.1.2⟩, h.1.2⟩, h.2⟩
theorem sml_withL {v : Vl} {ls : List (List UInt8)} (h : sml v) (hl : ls.length ≤ 1048576) : sml (withL ls v) := by
  obtain ⟨k, i, t, v, y, e, l⟩ := v
  unfold sml at h
  unfold withL sml
  exact ⟨h.1, h.2.1, h.2.2.1, hl, h.2.2.2.2⟩
theorem Eff.same {p : Nat} {w w' : World} (h : Eff p w w') {B : Nat → Prop} (hB : ∀ b, B b → b ≠ p) : Same B w w' := ⟨h.size, fun b _ hb hl => World.cell?_of_block (h.other b (hB b hb) hl)⟩
theorem vb_relabel {k : Nat} {w : World} {B : Nat → Prop} {v : Vl} {a i : Value} {s u1 u2 u3 u4 ul : Value} {ls : List (List UInt8)} (h : VB k w B v [a, i, s, u1, u2, u3, u4]) (hl : RowB w B 1 ul ls.length (fun j cs => ∃ x, ls[j]? = some x ∧ cs = [.string ⟨x.toArray⟩] ∧ x.length ≤ maxLen)) :
    VB k w B (withL ls v) [a, i, s, u1, u2, u3, ul] := by
  cases k with
  | zero => exact h.elim
  | succ k =>
    obtain ⟨kd, it, tx, kids, keys, ents, l⟩ := v
    obtain ⟨uk, uy, ue, ul', h1, h2, h3, h4, h5, h6, h7, h8⟩ := h
    simp only [List.cons.injEq, and_true] at h1
    obtain ⟨rfl, rfl, rfl, rfl, rfl, rfl, rfl⟩ := h1
    exact ⟨_, _, _, _, rfl, h2, h3, h4, h5, h6, h7, hl⟩
set_option maxRecDepth 100000 in
set_option maxHeartbeats 3200000 in
theorem value_of_inner (k h p : Nat) (n : Int) (w : World) (hS : SrcOk h p w) (hv : ∀ W, SrcOk h p W → Calls Tryz.prog 62 #[.pointer (some ⟨p, 0, none⟩), .int .i64 n] W (DrawR0 k h p W)) :
    Calls Tryz.prog 29 #[.pointer (some ⟨p, 0, none⟩), .int .i64 n] w (DrawR k h p w) := by
  have hlp := hS.lt
  have hba : Below w.heap.size w (w.alloc (.cells #[.int .i64 0, .int .i64 0, .string ⟨#[]⟩, .slice none 0 0, .slice none 0 0, .slice none 0 0, .slice none 0 0] 27)) := (Below.refl _ _).alloc (Nat.le_refl _) _
  have hz0 : (w.alloc (.cells #[.int .i64 0, .int .i64 0, .string ⟨#[]⟩, .slice none 0 0, .slice none 0 0, .slice none 0 0, .slice none 0 0] 27)).heap.size = w.heap.size + 1 := by simp
  have hc := hv _ (hS.below hba)
  have k0 := heap_alloc_new w (.cells #[.int .i64 0, .int .i64 0, .string ⟨#[]⟩, .slice none 0 0, .slice none 0 0, .slice none 0 0, .slice none 0 0] 27)
  have hE0 := Eff.of_below hba (Nat.le_of_lt hlp)
  clear hv
  go_enter Tryz.func29, Tryz.ntmps29
  go_wp2_with fail
  refine hc.mono ?_
  rintro e w1 ⟨⟨v, cs, rfl, hvb, hok, hsm, hlv⟩, hS1, hE1⟩
  clear hc
  obtain ⟨a, i, s, B1, n1, d1, B2, n2, d2, B3, n3, d3, B4, n4, d4, rfl⟩ := hvb.form7
  have hz1 := hE1.size
  rw [hz0] at hz1 hvb
  have k1 : w1.heap[w.heap.size]? = some (.cells #[.int .i64 0, .int .i64 0, .string ⟨#[]⟩, .slice none 0 0, .slice none 0 0, .slice none 0 0, .slice none 0 0] 27 (0, 0)) := (hE1.other _ (by omega) (by omega)).trans k0
  obtain ⟨W, hW⟩ : ∃ W, W = w1.alloc (.cells #[.int .i64 a, .int .i64 i, .string s, .slice B1 n1 d1, .slice B2 n2 d2, .slice B3 n3 d3, .slice B4 n4 d4] 27) := ⟨_, rfl⟩
  have hbW : Below w1.heap.size w1 W := by rw [hW]; exact (Below.refl _ _).alloc (Nat.le_refl _) _
  have hzW : W.heap.size = w1.heap.size + 1 := by rw [hW]; simp
  have kW : W.heap[w1.heap.size]? = some (.cells #[.int .i64 a, .int .i64 i, .string s, .slice B1 n1 d1, .slice B2 n2 d2, .slice B3 n3 d3, .slice B4 n4 d4] 27 (0, 0)) := by rw [hW]; exact heap_alloc_new w1 _
  have kr : W.heap[w.heap.size]? = some (.cells #[.int .i64 0, .int .i64 0, .string ⟨#[]⟩, .slice none 0 0, .slice none 0 0, .slice none 0 0, .slice none 0 0] 27 (0, 0)) := (hbW.block _ (by omega)).trans k1
  have hEW : Eff p w W := (hE0.trans hE1).trans (Eff.of_below hbW (by omega))
  have hvW := VB.keep (Same.of_below hbW (B := Btw (w.heap.size + 1) w1.heap.size) fun _ h => h.2) hvb
  have hl := labels_src h p W (hS1.below hbW)
  have HA := Lib.hid (And.intro hok (And.intro hsm (And.intro hEW hvW)))
  clear hba k0 hE0 hvb hok hsm hlv hS1 hE1 k1 hbW hEW hvW hS
  go_wp2_with fail
  rw [← hW]
  clear hW
  refine hl.mono ?_
  rintro e w3 ⟨⟨LA, ln, lc, ls, rfl, hln, hl2, hlb, hlN, hlR⟩, hS3, hE3⟩
  clear hl
  have hz3 := hE3.size
  have m0 : w3.heap[w.heap.size]? = some (.cells #[.int .i64 0, .int .i64 0, .string ⟨#[]⟩, .slice none 0 0, .slice none 0 0, .slice none 0 0, .slice none 0 0] 27 (0, 0)) := (hE3.other _ (by omega) (by omega)).trans kr
  have m5 : w3.heap[w1.heap.size]? = some (.cells #[.int .i64 a, .int .i64 i, .string s, .slice B1 n1 d1, .slice B2 n2 d2, .slice B3 n3 d3, .slice B4 n4 d4] 27 (0, 0)) := (hE3.other _ (by omega) (by omega)).trans kW
  have HB := Lib.hid (And.intro hln (And.intro hl2 (And.intro hlb (And.intro hlR (And.intro hS3 hE3)))))
  clear kr kW hlR hS3 hE3 hlN hlb hl2 hln
  obtain ⟨e0, e1, e2, e3, e4, e5, e6⟩ := cells7 m0
  obtain ⟨z0, z1, z2, z3, z4, z5, z6⟩ := frozen7 m0
  have g0 : w3.cell? ⟨w1.heap.size, 0, none⟩ = some (.int .i64 a) := (Lib.cell_of_heap m5 0).trans rfl
  have g1 : w3.cell? ⟨w1.heap.size, 1, none⟩ = some (.int .i64 i) := (Lib.cell_of_heap m5 1).trans rfl
  have g2 : w3.cell? ⟨w1.heap.size, 2, none⟩ = some (.string s) := (Lib.cell_of_heap m5 2).trans rfl
  have g3 : w3.cell? ⟨w1.heap.size, 3, none⟩ = some (.slice B1 n1 d1) := (Lib.cell_of_heap m5 3).trans rfl
  have g4 : w3.cell? ⟨w1.heap.size, 4, none⟩ = some (.slice B2 n2 d2) := (Lib.cell_of_heap m5 4).trans rfl
  have g5 : w3.cell? ⟨w1.heap.size, 5, none⟩ = some (.slice B3 n3 d3) := (Lib.cell_of_heap m5 5).trans rfl
  have g6 : w3.cell? ⟨w1.heap.size, 6, none⟩ = some (.slice B4 n4 d4) := (Lib.cell_of_heap m5 6).trans rfl
  have y6 := Lib.frozen_of_heap m5 6
  have hne : ¬ w1.heap.size = w.heap.size := by omega
  have hne2 : ¬ w.heap.size = w1.heap.size := by omega
  go_wp2
  obtain ⟨V, hV⟩ : ∃ V, V = ((((((((w3.setCell ⟨w1.heap.size, 6, none⟩ (Value.slice LA ln lc)).setCell ⟨w.heap.size, 0, none⟩ (Value.int .i64 a)).setCell ⟨w.heap.size, 1, none⟩ (Value.int .i64 i)).setCell ⟨w.heap.size, 2, none⟩ (Value.string s)).setCell ⟨w.heap.size, 3, none⟩ (Value.slice B1 n1 d1)).setCell ⟨w.heap.size, 4, none⟩ (Value.slice B2 n2 d2)).setCell ⟨w.heap.size, 5, none⟩ (Value.slice B3 n3 d3)).setCell ⟨w.heap.size, 6, none⟩ (Value.slice LA ln lc)) := ⟨_, rfl⟩
  rw [← hV]
  have m0' : (w3.setCell ⟨w1.heap.size, 6, none⟩ (Value.slice LA ln lc)).heap[w.heap.size]? = some (.cells #[.int .i64 0, .int .i64 0, .string ⟨#[]⟩, .slice none 0 0, .slice none 0 0, .slice none 0 0, .slice none 0 0] 27 (0, 0)) := (heap_setCell_other _ _ _ _ hne2).trans m0
  have hob : V.heap[w.heap.size]? = some (.cells #[Value.int .i64 a, Value.int .i64 i, Value.string s, Value.slice B1 n1 d1, Value.slice B2 n2 d2, Value.slice B3 n3 d3, Value.slice LA ln lc] 27 (0, 0)) := by rw [hV]; exact obj7 m0' (Value.int .i64 a) (Value.int .i64 i) (Value.string s) (Value.slice B1 n1 d1) (Value.slice B2 n2 d2) (Value.slice B3 n3 d3) (Value.slice LA ln lc)
  have hfin : SrcOk h p V ∧ Eff p w V := by
    obtain ⟨q1, q2⟩ := src_set (g := w1.heap.size) (i := 6) (x := Value.slice LA ln lc) HB.out.2.2.2.2.1 (HA.out.2.2.1.trans HB.out.2.2.2.2.2) (by omega) (by omega)
    rw [hV]
    exact src_set7 q1 q2 (Nat.le_refl _) hlp _ _ _ _ _ _ _
  have hzV : V.heap.size = w3.heap.size := by rw [hV]; simp
  have hsmV : ∀ B : Nat → Prop, ¬ B w.heap.size → ¬ B w1.heap.size → Same B w3 V := fun B h h' => by
    have hsm0 : Same B w3 (w3.setCell ⟨w1.heap.size, 6, none⟩ (Value.slice LA ln lc)) := same_setCell (Same.refl _ _) h'
    rw [hV]; exact same_setCell (same_setCell (same_setCell (same_setCell (same_setCell (same_setCell (same_setCell (hsm0) h) h) h) h) h) h) h
  clear hV e0 z0 e1 z1 e2 z2 e3 z3 e4 z4 e5 z5 e6 z6 g0 g1 g2 g3 g4 g5 g6 y6
  obtain ⟨ps0, ps1, ps2, ps3, ps4, ps5, ps6⟩ := cells7 hob
  refine bodyPost_ret (v := .agg #[Value.int .i64 a, Value.int .i64 i, Value.string s, Value.slice B1 n1 d1, Value.slice B2 n2 d2, Value.slice B3 n3 d3, Value.slice LA ln lc]) (by simp [results, Tryz.results29, go_sem, ps0, ps1, ps2, ps3, ps4, ps5, ps6]) rfl ?_
  obtain ⟨hok, hsm, hEW, hvW⟩ := HA.out
  obtain ⟨hln, hl2, hlb, hlR, hS3, hE3⟩ := HB.out
  subst hln
  have hv3 := VB.keep (hE3.same (B := Btw (w.heap.size + 1) w1.heap.size) fun b hb => by have := hb.1; omega) hvW
  have hv4 : VB k w3 (fun b => Btw (w.heap.size + 1) w3.heap.size b ∧ b ≠ w1.heap.size) v _ := VB.sub (fun b hb => ⟨⟨hb.1, by have := hb.2; omega⟩, by have := hb.2; omega⟩) (Nat.le_refl _) hv3
  have hl4 : RowB w3 (fun b => Btw (w.heap.size + 1) w3.heap.size b ∧ b ≠ w1.heap.size) 1 (.slice LA ls.length lc) ls.length _ := RowB.sub hlR (fun b hb => ⟨⟨by have := hb.1; omega, hb.2⟩, by have := hb.1; omega⟩) (fun _ _ h => h)
  have hv5 := vb_relabel hv4 hl4
  have hv6 := VB.keep (hsmV _ (fun h => by have := h.1.1; omega) (fun h => h.2 rfl)) hv5
  exact ⟨⟨withL ls v, _, rfl, VB.sub (fun b hb => ⟨by have := hb.1.1; omega, by have := hb.1.2; omega⟩) (Nat.le_refl _) hv6, okV_withL hok hlb, sml_withL hsm (by omega)⟩, hfin⟩
end Go.Proofs.YtjfknigiehggkaaGreat
