/- The labels of the source: at most two, in ascending order, in memory of the call's own. -/
import Derived.Test.YtcjgaohblaidjaaGreatDoorVb00
import Derived.Test.YtcjgaohblaidjaaGreatDoorVb01
import Derived.Test.YtcjgaohblaidjaaGreatDoorVb15
import Derived.Deep.AppendLies
namespace Go.Proofs.YtcjgaohblaidjaaGreatDoor
open Go Go.RowKit
theorem cmpT_of_bl : ∀ {a b : List UInt8}, bl a b = true → cmpT a b < 0
 | [], [], h => by simp [bl_irrefl] at h
 | [], _ :: _, _ => by simp [cmpT]
 | _ :: _, [], h => by rw [bl_nil'] at h; cases h
 | x :: s, y :: t, h => by
  rcases (bl_cons x y s t).1 h with h' | ⟨rfl, h'⟩
  ·
   have h1 := UInt8.lt_iff_toNat_lt.1 h'
   have h2 : cmpI (x.toNat : Int) y.toNat = -1 := by unfold cmpI; rw [if_pos (by omega)]
   simp [cmpT, h2, thn]
  ·
   have := cmpT_of_bl h'
   have h2 : cmpI (x.toNat : Int) x.toNat = 0 := by unfold cmpI; simp
   simpa [cmpT, h2, thn] using this
theorem labelsB_srt {ss : List (List UInt8)} (h : ∀ x, x ∈ ss → LabN x) : labelsB (srt ss) = true := by
 unfold labelsB
 rw [Bool.and_eq_true, List.all_eq_true, decide_eq_true_iff]
 exact ⟨fun x hx => (h x ((srt_mem ss x).1 hx)).ok, List.Pairwise.imp (fun h => cmpT_of_bl h) (srt_asc ss)⟩
theorem OwnN.eff {p : Nat} {w w' : World} {B : Nat} {v : Value} {ss : List Strg} (h : OwnN w B v ss) (hE : Eff p w w') (hp : p < B) : OwnN w' B v ss := by
 refine ⟨h.1, ?_⟩
 rcases h.2 with hn | ⟨g, cap, cur, rfl, hB, hg, rest⟩
 · exact .inl hn
 · exact .inr ⟨g, cap, cur, rfl, hB, (hE.other g (by omega) (Array.getElem?_eq_some_iff.1 hg).1).trans hg, rest⟩
theorem SrcOk.below3 {h p B : Nat} {w w' : World} (hs : SrcOk h p w) (hb : Below B w w') (hp : p < B) : SrcOk h p w' := by
 have hl := hs.lt
 obtain ⟨A, n, c, q, h1, h2, h3, h4, h5⟩ := hs
 exact ⟨A, n, c, q, (hb.block p hp).trans h1, h2, h3, h4, h5.on (hb.mono (by omega)) fun _ _ h => h⟩
theorem Eff.grow {p : Nat} {w w1 w2 : World} (h : Eff p w w1) (hb : Below w.heap.size w1 w2) (hp : p < w.heap.size) : Eff p w w2 :=
 ⟨h.below.trans (hb.mono (by omega)), fun b hb' hl => (hb.block b hl).trans (h.other b hb' hl)⟩
def LabsR (h p : Nat) (w : World) (e : Ending) (w' : World) : Prop :=
 (∃ A n c, ∃ ls : List (List UInt8), e = .returned (.slice A n c) ∧ ls.length = n ∧ n ≤ 2 ∧ labelsB ls = true ∧ (∀ x, x ∈ ls → LabN x) ∧ RowB w' (Btw w.heap.size w'.heap.size) 1 (.slice A n c) n (fun j cs => ∃ x, ls[j]? = some x ∧ cs = [.string ⟨x.toArray⟩] ∧ x.length ≤ maxLen)) ∧ SrcOk h p w' ∧ Eff p w w'
theorem labs_end {h p : Nat} {w wc w9 : World} {ss : List Strg} {A : Option Addr} {c : Nat} (ha : ∀ x, x ∈ ss → LabN x) (hl : ss.length ≤ 2) (hS : SrcOk h p wc) (hE : Eff p w wc) (hlp : p < w.heap.size)
  (ho : OwnN w9 wc.heap.size (.slice A (srt ss).length c) (srt ss)) (hb : Below wc.heap.size wc w9) : LabsR h p w (.returned (.slice A (srt ss).length c)) w9 := by
 have hn : (srt ss).length ≤ 2 := Nat.le_trans (srt_len ss) hl
 have hs := hE.size
 refine ⟨⟨A, _, c, srt ss, rfl, rfl, hn, labelsB_srt ha, fun x hx => ha x ((srt_mem ss x).1 hx), ?_⟩, hS.below hb, hE.trans (Eff.of_below hb (by omega))⟩
 refine row_of_owns ho (by unfold maxLen; omega) (fun g _ h1 h2 => ⟨by omega, h2⟩) (fun j hj => ?_) (by omega)
 refine ⟨(srt ss)[j], List.getElem?_eq_getElem hj, ?_, ?_⟩
 ·
  apply List.ext_getElem?
  intro i
  match i with
  | 0 => rw [List.getElem?_take_of_lt (by omega), List.getElem?_drop]; simp [encStr, List.getElem?_eq_getElem hj]
  | i + 1 => rw [List.getElem?_take_eq_none (by omega), List.getElem?_eq_none (by simp)]
 ·
  have := (ha _ ((srt_mem ss _).1 (List.getElem_mem hj))).len
  unfold maxLen
  omega
set_option maxRecDepth 100000 in
set_option maxHeartbeats 3200000 in
theorem labels_src (h p : Nat) (w : World) (hS : SrcOk h p w) : Calls Tryz.prog 25 #[.pointer (some ⟨p, 0, none⟩)] w (LabsR h p w) := by
 have hlp := hS.lt
 have hc := next_any h p 3 _ hS (by omega) (by omega)
 go_enter Tryz.func25, Tryz.ntmps25
 go_wp2_with fail
 refine hc.mono ?_
 rintro e w1 ⟨j, rfl, j0, j1, hS1, hE1⟩
 have hz1 := hE1.size
 clear hc hS
 have HA := Lib.hid (And.intro hS1 hE1)
 clear hS1 hE1
 have hj : j = 0 ∨ j = 1 ∨ j = 2 := by omega
 rcases hj with rfl | rfl | rfl
 ·
  have hT := sorted_any none 0 0 [] w1 (NmS.nil _ _ _) (by omega)
  go_wp2_with fail
  refine hT.mono ?_
  rintro e w9 ⟨A', c', rfl, ho, hb⟩
  clear hT
  have hfin := Lib.hid (labs_end (by simp) (by simp) HA.out.1 HA.out.2 hlp ho hb)
  clear ho hb
  go_wp2
  go_ret
  exact hfin.out
 ·
  have hL := label_any h p w1 HA.out.1
  go_wp2_with fail
  refine hL.mono ?_
  rintro e w2 ⟨⟨s, rfl, hs⟩, hS2, hE2⟩
  have hz2 := hE2.size
  have HB := Lib.hid (And.intro hS2 (HA.out.2.trans hE2))
  clear hL hS2 hE2
  go_wp2_with (refine wp_app_n rfl _ _ rfl w.heap.size (.slice none 0 0) [] rfl (OwnN.nil _ _) [s] 1 1 rfl #[.string ⟨s.toArray⟩] rfl _ rfl rfl (by simp) (by omega) ?_)
  intro v3 w3 ho3 hb3
  have hz3 := hb3.size
  have hpre : SrcOk h p w3 ∧ Eff p w w3 := ⟨HB.out.1.below3 hb3 (by omega), HB.out.2.grow hb3 hlp⟩
  clear hb3
  have ho3' : OwnN w3 w.heap.size v3 [s] := ho3
  clear ho3
  obtain ⟨A3, c3, hv3⟩ : ∃ A3 c3, v3 = .slice A3 1 c3 := ho3'.form
  subst hv3
  have HC := Lib.hid hpre
  have HO := Lib.hid ho3'
  clear hpre ho3'
  have hN2 := next_any h p 2 w3 HC.out.1 (by omega) (by omega)
  go_wp2_with fail
  refine hN2.mono ?_
  rintro e w4 ⟨j, rfl, j0, j1, hS4, hE4⟩
  have hz4 := hE4.size
  have HD := Lib.hid (And.intro hS4 (And.intro (HC.out.2.trans hE4) (HO.out.eff hE4 hlp)))
  clear hN2 hS4 hE4
  have hj : j = 0 ∨ j = 1 := by omega
  rcases hj with rfl | rfl
  ·
   have hT := sorted_any A3 1 c3 [s] w4 (HD.out.2.2.rng (by intro x hx; simp at hx; subst hx; have := hs.len; unfold maxLen; omega)) (by omega)
   go_wp2_with fail
   refine hT.mono ?_
   rintro e w9 ⟨A', c', rfl, ho, hb⟩
   clear hT
   have hfin := Lib.hid (labs_end (by intro x hx; simp at hx; subst hx; exact hs) (by simp) HD.out.1 HD.out.2.1 hlp ho hb)
   clear ho hb
   go_wp2
   go_ret
   exact hfin.out
  ·
   have hL := label_any h p w4 HD.out.1
   go_wp2_with fail
   refine hL.mono ?_
   rintro e w5 ⟨⟨t, rfl, ht⟩, hS5, hE5⟩
   have hz5 := hE5.size
   have HF := Lib.hid (And.intro hS5 (And.intro (HD.out.2.1.trans hE5) (HD.out.2.2.eff hE5 hlp)))
   clear hL hS5 hE5
   go_wp2_with (refine wp_app_n rfl _ _ rfl w.heap.size (.slice A3 1 c3) [s] rfl HF.out.2.2 [t] 1 1 rfl #[.string ⟨t.toArray⟩] rfl _ rfl rfl (by simp) (by omega) ?_)
   intro v6 w6 ho6 hb6
   have hz6 := hb6.size
   have hlab : ∀ x, x ∈ [s, t] → LabN x := by
    intro x hx
    simp at hx
    rcases hx with rfl | rfl <;> assumption
   have hpre : SrcOk h p w6 ∧ Eff p w w6 := ⟨HF.out.1.below3 hb6 (by omega), HF.out.2.1.grow hb6 hlp⟩
   clear hb6
   have ho6' : OwnN w6 w.heap.size v6 [s, t] := ho6
   clear ho6
   obtain ⟨A6, c6, hv6⟩ : ∃ A6 c6, v6 = .slice A6 2 c6 := ho6'.form
   subst hv6
   have HG := Lib.hid (And.intro hpre ho6')
   clear hpre ho6'
   have hT := sorted_any A6 2 c6 [s, t] w6 (HG.out.2.rng (fun x hx => by have := (hlab x hx).len; unfold maxLen; omega)) (by omega)
   go_wp2_with fail
   refine hT.mono ?_
   rintro e w9 ⟨A', c', rfl, ho, hb⟩
   clear hT
   have hfin := Lib.hid (labs_end hlab (by simp) HG.out.1.1 HG.out.1.2 hlp ho hb)
   clear ho hb
   go_wp2
   go_ret
   exact hfin.out
 ·
  have hT := sorted_any none 0 0 [] w1 (NmS.nil _ _ _) (by omega)
  go_wp2_with fail
  refine hT.mono ?_
  rintro e w9 ⟨A', c', rfl, ho, hb⟩
  clear hT
  have hfin := Lib.hid (labs_end (by simp) (by simp) HA.out.1 HA.out.2 hlp ho hb)
  clear ho hb
  go_wp2
  go_ret
  exact hfin.out
end Go.Proofs.YtcjgaohblaidjaaGreatDoor
namespace Go.Proofs.YtcjgaohblaidjaaGreatDoor
open Go Go.RowKit
structure ElK (α : Type) where
 E : α → World → (Nat → Prop) → List Value → Prop
 keep : ∀ {x w w' B cs}, Same B w w' → E x w B cs → E x w' B cs
 sub : ∀ {x w B B' cs}, (∀ b, B b → B' b) → E x w B cs → E x w B' cs
def OwnE {α : Type} (K : ElK α) (e : TypeId) (c : Nat) (w : World) (base : Nat) (v : Value) (l : List α) : Prop :=
 ∃ xs, w.ownsRow base e c v l.length xs ∧ ∀ j x, l[j]? = some x → K.E x w (fun b => base ≤ b ∧ b < w.heap.size ∧ some b ≠ v.ownBlock) ((xs.drop (j * c)).take c)
theorem OwnE.nil {α : Type} (K : ElK α) (e : TypeId) (c : Nat) (w : World) (base : Nat) : OwnE K e c w base (.slice none 0 0) [] := ⟨[], World.ownsRow_nil _ _ _ _, fun j x h => by simp at h⟩
theorem OwnE.form {α : Type} {K : ElK α} {e : TypeId} {c : Nat} {w : World} {base : Nat} {v : Value} {l : List α} (h : OwnE K e c w base v l) : ∃ A cap, v = .slice A l.length cap := by
 obtain ⟨xs, ⟨_, hc⟩, _⟩ := h
 rcases hc with ⟨rfl, hn⟩ | ⟨g, cap, cur, rfl, _⟩
 · exact ⟨none, 0, by rw [hn]⟩
 · exact ⟨_, cap, rfl⟩
theorem OwnE.row {α : Type} {K : ElK α} {e : TypeId} {c : Nat} {w : World} {base : Nat} {v : Value} {l : List α} (h : OwnE K e c w base v l) (hc : 0 < c) (hn : l.length ≤ maxLen) :
  RowB w (Btw base w.heap.size) c v l.length (fun j cs => ∃ x, l[j]? = some x ∧ K.E x w (Btw base w.heap.size) cs) := by
 obtain ⟨xs, ho, hx⟩ := h
 exact row_of_owns ho hn (fun g _ h1 h2 => ⟨h1, h2⟩) (fun j hj => ⟨l[j], List.getElem?_eq_getElem hj, K.sub (fun b hb => ⟨hb.1, hb.2.1⟩) (hx j _ (List.getElem?_eq_getElem hj))⟩) hc
theorem OwnE.kept {α : Type} {K : ElK α} {e : TypeId} {c : Nat} {w w' : World} {base : Nat} {v : Value} {l : List α} (h : OwnE K e c w base v l) (hs : w.heap.size ≤ w'.heap.size) (hb : ∀ b, base ≤ b → b < w.heap.size → w'.heap[b]? = w.heap[b]?) : OwnE K e c w' base v l := by
 obtain ⟨xs, ho, hx⟩ := h
 refine ⟨xs, ⟨ho.1, ?_⟩, fun j x hj => K.sub (fun b hb => ⟨hb.1, by have := hb.2.1; omega, hb.2.2⟩) (K.keep ⟨hs, fun b i hB hl => World.cell?_of_block (hb b hB.1 hl)⟩ (hx j x hj))⟩
 rcases ho.2 with hn | ⟨g, cap, cur, rfl, hB, hg, rest⟩
 · exact .inl hn
 · exact .inr ⟨g, cap, cur, rfl, hB, (hb g hB (Array.getElem?_eq_some_iff.1 hg).1).trans hg, rest⟩
theorem OwnE.eff {α : Type} {K : ElK α} {e : TypeId} {c p : Nat} {w w' : World} {base : Nat} {v : Value} {l : List α} (h : OwnE K e c w base v l) (hE : Eff p w w') (hp : p < base) : OwnE K e c w' base v l :=
 h.kept hE.size fun b h1 h2 => hE.other b (by omega) h2
theorem OwnE.old {α : Type} {K : ElK α} {e : TypeId} {c : Nat} {w w' : World} {base : Nat} {v : Value} {l : List α} (h : OwnE K e c w base v l) (hb : Below w.heap.size w w') : OwnE K e c w' base v l :=
 h.kept hb.size fun b _ h2 => hb.block b h2
theorem OwnE.low {α : Type} {K : ElK α} {e : TypeId} {c : Nat} {w : World} {base g i : Nat} {v u : Value} {l : List α} (h : OwnE K e c w base v l) (hg : g < base) : OwnE K e c (w.setCell ⟨g, i, none⟩ u) base v l :=
 h.kept (by simp) fun b h1 _ => heap_setCell_other _ _ _ _ (show b ≠ g by omega)
theorem app_one {α : Type} (K : ElK α) (t ty : TypeId) (e : TypeId) (i : TypeInfo) (z : Value) (c bytes : Nat) (ht : Tryz.prog.underlying t = some (.slice e)) (hi : Tryz.prog.info? e = some i) (hz : i.zero = some z)
  (hsize : i.size = c) (hby : i.bytes = bytes) (hzs : z.cells.size = c) (hc : 0 < c) (hb8 : bytes ≤ 1000)
  (w0 : World) (base : Nat) (v : Value) (l : List α) (h : OwnE K e c w0 base v l) (x : α) (cs : List Value) (hx : K.E x w0 (fun b => base ≤ b ∧ b < w0.heap.size ∧ some b ≠ v.ownBlock) cs) (hcs : cs.length = c) (h1c : ∀ u ∈ cs, u.oneCell' = true)
  (hn : l.length ≤ 300000000) (hbase : base ≤ w0.heap.size) (H : Nat) (hH : w0.heap.size = H) (cap1 : Nat) :
  ∃ g cap w', (Builtin.append_ #[t, t] ty #[v, .slice (some ⟨H, 0, none⟩) 1 cap1]).run Tryz.prog (w0.alloc (.cells cs.toArray e)) = .ok (.slice (some ⟨g, 0, none⟩) (l.length + 1) cap) w' ∧
   OwnE K e c w' base (.slice (some ⟨g, 0, none⟩) (l.length + 1) cap) (l ++ [x]) ∧ Below base w0 w' ∧ (∀ b, b < w0.heap.size → some b ≠ v.ownBlock → w'.heap[b]? = w0.heap[b]?) ∧ (v.ownBlock = some g ∨ H ≤ g) := by
 subst hH
 obtain ⟨xs, ho, hxs⟩ := h
 have hz0 : (w0.alloc (.cells cs.toArray e)).heap.size = w0.heap.size + 1 := by simp
 obtain ⟨g, cap, w', hr, h2, h3, h4, h5⟩ := run_append_lies (P := Tryz.prog) (w := w0.alloc (.cells cs.toArray e)) t ty base e i z c bytes ht hi hz hsize hby hzs hc v l.length xs (World.ownsRow.alloc ho _) ⟨w0.heap.size, 0, none⟩ 1 cap1 cs (by simpa using hcs)
  (World.news_of_block (cs := cs.toArray) (heap_alloc_new w0 _)) h1c (by omega) (by unfold maxLen; omega) (Nat.le_trans (Nat.mul_le_mul (show l.length + 1 ≤ 300000001 by omega) hb8) (by omega)) (by omega) _ hz0
 have hkeep : ∀ b, b < w0.heap.size → some b ≠ v.ownBlock → w'.heap[b]? = w0.heap[b]? := fun b hb hne => (h3.block b (by omega) hne).trans (Below.heap_alloc _ _ _ hb)
 have hvlt : ∀ b, v.ownBlock = some b → base ≤ b ∧ b < w0.heap.size := by
  intro b hb
  rcases ho.2 with ⟨rfl, _⟩ | ⟨g', cap', cur, rfl, hB, hg, _⟩
  · simp [Value.ownBlock] at hb
  ·
   simp [Value.ownBlock] at hb
   subst hb
   exact ⟨hB, (Array.getElem?_eq_some_iff.1 hg).1⟩
 have hs3 := h3.size
 have hsm : Same (fun b => base ≤ b ∧ b < w0.heap.size ∧ some b ≠ v.ownBlock) w0 w' := ⟨by omega, fun b i hB hl => World.cell?_of_block (hkeep b hl hB.2.2)⟩
 have hsub : ∀ b, (base ≤ b ∧ b < w0.heap.size ∧ some b ≠ v.ownBlock) → (base ≤ b ∧ b < w'.heap.size ∧ some b ≠ (Value.slice (some ⟨g, 0, none⟩) (l.length + 1) cap).ownBlock) := by
  intro b ⟨a1, a2, a3⟩
  refine ⟨a1, by omega, ?_⟩
  simp only [Value.ownBlock, ne_eq, Option.some.injEq]
  intro e
  rcases h4 with h4 | h4
  · exact a3 (by rw [h4, e])
  · omega
 have hll : (l ++ [x]).length = l.length + 1 := by simp
 refine ⟨g, cap, w', hr, ⟨xs ++ cs, by rw [hll]; exact h2, fun j y hj => ?_⟩, ((Below.refl base w0).alloc hbase _).grown h3 (by omega) (fun k hk => (hvlt k hk).1), hkeep, h4.imp_right fun h => by omega⟩
 have hjl : j < l.length + 1 := by have := (List.getElem?_eq_some_iff.1 hj).1; omega
 by_cases hjn : j < l.length
 ·
  rw [List.getElem?_append_left hjn] at hj
  have hle : (j + 1) * c ≤ l.length * c := Nat.mul_le_mul_right c hjn
  rw [Nat.add_mul, Nat.one_mul] at hle
  have hxl := ho.1
  rw [show ((xs ++ cs).drop (j * c)).take c = (xs.drop (j * c)).take c by rw [List.drop_append_of_le_length (by omega), List.take_append_of_le_length (by rw [List.length_drop]; omega)]]
  exact K.sub hsub (K.keep hsm (hxs j y hj))
 ·
  have hjq : j = l.length := by omega
  subst hjq
  rw [List.getElem?_append_right (Nat.le_refl _), Nat.sub_self] at hj
  simp only [List.getElem?_cons_zero, Option.some.injEq] at hj
  subst hj
  rw [← ho.1, List.drop_left, ← hcs, List.take_length]
  exact K.sub hsub (K.keep hsm hx)
def elV (k : Nat) : ElK Vl := ⟨fun x w B cs => VB k w B x cs, fun h h' => VB.keep h h', fun h h' => VB.sub h (Nat.le_refl _) h'⟩
def elK : ElK (Int × List UInt8) := ⟨fun x _ _ cs => cs = [.int .i64 x.1, .string ⟨x.2.toArray⟩] ∧ (Lit.int .i64 x.1).wf = true ∧ x.2.length ≤ maxLen, fun _ h => h, fun _ h => h⟩
def EnB (k : Nat) (x : En) (w : World) (B : Nat → Prop) (cs : List Value) : Prop :=
 ∃ args fails result, x = .mk args fails result ∧ ∃ ua rs, cs = ua :: .bool fails :: rs ∧ RowB w B 7 ua args.length (fun j cs => ∃ x, args[j]? = some x ∧ VB k w B x cs) ∧ VB k w B result rs
def elE (k : Nat) : ElK En := ⟨EnB k, fun hs ⟨a, f, r, h1, ua, rs, h2, h3, h4⟩ => ⟨a, f, r, h1, ua, rs, h2, h3.keep hs fun _ _ ⟨x, hx, hv⟩ => ⟨x, hx, VB.keep hs hv⟩, VB.keep hs h4⟩, fun hs ⟨a, f, r, h1, ua, rs, h2, h3, h4⟩ => ⟨a, f, r, h1, ua, rs, h2, h3.sub hs fun _ _ ⟨x, hx, hv⟩ => ⟨x, hx, VB.sub hs (Nat.le_refl _) hv⟩, VB.sub hs (Nat.le_refl _) h4⟩⟩
abbrev OwnV (k : Nat) (w : World) (base : Nat) (v : Value) (l : List Vl) : Prop := OwnE (elV k) 27 7 w base v l
abbrev OwnK (w : World) (base : Nat) (v : Value) (l : List (Int × List UInt8)) : Prop := OwnE elK 80 2 w base v l
abbrev OwnEn (k : Nat) (w : World) (base : Nat) (v : Value) (l : List En) : Prop := OwnE (elE k) 45 9 w base v l
theorem Tryz.infoK : (Tryz.prog.info? 80).map (fun i => (i.zero, i.size, i.bytes)) = some (some (.agg #[.int .i64 0, .string ⟨#[]⟩]), 2, 24) := by kernel_rfl
theorem Tryz.infoE : (Tryz.prog.info? 45).map (fun i => (i.zero, i.size, i.bytes)) = some (some (.agg #[.slice none 0 0, .bool false, .int .i64 0, .int .i64 0, .string ⟨#[]⟩, .slice none 0 0, .slice none 0 0, .slice none 0 0, .slice none 0 0]), 9, 160) := by kernel_rfl
theorem wp_app_v {ops : Array Oper} {rest : List Oper} {o : Oper} {a : Act} {Q : Exit → Act → World → Prop} {w0 : World} (hgd : o.guard = none) (s x : Operand)
  (ho : o.op = .call { callee := .builtin .append, args := #[s, x], argTypes := #[22, 22] }) (k : Nat) (base : Nat) (v : Value) (l : List Vl) (hs : a.eval s = v) (hown : OwnV k w0 base v l)
  (y : Vl) (cs : List Value) (cap1 : Nat) (H : Nat) (hH : w0.heap.size = H) (hx : a.eval x = .slice (some ⟨H, 0, none⟩) 1 cap1) (cells : Array Value) (hcells : cells = cs.toArray)
  (hy : (elV k).E y w0 (fun b => base ≤ b ∧ b < w0.heap.size ∧ some b ≠ v.ownBlock) cs) (hcs : cs.length = 7) (h1c : ∀ u ∈ cs, u.oneCell' = true) (hn : l.length ≤ 300000000) (hbase : base ≤ w0.heap.size)
  (h : ∀ g cap w', OwnV k w' base (.slice (some ⟨g, 0, none⟩) (l.length + 1) cap) (l ++ [y]) → Below base w0 w' → (∀ b, b < w0.heap.size → some b ≠ v.ownBlock → w'.heap[b]? = w0.heap[b]?) → (v.ownBlock = some g ∨ H ≤ g) → wpList Tryz.prog ops Q rest (a.put o.dst (.slice (some ⟨g, 0, none⟩) (l.length + 1) cap)) w') :
  wpList Tryz.prog ops Q (o :: rest) a (w0.alloc (.cells cells 27)) := by
 subst hcells
 obtain ⟨i0, hi, hz0, hz1, hz2⟩ := info_parts Tryz.infoV
 obtain ⟨g, cap, w', h1, h2, h3, h4, h5⟩ := app_one (elV k) 22 o.type 27 i0 (.agg #[.int .i64 0, .int .i64 0, .string ⟨#[]⟩, .slice none 0 0, .slice none 0 0, .slice none 0 0, .slice none 0 0]) 7 128 Tryz.underlying22 hi hz0 hz1 hz2 rfl (by decide) (by decide) w0 base v l hown y cs hy hcs h1c hn hbase H hH cap1
 exact Lib.wpList_append_run _ hgd s x 22 22 ho v _ hs hx _ w' h1 (h g cap w' h2 h3 h4 h5)
theorem wp_app_k {ops : Array Oper} {rest : List Oper} {o : Oper} {a : Act} {Q : Exit → Act → World → Prop} {w0 : World} (hgd : o.guard = none) (s x : Operand)
  (ho : o.op = .call { callee := .builtin .append, args := #[s, x], argTypes := #[23, 23] }) (base : Nat) (v : Value) (l : List (Int × List UInt8)) (hs : a.eval s = v) (hown : OwnK w0 base v l)
  (y : (Int × List UInt8)) (cs : List Value) (cap1 : Nat) (H : Nat) (hH : w0.heap.size = H) (hx : a.eval x = .slice (some ⟨H, 0, none⟩) 1 cap1) (cells : Array Value) (hcells : cells = cs.toArray)
  (hy : (elK).E y w0 (fun b => base ≤ b ∧ b < w0.heap.size ∧ some b ≠ v.ownBlock) cs) (hcs : cs.length = 2) (h1c : ∀ u ∈ cs, u.oneCell' = true) (hn : l.length ≤ 300000000) (hbase : base ≤ w0.heap.size)
  (h : ∀ g cap w', OwnK w' base (.slice (some ⟨g, 0, none⟩) (l.length + 1) cap) (l ++ [y]) → Below base w0 w' → (∀ b, b < w0.heap.size → some b ≠ v.ownBlock → w'.heap[b]? = w0.heap[b]?) → (v.ownBlock = some g ∨ H ≤ g) → wpList Tryz.prog ops Q rest (a.put o.dst (.slice (some ⟨g, 0, none⟩) (l.length + 1) cap)) w') :
  wpList Tryz.prog ops Q (o :: rest) a (w0.alloc (.cells cells 80)) := by
 subst hcells
 obtain ⟨i0, hi, hz0, hz1, hz2⟩ := info_parts Tryz.infoK
 obtain ⟨g, cap, w', h1, h2, h3, h4, h5⟩ := app_one (elK) 23 o.type 80 i0 (.agg #[.int .i64 0, .string ⟨#[]⟩]) 2 24 Tryz.underlying23 hi hz0 hz1 hz2 rfl (by decide) (by decide) w0 base v l hown y cs hy hcs h1c hn hbase H hH cap1
 exact Lib.wpList_append_run _ hgd s x 23 23 ho v _ hs hx _ w' h1 (h g cap w' h2 h3 h4 h5)
theorem wp_app_e {ops : Array Oper} {rest : List Oper} {o : Oper} {a : Act} {Q : Exit → Act → World → Prop} {w0 : World} (hgd : o.guard = none) (s x : Operand)
  (ho : o.op = .call { callee := .builtin .append, args := #[s, x], argTypes := #[24, 24] }) (k : Nat) (base : Nat) (v : Value) (l : List En) (hs : a.eval s = v) (hown : OwnEn k w0 base v l)
  (y : En) (cs : List Value) (cap1 : Nat) (H : Nat) (hH : w0.heap.size = H) (hx : a.eval x = .slice (some ⟨H, 0, none⟩) 1 cap1) (cells : Array Value) (hcells : cells = cs.toArray)
  (hy : (elE k).E y w0 (fun b => base ≤ b ∧ b < w0.heap.size ∧ some b ≠ v.ownBlock) cs) (hcs : cs.length = 9) (h1c : ∀ u ∈ cs, u.oneCell' = true) (hn : l.length ≤ 300000000) (hbase : base ≤ w0.heap.size)
  (h : ∀ g cap w', OwnEn k w' base (.slice (some ⟨g, 0, none⟩) (l.length + 1) cap) (l ++ [y]) → Below base w0 w' → (∀ b, b < w0.heap.size → some b ≠ v.ownBlock → w'.heap[b]? = w0.heap[b]?) → (v.ownBlock = some g ∨ H ≤ g) → wpList Tryz.prog ops Q rest (a.put o.dst (.slice (some ⟨g, 0, none⟩) (l.length + 1) cap)) w') :
  wpList Tryz.prog ops Q (o :: rest) a (w0.alloc (.cells cells 45)) := by
 subst hcells
 obtain ⟨i0, hi, hz0, hz1, hz2⟩ := info_parts Tryz.infoE
 obtain ⟨g, cap, w', h1, h2, h3, h4, h5⟩ := app_one (elE k) 24 o.type 45 i0 (.agg #[.slice none 0 0, .bool false, .int .i64 0, .int .i64 0, .string ⟨#[]⟩, .slice none 0 0, .slice none 0 0, .slice none 0 0, .slice none 0 0]) 9 160 Tryz.underlying24 hi hz0 hz1 hz2 rfl (by decide) (by decide) w0 base v l hown y cs hy hcs h1c hn hbase H hH cap1
 exact Lib.wpList_append_run _ hgd s x 24 24 ho v _ hs hx _ w' h1 (h g cap w' h2 h3 h4 h5)
end Go.Proofs.YtcjgaohblaidjaaGreatDoor
namespace Go.Proofs.YtcjgaohblaidjaaGreatDoor
open Go Go.RowKit
theorem row_news {w : World} {B : Nat → Prop} {c n cap : Nat} {A : Option Addr} {R : Nat → List Value → Prop} (hc : 0 < c) (h : RowB w B c (.slice A n cap) n R) (hn : 0 < n) :
  ∃ b off, ∃ news : List Value, A = some ⟨b, off, none⟩ ∧ news.length = n * c ∧ (∀ q u, news[q]? = some u → w.cell? ⟨b, off + q, none⟩ = some u) ∧ (∀ j, j < n → R j ((news.drop (j * c)).take c)) ∧ ∀ u, u ∈ news → ∃ j cs, R j cs ∧ u ∈ cs := by
 obtain ⟨A', cap', h1, _, h3⟩ := h
 obtain ⟨b, off, rfl, _, _, h7⟩ := h3 hn
 injection h1 with hA _ _
 have hch : ∀ j : Fin n, ∃ cs : List Value, cs.length = c ∧ (∀ i, i < c → w.cell? ⟨b, off + j.1 * c + i, none⟩ = cs[i]?) ∧ R j.1 cs := fun j => h7 j.1 j.2
 let enc : Fin n → List Value := fun j => Classical.choose (hch j)
 have he : ∀ j, (enc j).length = c ∧ (∀ i, i < c → w.cell? ⟨b, off + j.1 * c + i, none⟩ = (enc j)[i]?) ∧ R j.1 (enc j) := fun j => Classical.choose_spec (hch j)
 have hfr : ∀ j (hj : j < n), (List.finRange n)[j]? = some ⟨j, hj⟩ := fun j hj => by simp [hj]
 have hlen : ∀ l : List (Fin n), (l.flatMap enc).length = l.length * c := by
  intro l
  induction l with
  | nil => simp
  | cons a s ih => rw [List.flatMap_cons, List.length_append, ih, (he a).1, List.length_cons, Nat.add_mul]; omega
 refine ⟨b, off, (List.finRange n).flatMap enc, hA, by rw [hlen, List.length_finRange], fun q u hq => ?_, fun j hj => ?_, fun u hu => ?_⟩
 ·
  obtain ⟨x, hx, hu⟩ := flat_at (fun x => (he x).1) hc hq
  have hd : q / c < n := by have := (List.getElem?_eq_some_iff.1 hx).1; simpa using this
  rw [hfr _ hd] at hx
  injection hx with hx
  subst hx
  have := (he ⟨q / c, hd⟩).2.1 (q % c) (Nat.mod_lt _ hc)
  rw [hu, Nat.add_assoc, show q / c * c + q % c = q by rw [Nat.mul_comm]; exact Nat.div_add_mod q c] at this
  exact this
 ·
  rw [flat_sub (fun x => (he x).1) (hfr j hj)]
  exact (he ⟨j, hj⟩).2.2
 ·
  obtain ⟨x, _, hx⟩ := List.mem_flatMap.1 hu
  exact ⟨x.1, enc x, (he x).2.2, hx⟩
theorem app_row {α : Type} (K : ElK α) (t ty : TypeId) (e : TypeId) (i : TypeInfo) (z : Value) (c bytes : Nat) (ht : Tryz.prog.underlying t = some (.slice e)) (hi : Tryz.prog.info? e = some i) (hz : i.zero = some z)
  (hsize : i.size = c) (hby : i.bytes = bytes) (hzs : z.cells.size = c) (hc : 0 < c) (hb8 : bytes ≤ 1000) (h1K : ∀ x w B cs, K.E x w B cs → ∀ u ∈ cs, u.oneCell' = true)
  (w0 : World) (base : Nat) (v : Value) (l : List α) (h : OwnE K e c w0 base v l) (A : Option Addr) (m cap1 : Nat) (l' : List α) (hm : l'.length = m) (Bs : Nat → Prop)
  (hx : RowB w0 Bs c (.slice A m cap1) m (fun j cs => ∃ x, l'[j]? = some x ∧ K.E x w0 (fun b => base ≤ b ∧ b < w0.heap.size ∧ some b ≠ v.ownBlock) cs))
  (hn : l.length + m ≤ 300000000) (hbase : base ≤ w0.heap.size) :
  ∃ v' w', (Builtin.append_ #[t, t] ty #[v, .slice A m cap1]).run Tryz.prog w0 = .ok v' w' ∧ OwnE K e c w' base v' (l ++ l') ∧ Below base w0 w' ∧ (∀ b, b < w0.heap.size → some b ≠ v.ownBlock → w'.heap[b]? = w0.heap[b]?) ∧ (∀ g, v'.ownBlock = some g → v.ownBlock = some g ∨ w0.heap.size ≤ g) := by
 subst hm
 have hown := h
 obtain ⟨xs, ho, hxs⟩ := h
 have hvlt : ∀ b, v.ownBlock = some b → base ≤ b ∧ b < w0.heap.size := by
  intro b hb
  rcases ho.2 with ⟨rfl, _⟩ | ⟨g', cap', cur, rfl, hB, hg, _⟩
  · simp [Value.ownBlock] at hb
  ·
   simp [Value.ownBlock] at hb
   subst hb
   exact ⟨hB, (Array.getElem?_eq_some_iff.1 hg).1⟩
 have hnone : A = none → l' = [] := by
  intro hA
  rcases Nat.eq_zero_or_pos l'.length with h0 | h0
  · exact List.eq_nil_of_length_eq_zero h0
  ·
   obtain ⟨b, off, news, hA', _⟩ := row_news hc hx h0
   rw [hA] at hA'
   cases hA'
 rcases A with _ | ad
 ·
  have hl' := hnone rfl
  subst hl'
  have hr : (Builtin.append_ #[t, t] ty #[v, .slice none 0 cap1]).run Tryz.prog w0 = .ok v w0 := by
   rcases ho.2 with ⟨rfl, _⟩ | ⟨g, cap, cur, rfl, _, _, hnc, _⟩
   · simp [Builtin.append_, run_underlying ht, sizeOf, typeInfo, hi, Builtin.lenOf, Builtin.firstCells]
   · simp [Builtin.append_, run_underlying ht, sizeOf, typeInfo, hi, Builtin.lenOf, Builtin.firstCells, hnc, storeCells]
  exact ⟨v, w0, hr, by rw [List.append_nil]; exact hown, Below.refl _ _, fun _ _ _ => rfl, fun g hg => .inl hg⟩
 ·
  obtain ⟨news, hnl, hnc, hnR, hn1⟩ : ∃ news : List Value, news.length = l'.length * c ∧ (∀ q u, news[q]? = some u → w0.cell? (ad.add q) = some u) ∧ (∀ j, j < l'.length → ∃ x, l'[j]? = some x ∧ K.E x w0 (fun b => base ≤ b ∧ b < w0.heap.size ∧ some b ≠ v.ownBlock) ((news.drop (j * c)).take c)) ∧ ∀ u, u ∈ news → u.oneCell' = true := by
   rcases Nat.eq_zero_or_pos l'.length with h0 | h0
   · exact ⟨[], by simp [h0], fun q u h => by simp at h, fun j hj => by omega, fun u h => by cases h⟩
   ·
    obtain ⟨b, off, news, hA, hnl, hnc, hnR, hn1⟩ := row_news hc hx h0
    injection hA with hA
    subst hA
    exact ⟨news, hnl, fun j u hj => by rw [addr_add]; exact hnc j u hj, hnR, fun u hu => by obtain ⟨j, cs, ⟨x, _, hE⟩, hm⟩ := hn1 u hu; exact h1K x _ _ cs hE u hm⟩
  have hby8 : (l.length + l'.length) * bytes ≤ 140737488355328 := Nat.le_trans (Nat.mul_le_mul (show l.length + l'.length ≤ 300000001 by omega) hb8) (by decide)
  obtain ⟨v', w', hr, h2, h3, _, h4⟩ := run_append_own_at (P := Tryz.prog) (w := w0) base t ty e i z c bytes ht hi hz hsize hby hzs hc v l.length xs ho ad l'.length cap1 news hnl hnc hn1 (by unfold maxLen; omega) hby8 hbase
  have hkeep : ∀ b, b < w0.heap.size → some b ≠ v.ownBlock → w'.heap[b]? = w0.heap[b]? := fun b hb hne => h3.block b hb hne
  have hs3 := h3.size
  have hsm : Same (fun b => base ≤ b ∧ b < w0.heap.size ∧ some b ≠ v.ownBlock) w0 w' := ⟨hs3, fun b i hB hl => World.cell?_of_block (hkeep b hl hB.2.2)⟩
  have hsub : ∀ b, (base ≤ b ∧ b < w0.heap.size ∧ some b ≠ v.ownBlock) → (base ≤ b ∧ b < w'.heap.size ∧ some b ≠ v'.ownBlock) := by
   intro b ⟨a1, a2, a3⟩
   refine ⟨a1, by omega, ?_⟩
   rcases h4 with h4 | h4
   · rw [h4]; exact a3
   ·
    rw [h4]
    intro e
    injection e with e
    omega
  have hll : (l ++ l').length = l.length + l'.length := by simp
  refine ⟨v', w', hr, ⟨xs ++ news, by rw [hll]; exact h2, fun j y hj => ?_⟩, (Below.refl base w0).grown h3 hbase (fun k hk => (hvlt k hk).1), hkeep, fun g' hg' => by
   rcases h4 with h4 | h4
   · exact .inl (h4 ▸ hg')
   ·
    right
    rw [h4] at hg'
    injection hg' with hg'
    omega⟩
  have hjl : j < l.length + l'.length := by have := (List.getElem?_eq_some_iff.1 hj).1; omega
  have hxl := ho.1
  by_cases hjn : j < l.length
  ·
   rw [List.getElem?_append_left hjn] at hj
   have hle : (j + 1) * c ≤ l.length * c := Nat.mul_le_mul_right c hjn
   rw [Nat.add_mul, Nat.one_mul] at hle
   rw [show ((xs ++ news).drop (j * c)).take c = (xs.drop (j * c)).take c by rw [List.drop_append_of_le_length (by omega), List.take_append_of_le_length (by rw [List.length_drop]; omega)]]
   exact K.sub hsub (K.keep hsm (hxs j y hj))
  ·
   rw [List.getElem?_append_right (by omega)] at hj
   obtain ⟨x, hx1, hx2⟩ := hnR (j - l.length) (by omega)
   rw [hx1] at hj
   injection hj with hj
   subst hj
   have hq : j * c = xs.length + (j - l.length) * c := by rw [hxl, ← Nat.add_mul, show l.length + (j - l.length) = j by omega]
   rw [hq, List.drop_append, List.drop_eq_nil_of_le (Nat.le_add_right _ _), List.nil_append, Nat.add_sub_cancel_left]
   exact K.sub hsub (K.keep hsm hx2)
theorem elV_one (k : Nat) (x : Vl) (w : World) (B : Nat → Prop) (cs : List Value) (h : (elV k).E x w B cs) : ∀ u ∈ cs, u.oneCell' = true := by
 obtain ⟨a, i, s, A1, n1, c1, A2, n2, c2, A3, n3, c3, A4, n4, c4, rfl⟩ := VB.form7 h
 intro u hu
 simp only [List.mem_cons, List.not_mem_nil, or_false] at hu
 rcases hu with rfl | rfl | rfl | rfl | rfl | rfl | rfl <;> rfl
theorem elE_one (k : Nat) (x : En) (w : World) (B : Nat → Prop) (cs : List Value) (h : (elE k).E x w B cs) : ∀ u ∈ cs, u.oneCell' = true := by
 obtain ⟨a, f, r, _, ua, rs, rfl, ⟨A, cap, rfl, _⟩, hr⟩ := h
 obtain ⟨a, i, s, A1, n1, c1, A2, n2, c2, A3, n3, c3, A4, n4, c4, rfl⟩ := VB.form7 hr
 intro u hu
 simp only [List.mem_cons, List.not_mem_nil, or_false] at hu
 rcases hu with rfl | rfl | rfl | rfl | rfl | rfl | rfl | rfl | rfl <;> rfl
end Go.Proofs.YtcjgaohblaidjaaGreatDoor
namespace Go.Proofs.YtcjgaohblaidjaaGreatDoor
open Go Go.RowKit
theorem PrsW.lt {p : Nat} {r : Bs} {d : Int} {w : World} (h : PrsW p r d w) : p < w.heap.size := (Array.getElem?_eq_some_iff.1 h).1
theorem PrsW.below {p H : Nat} {r : Bs} {d : Int} {w w' : World} (h : PrsW p r d w) (hb : Below H w w') (hp : p < H) : PrsW p r d w' := (hb.block p hp).trans h
theorem PrsW.dep {p : Nat} {r : Bs} {d : Int} {w : World} (h : PrsW p r d w) (e : Int) : PrsW p r e (w.setCell ⟨p, 1, none⟩ (.int .i64 e)) := by
 have := heap_setCell_same w p 1 _ _ (.int .i64 e) h
 exact this
theorem Eff.set (p i : Nat) (w : World) (v : Value) : Eff p w (w.setCell ⟨p, i, none⟩ v) :=
 ⟨(Below.refl p w).setCell (p := ⟨p, i, none⟩) (Nat.le_refl _) v, fun _ hb _ => heap_setCell_other _ _ _ _ hb⟩
theorem Eff.same {p : Nat} {w w' : World} (h : Eff p w w') {B : Nat → Prop} (hB : ∀ b, B b → b ≠ p) : Same B w w' :=
 ⟨h.size, fun b _ hb hl => World.cell?_of_block (h.other b (hB b hb) hl)⟩
def EnvW (w : World) : Prop := Tb w ∧ (∃ tp q, w.var? Tryz.prog "strconv.ErrSyntax" = some #[.iface tp q]) ∧ (∃ tp q, w.var? Tryz.prog "strconv.ErrRange" = some #[.iface tp q])
def EnvH (B : Nat) (w : World) : Prop := ∀ w', Below B w w' → EnvW w'
theorem EnvH.below {B : Nat} {w w' : World} (h : EnvH B w) (hb : Below B w w') : EnvH B w' := fun w2 h2 => h w2 (hb.trans h2)
theorem EnvH.eff {B p : Nat} {w w' : World} (h : EnvH B w) (hb : Eff p w w') (hp : B ≤ p) : EnvH B w' := h.below (hb.below.mono hp)
theorem EnvH.now {B : Nat} {w : World} (h : EnvH B w) : EnvW w := h w (Below.refl _ _)
abbrev limP : Nat := 1048576
def Left (p : Nat) (q r : Bs) (d : Int) (w w' : World) : Prop := Eff p w w' ∧ PrsW p q d w' ∧ q.length ≤ r.length
theorem Left.trans {p : Nat} {q r s : Bs} {d : Int} {w w1 w2 : World} (h : Left p q r d w w1) (h2 : Left p s q d w1 w2) : Left p s r d w w2 := ⟨h.1.trans h2.1, h2.2.1, Nat.le_trans h2.2.2 h.2.2⟩
theorem Left.refl {p : Nat} {r : Bs} {d : Int} {w : World} (h : PrsW p r d w) : Left p r r d w w := ⟨Eff.refl _ _, h, Nat.le_refl _⟩
theorem Left.below {p : Nat} {q r : Bs} {d : Int} {w w1 w2 : World} (h : Left p q r d w w1) (hb : Below w1.heap.size w1 w2) : Left p q r d w w2 :=
 ⟨h.1.trans (Eff.of_below hb (Nat.le_of_lt h.2.1.lt)), h.2.1.below hb h.2.1.lt, h.2.2⟩
theorem cutR_some {s r q : Bs} (h : cutP s r = some q) : cutR s r = q := by unfold cutR; rw [h]; rfl
theorem cutR_none {s r : Bs} (h : cutP s r = none) : cutR s r = r := by unfold cutR; rw [h]; rfl
theorem accept_yes (p : Nat) (r s q : Bs) (d : Int) (w : World) (h : PrsW p r d w) (hc : cutP s r = some q) :
  Calls Tryz.prog 43 #[.pointer (some ⟨p, 0, none⟩), .string ⟨s.toArray⟩] w fun e w' => e = .returned (.bool true) ∧ Left p q r d w w' ∧ w'.heap.size = w.heap.size := by
 refine (accept_any p r s d w h).mono ?_
 rintro e w' ⟨rfl, rfl⟩
 rw [hc, cutR_some hc]
 exact ⟨rfl, ⟨Eff.set _ _ _ _, h.set q, by have := cutP_len hc; omega⟩, by simp⟩
theorem accept_no (p : Nat) (r s : Bs) (d : Int) (w : World) (h : PrsW p r d w) (hc : cutP s r = none) :
  Calls Tryz.prog 43 #[.pointer (some ⟨p, 0, none⟩), .string ⟨s.toArray⟩] w fun e w' => e = .returned (.bool false) ∧ Left p r r d w w' ∧ w'.heap.size = w.heap.size := by
 refine (accept_any p r s d w h).mono ?_
 rintro e w' ⟨rfl, rfl⟩
 rw [hc, cutR_none hc]
 exact ⟨rfl, ⟨Eff.set _ _ _ _, h.set r, Nat.le_refl _⟩, by simp⟩
theorem contL_end {α : Type} {item : Rd α} {sep r : Bs} (l : List α) (h : cutP sep r = none) : contL item sep l r = some (l, r) := by unfold contL; rw [h]
theorem contL_fail {α : Type} {item : Rd α} {sep r r' : Bs} (l : List α) (h : cutP sep r = some r') (h2 : item r' = none) : contL item sep l r = none := by
 unfold contL; rw [h]; simp only; rw [seqL_none h2]; rfl
theorem contL_more {α : Type} {item : Rd α} {sep r r' t : Bs} {x : α} (l : List α) (h : cutP sep r = some r') (h2 : item r' = some (x, t)) (hl : t.length ≤ r'.length) (hs : sep ≠ []) : contL item sep l r = contL item sep (l ++ [x]) t := by
 rw [← contL_pre, ← seqL_step h2 hl hs]
 unfold contL preO; rw [h]
theorem OwnE.blk5 {α : Type} {K : ElK α} {e : TypeId} {c : Nat} {w : World} {base : Nat} {v : Value} {l : List α} (h : OwnE K e c w base v l) : ∀ b, v.ownBlock = some b → base ≤ b ∧ b < w.heap.size := by
 intro b hb
 obtain ⟨xs, ho, _⟩ := h
 rcases ho.2 with ⟨rfl, _⟩ | ⟨g', cap', cur, rfl, hB, hg, _⟩
 · simp [Value.ownBlock] at hb
 ·
  simp [Value.ownBlock] at hb
  subst hb
  exact ⟨hB, (Array.getElem?_eq_some_iff.1 hg).1⟩
def ValPost (k p : Nat) (d : Int) (o : Option (Vl × Bs)) (r : Bs) (w : World) (e : Ending) (w' : World) : Prop :=
 ∃ a i s A1 n1 c1 A2 n2 c2 A3 n3 c3 A4 n4 c4 q, e = .returned (.tuple #[.agg #[.int .i64 a, .int .i64 i, .string s, .slice A1 n1 c1, .slice A2 n2 c2, .slice A3 n3 c3, .slice A4 n4 c4], .bool o.isSome]) ∧ Left p q r d w w' ∧
  ∀ v t, o = some (v, t) → q = t ∧ VB k w' (Btw w.heap.size w'.heap.size) v [.int .i64 a, .int .i64 i, .string s, .slice A1 n1 c1, .slice A2 n2 c2, .slice A3 n3 c3, .slice A4 n4 c4]
def LabPost (p : Nat) (d : Int) (o : Option (Bs × Bs)) (r : Bs) (w : World) (e : Ending) (w' : World) : Prop :=
 ∃ s q, e = .returned (.tuple #[.string s, .bool o.isSome]) ∧ Left p q r d w w' ∧ ∀ v t, o = some (v, t) → q = t ∧ s = ⟨v.toArray⟩ ∧ v.length ≤ maxLen
def FlB (k : Nat) (x : (Int × Bs) × Vl) (w : World) (B : Nat → Prop) (cs : List Value) : Prop :=
 ∃ rs, cs = .int .i64 x.1.1 :: .string ⟨x.1.2.toArray⟩ :: rs ∧ (Lit.int .i64 x.1.1).wf = true ∧ x.1.2.length ≤ maxLen ∧ VB k w B x.2 rs
def elF (k : Nat) : ElK ((Int × Bs) × Vl) := ⟨FlB k, fun hs ⟨rs, h1, h2, h3, h4⟩ => ⟨rs, h1, h2, h3, VB.keep hs h4⟩, fun hs ⟨rs, h1, h2, h3, h4⟩ => ⟨rs, h1, h2, h3, VB.sub hs (Nat.le_refl _) h4⟩⟩
theorem elF_one (k : Nat) (x : (Int × Bs) × Vl) (w : World) (B : Nat → Prop) (cs : List Value) (h : (elF k).E x w B cs) : ∀ u ∈ cs, u.oneCell' = true := by
 obtain ⟨rs, rfl, _, _, h4⟩ := h
 have h5 := elV_one k x.2 w B rs h4
 intro u hu
 simp only [List.mem_cons] at hu
 rcases hu with rfl | rfl | hu
 · rfl
 · rfl
 · exact h5 u hu
def elL5 : ElK Bs := ⟨fun x _ _ cs => cs = [.string ⟨x.toArray⟩] ∧ x.length ≤ maxLen, fun _ h => h, fun _ h => h⟩
theorem elL5_one (x : Bs) (w : World) (B : Nat → Prop) (cs : List Value) (h : elL5.E x w B cs) : ∀ u ∈ cs, u.oneCell' = true := by
 obtain ⟨rfl, _⟩ := h
 intro u hu
 rw [List.mem_singleton] at hu
 rw [hu]; rfl
def FldPost (k p : Nat) (d : Int) (o : Option (((Int × Bs) × Vl) × Bs)) (r : Bs) (w : World) (e : Ending) (w' : World) : Prop :=
 ∃ y z a i s A1 n1 c1 A2 n2 c2 A3 n3 c3 A4 n4 c4 q, e = .returned (.tuple #[.agg #[.int .i64 y, .string z, .int .i64 a, .int .i64 i, .string s, .slice A1 n1 c1, .slice A2 n2 c2, .slice A3 n3 c3, .slice A4 n4 c4], .bool o.isSome]) ∧ Left p q r d w w' ∧
  ∀ v t, o = some (v, t) → q = t ∧ FlB k v w' (Btw w.heap.size w'.heap.size) [.int .i64 y, .string z, .int .i64 a, .int .i64 i, .string s, .slice A1 n1 c1, .slice A2 n2 c2, .slice A3 n3 c3, .slice A4 n4 c4]
def EntPost (k p : Nat) (d : Int) (o : Option (En × Bs)) (r : Bs) (w : World) (e : Ending) (w' : World) : Prop :=
 ∃ A0 n0 c0 f a i s A1 n1 c1 A2 n2 c2 A3 n3 c3 A4 n4 c4 q, e = .returned (.tuple #[.agg #[.slice A0 n0 c0, .bool f, .int .i64 a, .int .i64 i, .string s, .slice A1 n1 c1, .slice A2 n2 c2, .slice A3 n3 c3, .slice A4 n4 c4], .bool o.isSome]) ∧ Left p q r d w w' ∧
  ∀ v t, o = some (v, t) → q = t ∧ EnB k v w' (Btw w.heap.size w'.heap.size) [.slice A0 n0 c0, .bool f, .int .i64 a, .int .i64 i, .string s, .slice A1 n1 c1, .slice A2 n2 c2, .slice A3 n3 c3, .slice A4 n4 c4]
def ListPost {α : Type} (K : ElK α) (T : TypeId) (c p : Nat) (d : Int) (o : Option (List α × Bs)) (r : Bs) (w : World) (e : Ending) (w' : World) : Prop :=
 ∃ A n cap q l, e = .returned (.tuple #[.slice A n cap, .bool o.isSome]) ∧ Left p q r d w w' ∧ (n = l.length ∧ n ≤ r.length + 1 ∧ OwnE K T c w' w.heap.size (.slice A n cap) l) ∧ ∀ m t, o = some (m, t) → q = t ∧ l = m
theorem ListPost.old {α : Type} {K : ElK α} {T : TypeId} {c p : Nat} {d : Int} {o : Option (List α × Bs)} {r : Bs} {w : World} {e : Ending} {w' : World} (h : ListPost K T c p d o r w e w') :
  ∃ A n cap q, e = .returned (.tuple #[.slice A n cap, .bool o.isSome]) ∧ Left p q r d w w' ∧ ∀ l t, o = some (l, t) → q = t ∧ n = l.length ∧ n ≤ r.length + 1 ∧ OwnE K T c w' w.heap.size (.slice A n cap) l := by
 obtain ⟨A, n, cap, q, l, h1, h2, ⟨h3, h4, h5⟩, h6⟩ := h
 refine ⟨A, n, cap, q, h1, h2, fun m t hm => ?_⟩
 obtain ⟨rfl, rfl⟩ := h6 m t hm
 exact ⟨rfl, h3, h4, h5⟩
def ValI (B k p : Nat) (d : Int) (item : Rd Vl) : Prop := ∀ (r : Bs) (w : World), PrsW p r d w → r.length ≤ limP → EnvH B w → Calls Tryz.prog 21 #[.pointer (some ⟨p, 0, none⟩)] w (ValPost k p d (item r) r w)
def LabI (B p : Nat) (d : Int) (item : Rd Bs) : Prop := ∀ (r : Bs) (w : World), PrsW p r d w → r.length ≤ limP → EnvH B w → Calls Tryz.prog 45 #[.pointer (some ⟨p, 0, none⟩)] w (LabPost p d (item r) r w)
def FldI (B k p : Nat) (d : Int) (item : Rd ((Int × Bs) × Vl)) : Prop := ∀ (r : Bs) (w : World), PrsW p r d w → r.length ≤ limP → EnvH B w → Calls Tryz.prog 128 #[.pointer (some ⟨p, 0, none⟩)] w (FldPost k p d (item r) r w)
def EntI (B k p : Nat) (d : Int) (item : Rd En) : Prop := ∀ (r : Bs) (w : World), PrsW p r d w → r.length ≤ limP → EnvH B w → Calls Tryz.prog 130 #[.pointer (some ⟨p, 0, none⟩)] w (EntPost k p d (item r) r w)
theorem label_item (B p : Nat) (d : Int) : LabI B p d labelP := by
 intro r w h hr _
 unfold limP at hr
 refine (labelP_any p r d w h (by unfold maxLen; omega)).mono ?_
 rintro e w' ⟨rfl, rfl⟩
 have hl := (List.takeWhile_sublist nameC (l := r)).length_le
 have hd := (List.dropWhile_sublist nameC (l := r)).length_le
 refine ⟨⟨(r.takeWhile nameC).toArray⟩, r.dropWhile nameC, ?_, ⟨Eff.set _ _ _ _, h.set _, hd⟩, ?_⟩
 ·
  unfold labelP takeL
  cases hb : varB (r.takeWhile nameC) <;> simp [hb]
 ·
  intro v t hv
  unfold labelP takeL at hv
  cases hb : varB (r.takeWhile nameC) with
  | false => simp [hb] at hv
  | true =>
   simp [hb] at hv
   obtain ⟨rfl, rfl⟩ := hv
   exact ⟨rfl, rfl, by unfold maxLen; omega⟩
end Go.Proofs.YtcjgaohblaidjaaGreatDoor
namespace Go.Proofs.YtcjgaohblaidjaaGreatDoor
open Go Go.RowKit
theorem wp_app_V5 {ops : Array Oper} {rest : List Oper} {o : Oper} {a : Act} {Q : Exit → Act → World → Prop} {w0 : World} (hgd : o.guard = none) (s x : Operand)
  (ho : o.op = .call { callee := .builtin .append, args := #[s, x], argTypes := #[22, 22] }) (k : Nat) (base : Nat) (v : Value) (l : List Vl) (hs : a.eval s = v) (hown : OwnE (elV k) 27 7 w0 base v l)
  (y : Vl) (cs : List Value) (cap1 : Nat) (H : Nat) (hH : w0.heap.size = H) (hx : a.eval x = .slice (some ⟨H, 0, none⟩) 1 cap1) (cells : Array Value) (hcells : cells = cs.toArray)
  (hy : (elV k).E y w0 (fun b => base ≤ b ∧ b < w0.heap.size ∧ some b ≠ v.ownBlock) cs) (hcs : cs.length = 7) (h1c : ∀ u ∈ cs, u.oneCell' = true) (hn : l.length ≤ 300000000) (hbase : base ≤ w0.heap.size)
  (h : ∀ g cap w', OwnE (elV k) 27 7 w' base (.slice (some ⟨g, 0, none⟩) (l.length + 1) cap) (l ++ [y]) → Below base w0 w' → wpList Tryz.prog ops Q rest (a.put o.dst (.slice (some ⟨g, 0, none⟩) (l.length + 1) cap)) w') :
  wpList Tryz.prog ops Q (o :: rest) a (w0.alloc (.cells cells 27)) := by
 subst hcells
 obtain ⟨i0, hi, hz0, hz1, hz2⟩ := info_parts Tryz.infoV
 obtain ⟨g, cap, w', h1, h2, h3, _, _⟩ := app_one (elV k) 22 o.type 27 i0 (.agg #[.int .i64 0, .int .i64 0, .string ⟨#[]⟩, .slice none 0 0, .slice none 0 0, .slice none 0 0, .slice none 0 0]) 7 128 Tryz.underlying22 hi hz0 hz1 hz2 rfl (by decide) (by decide) w0 base v l hown y cs hy hcs h1c hn hbase H hH cap1
 exact Lib.wpList_append_run _ hgd s x 22 22 ho v _ hs hx _ w' h1 (h g cap w' h2 h3)
set_option maxRecDepth 100000 in
set_option maxHeartbeats 3200000 in
theorem seqV_any (B k p : Nat) (hBp : B ≤ p) (d : Int) (item : Rd Vl) (hI : Hid (ValI B k p d item)) (sep : Bs) (hsep : sep ≠ []) (r : Bs) (w : World) (h : PrsW p r d w) (hr : r.length ≤ limP) (hE : EnvH B w) :
  Calls Tryz.prog 125 #[.pointer (some ⟨p, 0, none⟩), .func (.func 21) #[.pointer (some ⟨p, 0, none⟩)] #[], .string ⟨sep.toArray⟩] w (ListPost (elV k) 27 7 p d (seqL item sep r) r w) := by
 have hp0 := h.lt
 have H0 := Lib.hid (Left.refl h)
 have HE := Lib.hid hE
 unfold limP at hr
 clear h hE
 go_enter Tryz.func125, Tryz.ntmps125
 go_wp2_with fail
 go_loopg [8] (r.length + 2) (fun gk lv wr => ∃ A cap ls rc, lv = .slice A (List.length (α := Vl) ls) cap ∧ Left p rc r d w wr ∧ OwnE (elV k) 27 7 wr w.heap.size (.slice A ls.length cap) ls ∧ rc.length + ls.length ≤ r.length + 1 ∧ ((ls = [] ∧ r = rc ∧ rc.length + 1 < gk) ∨ (ls ≠ [] ∧ rc.length < gk ∧ seqL item sep r = contL item sep ls rc)))
 case atStart => exact ⟨none, 0, [], r, rfl, H0.out, OwnE.nil _ _ _ _ _, by simp, .inl ⟨rfl, rfl, by omega⟩⟩
 case round =>
  obtain ⟨A, cap, ls, rc, rfl, hL, hO, hlen, hcase0⟩ := hrel
  have hrc := hL.2.2
  rcases id hcase0 with ⟨rfl, rfl, hg⟩ | ⟨hne, hg, heq⟩
  ·
   have hvc := hI.out r wr hL.2.1 (by unfold limP; omega) (HE.out.eff hL.1 hBp)
   have hzW := hL.1.size
   cases ho : item r with
   | none =>
    rw [ho] at hvc
    have HQ := Lib.hid (show seqL item sep r = none from seqL_none ho)
    have HL := Lib.hid hL
    clear hO hL hcase0
    go_wp2_with fail
    refine hvc.mono ?_
    rintro e w3 ⟨a, i, s, A1, n1, c1, A2, n2, c2, A3, n3, c3, A4, n4, c4, q, rfl, hL3, hres⟩
    clear hvc hres
    have HX := Lib.hid ((HL.out.trans hL3).below ((Below.refl _ _).alloc (Nat.le_refl _) (.cells #[.int .i64 a, .int .i64 i, .string s, .slice A1 n1 c1, .slice A2 n2 c2, .slice A3 n3 c3, .slice A4 n4 c4] 27)))
    clear hL3
    go_wp2
    refine bodyPost_ret (v := .tuple #[.slice none 0 0, .bool false]) (by simp [results, Tryz.results125, go_sem]) rfl ?_
    exact ⟨none, 0, 0, q, [], by rw [HQ.out]; rfl, HX.out, ⟨rfl, by omega, OwnE.nil _ _ _ _ _⟩, fun l t h => by rw [HQ.out] at h; cases h⟩
   | some vt =>
    obtain ⟨v, t⟩ := vt
    rw [ho] at hvc
    have HL := Lib.hid hL
    have HO := Lib.hid hO
    have HLL := Lib.hid hlen
    clear hO hL hcase0 hlen
    go_wp2_with fail
    refine hvc.mono ?_
    rintro e w3 ⟨a, i, s, A1, n1, c1, A2, n2, c2, A3, n3, c3, A4, n4, c4, q, rfl, hL3, hres⟩
    obtain ⟨rfl, hvb⟩ := hres _ _ rfl
    clear hvc hres
    have hl3 := hL3.2.2
    have HQ := Lib.hid (show seqL item sep r = contL item sep ([] ++ [v]) q from seqL_step ho hl3 hsep)
    have hO3 := HO.out.eff hL3.1 hp0
    have hblk := HO.out.blk5
    have hz3 := hL3.1.size
    have hLa := HL.out.trans hL3
    have hbx : Below w3.heap.size w3 (w3.alloc (.cells #[.int .i64 a, .int .i64 i, .string s, .slice A1 n1 c1, .slice A2 n2 c2, .slice A3 n3 c3, .slice A4 n4 c4] 27)) := (Below.refl _ _).alloc (Nat.le_refl _) _
    have hO4 := hO3.old hbx
    have hLb := hLa.below hbx
    have hvb4 : (elV k).E v (w3.alloc (.cells #[.int .i64 a, .int .i64 i, .string s, .slice A1 n1 c1, .slice A2 n2 c2, .slice A3 n3 c3, .slice A4 n4 c4] 27)) (fun b => w.heap.size ≤ b ∧ b < (w3.alloc (.cells #[.int .i64 a, .int .i64 i, .string s, .slice A1 n1 c1, .slice A2 n2 c2, .slice A3 n3 c3, .slice A4 n4 c4] 27)).heap.size ∧ some b ≠ (Value.slice A ([] : List Vl).length cap).ownBlock) [.int .i64 a, .int .i64 i, .string s, .slice A1 n1 c1, .slice A2 n2 c2, .slice A3 n3 c3, .slice A4 n4 c4] := ((elV k).sub (fun b hb => ⟨by have := hb.1; omega, by have := hb.2; simp; omega, fun e => by have := hblk b e.symm; have := hb.1; omega⟩) ((elV k).keep (Same.of_below hbx fun b hb => hb.2) hvb))
    have hll := HLL.out
    have hz4 : w.heap.size ≤ (w3.alloc (.cells #[.int .i64 a, .int .i64 i, .string s, .slice A1 n1 c1, .slice A2 n2 c2, .slice A3 n3 c3, .slice A4 n4 c4] 27)).heap.size := by simp; omega
    have HLB := Lib.hid hLb
    have HG := Lib.hid (And.intro hg hl3)
    clear hLb hLa hL3 hO3 hbx hvb hg ho
    obtain ⟨V, hV⟩ : ∃ V, V = w3.alloc (.cells #[.int .i64 a, .int .i64 i, .string s, .slice A1 n1 c1, .slice A2 n2 c2, .slice A3 n3 c3, .slice A4 n4 c4] 27) := ⟨_, rfl⟩
    go_wp2_with (at_builtin; refine wp_app_V5 rfl _ _ rfl k w.heap.size (.slice A ([] : List Vl).length cap) [] rfl hO4 v _ 1 (w3.heap.size + 1) (by simp) rfl _ rfl hvb4 rfl (elV_one k v _ _ _ hvb4) (by omega) hz4 ?_; intro g2 cap2 w4 ho4 hb4; refine Hid.out ?_)
    refine Lib.hid ?_
    have HO4 := Lib.hid ho4
    have HL4 := Lib.hid (show Left p q r d w w4 from ⟨HLB.out.1.grow hb4 hp0, HLB.out.2.1.below hb4 hp0, HLB.out.2.2⟩)
    clear ho4 hb4 hvb4 hO4
    go_wp2_with fail
    go_roundg (q.length + 1)
    case measure => have := HG.out.1; have := HG.out.2; omega
    case rel =>
     have := HG.out.2
     have hll := HLL.out
     exact ⟨some ⟨g2, 0, none⟩, cap2, [] ++ [v], q, by rw [List.length_append]; rfl, HL4.out, by rw [List.length_append]; exact HO4.out, by rw [List.length_append]; simp only [List.length_singleton, List.length_nil]; simp at hll; omega, .inr ⟨by simp, by omega, HQ.out⟩⟩
  ·
   have hpos := List.length_pos_iff.2 hne
   cases hcut : cutP sep rc with
   | none =>
    have hac := accept_no p rc sep d wr hL.2.1 hcut
    have HQ := Lib.hid (heq.trans (contL_end ls hcut))
    have HL := Lib.hid hL
    have HO := Lib.hid hO
    clear hL hO hcase0 heq
    generalize hln : ls.length = m at *
    have HLN := Lib.hid hln
    have HGS := Lib.hid hg
    clear hln hg
    have k1 : ¬ (m : Int) = 0 := by omega
    go_wp2_with fail
    refine hac.mono ?_
    rintro e w1 ⟨rfl, hL1, hs1⟩
    clear hac
    have HL1 := Lib.hid hL1
    have HS1 := Lib.hid hs1
    clear hL1 hs1
    go_wp2
    refine bodyPost_ret (v := .tuple #[.slice A m cap, .bool true]) (by simp [results, Tryz.results125, go_sem]) rfl ?_
    refine ⟨A, m, cap, rc, ls, by rw [HQ.out]; rfl, HL.out.trans HL1.out, ⟨HLN.out.symm, by omega, HO.out.eff HL1.out.1 hp0⟩, fun l t h => ?_⟩
    rw [HQ.out] at h
    simp only [Option.some.injEq, Prod.mk.injEq] at h
    obtain ⟨rfl, rfl⟩ := h
    exact ⟨rfl, rfl⟩
   | some r' =>
    have hac := accept_yes p rc sep r' d wr hL.2.1 hcut
    have hcl := cutP_len hcut
    have k1 : ¬ (ls.length : Int) = 0 := by omega
    have HL0 := Lib.hid hL
    have HO0 := Lib.hid hO
    have HQ0 := Lib.hid (And.intro heq (And.intro hcut hlen))
    have HG0 := Lib.hid hg
    clear hL hO hcase0 heq hcut hlen hg
    go_wp2_with fail
    refine hac.mono ?_
    rintro e w1 ⟨rfl, hL1, hs1⟩
    clear hac hs1
    have hL := HL0.out.trans hL1
    have hO := HO0.out.eff hL1.1 hp0
    obtain ⟨heq, hcut, hlen⟩ := HQ0.out
    have hg := HG0.out
    have hvc := hI.out r' w1 hL.2.1 (by unfold limP; omega) (HE.out.eff hL.1 hBp)
    clear hL1
    have hcase0 := True.intro
    have hzW := hL.1.size
    cases ho : item r' with
    | none =>
     rw [ho] at hvc
     have HQ := Lib.hid (show seqL item sep r = none from (heq.trans (contL_fail ls hcut ho)))
     have HL := Lib.hid hL
     clear hO hL hcase0
     go_wp2_with fail
     refine hvc.mono ?_
     rintro e w3 ⟨a, i, s, A1, n1, c1, A2, n2, c2, A3, n3, c3, A4, n4, c4, q, rfl, hL3, hres⟩
     clear hvc hres
     have HX := Lib.hid ((HL.out.trans hL3).below ((Below.refl _ _).alloc (Nat.le_refl _) (.cells #[.int .i64 a, .int .i64 i, .string s, .slice A1 n1 c1, .slice A2 n2 c2, .slice A3 n3 c3, .slice A4 n4 c4] 27)))
     clear hL3
     go_wp2
     refine bodyPost_ret (v := .tuple #[.slice none 0 0, .bool false]) (by simp [results, Tryz.results125, go_sem]) rfl ?_
     exact ⟨none, 0, 0, q, [], by rw [HQ.out]; rfl, HX.out, ⟨rfl, by omega, OwnE.nil _ _ _ _ _⟩, fun l t h => by rw [HQ.out] at h; cases h⟩
    | some vt =>
     obtain ⟨v, t⟩ := vt
     rw [ho] at hvc
     have HL := Lib.hid hL
     have HO := Lib.hid hO
     have HLL := Lib.hid hlen
     clear hO hL hcase0 hlen
     go_wp2_with fail
     refine hvc.mono ?_
     rintro e w3 ⟨a, i, s, A1, n1, c1, A2, n2, c2, A3, n3, c3, A4, n4, c4, q, rfl, hL3, hres⟩
     obtain ⟨rfl, hvb⟩ := hres _ _ rfl
     clear hvc hres
     have hl3 := hL3.2.2
     have HQ := Lib.hid (show seqL item sep r = contL item sep (ls ++ [v]) q from (heq.trans (contL_more ls hcut ho hl3 hsep)))
     have hO3 := HO.out.eff hL3.1 hp0
     have hblk := HO.out.blk5
     have hz3 := hL3.1.size
     have hLa := HL.out.trans hL3
     have hbx : Below w3.heap.size w3 (w3.alloc (.cells #[.int .i64 a, .int .i64 i, .string s, .slice A1 n1 c1, .slice A2 n2 c2, .slice A3 n3 c3, .slice A4 n4 c4] 27)) := (Below.refl _ _).alloc (Nat.le_refl _) _
     have hO4 := hO3.old hbx
     have hLb := hLa.below hbx
     have hvb4 : (elV k).E v (w3.alloc (.cells #[.int .i64 a, .int .i64 i, .string s, .slice A1 n1 c1, .slice A2 n2 c2, .slice A3 n3 c3, .slice A4 n4 c4] 27)) (fun b => w.heap.size ≤ b ∧ b < (w3.alloc (.cells #[.int .i64 a, .int .i64 i, .string s, .slice A1 n1 c1, .slice A2 n2 c2, .slice A3 n3 c3, .slice A4 n4 c4] 27)).heap.size ∧ some b ≠ (Value.slice A ls.length cap).ownBlock) [.int .i64 a, .int .i64 i, .string s, .slice A1 n1 c1, .slice A2 n2 c2, .slice A3 n3 c3, .slice A4 n4 c4] := ((elV k).sub (fun b hb => ⟨by have := hb.1; omega, by have := hb.2; simp; omega, fun e => by have := hblk b e.symm; have := hb.1; omega⟩) ((elV k).keep (Same.of_below hbx fun b hb => hb.2) hvb))
     have hll := HLL.out
     have hz4 : w.heap.size ≤ (w3.alloc (.cells #[.int .i64 a, .int .i64 i, .string s, .slice A1 n1 c1, .slice A2 n2 c2, .slice A3 n3 c3, .slice A4 n4 c4] 27)).heap.size := by simp; omega
     have HLB := Lib.hid hLb
     have HG := Lib.hid (And.intro hg hl3)
     clear hLb hLa hL3 hO3 hbx hvb hg ho
     obtain ⟨V, hV⟩ : ∃ V, V = w3.alloc (.cells #[.int .i64 a, .int .i64 i, .string s, .slice A1 n1 c1, .slice A2 n2 c2, .slice A3 n3 c3, .slice A4 n4 c4] 27) := ⟨_, rfl⟩
     go_wp2_with (at_builtin; refine wp_app_V5 rfl _ _ rfl k w.heap.size (.slice A ls.length cap) ls rfl hO4 v _ 1 (w3.heap.size + 1) (by simp) rfl _ rfl hvb4 rfl (elV_one k v _ _ _ hvb4) (by omega) hz4 ?_; intro g2 cap2 w4 ho4 hb4; refine Hid.out ?_)
     refine Lib.hid ?_
     have HO4 := Lib.hid ho4
     have HL4 := Lib.hid (show Left p q r d w w4 from ⟨HLB.out.1.grow hb4 hp0, HLB.out.2.1.below hb4 hp0, HLB.out.2.2⟩)
     clear ho4 hb4 hvb4 hO4
     go_wp2_with fail
     go_roundg (q.length + 1)
     case measure => have := HG.out.1; have := HG.out.2; have := cutP_len hcut; have := List.length_pos_iff.2 hsep; omega
     case rel =>
      have := HG.out.2
      have hll := HLL.out
      exact ⟨some ⟨g2, 0, none⟩, cap2, ls ++ [v], q, by rw [List.length_append]; rfl, HL4.out, by rw [List.length_append]; exact HO4.out, by rw [List.length_append]; simp only [List.length_singleton]; have := cutP_len hcut; have := List.length_pos_iff.2 hsep; omega, .inr ⟨by simp, by omega, HQ.out⟩⟩
end Go.Proofs.YtcjgaohblaidjaaGreatDoor
