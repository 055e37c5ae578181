/- Unlabel of the document: the value without labels; its keys are the argument's. -/
import Derived.Test.YtjfknigiehggkaaGreatVl05
import Derived.Test.YtjfknigiehggkaaGreatVl29
namespace Go.Proofs.YtjfknigiehggkaaGreat
open Go Go.RowKit
def elD {α : Type} (K : ElK α) (D : Nat → Prop) : ElK α := ⟨fun x w B cs => K.E x w (fun b => B b ∧ D b) cs, fun h h' => K.keep ⟨h.size, fun b i hB hl => h.cell b i hB.1 hl⟩ h', fun h h' => K.sub (fun b hb => ⟨h b hb.1, hb.2⟩) h'⟩
theorem OwnE.keptD {α : Type} {K : ElK α} {D : Nat → Prop} {e : TypeId} {c : Nat} {w w' : World} {v : Value} {l : List α} (h : OwnE (elD K D) e c w 0 v l) (hs : w.heap.size ≤ w'.heap.size)
    (hD : ∀ b, D b → b < w.heap.size → some b ≠ v.ownBlock → w'.heap[b]? = w.heap[b]?) (hg : ∀ g, v.ownBlock = some g → w'.heap[g]? = w.heap[g]?) : OwnE (elD K D) e c w' 0 v l := by
  obtain ⟨xs, ho, hx⟩ := h
  refine ⟨xs, ⟨ho.1, ?_⟩, fun j x hj => K.sub (fun b hb => ⟨⟨hb.1.1, by have := hb.1.2.1; omega, hb.1.2.2⟩, hb.2⟩) (K.keep ⟨hs, fun b i hB hl => World.cell?_of_block (hD b hB.2 hl hB.1.2.2)⟩ (hx j x hj))⟩
  rcases ho.2 with hn | ⟨g, cap, cur, rfl, hB, hg', rest⟩
  · exact .inl hn
  · exact .inr ⟨g, cap, cur, rfl, hB, (hg g rfl).trans hg', rest⟩
theorem OwnE.rowD {α : Type} {K : ElK α} {D : Nat → Prop} {e : TypeId} {c : Nat} {w : World} {v : Value} {l : List α} (h : OwnE (elD K D) e c w 0 v l) (hD : ∀ g, v.ownBlock = some g → D g) (hc : 0 < c) (hn : l.length ≤ maxLen) :
    RowB w (fun b => D b ∧ b < w.heap.size) c v l.length (fun j cs => ∃ x, l[j]? = some x ∧ K.E x w (fun b => D b ∧ b < w.heap.size) cs) := by
  obtain ⟨xs, ho, hx⟩ := h
  exact row_of_owns ho hn (fun g hg _ h2 => ⟨hD g hg, h2⟩) (fun j hj => ⟨l[j], List.getElem?_eq_getElem hj, K.sub (fun b hb => ⟨hb.2, hb.1.2.1⟩) (hx j _ (List.getElem?_eq_getElem hj))⟩) hc
theorem below_own {lo : Nat} {w0 w' : World} {v : Value} (hb : Below 0 w0 w') (hk : ∀ b, b < w0.heap.size → some b ≠ v.ownBlock → w'.heap[b]? = w0.heap[b]?) (hv : ∀ g, v.ownBlock = some g → lo ≤ g) (hlo : lo ≤ w0.heap.size) : Below lo w0 w' :=
  ⟨hb.os, hb.tape, hb.output, hb.size, fun b h => hk b (by omega) (fun e => by have := hv b e.symm; omega)⟩
theorem own_app {lo H g n c : Nat} {v : Value} (h : v.ownBlock = some g ∨ H ≤ g) (hv : ∀ g, v.ownBlock = some g → lo ≤ g) (hlo : lo ≤ H) : ∀ g', (Value.slice (some ⟨g, 0, none⟩) n c).ownBlock = some g' → lo ≤ g' := by
  intro g' e
  simp [Value.ownBlock] at e
  subst e
  rcases h with h | h
  · exact hv _ h
  · omega
theorem take_map_step {α β : Type} {f : α → β} {l : List α} {j : Nat} {x : α} (h : l[j]? = some x) : (l.take j).map f ++ [f x] = (l.take (j + 1)).map f := by
  rw [List.take_add_one, h, List.map_append]
  rfl
theorem take_map_all {α β : Type} {f : α → β} {l : List α} {j : Nat} (h : ¬ j < l.length) : (l.take j).map f = l.map f := by
  rw [List.take_of_length_le (by omega)]
theorem wp_appg_e {ops : Array Oper} {rest : List Oper} {o : Oper} {a : Act} {Q : Exit → Act → World → Prop} {w0 : World} (K : ElK En) (hgd : o.guard = none) (s x : Operand)
    (ho : o.op = .call { callee := .builtin .append, args := #[s, x], argTypes := #[24, 24] }) (base : Nat) (v : Value) (l : List En) (hs : a.eval s = v) (hown : OwnE K 55 9 w0 base v l)
    (y : En) (cs : List Value) (cap1 : Nat) (H : Nat) (hH : w0.heap.size = H) (hx : a.eval x = .slice (some ⟨H, 0, none⟩) 1 cap1) (cells : Array Value) (hcells : cells = cs.toArray)
    (hy : K.E y w0 (fun b => base ≤ b ∧ b < w0.heap.size ∧ some b ≠ v.ownBlock) cs) (hcs : cs.length = 9) (h1c : ∀ u ∈ cs, u.oneCell' = true) (hn : l.length ≤ 300000000) (hbase : base ≤ w0.heap.size)
    (h : ∀ g cap w', OwnE K 55 9 w' base (.slice (some ⟨g, 0, none⟩) (l.length + 1) cap) (l ++ [y]) → Below base w0 w' → (∀ b, b < w0.heap.size → some b ≠ v.ownBlock → w'.heap[b]? = w0.heap[b]?) → (v.ownBlock = some g ∨ H ≤ g) → wpList Tryz.prog ops Q rest (a.put o.dst (.slice (some ⟨g, 0, none⟩) (l.length + 1) cap)) w') :
    wpList Tryz.prog ops Q (o :: rest) a (w0.alloc (.cells cells 55)) := by
  subst hcells
  obtain ⟨i0, hi, hz0, hz1, hz2⟩ := info_parts Tryz.infoE
  obtain ⟨g, cap, w', h1, h2, h3, h4, h5⟩ := app_one K 24 o.type 55 i0 (.agg #[.slice none 0 0, .bool false, .int .i64 0, .int .i64 0, .string ⟨#[]⟩, .slice none 0 0, .slice none 0 0, .slice none 0 0, .slice none 0 0]) 9 160 Tryz.underlying24 hi hz0 hz1 hz2 rfl (by decide) (by decide) w0 base v l hown y cs hy hcs h1c hn hbase H hH cap1
  exact Lib.wpList_append_run _ hgd s x 24 24 ho v _ hs hx _ w' h1 (h g cap w' h2 h3 h4 h5)
theorem cells9 {w : World} {g : Nat} {e : TypeId} {z0 z1 z2 z3 z4 z5 z6 z7 z8 : Value} (h : w.heap[g]? = some (.cells #[z0, z1, z2, z3, z4, z5, z6, z7, z8] e (0, 0))) : w.cell? ⟨g, 0, none⟩ = some z0 ∧ w.cell? ⟨g, 1, none⟩ = some z1 ∧ w.cell? ⟨g, 2, none⟩ = some z2 ∧ w.cell? ⟨g, 3, none⟩ = some z3 ∧ w.cell? ⟨g, 4, none⟩ = some z4 ∧ w.cell? ⟨g, 5, none⟩ = some z5 ∧ w.cell? ⟨g, 6, none⟩ = some z6 ∧ w.cell? ⟨g, 7, none⟩ = some z7 ∧ w.cell? ⟨g, 8, none⟩ = some z8 :=
  ⟨(Lib.cell_of_heap h 0).trans rfl, (Lib.cell_of_heap h 1).trans rfl, (Lib.cell_of_heap h 2).trans rfl, (Lib.cell_of_heap h 3).trans rfl, (Lib.cell_of_heap h 4).trans rfl, (Lib.cell_of_heap h 5).trans rfl, (Lib.cell_of_heap h 6).trans rfl, (Lib.cell_of_heap h 7).trans rfl, (Lib.cell_of_heap h 8).trans rfl⟩
theorem frozen9 {w : World} {g : Nat} {e : TypeId} {z0 z1 z2 z3 z4 z5 z6 z7 z8 : Value} (h : w.heap[g]? = some (.cells #[z0, z1, z2, z3, z4, z5, z6, z7, z8] e (0, 0))) : w.frozen? ⟨g, 0, none⟩ = false ∧ w.frozen? ⟨g, 1, none⟩ = false ∧ w.frozen? ⟨g, 2, none⟩ = false ∧ w.frozen? ⟨g, 3, none⟩ = false ∧ w.frozen? ⟨g, 4, none⟩ = false ∧ w.frozen? ⟨g, 5, none⟩ = false ∧ w.frozen? ⟨g, 6, none⟩ = false ∧ w.frozen? ⟨g, 7, none⟩ = false ∧ w.frozen? ⟨g, 8, none⟩ = false :=
  ⟨Lib.frozen_of_heap h 0, Lib.frozen_of_heap h 1, Lib.frozen_of_heap h 2, Lib.frozen_of_heap h 3, Lib.frozen_of_heap h 4, Lib.frozen_of_heap h 5, Lib.frozen_of_heap h 6, Lib.frozen_of_heap h 7, Lib.frozen_of_heap h 8⟩
/-- a block that neither the row nor its elements touch may turn: the elements' blocks are those of the world as it was but for be -/
theorem OwnE.keptX {α : Type} {K : ElK α} {D : Nat → Prop} {e : TypeId} {c be : Nat} {w w' : World} {v : Value} {l : List α} (h : OwnE (elD K fun b => D b ∧ b ≠ be) e c w 0 v l) (hs : w.heap.size ≤ w'.heap.size)
    (hD : ∀ b, b ≠ be → b < w.heap.size → w'.heap[b]? = w.heap[b]?) (hg : ∀ g, v.ownBlock = some g → g ≠ be) : OwnE (elD K D) e c w' 0 v l := by
  have h2 := OwnE.keptD h hs (fun b hb hl _ => hD b hb.2 hl) (fun g hg' => hD g (hg g hg') (h.blk g hg').2)
  obtain ⟨xs, ho, hx⟩ := h2
  exact ⟨xs, ho, fun j x hj => K.sub (fun b hb => ⟨hb.1, hb.2.1⟩) (hx j x hj)⟩
/-- .. and the elements of a row lie in blocks of its own world -/
theorem OwnE.toX {α : Type} {K : ElK α} {D : Nat → Prop} {e : TypeId} {c be : Nat} {w w' : World} {v : Value} {l : List α} (h : OwnE (elD K D) e c w 0 v l) (hs : w.heap.size ≤ w'.heap.size)
    (hD : ∀ b, D b → b < w.heap.size → some b ≠ v.ownBlock → w'.heap[b]? = w.heap[b]?) (hg : ∀ g, v.ownBlock = some g → w'.heap[g]? = w.heap[g]?) (hbe : w.heap.size ≤ be) : OwnE (elD K fun b => D b ∧ b ≠ be) e c w' 0 v l := by
  obtain ⟨xs, ho, hx⟩ := h
  refine ⟨xs, ⟨ho.1, ?_⟩, fun j x hj => K.sub (fun b hb => ⟨⟨hb.1.1, by have := hb.1.2.1; omega, hb.1.2.2⟩, hb.2, by have := hb.1.2.1; omega⟩) (K.keep ⟨hs, fun b i hB hl => World.cell?_of_block (hD b hB.2 hl hB.1.2.2)⟩ (hx j x hj))⟩
  rcases ho.2 with hn | ⟨g, cap, cur, rfl, hB, hg', rest⟩
  · exact .inl hn
  · exact .inr ⟨g, cap, cur, rfl, hB, (hg g rfl).trans hg', rest⟩
set_option maxRecDepth 100000 in
set_option maxHeartbeats 12800000 in
theorem refUnl_any : ∀ (k : Nat) (v : Vl) (cs : List Value) (H0 : Nat) (w : World), H0 ≤ w.heap.size → VB k w (fun b => b < H0) v cs → sml v → Calls Tryz.prog 36 #[.agg cs.toArray] w fun e w' => ∃ cs', e = .returned (.agg cs'.toArray) ∧ VB k w' (fun b => b < H0 ∨ Btw w.heap.size w'.heap.size b) (unl v) cs' ∧ Below w.heap.size w w' := by
  intro k
  induction k with
  | zero => intro v cs H0 w _ h; exact h.elim
  | succ k ih =>
    intro v cs H0 w hH h hs
    have IH := Lib.hid ih
    clear ih
    obtain ⟨kd, it, tx, kids, keys, ents, labs⟩ := v
    unfold sml at hs
    obtain ⟨sk, sy, se, sl, ssk, sse⟩ := hs
    obtain ⟨uk, uy, ue, ul, rfl, wf1, wf2, wf3, hk, hy, he, hl⟩ := h
    obtain ⟨A, c, rfl, _⟩ := hk.form
    obtain ⟨Y, cy, rfl, _⟩ := hy.form
    obtain ⟨E, ce, rfl, _⟩ := he.form
    obtain ⟨L, cl, rfl, _⟩ := hl.form
    have HWF := Lib.hid (And.intro wf1 (And.intro wf2 wf3))
    have HSK := Lib.hid (And.intro sk (And.intro (smlVs_iff.1 ssk) (And.intro se (smlEs_iff.1 sse))))
    have HRK := Lib.hid hk
    have HRY := Lib.hid hy
    have HRE := Lib.hid he
    have HH0 := Lib.hid hH
    clear hk hy he hl wf1 wf2 wf3 sk sy se sl ssk sse hH
    obtain ⟨W1, hW1⟩ : ∃ W1, W1 = (w.alloc (.cells #[.int .i64 kd, .int .i64 it, .string ⟨tx.toArray⟩, .slice A kids.length c, .slice Y keys.length cy, .slice E ents.length ce, .slice none 0 0] 27)).alloc (.cells #[.int .i64 0, .int .i64 0, .string ⟨#[]⟩, .slice none 0 0, .slice none 0 0, .slice none 0 0, .slice none 0 0] 27) := ⟨_, rfl⟩
    have hb : Below w.heap.size w W1 := by rw [hW1]; exact ((Below.refl _ _).alloc (Nat.le_refl _) _).alloc (by simp) _
    have hz1 : W1.heap.size = w.heap.size + 2 := by rw [hW1]; simp
    have b1 : W1.heap[w.heap.size]? = some (.cells #[.int .i64 kd, .int .i64 it, .string ⟨tx.toArray⟩, .slice A kids.length c, .slice Y keys.length cy, .slice E ents.length ce, .slice none 0 0] 27 (0, 0)) := by
      rw [hW1, Below.heap_alloc _ _ _ (by simp)]
      exact heap_alloc_new w _
    have g1 : W1.heap[w.heap.size + 1]? = some (.cells #[.int .i64 0, .int .i64 0, .string ⟨#[]⟩, .slice none 0 0, .slice none 0 0, .slice none 0 0, .slice none 0 0] 27 (0, 0)) := by
      rw [hW1]
      exact new_at' _ (by simp)
    have HZ := Lib.hid hz1
    have HBW : Hid (Below w.heap.size w W1) := Lib.hid hb
    have HBOX : Hid (∀ V, Below (w.heap.size + 2) W1 V → V.heap[w.heap.size]? = some (.cells #[.int .i64 kd, .int .i64 it, .string ⟨tx.toArray⟩, .slice A kids.length c, .slice Y keys.length cy, .slice E ents.length ce, .slice none 0 0] 27 (0, 0)) ∧ V.heap[w.heap.size + 1]? = some (.cells #[.int .i64 0, .int .i64 0, .string ⟨#[]⟩, .slice none 0 0, .slice none 0 0, .slice none 0 0, .slice none 0 0] 27 (0, 0))) := Lib.hid fun V hV => ⟨(hV.block _ (by omega)).trans b1, (hV.block _ (by omega)).trans g1⟩
    clear b1 g1 hz1 hb
    go_enter Tryz.func36, Tryz.ntmps36
    go_wp2_with fail
    rw [← hW1]
    clear hW1
    go_loopw [3, 4] (fun v i wr => ∃ (j : Nat) (Ao : Option Addr) (cap : Nat) (out : List Vl), i = .int .i64 j ∧ j ≤ kids.length ∧ v = .slice Ao out.length cap ∧ Hid (out = (kids.take j).map unl ∧ OwnE (elD (elV k) (fun b => b < H0 ∨ w.heap.size + 2 ≤ b)) 27 7 wr 0 (.slice Ao out.length cap) out ∧ (∀ g, (Value.slice Ao out.length cap).ownBlock = some g → w.heap.size + 2 ≤ g) ∧ Below (w.heap.size + 2) W1 wr)) (fun _ i _ => kids.length - (intOf i).toNat)
    case atStart => exact ⟨0, none, 0, [], rfl, Nat.zero_le _, rfl, Lib.hid ⟨by simp, OwnE.nil _ _ _ _ _, by intro g hg; simp [Value.ownBlock] at hg, Below.refl _ _⟩⟩
    case round =>
      obtain ⟨j, Ao, cap, out, rfl, hj, rfl, HJ⟩ := hrel
      have hbr := HJ.out.2.2.2
      have hbwr : Below w.heap.size w wr := HBW.out.trans (hbr.mono (by omega))
      obtain ⟨bx, bz⟩ := HBOX.out wr hbr
      obtain ⟨e0, e1, e2, e3, e4, e5, e6⟩ := cells7 bx
      have hsz : w.heap.size + 2 ≤ wr.heap.size := by have := hbr.size; have := HZ.out; omega
      by_cases hjn : j < kids.length
      · obtain ⟨bk, ok, ck, t0, t1, t2, t3, t4, t5, t6, hu, hbk, ⟨x, hx, hv⟩, c0, c1, c2, c3, c4, c5, c6⟩ := RowB.at7 HRK.out hjn
        injection hu with hA hNN hcc
        subst hA
        clear hNN hcc
        have hbk' : bk < w.heap.size := Nat.lt_of_lt_of_le hbk HH0.out
        have x0 : wr.cell? ⟨bk, ok + j * 7, none⟩ = some t0 := (hbwr.cell (p := ⟨bk, _, none⟩) hbk').trans c0
        have x1 : wr.cell? ⟨bk, ok + j * 7 + 1, none⟩ = some t1 := (hbwr.cell (p := ⟨bk, _, none⟩) hbk').trans c1
        have x2 : wr.cell? ⟨bk, ok + j * 7 + 2, none⟩ = some t2 := (hbwr.cell (p := ⟨bk, _, none⟩) hbk').trans c2
        have x3 : wr.cell? ⟨bk, ok + j * 7 + 3, none⟩ = some t3 := (hbwr.cell (p := ⟨bk, _, none⟩) hbk').trans c3
        have x4 : wr.cell? ⟨bk, ok + j * 7 + 4, none⟩ = some t4 := (hbwr.cell (p := ⟨bk, _, none⟩) hbk').trans c4
        have x5 : wr.cell? ⟨bk, ok + j * 7 + 5, none⟩ = some t5 := (hbwr.cell (p := ⟨bk, _, none⟩) hbk').trans c5
        have x6 : wr.cell? ⟨bk, ok + j * 7 + 6, none⟩ = some t6 := (hbwr.cell (p := ⟨bk, _, none⟩) hbk').trans c6
        have hvr := VB.keep (Same.of_below hbwr (B := fun b => b < H0) fun b hb => Nat.lt_of_lt_of_le hb HH0.out) hv
        have hcall := IH.out x _ H0 wr (Nat.le_trans HH0.out hbwr.size) hvr (HSK.out.2.1 x (List.mem_of_getElem? hx))
        have HX := Lib.hid hx
        have HBR := Lib.hid (And.intro hbr hsz)
        have kn : (j : Int) < (kids.length : Int) := by omega
        have k0 : (0 : Int) ≤ (j : Int) := by omega
        clear c0 c1 c2 c3 c4 c5 c6 hv hx hvr hbr hbwr bz bx hbk hbk'
        go_wp2_with fail
        refine hcall.mono ?_
        rintro e w1 ⟨cs', rfl, hvb, hb1⟩
        obtain ⟨a', i', s', B1', n1', d1', B2', n2', d2', B3', n3', d3', B4', n4', d4', rfl⟩ := hvb.form7
        have hblk := HJ.out.2.1.blk
        have hO1 := OwnE.keptD HJ.out.2.1 hb1.size (fun b _ hl _ => hb1.block b hl) (fun g hg => hb1.block g (hblk g hg).2)
        have hown := HJ.out.2.2.1
        have hs1 := hb1.size
        have hy1 : (elD (elV k) (fun b => b < H0 ∨ w.heap.size + 2 ≤ b)).E (unl x) w1 (fun b => 0 ≤ b ∧ b < w1.heap.size ∧ some b ≠ (Value.slice Ao out.length cap).ownBlock) [.int .i64 a', .int .i64 i', .string s', .slice B1' n1' d1', .slice B2' n2' d2', .slice B3' n3' d3', .slice B4' n4' d4'] := VB.sub (fun b hb => by
          have h0 := HH0.out
          rcases hb with hb | hb
          · exact ⟨⟨Nat.zero_le _, by omega, fun e => by have := hown b e.symm; omega⟩, .inl hb⟩
          · exact ⟨⟨Nat.zero_le _, hb.2, fun e => by have := (hblk b e.symm).2; have := hb.1; omega⟩, .inr (by have := hb.1; omega)⟩) (Nat.le_refl _) hvb
        have hlen : out.length ≤ 300000000 := by
          have h1 := HSK.out.1
          rw [HJ.out.1, List.length_map, List.length_take]
          omega
        have hone := elV_one k _ _ _ _ hvb
        clear hcall e0 e1 e2 e3 e4 e5 e6 x0 x1 x2 x3 x4 x5 x6
        go_wp2_with (at_builtin; refine wp_appg_v (elD (elV k) (fun b => b < H0 ∨ w.heap.size + 2 ≤ b)) rfl _ _ rfl 0 (.slice Ao out.length cap) out rfl hO1 (unl x) _ 1 _ rfl rfl _ rfl hy1 rfl hone hlen (Nat.zero_le _) ?_; intro g cap' w4 ho4 hb4 hk4 hg4; refine Hid.out ?_)
        refine Lib.hid ?_
        have HR := Lib.hid (And.intro ho4 (And.intro (below_own hb4 hk4 hown (by omega : w.heap.size + 2 ≤ w1.heap.size)) (own_app (n := out.length + 1) (c := cap') hg4 hown (by omega : w.heap.size + 2 ≤ w1.heap.size))))
        have hw : IntKind.i64.wrap ((j : Int) + 1) = (j : Int) + 1 := IntWalk.i64_in _ (by have := HSK.out.1; omega)
        have HB1 := Lib.hid hb1
        clear ho4 hb4 hk4 hg4 hO1 hy1 hone hlen hown hblk hvb hb1
        go_wp2_with fail
        go_roundw
        case rel =>
          obtain ⟨r1, r2, r3⟩ := HR.out
          refine ⟨j + 1, some ⟨g, 0, none⟩, cap', out ++ [unl x], by go_num, by omega, by rw [List.length_append]; rfl, Lib.hid ⟨?_, ?_, ?_, ?_⟩⟩
          · rw [HJ.out.1]; exact take_map_step HX.out
          · rw [List.length_append]; exact r1
          · rw [List.length_append]; exact r3
          · exact HBR.out.1.trans ((HB1.out.mono HBR.out.2).trans r2)
        case measure => simp [intOf]; try omega
      · have kn : ¬ (j : Int) < (kids.length : Int) := by omega
        have z3 := (frozen7 bx).2.2.2.1
        have hout : out = kids.map unl := by rw [HJ.out.1, take_map_all hjn]
        obtain ⟨U, hU⟩ : ∃ U, U = wr.setCell ⟨w.heap.size, 3, none⟩ (.slice Ao out.length cap) := ⟨_, rfl⟩
        have hzU : U.heap.size = wr.heap.size := by rw [hU]; simp
        have bU : U.heap[w.heap.size]? = some (.cells #[.int .i64 kd, .int .i64 it, .string ⟨tx.toArray⟩, .slice Ao out.length cap, .slice Y keys.length cy, .slice E ents.length ce, .slice none 0 0] 27 (0, 0)) := by rw [hU]; simpa using heap_setCell_same _ _ 3 _ _ (.slice Ao out.length cap) bx
        have gU : U.heap[w.heap.size + 1]? = some (.cells #[.int .i64 0, .int .i64 0, .string ⟨#[]⟩, .slice none 0 0, .slice none 0 0, .slice none 0 0, .slice none 0 0] 27 (0, 0)) := by rw [hU, heap_setCell_other _ _ _ _ (by simp)]; exact bz
        have hmx : out.length ≤ maxLen := by
          have h1 := HSK.out.1
          rw [hout, List.length_map]
          unfold maxLen
          omega
        have HKR : Hid (RowB U (fun b => b < H0 ∨ Btw (w.heap.size + 2) U.heap.size b) 7 (.slice Ao out.length cap) out.length (fun j cs => ∃ x, out[j]? = some x ∧ VB k U (fun b => b < H0 ∨ Btw (w.heap.size + 2) U.heap.size b) x cs)) := Lib.hid (by
          have h1 := OwnE.rowD HJ.out.2.1 (fun g hg => .inr (HJ.out.2.2.1 g hg)) (by omega) hmx
          have h0 := HH0.out
          have hsm : Same (fun b => (b < H0 ∨ w.heap.size + 2 ≤ b) ∧ b < wr.heap.size) wr U := by rw [hU]; exact same_setCell (Same.refl _ _) (fun h => by rcases h.1 with h | h <;> omega)
          have hsub : ∀ b, ((b < H0 ∨ w.heap.size + 2 ≤ b) ∧ b < wr.heap.size) → (b < H0 ∨ Btw (w.heap.size + 2) U.heap.size b) := fun b hb => by
            rcases hb.1 with h | h
            · exact .inl h
            · exact .inr ⟨by omega, by have := hb.2; omega⟩
          exact (h1.keep hsm fun _ _ h => h).sub hsub fun j cs ⟨x, hx, hv⟩ => ⟨x, hx, VB.sub hsub (Nat.le_refl _) (VB.keep hsm hv)⟩)
        have HBU : Hid (Below w.heap.size w U ∧ w.heap.size + 2 ≤ U.heap.size) := Lib.hid ⟨by rw [hU]; exact hbwr.setCell (p := ⟨w.heap.size, 3, none⟩) (Nat.le_refl _) _, by omega⟩
        have HBOX2 : Hid (∀ V : World, (∀ b, b < w.heap.size + 2 → V.heap[b]? = U.heap[b]?) → V.heap[w.heap.size]? = some (.cells #[.int .i64 kd, .int .i64 it, .string ⟨tx.toArray⟩, .slice Ao out.length cap, .slice Y keys.length cy, .slice E ents.length ce, .slice none 0 0] 27 (0, 0)) ∧ V.heap[w.heap.size + 1]? = some (.cells #[.int .i64 0, .int .i64 0, .string ⟨#[]⟩, .slice none 0 0, .slice none 0 0, .slice none 0 0, .slice none 0 0] 27 (0, 0))) := Lib.hid fun V hV => ⟨(hV _ (by omega)).trans bU, (hV _ (by omega)).trans gU⟩
        have HOUT := Lib.hid hout
        clear hbr hbwr hsz hzU bU gU hmx hout bz bx
        go_wp2_with fail
        rw [← hU]
        clear hU e0 e1 e2 e3 e4 e5 e6 z3 kn HJ HBOX HBW HZ
        clear wr
        go_loopw [5, 6] (fun v i wr => ∃ (j : Nat) (A2 : Option Addr) (c2 : Nat) (out2 : List En), i = .int .i64 j ∧ j ≤ ents.length ∧ v = .slice A2 out2.length c2 ∧ Hid (out2 = (ents.take j).map unlE ∧ OwnE (elD (elE k) (fun b => b < H0 ∨ U.heap.size ≤ b)) 55 9 wr 0 (.slice A2 out2.length c2) out2 ∧ (∀ g, (Value.slice A2 out2.length c2).ownBlock = some g → U.heap.size ≤ g) ∧ Below U.heap.size U wr)) (fun _ i _ => ents.length - (intOf i).toNat)
        case atStart => exact ⟨0, none, 0, [], rfl, Nat.zero_le _, rfl, Lib.hid ⟨by simp, OwnE.nil _ _ _ _ _, by intro g hg; simp [Value.ownBlock] at hg, Below.refl _ _⟩⟩
        case round =>
          obtain ⟨j2, A2, c2, out2, rfl, hj2, rfl, HJ⟩ := hrel
          have hbr := HJ.out.2.2.2
          have hbwr : Below w.heap.size w wr := HBU.out.1.trans (hbr.mono HBU.out.1.size)
          obtain ⟨bx, bz⟩ := HBOX2.out wr fun b hb => hbr.block b (by have := HBU.out.2; omega)
          obtain ⟨e0, e1, e2, e3, e4, e5, e6⟩ := cells7 bx
          have hsz : w.heap.size + 2 ≤ wr.heap.size := by have := hbr.size; have := HBU.out.2; omega
          by_cases hjn2 : j2 < ents.length
          · obtain ⟨bo, oe, ce', v0, v1, t0, t1, t2, t3, t4, t5, t6, hu, hbo, hR, c0, c1, c2', c3, c4, c5, c6, c7, c8⟩ := RowB.at9 HRE.out hjn2
            injection hu with hA hNN hcc
            subst hA
            clear hNN hcc
            obtain ⟨args, fl, r, hx, ua, rs, hcs, hra, hvr⟩ := hR
            simp only [List.cons.injEq] at hcs
            obtain ⟨rfl, rfl, rfl⟩ := hcs
            obtain ⟨RA, rc, rfl, _⟩ := hra.form
            obtain ⟨a, i, s, B1, n1, d1, B2, n2, d2, B3, n3, d3, B4, n4, d4, hf⟩ := hvr.form7
            simp only [List.cons.injEq, and_true] at hf
            obtain ⟨rfl, rfl, rfl, rfl, rfl, rfl, rfl⟩ := hf
            have hbo' : bo < w.heap.size := Nat.lt_of_lt_of_le hbo HH0.out
            have hse := HSK.out.2.2.2 _ (List.mem_of_getElem? hx)
            unfold smlE at hse
            have HX := Lib.hid (And.intro hx (And.intro hra (And.intro hse.1 (smlVs_iff.1 hse.2.1))))
            have HS : Hid (∀ V, Below U.heap.size U V → V.cell? ⟨w.heap.size, 5, none⟩ = some (.slice (some ⟨bo, oe, none⟩) ents.length ce) ∧ V.cell? ⟨bo, oe + j2 * 9 + 1, none⟩ = some (.bool fl) ∧ V.cell? ⟨bo, oe + j2 * 9 + 2, none⟩ = some (.int .i64 a) ∧ V.cell? ⟨bo, oe + j2 * 9 + 3, none⟩ = some (.int .i64 i) ∧ V.cell? ⟨bo, oe + j2 * 9 + 4, none⟩ = some (.string s) ∧ V.cell? ⟨bo, oe + j2 * 9 + 5, none⟩ = some (.slice B1 n1 d1) ∧ V.cell? ⟨bo, oe + j2 * 9 + 6, none⟩ = some (.slice B2 n2 d2) ∧ V.cell? ⟨bo, oe + j2 * 9 + 7, none⟩ = some (.slice B3 n3 d3) ∧ V.cell? ⟨bo, oe + j2 * 9 + 8, none⟩ = some (.slice B4 n4 d4)) := Lib.hid fun V hV => by
              have hq : Below w.heap.size w V := HBU.out.1.trans (hV.mono HBU.out.1.size)
              exact ⟨(cells7 (HBOX2.out V fun b hb => hV.block b (by have := HBU.out.2; omega)).1).2.2.2.2.2.1, (hq.cell (p := ⟨bo, _, none⟩) hbo').trans c1, (hq.cell (p := ⟨bo, _, none⟩) hbo').trans c2', (hq.cell (p := ⟨bo, _, none⟩) hbo').trans c3, (hq.cell (p := ⟨bo, _, none⟩) hbo').trans c4, (hq.cell (p := ⟨bo, _, none⟩) hbo').trans c5, (hq.cell (p := ⟨bo, _, none⟩) hbo').trans c6, (hq.cell (p := ⟨bo, _, none⟩) hbo').trans c7, (hq.cell (p := ⟨bo, _, none⟩) hbo').trans c8⟩
            have HS0 : Hid (∀ V, Below w.heap.size w V → V.cell? ⟨bo, oe + j2 * 9, none⟩ = some (.slice RA args.length rc)) := Lib.hid fun V hq => (hq.cell (p := ⟨bo, _, none⟩) hbo').trans c0
            have HCALL : Hid (∀ V, Below w.heap.size w V → Calls Tryz.prog 36 #[.agg #[.int .i64 a, .int .i64 i, .string s, .slice B1 n1 d1, .slice B2 n2 d2, .slice B3 n3 d3, .slice B4 n4 d4]] V fun e w' => ∃ cs', e = .returned (.agg cs'.toArray) ∧ VB k w' (fun b => b < H0 ∨ Btw V.heap.size w'.heap.size b) (unl r) cs' ∧ Below V.heap.size V w') := Lib.hid fun V hV => IH.out r _ H0 V (Nat.le_trans HH0.out hV.size) (VB.keep (Same.of_below hV (B := fun b => b < H0) fun b hb => Nat.lt_of_lt_of_le hb HH0.out) hvr) hse.2.2
            have HBR := Lib.hid (And.intro hbr (And.intro hbwr hsz))
            have HBO := Lib.hid hbo'
            have kn : (j2 : Int) < (ents.length : Int) := by omega
            have k0 : (0 : Int) ≤ (j2 : Int) := by omega
            clear c0 c1 c2' c3 c4 c5 c6 c7 c8 hvr hra hx hse hbr hbwr hbo hbo' bz bx hsz hjn2
            go_wp2_with fail
            clear e0 e1 e2 e3 e4 e5 e6
            apply share
            case h =>
              intro hfin
              have HFIN := Lib.hid hfin
              clear hfin
              refine wp_region_held_drew (S := fun V => V.cell? ⟨w.heap.size, 5, none⟩ = some (.slice (some ⟨bo, oe, none⟩) ents.length ce) ∧ V.cell? ⟨bo, oe + j2 * 9 + 1, none⟩ = some (.bool fl) ∧ V.cell? ⟨bo, oe + j2 * 9 + 2, none⟩ = some (.int .i64 a) ∧ V.cell? ⟨bo, oe + j2 * 9 + 3, none⟩ = some (.int .i64 i) ∧ V.cell? ⟨bo, oe + j2 * 9 + 4, none⟩ = some (.string s) ∧ V.cell? ⟨bo, oe + j2 * 9 + 5, none⟩ = some (.slice B1 n1 d1) ∧ V.cell? ⟨bo, oe + j2 * 9 + 6, none⟩ = some (.slice B2 n2 d2) ∧ V.cell? ⟨bo, oe + j2 * 9 + 7, none⟩ = some (.slice B3 n3 d3) ∧ V.cell? ⟨bo, oe + j2 * 9 + 8, none⟩ = some (.slice B4 n4 d4)) (by kernel_rfl) (HS.out _ HBR.out.1.drew) (fun _ => ?_)
              have hB9 : Below U.heap.size U wr.drew := HBR.out.1.drew
              have hW9 : Below w.heap.size w wr.drew := HBR.out.2.1.drew
              have hd : wr.drew.heap.size = wr.heap.size := rfl
              have hown := HJ.out.2.2.1
              have hblk := HJ.out.2.1.blk
              refine tk 0 (HS.out _ hB9) ?_
              try simp only [Act.put, pA, pB, pC]
              refine tk 1 (HS.out _ hB9) ?_
              try simp only [Act.put, pA, pB, pC]
              refine tk 2 (HS.out _ hB9) ?_
              try simp only [Act.put, pA, pB, pC]
              refine tk 3 (HS.out _ hB9) ?_
              try simp only [Act.put, pA, pB, pC]
              refine tk 4 (HS.out _ hB9) ?_
              try simp only [Act.put, pA, pB, pC]
              refine tk 5 (HS.out _ hB9) ?_
              try simp only [Act.put, pA, pB, pC]
              refine tk 6 (HS.out _ hB9) ?_
              try simp only [Act.put, pA, pB, pC]
              refine tk 7 (HS.out _ hB9) ?_
              try simp only [Act.put, pA, pB, pC]
              refine tk 8 (HS.out _ hB9) ?_
              try simp only [Act.put, pA, pB, pC]
              refine tk 9 (HS.out _ hB9) ?_
              try simp only [Act.put, pA, pB, pC]
              refine tk 10 (HS.out _ hB9) ?_
              try simp only [Act.put, pA, pB, pC]
              refine tk 11 (HS.out _ hB9) ?_
              try simp only [Act.put, pA, pB, pC]
              refine wpAnyH_all (rs := [12, 14]) (by kernel_rfl) (by simp) fun j hj => ?_
              have hj2 : j = 12 ∨ j = 14 := by simpa using hj
              clear hj
              rcases hj2 with rfl | rfl
              · refine step_op rfl (by rfl) (fun K hK => ?_)
                go_simp
                refine (HCALL.out _ hW9).mono ?_
                rintro e w3 ⟨cs', rfl, hvb, hb3⟩
                obtain ⟨a', i', s', B1', n1', d1', B2', n2', d2', B3', n3', d3', B4', n4', d4', rfl⟩ := hvb.form7
                have hB3 : Below U.heap.size U w3 := hB9.trans (hb3.mono hB9.size)
                refine hK _ _ ⟨HS.out _ hB3, ?_⟩
                try simp only [Act.put, pA, pB, pC]
                clear hK K
                refine tk 13 (HS.out _ hB3) ?_
                try simp only [Act.put, pA, pB, pC]
                refine one_op 14 (by kernel_rfl) rfl (by rfl) (fun K hK => ?_)
                go_simp
                obtain ⟨w4, hw4⟩ : ∃ w4, w4 = w3.alloc (.cells #[.slice none 0 0, .bool false, .int .i64 0, .int .i64 0, .string ⟨#[]⟩, .slice none 0 0, .slice none 0 0, .slice none 0 0, .slice none 0 0] 55) := ⟨_, rfl⟩
                rw [← hw4]
                have hb4 : Below w3.heap.size w3 w4 := by rw [hw4]; exact (Below.refl _ _).alloc (Nat.le_refl _) _
                have k4 : w4.heap[w3.heap.size]? = some (.cells #[.slice none 0 0, .bool false, .int .i64 0, .int .i64 0, .string ⟨#[]⟩, .slice none 0 0, .slice none 0 0, .slice none 0 0, .slice none 0 0] 55 (0, 0)) := by rw [hw4]; exact heap_alloc_new w3 _
                have hz4 : w4.heap.size = w3.heap.size + 1 := by rw [hw4]; simp
                have hB4 : Below U.heap.size U w4 := hB3.trans (hb4.mono hB3.size)
                have hU3 := hB3.size
                refine hK _ _ (HS.out _ hB4) ?_
                try simp only [Act.put, pA, pB, pC]
                clear hK K hw4
                obtain ⟨be, hbe⟩ : ∃ be, be = w3.heap.size := ⟨_, rfl⟩
                rw [← hbe]
                rw [← hbe] at k4
                have HBE := Lib.hid hbe
                clear hbe
                obtain ⟨e0, e1, e2, e3, e4, e5, e6, e7, e8⟩ := cells9 k4
                obtain ⟨z0, z1, z2, z3, z4, z5, z6, z7, z8⟩ := frozen9 k4
                refine one_op 15 (by kernel_rfl) rfl (by rfl) (fun K hK => ?_)
                go_simp
                have hbe := HBE.out
                obtain ⟨V, hV⟩ : ∃ V, V = (((((((((w4.setCell ⟨be, 0, none⟩ (Value.slice none 0 0)).setCell ⟨be, 1, none⟩ (Value.bool fl)).setCell ⟨be, 2, none⟩ (Value.int .i64 a')).setCell ⟨be, 3, none⟩ (Value.int .i64 i')).setCell ⟨be, 4, none⟩ (Value.string s')).setCell ⟨be, 5, none⟩ (Value.slice B1' n1' d1')).setCell ⟨be, 6, none⟩ (Value.slice B2' n2' d2')).setCell ⟨be, 7, none⟩ (Value.slice B3' n3' d3')).setCell ⟨be, 8, none⟩ (Value.slice B4' n4' d4')) := ⟨_, rfl⟩
                rw [← hV]
                have hob : V.heap[be]? = some (.cells #[Value.slice none 0 0, Value.bool fl, Value.int .i64 a', Value.int .i64 i', Value.string s', Value.slice B1' n1' d1', Value.slice B2' n2' d2', Value.slice B3' n3' d3', Value.slice B4' n4' d4'] 55 (0, 0)) := by rw [hV]; exact obj9 k4 (Value.slice none 0 0) (Value.bool fl) (Value.int .i64 a') (Value.int .i64 i') (Value.string s') (Value.slice B1' n1' d1') (Value.slice B2' n2' d2') (Value.slice B3' n3' d3') (Value.slice B4' n4' d4')
                have hBV : Below U.heap.size U V := by rw [hV]; exact Below.setCell (Below.setCell (Below.setCell (Below.setCell (Below.setCell (Below.setCell (Below.setCell (Below.setCell (Below.setCell ((hB4)) (p := ⟨be, 0, none⟩) (by show U.heap.size ≤ be; omega) _) (p := ⟨be, 1, none⟩) (by show U.heap.size ≤ be; omega) _) (p := ⟨be, 2, none⟩) (by show U.heap.size ≤ be; omega) _) (p := ⟨be, 3, none⟩) (by show U.heap.size ≤ be; omega) _) (p := ⟨be, 4, none⟩) (by show U.heap.size ≤ be; omega) _) (p := ⟨be, 5, none⟩) (by show U.heap.size ≤ be; omega) _) (p := ⟨be, 6, none⟩) (by show U.heap.size ≤ be; omega) _) (p := ⟨be, 7, none⟩) (by show U.heap.size ≤ be; omega) _) (p := ⟨be, 8, none⟩) (by show U.heap.size ≤ be; omega) _
                have hsmV : ∀ B : Nat → Prop, ¬ B be → Same B w4 V := fun B h => by rw [hV]; exact same_setCell (same_setCell (same_setCell (same_setCell (same_setCell (same_setCell (same_setCell (same_setCell (same_setCell ((Same.refl _ _)) h) h) h) h) h) h) h) h) h
                have hkV : ∀ b, b ≠ be → V.heap[b]? = w4.heap[b]? := fun b h => by rw [hV]; exact ((heap_setCell_other _ _ _ _ h).trans ((heap_setCell_other _ _ _ _ h).trans ((heap_setCell_other _ _ _ _ h).trans ((heap_setCell_other _ _ _ _ h).trans ((heap_setCell_other _ _ _ _ h).trans ((heap_setCell_other _ _ _ _ h).trans ((heap_setCell_other _ _ _ _ h).trans ((heap_setCell_other _ _ _ _ h).trans (heap_setCell_other _ _ _ _ h)))))))))
                have hzV : V.heap.size = w4.heap.size := by rw [hV]; simp
                refine hK _ _ (HS.out _ hBV) ?_
                try simp only [Act.put, pA, pB, pC]
                clear hK K hV e0 e1 e2 e3 e4 e5 e6 e7 e8 z0 z1 z2 z3 z4 z5 z6 z7 z8
                have f1 : U.heap.size ≤ be ∧ be < V.heap.size := ⟨by omega, by omega⟩
                have f2 : V.heap[be]? = some (.cells #[.slice none 0 0, .bool fl, .int .i64 a', .int .i64 i', .string s', .slice B1' n1' d1', .slice B2' n2' d2', .slice B3' n3' d3', .slice B4' n4' d4'] 55 (0, 0)) := hob
                have f3 : VB k V (fun b => b < H0 ∨ (U.heap.size ≤ b ∧ b < V.heap.size ∧ b ≠ be ∧ some b ≠ (Value.slice A2 out2.length c2).ownBlock)) (unl r) [.int .i64 a', .int .i64 i', .string s', .slice B1' n1' d1', .slice B2' n2' d2', .slice B3' n3' d3', .slice B4' n4' d4'] := VB.sub (B := fun b => b < H0 ∨ Btw wr.drew.heap.size w3.heap.size b) (fun b hb => by
                  rcases hb with hb | hb
                  · exact .inl hb
                  · have h1 := hb.1; have h2 := hb.2; have h3 := hB9.size; exact .inr ⟨by omega, by omega, by omega, fun e => by have := (hblk b e.symm).2; omega⟩) (Nat.le_refl _) (VB.keep (Same.trans (Same.of_below hb4 (fun b hb => by have := HH0.out; have := HBR.out.2.2; have := hb3.size; rcases hb with hb | hb; (omega); (exact hb.2))) (hsmV _ fun hb => by have := HH0.out; have := HBR.out.2.2; have := hb3.size; rcases hb with hb | hb; (omega); (have := hb.2; omega))) hvb)
                have f4 : OwnE (elD (elE k) fun b => (b < H0 ∨ U.heap.size ≤ b) ∧ b ≠ be) 55 9 V 0 (.slice A2 out2.length c2) out2 := OwnE.toX (be := be) HJ.out.2.1 (by have := hb3.size; omega) (fun b hb hl hne => (hkV b (by have := hb3.size; omega)).trans ((hb4.block b (by have := hb3.size; omega)).trans (hb3.block b hl))) (fun g hg => (hkV g (by have := hb3.size; have := (hblk g hg).2; omega)).trans ((hb4.block g (by have := hb3.size; have := (hblk g hg).2; omega)).trans (hb3.block g (hblk g hg).2))) (by have := hd; have := hb3.size; omega)
                have f5 : ∀ g, (Value.slice A2 out2.length c2).ownBlock = some g → g ≠ be ∧ U.heap.size ≤ g := fun g hg => ⟨by have := (hblk g hg).2; have := hb3.size; omega, hown g hg⟩
                have f6 : Below U.heap.size U V := hBV
                have FF := Lib.hid (And.intro f1 (And.intro f2 (And.intro f3 (And.intro f4 (And.intro f5 f6)))))
                clear f1 f2 f3 f4 f5 f6 hob hkV hsmV hBV hzV hB4 hU3 hb4 hz4 hB3 hb3 hvb hB9 hW9 hd hown hblk k4
                refine wpAnyH_done (by kernel_rfl) ?_ _
                clear hbe HBE
                revert FF
                revert be V a' i' s' B1' n1' d1' B2' n2' d2' B3' n3' d3' B4' n4' d4'
                exact HFIN.out
              · refine step_op rfl (by rfl) (fun K hK => ?_)
                go_simp
                obtain ⟨w4, hw4⟩ : ∃ w4, w4 = (wr.alloc (.cells #[.slice none 0 0, .bool false, .int .i64 0, .int .i64 0, .string ⟨#[]⟩, .slice none 0 0, .slice none 0 0, .slice none 0 0, .slice none 0 0] 55)).drew := ⟨_, rfl⟩
                rw [← hw4]
                have hb4 : Below wr.heap.size wr w4 := by rw [hw4]; exact ((Below.refl _ _).alloc (Nat.le_refl _) _).drew
                have k4' : w4.heap[wr.heap.size]? = some (.cells #[.slice none 0 0, .bool false, .int .i64 0, .int .i64 0, .string ⟨#[]⟩, .slice none 0 0, .slice none 0 0, .slice none 0 0, .slice none 0 0] 55 (0, 0)) := by rw [hw4]; exact heap_alloc_new wr _
                have hz4 : w4.heap.size = wr.heap.size + 1 := by rw [hw4]; show (wr.alloc _).heap.size = _; simp
                have hB4 : Below U.heap.size U w4 := HBR.out.1.trans (hb4.mono HBR.out.1.size)
                have hW4 : Below w.heap.size w w4 := HBR.out.2.1.trans (hb4.mono HBR.out.2.1.size)
                refine hK _ _ ⟨HS.out _ hB4, ?_⟩
                try simp only [Act.put, pA, pB, pC]
                clear hK K hw4
                refine one_op 12 (by kernel_rfl) rfl (by rfl) (fun K hK => ?_)
                go_simp
                refine (HCALL.out _ hW4).mono ?_
                rintro e w3 ⟨cs', rfl, hvb, hb3⟩
                obtain ⟨a', i', s', B1', n1', d1', B2', n2', d2', B3', n3', d3', B4', n4', d4', rfl⟩ := hvb.form7
                have hB3 : Below U.heap.size U w3 := hB4.trans (hb3.mono hB4.size)
                refine hK _ _ (HS.out _ hB3) ?_
                try simp only [Act.put, pA, pB, pC]
                clear hK K
                refine tk 13 (HS.out _ hB3) ?_
                try simp only [Act.put, pA, pB, pC]
                have hU3 := HBR.out.1.size
                have h34 := hb3.size
                obtain ⟨be, hbe⟩ : ∃ be, be = wr.heap.size := ⟨_, rfl⟩
                rw [← hbe]
                have k4 := (hb3.block wr.heap.size (by omega)).trans k4'
                rw [← hbe] at k4
                have HBE := Lib.hid hbe
                clear hbe k4'
                obtain ⟨e0, e1, e2, e3, e4, e5, e6, e7, e8⟩ := cells9 k4
                obtain ⟨z0, z1, z2, z3, z4, z5, z6, z7, z8⟩ := frozen9 k4
                refine one_op 15 (by kernel_rfl) rfl (by rfl) (fun K hK => ?_)
                go_simp
                have hbe := HBE.out
                obtain ⟨V, hV⟩ : ∃ V, V = (((((((((w3.setCell ⟨be, 0, none⟩ (Value.slice none 0 0)).setCell ⟨be, 1, none⟩ (Value.bool fl)).setCell ⟨be, 2, none⟩ (Value.int .i64 a')).setCell ⟨be, 3, none⟩ (Value.int .i64 i')).setCell ⟨be, 4, none⟩ (Value.string s')).setCell ⟨be, 5, none⟩ (Value.slice B1' n1' d1')).setCell ⟨be, 6, none⟩ (Value.slice B2' n2' d2')).setCell ⟨be, 7, none⟩ (Value.slice B3' n3' d3')).setCell ⟨be, 8, none⟩ (Value.slice B4' n4' d4')) := ⟨_, rfl⟩
                rw [← hV]
                have hob : V.heap[be]? = some (.cells #[Value.slice none 0 0, Value.bool fl, Value.int .i64 a', Value.int .i64 i', Value.string s', Value.slice B1' n1' d1', Value.slice B2' n2' d2', Value.slice B3' n3' d3', Value.slice B4' n4' d4'] 55 (0, 0)) := by rw [hV]; exact obj9 k4 (Value.slice none 0 0) (Value.bool fl) (Value.int .i64 a') (Value.int .i64 i') (Value.string s') (Value.slice B1' n1' d1') (Value.slice B2' n2' d2') (Value.slice B3' n3' d3') (Value.slice B4' n4' d4')
                have hBV : Below U.heap.size U V := by rw [hV]; exact Below.setCell (Below.setCell (Below.setCell (Below.setCell (Below.setCell (Below.setCell (Below.setCell (Below.setCell (Below.setCell ((hB3)) (p := ⟨be, 0, none⟩) (by show U.heap.size ≤ be; omega) _) (p := ⟨be, 1, none⟩) (by show U.heap.size ≤ be; omega) _) (p := ⟨be, 2, none⟩) (by show U.heap.size ≤ be; omega) _) (p := ⟨be, 3, none⟩) (by show U.heap.size ≤ be; omega) _) (p := ⟨be, 4, none⟩) (by show U.heap.size ≤ be; omega) _) (p := ⟨be, 5, none⟩) (by show U.heap.size ≤ be; omega) _) (p := ⟨be, 6, none⟩) (by show U.heap.size ≤ be; omega) _) (p := ⟨be, 7, none⟩) (by show U.heap.size ≤ be; omega) _) (p := ⟨be, 8, none⟩) (by show U.heap.size ≤ be; omega) _
                have hsmV : ∀ B : Nat → Prop, ¬ B be → Same B w3 V := fun B h => by rw [hV]; exact same_setCell (same_setCell (same_setCell (same_setCell (same_setCell (same_setCell (same_setCell (same_setCell (same_setCell ((Same.refl _ _)) h) h) h) h) h) h) h) h) h
                have hkV : ∀ b, b ≠ be → V.heap[b]? = w3.heap[b]? := fun b h => by rw [hV]; exact ((heap_setCell_other _ _ _ _ h).trans ((heap_setCell_other _ _ _ _ h).trans ((heap_setCell_other _ _ _ _ h).trans ((heap_setCell_other _ _ _ _ h).trans ((heap_setCell_other _ _ _ _ h).trans ((heap_setCell_other _ _ _ _ h).trans ((heap_setCell_other _ _ _ _ h).trans ((heap_setCell_other _ _ _ _ h).trans (heap_setCell_other _ _ _ _ h)))))))))
                have hzV : V.heap.size = w3.heap.size := by rw [hV]; simp
                refine hK _ _ (HS.out _ hBV) ?_
                try simp only [Act.put, pA, pB, pC]
                clear hK K hV e0 e1 e2 e3 e4 e5 e6 e7 e8 z0 z1 z2 z3 z4 z5 z6 z7 z8
                have f1 : U.heap.size ≤ be ∧ be < V.heap.size := ⟨by omega, by omega⟩
                have f2 : V.heap[be]? = some (.cells #[.slice none 0 0, .bool fl, .int .i64 a', .int .i64 i', .string s', .slice B1' n1' d1', .slice B2' n2' d2', .slice B3' n3' d3', .slice B4' n4' d4'] 55 (0, 0)) := hob
                have f3 : VB k V (fun b => b < H0 ∨ (U.heap.size ≤ b ∧ b < V.heap.size ∧ b ≠ be ∧ some b ≠ (Value.slice A2 out2.length c2).ownBlock)) (unl r) [.int .i64 a', .int .i64 i', .string s', .slice B1' n1' d1', .slice B2' n2' d2', .slice B3' n3' d3', .slice B4' n4' d4'] := VB.sub (B := fun b => b < H0 ∨ Btw w4.heap.size w3.heap.size b) (fun b hb => by
                  rcases hb with hb | hb
                  · exact .inl hb
                  · have h1 := hb.1; have h2 := hb.2; exact .inr ⟨by omega, by omega, by omega, fun e => by have := (hblk b e.symm).2; omega⟩) (Nat.le_refl _) (VB.keep (hsmV _ fun hb => by have := HH0.out; have := HBR.out.2.2; rcases hb with hb | hb; (omega); (have := hb.1; omega)) hvb)
                have f4 : OwnE (elD (elE k) fun b => (b < H0 ∨ U.heap.size ≤ b) ∧ b ≠ be) 55 9 V 0 (.slice A2 out2.length c2) out2 := OwnE.toX (be := be) HJ.out.2.1 (by omega) (fun b hb hl hne => (hkV b (by omega)).trans ((hb3.block b (by omega)).trans (hb4.block b hl))) (fun g hg => (hkV g (by have := (hblk g hg).2; omega)).trans ((hb3.block g (by have := (hblk g hg).2; omega)).trans (hb4.block g (hblk g hg).2))) (by have := hd; omega)
                have f5 : ∀ g, (Value.slice A2 out2.length c2).ownBlock = some g → g ≠ be ∧ U.heap.size ≤ g := fun g hg => ⟨by have := (hblk g hg).2; omega, hown g hg⟩
                have f6 : Below U.heap.size U V := hBV
                have FF := Lib.hid (And.intro f1 (And.intro f2 (And.intro f3 (And.intro f4 (And.intro f5 f6)))))
                clear f1 f2 f3 f4 f5 f6 hob hkV hsmV hBV hzV hB4 hU3 hb4 hz4 hB3 hb3 hvb hB9 hW9 hW4 hd hown hblk k4 h34
                refine wpAnyH_done (by kernel_rfl) ?_ _
                clear hbe HBE
                revert FF
                revert be V a' i' s' B1' n1' d1' B2' n2' d2' B3' n3' d3' B4' n4' d4'
                exact HFIN.out
            case hF =>
              intro a' i' s' B1' n1' d1' B2' n2' d2' B3' n3' d3' B4' n4' d4' be V FF
              go_wp2_with fail
              go_loopw [8] (fun i wr => ∃ (j : Nat) (A3 : Option Addr) (c3 : Nat) (out3 : List Vl), i = .int .i64 j ∧ j ≤ args.length ∧ Hid (out3 = (args.take j).map unl ∧ wr.heap[be]? = some (.cells #[.slice A3 out3.length c3, .bool fl, .int .i64 a', .int .i64 i', .string s', .slice B1' n1' d1', .slice B2' n2' d2', .slice B3' n3' d3', .slice B4' n4' d4'] 55 (0, 0)) ∧ OwnE (elD (elV k) (fun b => b < H0 ∨ V.heap.size ≤ b)) 27 7 wr 0 (.slice A3 out3.length c3) out3 ∧ (∀ g, (Value.slice A3 out3.length c3).ownBlock = some g → V.heap.size ≤ g) ∧ Eff be V wr)) (fun i _ => args.length - (intOf i).toNat)
              case atStart => exact ⟨0, none, 0, [], rfl, Nat.zero_le _, Lib.hid ⟨by simp, FF.out.2.1, OwnE.nil _ _ _ _ _, by intro g hg; simp [Value.ownBlock] at hg, Eff.refl _ _⟩⟩
              case round =>
                obtain ⟨j3, A3, c3, out3, rfl, hj3, HJ3⟩ := hrel
                obtain ⟨hq1, hq2, hq3, hq4, hq5⟩ := HJ3.out
                obtain ⟨⟨ff1, ff1'⟩, ff2, ff3, ff4, ff5, ff6⟩ := FF.out
                have hU0 := HBU.out.2
                have hVw : Below w.heap.size w V := HBU.out.1.trans (ff6.mono HBU.out.1.size)
                have HEB : Hid (∀ V2, Eff be V V2 → Below w.heap.size w V2 ∧ V2.cell? ⟨w.heap.size, 5, none⟩ = some (.slice (some ⟨bo, oe, none⟩) ents.length ce) ∧ V2.cell? ⟨bo, oe + j2 * 9, none⟩ = some (.slice RA args.length rc)) := Lib.hid fun V2 h2 => by
                  have h3 : Below w.heap.size w V2 := hVw.trans (h2.below.mono (by omega))
                  exact ⟨h3, (cells7 (HBOX2.out V2 fun b hb => (h2.other b (by omega) (by have := ff6.size; omega)).trans (ff6.block b (by omega))).1).2.2.2.2.2.1, HS0.out V2 h3⟩
                obtain ⟨hwr3, e5, x0⟩ := HEB.out wr hq5
                have HV := Lib.hid (And.intro ff1 (And.intro ff1' (And.intro hU0 hq5.size)))
                by_cases hjn3 : j3 < args.length
                · obtain ⟨bq, oq, cq, t0, t1, t2, t3, t4, t5, t6, hu, hbq, ⟨y, hy, hvy⟩, c0, c1, c2', c3', c4, c5, c6⟩ := RowB.at7 HX.out.2.1 hjn3
                  injection hu with hA hNN hcc
                  subst hA
                  clear hNN hcc
                  have hbq' : bq < w.heap.size := Nat.lt_of_lt_of_le hbq HH0.out
                  have HS3 : Hid (∀ V2, Eff be V V2 → V2.cell? ⟨w.heap.size, 5, none⟩ = some (.slice (some ⟨bo, oe, none⟩) ents.length ce) ∧ V2.cell? ⟨bo, oe + j2 * 9, none⟩ = some (.slice (some ⟨bq, oq, none⟩) args.length rc) ∧ V2.cell? ⟨bq, oq + j3 * 7, none⟩ = some t0 ∧ V2.cell? ⟨bq, oq + j3 * 7 + 1, none⟩ = some t1 ∧ V2.cell? ⟨bq, oq + j3 * 7 + 2, none⟩ = some t2 ∧ V2.cell? ⟨bq, oq + j3 * 7 + 3, none⟩ = some t3 ∧ V2.cell? ⟨bq, oq + j3 * 7 + 4, none⟩ = some t4 ∧ V2.cell? ⟨bq, oq + j3 * 7 + 5, none⟩ = some t5 ∧ V2.cell? ⟨bq, oq + j3 * 7 + 6, none⟩ = some t6) := Lib.hid fun V2 h2 => by
                    obtain ⟨h3, h4, h5⟩ := HEB.out V2 h2
                    exact ⟨h4, h5, (h3.cell (p := ⟨bq, _, none⟩) hbq').trans c0, (h3.cell (p := ⟨bq, _, none⟩) hbq').trans c1, (h3.cell (p := ⟨bq, _, none⟩) hbq').trans c2', (h3.cell (p := ⟨bq, _, none⟩) hbq').trans c3', (h3.cell (p := ⟨bq, _, none⟩) hbq').trans c4, (h3.cell (p := ⟨bq, _, none⟩) hbq').trans c5, (h3.cell (p := ⟨bq, _, none⟩) hbq').trans c6⟩
                  have hcall := IH.out y _ H0 wr.drew (Nat.le_trans HH0.out hwr3.size) (VB.keep (Same.of_below hwr3.drew (B := fun b => b < H0) fun b hb => Nat.lt_of_lt_of_le hb HH0.out) hvy) (HX.out.2.2.2 y (List.mem_of_getElem? hy))
                  have HY := Lib.hid hy
                  have kn3 : (j3 : Int) < (args.length : Int) := by omega
                  have k3 : (0 : Int) ≤ (j3 : Int) := by omega
                  have HQ := Lib.hid (And.intro hq1 (And.intro hq2 (And.intro hq3 (And.intro hq4 hq5))))
                  clear c0 c1 c2' c3' c4 c5 c6 hvy hy hbq hbq' hwr3 hVw ff1 ff1' ff2 ff3 ff4 ff5 ff6 hU0 hq1 hq2 hq3 hq4 hq5 hjn3
                  go_wp2_with fail
                  clear e5 x0
                  apply share
                  case h =>
                    intro hfin
                    have HFIN := Lib.hid hfin
                    clear hfin
                    refine wp_region_held_drew (S := fun V2 => V2.cell? ⟨w.heap.size, 5, none⟩ = some (.slice (some ⟨bo, oe, none⟩) ents.length ce) ∧ V2.cell? ⟨bo, oe + j2 * 9, none⟩ = some (.slice (some ⟨bq, oq, none⟩) args.length rc) ∧ V2.cell? ⟨bq, oq + j3 * 7, none⟩ = some t0 ∧ V2.cell? ⟨bq, oq + j3 * 7 + 1, none⟩ = some t1 ∧ V2.cell? ⟨bq, oq + j3 * 7 + 2, none⟩ = some t2 ∧ V2.cell? ⟨bq, oq + j3 * 7 + 3, none⟩ = some t3 ∧ V2.cell? ⟨bq, oq + j3 * 7 + 4, none⟩ = some t4 ∧ V2.cell? ⟨bq, oq + j3 * 7 + 5, none⟩ = some t5 ∧ V2.cell? ⟨bq, oq + j3 * 7 + 6, none⟩ = some t6) (by kernel_rfl) (HS3.out _ (HQ.out.2.2.2.2.grow (Below.refl _ _).drew (by have := HV.out; omega))) (fun _ => ?_)
                    have hE9 : Eff be V wr.drew := HQ.out.2.2.2.2.grow (Below.refl _ _).drew (by have := HV.out; omega)
                    have k9 : wr.drew.heap[be]? = some (.cells #[.slice A3 out3.length c3, .bool fl, .int .i64 a', .int .i64 i', .string s', .slice B1' n1' d1', .slice B2' n2' d2', .slice B3' n3' d3', .slice B4' n4' d4'] 55 (0, 0)) := HQ.out.2.1
                    have q9 : wr.drew.cell? ⟨be, 0, none⟩ = some (.slice A3 out3.length c3) := (cells9 k9).1
                    have hd : wr.drew.heap.size = wr.heap.size := rfl
                    have hown := HQ.out.2.2.2.1
                    have hblk := HQ.out.2.2.1.blk
                    have hvv := HV.out
                    refine tk 0 (HS3.out _ hE9) ?_
                    try simp only [Act.put, pA, pB, pC]
                    refine tk 2 (HS3.out _ hE9) ?_
                    try simp only [Act.put, pA, pB, pC]
                    refine tk 3 (HS3.out _ hE9) ?_
                    try simp only [Act.put, pA, pB, pC]
                    refine tk 4 (HS3.out _ hE9) ?_
                    try simp only [Act.put, pA, pB, pC]
                    refine tk 5 (HS3.out _ hE9) ?_
                    try simp only [Act.put, pA, pB, pC]
                    refine tk 6 (HS3.out _ hE9) ?_
                    try simp only [Act.put, pA, pB, pC]
                    refine tk 7 (HS3.out _ hE9) ?_
                    try simp only [Act.put, pA, pB, pC]
                    refine tk 8 (HS3.out _ hE9) ?_
                    try simp only [Act.put, pA, pB, pC]
                    refine tk 9 (HS3.out _ hE9) ?_
                    try simp only [Act.put, pA, pB, pC]
                    refine tk 10 (HS3.out _ hE9) ?_
                    try simp only [Act.put, pA, pB, pC]
                    refine wpAnyH_all (rs := [1, 11]) (by kernel_rfl) (by simp) fun j hj => ?_
                    have hj2 : j = 1 ∨ j = 11 := by simpa using hj
                    clear hj
                    rcases hj2 with rfl | rfl
                    · refine step_op rfl (by rfl) (fun K hK => ?_)
                      go_simp
                      refine hK _ _ ⟨HS3.out _ hE9, ?_⟩
                      try simp only [Act.put, pA, pB, pC]
                      refine one_op 11 (by kernel_rfl) rfl (by rfl) (fun K hK => ?_)
                      go_simp
                      refine hcall.mono ?_
                      rintro e w5 ⟨cs', rfl, hvb, hb5⟩
                      obtain ⟨a'', i'', s'', B1'', n1'', d1'', B2'', n2'', d2'', B3'', n3'', d3'', B4'', n4'', d4'', rfl⟩ := hvb.form7
                      have hE5 : Eff be V w5 := hE9.grow (hb5.mono (show V.heap.size ≤ wr.heap.size by omega)) (by omega)
                      have hs5 := hb5.size
                      have k5 : w5.heap[be]? = some (.cells #[.slice A3 out3.length c3, .bool fl, .int .i64 a', .int .i64 i', .string s', .slice B1' n1' d1', .slice B2' n2' d2', .slice B3' n3' d3', .slice B4' n4' d4'] 55 (0, 0)) := (hb5.block be (by omega)).trans k9
                      have q5 : w5.cell? ⟨be, 0, none⟩ = some (.slice A3 out3.length c3) := (cells9 k5).1
                      have hO5 := OwnE.keptD HQ.out.2.2.1 (w' := w5) (by omega) (fun b _ hl _ => hb5.block b hl) (fun g hg => hb5.block g (hblk g hg).2)
                      have hy5 : (elD (elV k) (fun b => b < H0 ∨ V.heap.size ≤ b)).E (unl y) w5 (fun b => 0 ≤ b ∧ b < w5.heap.size ∧ some b ≠ (Value.slice A3 out3.length c3).ownBlock) [.int .i64 a'', .int .i64 i'', .string s'', .slice B1'' n1'' d1'', .slice B2'' n2'' d2'', .slice B3'' n3'' d3'', .slice B4'' n4'' d4''] := VB.sub (fun b hb => by
                        have h0 := HH0.out
                        have h00 := HBR.out.2.2
                        rcases hb with hb | hb
                        · exact ⟨⟨Nat.zero_le _, by omega, fun e => by have := hown b e.symm; omega⟩, .inl hb⟩
                        · exact ⟨⟨Nat.zero_le _, hb.2, fun e => by have := (hblk b e.symm).2; have := hb.1; omega⟩, .inr (by have := hb.1; omega)⟩) (Nat.le_refl _) hvb
                      have hlen : out3.length ≤ 300000000 := by
                        have h1 := HX.out.2.2.1
                        rw [HQ.out.1, List.length_map, List.length_take]
                        omega
                      obtain ⟨i0, hi, hz0, hz1, hz2⟩ := info_parts Tryz.infoV
                      obtain ⟨g, cap6, w6, hr6, hO6, hb6, hk6, hg6⟩ := app_one (elD (elV k) (fun b => b < H0 ∨ V.heap.size ≤ b)) 22 22 27 i0 (.agg #[.int .i64 0, .int .i64 0, .string ⟨#[]⟩, .slice none 0 0, .slice none 0 0, .slice none 0 0, .slice none 0 0]) 7 128 Tryz.underlying22 hi hz0 hz1 hz2 rfl (by decide) (by decide) w5 0 _ out3 hO5 (unl y) _ hy5 rfl (elV_one k _ _ _ _ hvb) hlen (Nat.zero_le _) _ rfl 1
                      have hne : some be ≠ (Value.slice A3 out3.length c3).ownBlock := fun e => by have := hown be e.symm; omega
                      have k6 := (hk6 be (by omega) hne).trans k5
                      have hb6' : Below V.heap.size w5 w6 := below_own hb6 hk6 hown (by omega)
                      have hE6 : Eff be V w6 := ⟨hE5.below.trans (hb6'.mono (by omega)), fun b hb hl => (hb6'.block b hl).trans (hE5.other b hb hl)⟩
                      have hs6 := hb6.size
                      have hE5a : Eff be V (w5.alloc (.cells #[.int .i64 a'', .int .i64 i'', .string s'', .slice B1'' n1'' d1'', .slice B2'' n2'' d2'', .slice B3'' n3'' d3'', .slice B4'' n4'' d4''] 27)) := hE5.grow ((Below.refl V.heap.size _).alloc (by omega) _) (by omega)
                      have q5a : (w5.alloc (.cells #[.int .i64 a'', .int .i64 i'', .string s'', .slice B1'' n1'' d1'', .slice B2'' n2'' d2'', .slice B3'' n3'' d3'', .slice B4'' n4'' d4''] 27)).cell? ⟨be, 0, none⟩ = some (.slice A3 out3.length c3) := (Lib.cell_of_heap ((Below.heap_alloc _ _ _ (by omega)).trans k5) 0).trans rfl
                      have q6 : w6.cell? ⟨be, 0, none⟩ = some (.slice A3 out3.length c3) := (cells9 k6).1
                      have y6 := (frozen9 k6).1
                      refine hK _ _ (HS3.out _ hE5) ?_
                      try simp only [Act.put, pA, pB, pC]
                      refine one_op 12 (by kernel_rfl) rfl (by rfl) (fun K hK => ?_)
                      go_simp
                      refine hK _ _ (HS3.out _ hE5a) ?_
                      try simp only [Act.put, pA, pB, pC]
                      refine one_op 13 (by kernel_rfl) rfl (by rfl) (fun K hK => ?_)
                      refine Lib.wp_append_run _ _ _ _ _ rfl _ _ rfl rfl _ w6 hr6 ?_
                      refine hK _ _ (HS3.out _ hE6) ?_
                      try simp only [Act.put, pA, pB, pC]
                      refine tk 14 (HS3.out _ hE6) ?_
                      try simp only [Act.put, pA, pB, pC]
                      refine one_op 15 (by kernel_rfl) rfl (by rfl) (fun K hK => ?_)
                      go_simp
                      obtain ⟨V6, hV6⟩ : ∃ V6, V6 = w6.setCell ⟨be, 0, none⟩ (.slice (some ⟨g, 0, none⟩) (out3.length + 1) cap6) := ⟨_, rfl⟩
                      rw [← hV6]
                      have hE7 : Eff be V V6 := by rw [hV6]; exact ⟨hE6.below.setCell (p := ⟨be, 0, none⟩) (Nat.le_refl _) _, fun b hb hl => (heap_setCell_other _ _ _ _ hb).trans (hE6.other b hb hl)⟩
                      have p1 : V6.heap[be]? = some (.cells #[.slice (some ⟨g, 0, none⟩) (out3.length + 1) cap6, .bool fl, .int .i64 a', .int .i64 i', .string s', .slice B1' n1' d1', .slice B2' n2' d2', .slice B3' n3' d3', .slice B4' n4' d4'] 55 (0, 0)) := by rw [hV6]; simpa using heap_setCell_same _ _ 0 _ _ (.slice (some ⟨g, 0, none⟩) (out3.length + 1) cap6) k6
                      have hgo : ∀ g', (Value.slice (some ⟨g, 0, none⟩) (out3.length + 1) cap6).ownBlock = some g' → V.heap.size ≤ g' := own_app hg6 hown (by omega)
                      have p2 : OwnE (elD (elV k) (fun b => b < H0 ∨ V.heap.size ≤ b)) 27 7 V6 0 (.slice (some ⟨g, 0, none⟩) (out3.length + 1) cap6) (out3 ++ [unl y]) := OwnE.keptD hO6 (by rw [hV6]; simp) (fun b hb _ _ => by rw [hV6]; exact heap_setCell_other _ _ _ _ (show b ≠ be by have := HH0.out; have := HBR.out.2.2; rcases hb with hb | hb <;> omega)) (fun g' hg' => by rw [hV6]; exact heap_setCell_other _ _ _ _ (show g' ≠ be by have := hgo g' hg'; omega))
                      have HP := Lib.hid (And.intro p1 (And.intro p2 (And.intro hgo hE7)))
                      refine hK _ _ (HS3.out _ hE7) ?_
                      try simp only [Act.put, pA, pB, pC]
                      refine wpAnyH_done (by kernel_rfl) ?_ _
                      obtain ⟨n5, hn5⟩ : ∃ n5, n5 = w5.heap.size := ⟨_, rfl⟩
                      rw [← hn5]
                      clear hV6 hn5 p1 p2 hgo hE7 hK
                      clear q6 y6 q5a hE5a hs6 hE6 hb6' k6 hne hr6 hO6 hb6 hk6 hg6 hlen hy5 hO5 q5 k5 hs5 hE5 hvb hb5
                      revert HP
                      revert V6 n5 g cap6 a'' i'' s'' B1'' n1'' d1'' B2'' n2'' d2'' B3'' n3'' d3'' B4'' n4'' d4''
                      exact HFIN.out
                    · refine step_op rfl (by rfl) (fun K hK => ?_)
                      go_simp
                      refine hcall.mono ?_
                      rintro e w5 ⟨cs', rfl, hvb, hb5⟩
                      obtain ⟨a'', i'', s'', B1'', n1'', d1'', B2'', n2'', d2'', B3'', n3'', d3'', B4'', n4'', d4'', rfl⟩ := hvb.form7
                      have hE5 : Eff be V w5 := hE9.grow (hb5.mono (show V.heap.size ≤ wr.heap.size by omega)) (by omega)
                      have hs5 := hb5.size
                      have k5 : w5.heap[be]? = some (.cells #[.slice A3 out3.length c3, .bool fl, .int .i64 a', .int .i64 i', .string s', .slice B1' n1' d1', .slice B2' n2' d2', .slice B3' n3' d3', .slice B4' n4' d4'] 55 (0, 0)) := (hb5.block be (by omega)).trans k9
                      have q5 : w5.cell? ⟨be, 0, none⟩ = some (.slice A3 out3.length c3) := (cells9 k5).1
                      have hO5 := OwnE.keptD HQ.out.2.2.1 (w' := w5) (by omega) (fun b _ hl _ => hb5.block b hl) (fun g hg => hb5.block g (hblk g hg).2)
                      have hy5 : (elD (elV k) (fun b => b < H0 ∨ V.heap.size ≤ b)).E (unl y) w5 (fun b => 0 ≤ b ∧ b < w5.heap.size ∧ some b ≠ (Value.slice A3 out3.length c3).ownBlock) [.int .i64 a'', .int .i64 i'', .string s'', .slice B1'' n1'' d1'', .slice B2'' n2'' d2'', .slice B3'' n3'' d3'', .slice B4'' n4'' d4''] := VB.sub (fun b hb => by
                        have h0 := HH0.out
                        have h00 := HBR.out.2.2
                        rcases hb with hb | hb
                        · exact ⟨⟨Nat.zero_le _, by omega, fun e => by have := hown b e.symm; omega⟩, .inl hb⟩
                        · exact ⟨⟨Nat.zero_le _, hb.2, fun e => by have := (hblk b e.symm).2; have := hb.1; omega⟩, .inr (by have := hb.1; omega)⟩) (Nat.le_refl _) hvb
                      have hlen : out3.length ≤ 300000000 := by
                        have h1 := HX.out.2.2.1
                        rw [HQ.out.1, List.length_map, List.length_take]
                        omega
                      obtain ⟨i0, hi, hz0, hz1, hz2⟩ := info_parts Tryz.infoV
                      obtain ⟨g, cap6, w6, hr6, hO6, hb6, hk6, hg6⟩ := app_one (elD (elV k) (fun b => b < H0 ∨ V.heap.size ≤ b)) 22 22 27 i0 (.agg #[.int .i64 0, .int .i64 0, .string ⟨#[]⟩, .slice none 0 0, .slice none 0 0, .slice none 0 0, .slice none 0 0]) 7 128 Tryz.underlying22 hi hz0 hz1 hz2 rfl (by decide) (by decide) w5 0 _ out3 hO5 (unl y) _ hy5 rfl (elV_one k _ _ _ _ hvb) hlen (Nat.zero_le _) _ rfl 1
                      have hne : some be ≠ (Value.slice A3 out3.length c3).ownBlock := fun e => by have := hown be e.symm; omega
                      have k6 := (hk6 be (by omega) hne).trans k5
                      have hb6' : Below V.heap.size w5 w6 := below_own hb6 hk6 hown (by omega)
                      have hE6 : Eff be V w6 := ⟨hE5.below.trans (hb6'.mono (by omega)), fun b hb hl => (hb6'.block b hl).trans (hE5.other b hb hl)⟩
                      have hs6 := hb6.size
                      have hE5a : Eff be V (w5.alloc (.cells #[.int .i64 a'', .int .i64 i'', .string s'', .slice B1'' n1'' d1'', .slice B2'' n2'' d2'', .slice B3'' n3'' d3'', .slice B4'' n4'' d4''] 27)) := hE5.grow ((Below.refl V.heap.size _).alloc (by omega) _) (by omega)
                      have q5a : (w5.alloc (.cells #[.int .i64 a'', .int .i64 i'', .string s'', .slice B1'' n1'' d1'', .slice B2'' n2'' d2'', .slice B3'' n3'' d3'', .slice B4'' n4'' d4''] 27)).cell? ⟨be, 0, none⟩ = some (.slice A3 out3.length c3) := (Lib.cell_of_heap ((Below.heap_alloc _ _ _ (by omega)).trans k5) 0).trans rfl
                      have q6 : w6.cell? ⟨be, 0, none⟩ = some (.slice A3 out3.length c3) := (cells9 k6).1
                      have y6 := (frozen9 k6).1
                      refine hK _ _ ⟨HS3.out _ hE5, ?_⟩
                      try simp only [Act.put, pA, pB, pC]
                      refine wpAnyH_all (rs := [1, 12]) (by kernel_rfl) (by simp) fun j hj => ?_
                      have hj2 : j = 1 ∨ j = 12 := by simpa using hj
                      clear hj
                      rcases hj2 with rfl | rfl
                      · refine step_op rfl (by rfl) (fun K hK => ?_)
                        go_simp
                        refine hK _ _ ⟨HS3.out _ hE5, ?_⟩
                        try simp only [Act.put, pA, pB, pC]
                        refine one_op 12 (by kernel_rfl) rfl (by rfl) (fun K hK => ?_)
                        go_simp
                        refine hK _ _ (HS3.out _ hE5a) ?_
                        try simp only [Act.put, pA, pB, pC]
                        refine one_op 13 (by kernel_rfl) rfl (by rfl) (fun K hK => ?_)
                        refine Lib.wp_append_run _ _ _ _ _ rfl _ _ rfl rfl _ w6 hr6 ?_
                        refine hK _ _ (HS3.out _ hE6) ?_
                        try simp only [Act.put, pA, pB, pC]
                        refine tk 14 (HS3.out _ hE6) ?_
                        try simp only [Act.put, pA, pB, pC]
                        refine one_op 15 (by kernel_rfl) rfl (by rfl) (fun K hK => ?_)
                        go_simp
                        obtain ⟨V6, hV6⟩ : ∃ V6, V6 = w6.setCell ⟨be, 0, none⟩ (.slice (some ⟨g, 0, none⟩) (out3.length + 1) cap6) := ⟨_, rfl⟩
                        rw [← hV6]
                        have hE7 : Eff be V V6 := by rw [hV6]; exact ⟨hE6.below.setCell (p := ⟨be, 0, none⟩) (Nat.le_refl _) _, fun b hb hl => (heap_setCell_other _ _ _ _ hb).trans (hE6.other b hb hl)⟩
                        have p1 : V6.heap[be]? = some (.cells #[.slice (some ⟨g, 0, none⟩) (out3.length + 1) cap6, .bool fl, .int .i64 a', .int .i64 i', .string s', .slice B1' n1' d1', .slice B2' n2' d2', .slice B3' n3' d3', .slice B4' n4' d4'] 55 (0, 0)) := by rw [hV6]; simpa using heap_setCell_same _ _ 0 _ _ (.slice (some ⟨g, 0, none⟩) (out3.length + 1) cap6) k6
                        have hgo : ∀ g', (Value.slice (some ⟨g, 0, none⟩) (out3.length + 1) cap6).ownBlock = some g' → V.heap.size ≤ g' := own_app hg6 hown (by omega)
                        have p2 : OwnE (elD (elV k) (fun b => b < H0 ∨ V.heap.size ≤ b)) 27 7 V6 0 (.slice (some ⟨g, 0, none⟩) (out3.length + 1) cap6) (out3 ++ [unl y]) := OwnE.keptD hO6 (by rw [hV6]; simp) (fun b hb _ _ => by rw [hV6]; exact heap_setCell_other _ _ _ _ (show b ≠ be by have := HH0.out; have := HBR.out.2.2; rcases hb with hb | hb <;> omega)) (fun g' hg' => by rw [hV6]; exact heap_setCell_other _ _ _ _ (show g' ≠ be by have := hgo g' hg'; omega))
                        have HP := Lib.hid (And.intro p1 (And.intro p2 (And.intro hgo hE7)))
                        refine hK _ _ (HS3.out _ hE7) ?_
                        try simp only [Act.put, pA, pB, pC]
                        refine wpAnyH_done (by kernel_rfl) ?_ _
                        obtain ⟨n5, hn5⟩ : ∃ n5, n5 = w5.heap.size := ⟨_, rfl⟩
                        rw [← hn5]
                        clear hV6 hn5 p1 p2 hgo hE7 hK
                        clear q6 y6 q5a hE5a hs6 hE6 hb6' k6 hne hr6 hO6 hb6 hk6 hg6 hlen hy5 hO5 q5 k5 hs5 hE5 hvb hb5
                        revert HP
                        revert V6 n5 g cap6 a'' i'' s'' B1'' n1'' d1'' B2'' n2'' d2'' B3'' n3'' d3'' B4'' n4'' d4''
                        exact HFIN.out
                      · refine step_op rfl (by rfl) (fun K hK => ?_)
                        go_simp
                        refine hK _ _ ⟨HS3.out _ hE5a, ?_⟩
                        try simp only [Act.put, pA, pB, pC]
                        refine one_op 1 (by kernel_rfl) rfl (by rfl) (fun K hK => ?_)
                        go_simp
                        refine hK _ _ (HS3.out _ hE5a) ?_
                        try simp only [Act.put, pA, pB, pC]
                        refine one_op 13 (by kernel_rfl) rfl (by rfl) (fun K hK => ?_)
                        refine Lib.wp_append_run _ _ _ _ _ rfl _ _ rfl rfl _ w6 hr6 ?_
                        refine hK _ _ (HS3.out _ hE6) ?_
                        try simp only [Act.put, pA, pB, pC]
                        refine tk 14 (HS3.out _ hE6) ?_
                        try simp only [Act.put, pA, pB, pC]
                        refine one_op 15 (by kernel_rfl) rfl (by rfl) (fun K hK => ?_)
                        go_simp
                        obtain ⟨V6, hV6⟩ : ∃ V6, V6 = w6.setCell ⟨be, 0, none⟩ (.slice (some ⟨g, 0, none⟩) (out3.length + 1) cap6) := ⟨_, rfl⟩
                        rw [← hV6]
                        have hE7 : Eff be V V6 := by rw [hV6]; exact ⟨hE6.below.setCell (p := ⟨be, 0, none⟩) (Nat.le_refl _) _, fun b hb hl => (heap_setCell_other _ _ _ _ hb).trans (hE6.other b hb hl)⟩
                        have p1 : V6.heap[be]? = some (.cells #[.slice (some ⟨g, 0, none⟩) (out3.length + 1) cap6, .bool fl, .int .i64 a', .int .i64 i', .string s', .slice B1' n1' d1', .slice B2' n2' d2', .slice B3' n3' d3', .slice B4' n4' d4'] 55 (0, 0)) := by rw [hV6]; simpa using heap_setCell_same _ _ 0 _ _ (.slice (some ⟨g, 0, none⟩) (out3.length + 1) cap6) k6
                        have hgo : ∀ g', (Value.slice (some ⟨g, 0, none⟩) (out3.length + 1) cap6).ownBlock = some g' → V.heap.size ≤ g' := own_app hg6 hown (by omega)
                        have p2 : OwnE (elD (elV k) (fun b => b < H0 ∨ V.heap.size ≤ b)) 27 7 V6 0 (.slice (some ⟨g, 0, none⟩) (out3.length + 1) cap6) (out3 ++ [unl y]) := OwnE.keptD hO6 (by rw [hV6]; simp) (fun b hb _ _ => by rw [hV6]; exact heap_setCell_other _ _ _ _ (show b ≠ be by have := HH0.out; have := HBR.out.2.2; rcases hb with hb | hb <;> omega)) (fun g' hg' => by rw [hV6]; exact heap_setCell_other _ _ _ _ (show g' ≠ be by have := hgo g' hg'; omega))
                        have HP := Lib.hid (And.intro p1 (And.intro p2 (And.intro hgo hE7)))
                        refine hK _ _ (HS3.out _ hE7) ?_
                        try simp only [Act.put, pA, pB, pC]
                        refine wpAnyH_done (by kernel_rfl) ?_ _
                        obtain ⟨n5, hn5⟩ : ∃ n5, n5 = w5.heap.size := ⟨_, rfl⟩
                        rw [← hn5]
                        clear hV6 hn5 p1 p2 hgo hE7 hK
                        clear q6 y6 q5a hE5a hs6 hE6 hb6' k6 hne hr6 hO6 hb6 hk6 hg6 hlen hy5 hO5 q5 k5 hs5 hE5 hvb hb5
                        revert HP
                        revert V6 n5 g cap6 a'' i'' s'' B1'' n1'' d1'' B2'' n2'' d2'' B3'' n3'' d3'' B4'' n4'' d4''
                        exact HFIN.out
                  case hF =>
                    intro a'' i'' s'' B1'' n1'' d1'' B2'' n2'' d2'' B3'' n3'' d3'' B4'' n4'' d4'' g cap6 V6 n5 HP
                    have hw : IntKind.i64.wrap ((j3 : Int) + 1) = (j3 : Int) + 1 := IntWalk.i64_in _ (by have := HX.out.2.2.1; omega)
                    go_wp2_with fail
                    go_roundw
                    case rel =>
                      obtain ⟨r1, r2, r3, r4⟩ := HP.out
                      refine ⟨j3 + 1, some ⟨g, 0, none⟩, cap6, out3 ++ [unl y], by go_num, by omega, Lib.hid ⟨?_, ?_, ?_, ?_, r4⟩⟩
                      · rw [HQ.out.1]; exact take_map_step HY.out
                      · rw [List.length_append]; exact r1
                      · rw [List.length_append]; exact r2
                      · rw [List.length_append]; exact r3
                    case measure => simp [intOf]; try omega
                · have kn3 : ¬ (j3 : Int) < (args.length : Int) := by omega
                  obtain ⟨y0, y1, y2, y3, y4, y5, y6, y7, y8⟩ := cells9 hq2
                  have hout3 : out3 = args.map unl := by rw [hq1, take_map_all hjn3]
                  have hle3 : out3.length ≤ maxLen := by
                    have h1 := HX.out.2.2.1
                    rw [hout3, List.length_map]
                    unfold maxLen
                    omega
                  have h00 := HBR.out.2.2
                  have h0h := HH0.out
                  have hVr := hq5.size
                  have hrow3 := OwnE.rowD hq3 (fun g hg => .inr (hq4 g hg)) (by omega) hle3
                  have hO2 := OwnE.keptX ff4 hq5.size (fun b hne hl => hq5.other b hne hl) (fun g hg => (ff5 g hg).1)
                  have hown2 : ∀ g, (Value.slice A2 out2.length c2).ownBlock = some g → U.heap.size ≤ g ∧ g < V.heap.size := fun g hg => ⟨(ff5 g hg).2, (ff4.blk g hg).2⟩
                  have hsmr : Same (fun b => b < H0 ∨ (U.heap.size ≤ b ∧ b < V.heap.size ∧ b ≠ be ∧ some b ≠ (Value.slice A2 out2.length c2).ownBlock)) V wr := hq5.same (fun b hb => by rcases hb with hb | hb; (omega); (exact hb.2.2.1))
                  have hy9 : (elD (elE k) (fun b => b < H0 ∨ U.heap.size ≤ b)).E (unlE (.mk args fl r)) wr (fun b => 0 ≤ b ∧ b < wr.heap.size ∧ some b ≠ (Value.slice A2 out2.length c2).ownBlock) [.slice A3 out3.length c3, .bool fl, .int .i64 a', .int .i64 i', .string s', .slice B1' n1' d1', .slice B2' n2' d2', .slice B3' n3' d3', .slice B4' n4' d4'] := by
                    have hu : unlE (.mk args fl r) = .mk (args.map unl) fl (unl r) := by rw [unlE, unlVs_map]
                    rw [hu, ← hout3]
                    have hs1 : ∀ b, ((b < H0 ∨ V.heap.size ≤ b) ∧ b < wr.heap.size) → ((0 ≤ b ∧ b < wr.heap.size ∧ some b ≠ (Value.slice A2 out2.length c2).ownBlock) ∧ (b < H0 ∨ U.heap.size ≤ b)) := fun b hb => ⟨⟨Nat.zero_le _, hb.2, fun e => by have := hown2 b e.symm; rcases hb.1 with h | h <;> omega⟩, by rcases hb.1 with h | h; (exact .inl h); (exact .inr (by have := ff6.size; omega))⟩
                    have hs2 : ∀ b, (b < H0 ∨ (U.heap.size ≤ b ∧ b < V.heap.size ∧ b ≠ be ∧ some b ≠ (Value.slice A2 out2.length c2).ownBlock)) → ((0 ≤ b ∧ b < wr.heap.size ∧ some b ≠ (Value.slice A2 out2.length c2).ownBlock) ∧ (b < H0 ∨ U.heap.size ≤ b)) := fun b hb => by
                      rcases hb with hb | hb
                      · exact ⟨⟨Nat.zero_le _, by omega, fun e => by have := hown2 b e.symm; omega⟩, .inl hb⟩
                      · exact ⟨⟨Nat.zero_le _, by omega, hb.2.2.2⟩, .inr hb.1⟩
                    exact ⟨out3, fl, unl r, rfl, _, _, rfl, hrow3.sub hs1 (fun j cs ⟨x, hx, hv⟩ => ⟨x, hx, VB.sub hs1 (Nat.le_refl _) hv⟩), VB.sub hs2 (Nat.le_refl _) (VB.keep hsmr ff3)⟩
                  have hlen2 : out2.length ≤ 300000000 := by
                    have h1 := HSK.out.2.2.1
                    rw [HJ.out.1, List.length_map, List.length_take]
                    omega
                  have hone := elE_one k _ _ _ _ hy9
                  have hBUr : Below U.heap.size U wr := ff6.trans (hq5.below.mono ff1)
                  have HQ := Lib.hid (And.intro hBUr (And.intro hown2 ff6.size))
                  have hUV := ff6.size
                  clear hq1 hq2 hq3 hq4 hrow3 hsmr hout3 hle3 hVw hwr3 ff2 ff3 ff4 ff5 ff6 hq5 hBUr hown2
                  go_wp2_with (at_builtin; refine wp_appg_e (elD (elE k) (fun b => b < H0 ∨ U.heap.size ≤ b)) rfl _ _ rfl 0 (.slice A2 out2.length c2) out2 rfl hO2 (unlE (.mk args fl r)) _ 1 _ rfl rfl _ rfl hy9 rfl hone hlen2 (Nat.zero_le _) ?_; intro g cap' w4 ho4 hb4 hk4 hg4; refine Hid.out ?_)
                  refine Lib.hid ?_
                  have HR := Lib.hid (And.intro ho4 (And.intro (below_own hb4 hk4 (fun g hg => (HQ.out.2.1 g hg).1) (by omega : U.heap.size ≤ wr.heap.size)) (own_app (n := out2.length + 1) (c := cap') hg4 (fun g hg => (HQ.out.2.1 g hg).1) (by omega : U.heap.size ≤ wr.heap.size))))
                  have hw : IntKind.i64.wrap ((j2 : Int) + 1) = (j2 : Int) + 1 := IntWalk.i64_in _ (by have := HSK.out.2.2.1; omega)
                  clear ho4 hb4 hk4 hg4 hO2 hy9 hone hlen2 y0 y1 y2 y3 y4 y5 y6 y7 y8
                  go_wp2_with fail
                  go_roundw
                  case rel =>
                    obtain ⟨r1, r2, r3⟩ := HR.out
                    refine ⟨j2 + 1, some ⟨g, 0, none⟩, cap', out2 ++ [unlE (.mk args fl r)], by go_num, by omega, by rw [List.length_append]; rfl, Lib.hid ⟨?_, ?_, ?_, ?_⟩⟩
                    · rw [HJ.out.1]; exact take_map_step HX.out.1
                    · rw [List.length_append]; exact r1
                    · rw [List.length_append]; exact r3
                    · exact HQ.out.1.trans r2
                  case measure => simp [intOf]; try omega
          · have kn : ¬ (j2 : Int) < (ents.length : Int) := by omega
            obtain ⟨z0, z1, z2, z3, z4, z5, z6⟩ := frozen7 bx
            have hout2 : out2 = ents.map unlE := by rw [HJ.out.1, take_map_all hjn2]
            have hle2 : out2.length ≤ 100000000 := by
              have h1 := HSK.out.2.2.1
              rw [hout2, List.length_map]
              omega
            have h0h := HH0.out
            have hrow2 := OwnE.rowD HJ.out.2.1 (fun g hg => .inr (HJ.out.2.2.1 g hg)) (by omega) (by unfold maxLen; omega)
            have hent := refEntries_any k (fun b => (b < H0 ∨ U.heap.size ≤ b) ∧ b < wr.heap.size) A2 c2 out2 wr (fun b hb => hb.2) (hrow2.sub (fun b hb => hb.2) fun j cs ⟨x, hx, hv⟩ => ⟨x, hx, hv⟩) hle2
            have HO2 := Lib.hid hout2
            have HBR := Lib.hid (And.intro hbr (And.intro hbwr (And.intro hsz (And.intro bx bz))))
            clear hrow2 hle2 hout2 hbr hbwr bx bz HJ HRE HRK
            go_wp2_with fail
            refine hent.mono ?_
            rintro e w3 ⟨A5, c5, rfl, hO5, hb3⟩
            have hb3s := hb3.size
            have bx3 := (hb3.block w.heap.size (by omega)).trans HBR.out.2.2.2.1
            have bz3 := (hb3.block (w.heap.size + 1) (by omega)).trans HBR.out.2.2.2.2
            have hm5 : (srtC cmpE out2).length ≤ maxLen := by
              have h1 := srtC_len (c := cmpE) out2
              have h2 := HSK.out.2.2.1
              have h3 : out2.length = ents.length := by rw [HO2.out, List.length_map]
              unfold maxLen
              omega
            have H5 := Lib.hid (And.intro (OwnE.row hO5 (by omega) hm5) hb3)
            generalize hl5 : (srtC cmpE out2).length = ln5 at *
            have HL5 := Lib.hid hl5
            clear hent hO5 hm5 hl5 hb3 e0 e1 e2 e3 e4 e5 e6 z0 z1 z2 z3 z4 z5 z6
            obtain ⟨V3, hV3⟩ : ∃ V3, V3 = w3.setCell ⟨w.heap.size, 5, none⟩ (.slice A5 ln5 c5) := ⟨_, rfl⟩
            have bx4 : V3.heap[w.heap.size]? = some (.cells #[.int .i64 kd, .int .i64 it, .string ⟨tx.toArray⟩, .slice Ao out.length cap, .slice Y keys.length cy, .slice A5 ln5 c5, .slice none 0 0] 27 (0, 0)) := by rw [hV3]; simpa using heap_setCell_same _ _ 5 _ _ (.slice A5 ln5 c5) bx3
            have bz4 : V3.heap[w.heap.size + 1]? = some (.cells #[.int .i64 0, .int .i64 0, .string ⟨#[]⟩, .slice none 0 0, .slice none 0 0, .slice none 0 0, .slice none 0 0] 27 (0, 0)) := by rw [hV3, heap_setCell_other _ _ _ _ (by simp)]; exact bz3
            have u5 := (cells7 bx3).2.2.2.2.2.1
            have v5 := (frozen7 bx3).2.2.2.2.2.1
            obtain ⟨t0, t1, t2, t3, t4, t5, t6⟩ := cells7 bx4
            obtain ⟨y0, y1, y2, y3, y4, y5, y6⟩ := cells7 bz4
            obtain ⟨x0, x1, x2, x3, x4, x5, x6⟩ := frozen7 bz4
            rw [hV3] at t0 t1 t2 t3 t4 t5 t6 y0 y1 y2 y3 y4 y5 y6 x0 x1 x2 x3 x4 x5 x6
            clear bx3 bz3
            go_wp2
            rw [← hV3]
            clear u5 v5 t0 t1 t2 t3 t4 t5 t6 y0 y1 y2 y3 y4 y5 y6 x0 x1 x2 x3 x4 x5 x6
            obtain ⟨V, hV⟩ : ∃ V, V = (((((((V3.setCell ⟨w.heap.size + 1, 0, none⟩ (Value.int .i64 kd)).setCell ⟨w.heap.size + 1, 1, none⟩ (Value.int .i64 it)).setCell ⟨w.heap.size + 1, 2, none⟩ (Value.string ⟨tx.toArray⟩)).setCell ⟨w.heap.size + 1, 3, none⟩ (Value.slice Ao out.length cap)).setCell ⟨w.heap.size + 1, 4, none⟩ (Value.slice Y keys.length cy)).setCell ⟨w.heap.size + 1, 5, none⟩ (Value.slice A5 ln5 c5)).setCell ⟨w.heap.size + 1, 6, none⟩ (Value.slice none 0 0)) := ⟨_, rfl⟩
            rw [← hV]
            have hob : V.heap[w.heap.size + 1]? = some (.cells #[Value.int .i64 kd, Value.int .i64 it, Value.string ⟨tx.toArray⟩, Value.slice Ao out.length cap, Value.slice Y keys.length cy, Value.slice A5 ln5 c5, Value.slice none 0 0] 27 (0, 0)) := by rw [hV]; exact obj7 bz4 (Value.int .i64 kd) (Value.int .i64 it) (Value.string ⟨tx.toArray⟩) (Value.slice Ao out.length cap) (Value.slice Y keys.length cy) (Value.slice A5 ln5 c5) (Value.slice none 0 0)
            have hB3 : Below w.heap.size w V3 := by rw [hV3]; exact (HBR.out.2.1.trans (H5.out.2.mono (by omega))).setCell (p := ⟨w.heap.size, 5, none⟩) (Nat.le_refl _) _
            have hBV : Below w.heap.size w V := by rw [hV]; exact Below.setCell (Below.setCell (Below.setCell (Below.setCell (Below.setCell (Below.setCell (Below.setCell (hB3) (p := ⟨w.heap.size + 1, 0, none⟩) (Nat.le_succ _) _) (p := ⟨w.heap.size + 1, 1, none⟩) (Nat.le_succ _) _) (p := ⟨w.heap.size + 1, 2, none⟩) (Nat.le_succ _) _) (p := ⟨w.heap.size + 1, 3, none⟩) (Nat.le_succ _) _) (p := ⟨w.heap.size + 1, 4, none⟩) (Nat.le_succ _) _) (p := ⟨w.heap.size + 1, 5, none⟩) (Nat.le_succ _) _) (p := ⟨w.heap.size + 1, 6, none⟩) (Nat.le_succ _) _
            have hsm : ∀ B : Nat → Prop, ¬ B w.heap.size → ¬ B (w.heap.size + 1) → Same B w3 V := fun B h h' => by
              have hsm0 : Same B w3 V3 := by rw [hV3]; exact same_setCell (Same.refl _ _) h
              rw [hV]; exact same_setCell (same_setCell (same_setCell (same_setCell (same_setCell (same_setCell (same_setCell (hsm0) h') h') h') h') h') h') h'
            have hzV : V.heap.size = w3.heap.size := by rw [hV]; simp; rw [hV3]; simp
            clear hV hV3
            obtain ⟨e0, e1, e2, e3, e4, e5, e6⟩ := cells7 hob
            refine bodyPost_ret (v := .agg #[Value.int .i64 kd, Value.int .i64 it, Value.string ⟨tx.toArray⟩, Value.slice Ao out.length cap, Value.slice Y keys.length cy, Value.slice A5 ln5 c5, Value.slice none 0 0]) (by simp [results, Tryz.results36, go_sem, e0, e1, e2, e3, e4, e5, e6]) rfl ?_
            have hu : unl (.mk kd it tx kids keys ents labs) = .mk kd it tx (kids.map unl) keys (srtC cmpE (ents.map unlE)) [] := by rw [unl, unlVs_map, unlEs_map]
            rw [hu]
            have hbU3 : Below U.heap.size U w3 := HBR.out.1.trans (H5.out.2.mono HBR.out.1.size)
            have hUs := HBU.out.2
            have hU3 := hbU3.size
            have hB9 : ∀ b, (b < H0 ∨ Btw w.heap.size U.heap.size b) → b < U.heap.size := fun b hb => by rcases hb with hb | hb; (omega); (exact hb.2)
            have hO2 := HO2.out
            have hL5 := HL5.out
            have hOT := HOUT.out
            subst hL5
            have hkq : RowB V (fun b => b < H0 ∨ Btw w.heap.size V.heap.size b) 7 (.slice Ao out.length cap) (kids.map unl).length (fun j cs => ∃ x, (kids.map unl)[j]? = some x ∧ VB k V (fun b => b < H0 ∨ Btw w.heap.size V.heap.size b) x cs) := by
              rw [← hOT]
              have hs1 : Same (fun b => b < H0 ∨ Btw (w.heap.size + 2) U.heap.size b) U V := (Same.of_below hbU3 (fun b hb => by rcases hb with hb | hb; (omega); (exact hb.2))).trans (hsm _ (fun h => by rcases h with h | h; (omega); (have := h.1; omega)) (fun h => by rcases h with h | h; (omega); (have := h.1; omega)))
              have hs2 : ∀ b, (b < H0 ∨ Btw (w.heap.size + 2) U.heap.size b) → (b < H0 ∨ Btw w.heap.size V.heap.size b) := fun b hb => by rcases hb with hb | hb; (exact .inl hb); (exact .inr ⟨by have := hb.1; omega, by have := hb.2; omega⟩)
              exact (HKR.out.keep hs1 fun _ _ h => h).sub hs2 fun j cs ⟨x, hx, hv⟩ => ⟨x, hx, VB.sub hs2 (Nat.le_refl _) (VB.keep hs1 hv)⟩
            have hyq : RowB V (fun b => b < H0 ∨ Btw w.heap.size V.heap.size b) 2 (.slice Y keys.length cy) keys.length _ := (HRY.out.keep (Same.trans (Same.of_below (HBR.out.2.1.trans (H5.out.2.mono (by omega))) fun b hb => by omega) (hsm _ (fun h => by omega) (fun h => by omega))) fun _ _ h => h).sub (fun b hb => .inl hb) fun _ _ h => h
            have heq : RowB V (fun b => b < H0 ∨ Btw w.heap.size V.heap.size b) 9 (.slice A5 (srtC cmpE (ents.map unlE)).length c5) (srtC cmpE (ents.map unlE)).length (fun j cs => ∃ args fails result, (srtC cmpE (ents.map unlE))[j]? = some (.mk args fails result) ∧ ∃ ua rs, cs = ua :: .bool fails :: rs ∧ RowB V (fun b => b < H0 ∨ Btw w.heap.size V.heap.size b) 7 ua args.length (fun j cs => ∃ x, args[j]? = some x ∧ VB k V (fun b => b < H0 ∨ Btw w.heap.size V.heap.size b) x cs) ∧ VB k V (fun b => b < H0 ∨ Btw w.heap.size V.heap.size b) result rs) := by
              rw [← hO2]
              have hr3 : Same (fun b => (b < H0 ∨ U.heap.size ≤ b) ∧ b < wr.heap.size) wr V := (Same.of_below H5.out.2 (fun b hb => hb.2)).trans (hsm _ (fun h => by rcases h.1 with h | h <;> omega) (fun h => by rcases h.1 with h | h <;> omega))
              have hs3 : ∀ b, ((b < H0 ∨ U.heap.size ≤ b) ∧ b < wr.heap.size) → (b < H0 ∨ Btw w.heap.size V.heap.size b) := fun b hb => by rcases hb.1 with h | h; (exact .inl h); (exact .inr ⟨by omega, by have := hb.2; omega⟩)
              refine (H5.out.1.keep (hsm _ (fun h => by have := h.1; omega) (fun h => by have := h.1; omega)) fun _ _ h => h).sub (fun b hb => .inr ⟨by have := hb.1; omega, by have := hb.2; omega⟩) ?_
              rintro j cs ⟨x, hx, hv⟩
              obtain ⟨args, fails, result, rfl, ua, rs, hcs, ha, hr⟩ := EnB.sub (EnB.keep hv hr3) hs3
              exact ⟨args, fails, result, hx, ua, rs, hcs, ha, hr⟩
            exact ⟨_, rfl, ⟨_, _, _, _, rfl, HWF.out.1, HWF.out.2.1, HWF.out.2.2, by rw [← hOT] at hkq ⊢; exact hkq, hyq, by rw [← hO2] at heq ⊢; exact heq, zeroRow _ _ _ _⟩, hBV⟩
end Go.Proofs.YtjfknigiehggkaaGreat
