/- The walk of ValueFunctions: Function of entries of drawn values, by the program and by the document. -/
import Derived.Test.YtjfknigiehggkaaGreatVf07
import Derived.Test.YtjfknigiehggkaaGreatVf23
import Derived.Test.YtjfknigiehggkaaGreatVf30
import Derived.Test.YtjfknigiehggkaaGreatVf32
import Derived.Test.YtjfknigiehggkaaGreatVf33
import Derived.Test.YtjfknigiehggkaaGreatVf34
import Derived.Laws.BitsLemmas
namespace Go.Proofs.YtjfknigiehggkaaGreat
open Go Go.RowKit
theorem smlEs_iff' : ∀ {l : List En}, smlEs l ↔ ∀ x ∈ l, smlE x
  | [] => by simp [smlEs]
  | a :: s => by rw [smlEs, smlEs_iff' (l := s)]; simp
/-- what a value is made of: its kids and its entries lie in rows -/
theorem vb_parts {k : Nat} {w : World} {B : Nat → Prop} {v : Vl} {cs : List Value} (h : VB (k + 1) w B v cs) (hok : okV v = true) (hs : sml v) :
    ∃ (kids : List Vl) (ents : List En) (a0 a1 : Int) (a2 : ByteArray) (P1 : Option Addr) (f1 g1 : Nat) (P2 : Option Addr) (f2 g2 : Nat) (P3 : Option Addr) (f3 g3 : Nat) (P4 : Option Addr) (f4 g4 : Nat),
      cs = [.int .i64 a0, .int .i64 a1, .string a2, .slice P1 f1 g1, .slice P2 f2 g2, .slice P3 f3 g3, .slice P4 f4 g4] ∧ f1 = kids.length ∧ f3 = ents.length ∧ RowB w B 7 (.slice P1 f1 g1) f1 (fun j cs => ∃ x, kids[j]? = some x ∧ VB k w B x cs) ∧
      RowB w B 9 (.slice P3 f3 g3) f3 (fun j cs => ∃ x, ents[j]? = some x ∧ EnB k x w B cs) ∧ (okVs kids = true ∧ smlVs kids ∧ kids.length ≤ 1048576) ∧ ((∀ x ∈ ents, okE x = true ∧ smlE x) ∧ ents.length ≤ 1048576) := by
  obtain ⟨kind, int, text, kids, keys, ents, labels⟩ := v
  obtain ⟨uk, uy, ue, ul, h1, h2, h3, h4, h5, h6, h7, h8⟩ := h
  obtain ⟨P1, g1, rfl, _⟩ := id h5
  obtain ⟨P2, g2, rfl, _⟩ := id h6
  obtain ⟨P3, g3, rfl, _⟩ := id h7
  obtain ⟨P4, g4, rfl, _⟩ := id h8
  unfold okV at hok
  unfold sml at hs
  simp only [Bool.and_eq_true] at hok
  have he := hok.2
  rw [okEs_all, List.all_eq_true] at he
  have hse := smlEs_iff'.1 hs.2.2.2.2.2
  exact ⟨kids, ents, kind, int, _, P1, _, g1, P2, _, g2, P3, _, g3, P4, _, g4, h1, rfl, rfl, h5, h7.sub (fun _ h => h) fun j cs ⟨a, f, r, hx, hh⟩ => ⟨_, hx, a, f, r, rfl, hh⟩, ⟨hok.1.2, hs.2.2.2.2.1, hs.1⟩, fun x hx => ⟨he x hx, hse x hx⟩, hs.2.2.1⟩
theorem OwnE.row' {α : Type} {K : ElK α} {e : TypeId} {c : Nat} {w : World} {base : Nat} {v : Value} {l : List α} (h : OwnE K e c w base v l) (hc : 0 < c) (hn : l.length ≤ maxLen) :
    RowB w (Btw base w.heap.size) c v l.length (fun j cs => ∃ x, l[j]? = some x ∧ K.E x w (fun b => base ≤ b ∧ b < w.heap.size ∧ some b ≠ v.ownBlock) cs) := by
  obtain ⟨xs, ho, hx⟩ := h
  exact row_of_owns ho hn (fun g _ h1 h2 => ⟨h1, h2⟩) (fun j hj => ⟨l[j], List.getElem?_eq_getElem hj, hx j _ (List.getElem?_eq_getElem hj)⟩) hc
theorem land_one (x : Int) : ∃ kb : Nat, kb ≤ 1 ∧ bits .and .i64 x 1 = (kb : Int) := by
  unfold bits
  simp
  have e : 1 % 2 ^ IntKind.i64.bits = 1 := by decide
  rw [e, Nat.and_one_is_mod]
  generalize (x % 2 ^ IntKind.i64.bits).toNat = m
  exact ⟨m % 2, by omega, IntWalk.i64_in _ (by omega)⟩
theorem own_at9 {k : Nat} {w : World} {base g n cap : Nat} {l : List En} (h : OwnEn k w base (.slice (some ⟨g, 0, none⟩) n cap) l) (hn : l.length = n) (hm : n ≤ maxLen) {j : Nat} (hj : j < n) :
    ∃ (y : En) (E1 : Option Addr) (r1 r2 : Nat) (b0 : Bool) (b1 b2 : Int) (b3 : ByteArray) (E2 : Option Addr) (r3 r4 : Nat) (E3 : Option Addr) (r5 r6 : Nat) (E4 : Option Addr) (r7 r8 : Nat) (E5 : Option Addr) (r9 r10 : Nat), l[j]? = some y ∧ (elE k).E y w (fun b => base ≤ b ∧ b < w.heap.size ∧ some b ≠ some g) [.slice E1 r1 r2, .bool b0, .int .i64 b1, .int .i64 b2, .string b3, .slice E2 r3 r4, .slice E3 r5 r6, .slice E4 r7 r8, .slice E5 r9 r10] ∧
      w.cell? ⟨g, j * 9, none⟩ = some (.slice E1 r1 r2) ∧ w.cell? ⟨g, j * 9 + 1, none⟩ = some (.bool b0) ∧ w.cell? ⟨g, j * 9 + 2, none⟩ = some (.int .i64 b1) ∧ w.cell? ⟨g, j * 9 + 3, none⟩ = some (.int .i64 b2) ∧ w.cell? ⟨g, j * 9 + 4, none⟩ = some (.string b3) ∧ w.cell? ⟨g, j * 9 + 5, none⟩ = some (.slice E2 r3 r4) ∧ w.cell? ⟨g, j * 9 + 6, none⟩ = some (.slice E3 r5 r6) ∧ w.cell? ⟨g, j * 9 + 7, none⟩ = some (.slice E4 r7 r8) ∧ w.cell? ⟨g, j * 9 + 8, none⟩ = some (.slice E5 r9 r10) := by
  have hr := OwnE.row' h (by omega) (by omega)
  rw [hn] at hr
  obtain ⟨A', cap', e1, _, e3⟩ := hr
  obtain ⟨b, off, e4, _, _, e5⟩ := e3 (by omega)
  injection e1 with e6 _ _
  rw [← e6] at e4
  injection e4 with e4
  injection e4 with e7 e8 _
  subst e7
  subst e8
  obtain ⟨cs, hcs, hcell, y, hy, hE⟩ := e5 j hj
  obtain ⟨E1, r1, r2, b0, b1, b2, b3, E2, r3, r4, E3, r5, r6, E4, r7, r8, E5, r9, r10, rfl⟩ := EB.form9 hE
  simp only [Nat.zero_add] at hcell
  exact ⟨y, E1, r1, r2, b0, b1, b2, b3, E2, r3, r4, E3, r5, r6, E4, r7, r8, E5, r9, r10, hy, hE, hcell 0 (by omega), hcell 1 (by omega), hcell 2 (by omega), hcell 3 (by omega), hcell 4 (by omega), hcell 5 (by omega), hcell 6 (by omega), hcell 7 (by omega), hcell 8 (by omega)⟩
theorem mem_swap {α : Type} {l : List α} {y z : α} {kb : Nat} (h0 : l[0]? = some y) (h1 : l[kb]? = some z) (hk : kb ≤ 1) (x : α) : x ∈ (l.set 0 z).set kb y ↔ x ∈ l := by
  rcases l with _ | ⟨a, t⟩
  · simp at h0
  · have hk' : kb = 0 ∨ kb = 1 := by omega
    rcases hk' with rfl | rfl
    · simp at h0 h1
      subst h0
      simp
    · rcases t with _ | ⟨b, t⟩
      · simp at h1
      · simp at h0 h1
        subst h0
        subst h1
        simp
        constructor <;> rintro (h | h | h) <;> simp [h]
theorem funB_congr {a : Int} {l m : List En} (h : ∀ x, x ∈ l ↔ x ∈ m) : funB a l = funB a m := by
  unfold funB
  congr 1
  rw [Bool.eq_iff_iff, List.all_eq_true, List.all_eq_true]
  exact ⟨fun H x hx => H x ((h x).2 hx), fun H x hx => H x ((h x).1 hx)⟩
theorem funR_congr {k lo : Nat} {a : Int} {l m : List En} (h : ∀ x, x ∈ l ↔ x ∈ m) (w : World) : FunR k lo a l w = FunR k lo a m w := by
  unfold FunR
  rw [funB_congr h, srtC_congr totE h]
theorem okV_funV {a : Int} {l : List En} (hf : funB a l = true) (hk : ∀ x ∈ l, okE x = true) : okV (funV a (srtC cmpE l)) = true := by
  have h1 : okEs (srtC cmpE l) = true := by rw [okEs_all, List.all_eq_true]; exact fun x hx => hk x ((mem_srtC totE l x).1 hx)
  unfold funB at hf
  simp only [Bool.and_eq_true] at hf
  have h2 : (srtC cmpE l).all (entB a) = true := by rw [List.all_eq_true] at *; exact fun x hx => hf.2 x ((mem_srtC totE l x).1 hx)
  have h3 := asc_srtC totE l
  have h0 := hf.1
  unfold funV
  simp [okV, labelsB, usesB, kindB, okVs, h1, h2, AscC] at *
  exact ⟨h0, decide_eq_true h3⟩
set_option maxRecDepth 100000 in
set_option maxHeartbeats 12800000 in
theorem functions_law (hD : Hid (∀ h p (W : World), SrcOk h p W → Calls Tryz.prog 29 #[.pointer (some ⟨p, 0, none⟩), .int .i64 3] W (DrawR 3 h p W))) (a kk : Int) (ha : (Lit.int .i64 a).wf = true) (hkk : (Lit.int .i64 kk).wf = true) (A0 : Option Addr) (n c0 : Nat) (w : World) (hR : RowII w A0 n c0) :
    Calls Tryz.prog 6 #[.int .i64 a, .slice A0 n c0, .int .i64 kk] w fun e w' => e = .returned (.bool true) ∧ Below w.heap.size w w' := by
  have HR := Lib.hid hR
  have HAK := Lib.hid (And.intro ha hkk)
  clear hR ha hkk
  by_cases h1 : 8 < n
  · have q1 : decide ((8 : Int) < (n : Int)) = true := by rw [decide_eq_true_eq]; omega
    clear h1 hD
    go_enter Tryz.func6, Tryz.ntmps6
    go_wp2_with (go_at_call 9; refine (awake_any w).mono ?_; rintro e w1 ⟨rfl, hb1⟩; refine Hid.out ?_)
    refine Lib.hid ?_
    go_wp2
    go_ret
    exact ⟨rfl, hb1⟩
  have q1 : decide ((8 : Int) < (n : Int)) = false := by rw [decide_eq_false_iff_not]; omega
  have HH := Lib.hid (show n ≤ 8 by omega)
  clear h1
  go_enter Tryz.func6, Tryz.ntmps6
  go_wp2_with fail
  clear q1
  go_loopw [7, 8] (fun l i wr => ∃ (j : Nat) (A1 : Option Addr) (c1 : Nat) (es : List En), l = .slice A1 es.length c1 ∧ i = .int .i64 j ∧ j ≤ n ∧ es.length ≤ j * 1048577 ∧ OwnEn 3 wr w.heap.size (.slice A1 es.length c1) es ∧ (∀ x ∈ es, okE x = true ∧ smlE x) ∧ Below w.heap.size w wr) (fun _ i _ => n - (intOf i).toNat)
  case atStart => exact ⟨0, none, 0, [], rfl, rfl, Nat.zero_le _, Nat.zero_le _, OwnE.nil _ _ _ _ _, by simp, Below.refl _ _⟩
  case round =>
    obtain ⟨j, A1, c1, es, rfl, rfl, hj, hla, hO, hall, hb⟩ := hrel
    have HALL := Lib.hid hall
    have HO := Lib.hid hO
    have hbs := hb.size
    generalize hlb : es.length = la at *
    have HLB := Lib.hid (And.intro hlb hla)
    clear hall hO hla hlb
    by_cases hjn : j < n
    · obtain ⟨bo, oo, co, u0, hu, hbo, ⟨A', n', c', hcs, hRow⟩, d0⟩ := RowB.at1 HR.out hjn
      injection hu with g1 g2 g3
      subst g1
      clear g2 g3
      simp only [List.cons.injEq, and_true] at hcs
      subst hcs
      have kn' : (j : Int) < (n : Int) := by omega
      have kp : (0 : Int) ≤ (j : Int) := by omega
      have x0 : wr.cell? ⟨bo, oo + j, none⟩ = some (.slice A' n' c') := (hb.cell (p := ⟨bo, _, none⟩) hbo).trans d0
      have hRw := (hRow.on hb fun _ _ h => h).mono hb.size (fun _ _ h => h)
      have hnl := hRow.form
      by_cases h40 : 40 < n'
      · have q3 : decide ((40 : Int) < (n' : Int)) = true := by rw [decide_eq_true_eq]; omega
        have HB := Lib.hid hb
        clear hRw hRow hnl h40 d0
        go_wp2_with (go_at_call 9; refine (awake_any wr).mono ?_; rintro e w1 ⟨rfl, hb1⟩; refine Hid.out ?_)
        refine Lib.hid ?_
        go_wp2
        go_ret
        exact ⟨rfl, HB.out.trans (hb1.mono hbs)⟩
      · have q3 : decide ((40 : Int) < (n' : Int)) = false := by simp; omega
        obtain ⟨w0, hw0⟩ : ∃ V, V = wr.alloc (.cells #[.slice A' n' c', .int .i64 0] 52) := ⟨_, rfl⟩
        have hb0 : Below wr.heap.size wr w0 := by rw [hw0]; exact (Below.refl _ _).alloc (Nat.le_refl _) _
        have hz0 : w0.heap.size = wr.heap.size + 1 := by rw [hw0]; simp
        have ks : w0.heap[wr.heap.size]? = some (.cells #[.slice A' n' c', .int .i64 0] 52 (0, 0)) := by rw [hw0]; exact heap_alloc_new wr _
        have hS0 : SrcOk wr.heap.size wr.heap.size w0 := ⟨A', n', c', 0, ks, Nat.le_refl _, Nat.zero_le _, by unfold maxLen; omega, hRw.on hb0 fun _ _ h => h⟩
        have hvc := hD.out wr.heap.size wr.heap.size w0 hS0
        have HB := Lib.hid hb
        have HB0 := Lib.hid (And.intro hb0 hz0)
        clear hRw hRow hnl h40 d0 hS0 ks hb0 hz0 hb
        go_wp2_with fail
        rw [← hw0]
        clear hw0 x0
        refine hvc.mono ?_
        rintro e w1 ⟨⟨v, cs, rfl, hvb, hok, hsm⟩, _, hE1⟩
        clear hvc
        have hb1 : Below wr.heap.size wr w1 := HB0.out.1.trans hE1.below
        have hz1 : wr.heap.size < w1.heap.size := by have := hE1.size; have := HB0.out.2; omega
        clear hE1
        obtain ⟨kids, ents, a0, a1, a2, P1, f1, g1, P2, f2, g2, P3, f3, g3, P4, f4, g4, rfl, hf1, hf3, hKids, hEnts, hK2, hE2⟩ := vb_parts hvb hok hsm
        obtain ⟨w2, hw2⟩ : ∃ V, V = w1.alloc (.cells #[.int .i64 a0, .int .i64 a1, .string a2, .slice P1 f1 g1, .slice P2 f2 g2, .slice P3 f3 g3, .slice P4 f4 g4] 27) := ⟨_, rfl⟩
        have hb2 : Below w1.heap.size w1 w2 := by rw [hw2]; exact (Below.refl _ _).alloc (Nat.le_refl _) _
        have hz2 : w2.heap.size = w1.heap.size + 1 := by rw [hw2]; simp
        have k2 : w2.heap[w1.heap.size]? = some (.cells #[.int .i64 a0, .int .i64 a1, .string a2, .slice P1 f1 g1, .slice P2 f2 g2, .slice P3 f3 g3, .slice P4 f4 g4] 27 (0, 0)) := by rw [hw2]; exact heap_alloc_new w1 _
        have hO2 : OwnEn 3 w2 w.heap.size (.slice A1 la c1) es := (HO.out.old hb1).old hb2
        have hblk := hO2.blk
        have hblk0 : ∀ b, (Value.slice A1 la c1).ownBlock = some b → b < wr.heap.size := fun b h => (HO.out.blk b h).2
        have hBB : ∀ b, Btw (wr.heap.size + 1) w1.heap.size b → w.heap.size ≤ b ∧ b < w2.heap.size ∧ some b ≠ (Value.slice A1 la c1).ownBlock := fun b hb => ⟨by have := hb.1; omega, by have := hb.2; omega, fun e => by have := hblk0 b e.symm; have := hb.1; omega⟩
        have hB0 : w0.heap.size = wr.heap.size + 1 := HB0.out.2
        rw [hB0] at hvb hKids hEnts
        have hSm : Same (Btw (wr.heap.size + 1) w1.heap.size) w1 w2 := Same.of_below hb2 fun b h => h.2
        have hEnts2 : RowB w2 (Btw (wr.heap.size + 1) w1.heap.size) 9 (.slice P3 f3 g3) f3 (fun j cs => ∃ x, ents[j]? = some x ∧ (elE 3).E x w2 (fun b => w.heap.size ≤ b ∧ b < w2.heap.size ∧ some b ≠ (Value.slice A1 la c1).ownBlock) cs) :=
          hEnts.keep hSm fun j cs ⟨x, hx, hv⟩ => ⟨x, hx, EB.sub hBB (Nat.le_succ 2) (EB.keep hSm hv)⟩
        have hV2 := VB.keep hSm hvb
        have hKids2 := hKids.keep hSm fun j cs ⟨x, hx, hv⟩ => (⟨x, hx, VB.keep hSm hv⟩ : ∃ x, kids[j]? = some x ∧ VB 2 w2 (Btw (wr.heap.size + 1) w1.heap.size) x cs)
        have hb02 : Below w.heap.size w w2 := HB.out.trans ((hb1.trans (hb2.mono (by omega))).mono hbs)
        have hlen2 : es.length + f3 ≤ 300000000 := by
          have h1 := HLB.out.1; have h2 := HLB.out.2; have h3 := hE2.2; have h4 := HH.out
          have h5 : j * 1048577 ≤ 8 * 1048577 := Nat.mul_le_mul_right _ (by omega)
          omega
        have HE := Lib.hid (And.intro hf3 hE2)
        have HKD := Lib.hid (And.intro hf1 (And.intro hK2 (And.intro hok hsm)))
        clear hvb hKids hEnts hb1 hb2 hSm hblk hf1 hf3 hE2 hK2 hok hsm hblk0
        have k2' := k2
        rw [hw2] at k2' hO2 hEnts2 hBB
        obtain ⟨t0, t1, t2, t3, t4, t5, t6⟩ := cells7 k2'
        have hbw2 : w.heap.size ≤ (w1.alloc (.cells #[.int .i64 a0, .int .i64 a1, .string a2, .slice P1 f1 g1, .slice P2 f2 g2, .slice P3 f3 g3, .slice P4 f4 g4] 27)).heap.size := by rw [← hw2]; exact hb02.size
        have hla : es.length = la := HLB.out.1
        rw [← hla] at hO2 hEnts2
        go_wp2_with (at_builtin; refine wp_row_e rfl _ _ rfl 3 w.heap.size (.slice A1 es.length c1) es (by rw [hla]; rfl) hO2 P3 f3 g3 ents HE.out.1.symm (Btw (wr.heap.size + 1) w1.heap.size) rfl hEnts2 hlen2 hbw2 ?_; intro v3 w3 ho3 hb3 hk3 hg3; refine Hid.out ?_)
        refine Lib.hid ?_
        have hown0 : ∀ b, (Value.slice A1 es.length c1).ownBlock = some b → b < wr.heap.size := fun b h => (HO.out.blk b (by rw [← hla]; exact h)).2
        have hz2' : (w1.alloc (.cells #[.int .i64 a0, .int .i64 a1, .string a2, .slice P1 f1 g1, .slice P2 f2 g2, .slice P3 f3 g3, .slice P4 f4 g4] 27)).heap.size = w1.heap.size + 1 := by rw [← hw2]; exact hz2
        have k3 : w3.heap[w1.heap.size]? = some (.cells #[.int .i64 a0, .int .i64 a1, .string a2, .slice P1 f1 g1, .slice P2 f2 g2, .slice P3 f3 g3, .slice P4 f4 g4] 27 (0, 0)) := (hk3 _ (by omega) fun e => by have := hown0 _ e.symm; omega).trans k2'
        have hSm3 : Same (Btw (wr.heap.size + 1) w1.heap.size) w2 w3 := ⟨by rw [hw2]; exact hb3.size, fun b i hB hl => World.cell?_of_block (by rw [hw2]; exact hk3 b (by have := hB.2; omega) fun e => by have := hown0 _ e.symm; have := hB.1; omega)⟩
        have hV3 := VB.keep hSm3 hV2
        have hKids3 := hKids2.keep hSm3 fun j cs ⟨x, hx, hv⟩ => (⟨x, hx, VB.keep hSm3 hv⟩ : ∃ x, kids[j]? = some x ∧ VB 2 w3 (Btw (wr.heap.size + 1) w1.heap.size) x cs)
        have hb03 : Below w.heap.size w w3 := hb02.trans ((by rw [hw2]; exact hb3 : Below w.heap.size w2 w3))
        have hz3 : w1.heap.size + 1 ≤ w3.heap.size := by have := hb3.size; omega
        have hBB3 : ∀ b, Btw (wr.heap.size + 1) w1.heap.size b → w.heap.size ≤ b ∧ b < w3.heap.size ∧ some b ≠ v3.ownBlock := fun b hb => ⟨by have := hb.1; omega, by have := hb.2; omega, fun e => by
          rcases hg3 b e.symm with h | h
          · have := hown0 b h; have := hb.1; omega
          · have := hb.2; omega⟩
        have hlen3 : (es ++ ents).length ≤ 300000000 := by rw [List.length_append, ← HE.out.1]; exact hlen2
        obtain ⟨A3, c3, rfl⟩ := ho3.form
        generalize hes2 : es ++ ents = es2 at *
        have HES := Lib.hid hes2
        have hEn : (elE 3).E (.mk kids false v) w3 (fun b => w.heap.size ≤ b ∧ b < w3.heap.size ∧ some b ≠ (Value.slice A3 es2.length c3).ownBlock) [.slice P1 f1 g1, .bool false, .int .i64 a0, .int .i64 a1, .string a2, .slice P1 f1 g1, .slice P2 f2 g2, .slice P3 f3 g3, .slice P4 f4 g4] :=
          ⟨kids, false, v, rfl, .slice P1 f1 g1, _, rfl, by rw [← HKD.out.1]; exact hKids3.sub hBB3 fun j cs ⟨x, hx, hv⟩ => ⟨x, hx, VB.sub hBB3 (Nat.le_succ 2) hv⟩, VB.sub hBB3 (Nat.le_refl 3) hV3⟩
        have HB3 := Lib.hid (And.intro hb03 hbs)
        have hsz3 : w.heap.size ≤ w3.heap.size := hb03.size
        clear hla hO2 hEnts2 hBB hBB3 hV2 hKids2 hV3 hKids3 hSm3 hb3 hk3 hg3 hz2 hz2' hz3 k2 k2' hw2 hb02 hb03 hlen2 hown0 t0 t1 t2 t3 t4 t5 t6 hes2 hbw2 hB0 hbs hz1
        obtain ⟨t0, t1, t2, t3, t4, t5, t6⟩ := cells7 k3
        clear k3
        go_wp2_with (at_builtin; refine wp_app_e rfl _ _ rfl 3 w.heap.size (.slice A3 es2.length c3) es2 rfl ho3 (.mk kids false v) _ 1 _ rfl rfl _ rfl hEn rfl (elE_one 3 _ _ _ _ hEn) hlen3 hsz3 ?_; intro g cap w4 ho4 hb4 _ _; refine Hid.out ?_)
        refine Lib.hid ?_
        have HR4 := Lib.hid (And.intro ho4 (HB3.out.1.trans hb4))
        have hw : IntKind.i64.wrap ((j : Int) + 1) = (j : Int) + 1 := IntWalk.i64_in _ (by have := HH.out; omega)
        clear ho4 hb4 ho3 hEn hlen3 hsz3 t0 t1 t2 t3 t4 t5 t6
        go_wp2_with fail
        go_roundw
        case rel =>
          obtain ⟨r1, r2⟩ := HR4.out
          refine ⟨j + 1, some ⟨g, 0, none⟩, cap, es2 ++ [.mk kids false v], by rw [List.length_append]; rfl, by go_num, by omega, ?_, by rw [List.length_append]; exact r1, ?_, r2⟩
          · have h1 := HLB.out.1; have h2 := HLB.out.2; have h3 := HE.out.2.2
            rw [← HES.out, List.length_append, List.length_append, List.length_singleton, Nat.add_mul]
            omega
          · intro x hx
            rcases List.mem_append.1 hx with hx | hx
            · rw [← HES.out] at hx
              rcases List.mem_append.1 hx with hx | hx
              · exact HALL.out x hx
              · exact HE.out.2.1 x hx
            · rw [List.mem_singleton.1 hx]
              obtain ⟨_, ⟨q1, q2, q3⟩, q4, q5⟩ := HKD.out
              exact ⟨by unfold okE; rw [q1, q4]; rfl, by unfold smlE; exact ⟨q3, q2, q5⟩⟩
        case measure => simp [intOf]; try omega
    · obtain rfl : j = n := by omega
      have hlen : es.length ≤ 8388616 := by
        have h1 := HLB.out.1; have h2 := HLB.out.2; have h4 := HH.out
        have h5 : j * 1048577 ≤ 8 * 1048577 := Nat.mul_le_mul_right _ (by omega)
        omega
      have hP0 : RowP wr wr.heap.size 9 (.slice A1 es.length c1) es.length (fun q cs => ∃ x, es[q]? = some x ∧ ES 3 wr wr.heap.size x cs) := by
        have hr := OwnE.row (v := .slice A1 es.length c1) (by rw [HLB.out.1]; exact HO.out) (by omega) (by unfold maxLen; omega)
        exact RowB.sub hr (fun b hb => hb.2) (fun q cs ⟨x, hx, hv⟩ => ⟨x, hx, EB.sub (fun b hb => hb.2) (Nat.le_refl _) hv⟩)
      have HP : Hid (∀ V, Below wr.heap.size wr V → RowP V V.heap.size 9 (.slice A1 es.length c1) es.length (fun q cs => ∃ x, es[q]? = some x ∧ ES 3 V V.heap.size x cs)) := Lib.hid fun V hV => (hP0.on hV fun _ _ ⟨x, h1, h2⟩ => ⟨x, h1, ES.up hV.size (Nat.le_refl _) (ES.on hV h2)⟩).mono hV.size fun _ _ h => h
      have hsml : smlEs es := smlEs_iff'.2 fun x hx => (HALL.out x hx).2
      have hm := functionP_any 2 a A1 c1 es wr hP0 (by omega) HAK.out.1 hsml
      have HRF : Hid (∀ V, Below wr.heap.size wr V → Calls Tryz.prog 31 #[.int .i64 a, .slice A1 la c1] V (FunR 3 0 a es V)) := Lib.hid fun V hV => by
        have h := refFunction_any 3 0 a A1 c1 es V (Nat.zero_le _) (RowB.sub (HP.out V hV) (fun b hb => ⟨Nat.zero_le _, hb⟩) fun _ _ ⟨x, h1, h2⟩ => ⟨x, h1, EB.sub (fun b hb => ⟨Nat.zero_le _, hb⟩) (Nat.le_refl _) h2⟩) (by omega) HAK.out.1
        rw [HLB.out.1] at h
        exact h
      rw [HLB.out.1] at hm
      have HB := Lib.hid hb
      have HLEN := Lib.hid hlen
      clear hP0 hb hsml hjn hj hlen
      go_wp2_with fail
      refine hm.mono ?_
      rintro e w2 ⟨hb2, hcase⟩
      clear hm
      have HB2 := Lib.hid hb2
      clear hb2
      rcases hcase with ⟨hF, cs, rfl, hv⟩ | ⟨hF, rfl⟩
      · have HF := Lib.hid hF
        clear hF
        obtain ⟨a2, i2, s2, P1, m1, e1, P2, m2, e2, P3, m3, e3, P4, m4, e4, rfl⟩ := hv.form7
        have HV := Lib.hid hv
        clear hv
        go_wp2_with fail
        obtain ⟨w3, hw3⟩ : ∃ V, V = w2.alloc (.cells #[.int .i64 a2, .int .i64 i2, .string s2, .slice P1 m1 e1, .slice P2 m2 e2, .slice P3 m3 e3, .slice P4 m4 e4] 27) := ⟨_, rfl⟩
        have hb3 : Below w2.heap.size w2 w3 := by rw [hw3]; exact (Below.refl _ _).alloc (Nat.le_refl _) _
        have hz3 : w3.heap.size = w2.heap.size + 1 := by rw [hw3]; simp
        have k3 : w3.heap[w2.heap.size]? = some (.cells #[.int .i64 a2, .int .i64 i2, .string s2, .slice P1 m1 e1, .slice P2 m2 e2, .slice P3 m3 e3, .slice P4 m4 e4] 27 (0, 0)) := by rw [hw3]; exact heap_alloc_new w2 _
        rw [← hw3]
        clear hw3
        have HB3 : Hid (Below wr.heap.size wr w3) := Lib.hid (HB2.out.trans (hb3.mono HB2.out.size))
        refine (HRF.out w3 HB3.out).mono ?_
        rintro e w4 ⟨hb4, hcase⟩
        rcases hcase with ⟨hF', cs', rfl, hv'⟩ | ⟨hF', rfl⟩
        · have hz4 := hb4.size
          have k4 : w4.heap[w2.heap.size]? = some (.cells #[.int .i64 a2, .int .i64 i2, .string s2, .slice P1 m1 e1, .slice P2 m2 e2, .slice P3 m3 e3, .slice P4 m4 e4] 27 (0, 0)) := (hb4.block _ (by omega)).trans k3
          have HB4 : Hid (Below wr.heap.size wr w4) := Lib.hid (HB3.out.trans (hb4.mono HB3.out.size))
          obtain ⟨a3, i3, s3, Q1, n1, f1, Q2, n2, f2, Q3, n3, f3, Q4, n4, f4, rfl⟩ := hv'.form7
          have HV' := Lib.hid hv'
          have HB34 := Lib.hid hb4
          have HB23 := Lib.hid hb3
          clear hv'
          obtain ⟨w5, hw5⟩ : ∃ V, V = w4.alloc (.cells #[.int .i64 a3, .int .i64 i3, .string s3, .slice Q1 n1 f1, .slice Q2 n2 f2, .slice Q3 n3 f3, .slice Q4 n4 f4] 27) := ⟨_, rfl⟩
          have hb5 : Below w4.heap.size w4 w5 := by rw [hw5]; exact (Below.refl _ _).alloc (Nat.le_refl _) _
          have k5 : w5.heap[w2.heap.size]? = some (.cells #[.int .i64 a2, .int .i64 i2, .string s2, .slice P1 m1 e1, .slice P2 m2 e2, .slice P3 m3 e3, .slice P4 m4 e4] 27 (0, 0)) := (hb5.block _ (by omega)).trans k4
          have k5' := k5
          rw [hw5] at k5'
          obtain ⟨t0, t1, t2, t3, t4, t5, t6⟩ := cells7 k5'
          have hz5 : w2.heap.size < w5.heap.size := by have := hb5.size; omega
          have HB5 : Hid (Below wr.heap.size wr w5) := Lib.hid (HB4.out.trans (hb5.mono HB4.out.size))
          have HKM : Hid (∀ V, Below w5.heap.size w5 V → V.heap[w2.heap.size]? = some (.cells #[.int .i64 a2, .int .i64 i2, .string s2, .slice P1 m1 e1, .slice P2 m2 e2, .slice P3 m3 e3, .slice P4 m4 e4] 27 (0, 0))) := Lib.hid fun V hV => (hV.block _ hz5).trans k5
          have HVV : Hid (∀ V, Below w5.heap.size w5 V → VB 4 V (Btw wr.heap.size w2.heap.size) (funV a (srtC cmpE es)) [.int .i64 a2, .int .i64 i2, .string s2, .slice P1 m1 e1, .slice P2 m2 e2, .slice P3 m3 e3, .slice P4 m4 e4]) := Lib.hid fun V hV => by
            have hh : Below w2.heap.size w2 V := hb3.trans ((hb4.trans ((hb5.trans (hV.mono hb5.size)).mono hb4.size)).mono hb3.size)
            exact VB.keep (Same.of_below hh fun b h => h.2) HV.out
          have hEq := refEqual_any 4 (funV a (srtC cmpE es)) (funV a (srtC cmpE es)) [.int .i64 a2, .int .i64 i2, .string s2, .slice P1 m1 e1, .slice P2 m2 e2, .slice P3 m3 e3, .slice P4 m4 e4] [.int .i64 a3, .int .i64 i3, .string s3, .slice Q1 n1 f1, .slice Q2 n2 f2, .slice Q3 n3 f3, .slice Q4 n4 f4] w5 (VB.sub (fun b hb => Nat.lt_trans hb.2 hz5) (Nat.le_refl _) (HVV.out w5 (Below.refl _ _))) (VS.up hb5.size (Nat.le_refl _) (VS.on hb5 (VB.sub (fun b hb => hb.2) (Nat.le_refl _) HV'.out)))
          rw [decide_eq_true (cmpV_zero.2 rfl)] at hEq
          clear hb3 hb4 hb5 k3 k4 k5 k5' hz3 hz4 hz5
          by_cases h1 : 1 < la
          · have q1 : decide ((1 : Int) < (la : Int)) = true := by rw [decide_eq_true_eq]; omega
            go_wp2_with fail
            rw [← hw5]
            clear hw5 t0 t1 t2 t3 t4 t5 t6
            refine hEq.mono ?_
            rintro e w6 ⟨rfl, hb6⟩
            clear hEq
            have HB6 := Lib.hid hb6
            clear hb6
            obtain ⟨kb, hkb, hbk⟩ := land_one kk
            have hlm : la ≤ maxLen := by have := HLEN.out; rw [HLB.out.1] at this; unfold maxLen; omega
            obtain ⟨g, hg⟩ : ∃ g, A1 = some ⟨g, 0, none⟩ := by
              obtain ⟨xs, ho, _⟩ := HO.out
              rcases ho.2 with ⟨_, hn0⟩ | ⟨g, cap, cur, hs, _⟩
              · have := HLB.out.1; omega
              · injection hs with h1 _ _
                exact ⟨g, h1⟩
            subst hg
            have hO6 : OwnEn 3 w6 w.heap.size (.slice (some ⟨g, 0, none⟩) la c1) es := HO.out.old (HB5.out.trans (HB6.out.mono HB5.out.size))
            have hk0 : (kb : Int) < (la : Int) := by omega
            have hk1 : (0 : Int) ≤ (kb : Int) := by omega
            have hk2 : 0 < la := by omega
            have hfz : ∀ j, w6.frozen? ⟨g, j, none⟩ = false := fun j => by obtain ⟨xs, ho, _⟩ := hO6; rw [HLB.out.1] at ho; exact ho.frozenAt j
            obtain ⟨y, E1, r1, r2, b0, b1, b2, b3, E2, r3, r4, E3, r5, r6, E4, r7, r8, E5, r9, r10, hy, hE, x0, x1, x2, x3, x4, x5, x6, x7, x8⟩ := own_at9 hO6 HLB.out.1 hlm (show 0 < la by omega)
            obtain ⟨z, G1, y1, y2, d0, d1, d2, d3, G2, y3, y4, G3, y5, y6, G4, y7, y8, G5, y9, y10, hz, hEz, u0, u1, u2, u3, u4, u5, u6', u7, u8⟩ := own_at9 hO6 HLB.out.1 hlm (show kb < la by omega)
            simp only [Nat.zero_mul, Nat.zero_add] at x0 x1 x2 x3 x4 x5 x6 x7 x8
            have HSW := Lib.hid (And.intro hO6 (And.intro hE (And.intro hEz (And.intro hy (And.intro hz hkb)))))
            have HG : Hid (g < wr.heap.size) := Lib.hid (HO.out.blk g rfl).2
            clear hO6 hE hEz hy hz hlm hkb
            have f0 := hfz 0
            have f1 := hfz 1
            have f2 := hfz 2
            have f3 := hfz 3
            have f4 := hfz 4
            have f5 := hfz 5
            have f6 := hfz 6
            have f7 := hfz 7
            have f8 := hfz 8
            have ff0 := hfz (kb * 9)
            have ff1 := hfz (kb * 9 + 1)
            have ff2 := hfz (kb * 9 + 2)
            have ff3 := hfz (kb * 9 + 3)
            have ff4 := hfz (kb * 9 + 4)
            have ff5 := hfz (kb * 9 + 5)
            have ff6 := hfz (kb * 9 + 6)
            have ff7 := hfz (kb * 9 + 7)
            have ff8 := hfz (kb * 9 + 8)
            clear hfz
            go_wp2_with fail
            refine wp_region_held_drew (S := fun _ => True) (by kernel_rfl) trivial (fun hHeld => ?_)
            try simp only [Act.put, pA, pB, pC]
            refine tk 0 trivial ?_
            try simp only [Act.put, pA, pB, pC]
            refine tk 1 trivial ?_
            try simp only [Act.put, pA, pB, pC]
            refine tk 2 trivial ?_
            try simp only [Act.put, pA, pB, pC]
            refine tk 3 trivial ?_
            try simp only [Act.put, pA, pB, pC]
            refine tk 4 trivial ?_
            try simp only [Act.put, pA, pB, pC]
            refine tk 5 trivial ?_
            try simp only [Act.put, pA, pB, pC]
            refine tk 7 trivial ?_
            try simp only [Act.put, pA, pB, pC]
            refine tk 8 trivial ?_
            try simp only [Act.put, pA, pB, pC]
            refine wpAnyH_all (rs := [6, 9]) (by kernel_rfl) (by simp) fun j hj => ?_
            have hj2 : j = 6 ∨ j = 9 := by simpa using hj
            clear hj
            rcases hj2 with rfl | rfl
            · refine step_op rfl (by rfl) (fun K hK => ?_)
              go_simp
              refine hK _ _ ⟨trivial, ?_⟩
              try simp only [Act.put, pA, pB, pC]
              refine one_op 9 (by kernel_rfl) rfl (by rfl) (fun K hK => ?_)
              go_simp
              refine hK _ _ trivial ?_
              try simp only [Act.put, pA, pB, pC]
              refine tk 10 trivial ?_
              try simp only [Act.put, pA, pB, pC]
              refine one_op 11 (by kernel_rfl) rfl (by rfl) (fun K hK => ?_)
              go_simp
              refine hK _ _ trivial ?_
              try simp only [Act.put, pA, pB, pC]
              clear x0 x1 x2 x3 x4 x5 x6 x7 x8 u0 u1 u2 u3 u4 u5 u6' u7 u8 f0 f1 f2 f3 f4 f5 f6 f7 f8 ff0 ff1 ff2 ff3 ff4 ff5 ff6 ff7 ff8
              obtain ⟨v7, hv7⟩ : ∃ V, V = (((((((((w6.setCell ⟨g, 0, none⟩ (.slice G1 y1 y2)).setCell ⟨g, 1, none⟩ (.bool d0)).setCell ⟨g, 2, none⟩ (.int .i64 d1)).setCell ⟨g, 3, none⟩ (.int .i64 d2)).setCell ⟨g, 4, none⟩ (.string d3)).setCell ⟨g, 5, none⟩ (.slice G2 y3 y4)).setCell ⟨g, 6, none⟩ (.slice G3 y5 y6)).setCell ⟨g, 7, none⟩ (.slice G4 y7 y8)).setCell ⟨g, 8, none⟩ (.slice G5 y9 y10)) := ⟨_, rfl⟩
              rw [← hv7]
              obtain ⟨hO7, hs7, hb7, hk7⟩ := own_put9 HSW.out.1 HLB.out.1 (show 0 < la by omega) HSW.out.2.2.1 v7 hv7
              have hl7 : (es.set 0 z).length = la := by rw [List.length_set]; exact HLB.out.1
              have hfz7 : ∀ j, v7.frozen? ⟨g, j, none⟩ = false := fun j => by obtain ⟨xs, ho, _⟩ := hO7; rw [hl7] at ho; exact ho.frozenAt j
              obtain ⟨_, _, _, _, _, _, _, _, _, _, _, _, _, _, _, _, _, _, _, _, _, _, x0, x1, x2, x3, x4, x5, x6, x7, x8⟩ := own_at9 hO7 hl7 (by have := HLEN.out; rw [HLB.out.1] at this; unfold maxLen; omega) (show kb < la by omega)
              have ff0 := hfz7 (kb * 9)
              have ff1 := hfz7 (kb * 9 + 1)
              have ff2 := hfz7 (kb * 9 + 2)
              have ff3 := hfz7 (kb * 9 + 3)
              have ff4 := hfz7 (kb * 9 + 4)
              have ff5 := hfz7 (kb * 9 + 5)
              have ff6 := hfz7 (kb * 9 + 6)
              have ff7 := hfz7 (kb * 9 + 7)
              have ff8 := hfz7 (kb * 9 + 8)
              have H7 := Lib.hid (And.intro hO7 (And.intro hs7 (And.intro hb7 (And.intro hk7 hl7))))
              clear hv7 hO7 hs7 hb7 hk7 hl7 hfz7
              refine tk 12 trivial ?_
              try simp only [Act.put, pA, pB, pC]
              refine one_op 13 (by kernel_rfl) rfl (by rfl) (fun K hK => ?_)
              go_simp
              refine hK _ _ trivial ?_
              try simp only [Act.put, pA, pB, pC]
              refine wpAnyH_done (by kernel_rfl) ?_ _
              clear x0 x1 x2 x3 x4 x5 x6 x7 x8 ff0 ff1 ff2 ff3 ff4 ff5 ff6 ff7 ff8
              obtain ⟨v8', hv8'⟩ : ∃ V, V = (((((((((v7.setCell ⟨g, kb * 9, none⟩ (.slice E1 r1 r2)).setCell ⟨g, kb * 9 + 1, none⟩ (.bool b0)).setCell ⟨g, kb * 9 + 2, none⟩ (.int .i64 b1)).setCell ⟨g, kb * 9 + 3, none⟩ (.int .i64 b2)).setCell ⟨g, kb * 9 + 4, none⟩ (.string b3)).setCell ⟨g, kb * 9 + 5, none⟩ (.slice E2 r3 r4)).setCell ⟨g, kb * 9 + 6, none⟩ (.slice E3 r5 r6)).setCell ⟨g, kb * 9 + 7, none⟩ (.slice E4 r7 r8)).setCell ⟨g, kb * 9 + 8, none⟩ (.slice E5 r9 r10)) := ⟨_, rfl⟩
              rw [← hv8']
              obtain ⟨hO7, hs7, hb7, hk7, hl7⟩ := H7.out
              have hSm7 : Same (fun b => w.heap.size ≤ b ∧ b < w6.heap.size ∧ some b ≠ some g) w6 v7 := ⟨by omega, fun b i hB _ => World.cell?_of_block (hk7 b fun e => hB.2.2 (by rw [e]))⟩
              have hE7 := (elE 3).sub (B' := fun b => w.heap.size ≤ b ∧ b < v7.heap.size ∧ some b ≠ some g) (fun b hb => ⟨hb.1, by rw [hs7]; exact hb.2.1, hb.2.2⟩) ((elE 3).keep hSm7 HSW.out.2.1)
              obtain ⟨hO8, hs8, hb8, hk8⟩ := own_put9 hO7 hl7 (show kb < la by omega) hE7 v8' hv8'
              obtain ⟨L, hL⟩ : ∃ L, L = (es.set 0 z).set kb y := ⟨_, rfl⟩
              rw [← hL] at hO8
              obtain ⟨wv, hwv⟩ : ∃ V, V = v8'.drew := ⟨_, rfl⟩
              rw [← hwv]
              have hbD : Below v8'.heap.size v8' wv := by rw [hwv]; exact (Below.refl _ _).drew
              have hOw : OwnEn 3 wv w.heap.size (.slice (some ⟨g, 0, none⟩) la c1) L := hO8.old hbD
              have hLl : L.length = la := by rw [hL, List.length_set]; exact hl7
              have hmem : ∀ x, x ∈ L ↔ x ∈ es := fun x => by rw [hL]; exact mem_swap HSW.out.2.2.2.1 HSW.out.2.2.2.2.1 HSW.out.2.2.2.2.2 x
              have hb06 : Below w.heap.size w w6 := HB.out.trans ((HB5.out.trans (HB6.out.mono HB5.out.size)).mono hbs)
              have hbv8 : Below w.heap.size w v8' := hb06.trans (hb7.trans hb8)
              have hbW : Below w.heap.size w wv := hbv8.trans (hbD.mono hbv8.size)
              have hblk6 : ∀ b, b < w6.heap.size → b ≠ g → wv.heap[b]? = w6.heap[b]? := fun b hb hne => (hbD.block b (by omega)).trans ((hk8 b hne).trans (hk7 b hne))
              have hgg := HG.out
              have hw26 := HB2.out.size
              have kM := (hblk6 w2.heap.size ((Array.getElem?_eq_some_iff.1 (HKM.out w6 HB6.out)).1) (by omega)).trans (HKM.out w6 HB6.out)
              have vM : VB 4 wv (Btw wr.heap.size w2.heap.size) (funV a (srtC cmpE es)) [.int .i64 a2, .int .i64 i2, .string s2, .slice P1 m1 e1, .slice P2 m2 e2, .slice P3 m3 e3, .slice P4 m4 e4] := VB.keep ⟨by have := hbD.size; omega, fun b i hB hl => World.cell?_of_block (hblk6 b hl (by have := hB.1; omega))⟩ (HVV.out w6 HB6.out)
              clear hwv hL hv8' hO7 hs7 hb7 hk7 hl7 hSm7 hE7 hO8 hs8 hb8 hk8 hb06 hbv8 hbD hblk6 hgg hw26 hk0 hk1 hk2 hbk
              have hL8 := HLEN.out
              have hrow : RowB wv (Btw w.heap.size wv.heap.size) 9 (.slice (some ⟨g, 0, none⟩) la c1) la (fun j cs => ∃ y, L[j]? = some y ∧ (elE 3).E y wv (fun b => w.heap.size ≤ b ∧ b < wv.heap.size ∧ some b ≠ (Value.slice (some ⟨g, 0, none⟩) la c1).ownBlock) cs) := by
                have h := OwnE.row' hOw (by omega) (by unfold maxLen; rw [hLl, ← HLB.out.1]; omega)
                rw [hLl] at h
                exact h
              have hn8 : L.length + la ≤ 300000000 := by rw [hLl, ← HLB.out.1]; omega
              have hsW := hbW.size
              have hmem8 : ∀ x, x ∈ L ++ L ↔ x ∈ es := fun x => by rw [List.mem_append, hmem x]; exact ⟨fun h => h.elim id id, .inl⟩
              have hlen8 : (L ++ L).length ≤ 100000000 := by rw [List.length_append, hLl, ← HLB.out.1]; omega
              have hsml8 : smlEs (L ++ L) := smlEs_iff'.2 fun x hx => (HALL.out x ((hmem8 x).1 hx)).2
              have hgw : ∀ b, wr.heap.size ≤ b → some b ≠ (Value.slice (some ⟨g, 0, none⟩) la c1).ownBlock := fun b hb e => by have := (HO.out.blk b e.symm).2; omega
              have HX := Lib.hid (And.intro hmem8 (And.intro hlen8 (And.intro hsml8 (And.intro hgw hbW))))
              have HKV := Lib.hid (And.intro kM vM)
              clear hmem8 hlen8 hsml8 hL8 hgw hmem hbW kM vM
              go_wp2_with (at_builtin; refine wp_row_e rfl _ _ rfl 3 w.heap.size (.slice (some ⟨g, 0, none⟩) la c1) L rfl hOw (some ⟨g, 0, none⟩) la c1 L hLl _ rfl hrow hn8 hsW ?_; intro v8 w8 ho8 hb8 hk8 _; refine Hid.out ?_)
              refine Lib.hid ?_
              clear hOw hLl hrow hn8
              obtain ⟨A8, c8, rfl⟩ := ho8.form
              have hb08 : Below w.heap.size w w8 := HX.out.2.2.2.2.trans hb8
              have hz8 := hb8.size
              have hP8 : RowP w8 w8.heap.size 9 (.slice A8 (L ++ L).length c8) (L ++ L).length (fun q cs => ∃ x, (L ++ L)[q]? = some x ∧ ES 3 w8 w8.heap.size x cs) :=
                RowB.sub (OwnE.row ho8 (by omega) (by have := HX.out.2.1; unfold maxLen; omega)) (fun b hb => hb.2) (fun q cs ⟨x, hx, hv⟩ => ⟨x, hx, EB.sub (fun b hb => hb.2) (Nat.le_refl _) hv⟩)
              have hf := functionP_any 2 a A8 c8 (L ++ L) w8 hP8 HX.out.2.1 HAK.out.1 HX.out.2.2.1
              rw [funR_congr HX.out.1] at hf
              have hlt8 : w2.heap.size < wv.heap.size := (Array.getElem?_eq_some_iff.1 HKV.out.1).1
              have k8 : w8.heap[w2.heap.size]? = some (.cells #[.int .i64 a2, .int .i64 i2, .string s2, .slice P1 m1 e1, .slice P2 m2 e2, .slice P3 m3 e3, .slice P4 m4 e4] 27 (0, 0)) := (hk8 _ hlt8 (HX.out.2.2.2.1 _ HB2.out.size)).trans HKV.out.1
              have hv8 : VB 4 w8 (Btw wr.heap.size w2.heap.size) (funV a (srtC cmpE es)) [.int .i64 a2, .int .i64 i2, .string s2, .slice P1 m1 e1, .slice P2 m2 e2, .slice P3 m3 e3, .slice P4 m4 e4] := VB.keep ⟨hz8, fun b i hB hl => World.cell?_of_block (hk8 b hl (HX.out.2.2.2.1 _ hB.1))⟩ HKV.out.2
              clear ho8 hb8 hP8 hk8
              generalize hm8 : (L ++ L).length = m8 at *
              have HM8 := Lib.hid hm8
              clear hm8
              go_wp2_with fail
              refine hf.mono ?_
              rintro e w9 ⟨hb9, hcase⟩
              clear hf
              rcases hcase with ⟨hF', cs', rfl, hv'⟩ | ⟨hF', rfl⟩
              · have k9 : w9.heap[w2.heap.size]? = some (.cells #[.int .i64 a2, .int .i64 i2, .string s2, .slice P1 m1 e1, .slice P2 m2 e2, .slice P3 m3 e3, .slice P4 m4 e4] 27 (0, 0)) := (hb9.block _ (by omega)).trans k8
                have hz9 := hb9.size
                obtain ⟨a4, i4, s4, R1, o1, h1, R2, o2, h2, R3, o3, h3, R4, o4, h4, rfl⟩ := hv'.form7
                obtain ⟨w10, hw10⟩ : ∃ V, V = w9.alloc (.cells #[.int .i64 a4, .int .i64 i4, .string s4, .slice R1 o1 h1, .slice R2 o2 h2, .slice R3 o3 h3, .slice R4 o4 h4] 27) := ⟨_, rfl⟩
                have hb10 : Below w9.heap.size w9 w10 := by rw [hw10]; exact (Below.refl _ _).alloc (Nat.le_refl _) _
                have hz10 := hb10.size
                have k10 : w10.heap[w2.heap.size]? = some (.cells #[.int .i64 a2, .int .i64 i2, .string s2, .slice P1 m1 e1, .slice P2 m2 e2, .slice P3 m3 e3, .slice P4 m4 e4] 27 (0, 0)) := (hb10.block _ (by omega)).trans k9
                have k10' := k10
                rw [hw10] at k10'
                obtain ⟨t0, t1, t2, t3, t4, t5, t6⟩ := cells7 k10'
                have HB10 := Lib.hid (hb08.trans ((hb9.trans (hb10.mono hb9.size)).mono hb08.size))
                have hv10 : VB 4 w10 (Btw wr.heap.size w2.heap.size) (funV a (srtC cmpE es)) [.int .i64 a2, .int .i64 i2, .string s2, .slice P1 m1 e1, .slice P2 m2 e2, .slice P3 m3 e3, .slice P4 m4 e4] := VB.keep (Same.of_below hb10 fun b h => by have := h.2; omega) (VB.keep (Same.of_below hb9 fun b h => by have := h.2; omega) hv8)
                have hEq := refEqual_any 4 (funV a (srtC cmpE es)) (funV a (srtC cmpE es)) [.int .i64 a2, .int .i64 i2, .string s2, .slice P1 m1 e1, .slice P2 m2 e2, .slice P3 m3 e3, .slice P4 m4 e4] [.int .i64 a4, .int .i64 i4, .string s4, .slice R1 o1 h1, .slice R2 o2 h2, .slice R3 o3 h3, .slice R4 o4 h4] w10 (VB.sub (fun b hb => by have := hb.2; omega) (Nat.le_refl _) hv10) (VS.up hb10.size (Nat.le_refl _) (VS.on hb10 (VB.sub (fun b hb => hb.2) (Nat.le_refl _) hv')))
                rw [decide_eq_true (cmpV_zero.2 rfl)] at hEq
                have hlt10 : w2.heap.size < w10.heap.size := by omega
                have HVM : Hid (∀ V, Below w10.heap.size w10 V → Calls Tryz.prog 11 #[.agg #[.int .i64 a2, .int .i64 i2, .string s2, .slice P1 m1 e1, .slice P2 m2 e2, .slice P3 m3 e3, .slice P4 m4 e4]] V fun e w' => e = .returned (.int .i64 0) ∧ Below V.heap.size V w') := Lib.hid fun V hV => by
                  have hs := hV.size
                  have h := validate_any 4 (funV a (srtC cmpE es)) [.int .i64 a2, .int .i64 i2, .string s2, .slice P1 m1 e1, .slice P2 m2 e2, .slice P3 m3 e3, .slice P4 m4 e4] V (VB.sub (fun b hb => by have := hb.2; omega) (Nat.le_refl _) (VB.keep (Same.of_below hV fun b h => by have := h.2; omega) hv10))
                  rw [okV_funV HF.out (fun x hx => (HALL.out x hx).1), if_pos rfl] at h
                  exact h
                have HK10 : Hid (∀ V, Below w10.heap.size w10 V → V.heap[w2.heap.size]? = some (.cells #[.int .i64 a2, .int .i64 i2, .string s2, .slice P1 m1 e1, .slice P2 m2 e2, .slice P3 m3 e3, .slice P4 m4 e4] 27 (0, 0))) := Lib.hid fun V hV => (hV.block _ hlt10).trans k10
                clear hv10 hv8 hv' hlt10
                clear hb9 hb10 hb08 k8 k9 k10 k10' hz8 hz9 hz10 hlt8 hsW
                go_wp2_with fail
                rw [← hw10]
                clear hw10 t0 t1 t2 t3 t4 t5 t6
                refine hEq.mono ?_
                rintro e w11 ⟨rfl, hb11⟩
                clear hEq
                have HB11 := Lib.hid hb11
                clear hb11
                obtain ⟨t0, t1, t2, t3, t4, t5, t6⟩ := cells7 (HK10.out w11 HB11.out)
                go_wp2_with fail
                clear t0 t1 t2 t3 t4 t5 t6
                refine (HVM.out w11 HB11.out).mono ?_
                rintro e w12 ⟨rfl, hb12⟩
                go_wp2_with (go_at_call 9; refine (awake_any _).mono ?_; rintro e w13 ⟨rfl, hb13⟩; refine Hid.out ?_)
                refine Lib.hid ?_
                go_wp2
                go_ret
                exact ⟨rfl, HB10.out.trans ((HB11.out.trans ((hb12.trans (hb13.mono hb12.size)).mono HB11.out.size)).mono HB10.out.size)⟩
              · exact absurd (HF.out.symm.trans hF') (by decide)
            · refine step_op rfl (by rfl) (fun K hK => ?_)
              go_simp
              refine hK _ _ ⟨trivial, ?_⟩
              try simp only [Act.put, pA, pB, pC]
              refine one_op 6 (by kernel_rfl) rfl (by rfl) (fun K hK => ?_)
              go_simp
              refine hK _ _ trivial ?_
              try simp only [Act.put, pA, pB, pC]
              refine tk 10 trivial ?_
              try simp only [Act.put, pA, pB, pC]
              refine one_op 11 (by kernel_rfl) rfl (by rfl) (fun K hK => ?_)
              go_simp
              refine hK _ _ trivial ?_
              try simp only [Act.put, pA, pB, pC]
              clear x0 x1 x2 x3 x4 x5 x6 x7 x8 u0 u1 u2 u3 u4 u5 u6' u7 u8 f0 f1 f2 f3 f4 f5 f6 f7 f8 ff0 ff1 ff2 ff3 ff4 ff5 ff6 ff7 ff8
              obtain ⟨v7, hv7⟩ : ∃ V, V = (((((((((w6.setCell ⟨g, 0, none⟩ (.slice G1 y1 y2)).setCell ⟨g, 1, none⟩ (.bool d0)).setCell ⟨g, 2, none⟩ (.int .i64 d1)).setCell ⟨g, 3, none⟩ (.int .i64 d2)).setCell ⟨g, 4, none⟩ (.string d3)).setCell ⟨g, 5, none⟩ (.slice G2 y3 y4)).setCell ⟨g, 6, none⟩ (.slice G3 y5 y6)).setCell ⟨g, 7, none⟩ (.slice G4 y7 y8)).setCell ⟨g, 8, none⟩ (.slice G5 y9 y10)) := ⟨_, rfl⟩
              rw [← hv7]
              obtain ⟨hO7, hs7, hb7, hk7⟩ := own_put9 HSW.out.1 HLB.out.1 (show 0 < la by omega) HSW.out.2.2.1 v7 hv7
              have hl7 : (es.set 0 z).length = la := by rw [List.length_set]; exact HLB.out.1
              have hfz7 : ∀ j, v7.frozen? ⟨g, j, none⟩ = false := fun j => by obtain ⟨xs, ho, _⟩ := hO7; rw [hl7] at ho; exact ho.frozenAt j
              obtain ⟨_, _, _, _, _, _, _, _, _, _, _, _, _, _, _, _, _, _, _, _, _, _, x0, x1, x2, x3, x4, x5, x6, x7, x8⟩ := own_at9 hO7 hl7 (by have := HLEN.out; rw [HLB.out.1] at this; unfold maxLen; omega) (show kb < la by omega)
              have ff0 := hfz7 (kb * 9)
              have ff1 := hfz7 (kb * 9 + 1)
              have ff2 := hfz7 (kb * 9 + 2)
              have ff3 := hfz7 (kb * 9 + 3)
              have ff4 := hfz7 (kb * 9 + 4)
              have ff5 := hfz7 (kb * 9 + 5)
              have ff6 := hfz7 (kb * 9 + 6)
              have ff7 := hfz7 (kb * 9 + 7)
              have ff8 := hfz7 (kb * 9 + 8)
              have H7 := Lib.hid (And.intro hO7 (And.intro hs7 (And.intro hb7 (And.intro hk7 hl7))))
              clear hv7 hO7 hs7 hb7 hk7 hl7 hfz7
              refine tk 12 trivial ?_
              try simp only [Act.put, pA, pB, pC]
              refine one_op 13 (by kernel_rfl) rfl (by rfl) (fun K hK => ?_)
              go_simp
              refine hK _ _ trivial ?_
              try simp only [Act.put, pA, pB, pC]
              refine wpAnyH_done (by kernel_rfl) ?_ _
              clear x0 x1 x2 x3 x4 x5 x6 x7 x8 ff0 ff1 ff2 ff3 ff4 ff5 ff6 ff7 ff8
              obtain ⟨v8', hv8'⟩ : ∃ V, V = (((((((((v7.setCell ⟨g, kb * 9, none⟩ (.slice E1 r1 r2)).setCell ⟨g, kb * 9 + 1, none⟩ (.bool b0)).setCell ⟨g, kb * 9 + 2, none⟩ (.int .i64 b1)).setCell ⟨g, kb * 9 + 3, none⟩ (.int .i64 b2)).setCell ⟨g, kb * 9 + 4, none⟩ (.string b3)).setCell ⟨g, kb * 9 + 5, none⟩ (.slice E2 r3 r4)).setCell ⟨g, kb * 9 + 6, none⟩ (.slice E3 r5 r6)).setCell ⟨g, kb * 9 + 7, none⟩ (.slice E4 r7 r8)).setCell ⟨g, kb * 9 + 8, none⟩ (.slice E5 r9 r10)) := ⟨_, rfl⟩
              rw [← hv8']
              obtain ⟨hO7, hs7, hb7, hk7, hl7⟩ := H7.out
              have hSm7 : Same (fun b => w.heap.size ≤ b ∧ b < w6.heap.size ∧ some b ≠ some g) w6 v7 := ⟨by omega, fun b i hB _ => World.cell?_of_block (hk7 b fun e => hB.2.2 (by rw [e]))⟩
              have hE7 := (elE 3).sub (B' := fun b => w.heap.size ≤ b ∧ b < v7.heap.size ∧ some b ≠ some g) (fun b hb => ⟨hb.1, by rw [hs7]; exact hb.2.1, hb.2.2⟩) ((elE 3).keep hSm7 HSW.out.2.1)
              obtain ⟨hO8, hs8, hb8, hk8⟩ := own_put9 hO7 hl7 (show kb < la by omega) hE7 v8' hv8'
              obtain ⟨L, hL⟩ : ∃ L, L = (es.set 0 z).set kb y := ⟨_, rfl⟩
              rw [← hL] at hO8
              obtain ⟨wv, hwv⟩ : ∃ V, V = v8'.drew := ⟨_, rfl⟩
              rw [← hwv]
              have hbD : Below v8'.heap.size v8' wv := by rw [hwv]; exact (Below.refl _ _).drew
              have hOw : OwnEn 3 wv w.heap.size (.slice (some ⟨g, 0, none⟩) la c1) L := hO8.old hbD
              have hLl : L.length = la := by rw [hL, List.length_set]; exact hl7
              have hmem : ∀ x, x ∈ L ↔ x ∈ es := fun x => by rw [hL]; exact mem_swap HSW.out.2.2.2.1 HSW.out.2.2.2.2.1 HSW.out.2.2.2.2.2 x
              have hb06 : Below w.heap.size w w6 := HB.out.trans ((HB5.out.trans (HB6.out.mono HB5.out.size)).mono hbs)
              have hbv8 : Below w.heap.size w v8' := hb06.trans (hb7.trans hb8)
              have hbW : Below w.heap.size w wv := hbv8.trans (hbD.mono hbv8.size)
              have hblk6 : ∀ b, b < w6.heap.size → b ≠ g → wv.heap[b]? = w6.heap[b]? := fun b hb hne => (hbD.block b (by omega)).trans ((hk8 b hne).trans (hk7 b hne))
              have hgg := HG.out
              have hw26 := HB2.out.size
              have kM := (hblk6 w2.heap.size ((Array.getElem?_eq_some_iff.1 (HKM.out w6 HB6.out)).1) (by omega)).trans (HKM.out w6 HB6.out)
              have vM : VB 4 wv (Btw wr.heap.size w2.heap.size) (funV a (srtC cmpE es)) [.int .i64 a2, .int .i64 i2, .string s2, .slice P1 m1 e1, .slice P2 m2 e2, .slice P3 m3 e3, .slice P4 m4 e4] := VB.keep ⟨by have := hbD.size; omega, fun b i hB hl => World.cell?_of_block (hblk6 b hl (by have := hB.1; omega))⟩ (HVV.out w6 HB6.out)
              clear hwv hL hv8' hO7 hs7 hb7 hk7 hl7 hSm7 hE7 hO8 hs8 hb8 hk8 hb06 hbv8 hbD hblk6 hgg hw26 hk0 hk1 hk2 hbk
              have hL8 := HLEN.out
              have hrow : RowB wv (Btw w.heap.size wv.heap.size) 9 (.slice (some ⟨g, 0, none⟩) la c1) la (fun j cs => ∃ y, L[j]? = some y ∧ (elE 3).E y wv (fun b => w.heap.size ≤ b ∧ b < wv.heap.size ∧ some b ≠ (Value.slice (some ⟨g, 0, none⟩) la c1).ownBlock) cs) := by
                have h := OwnE.row' hOw (by omega) (by unfold maxLen; rw [hLl, ← HLB.out.1]; omega)
                rw [hLl] at h
                exact h
              have hn8 : L.length + la ≤ 300000000 := by rw [hLl, ← HLB.out.1]; omega
              have hsW := hbW.size
              have hmem8 : ∀ x, x ∈ L ++ L ↔ x ∈ es := fun x => by rw [List.mem_append, hmem x]; exact ⟨fun h => h.elim id id, .inl⟩
              have hlen8 : (L ++ L).length ≤ 100000000 := by rw [List.length_append, hLl, ← HLB.out.1]; omega
              have hsml8 : smlEs (L ++ L) := smlEs_iff'.2 fun x hx => (HALL.out x ((hmem8 x).1 hx)).2
              have hgw : ∀ b, wr.heap.size ≤ b → some b ≠ (Value.slice (some ⟨g, 0, none⟩) la c1).ownBlock := fun b hb e => by have := (HO.out.blk b e.symm).2; omega
              have HX := Lib.hid (And.intro hmem8 (And.intro hlen8 (And.intro hsml8 (And.intro hgw hbW))))
              have HKV := Lib.hid (And.intro kM vM)
              clear hmem8 hlen8 hsml8 hL8 hgw hmem hbW kM vM
              go_wp2_with (at_builtin; refine wp_row_e rfl _ _ rfl 3 w.heap.size (.slice (some ⟨g, 0, none⟩) la c1) L rfl hOw (some ⟨g, 0, none⟩) la c1 L hLl _ rfl hrow hn8 hsW ?_; intro v8 w8 ho8 hb8 hk8 _; refine Hid.out ?_)
              refine Lib.hid ?_
              clear hOw hLl hrow hn8
              obtain ⟨A8, c8, rfl⟩ := ho8.form
              have hb08 : Below w.heap.size w w8 := HX.out.2.2.2.2.trans hb8
              have hz8 := hb8.size
              have hP8 : RowP w8 w8.heap.size 9 (.slice A8 (L ++ L).length c8) (L ++ L).length (fun q cs => ∃ x, (L ++ L)[q]? = some x ∧ ES 3 w8 w8.heap.size x cs) :=
                RowB.sub (OwnE.row ho8 (by omega) (by have := HX.out.2.1; unfold maxLen; omega)) (fun b hb => hb.2) (fun q cs ⟨x, hx, hv⟩ => ⟨x, hx, EB.sub (fun b hb => hb.2) (Nat.le_refl _) hv⟩)
              have hf := functionP_any 2 a A8 c8 (L ++ L) w8 hP8 HX.out.2.1 HAK.out.1 HX.out.2.2.1
              rw [funR_congr HX.out.1] at hf
              have hlt8 : w2.heap.size < wv.heap.size := (Array.getElem?_eq_some_iff.1 HKV.out.1).1
              have k8 : w8.heap[w2.heap.size]? = some (.cells #[.int .i64 a2, .int .i64 i2, .string s2, .slice P1 m1 e1, .slice P2 m2 e2, .slice P3 m3 e3, .slice P4 m4 e4] 27 (0, 0)) := (hk8 _ hlt8 (HX.out.2.2.2.1 _ HB2.out.size)).trans HKV.out.1
              have hv8 : VB 4 w8 (Btw wr.heap.size w2.heap.size) (funV a (srtC cmpE es)) [.int .i64 a2, .int .i64 i2, .string s2, .slice P1 m1 e1, .slice P2 m2 e2, .slice P3 m3 e3, .slice P4 m4 e4] := VB.keep ⟨hz8, fun b i hB hl => World.cell?_of_block (hk8 b hl (HX.out.2.2.2.1 _ hB.1))⟩ HKV.out.2
              clear ho8 hb8 hP8 hk8
              generalize hm8 : (L ++ L).length = m8 at *
              have HM8 := Lib.hid hm8
              clear hm8
              go_wp2_with fail
              refine hf.mono ?_
              rintro e w9 ⟨hb9, hcase⟩
              clear hf
              rcases hcase with ⟨hF', cs', rfl, hv'⟩ | ⟨hF', rfl⟩
              · have k9 : w9.heap[w2.heap.size]? = some (.cells #[.int .i64 a2, .int .i64 i2, .string s2, .slice P1 m1 e1, .slice P2 m2 e2, .slice P3 m3 e3, .slice P4 m4 e4] 27 (0, 0)) := (hb9.block _ (by omega)).trans k8
                have hz9 := hb9.size
                obtain ⟨a4, i4, s4, R1, o1, h1, R2, o2, h2, R3, o3, h3, R4, o4, h4, rfl⟩ := hv'.form7
                obtain ⟨w10, hw10⟩ : ∃ V, V = w9.alloc (.cells #[.int .i64 a4, .int .i64 i4, .string s4, .slice R1 o1 h1, .slice R2 o2 h2, .slice R3 o3 h3, .slice R4 o4 h4] 27) := ⟨_, rfl⟩
                have hb10 : Below w9.heap.size w9 w10 := by rw [hw10]; exact (Below.refl _ _).alloc (Nat.le_refl _) _
                have hz10 := hb10.size
                have k10 : w10.heap[w2.heap.size]? = some (.cells #[.int .i64 a2, .int .i64 i2, .string s2, .slice P1 m1 e1, .slice P2 m2 e2, .slice P3 m3 e3, .slice P4 m4 e4] 27 (0, 0)) := (hb10.block _ (by omega)).trans k9
                have k10' := k10
                rw [hw10] at k10'
                obtain ⟨t0, t1, t2, t3, t4, t5, t6⟩ := cells7 k10'
                have HB10 := Lib.hid (hb08.trans ((hb9.trans (hb10.mono hb9.size)).mono hb08.size))
                have hv10 : VB 4 w10 (Btw wr.heap.size w2.heap.size) (funV a (srtC cmpE es)) [.int .i64 a2, .int .i64 i2, .string s2, .slice P1 m1 e1, .slice P2 m2 e2, .slice P3 m3 e3, .slice P4 m4 e4] := VB.keep (Same.of_below hb10 fun b h => by have := h.2; omega) (VB.keep (Same.of_below hb9 fun b h => by have := h.2; omega) hv8)
                have hEq := refEqual_any 4 (funV a (srtC cmpE es)) (funV a (srtC cmpE es)) [.int .i64 a2, .int .i64 i2, .string s2, .slice P1 m1 e1, .slice P2 m2 e2, .slice P3 m3 e3, .slice P4 m4 e4] [.int .i64 a4, .int .i64 i4, .string s4, .slice R1 o1 h1, .slice R2 o2 h2, .slice R3 o3 h3, .slice R4 o4 h4] w10 (VB.sub (fun b hb => by have := hb.2; omega) (Nat.le_refl _) hv10) (VS.up hb10.size (Nat.le_refl _) (VS.on hb10 (VB.sub (fun b hb => hb.2) (Nat.le_refl _) hv')))
                rw [decide_eq_true (cmpV_zero.2 rfl)] at hEq
                have hlt10 : w2.heap.size < w10.heap.size := by omega
                have HVM : Hid (∀ V, Below w10.heap.size w10 V → Calls Tryz.prog 11 #[.agg #[.int .i64 a2, .int .i64 i2, .string s2, .slice P1 m1 e1, .slice P2 m2 e2, .slice P3 m3 e3, .slice P4 m4 e4]] V fun e w' => e = .returned (.int .i64 0) ∧ Below V.heap.size V w') := Lib.hid fun V hV => by
                  have hs := hV.size
                  have h := validate_any 4 (funV a (srtC cmpE es)) [.int .i64 a2, .int .i64 i2, .string s2, .slice P1 m1 e1, .slice P2 m2 e2, .slice P3 m3 e3, .slice P4 m4 e4] V (VB.sub (fun b hb => by have := hb.2; omega) (Nat.le_refl _) (VB.keep (Same.of_below hV fun b h => by have := h.2; omega) hv10))
                  rw [okV_funV HF.out (fun x hx => (HALL.out x hx).1), if_pos rfl] at h
                  exact h
                have HK10 : Hid (∀ V, Below w10.heap.size w10 V → V.heap[w2.heap.size]? = some (.cells #[.int .i64 a2, .int .i64 i2, .string s2, .slice P1 m1 e1, .slice P2 m2 e2, .slice P3 m3 e3, .slice P4 m4 e4] 27 (0, 0))) := Lib.hid fun V hV => (hV.block _ hlt10).trans k10
                clear hv10 hv8 hv' hlt10
                clear hb9 hb10 hb08 k8 k9 k10 k10' hz8 hz9 hz10 hlt8 hsW
                go_wp2_with fail
                rw [← hw10]
                clear hw10 t0 t1 t2 t3 t4 t5 t6
                refine hEq.mono ?_
                rintro e w11 ⟨rfl, hb11⟩
                clear hEq
                have HB11 := Lib.hid hb11
                clear hb11
                obtain ⟨t0, t1, t2, t3, t4, t5, t6⟩ := cells7 (HK10.out w11 HB11.out)
                go_wp2_with fail
                clear t0 t1 t2 t3 t4 t5 t6
                refine (HVM.out w11 HB11.out).mono ?_
                rintro e w12 ⟨rfl, hb12⟩
                go_wp2_with (go_at_call 9; refine (awake_any _).mono ?_; rintro e w13 ⟨rfl, hb13⟩; refine Hid.out ?_)
                refine Lib.hid ?_
                go_wp2
                go_ret
                exact ⟨rfl, HB10.out.trans ((HB11.out.trans ((hb12.trans (hb13.mono hb12.size)).mono HB11.out.size)).mono HB10.out.size)⟩
              · exact absurd (HF.out.symm.trans hF') (by decide)
          · have q1 : decide ((1 : Int) < (la : Int)) = false := by rw [decide_eq_false_iff_not]; omega
            go_wp2_with fail
            rw [← hw5]
            clear hw5 t0 t1 t2 t3 t4 t5 t6
            refine hEq.mono ?_
            rintro e w6 ⟨rfl, hb6⟩
            clear hEq
            have HB6 := Lib.hid hb6
            clear hb6
            have hOw : OwnEn 3 w6 w.heap.size (.slice A1 la c1) es := HO.out.old (HB5.out.trans (HB6.out.mono HB5.out.size))
            have hLl : es.length = la := HLB.out.1
            have hmem : ∀ x, x ∈ es ↔ x ∈ es := fun x => Iff.rfl
            have hbW : Below w.heap.size w w6 := HB.out.trans ((HB5.out.trans (HB6.out.mono HB5.out.size)).mono hbs)
            have kM := HKM.out w6 HB6.out
            have vM := HVV.out w6 HB6.out
            have hL8 := HLEN.out
            have hrow : RowB w6 (Btw w.heap.size w6.heap.size) 9 (.slice A1 la c1) la (fun j cs => ∃ y, es[j]? = some y ∧ (elE 3).E y w6 (fun b => w.heap.size ≤ b ∧ b < w6.heap.size ∧ some b ≠ (Value.slice A1 la c1).ownBlock) cs) := by
              have h := OwnE.row' hOw (by omega) (by unfold maxLen; rw [hLl, ← HLB.out.1]; omega)
              rw [hLl] at h
              exact h
            have hn8 : es.length + la ≤ 300000000 := by rw [hLl, ← HLB.out.1]; omega
            have hsW := hbW.size
            have hmem8 : ∀ x, x ∈ es ++ es ↔ x ∈ es := fun x => by rw [List.mem_append, hmem x]; exact ⟨fun h => h.elim id id, .inl⟩
            have hlen8 : (es ++ es).length ≤ 100000000 := by rw [List.length_append, hLl, ← HLB.out.1]; omega
            have hsml8 : smlEs (es ++ es) := smlEs_iff'.2 fun x hx => (HALL.out x ((hmem8 x).1 hx)).2
            have hgw : ∀ b, wr.heap.size ≤ b → some b ≠ (Value.slice A1 la c1).ownBlock := fun b hb e => by have := (HO.out.blk b e.symm).2; omega
            have HX := Lib.hid (And.intro hmem8 (And.intro hlen8 (And.intro hsml8 (And.intro hgw hbW))))
            have HKV := Lib.hid (And.intro kM vM)
            clear hmem8 hlen8 hsml8 hL8 hgw hmem hbW kM vM
            go_wp2_with (at_builtin; refine wp_row_e rfl _ _ rfl 3 w.heap.size (.slice A1 la c1) es rfl hOw A1 la c1 es hLl _ rfl hrow hn8 hsW ?_; intro v8 w8 ho8 hb8 hk8 _; refine Hid.out ?_)
            refine Lib.hid ?_
            clear hOw hLl hrow hn8
            obtain ⟨A8, c8, rfl⟩ := ho8.form
            have hb08 : Below w.heap.size w w8 := HX.out.2.2.2.2.trans hb8
            have hz8 := hb8.size
            have hP8 : RowP w8 w8.heap.size 9 (.slice A8 (es ++ es).length c8) (es ++ es).length (fun q cs => ∃ x, (es ++ es)[q]? = some x ∧ ES 3 w8 w8.heap.size x cs) :=
              RowB.sub (OwnE.row ho8 (by omega) (by have := HX.out.2.1; unfold maxLen; omega)) (fun b hb => hb.2) (fun q cs ⟨x, hx, hv⟩ => ⟨x, hx, EB.sub (fun b hb => hb.2) (Nat.le_refl _) hv⟩)
            have hf := functionP_any 2 a A8 c8 (es ++ es) w8 hP8 HX.out.2.1 HAK.out.1 HX.out.2.2.1
            rw [funR_congr HX.out.1] at hf
            have hlt8 : w2.heap.size < w6.heap.size := (Array.getElem?_eq_some_iff.1 HKV.out.1).1
            have k8 : w8.heap[w2.heap.size]? = some (.cells #[.int .i64 a2, .int .i64 i2, .string s2, .slice P1 m1 e1, .slice P2 m2 e2, .slice P3 m3 e3, .slice P4 m4 e4] 27 (0, 0)) := (hk8 _ hlt8 (HX.out.2.2.2.1 _ HB2.out.size)).trans HKV.out.1
            have hv8 : VB 4 w8 (Btw wr.heap.size w2.heap.size) (funV a (srtC cmpE es)) [.int .i64 a2, .int .i64 i2, .string s2, .slice P1 m1 e1, .slice P2 m2 e2, .slice P3 m3 e3, .slice P4 m4 e4] := VB.keep ⟨hz8, fun b i hB hl => World.cell?_of_block (hk8 b hl (HX.out.2.2.2.1 _ hB.1))⟩ HKV.out.2
            clear ho8 hb8 hP8 hk8
            generalize hm8 : (es ++ es).length = m8 at *
            have HM8 := Lib.hid hm8
            clear hm8
            go_wp2_with fail
            refine hf.mono ?_
            rintro e w9 ⟨hb9, hcase⟩
            clear hf
            rcases hcase with ⟨hF', cs', rfl, hv'⟩ | ⟨hF', rfl⟩
            · have k9 : w9.heap[w2.heap.size]? = some (.cells #[.int .i64 a2, .int .i64 i2, .string s2, .slice P1 m1 e1, .slice P2 m2 e2, .slice P3 m3 e3, .slice P4 m4 e4] 27 (0, 0)) := (hb9.block _ (by omega)).trans k8
              have hz9 := hb9.size
              obtain ⟨a4, i4, s4, R1, o1, h1, R2, o2, h2, R3, o3, h3, R4, o4, h4, rfl⟩ := hv'.form7
              obtain ⟨w10, hw10⟩ : ∃ V, V = w9.alloc (.cells #[.int .i64 a4, .int .i64 i4, .string s4, .slice R1 o1 h1, .slice R2 o2 h2, .slice R3 o3 h3, .slice R4 o4 h4] 27) := ⟨_, rfl⟩
              have hb10 : Below w9.heap.size w9 w10 := by rw [hw10]; exact (Below.refl _ _).alloc (Nat.le_refl _) _
              have hz10 := hb10.size
              have k10 : w10.heap[w2.heap.size]? = some (.cells #[.int .i64 a2, .int .i64 i2, .string s2, .slice P1 m1 e1, .slice P2 m2 e2, .slice P3 m3 e3, .slice P4 m4 e4] 27 (0, 0)) := (hb10.block _ (by omega)).trans k9
              have k10' := k10
              rw [hw10] at k10'
              obtain ⟨t0, t1, t2, t3, t4, t5, t6⟩ := cells7 k10'
              have HB10 := Lib.hid (hb08.trans ((hb9.trans (hb10.mono hb9.size)).mono hb08.size))
              have hv10 : VB 4 w10 (Btw wr.heap.size w2.heap.size) (funV a (srtC cmpE es)) [.int .i64 a2, .int .i64 i2, .string s2, .slice P1 m1 e1, .slice P2 m2 e2, .slice P3 m3 e3, .slice P4 m4 e4] := VB.keep (Same.of_below hb10 fun b h => by have := h.2; omega) (VB.keep (Same.of_below hb9 fun b h => by have := h.2; omega) hv8)
              have hEq := refEqual_any 4 (funV a (srtC cmpE es)) (funV a (srtC cmpE es)) [.int .i64 a2, .int .i64 i2, .string s2, .slice P1 m1 e1, .slice P2 m2 e2, .slice P3 m3 e3, .slice P4 m4 e4] [.int .i64 a4, .int .i64 i4, .string s4, .slice R1 o1 h1, .slice R2 o2 h2, .slice R3 o3 h3, .slice R4 o4 h4] w10 (VB.sub (fun b hb => by have := hb.2; omega) (Nat.le_refl _) hv10) (VS.up hb10.size (Nat.le_refl _) (VS.on hb10 (VB.sub (fun b hb => hb.2) (Nat.le_refl _) hv')))
              rw [decide_eq_true (cmpV_zero.2 rfl)] at hEq
              have hlt10 : w2.heap.size < w10.heap.size := by omega
              have HVM : Hid (∀ V, Below w10.heap.size w10 V → Calls Tryz.prog 11 #[.agg #[.int .i64 a2, .int .i64 i2, .string s2, .slice P1 m1 e1, .slice P2 m2 e2, .slice P3 m3 e3, .slice P4 m4 e4]] V fun e w' => e = .returned (.int .i64 0) ∧ Below V.heap.size V w') := Lib.hid fun V hV => by
                have hs := hV.size
                have h := validate_any 4 (funV a (srtC cmpE es)) [.int .i64 a2, .int .i64 i2, .string s2, .slice P1 m1 e1, .slice P2 m2 e2, .slice P3 m3 e3, .slice P4 m4 e4] V (VB.sub (fun b hb => by have := hb.2; omega) (Nat.le_refl _) (VB.keep (Same.of_below hV fun b h => by have := h.2; omega) hv10))
                rw [okV_funV HF.out (fun x hx => (HALL.out x hx).1), if_pos rfl] at h
                exact h
              have HK10 : Hid (∀ V, Below w10.heap.size w10 V → V.heap[w2.heap.size]? = some (.cells #[.int .i64 a2, .int .i64 i2, .string s2, .slice P1 m1 e1, .slice P2 m2 e2, .slice P3 m3 e3, .slice P4 m4 e4] 27 (0, 0))) := Lib.hid fun V hV => (hV.block _ hlt10).trans k10
              clear hv10 hv8 hv' hlt10
              clear hb9 hb10 hb08 k8 k9 k10 k10' hz8 hz9 hz10 hlt8 hsW
              go_wp2_with fail
              rw [← hw10]
              clear hw10 t0 t1 t2 t3 t4 t5 t6
              refine hEq.mono ?_
              rintro e w11 ⟨rfl, hb11⟩
              clear hEq
              have HB11 := Lib.hid hb11
              clear hb11
              obtain ⟨t0, t1, t2, t3, t4, t5, t6⟩ := cells7 (HK10.out w11 HB11.out)
              go_wp2_with fail
              clear t0 t1 t2 t3 t4 t5 t6
              refine (HVM.out w11 HB11.out).mono ?_
              rintro e w12 ⟨rfl, hb12⟩
              go_wp2_with (go_at_call 9; refine (awake_any _).mono ?_; rintro e w13 ⟨rfl, hb13⟩; refine Hid.out ?_)
              refine Lib.hid ?_
              go_wp2
              go_ret
              exact ⟨rfl, HB10.out.trans ((HB11.out.trans ((hb12.trans (hb13.mono hb12.size)).mono HB11.out.size)).mono HB10.out.size)⟩
            · exact absurd (HF.out.symm.trans hF') (by decide)
        · exact absurd (HF.out.symm.trans hF') (by decide)
      · have HF := Lib.hid hF
        clear hF
        go_wp2_with fail
        obtain ⟨w3, hw3⟩ : ∃ V, V = w2.alloc (.cells #[.int .i64 0, .int .i64 0, .string ⟨#[]⟩, .slice none 0 0, .slice none 0 0, .slice none 0 0, .slice none 0 0] 27) := ⟨_, rfl⟩
        have hb3 : Below w2.heap.size w2 w3 := by rw [hw3]; exact (Below.refl _ _).alloc (Nat.le_refl _) _
        have hz3 : w3.heap.size = w2.heap.size + 1 := by rw [hw3]; simp
        have k3 : w3.heap[w2.heap.size]? = some (.cells #[.int .i64 0, .int .i64 0, .string ⟨#[]⟩, .slice none 0 0, .slice none 0 0, .slice none 0 0, .slice none 0 0] 27 (0, 0)) := by rw [hw3]; exact heap_alloc_new w2 _
        rw [← hw3]
        clear hw3
        have HB3 : Hid (Below wr.heap.size wr w3) := Lib.hid (HB2.out.trans (hb3.mono HB2.out.size))
        refine (HRF.out w3 HB3.out).mono ?_
        rintro e w4 ⟨hb4, hcase⟩
        rcases hcase with ⟨hF', cs', rfl, hv'⟩ | ⟨hF', rfl⟩
        · exact absurd (HF.out.symm.trans hF') (by decide)
        · have hz4 := hb4.size
          have k4 : w4.heap[w2.heap.size]? = some (.cells #[.int .i64 0, .int .i64 0, .string ⟨#[]⟩, .slice none 0 0, .slice none 0 0, .slice none 0 0, .slice none 0 0] 27 (0, 0)) := (hb4.block _ (by omega)).trans k3
          have HB4 : Hid (Below wr.heap.size wr w4) := Lib.hid (HB3.out.trans (hb4.mono HB3.out.size))
          obtain ⟨w5, hw5⟩ : ∃ V, V = w4.alloc (.cells #[.int .i64 0, .int .i64 0, .string ⟨#[]⟩, .slice none 0 0, .slice none 0 0, .slice none 0 0, .slice none 0 0] 27) := ⟨_, rfl⟩
          have hb5 : Below w4.heap.size w4 w5 := by rw [hw5]; exact (Below.refl _ _).alloc (Nat.le_refl _) _
          have k5 : w5.heap[w2.heap.size]? = some (.cells #[.int .i64 0, .int .i64 0, .string ⟨#[]⟩, .slice none 0 0, .slice none 0 0, .slice none 0 0, .slice none 0 0] 27 (0, 0)) := (hb5.block _ (by omega)).trans k4
          have k5' := k5
          rw [hw5] at k5'
          obtain ⟨t0, t1, t2, t3, t4, t5, t6⟩ := cells7 k5'
          have hz5 : w2.heap.size < w5.heap.size := by have := hb5.size; omega
          have HB5 : Hid (Below wr.heap.size wr w5) := Lib.hid (HB4.out.trans (hb5.mono HB4.out.size))
          have HKM : Hid (∀ V, Below w5.heap.size w5 V → V.heap[w2.heap.size]? = some (.cells #[.int .i64 0, .int .i64 0, .string ⟨#[]⟩, .slice none 0 0, .slice none 0 0, .slice none 0 0, .slice none 0 0] 27 (0, 0))) := Lib.hid fun V hV => (hV.block _ hz5).trans k5
          have hEq := refEqual_any 1 zeroV zeroV [.int .i64 0, .int .i64 0, .string ⟨#[]⟩, .slice none 0 0, .slice none 0 0, .slice none 0 0, .slice none 0 0] [.int .i64 0, .int .i64 0, .string ⟨#[]⟩, .slice none 0 0, .slice none 0 0, .slice none 0 0, .slice none 0 0] w5 (zeroVB 0 _ _) (zeroVB 0 _ _)
          rw [decide_eq_true (cmpV_zero.2 rfl)] at hEq
          clear hb3 hb4 hb5 k3 k4 k5 k5' hz3 hz4 hz5
          by_cases h1 : 1 < la
          · have q1 : decide ((1 : Int) < (la : Int)) = true := by rw [decide_eq_true_eq]; omega
            go_wp2_with fail
            rw [← hw5]
            clear hw5 t0 t1 t2 t3 t4 t5 t6
            refine hEq.mono ?_
            rintro e w6 ⟨rfl, hb6⟩
            clear hEq
            have HB6 := Lib.hid hb6
            clear hb6
            obtain ⟨kb, hkb, hbk⟩ := land_one kk
            have hlm : la ≤ maxLen := by have := HLEN.out; rw [HLB.out.1] at this; unfold maxLen; omega
            obtain ⟨g, hg⟩ : ∃ g, A1 = some ⟨g, 0, none⟩ := by
              obtain ⟨xs, ho, _⟩ := HO.out
              rcases ho.2 with ⟨_, hn0⟩ | ⟨g, cap, cur, hs, _⟩
              · have := HLB.out.1; omega
              · injection hs with h1 _ _
                exact ⟨g, h1⟩
            subst hg
            have hO6 : OwnEn 3 w6 w.heap.size (.slice (some ⟨g, 0, none⟩) la c1) es := HO.out.old (HB5.out.trans (HB6.out.mono HB5.out.size))
            have hk0 : (kb : Int) < (la : Int) := by omega
            have hk1 : (0 : Int) ≤ (kb : Int) := by omega
            have hk2 : 0 < la := by omega
            have hfz : ∀ j, w6.frozen? ⟨g, j, none⟩ = false := fun j => by obtain ⟨xs, ho, _⟩ := hO6; rw [HLB.out.1] at ho; exact ho.frozenAt j
            obtain ⟨y, E1, r1, r2, b0, b1, b2, b3, E2, r3, r4, E3, r5, r6, E4, r7, r8, E5, r9, r10, hy, hE, x0, x1, x2, x3, x4, x5, x6, x7, x8⟩ := own_at9 hO6 HLB.out.1 hlm (show 0 < la by omega)
            obtain ⟨z, G1, y1, y2, d0, d1, d2, d3, G2, y3, y4, G3, y5, y6, G4, y7, y8, G5, y9, y10, hz, hEz, u0, u1, u2, u3, u4, u5, u6', u7, u8⟩ := own_at9 hO6 HLB.out.1 hlm (show kb < la by omega)
            simp only [Nat.zero_mul, Nat.zero_add] at x0 x1 x2 x3 x4 x5 x6 x7 x8
            have HSW := Lib.hid (And.intro hO6 (And.intro hE (And.intro hEz (And.intro hy (And.intro hz hkb)))))
            have HG : Hid (g < wr.heap.size) := Lib.hid (HO.out.blk g rfl).2
            clear hO6 hE hEz hy hz hlm hkb
            have f0 := hfz 0
            have f1 := hfz 1
            have f2 := hfz 2
            have f3 := hfz 3
            have f4 := hfz 4
            have f5 := hfz 5
            have f6 := hfz 6
            have f7 := hfz 7
            have f8 := hfz 8
            have ff0 := hfz (kb * 9)
            have ff1 := hfz (kb * 9 + 1)
            have ff2 := hfz (kb * 9 + 2)
            have ff3 := hfz (kb * 9 + 3)
            have ff4 := hfz (kb * 9 + 4)
            have ff5 := hfz (kb * 9 + 5)
            have ff6 := hfz (kb * 9 + 6)
            have ff7 := hfz (kb * 9 + 7)
            have ff8 := hfz (kb * 9 + 8)
            clear hfz
            go_wp2_with fail
            refine wp_region_held_drew (S := fun _ => True) (by kernel_rfl) trivial (fun hHeld => ?_)
            try simp only [Act.put, pA, pB, pC]
            refine tk 0 trivial ?_
            try simp only [Act.put, pA, pB, pC]
            refine tk 1 trivial ?_
            try simp only [Act.put, pA, pB, pC]
            refine tk 2 trivial ?_
            try simp only [Act.put, pA, pB, pC]
            refine tk 3 trivial ?_
            try simp only [Act.put, pA, pB, pC]
            refine tk 4 trivial ?_
            try simp only [Act.put, pA, pB, pC]
            refine tk 5 trivial ?_
            try simp only [Act.put, pA, pB, pC]
            refine tk 7 trivial ?_
            try simp only [Act.put, pA, pB, pC]
            refine tk 8 trivial ?_
            try simp only [Act.put, pA, pB, pC]
            refine wpAnyH_all (rs := [6, 9]) (by kernel_rfl) (by simp) fun j hj => ?_
            have hj2 : j = 6 ∨ j = 9 := by simpa using hj
            clear hj
            rcases hj2 with rfl | rfl
            · refine step_op rfl (by rfl) (fun K hK => ?_)
              go_simp
              refine hK _ _ ⟨trivial, ?_⟩
              try simp only [Act.put, pA, pB, pC]
              refine one_op 9 (by kernel_rfl) rfl (by rfl) (fun K hK => ?_)
              go_simp
              refine hK _ _ trivial ?_
              try simp only [Act.put, pA, pB, pC]
              refine tk 10 trivial ?_
              try simp only [Act.put, pA, pB, pC]
              refine one_op 11 (by kernel_rfl) rfl (by rfl) (fun K hK => ?_)
              go_simp
              refine hK _ _ trivial ?_
              try simp only [Act.put, pA, pB, pC]
              clear x0 x1 x2 x3 x4 x5 x6 x7 x8 u0 u1 u2 u3 u4 u5 u6' u7 u8 f0 f1 f2 f3 f4 f5 f6 f7 f8 ff0 ff1 ff2 ff3 ff4 ff5 ff6 ff7 ff8
              obtain ⟨v7, hv7⟩ : ∃ V, V = (((((((((w6.setCell ⟨g, 0, none⟩ (.slice G1 y1 y2)).setCell ⟨g, 1, none⟩ (.bool d0)).setCell ⟨g, 2, none⟩ (.int .i64 d1)).setCell ⟨g, 3, none⟩ (.int .i64 d2)).setCell ⟨g, 4, none⟩ (.string d3)).setCell ⟨g, 5, none⟩ (.slice G2 y3 y4)).setCell ⟨g, 6, none⟩ (.slice G3 y5 y6)).setCell ⟨g, 7, none⟩ (.slice G4 y7 y8)).setCell ⟨g, 8, none⟩ (.slice G5 y9 y10)) := ⟨_, rfl⟩
              rw [← hv7]
              obtain ⟨hO7, hs7, hb7, hk7⟩ := own_put9 HSW.out.1 HLB.out.1 (show 0 < la by omega) HSW.out.2.2.1 v7 hv7
              have hl7 : (es.set 0 z).length = la := by rw [List.length_set]; exact HLB.out.1
              have hfz7 : ∀ j, v7.frozen? ⟨g, j, none⟩ = false := fun j => by obtain ⟨xs, ho, _⟩ := hO7; rw [hl7] at ho; exact ho.frozenAt j
              obtain ⟨_, _, _, _, _, _, _, _, _, _, _, _, _, _, _, _, _, _, _, _, _, _, x0, x1, x2, x3, x4, x5, x6, x7, x8⟩ := own_at9 hO7 hl7 (by have := HLEN.out; rw [HLB.out.1] at this; unfold maxLen; omega) (show kb < la by omega)
              have ff0 := hfz7 (kb * 9)
              have ff1 := hfz7 (kb * 9 + 1)
              have ff2 := hfz7 (kb * 9 + 2)
              have ff3 := hfz7 (kb * 9 + 3)
              have ff4 := hfz7 (kb * 9 + 4)
              have ff5 := hfz7 (kb * 9 + 5)
              have ff6 := hfz7 (kb * 9 + 6)
              have ff7 := hfz7 (kb * 9 + 7)
              have ff8 := hfz7 (kb * 9 + 8)
              have H7 := Lib.hid (And.intro hO7 (And.intro hs7 (And.intro hb7 (And.intro hk7 hl7))))
              clear hv7 hO7 hs7 hb7 hk7 hl7 hfz7
              refine tk 12 trivial ?_
              try simp only [Act.put, pA, pB, pC]
              refine one_op 13 (by kernel_rfl) rfl (by rfl) (fun K hK => ?_)
              go_simp
              refine hK _ _ trivial ?_
              try simp only [Act.put, pA, pB, pC]
              refine wpAnyH_done (by kernel_rfl) ?_ _
              clear x0 x1 x2 x3 x4 x5 x6 x7 x8 ff0 ff1 ff2 ff3 ff4 ff5 ff6 ff7 ff8
              obtain ⟨v8', hv8'⟩ : ∃ V, V = (((((((((v7.setCell ⟨g, kb * 9, none⟩ (.slice E1 r1 r2)).setCell ⟨g, kb * 9 + 1, none⟩ (.bool b0)).setCell ⟨g, kb * 9 + 2, none⟩ (.int .i64 b1)).setCell ⟨g, kb * 9 + 3, none⟩ (.int .i64 b2)).setCell ⟨g, kb * 9 + 4, none⟩ (.string b3)).setCell ⟨g, kb * 9 + 5, none⟩ (.slice E2 r3 r4)).setCell ⟨g, kb * 9 + 6, none⟩ (.slice E3 r5 r6)).setCell ⟨g, kb * 9 + 7, none⟩ (.slice E4 r7 r8)).setCell ⟨g, kb * 9 + 8, none⟩ (.slice E5 r9 r10)) := ⟨_, rfl⟩
              rw [← hv8']
              obtain ⟨hO7, hs7, hb7, hk7, hl7⟩ := H7.out
              have hSm7 : Same (fun b => w.heap.size ≤ b ∧ b < w6.heap.size ∧ some b ≠ some g) w6 v7 := ⟨by omega, fun b i hB _ => World.cell?_of_block (hk7 b fun e => hB.2.2 (by rw [e]))⟩
              have hE7 := (elE 3).sub (B' := fun b => w.heap.size ≤ b ∧ b < v7.heap.size ∧ some b ≠ some g) (fun b hb => ⟨hb.1, by rw [hs7]; exact hb.2.1, hb.2.2⟩) ((elE 3).keep hSm7 HSW.out.2.1)
              obtain ⟨hO8, hs8, hb8, hk8⟩ := own_put9 hO7 hl7 (show kb < la by omega) hE7 v8' hv8'
              obtain ⟨L, hL⟩ : ∃ L, L = (es.set 0 z).set kb y := ⟨_, rfl⟩
              rw [← hL] at hO8
              obtain ⟨wv, hwv⟩ : ∃ V, V = v8'.drew := ⟨_, rfl⟩
              rw [← hwv]
              have hbD : Below v8'.heap.size v8' wv := by rw [hwv]; exact (Below.refl _ _).drew
              have hOw : OwnEn 3 wv w.heap.size (.slice (some ⟨g, 0, none⟩) la c1) L := hO8.old hbD
              have hLl : L.length = la := by rw [hL, List.length_set]; exact hl7
              have hmem : ∀ x, x ∈ L ↔ x ∈ es := fun x => by rw [hL]; exact mem_swap HSW.out.2.2.2.1 HSW.out.2.2.2.2.1 HSW.out.2.2.2.2.2 x
              have hb06 : Below w.heap.size w w6 := HB.out.trans ((HB5.out.trans (HB6.out.mono HB5.out.size)).mono hbs)
              have hbv8 : Below w.heap.size w v8' := hb06.trans (hb7.trans hb8)
              have hbW : Below w.heap.size w wv := hbv8.trans (hbD.mono hbv8.size)
              have hblk6 : ∀ b, b < w6.heap.size → b ≠ g → wv.heap[b]? = w6.heap[b]? := fun b hb hne => (hbD.block b (by omega)).trans ((hk8 b hne).trans (hk7 b hne))
              have hgg := HG.out
              have hw26 := HB2.out.size
              have kM := (hblk6 w2.heap.size ((Array.getElem?_eq_some_iff.1 (HKM.out w6 HB6.out)).1) (by omega)).trans (HKM.out w6 HB6.out)
              clear hwv hL hv8' hO7 hs7 hb7 hk7 hl7 hSm7 hE7 hO8 hs8 hb8 hk8 hb06 hbv8 hbD hblk6 hgg hw26 hk0 hk1 hk2 hbk
              have hL8 := HLEN.out
              have hrow : RowB wv (Btw w.heap.size wv.heap.size) 9 (.slice (some ⟨g, 0, none⟩) la c1) la (fun j cs => ∃ y, L[j]? = some y ∧ (elE 3).E y wv (fun b => w.heap.size ≤ b ∧ b < wv.heap.size ∧ some b ≠ (Value.slice (some ⟨g, 0, none⟩) la c1).ownBlock) cs) := by
                have h := OwnE.row' hOw (by omega) (by unfold maxLen; rw [hLl, ← HLB.out.1]; omega)
                rw [hLl] at h
                exact h
              have hn8 : L.length + la ≤ 300000000 := by rw [hLl, ← HLB.out.1]; omega
              have hsW := hbW.size
              have hmem8 : ∀ x, x ∈ L ++ L ↔ x ∈ es := fun x => by rw [List.mem_append, hmem x]; exact ⟨fun h => h.elim id id, .inl⟩
              have hlen8 : (L ++ L).length ≤ 100000000 := by rw [List.length_append, hLl, ← HLB.out.1]; omega
              have hsml8 : smlEs (L ++ L) := smlEs_iff'.2 fun x hx => (HALL.out x ((hmem8 x).1 hx)).2
              have hgw : ∀ b, wr.heap.size ≤ b → some b ≠ (Value.slice (some ⟨g, 0, none⟩) la c1).ownBlock := fun b hb e => by have := (HO.out.blk b e.symm).2; omega
              have HX := Lib.hid (And.intro hmem8 (And.intro hlen8 (And.intro hsml8 (And.intro hgw hbW))))
              have HKV := Lib.hid kM
              clear hmem8 hlen8 hsml8 hL8 hgw hmem hbW kM
              go_wp2_with (at_builtin; refine wp_row_e rfl _ _ rfl 3 w.heap.size (.slice (some ⟨g, 0, none⟩) la c1) L rfl hOw (some ⟨g, 0, none⟩) la c1 L hLl _ rfl hrow hn8 hsW ?_; intro v8 w8 ho8 hb8 hk8 _; refine Hid.out ?_)
              refine Lib.hid ?_
              clear hOw hLl hrow hn8
              obtain ⟨A8, c8, rfl⟩ := ho8.form
              have hb08 : Below w.heap.size w w8 := HX.out.2.2.2.2.trans hb8
              have hz8 := hb8.size
              have hP8 : RowP w8 w8.heap.size 9 (.slice A8 (L ++ L).length c8) (L ++ L).length (fun q cs => ∃ x, (L ++ L)[q]? = some x ∧ ES 3 w8 w8.heap.size x cs) :=
                RowB.sub (OwnE.row ho8 (by omega) (by have := HX.out.2.1; unfold maxLen; omega)) (fun b hb => hb.2) (fun q cs ⟨x, hx, hv⟩ => ⟨x, hx, EB.sub (fun b hb => hb.2) (Nat.le_refl _) hv⟩)
              have hf := functionP_any 2 a A8 c8 (L ++ L) w8 hP8 HX.out.2.1 HAK.out.1 HX.out.2.2.1
              rw [funR_congr HX.out.1] at hf
              have hlt8 : w2.heap.size < wv.heap.size := (Array.getElem?_eq_some_iff.1 HKV.out).1
              have k8 : w8.heap[w2.heap.size]? = some (.cells #[.int .i64 0, .int .i64 0, .string ⟨#[]⟩, .slice none 0 0, .slice none 0 0, .slice none 0 0, .slice none 0 0] 27 (0, 0)) := (hk8 _ hlt8 (HX.out.2.2.2.1 _ HB2.out.size)).trans HKV.out
              clear ho8 hb8 hP8 hk8
              generalize hm8 : (L ++ L).length = m8 at *
              have HM8 := Lib.hid hm8
              clear hm8
              go_wp2_with fail
              refine hf.mono ?_
              rintro e w9 ⟨hb9, hcase⟩
              clear hf
              rcases hcase with ⟨hF', cs', rfl, hv'⟩ | ⟨hF', rfl⟩
              · exact absurd (HF.out.symm.trans hF') (by decide)
              · have k9 : w9.heap[w2.heap.size]? = some (.cells #[.int .i64 0, .int .i64 0, .string ⟨#[]⟩, .slice none 0 0, .slice none 0 0, .slice none 0 0, .slice none 0 0] 27 (0, 0)) := (hb9.block _ (by omega)).trans k8
                have hz9 := hb9.size
                obtain ⟨w10, hw10⟩ : ∃ V, V = w9.alloc (.cells #[.int .i64 0, .int .i64 0, .string ⟨#[]⟩, .slice none 0 0, .slice none 0 0, .slice none 0 0, .slice none 0 0] 27) := ⟨_, rfl⟩
                have hb10 : Below w9.heap.size w9 w10 := by rw [hw10]; exact (Below.refl _ _).alloc (Nat.le_refl _) _
                have hz10 := hb10.size
                have k10 : w10.heap[w2.heap.size]? = some (.cells #[.int .i64 0, .int .i64 0, .string ⟨#[]⟩, .slice none 0 0, .slice none 0 0, .slice none 0 0, .slice none 0 0] 27 (0, 0)) := (hb10.block _ (by omega)).trans k9
                have k10' := k10
                rw [hw10] at k10'
                obtain ⟨t0, t1, t2, t3, t4, t5, t6⟩ := cells7 k10'
                have HB10 := Lib.hid (hb08.trans ((hb9.trans (hb10.mono hb9.size)).mono hb08.size))
                have hEq := refEqual_any 1 zeroV zeroV [.int .i64 0, .int .i64 0, .string ⟨#[]⟩, .slice none 0 0, .slice none 0 0, .slice none 0 0, .slice none 0 0] [.int .i64 0, .int .i64 0, .string ⟨#[]⟩, .slice none 0 0, .slice none 0 0, .slice none 0 0, .slice none 0 0] w10 (zeroVB 0 _ _) (zeroVB 0 _ _)
                rw [decide_eq_true (cmpV_zero.2 rfl)] at hEq
                clear hb9 hb10 hb08 k8 k9 k10 k10' hz8 hz9 hz10 hlt8 hsW
                go_wp2_with fail
                rw [← hw10]
                clear hw10 t0 t1 t2 t3 t4 t5 t6
                refine hEq.mono ?_
                rintro e w11 ⟨rfl, hb11⟩
                clear hEq
                go_wp2_with (go_at_call 9; refine (awake_any _).mono ?_; rintro e w13 ⟨rfl, hb13⟩; refine Hid.out ?_)
                refine Lib.hid ?_
                go_wp2
                go_ret
                exact ⟨rfl, HB10.out.trans ((hb11.trans (hb13.mono hb11.size)).mono HB10.out.size)⟩
            · refine step_op rfl (by rfl) (fun K hK => ?_)
              go_simp
              refine hK _ _ ⟨trivial, ?_⟩
              try simp only [Act.put, pA, pB, pC]
              refine one_op 6 (by kernel_rfl) rfl (by rfl) (fun K hK => ?_)
              go_simp
              refine hK _ _ trivial ?_
              try simp only [Act.put, pA, pB, pC]
              refine tk 10 trivial ?_
              try simp only [Act.put, pA, pB, pC]
              refine one_op 11 (by kernel_rfl) rfl (by rfl) (fun K hK => ?_)
              go_simp
              refine hK _ _ trivial ?_
              try simp only [Act.put, pA, pB, pC]
              clear x0 x1 x2 x3 x4 x5 x6 x7 x8 u0 u1 u2 u3 u4 u5 u6' u7 u8 f0 f1 f2 f3 f4 f5 f6 f7 f8 ff0 ff1 ff2 ff3 ff4 ff5 ff6 ff7 ff8
              obtain ⟨v7, hv7⟩ : ∃ V, V = (((((((((w6.setCell ⟨g, 0, none⟩ (.slice G1 y1 y2)).setCell ⟨g, 1, none⟩ (.bool d0)).setCell ⟨g, 2, none⟩ (.int .i64 d1)).setCell ⟨g, 3, none⟩ (.int .i64 d2)).setCell ⟨g, 4, none⟩ (.string d3)).setCell ⟨g, 5, none⟩ (.slice G2 y3 y4)).setCell ⟨g, 6, none⟩ (.slice G3 y5 y6)).setCell ⟨g, 7, none⟩ (.slice G4 y7 y8)).setCell ⟨g, 8, none⟩ (.slice G5 y9 y10)) := ⟨_, rfl⟩
              rw [← hv7]
              obtain ⟨hO7, hs7, hb7, hk7⟩ := own_put9 HSW.out.1 HLB.out.1 (show 0 < la by omega) HSW.out.2.2.1 v7 hv7
              have hl7 : (es.set 0 z).length = la := by rw [List.length_set]; exact HLB.out.1
              have hfz7 : ∀ j, v7.frozen? ⟨g, j, none⟩ = false := fun j => by obtain ⟨xs, ho, _⟩ := hO7; rw [hl7] at ho; exact ho.frozenAt j
              obtain ⟨_, _, _, _, _, _, _, _, _, _, _, _, _, _, _, _, _, _, _, _, _, _, x0, x1, x2, x3, x4, x5, x6, x7, x8⟩ := own_at9 hO7 hl7 (by have := HLEN.out; rw [HLB.out.1] at this; unfold maxLen; omega) (show kb < la by omega)
              have ff0 := hfz7 (kb * 9)
              have ff1 := hfz7 (kb * 9 + 1)
              have ff2 := hfz7 (kb * 9 + 2)
              have ff3 := hfz7 (kb * 9 + 3)
              have ff4 := hfz7 (kb * 9 + 4)
              have ff5 := hfz7 (kb * 9 + 5)
              have ff6 := hfz7 (kb * 9 + 6)
              have ff7 := hfz7 (kb * 9 + 7)
              have ff8 := hfz7 (kb * 9 + 8)
              have H7 := Lib.hid (And.intro hO7 (And.intro hs7 (And.intro hb7 (And.intro hk7 hl7))))
              clear hv7 hO7 hs7 hb7 hk7 hl7 hfz7
              refine tk 12 trivial ?_
              try simp only [Act.put, pA, pB, pC]
              refine one_op 13 (by kernel_rfl) rfl (by rfl) (fun K hK => ?_)
              go_simp
              refine hK _ _ trivial ?_
              try simp only [Act.put, pA, pB, pC]
              refine wpAnyH_done (by kernel_rfl) ?_ _
              clear x0 x1 x2 x3 x4 x5 x6 x7 x8 ff0 ff1 ff2 ff3 ff4 ff5 ff6 ff7 ff8
              obtain ⟨v8', hv8'⟩ : ∃ V, V = (((((((((v7.setCell ⟨g, kb * 9, none⟩ (.slice E1 r1 r2)).setCell ⟨g, kb * 9 + 1, none⟩ (.bool b0)).setCell ⟨g, kb * 9 + 2, none⟩ (.int .i64 b1)).setCell ⟨g, kb * 9 + 3, none⟩ (.int .i64 b2)).setCell ⟨g, kb * 9 + 4, none⟩ (.string b3)).setCell ⟨g, kb * 9 + 5, none⟩ (.slice E2 r3 r4)).setCell ⟨g, kb * 9 + 6, none⟩ (.slice E3 r5 r6)).setCell ⟨g, kb * 9 + 7, none⟩ (.slice E4 r7 r8)).setCell ⟨g, kb * 9 + 8, none⟩ (.slice E5 r9 r10)) := ⟨_, rfl⟩
              rw [← hv8']
              obtain ⟨hO7, hs7, hb7, hk7, hl7⟩ := H7.out
              have hSm7 : Same (fun b => w.heap.size ≤ b ∧ b < w6.heap.size ∧ some b ≠ some g) w6 v7 := ⟨by omega, fun b i hB _ => World.cell?_of_block (hk7 b fun e => hB.2.2 (by rw [e]))⟩
              have hE7 := (elE 3).sub (B' := fun b => w.heap.size ≤ b ∧ b < v7.heap.size ∧ some b ≠ some g) (fun b hb => ⟨hb.1, by rw [hs7]; exact hb.2.1, hb.2.2⟩) ((elE 3).keep hSm7 HSW.out.2.1)
              obtain ⟨hO8, hs8, hb8, hk8⟩ := own_put9 hO7 hl7 (show kb < la by omega) hE7 v8' hv8'
              obtain ⟨L, hL⟩ : ∃ L, L = (es.set 0 z).set kb y := ⟨_, rfl⟩
              rw [← hL] at hO8
              obtain ⟨wv, hwv⟩ : ∃ V, V = v8'.drew := ⟨_, rfl⟩
              rw [← hwv]
              have hbD : Below v8'.heap.size v8' wv := by rw [hwv]; exact (Below.refl _ _).drew
              have hOw : OwnEn 3 wv w.heap.size (.slice (some ⟨g, 0, none⟩) la c1) L := hO8.old hbD
              have hLl : L.length = la := by rw [hL, List.length_set]; exact hl7
              have hmem : ∀ x, x ∈ L ↔ x ∈ es := fun x => by rw [hL]; exact mem_swap HSW.out.2.2.2.1 HSW.out.2.2.2.2.1 HSW.out.2.2.2.2.2 x
              have hb06 : Below w.heap.size w w6 := HB.out.trans ((HB5.out.trans (HB6.out.mono HB5.out.size)).mono hbs)
              have hbv8 : Below w.heap.size w v8' := hb06.trans (hb7.trans hb8)
              have hbW : Below w.heap.size w wv := hbv8.trans (hbD.mono hbv8.size)
              have hblk6 : ∀ b, b < w6.heap.size → b ≠ g → wv.heap[b]? = w6.heap[b]? := fun b hb hne => (hbD.block b (by omega)).trans ((hk8 b hne).trans (hk7 b hne))
              have hgg := HG.out
              have hw26 := HB2.out.size
              have kM := (hblk6 w2.heap.size ((Array.getElem?_eq_some_iff.1 (HKM.out w6 HB6.out)).1) (by omega)).trans (HKM.out w6 HB6.out)
              clear hwv hL hv8' hO7 hs7 hb7 hk7 hl7 hSm7 hE7 hO8 hs8 hb8 hk8 hb06 hbv8 hbD hblk6 hgg hw26 hk0 hk1 hk2 hbk
              have hL8 := HLEN.out
              have hrow : RowB wv (Btw w.heap.size wv.heap.size) 9 (.slice (some ⟨g, 0, none⟩) la c1) la (fun j cs => ∃ y, L[j]? = some y ∧ (elE 3).E y wv (fun b => w.heap.size ≤ b ∧ b < wv.heap.size ∧ some b ≠ (Value.slice (some ⟨g, 0, none⟩) la c1).ownBlock) cs) := by
                have h := OwnE.row' hOw (by omega) (by unfold maxLen; rw [hLl, ← HLB.out.1]; omega)
                rw [hLl] at h
                exact h
              have hn8 : L.length + la ≤ 300000000 := by rw [hLl, ← HLB.out.1]; omega
              have hsW := hbW.size
              have hmem8 : ∀ x, x ∈ L ++ L ↔ x ∈ es := fun x => by rw [List.mem_append, hmem x]; exact ⟨fun h => h.elim id id, .inl⟩
              have hlen8 : (L ++ L).length ≤ 100000000 := by rw [List.length_append, hLl, ← HLB.out.1]; omega
              have hsml8 : smlEs (L ++ L) := smlEs_iff'.2 fun x hx => (HALL.out x ((hmem8 x).1 hx)).2
              have hgw : ∀ b, wr.heap.size ≤ b → some b ≠ (Value.slice (some ⟨g, 0, none⟩) la c1).ownBlock := fun b hb e => by have := (HO.out.blk b e.symm).2; omega
              have HX := Lib.hid (And.intro hmem8 (And.intro hlen8 (And.intro hsml8 (And.intro hgw hbW))))
              have HKV := Lib.hid kM
              clear hmem8 hlen8 hsml8 hL8 hgw hmem hbW kM
              go_wp2_with (at_builtin; refine wp_row_e rfl _ _ rfl 3 w.heap.size (.slice (some ⟨g, 0, none⟩) la c1) L rfl hOw (some ⟨g, 0, none⟩) la c1 L hLl _ rfl hrow hn8 hsW ?_; intro v8 w8 ho8 hb8 hk8 _; refine Hid.out ?_)
              refine Lib.hid ?_
              clear hOw hLl hrow hn8
              obtain ⟨A8, c8, rfl⟩ := ho8.form
              have hb08 : Below w.heap.size w w8 := HX.out.2.2.2.2.trans hb8
              have hz8 := hb8.size
              have hP8 : RowP w8 w8.heap.size 9 (.slice A8 (L ++ L).length c8) (L ++ L).length (fun q cs => ∃ x, (L ++ L)[q]? = some x ∧ ES 3 w8 w8.heap.size x cs) :=
                RowB.sub (OwnE.row ho8 (by omega) (by have := HX.out.2.1; unfold maxLen; omega)) (fun b hb => hb.2) (fun q cs ⟨x, hx, hv⟩ => ⟨x, hx, EB.sub (fun b hb => hb.2) (Nat.le_refl _) hv⟩)
              have hf := functionP_any 2 a A8 c8 (L ++ L) w8 hP8 HX.out.2.1 HAK.out.1 HX.out.2.2.1
              rw [funR_congr HX.out.1] at hf
              have hlt8 : w2.heap.size < wv.heap.size := (Array.getElem?_eq_some_iff.1 HKV.out).1
              have k8 : w8.heap[w2.heap.size]? = some (.cells #[.int .i64 0, .int .i64 0, .string ⟨#[]⟩, .slice none 0 0, .slice none 0 0, .slice none 0 0, .slice none 0 0] 27 (0, 0)) := (hk8 _ hlt8 (HX.out.2.2.2.1 _ HB2.out.size)).trans HKV.out
              clear ho8 hb8 hP8 hk8
              generalize hm8 : (L ++ L).length = m8 at *
              have HM8 := Lib.hid hm8
              clear hm8
              go_wp2_with fail
              refine hf.mono ?_
              rintro e w9 ⟨hb9, hcase⟩
              clear hf
              rcases hcase with ⟨hF', cs', rfl, hv'⟩ | ⟨hF', rfl⟩
              · exact absurd (HF.out.symm.trans hF') (by decide)
              · have k9 : w9.heap[w2.heap.size]? = some (.cells #[.int .i64 0, .int .i64 0, .string ⟨#[]⟩, .slice none 0 0, .slice none 0 0, .slice none 0 0, .slice none 0 0] 27 (0, 0)) := (hb9.block _ (by omega)).trans k8
                have hz9 := hb9.size
                obtain ⟨w10, hw10⟩ : ∃ V, V = w9.alloc (.cells #[.int .i64 0, .int .i64 0, .string ⟨#[]⟩, .slice none 0 0, .slice none 0 0, .slice none 0 0, .slice none 0 0] 27) := ⟨_, rfl⟩
                have hb10 : Below w9.heap.size w9 w10 := by rw [hw10]; exact (Below.refl _ _).alloc (Nat.le_refl _) _
                have hz10 := hb10.size
                have k10 : w10.heap[w2.heap.size]? = some (.cells #[.int .i64 0, .int .i64 0, .string ⟨#[]⟩, .slice none 0 0, .slice none 0 0, .slice none 0 0, .slice none 0 0] 27 (0, 0)) := (hb10.block _ (by omega)).trans k9
                have k10' := k10
                rw [hw10] at k10'
                obtain ⟨t0, t1, t2, t3, t4, t5, t6⟩ := cells7 k10'
                have HB10 := Lib.hid (hb08.trans ((hb9.trans (hb10.mono hb9.size)).mono hb08.size))
                have hEq := refEqual_any 1 zeroV zeroV [.int .i64 0, .int .i64 0, .string ⟨#[]⟩, .slice none 0 0, .slice none 0 0, .slice none 0 0, .slice none 0 0] [.int .i64 0, .int .i64 0, .string ⟨#[]⟩, .slice none 0 0, .slice none 0 0, .slice none 0 0, .slice none 0 0] w10 (zeroVB 0 _ _) (zeroVB 0 _ _)
                rw [decide_eq_true (cmpV_zero.2 rfl)] at hEq
                clear hb9 hb10 hb08 k8 k9 k10 k10' hz8 hz9 hz10 hlt8 hsW
                go_wp2_with fail
                rw [← hw10]
                clear hw10 t0 t1 t2 t3 t4 t5 t6
                refine hEq.mono ?_
                rintro e w11 ⟨rfl, hb11⟩
                clear hEq
                go_wp2_with (go_at_call 9; refine (awake_any _).mono ?_; rintro e w13 ⟨rfl, hb13⟩; refine Hid.out ?_)
                refine Lib.hid ?_
                go_wp2
                go_ret
                exact ⟨rfl, HB10.out.trans ((hb11.trans (hb13.mono hb11.size)).mono HB10.out.size)⟩
          · have q1 : decide ((1 : Int) < (la : Int)) = false := by rw [decide_eq_false_iff_not]; omega
            go_wp2_with fail
            rw [← hw5]
            clear hw5 t0 t1 t2 t3 t4 t5 t6
            refine hEq.mono ?_
            rintro e w6 ⟨rfl, hb6⟩
            clear hEq
            have HB6 := Lib.hid hb6
            clear hb6
            have hOw : OwnEn 3 w6 w.heap.size (.slice A1 la c1) es := HO.out.old (HB5.out.trans (HB6.out.mono HB5.out.size))
            have hLl : es.length = la := HLB.out.1
            have hmem : ∀ x, x ∈ es ↔ x ∈ es := fun x => Iff.rfl
            have hbW : Below w.heap.size w w6 := HB.out.trans ((HB5.out.trans (HB6.out.mono HB5.out.size)).mono hbs)
            have kM := HKM.out w6 HB6.out
            have hL8 := HLEN.out
            have hrow : RowB w6 (Btw w.heap.size w6.heap.size) 9 (.slice A1 la c1) la (fun j cs => ∃ y, es[j]? = some y ∧ (elE 3).E y w6 (fun b => w.heap.size ≤ b ∧ b < w6.heap.size ∧ some b ≠ (Value.slice A1 la c1).ownBlock) cs) := by
              have h := OwnE.row' hOw (by omega) (by unfold maxLen; rw [hLl, ← HLB.out.1]; omega)
              rw [hLl] at h
              exact h
            have hn8 : es.length + la ≤ 300000000 := by rw [hLl, ← HLB.out.1]; omega
            have hsW := hbW.size
            have hmem8 : ∀ x, x ∈ es ++ es ↔ x ∈ es := fun x => by rw [List.mem_append, hmem x]; exact ⟨fun h => h.elim id id, .inl⟩
            have hlen8 : (es ++ es).length ≤ 100000000 := by rw [List.length_append, hLl, ← HLB.out.1]; omega
            have hsml8 : smlEs (es ++ es) := smlEs_iff'.2 fun x hx => (HALL.out x ((hmem8 x).1 hx)).2
            have hgw : ∀ b, wr.heap.size ≤ b → some b ≠ (Value.slice A1 la c1).ownBlock := fun b hb e => by have := (HO.out.blk b e.symm).2; omega
            have HX := Lib.hid (And.intro hmem8 (And.intro hlen8 (And.intro hsml8 (And.intro hgw hbW))))
            have HKV := Lib.hid kM
            clear hmem8 hlen8 hsml8 hL8 hgw hmem hbW kM
            go_wp2_with (at_builtin; refine wp_row_e rfl _ _ rfl 3 w.heap.size (.slice A1 la c1) es rfl hOw A1 la c1 es hLl _ rfl hrow hn8 hsW ?_; intro v8 w8 ho8 hb8 hk8 _; refine Hid.out ?_)
            refine Lib.hid ?_
            clear hOw hLl hrow hn8
            obtain ⟨A8, c8, rfl⟩ := ho8.form
            have hb08 : Below w.heap.size w w8 := HX.out.2.2.2.2.trans hb8
            have hz8 := hb8.size
            have hP8 : RowP w8 w8.heap.size 9 (.slice A8 (es ++ es).length c8) (es ++ es).length (fun q cs => ∃ x, (es ++ es)[q]? = some x ∧ ES 3 w8 w8.heap.size x cs) :=
              RowB.sub (OwnE.row ho8 (by omega) (by have := HX.out.2.1; unfold maxLen; omega)) (fun b hb => hb.2) (fun q cs ⟨x, hx, hv⟩ => ⟨x, hx, EB.sub (fun b hb => hb.2) (Nat.le_refl _) hv⟩)
            have hf := functionP_any 2 a A8 c8 (es ++ es) w8 hP8 HX.out.2.1 HAK.out.1 HX.out.2.2.1
            rw [funR_congr HX.out.1] at hf
            have hlt8 : w2.heap.size < w6.heap.size := (Array.getElem?_eq_some_iff.1 HKV.out).1
            have k8 : w8.heap[w2.heap.size]? = some (.cells #[.int .i64 0, .int .i64 0, .string ⟨#[]⟩, .slice none 0 0, .slice none 0 0, .slice none 0 0, .slice none 0 0] 27 (0, 0)) := (hk8 _ hlt8 (HX.out.2.2.2.1 _ HB2.out.size)).trans HKV.out
            clear ho8 hb8 hP8 hk8
            generalize hm8 : (es ++ es).length = m8 at *
            have HM8 := Lib.hid hm8
            clear hm8
            go_wp2_with fail
            refine hf.mono ?_
            rintro e w9 ⟨hb9, hcase⟩
            clear hf
            rcases hcase with ⟨hF', cs', rfl, hv'⟩ | ⟨hF', rfl⟩
            · exact absurd (HF.out.symm.trans hF') (by decide)
            · have k9 : w9.heap[w2.heap.size]? = some (.cells #[.int .i64 0, .int .i64 0, .string ⟨#[]⟩, .slice none 0 0, .slice none 0 0, .slice none 0 0, .slice none 0 0] 27 (0, 0)) := (hb9.block _ (by omega)).trans k8
              have hz9 := hb9.size
              obtain ⟨w10, hw10⟩ : ∃ V, V = w9.alloc (.cells #[.int .i64 0, .int .i64 0, .string ⟨#[]⟩, .slice none 0 0, .slice none 0 0, .slice none 0 0, .slice none 0 0] 27) := ⟨_, rfl⟩
              have hb10 : Below w9.heap.size w9 w10 := by rw [hw10]; exact (Below.refl _ _).alloc (Nat.le_refl _) _
              have hz10 := hb10.size
              have k10 : w10.heap[w2.heap.size]? = some (.cells #[.int .i64 0, .int .i64 0, .string ⟨#[]⟩, .slice none 0 0, .slice none 0 0, .slice none 0 0, .slice none 0 0] 27 (0, 0)) := (hb10.block _ (by omega)).trans k9
              have k10' := k10
              rw [hw10] at k10'
              obtain ⟨t0, t1, t2, t3, t4, t5, t6⟩ := cells7 k10'
              have HB10 := Lib.hid (hb08.trans ((hb9.trans (hb10.mono hb9.size)).mono hb08.size))
              have hEq := refEqual_any 1 zeroV zeroV [.int .i64 0, .int .i64 0, .string ⟨#[]⟩, .slice none 0 0, .slice none 0 0, .slice none 0 0, .slice none 0 0] [.int .i64 0, .int .i64 0, .string ⟨#[]⟩, .slice none 0 0, .slice none 0 0, .slice none 0 0, .slice none 0 0] w10 (zeroVB 0 _ _) (zeroVB 0 _ _)
              rw [decide_eq_true (cmpV_zero.2 rfl)] at hEq
              clear hb9 hb10 hb08 k8 k9 k10 k10' hz8 hz9 hz10 hlt8 hsW
              go_wp2_with fail
              rw [← hw10]
              clear hw10 t0 t1 t2 t3 t4 t5 t6
              refine hEq.mono ?_
              rintro e w11 ⟨rfl, hb11⟩
              clear hEq
              go_wp2_with (go_at_call 9; refine (awake_any _).mono ?_; rintro e w13 ⟨rfl, hb13⟩; refine Hid.out ?_)
              refine Lib.hid ?_
              go_wp2
              go_ret
              exact ⟨rfl, HB10.out.trans ((hb11.trans (hb13.mono hb11.size)).mono HB10.out.size)⟩
end Go.Proofs.YtjfknigiehggkaaGreat
