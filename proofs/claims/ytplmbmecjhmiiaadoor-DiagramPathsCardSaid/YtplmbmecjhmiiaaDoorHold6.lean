/- The document's holds. -/
import Derived.Test.YtplmbmecjhmiiaaDoorAppR6
import Derived.Test.YtplmbmecjhmiiaaDoorRed6
namespace Go.Proofs.YtplmbmecjhmiiaaDoor
open Go Go.RowKit
def hB (x : List Int × List Int) (s : Nat → Bool) : Bool := x.1.all (fun l => s l.toNat) && x.2.all (fun l => !s l.toNat)
/-- literals that exist -/
def Lit12 (l : List Int) : Prop := ∀ x, x ∈ l → 0 ≤ x ∧ x < 12
theorem IntR.at {w : World} {B : Nat → Prop} {A : Option Addr} {n c : Nat} {l : List Int} (h : IntR w B (.slice A n c) l) {j : Nat} (hj : j < n) : ∃ b off z, A = some ⟨b, off, none⟩ ∧ B b ∧ b < w.heap.size ∧ l[j]? = some z ∧ w.cell? ⟨b, off + j, none⟩ = some (.int .i64 z) := by
  obtain ⟨A', cap, h1, _, h3⟩ := h
  injection h1 with e1 e2 e3
  subst e1 e2
  obtain ⟨b, off, rfl, h5, h6, h7⟩ := h3 (by omega)
  obtain ⟨cs, h8, h9, z, hz, rfl⟩ := h7 j hj
  have := h9 0 (by omega)
  exact ⟨b, off, z, rfl, h5, h6, hz, by simpa using this⟩
theorem IntR.form {w : World} {B : Nat → Prop} {v : Value} {l : List Int} (h : IntR w B v l) : ∃ A c, v = .slice A l.length c ∧ l.length ≤ 9223372036854775807 := by
  obtain ⟨A, cap, rfl, h2, _⟩ := h
  exact ⟨A, cap, rfl, by have := h2.1; unfold maxLen at this; omega⟩
theorem IntR.on {w w' : World} {H : Nat} {v : Value} {l : List Int} (h : IntR w (fun b => b < H) v l) (hb : Below H w w') : IntR w' (fun b => b < H) v l := RowB.on h hb fun _ _ h => h
theorem bit_one (a l : Nat) (ha : a < 4096) (h : a.testBit l = true) : bits .and .i64 ((a : Int) / 2 ^ l) 1 = 1 := by
  have e : (a : Int) / 2 ^ l = ((a / 2 ^ l : Nat) : Int) := by simp
  have hle : a / 2 ^ l ≤ a := Nat.div_le_self _ _
  have hb := (bits_nat .i64 12 (by decide) (fun n h0 h1 => IntWalk.i64_in _ (by omega)) (a / 2 ^ l) 1 (by omega) (by decide)).1
  rw [Nat.testBit_eq_decide_div_mod_eq, decide_eq_true_eq] at h
  rw [e]
  rw [Nat.and_one_is_mod, h] at hb
  exact hb
theorem bit_zero (a l : Nat) (ha : a < 4096) (h : a.testBit l = false) : bits .and .i64 ((a : Int) / 2 ^ l) 1 = 0 := by
  have e : (a : Int) / 2 ^ l = ((a / 2 ^ l : Nat) : Int) := by simp
  have hle : a / 2 ^ l ≤ a := Nat.div_le_self _ _
  have hb := (bits_nat .i64 12 (by decide) (fun n h0 h1 => IntWalk.i64_in _ (by omega)) (a / 2 ^ l) 1 (by omega) (by decide)).1
  rw [Nat.testBit_eq_decide_div_mod_eq, decide_eq_false_iff_not] at h
  rw [e]
  rw [Nat.and_one_is_mod, show a / 2 ^ l % 2 = 0 by omega] at hb
  exact hb
theorem all_false {l : List Int} {p : Int → Bool} {j : Nat} {z : Int} (hj : l[j]? = some z) (h : p z = false) : l.all p = false := by
  rw [List.all_eq_false]
  exact ⟨z, List.mem_of_getElem? hj, by rw [h]; simp⟩
theorem all_true {l : List Int} {p : Int → Bool} {n : Nat} (hn : l.length = n) (h : ∀ k, k < n → ∀ z, l[k]? = some z → p z = true) : l.all p = true := by
  rw [List.all_eq_true]
  intro x hx
  obtain ⟨k, hk, rfl⟩ := List.mem_iff_getElem.1 hx
  exact h k (by omega) _ (List.getElem?_eq_getElem hk)
set_option maxRecDepth 100000 in
set_option maxHeartbeats 3200000 in
theorem holds_any (sp sn : Value) (p q : List Int) (a : Nat) (ha : a < 4096) (hp : Lit12 p) (hq : Lit12 q) (w : World) (h1 : IntR w (fun b => b < w.heap.size) sp p) (h2 : IntR w (fun b => b < w.heap.size) sn q) :
    Calls Tryd.prog 17 #[.agg #[sp, sn], .int .i64 a] w fun e w' => e = .returned (.bool (hB (p, q) (sOf a))) ∧ Below w.heap.size w w' := by
  obtain ⟨A1, c1, rfl, m1⟩ := h1.form
  obtain ⟨A2, c2, rfl, m2⟩ := h2.form
  obtain ⟨W, hW⟩ : ∃ W, W = w.alloc (.cells #[.slice A1 p.length c1, .slice A2 q.length c2] 26) := ⟨_, rfl⟩
  have hb : Below w.heap.size w W := by rw [hW]; exact (Below.refl _ _).alloc (Nat.le_refl _) _
  have hz : W.heap.size = w.heap.size + 1 := by rw [hW]; simp
  have k0 : W.heap[w.heap.size]? = some (.cells #[.slice A1 p.length c1, .slice A2 q.length c2] 26 (0, 0)) := by rw [hW]; exact heap_alloc_new w _
  obtain ⟨n, hn⟩ : ∃ n, n = p.length := ⟨_, rfl⟩
  obtain ⟨m, hm⟩ : ∃ m, m = q.length := ⟨_, rfl⟩
  rw [← hn] at hW k0 h1 m1 ⊢
  rw [← hm] at hW k0 h2 m2 ⊢
  have HL := Lib.hid (And.intro hn (And.intro hm (And.intro m1 m2)))
  have HI := Lib.hid (And.intro h1 (And.intro h2 (And.intro hp (And.intro hq ha))))
  have HK : Hid (∀ V, Below W.heap.size W V → (V.cell? ⟨w.heap.size, 0, none⟩ = some (.slice A1 n c1) ∧ V.cell? ⟨w.heap.size, 1, none⟩ = some (.slice A2 m c2)) ∧ Below w.heap.size w V) := Lib.hid fun V hV => ⟨cells2 ((hV.block _ (by omega)).trans k0), hb.trans (hV.mono (by omega))⟩
  generalize hrr : hB (p, q) (sOf a) = r
  have HR := Lib.hid hrr
  have HB := Lib.hid hb
  clear hrr h1 h2 hp hq ha hb hz k0 m1 m2 hn hm
  go_enter Tryd.func17, Tryd.ntmps17
  go_wp2_with fail
  rw [← hW]
  clear hW
  go_loopw [5] (fun i wr => ∃ j : Nat, i = .int .i64 j ∧ j ≤ n ∧ Hid (∀ k, k < j → ∀ z, p[k]? = some z → sOf a z.toNat = true) ∧ Hid (Below W.heap.size W wr)) (fun i _ => n - (intOf i).toNat)
  case atStart => exact ⟨0, rfl, by omega, Lib.hid (fun k hk => absurd hk (by omega)), Lib.hid (Below.refl _ _)⟩
  case round =>
    obtain ⟨j, rfl, hj, h0, hwr⟩ := hrel
    obtain ⟨⟨y0, y1⟩, hbw⟩ := HK.out _ hwr.out
    by_cases hjn : j < n
    · obtain ⟨b, off, z, rfl, hbb, _, hx, c0⟩ := HI.out.1.at hjn
      have c0' := (hbw.cell (p := ⟨b, _, none⟩) hbb).trans c0
      obtain ⟨z0, z1⟩ := HI.out.2.2.1 z (List.mem_of_getElem? hx)
      obtain ⟨l, rfl⟩ : ∃ l : Nat, z = (l : Int) := ⟨z.toNat, by omega⟩
      have kn : (j : Int) < (n : Int) := by omega
      have k0 : (0 : Int) ≤ (j : Int) := by omega
      have hwj : IntKind.i64.wrap ((j : Int) + 1) = ((j + 1 : Nat) : Int) := by have := HL.out.2.2.1; rw [IntWalk.i64_in _ (by omega)]; omega
      have hwl : IntKind.u64.wrap (l : Int) = (l : Int) := by rw [IntKind.wrap_u64]; omega
      have HX := Lib.hid (And.intro hx (And.intro hjn hbw))
      have HA := Lib.hid HI.out.2.2.2.2
      have HML : Hid (min l 64 = l) := Lib.hid (Nat.min_eq_left (by omega))
      clear z0 z1 c0 hx hbb hj hjn hbw
      cases hbit : a.testBit l
      · have hq0 : bits .and .i64 ((a : Int) / 2 ^ (min l 64)) 1 = 0 := by rw [HML.out]; exact bit_zero a l HA.out hbit
        have HBT := Lib.hid hbit
        clear hbit
        go_wp2
        go_ret
        refine ⟨?_, HX.out.2.2⟩
        rw [← HR.out, show hB (p, q) (sOf a) = false from by unfold hB; rw [all_false (p := fun l => sOf a l.toNat) HX.out.1 HBT.out]; rfl]
        rfl
      · have hq0 : bits .and .i64 ((a : Int) / 2 ^ (min l 64)) 1 = 1 := by rw [HML.out]; exact bit_one a l HA.out hbit
        have HBT := Lib.hid hbit
        clear hbit
        go_wp2
        go_roundw
        case rel => exact ⟨j + 1, by go_num, by have := HX.out.2.1; omega, Lib.hid (fun k hk z hz => by
          rcases Nat.lt_or_eq_of_le (Nat.le_of_lt_succ hk) with h | h
          · exact h0.out k h z hz
          · rw [h, HX.out.1] at hz
            rw [← Option.some.inj hz]
            exact HBT.out), hwr⟩
        case measure => have := HX.out.2.1; simp [intOf]; omega
    · have q1 : ¬ (j : Int) < (n : Int) := by omega
      have hP := all_true (p := fun l => sOf a l.toNat) HL.out.1.symm (fun k hk => h0.out k (by omega))
      have HP := Lib.hid hP
      clear hP hj hjn h0 hbw
      go_wp2_with fail
      clear y0 y1 q1
      go_loopw [6] (fun i wr => ∃ j : Nat, i = .int .i64 j ∧ j ≤ m ∧ Hid (∀ k, k < j → ∀ z, q[k]? = some z → (!sOf a z.toNat) = true) ∧ Hid (Below W.heap.size W wr)) (fun i _ => m - (intOf i).toNat)
      case atStart => exact ⟨0, rfl, by omega, Lib.hid (fun k hk => absurd hk (by omega)), hwr⟩
      case round =>
        obtain ⟨j2, rfl, hj, h0, hwr2⟩ := hrel
        obtain ⟨⟨y0, y1⟩, hbw⟩ := HK.out _ hwr2.out
        by_cases hjn : j2 < m
        · obtain ⟨b, off, z, rfl, hbb, _, hx, c0⟩ := HI.out.2.1.at hjn
          have c0' := (hbw.cell (p := ⟨b, _, none⟩) hbb).trans c0
          obtain ⟨z0, z1⟩ := HI.out.2.2.2.1 z (List.mem_of_getElem? hx)
          obtain ⟨l, rfl⟩ : ∃ l : Nat, z = (l : Int) := ⟨z.toNat, by omega⟩
          have kn : (j2 : Int) < (m : Int) := by omega
          have k0 : (0 : Int) ≤ (j2 : Int) := by omega
          have hwj : IntKind.i64.wrap ((j2 : Int) + 1) = ((j2 + 1 : Nat) : Int) := by have := HL.out.2.2.2; rw [IntWalk.i64_in _ (by omega)]; omega
          have hwl : IntKind.u64.wrap (l : Int) = (l : Int) := by rw [IntKind.wrap_u64]; omega
          have HX := Lib.hid (And.intro hx (And.intro hjn hbw))
          have HA := Lib.hid HI.out.2.2.2.2
          have HML : Hid (min l 64 = l) := Lib.hid (Nat.min_eq_left (by omega))
          clear z0 z1 c0 hx hbb hj hjn hbw
          cases hbit : a.testBit l
          · have hq0 : bits .and .i64 ((a : Int) / 2 ^ (min l 64)) 1 = 0 := by rw [HML.out]; exact bit_zero a l HA.out hbit
            have HBT := Lib.hid hbit
            clear hbit
            go_wp2
            go_roundw
            case rel => exact ⟨j2 + 1, by go_num, by have := HX.out.2.1; omega, Lib.hid (fun k hk z hz => by
              rcases Nat.lt_or_eq_of_le (Nat.le_of_lt_succ hk) with h | h
              · exact h0.out k h z hz
              · rw [h, HX.out.1] at hz
                rw [← Option.some.inj hz]
                show (!sOf a l) = true
                unfold sOf
                rw [HBT.out]; rfl), hwr2⟩
            case measure => have := HX.out.2.1; simp [intOf]; omega
          · have hq0 : bits .and .i64 ((a : Int) / 2 ^ (min l 64)) 1 = 1 := by rw [HML.out]; exact bit_one a l HA.out hbit
            have HBT := Lib.hid hbit
            clear hbit
            go_wp2
            go_ret
            refine ⟨?_, HX.out.2.2⟩
            rw [← HR.out, show hB (p, q) (sOf a) = false from by
              unfold hB
              rw [all_false (p := fun l => !sOf a l.toNat) HX.out.1 (by show (!sOf a l) = false; unfold sOf; rw [HBT.out]; rfl), Bool.and_false]]
            rfl
        · have q1 : ¬ (j2 : Int) < (m : Int) := by omega
          have hQ := all_true (p := fun l => !sOf a l.toNat) HL.out.2.1.symm (fun k hk => h0.out k (by omega))
          have HQ := Lib.hid hQ
          have HBW := Lib.hid hbw
          clear hQ hj hjn h0 hbw
          go_wp2
          go_ret
          refine ⟨?_, HBW.out⟩
          rw [← HR.out, show hB (p, q) (sOf a) = true from by unfold hB; rw [HP.out, HQ.out]; rfl]
          rfl
end Go.Proofs.YtplmbmecjhmiiaaDoor
