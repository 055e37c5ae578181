/- What First and the document's FirstName return. Condition: at most 60 strings. -/
import Derived.Test.YtkmfpkdcedfgfaaFirst
namespace Go.Proofs.Ytkmfpkdcedfgfaa
open Go.RowKit Go.Sort
/-- the first member of a kind: none of another kind; the first unlisted name of a cofinite set; the first of the valid ones that a finite set lists -/
def FirstR (co : Bool) (l : List Strg) (kind : Int) (t : Strg) (ok : Bool) : Prop :=
  (kind ≠ 0 ∧ kind ≠ 1 ∧ t = [] ∧ ok = false) ∨ ((kind = 0 ∨ kind = 1) ∧ co = true ∧ ok = true ∧ FK kind (keysOf kind l) kind t) ∨ ((kind = 0 ∨ kind = 1) ∧ co = false ∧ best kind l = (t, ok))
theorem firstR_exists (co : Bool) (l : List Strg) (kind : Int) (h : l.length ≤ 60) : ∃ t ok, FirstR co l kind t ok := by
  by_cases hk : kind = 0 ∨ kind = 1
  · cases co
    · exact ⟨_, _, .inr (.inr ⟨hk, rfl, rfl⟩)⟩
    · obtain ⟨r, t, hf⟩ := fk_exists kind (keysOf kind l) (by unfold keysOf; rw [List.length_map]; exact h)
      have hr : r = kind := by
        rcases hf with ⟨h1, h2, _⟩ | ⟨h1, h2, _⟩ | ⟨h1, h2, _⟩
        · omega
        · omega
        · omega
      subst hr
      exact ⟨t, true, .inr (.inl ⟨hk, rfl, rfl, hf⟩)⟩
  · exact ⟨[], false, .inl ⟨fun h => hk (.inl h), fun h => hk (.inr h), rfl, rfl⟩⟩
set_option maxRecDepth 100000 in
set_option maxHeartbeats 3200000 in
theorem first_any (co : Bool) (A : Option Addr) (n c : Nat) (ss : List Strg) (kind : Int) (t : Strg) (ok : Bool) (w : World) (hR : NmS w w.heap.size A n ss) (hn : n ≤ 60) (hF : FirstR co ss kind t ok) :
    Calls Try.prog 25 #[.agg #[.bool co, .slice A n c], .int .i64 kind] w fun e w' => e = .returned (.tuple #[.string ⟨t.toArray⟩, .bool ok]) ∧ Below w.heap.size w w' := by
  have hb0 : Below w.heap.size w (w.alloc (.cells #[.bool co, .slice A n c] 24)) := (Below.refl _ _).alloc (Nat.le_refl _) _
  have HR := Lib.hid (hR.on hb0)
  have HB := Lib.hid hb0
  clear hR hb0
  rcases hF with ⟨h0, h1, rfl, rfl⟩ | ⟨hk, rfl, rfl, hf⟩ | ⟨hk, rfl, hf⟩
  · have q0 : (kind != 0) = true := by rw [bne_iff_ne]; exact h0
    have q1 : (kind != 1) = true := by rw [bne_iff_ne]; exact h1
    go_enter Try.func25, Try.ntmps25
    go_wp2
    go_ret2
    exact ⟨rfl, HB.out⟩
  · have hu := firstUnlisted_any kind A n c ss kind t (w.alloc (.cells #[.bool true, .slice A n c] 24)) HR.out hn hf
    have HU := Lib.hid hu
    clear hu hf
    rcases hk with rfl | rfl
    all_goals
      go_enter Try.func25, Try.ntmps25
      go_wp2_with (first | (go_at_call 37; refine HU.out.mono ?_; rintro e w1 ⟨rfl, hb1⟩; refine Hid.out ?_) | (go_at_call 39; refine HU.out.mono ?_; rintro e w1 ⟨rfl, hb1⟩; refine Hid.out ?_))
      refine Lib.hid ?_
      go_wp2
      go_ret2
      exact ⟨rfl, HB.out.trans (hb1.mono HB.out.size)⟩
  · have hu := firstListed_any kind A n c ss (w.alloc (.cells #[.bool false, .slice A n c] 24)) HR.out (by omega)
    rw [hf] at hu
    have HU := Lib.hid hu
    clear hu hf
    rcases hk with rfl | rfl
    all_goals
      go_enter Try.func25, Try.ntmps25
      go_wp2_with (go_at_call 38; refine HU.out.mono ?_; rintro e w1 ⟨rfl, hb1⟩; refine Hid.out ?_)
      refine Lib.hid ?_
      go_wp2
      go_ret2
      exact ⟨rfl, HB.out.trans (hb1.mono HB.out.size)⟩
set_option maxRecDepth 100000 in
set_option maxHeartbeats 3200000 in
theorem firstName_any (co : Bool) (A : Option Addr) (n c : Nat) (ss : List Strg) (kind : Int) (t : Strg) (ok : Bool) (w : World) (hR : NmS w w.heap.size A n ss) (hn : n ≤ 60) (hF : FirstR co ss kind t ok) :
    Calls Try.prog 26 #[.agg #[.bool co, .slice A n c], .int .i64 kind] w fun e w' => e = .returned (.tuple #[.string ⟨t.toArray⟩, .bool ok]) ∧ Below w.heap.size w w' := by
  have hb0 : Below w.heap.size w (w.alloc (.cells #[.bool co, .slice A n c] 24)) := (Below.refl _ _).alloc (Nat.le_refl _) _
  have HR := Lib.hid (hR.on hb0)
  have HB := Lib.hid hb0
  clear hR hb0
  rcases hF with ⟨h0, h1, rfl, rfl⟩ | ⟨hk, rfl, rfl, hf⟩ | ⟨hk, rfl, hf⟩
  · have q0 : (kind != 0) = true := by rw [bne_iff_ne]; exact h0
    have q1 : (kind != 1) = true := by rw [bne_iff_ne]; exact h1
    go_enter Try.func26, Try.ntmps26
    go_wp2
    go_ret2
    exact ⟨rfl, HB.out⟩
  · have hu := (refFreshK kind A n c (ss.map mkB) (keysOf kind ss) kind t (w.alloc (.cells #[.bool true, .slice A n c] 24)) HR.out.strS (by omega) (by rw [lists_map, textsOf_keysOf]) hk hf).2
    have HU := Lib.hid hu
    clear hu hf
    rcases hk with rfl | rfl
    all_goals
      go_enter Try.func26, Try.ntmps26
      go_wp2_with (first | (go_at_call 37; refine HU.out.mono ?_; rintro e w1 ⟨rfl, hb1⟩; refine Hid.out ?_) | (go_at_call 39; refine HU.out.mono ?_; rintro e w1 ⟨rfl, hb1⟩; refine Hid.out ?_))
      refine Lib.hid ?_
      go_wp2
      go_ret2
      exact ⟨rfl, HB.out.trans (hb1.mono HB.out.size)⟩
  · have HF := Lib.hid hf
    have HK := Lib.hid hk
    have hmain : (kind = 0 ∨ kind = 1) → Calls Try.prog 26 #[.agg #[.bool false, .slice A n c], .int .i64 kind] w fun e w' => e = .returned (.tuple #[.string ⟨t.toArray⟩, .bool ok]) ∧ Below w.heap.size w w' := by
      intro hk'
      rcases hk' with rfl | rfl
      · clear hk hf
        go_enter Try.func26, Try.ntmps26
        go_wp2_with fail
        generalize hW : (World.alloc w _) = W at HR HB ⊢
        have d1 : W.cell? ⟨w.heap.size, 1, none⟩ = some (.slice A n c) := by rw [← hW]; simp
        have hlt : w.heap.size < W.heap.size := by rw [← hW]; simp
        clear hW
        go_loopw [6, 7, 8] (fun v f i wr => ∃ k : Nat, i = .int .i64 k ∧ k ≤ n ∧ v = .string ⟨(best (0 : Int) (ss.take k)).1.toArray⟩ ∧ f = .bool (best (0 : Int) (ss.take k)).2 ∧ Below W.heap.size W wr) (fun _ _ i _ => n - (intOf i).toNat)
        case atStart => exact ⟨0, rfl, by omega, rfl, rfl, Below.refl _ _⟩
        case round =>
          obtain ⟨k, rfl, hk, rfl, rfl, hb⟩ := hrel
          have hsr := hb.size
          have e1 : wr.cell? ⟨w.heap.size, 1, none⟩ = some (.slice A n c) := (hb.cell (p := ⟨w.heap.size, 1, none⟩) hlt).trans d1
          by_cases hkn : k < n
          · obtain ⟨b, off, s, rfl, hbl, hx, hs, cs⟩ := (HR.out.on hb).at hkn
            have HX := Lib.hid (best_take (0 : Int) hx)
            generalize best (0 : Int) (ss.take k) = acc at HX ⊢
            obtain ⟨a1, a2⟩ := acc
            simp only
            have kn : (k : Int) < (n : Int) := by omega
            have k0 : (0 : Int) ≤ (k : Int) := by omega
            have h1 := fun W => fits_any (0 : Int) s W hs
            obtain ⟨x1, hx1⟩ : ∃ d, keyB (0 : Int) s = d := ⟨_, rfl⟩
            have HT : Hid (best (0 : Int) (ss.take (k + 1)) = if (x1 && (!a2 || befB s a1)) = true then (s, true) else (a1, a2)) := Lib.hid (by rw [HX.out, ← hx1]; rfl)
            rw [hx1] at h1
            have HB1 := Lib.hid hb
            clear hx hx1 hb
            cases x1
            · go_wp2_with (go_at_call 40; refine (h1 _).mono ?_; rintro e w1 ⟨rfl, hb1⟩; refine Hid.out ?_)
              refine Lib.hid ?_
              go_wp2
              go_roundw
              case rel => exact ⟨k + 1, by go_num, by omega, by rw [HT.out]; rfl, by rw [HT.out]; rfl, HB1.out.trans (hb1.mono HB1.out.size)⟩
              case measure => simp [intOf]; omega
            · cases a2
              · go_wp2_with (go_at_call 40; refine (h1 _).mono ?_; rintro e w1 ⟨rfl, hb1⟩; refine Hid.out ?_)
                refine Lib.hid ?_
                go_wp2
                go_roundw
                case rel => exact ⟨k + 1, by go_num, by omega, by rw [HT.out]; rfl, by rw [HT.out]; rfl, HB1.out.trans (hb1.mono HB1.out.size)⟩
                case measure => simp [intOf]; omega
              · by_cases l1 : s.length < a1.length
                · have q1 : (s.length : Int) < (a1.length : Int) := by omega
                  have hbf : befB s a1 = true := by unfold befB; simp [l1]
                  rw [hbf] at HT
                  clear l1 hbf
                  go_wp2_with (go_at_call 40; refine (h1 _).mono ?_; rintro e w1 ⟨rfl, hb1⟩; refine Hid.out ?_)
                  refine Lib.hid ?_
                  go_wp2
                  go_roundw
                  case rel => exact ⟨k + 1, by go_num, by omega, by rw [HT.out]; rfl, by rw [HT.out]; rfl, HB1.out.trans (hb1.mono HB1.out.size)⟩
                  case measure => simp [intOf]; omega
                · have q1 : ¬ (s.length : Int) < (a1.length : Int) := by omega
                  by_cases l2 : s.length = a1.length
                  · have q2 : ((s.length : Int) == (a1.length : Int)) = true := by rw [beq_iff_eq]; omega
                    have hbf : befB s a1 = bl s a1 := by unfold befB; simp [l2]
                    rw [hbf] at HT
                    clear l1 l2 hbf
                    cases h3 : bl s a1
                    · rw [h3] at HT
                      have q3 : Op.bytesLess s a1 = false := h3
                      clear h3
                      go_wp2_with (go_at_call 40; refine (h1 _).mono ?_; rintro e w1 ⟨rfl, hb1⟩; refine Hid.out ?_)
                      refine Lib.hid ?_
                      go_wp2
                      go_roundw
                      case rel => exact ⟨k + 1, by go_num, by omega, by rw [HT.out]; rfl, by rw [HT.out]; rfl, HB1.out.trans (hb1.mono HB1.out.size)⟩
                      case measure => simp [intOf]; omega
                    · rw [h3] at HT
                      have q3 : Op.bytesLess s a1 = true := h3
                      clear h3
                      go_wp2_with (go_at_call 40; refine (h1 _).mono ?_; rintro e w1 ⟨rfl, hb1⟩; refine Hid.out ?_)
                      refine Lib.hid ?_
                      go_wp2
                      go_roundw
                      case rel => exact ⟨k + 1, by go_num, by omega, by rw [HT.out]; rfl, by rw [HT.out]; rfl, HB1.out.trans (hb1.mono HB1.out.size)⟩
                      case measure => simp [intOf]; omega
                  · have q2 : ((s.length : Int) == (a1.length : Int)) = false := by rw [beq_eq_false_iff_ne]; omega
                    have hbf : befB s a1 = false := by unfold befB; simp [l1, l2]
                    rw [hbf] at HT
                    clear l1 l2 hbf
                    go_wp2_with (go_at_call 40; refine (h1 _).mono ?_; rintro e w1 ⟨rfl, hb1⟩; refine Hid.out ?_)
                    refine Lib.hid ?_
                    go_wp2
                    go_roundw
                    case rel => exact ⟨k + 1, by go_num, by omega, by rw [HT.out]; rfl, by rw [HT.out]; rfl, HB1.out.trans (hb1.mono HB1.out.size)⟩
                    case measure => simp [intOf]; omega
          · have hke : Hid (ss.take k = ss) := Lib.hid (List.take_of_length_le (by have := HR.out.1; omega))
            rw [hke.out, HF.out]
            go_wp2
            go_ret2
            exact ⟨rfl, HB.out.trans (hb.mono HB.out.size)⟩
      · clear hk hf
        go_enter Try.func26, Try.ntmps26
        go_wp2_with fail
        generalize hW : (World.alloc w _) = W at HR HB ⊢
        have d1 : W.cell? ⟨w.heap.size, 1, none⟩ = some (.slice A n c) := by rw [← hW]; simp
        have hlt : w.heap.size < W.heap.size := by rw [← hW]; simp
        clear hW
        go_loopw [6, 7, 8] (fun v f i wr => ∃ k : Nat, i = .int .i64 k ∧ k ≤ n ∧ v = .string ⟨(best (1 : Int) (ss.take k)).1.toArray⟩ ∧ f = .bool (best (1 : Int) (ss.take k)).2 ∧ Below W.heap.size W wr) (fun _ _ i _ => n - (intOf i).toNat)
        case atStart => exact ⟨0, rfl, by omega, rfl, rfl, Below.refl _ _⟩
        case round =>
          obtain ⟨k, rfl, hk, rfl, rfl, hb⟩ := hrel
          have hsr := hb.size
          have e1 : wr.cell? ⟨w.heap.size, 1, none⟩ = some (.slice A n c) := (hb.cell (p := ⟨w.heap.size, 1, none⟩) hlt).trans d1
          by_cases hkn : k < n
          · obtain ⟨b, off, s, rfl, hbl, hx, hs, cs⟩ := (HR.out.on hb).at hkn
            have HX := Lib.hid (best_take (1 : Int) hx)
            generalize best (1 : Int) (ss.take k) = acc at HX ⊢
            obtain ⟨a1, a2⟩ := acc
            simp only
            have kn : (k : Int) < (n : Int) := by omega
            have k0 : (0 : Int) ≤ (k : Int) := by omega
            have h1 := fun W => fits_any (1 : Int) s W hs
            obtain ⟨x1, hx1⟩ : ∃ d, keyB (1 : Int) s = d := ⟨_, rfl⟩
            have HT : Hid (best (1 : Int) (ss.take (k + 1)) = if (x1 && (!a2 || befB s a1)) = true then (s, true) else (a1, a2)) := Lib.hid (by rw [HX.out, ← hx1]; rfl)
            rw [hx1] at h1
            have HB1 := Lib.hid hb
            clear hx hx1 hb
            cases x1
            · go_wp2_with (go_at_call 40; refine (h1 _).mono ?_; rintro e w1 ⟨rfl, hb1⟩; refine Hid.out ?_)
              refine Lib.hid ?_
              go_wp2
              go_roundw
              case rel => exact ⟨k + 1, by go_num, by omega, by rw [HT.out]; rfl, by rw [HT.out]; rfl, HB1.out.trans (hb1.mono HB1.out.size)⟩
              case measure => simp [intOf]; omega
            · cases a2
              · go_wp2_with (go_at_call 40; refine (h1 _).mono ?_; rintro e w1 ⟨rfl, hb1⟩; refine Hid.out ?_)
                refine Lib.hid ?_
                go_wp2
                go_roundw
                case rel => exact ⟨k + 1, by go_num, by omega, by rw [HT.out]; rfl, by rw [HT.out]; rfl, HB1.out.trans (hb1.mono HB1.out.size)⟩
                case measure => simp [intOf]; omega
              · by_cases l1 : s.length < a1.length
                · have q1 : (s.length : Int) < (a1.length : Int) := by omega
                  have hbf : befB s a1 = true := by unfold befB; simp [l1]
                  rw [hbf] at HT
                  clear l1 hbf
                  go_wp2_with (go_at_call 40; refine (h1 _).mono ?_; rintro e w1 ⟨rfl, hb1⟩; refine Hid.out ?_)
                  refine Lib.hid ?_
                  go_wp2
                  go_roundw
                  case rel => exact ⟨k + 1, by go_num, by omega, by rw [HT.out]; rfl, by rw [HT.out]; rfl, HB1.out.trans (hb1.mono HB1.out.size)⟩
                  case measure => simp [intOf]; omega
                · have q1 : ¬ (s.length : Int) < (a1.length : Int) := by omega
                  by_cases l2 : s.length = a1.length
                  · have q2 : ((s.length : Int) == (a1.length : Int)) = true := by rw [beq_iff_eq]; omega
                    have hbf : befB s a1 = bl s a1 := by unfold befB; simp [l2]
                    rw [hbf] at HT
                    clear l1 l2 hbf
                    cases h3 : bl s a1
                    · rw [h3] at HT
                      have q3 : Op.bytesLess s a1 = false := h3
                      clear h3
                      go_wp2_with (go_at_call 40; refine (h1 _).mono ?_; rintro e w1 ⟨rfl, hb1⟩; refine Hid.out ?_)
                      refine Lib.hid ?_
                      go_wp2
                      go_roundw
                      case rel => exact ⟨k + 1, by go_num, by omega, by rw [HT.out]; rfl, by rw [HT.out]; rfl, HB1.out.trans (hb1.mono HB1.out.size)⟩
                      case measure => simp [intOf]; omega
                    · rw [h3] at HT
                      have q3 : Op.bytesLess s a1 = true := h3
                      clear h3
                      go_wp2_with (go_at_call 40; refine (h1 _).mono ?_; rintro e w1 ⟨rfl, hb1⟩; refine Hid.out ?_)
                      refine Lib.hid ?_
                      go_wp2
                      go_roundw
                      case rel => exact ⟨k + 1, by go_num, by omega, by rw [HT.out]; rfl, by rw [HT.out]; rfl, HB1.out.trans (hb1.mono HB1.out.size)⟩
                      case measure => simp [intOf]; omega
                  · have q2 : ((s.length : Int) == (a1.length : Int)) = false := by rw [beq_eq_false_iff_ne]; omega
                    have hbf : befB s a1 = false := by unfold befB; simp [l1, l2]
                    rw [hbf] at HT
                    clear l1 l2 hbf
                    go_wp2_with (go_at_call 40; refine (h1 _).mono ?_; rintro e w1 ⟨rfl, hb1⟩; refine Hid.out ?_)
                    refine Lib.hid ?_
                    go_wp2
                    go_roundw
                    case rel => exact ⟨k + 1, by go_num, by omega, by rw [HT.out]; rfl, by rw [HT.out]; rfl, HB1.out.trans (hb1.mono HB1.out.size)⟩
                    case measure => simp [intOf]; omega
          · have hke : Hid (ss.take k = ss) := Lib.hid (List.take_of_length_le (by have := HR.out.1; omega))
            rw [hke.out, HF.out]
            go_wp2
            go_ret2
            exact ⟨rfl, HB.out.trans (hb.mono HB.out.size)⟩
    exact hmain hk
end Go.Proofs.Ytkmfpkdcedfgfaa
