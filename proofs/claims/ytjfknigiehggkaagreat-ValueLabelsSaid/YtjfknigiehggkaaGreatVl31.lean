/- Function of the program: the entries in ascending order, each once. -/
import Derived.Test.YtjfknigiehggkaaGreatVl14
import Derived.Test.YtjfknigiehggkaaGreatVl27
import Derived.Test.YtjfknigiehggkaaGreatVl29
import Derived.Test.YtjfknigiehggkaaGreatVl30
namespace Go.Proofs.YtjfknigiehggkaaGreat
open Go Go.RowKit
set_option maxHeartbeats 800000 in
theorem eachOnce_any (k g n : Nat) (ts : List En) (w : World) (hrow : EntRow k g n ts w) (hn : n ≤ 100000000) :
    Calls Tryz.prog 68 #[.slice (some ⟨g, 0, none⟩) n n] w fun e w' => ∃ m, e = .returned (.slice (some ⟨g, 0, none⟩) m n) ∧ EntCut k g m n (srtC cmpE ts) w' ∧ Below g w w' := by
  have hs := sortE_any k g n ts w hrow hn
  clear hrow
  go_enter Tryz.func68, Tryz.ntmps68
  go_wp2_with fail
  refine hs.mono ?_
  rintro e w1 ⟨rfl, ts', hr', hp, hpw, hb1⟩
  have hc := compactE_any k g n ts' w1 hr' hn
  have hl : ts'.length = n := hr'.choose_spec.2.2.1
  have HD : Hid (ddP ts' n = srtC cmpE ts) := Lib.hid (by
    rw [← hl, ddP_srt (List.Pairwise.imp (fun {a b} h => by omega) hpw)]
    exact srtC_congr totE fun y => hp.mem_iff)
  have HB := Lib.hid hb1
  clear hs hr' hp hpw hb1 hl
  go_wp2_with fail
  refine hc.mono ?_
  rintro e w2 ⟨m, rfl, hcut, hb2⟩
  rw [HD.out] at hcut
  have HC := Lib.hid (And.intro hcut hb2)
  clear hcut hb2 hc
  go_wp2
  go_ret
  exact ⟨_, rfl, HC.out.1, HB.out.trans HC.out.2⟩
set_option maxHeartbeats 800000 in
theorem eachOnce_nil (w : World) : Calls Tryz.prog 68 #[.slice none 0 0] w fun e w' => e = .returned (.slice none 0 0) ∧ w' = w := by
  have h1 := AnyF.slices_SortFunc_none (P := Tryz.prog) (ρ := Tryz.sortE_ren) Tryz.sortE none 0 (.func (.func 104) #[] #[]) w
  change Calls Tryz.prog 103 _ _ _ at h1
  have h2 : Calls Tryz.prog 105 #[.slice none 0 0, .func (.func 106) #[] #[]] w fun e w' => e = .returned (.slice none 0 0) ∧ w' = w := by
    go_enter Tryz.func105, Tryz.ntmps105
    go_wp2
    go_ret
    exact ⟨rfl, rfl⟩
  go_enter Tryz.func68, Tryz.ntmps68
  go_wp2_with fail
  refine h1.mono ?_
  rintro e w1 ⟨rfl, rfl⟩
  go_wp2_with fail
  refine h2.mono ?_
  rintro e w2 ⟨rfl, rfl⟩
  go_wp2
  go_ret
  exact ⟨rfl, rfl⟩
end Go.Proofs.YtjfknigiehggkaaGreat
