/- What FreshKey returns. Conditions: at most 1000000 keys are used, and the free key is among the first 61. -/
import Derived.Test.YtkmfpkdcedfgfaaFreshText
namespace Go.Proofs.Ytkmfpkdcedfgfaa
open Go.RowKit
/-- the slice of keys .slice A n cap reads as the keys ks, in blocks below B -/
def KeyS (w : World) (B : Nat) (A : Option Addr) (n : Nat) (ks : List (Int × ByteArray)) : Prop :=
  n = ks.length ∧ (∀ k ∈ ks, k.2.size ≤ maxLen) ∧ (0 < n → ∃ b off, A = some ⟨b, off, none⟩ ∧ b < B ∧ ∀ j k, ks[j]? = some k → w.cell? ⟨b, off + j * 2, none⟩ = some (.int .i64 k.1) ∧ w.cell? ⟨b, off + j * 2 + 1, none⟩ = some (.string k.2))
theorem KeyS.below {w w' : World} {B : Nat} {A : Option Addr} {n : Nat} {ks : List (Int × ByteArray)} (h : KeyS w B A n ks) (hb : Below B w w') : KeyS w' B A n ks :=
  ⟨h.1, h.2.1, fun hn => by
    obtain ⟨b, off, hA, hlt, hc⟩ := h.2.2 hn
    exact ⟨b, off, hA, hlt, fun j k hk => ⟨(hb.cell (p := ⟨b, off + j * 2, none⟩) hlt).trans (hc j k hk).1, (hb.cell (p := ⟨b, off + j * 2 + 1, none⟩) hlt).trans (hc j k hk).2⟩⟩⟩
/-- the texts of the keys of a kind -/
def textsOf (kind : Int) (ks : List (Int × ByteArray)) : List (List UInt8) := (ks.filter (fun k => k.1 == kind)).map (fun k => k.2.data.toList)
theorem textsOf_hit {kind : Int} {ks : List (Int × ByteArray)} {j : Nat} {k : Int × ByteArray} (h : ks[j]? = some k) (hk : k.1 = kind) : textsOf kind (ks.take (j + 1)) = textsOf kind (ks.take j) ++ [k.2.data.toList] := by
  unfold textsOf
  rw [List.take_add_one, h]
  simp [List.filter_append, hk]
theorem textsOf_miss {kind : Int} {ks : List (Int × ByteArray)} {j : Nat} {k : Int × ByteArray} (h : ks[j]? = some k) (hk : k.1 ≠ kind) : textsOf kind (ks.take (j + 1)) = textsOf kind (ks.take j) := by
  unfold textsOf
  rw [List.take_add_one, h]
  simp [List.filter_append, hk]
theorem textsOf_len (kind : Int) (ks : List (Int × ByteArray)) : (textsOf kind ks).length ≤ ks.length := by
  unfold textsOf
  rw [List.length_map]
  exact List.length_filter_le _ _
/-- the first free key of a kind -/
def FK (kind : Int) (ks : List (Int × ByteArray)) (r : Int) (t : List UInt8) : Prop :=
  (kind = 0 ∧ r = 0 ∧ ∃ N, N ≤ 60 ∧ t = iterA N [97] ∧ (∀ j, j < N → iterA j [97] ∈ textsOf kind ks) ∧ iterA N [97] ∉ textsOf kind ks) ∨
  (kind = 1 ∧ r = 1 ∧ ∃ N, N ≤ 60 ∧ t = iterT N [] ∧ (∀ j, j < N → iterT j [] ∈ textsOf kind ks) ∧ iterT N [] ∉ textsOf kind ks) ∨
  (kind ≠ 0 ∧ kind ≠ 1 ∧ r = 0 ∧ t = [])
theorem fk_exists (kind : Int) (ks : List (Int × ByteArray)) (h : ks.length ≤ 60) : ∃ r t, FK kind ks r t := by
  have hl := textsOf_len kind ks
  by_cases h0 : kind = 0
  · obtain ⟨N, hN, hout, hin⟩ := first_free (fun j => iterA j [97]) (textsOf kind ks) 60 iterA_nodup (by omega)
    exact ⟨0, _, .inl ⟨h0, rfl, N, hN, rfl, hin, hout⟩⟩
  · by_cases h1 : kind = 1
    · obtain ⟨N, hN, hout, hin⟩ := first_free (fun j => iterT j []) (textsOf kind ks) 60 iterT_nodup (by omega)
      exact ⟨1, _, .inr (.inl ⟨h1, rfl, N, hN, rfl, hin, hout⟩)⟩
    · exact ⟨0, [], .inr (.inr ⟨h0, h1, rfl, rfl⟩)⟩
set_option maxRecDepth 100000 in
set_option maxHeartbeats 3200000 in
theorem freshKey_any (kind : Int) (A : Option Addr) (n cap : Nat) (ks : List (Int × ByteArray)) (r : Int) (t : List UInt8) (w : World) (hK : KeyS w w.heap.size A n ks) (hn : n ≤ 1000000) (hFK : FK kind ks r t) :
    Calls Try.prog 47 #[.int .i64 kind, .slice A n cap] w fun e w' => e = .returned (.agg #[.int .i64 r, .string ⟨t.toArray⟩]) ∧ Below w.heap.size w w' := by
  have HK := Lib.hid hK
  have HF := Lib.hid hFK
  clear hK hFK
  have hmm := @run_makeMap Try.prog
  go_enter Try.func47, Try.ntmps47
  go_wp2_with fail
  go_loopw [11, 7] (fun i _ wr => ∃ k : Nat, i = .int .i64 k ∧ k ≤ n ∧ MapB wr (w.heap.size + 1) k (textsOf kind (ks.take k)) ∧ wr.heap[w.heap.size]? = some (.cells #[.int .i64 0, .string ⟨#[]⟩] 41 (0, 0)) ∧ Below w.heap.size w wr) (fun i _ _ => n - (intOf i).toNat)
  case atStart => exact ⟨0, rfl, by omega, by simpa [textsOf] using MapB.made (w.alloc (.cells #[.int .i64 0, .string ⟨#[]⟩] 41)), (by
    rw [show (((w.alloc (.cells #[.int .i64 0, .string ⟨#[]⟩] 41)).alloc (.map #[] 0)).heap[w.heap.size]?) = (w.alloc (.cells #[.int .i64 0, .string ⟨#[]⟩] 41)).heap[w.heap.size]? from Below.heap_alloc _ _ _ (by simp)]
    exact heap_alloc_new w _), ((Below.refl _ _).alloc (Nat.le_refl _) _).trans (Below.grown (row := none) (Below.refl _ _) (World.grownBy_alloc _ _ none) (by simp) (fun j hj => by cases hj))⟩
  case round =>
    obtain ⟨k, rfl, hk, hM, hb4, hb⟩ := hrel
    have hsr := hb.size
    have hlt2 := hM.lt
    by_cases hkn : k < n
    · obtain ⟨b, off, rfl, hbl, hc⟩ := (HK.out.below hb).2.2 (by omega)
      obtain ⟨x, hx⟩ : ∃ x, ks[k]? = some x := ⟨ks[k]'(by have := HK.out.1; omega), List.getElem?_eq_getElem _⟩
      obtain ⟨x1, x2⟩ := x
      obtain ⟨hc1, hc2⟩ := hc k _ hx
      simp only at hc1 hc2
      have hsx : x2.size ≤ maxLen := HK.out.2.1 (x1, x2) (List.mem_of_getElem? hx)
      have hM2 : MapB (wr.alloc (.cells #[.int .i64 x1, .string x2] 41)) (w.heap.size + 1) k (textsOf kind (ks.take k)) := hM.below ((Below.refl wr.heap.size wr).alloc (Nat.le_refl _) _) hlt2
      have hb2 : Below w.heap.size w (wr.alloc (.cells #[.int .i64 x1, .string x2] 41)) := hb.alloc hsr _
      have HB4 := Lib.hid hb4
      have HBE := Lib.hid (show (wr.alloc (.cells #[.int .i64 x1, .string x2] 41)).heap[w.heap.size]? = some (.cells #[.int .i64 0, .string ⟨#[]⟩] 41 (0, 0)) from (Below.heap_alloc _ _ _ (by omega)).trans hb4)
      clear hb4 hM
      by_cases hkk : x1 = kind
      · have q1 : (x1 == kind) = true := by rw [beq_iff_eq]; exact hkk
        have HT := Lib.hid (textsOf_hit hx hkk)
        clear hc hx hkk
        go_wp2_with (refine wp_map_store rfl _ _ _ rfl (w.heap.size + 1) k _ rfl hM2 (by unfold maxLen; omega) x2 rfl hsx rfl ?_; intro w1 hM1 hg1; refine Hid.out ?_)
        refine Lib.hid ?_
        go_wp2
        go_roundw
        case rel => exact ⟨k + 1, by go_num, by omega, by rw [HT.out]; exact hM1, (hg1.block _ (by simp; omega) (by simp)).trans HBE.out, hb2.grown hg1 (by simp; omega) (fun j hj => by injection hj with hj; omega)⟩
        case measure => simp [intOf]; omega
      · have q1 : (x1 == kind) = false := by rw [beq_eq_false_iff_ne]; exact hkk
        have HT := Lib.hid (textsOf_miss hx hkk)
        clear hc hx hkk
        go_wp2
        go_roundw
        case rel => exact ⟨k + 1, by go_num, by omega, by rw [HT.out]; exact World.ownsMap.mono hM2 (by omega), HBE.out, hb2⟩
        case measure => simp [intOf]; omega
    · have hke : Hid (ks.take k = ks) := Lib.hid (List.take_of_length_le (by have := HK.out.1; omega))
      rw [hke.out] at hM
      have c0 : wr.cell? ⟨w.heap.size, 0, none⟩ = some (.int .i64 0) := by rw [Lib.cell_of_heap hb4]; rfl
      have c1 : wr.cell? ⟨w.heap.size, 1, none⟩ = some (.string ⟨#[]⟩) := by rw [Lib.cell_of_heap hb4]; rfl
      have f0 : wr.frozen? ⟨w.heap.size, 0, none⟩ = false := Lib.frozen_of_heap hb4 0
      have f1 : wr.frozen? ⟨w.heap.size, 1, none⟩ = false := Lib.frozen_of_heap hb4 1
      have HB4 := Lib.hid hb4
      clear hb4
      rcases HF.out with ⟨h1, rfl, N, hN, rfl, hin, hout⟩ | ⟨h1, rfl, N, hN, rfl, hin, hout⟩ | ⟨h1, h2, rfl, rfl⟩
      · have q1 : (kind == 0) = true := by rw [beq_iff_eq]; exact h1
        have H1 := Lib.hid h1
        have hM3 : MapB (wr.alloc (.cells #[.int .u8 97] 5)) (w.heap.size + 1) k (textsOf kind ks) := hM.below ((Below.refl wr.heap.size wr).alloc (Nat.le_refl _) _) hlt2
        have hO : OwnB (wr.alloc (.cells #[.int .u8 97] 5)) wr.heap.size (.slice (some ⟨wr.heap.size, 0, none⟩) 1 1) [97] := OwnB.lit wr wr.heap.size (Nat.le_refl _) [97] #[.int .u8 97] 1 rfl rfl (by decide)
        have HM3 := Lib.hid hM3
        have HO3 := Lib.hid hO
        have HI := Lib.hid hin
        have HO := Lib.hid hout
        clear h1 hM3 hO hM hin hout
        go_wp2_with fail
        refine (firstFreeA wr.heap.size (w.heap.size + 1) k N _ _ _ _ HO3.out HM3.out hlt2 (by simp) (fun j hj => iterA_len j (by omega)) HI.out HO.out).mono ?_
        rintro e w1 ⟨rfl, hb1⟩
        have hz1 := hb1.size
        simp only [World.size_alloc] at hz1
        have hh : w1.heap[w.heap.size]? = some (.cells #[.int .i64 0, .string ⟨#[]⟩] 41 (0, 0)) := (hb1.block _ (by omega)).trans ((Below.heap_alloc _ _ _ (by omega)).trans HB4.out)
        have d0 : w1.cell? ⟨w.heap.size, 0, none⟩ = some (.int .i64 0) := by rw [Lib.cell_of_heap hh]; rfl
        have d1 : w1.cell? ⟨w.heap.size, 1, none⟩ = some (.string ⟨#[]⟩) := by rw [Lib.cell_of_heap hh]; rfl
        have g0 : w1.frozen? ⟨w.heap.size, 0, none⟩ = false := Lib.frozen_of_heap hh 0
        have g1 : w1.frozen? ⟨w.heap.size, 1, none⟩ = false := Lib.frozen_of_heap hh 1
        have hbw : Below w.heap.size w w1 := (hb.alloc hsr (.cells #[.int .u8 97] 5)).trans (hb1.mono hsr)
        clear hh c0 c1 f0 f1 hb1 hb
        go_wp2
        refine bodyPost_ret (v := .agg #[.int .i64 kind, .string ⟨(iterA N [97]).toArray⟩]) (by simp [results, Try.results47, go_sem, d0, d1]) rfl ⟨by rw [H1.out], ?_⟩
        exact (hbw.setCell (p := ⟨w.heap.size, 0, none⟩) (Nat.le_refl _) _).setCell (p := ⟨w.heap.size, 1, none⟩) (Nat.le_refl _) _
      · have q1 : (kind == 0) = false := by rw [beq_eq_false_iff_ne]; omega
        have q2 : (kind == 1) = true := by rw [beq_iff_eq]; exact h1
        have H1 := Lib.hid h1
        have HM3 := Lib.hid hM
        have HO3 := Lib.hid (show OwnB wr wr.heap.size (.slice none 0 0) [] from World.ownsRow_nil _ _ _ _)
        have HI := Lib.hid hin
        have HO := Lib.hid hout
        clear h1 hM hin hout
        go_wp2_with fail
        refine (firstFreeT wr.heap.size (w.heap.size + 1) k N _ _ _ _ HO3.out (fun _ => rfl) HM3.out hlt2 (Nat.le_refl _) (fun j hj => iterT_len j (by omega)) (fun j h1 h2 => iterT_ne j h1 (by omega)) HI.out HO.out).mono ?_
        rintro e w1 ⟨rfl, hb1⟩
        have hz1 := hb1.size
        have hh : w1.heap[w.heap.size]? = some (.cells #[.int .i64 0, .string ⟨#[]⟩] 41 (0, 0)) := (hb1.block _ (by omega)).trans HB4.out
        have d0 : w1.cell? ⟨w.heap.size, 0, none⟩ = some (.int .i64 0) := by rw [Lib.cell_of_heap hh]; rfl
        have d1 : w1.cell? ⟨w.heap.size, 1, none⟩ = some (.string ⟨#[]⟩) := by rw [Lib.cell_of_heap hh]; rfl
        have g0 : w1.frozen? ⟨w.heap.size, 0, none⟩ = false := Lib.frozen_of_heap hh 0
        have g1 : w1.frozen? ⟨w.heap.size, 1, none⟩ = false := Lib.frozen_of_heap hh 1
        have hbw : Below w.heap.size w w1 := hb.trans (hb1.mono hsr)
        clear hh c0 c1 f0 f1 hb1 hb
        go_wp2
        refine bodyPost_ret (v := .agg #[.int .i64 kind, .string ⟨(iterT N []).toArray⟩]) (by simp [results, Try.results47, go_sem, d0, d1]) rfl ⟨by rw [H1.out], ?_⟩
        exact (hbw.setCell (p := ⟨w.heap.size, 0, none⟩) (Nat.le_refl _) _).setCell (p := ⟨w.heap.size, 1, none⟩) (Nat.le_refl _) _
      · have q1 : (kind == 0) = false := by rw [beq_eq_false_iff_ne]; exact h1
        have q2 : (kind == 1) = false := by rw [beq_eq_false_iff_ne]; exact h2
        clear h1 h2
        go_wp2
        refine bodyPost_ret (v := .agg #[.int .i64 0, .string ⟨#[]⟩]) (by simp [results, Try.results47, go_sem, c0, c1]) rfl ⟨rfl, ?_⟩
        exact (hb.setCell (p := ⟨w.heap.size, 0, none⟩) (Nat.le_refl _) _).setCell (p := ⟨w.heap.size, 1, none⟩) (Nat.le_refl _) _
end Go.Proofs.Ytkmfpkdcedfgfaa
