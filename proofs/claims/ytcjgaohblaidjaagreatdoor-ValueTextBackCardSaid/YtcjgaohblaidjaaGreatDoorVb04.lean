/- The program's parser gives back each valid value from its notation; two valid values with one notation are the same. No program is named. -/
import Derived.Test.YtcjgaohblaidjaaGreatDoorVb03
import Derived.Lib.ItoaLen
namespace Go.Proofs.YtcjgaohblaidjaaGreatDoor
open Go Go.RowKit
theorem uses_parts {k i : Int} {t : Bs} {v : List Vl} {y : List (Int × Bs)} {e : List En} (h : usesB k i t v y e = true) :
  (k = 1 ∨ k = 4 ∨ k = 9 ∨ i = 0) ∧ (k = 2 ∨ k = 3 ∨ t = []) ∧ (k = 6 ∨ k = 7 ∨ k = 8 ∨ v = []) ∧ (k = 8 ∨ y = []) ∧ (k = 9 ∨ e = []) := by
 unfold usesB at h
 simp only [Bool.and_eq_true, Bool.or_eq_true, decide_eq_true_eq, List.isEmpty_iff] at h
 obtain ⟨⟨⟨⟨h1, h2⟩, h3⟩, h4⟩, h5⟩ := h
 refine ⟨?_, ?_, ?_, h4, h5⟩
 · rcases h1 with (h | h | h) | h <;> simp [h]
 · rcases h2 with (h | h) | h <;> simp [h]
 · rcases h3 with (h | h | h) | h <;> simp [h]
theorem cut_num {d : Bs} {r : Bs} {c : UInt8} {q : Bs} (hd : d = c :: q) (hc : numC c = true) {x : UInt8} (hx : numC x = false) (s : Bs) : cutP (x :: s) (d ++ r) = none := by
 rw [hd]
 exact cutP_ne s (q ++ r) (num_cases hc x hx)
theorem atom_fun {t r : Bs} (h : ∀ c ∈ t, nameC c = true) (hr : Fol folU r) : cutP [102, 117, 110, 47] (t ++ r) = none := by
 refine cutP_none ?_
 intro q e
 obtain ⟨e1, e2⟩ := take_all h hr.name
 have e3 := take_all (p := nameC) (d := [102, 117, 110]) (r := 47 :: q) (by decide) (Brk.cons q (by decide))
 have e4 : [102, 117, 110, 47] ++ q = [102, 117, 110] ++ 47 :: q := by simp
 rw [e, e4, e3.2] at e2
 have := hr 47 q e2.symm
 exact absurd this (by decide)
theorem zip_map : ∀ (y : List (Int × Bs)) (v : List Vl), y.length = v.length → (y.zip v).map Prod.fst = y ∧ (y.zip v).map Prod.snd = v
 | [], [], _ => ⟨rfl, rfl⟩
 | [], _ :: _, h => by simp at h
 | _ :: _, [], h => by simp at h
 | a :: y, b :: v, h => by
  obtain ⟨h1, h2⟩ := zip_map y v (by simpa using h)
  simp [h1, h2]
theorem zip_mem {y : List (Int × Bs)} {v : List Vl} {x : (Int × Bs) × Vl} (h : x ∈ y.zip v) : x.1 ∈ y ∧ x.2 ∈ v := by
 obtain ⟨a, b⟩ := x
 exact ⟨(List.of_mem_zip h).1, (List.of_mem_zip h).2⟩
theorem unlP_full {n : Nat} {val : Rd Vl} (h : Full n val) {v : Vl} (hv : Fit (n + 1) v) {r : Bs} (hr : Fol folU r) : unlP val (bodyV v ++ r) = some (setL [] v, r) := by
 obtain ⟨k, i, t, v, y, e, l⟩ := v
 have hp := hv.parts
 obtain ⟨u1, u2, u3, u4, u5⟩ := uses_parts hp.uses
 rcases kinds hp.kind with rfl | rfl | rfl | rfl | rfl | rfl | rfl | rfl | rfl
 ·
  have e2 : t = [] := by simpa using u2
  have e3 : v = [] := by simpa using u3
  have e4 : y = [] := by simpa using u4
  have e5 : e = [] := by simpa using u5
  subst e2 e3 e4 e5
  obtain ⟨c, q, ei, ec⟩ := itoa_head i
  show unlP val (Lib.itoa i ++ r) = _
  unfold unlP
  rw [cut_num ei ec (by decide), cut_num ei ec (by decide), cut_num ei ec (by decide), cut_num ei ec (by decide), cut_num ei ec (by decide)]
  simp only
  rw [if_pos (by rw [ei]; simpa using ec), numP_full hp.lo hp.hi hr.num]
  rfl
 ·
  have e1 : i = 0 := by simpa using u1
  have e3 : v = [] := by simpa using u3
  have e4 : y = [] := by simpa using u4
  have e5 : e = [] := by simpa using u5
  subst e1 e3 e4 e5
  have hk : keyB 1 t = true := hp.kind
  show unlP val (quoteL t ++ r) = _
  have eq : quoteL t ++ r = 34 :: ((t.flatMap qByte ++ [34]) ++ r) := rfl
  unfold unlP
  rw [eq, cutP_ne _ _ (by decide), cutP_ne _ _ (by decide), cutP_ne _ _ (by decide), cutP_ne _ _ (by decide), cutP_ne _ _ (by decide)]
  simp only
  rw [if_neg (by simp only [List.head?_cons, Option.any_some]; decide), ← eq, show quoteL t = keyL 1 t from rfl, keyP_full hk (.inr rfl) hr.name]
  rfl
 ·
  have e1 : i = 0 := by simpa using u1
  have e3 : v = [] := by simpa using u3
  have e4 : y = [] := by simpa using u4
  have e5 : e = [] := by simpa using u5
  subst e1 e3 e4 e5
  have hk : keyB 0 t = true := hp.kind
  obtain ⟨⟨c, q, ei, ec⟩, hn⟩ := atom_name (l := t) hp.kind
  show unlP val (t ++ r) = _
  have hf := atom_fun hn hr
  have hx : ∀ x : UInt8, lowB x.toNat = false → c ≠ x := by
   rintro x hx rfl
   rw [ec] at hx; cases hx
  have hc : ∀ (x : UInt8) (s : Bs), lowB x.toNat = false → cutP (x :: s) (t ++ r) = none := by
   intro x s hx'
   rw [ei]
   exact cutP_ne s (q ++ r) (hx x hx')
  unfold unlP
  rw [hc _ _ (by decide), hc _ _ (by decide), hc _ _ (by decide), hf, hc _ _ (by decide)]
  simp only
  have hnum : numC c = false := by
   have h97 : 97 ≤ c.toNat := by
    unfold lowB at ec
    simp only [Bool.and_eq_true, decide_eq_true_eq] at ec
    omega
   unfold numC digC
   simp only [Bool.or_eq_false_iff, decide_eq_false_iff_not]
   omega
  rw [if_neg (by rw [ei]; simp [hnum]), show t = keyL 0 t from rfl, keyP_full hk (.inl rfl) hr.name]
  rfl
 ·
  have e2 : t = [] := by simpa using u2
  have e3 : v = [] := by simpa using u3
  have e4 : y = [] := by simpa using u4
  have e5 : e = [] := by simpa using u5
  subst e2 e3 e4 e5
  show unlP val ([35] ++ (Lib.itoa i ++ r)) = _
  unfold unlP
  rw [show cutP [123] ([35] ++ (Lib.itoa i ++ r)) = none from cutP_ne _ _ (by decide), show cutP [91] ([35] ++ (Lib.itoa i ++ r)) = none from cutP_ne _ _ (by decide),
   show cutP [37, 123] ([35] ++ (Lib.itoa i ++ r)) = none from cutP_ne _ _ (by decide), show cutP [102, 117, 110, 47] ([35] ++ (Lib.itoa i ++ r)) = none from cutP_ne _ _ (by decide), cutP_append]
  simp only
  rw [numP_full hp.lo hp.hi hr.num]
  rfl
 ·
  have e1 : i = 0 := by simpa using u1
  have e2 : t = [] := by simpa using u2
  have e3 : v = [] := by simpa using u3
  have e4 : y = [] := by simpa using u4
  have e5 : e = [] := by simpa using u5
  subst e1 e2 e3 e4 e5
  show unlP val ([91] ++ ([93] ++ r)) = _
  unfold unlP
  rw [show cutP [123] ([91] ++ ([93] ++ r)) = none from cutP_ne _ _ (by decide), cutP_append]
  simp only
  unfold listP
  rw [cutP_append]
  rfl
 ·
  have e1 : i = 0 := by simpa using u1
  have e2 : t = [] := by simpa using u2
  have e4 : y = [] := by simpa using u4
  have e5 : e = [] := by simpa using u5
  subst e1 e2 e4 e5
  have eb : bodyV (.mk 6 0 [] v [] [] l) ++ r = [123] ++ (sepL commaL (v.map showV) ++ ([125] ++ r)) := by
   show 123 :: (sepL commaL (v.map showV) ++ [125]) ++ r = _
   simp
  rw [eb]
  unfold unlP
  rw [cutP_append]
  simp only
  rw [manyP_full (item := val) (f := showV) (G := Fol folB) (e := [125]) (r := r) (l := v) fol_comma (Fol.cons (c := 125) _ (by decide)) (cutP_ne (c := 125) (d := 44) _ _ (by decide)) (fun x hx q => show_cut (hp.kids x hx) (d := 125) (by decide) _ _) (fun x hx q hq => h x (hp.kids x hx) q hq)]
  rfl
 ·
  have e1 : i = 0 := by simpa using u1
  have e2 : t = [] := by simpa using u2
  have e4 : y = [] := by simpa using u4
  have e5 : e = [] := by simpa using u5
  subst e1 e2 e4 e5
  have hc : consB v = true := hp.kind
  match v, hc, hp.kids with
  | [a, b], hc, hkids =>
   have hkb : kindOf b = 5 ∨ kindOf b = 7 := by simpa [consB] using hc
   obtain ⟨ls, tl, h6, h7, h8⟩ := list_parts n b (hkids b (by simp)) hkb
   have ha : ∀ x ∈ a :: ls, Fit n x := by
    intro x hx
    rcases List.mem_cons.1 hx with rfl | hx
    · exact hkids _ (by simp)
    · exact h8 x hx
   have eb : bodyV (.mk 7 0 [] [a, b] [] [] l) = [91] ++ (sepL commaL ((a :: ls).map showV) ++ tlV tl) := by
    show bodyV (cnV a b) = _
    rw [h6]
    exact body_list tl a ls
   have es : setL [] (.mk 7 0 [] [a, b] [] [] l) = (a :: ls).foldr cnV tl := by
    rw [List.foldr_cons, ← h6]; rfl
   rw [eb, es, List.append_assoc, List.append_assoc]
   unfold unlP
   rw [show ∀ z : Bs, cutP [123] ([91] ++ z) = none from fun z => cutP_ne _ _ (by decide), cutP_append]
   simp only
   rw [listP_full h ha h7]
 ·
  have e1 : i = 0 := by simpa using u1
  have e2 : t = [] := by simpa using u2
  have e5 : e = [] := by simpa using u5
  subst e1 e2 e5
  have hk : (y.all (fun x => keyB x.1 x.2) && decide (AscC cmpK y) && decide (y.length = v.length)) = true := hp.kind
  simp only [Bool.and_eq_true, List.all_eq_true, decide_eq_true_eq] at hk
  obtain ⟨⟨hk1, -⟩, hk2⟩ := hk
  obtain ⟨z1, z2⟩ := zip_map y v hk2
  have eb : bodyV (.mk 8 0 [] v y [] l) ++ r = [37, 123] ++ (sepL commaL ((y.zip v).map fun x => keyL x.1.1 x.1.2 ++ [58, 32] ++ showV x.2) ++ ([125] ++ r)) := by
   show [37, 123] ++ (sepL commaL (List.zipWith (fun x z => keyL x.1 x.2 ++ [58, 32] ++ z) y (v.map showV)) ++ [125]) ++ r = _
   rw [← zip_fields, z1, z2]
   simp
  rw [eb]
  unfold unlP
  rw [show ∀ z : Bs, cutP [123] ([37, 123] ++ z) = none from fun z => cutP_ne _ _ (by decide), show ∀ z : Bs, cutP [91] ([37, 123] ++ z) = none from fun z => cutP_ne _ _ (by decide), cutP_append]
  simp only
  rw [manyP_full (item := fieldP val) (f := fun x => keyL x.1.1 x.1.2 ++ [58, 32] ++ showV x.2) (G := Fol folB) (e := [125]) (r := r) (l := y.zip v) fol_comma (Fol.cons (c := 125) _ (by decide)) (cutP_ne (c := 125) (d := 44) _ _ (by decide)) ?_ ?_]
  ·
   simp only [Option.map_some, z1, z2]
   rfl
  ·
   rintro ⟨⟨k, t⟩, x⟩ hx q
   obtain ⟨m1, m2⟩ := zip_mem hx
   have hkb := hk1 _ m1
   simp only at hkb
   simp only
   rcases keyB_kind hkb with rfl | rfl
   ·
    obtain ⟨⟨c, q', ei, ec⟩, -⟩ := atom_name (l := t) (by simpa [keyB] using hkb)
    rw [show keyL 0 t = t from rfl, ei]
    refine cutP_ne _ _ ?_
    rintro rfl
    exact absurd ec (by decide)
   · exact cutP_ne (c := 34) _ _ (by decide)
  ·
   rintro ⟨⟨k, t⟩, x⟩ hx q hq
   obtain ⟨m1, m2⟩ := zip_mem hx
   have hkb := hk1 _ m1
   exact fieldP_full h hkb (keyB_kind hkb) (hp.kids x m2) hq
 ·
  have e2 : t = [] := by simpa using u2
  have e3 : v = [] := by simpa using u3
  have e4 : y = [] := by simpa using u4
  subst e2 e3 e4
  have hk : (decide (0 ≤ i ∧ i ≤ 4) && e.all (entB i) && decide (AscC cmpE e)) = true := hp.kind
  simp only [Bool.and_eq_true, List.all_eq_true] at hk
  have hz : ∀ x ∈ e, failsOf x = true → resOf x = zeroV := by
   intro x hx hf
   have := hk.1.2 x hx
   unfold entB at this
   rw [hf] at this
   simp only [Bool.not_true, Bool.false_or, Bool.and_eq_true] at this
   exact isZ_iff.1 this.2
  have eb : bodyV (.mk 9 i [] [] [] e l) ++ r = [102, 117, 110, 47] ++ (Lib.itoa i ++ ([123] ++ (sepL commaL (e.map showE) ++ ([125] ++ r)))) := by
   show [102, 117, 110, 47] ++ Lib.itoa i ++ [123] ++ (sepL commaL (e.map showE) ++ [125]) ++ r = _
   simp
  rw [eb]
  unfold unlP
  rw [show ∀ z : Bs, cutP [123] ([102, 117, 110, 47] ++ z) = none from fun z => cutP_ne _ _ (by decide), show ∀ z : Bs, cutP [91] ([102, 117, 110, 47] ++ z) = none from fun z => cutP_ne _ _ (by decide),
   show ∀ z : Bs, cutP [37, 123] ([102, 117, 110, 47] ++ z) = none from fun z => cutP_ne _ _ (by decide), cutP_append]
  simp only
  unfold funcP
  rw [numP_full hp.lo hp.hi (show Brk numC ([123] ++ (sepL commaL (e.map showE) ++ ([125] ++ r))) from Brk.cons (c := 123) _ (by decide))]
  simp only
  rw [cutP_append]
  simp only
  rw [manyP_full (item := entryP val) (f := showE) (G := Fol folB) (e := [125]) (r := r) (l := e) fol_comma (Fol.cons (c := 125) _ (by decide)) (cutP_ne (c := 125) (d := 44) _ _ (by decide)) ?_ (fun x hx q hq => entryP_full h (hp.ents x hx) (hz x hx) hq)]
  · rfl
  ·
   rintro ⟨a, f, x⟩ hx q
   rw [showE_eq]
   exact cutP_ne (c := 40) _ _ (by decide)
theorem setL_self {v : Vl} : setL (lbsV v) (setL [] v) = v := by cases v; rfl
theorem labs_all {n : Nat} {v : Vl} (h : Fit n v) : ∀ x ∈ lbsV v, varB x = true := by
 obtain ⟨m, rfl⟩ := h.pos
 obtain ⟨k, i, t, v, y, e, l⟩ := v
 have hp := h.parts.labs
 unfold labelsB at hp
 simp only [Bool.and_eq_true, List.all_eq_true] at hp
 exact hp.1
theorem pV_full : ∀ n, Full n (pV n)
 | 0 => by
  intro v hv
  obtain ⟨m, hm⟩ := hv.pos
  omega
 | n + 1 => by
  intro v hv r hr
  have hl := labs_all hv
  by_cases he : lbsV v = []
  ·
   have e1 : showV v = bodyV v := by rw [showV_eq, he]; simp [labsL]
   have e2 : setL [] v = v := by
    have := setL_self (v := v)
    rw [he] at this
    cases v
    exact this
   simp only [pV]
   rw [e1, unlP_full (pV_full n) hv hr.up]
   simp only
   rw [hr.cut (d := 64) (by decide), e2]
  ·
   have e1 : showV v ++ r = bodyV v ++ ([64, 40] ++ (sepL [32] ((lbsV v).map id) ++ ([41] ++ r))) := by
    rw [showV_eq]
    unfold labsL
    rw [if_neg he]
    simp
   simp only [pV]
   rw [e1, unlP_full (pV_full n) hv (show Fol folU ([64, 40] ++ (sepL [32] ((lbsV v).map id) ++ ([41] ++ r))) from Fol.cons (c := 64) _ (by decide))]
   simp only
   rw [cutP_append]
   simp only
   rw [seqL_full (item := labelP) (f := id) (G := Brk nameC) (sep := [32]) (r := [41] ++ r) (l := lbsV v) (fun q => Brk.cons (c := 32) q (by decide)) (by simp) (Brk.cons (c := 41) r (by decide)) (cutP_ne (c := 41) (d := 32) _ _ (by decide)) he (fun x hx q hq => labelP_full (hl x hx) hq)]
   simp only
   rw [cutP_append]
   simp only [setL_self]
theorem showV_inj {n m : Nat} {v w : Vl} (hv : Fit n v) (hw : Fit m w) (h : showV v = showV w) : v = w := by
 have h1 := pV_full (max n m) v (hv.mono (Nat.le_max_left _ _)) [] (Fol.nil _)
 have h2 := pV_full (max n m) w (hw.mono (Nat.le_max_right _ _)) [] (Fol.nil _)
 rw [h, h2] at h1
 simpa using h1.symm
noncomputable def parseV (n : Nat) (s : Bs) : Option Vl := match pV n s with
 | none => none
 | some (v, r) => if r = [] ∧ okV v = true then some v else none
theorem parseV_full {n : Nat} {v : Vl} (hv : Fit n v) : parseV n (showV v) = some v := by
 have h1 := pV_full n v hv [] (Fol.nil _)
 rw [List.append_nil] at h1
 unfold parseV
 rw [h1]
 simp only
 rw [if_pos ⟨trivial, hv.ok⟩]
end Go.Proofs.YtcjgaohblaidjaaGreatDoor
namespace Go.Proofs.YtcjgaohblaidjaaGreatDoor
open Go Go.RowKit
def awS : Bs := [102, 117, 110, 47, 49, 123, 40, 49, 41, 32, 45, 62, 32, 33, 44, 32, 40, 50, 41, 32, 45, 62, 32, 91, 111, 107, 32, 124, 32, 91, 93, 64, 40, 66, 41, 93, 125]
def awV : Vl := .mk 9 1 [] [] [] [.mk [.mk 1 1 [] [] [] [] []] true zeroV, .mk [.mk 1 2 [] [] [] [] []] false (.mk 7 0 [] [.mk 3 0 [111, 107] [] [] [] [], .mk 5 0 [] [] [] [] [[66]]] [] [] [])] []
theorem itoa_1 : Lib.itoa 1 = [49] := by
 unfold Lib.itoa
 rw [if_neg (by decide), show (1 : Int).toNat = 1 from rfl, Lib.decDigits]
 rfl
theorem itoa_2 : Lib.itoa 2 = [50] := by
 unfold Lib.itoa
 rw [if_neg (by decide), show (2 : Int).toNat = 2 from rfl, Lib.decDigits]
 rfl
theorem aw_show : showV awV = awS := by
 simp [awV, awS, showV, sh, shs, she, shes, labsL, sepL, commaL, consL, itoa_1, itoa_2]
theorem aw_fit : Fit 131072 awV := by
 refine ⟨by decide +kernel, by decide +kernel, by decide +kernel⟩
theorem aw_parse : parseV 131072 awS = some awV := by
 rw [← aw_show]
 exact parseV_full aw_fit
end Go.Proofs.YtcjgaohblaidjaaGreatDoor
namespace Go.Proofs.YtcjgaohblaidjaaGreatDoor
open Go Go.RowKit
theorem all_of_row {α : Type} {l : List α} {f : α → Bool} (h : ∀ j, j < l.length → ∃ x, l[j]? = some x ∧ f x = true) : l.all f = true := by
 rw [List.all_eq_true]
 exact mem_of_row h
theorem wf_i64 {i : Int} (h : (Lit.int .i64 i).wf = true) : i64B i = true := by
 unfold i64B
 simp [Lit.wf, IntKind.min, IntKind.max, IntKind.signed, IntKind.bits] at h
 rw [decide_eq_true_iff]
 omega
theorem VB.rng {w : World} {B : Nat → Prop} : ∀ {k : Nat} {v : Vl} {cs : List Value}, VB k w B v cs → rngV v = true
 | 0, _, _, h => h.elim
 | k + 1, .mk kind int text kids keys ents labels, cs, h => by
  obtain ⟨uk, uy, ue, ul, h1, h2, h3, h4, h5, h6, h7, h8⟩ := h
  simp only [rngV, rngVs_all, rngEs_all, Bool.and_eq_true]
  refine ⟨⟨wf_i64 h3, ?_⟩, ?_⟩
  ·
   refine all_of_row fun j hj => ?_
   obtain ⟨cs, x, hx, hv⟩ := h5.elem hj
   exact ⟨x, hx, VB.rng hv⟩
  ·
   refine all_of_row fun j hj => ?_
   obtain ⟨cs, args, fails, result, hx, ua, rs, hc, ha, hr⟩ := h7.elem hj
   refine ⟨_, hx, ?_⟩
   simp only [rngE, rngVs_all, Bool.and_eq_true]
   refine ⟨all_of_row fun i hi => ?_, VB.rng hr⟩
   obtain ⟨cs, x, hx, hv⟩ := ha.elem hi
   exact ⟨x, hx, VB.rng hv⟩
theorem VB.fit {w : World} {B : Nat → Prop} {k : Nat} {v : Vl} {cs : List Value} (h : VB k w B v cs) (ho : okV v = true) : Fit k v := ⟨ho, h.rng, h.dep_le⟩
theorem sepL_len {s : Bs} : ∀ {l : List Bs} {x : Bs}, x ∈ l → x.length ≤ (sepL s l).length
 | [a], x, h => by
  rw [List.mem_singleton] at h
  subst h
  exact Nat.le_refl _
 | a :: b :: r, x, h => by
  have e : (sepL s (a :: b :: r)).length = a.length + s.length + (sepL s (b :: r)).length := by simp [sepL]; omega
  rcases List.mem_cons.1 h with rfl | h
  · omega
  ·
   have := sepL_len (s := s) h
   omega
theorem depVs_show {l : List Vl} (h : ∀ x ∈ l, dep x ≤ (showV x).length) (s : Bs) : depVs l ≤ (sepL s (l.map showV)).length :=
 depVs_le fun x hx => Nat.le_trans (h x hx) (sepL_len (List.mem_map.2 ⟨x, hx, rfl⟩))
theorem dep_show : ∀ (n : Nat) (v : Vl), Fit n v → dep v ≤ (bodyV v).length ∧ (kindOf v = 5 ∨ kindOf v = 7 → dep v ≤ (tlV v).length)
 | 0, v, h => by obtain ⟨m, hm⟩ := h.pos; omega
 | n + 1, .mk k i t v y e l, h => by
  have hp := h.parts
  obtain ⟨u1, u2, u3, u4, u5⟩ := uses_parts hp.uses
  have hkid : ∀ x ∈ v, dep x ≤ (showV x).length := by
   intro x hx
   have := (dep_show n x (hp.kids x hx)).1
   rw [showV_eq, List.length_append]
   omega
  have hb : dep (.mk k i t v y e l) ≤ (bodyV (.mk k i t v y e l)).length := by
   have hpos : 1 ≤ (bodyV (.mk k i t v y e l)).length := by
    obtain ⟨c, q, e1, _⟩ := body_head h
    rw [e1]; simp
   have hd : dep (.mk k i t v y e l) = max (depVs v) (depEs e) + 1 := by simp only [dep]
   have plain : v = [] → e = [] → dep (.mk k i t v y e l) ≤ (bodyV (.mk k i t v y e l)).length := by
    rintro rfl rfl
    rw [hd]
    simpa [depVs, depEs] using hpos
   rcases kinds hp.kind with rfl | rfl | rfl | rfl | rfl | rfl | rfl | rfl | rfl
   · exact plain (by simpa using u3) (by simpa using u5)
   · exact plain (by simpa using u3) (by simpa using u5)
   · exact plain (by simpa using u3) (by simpa using u5)
   · exact plain (by simpa using u3) (by simpa using u5)
   · exact plain (by simpa using u3) (by simpa using u5)
   ·
    have e5 : e = [] := by simpa using u5
    subst e5
    have eb : (bodyV (.mk 6 i t v y [] l)).length = (sepL commaL (v.map showV)).length + 2 := by
     show (123 :: (sepL commaL (v.map showV) ++ [125])).length = _
     simp
    have := depVs_show hkid commaL
    rw [hd, eb]
    simp only [depEs]
    omega
   ·
    have e5 : e = [] := by simpa using u5
    subst e5
    have hc : consB v = true := hp.kind
    match v, hc, hp.kids, hkid, hd with
    | [a, b], hc, hkids, hkid, hd =>
     have hkb : kindOf b = 5 ∨ kindOf b = 7 := by simpa [consB] using hc
     have h1 := hkid a (by simp)
     have h2 := (dep_show n b (hkids b (by simp))).2 hkb
     have eb : (bodyV (.mk 7 i t [a, b] y [] l)).length = (showV a).length + (tlV b).length + 1 := by
      show (91 :: consL (shs [a, b])).length = _
      rw [consL_two]
      simp
     rw [hd, eb]
     simp only [depVs, depEs]
     omega
   ·
    have e5 : e = [] := by simpa using u5
    subst e5
    have hk : (y.all (fun x => keyB x.1 x.2) && decide (AscC cmpK y) && decide (y.length = v.length)) = true := hp.kind
    simp only [Bool.and_eq_true, decide_eq_true_eq] at hk
    obtain ⟨z1, z2⟩ := zip_map y v hk.2
    have eb : (bodyV (.mk 8 i t v y [] l)).length = (sepL commaL ((y.zip v).map fun x : (Int × Bs) × Vl => keyL x.1.1 x.1.2 ++ [58, 32] ++ showV x.2)).length + 3 := by
     show ([37, 123] ++ (sepL commaL (List.zipWith (fun (x : Int × Bs) (z : Bs) => keyL x.1 x.2 ++ [58, 32] ++ z) y (v.map showV)) ++ [125])).length = _
     rw [← zip_fields, z1, z2]
     simp
    have : depVs v ≤ (sepL commaL ((y.zip v).map fun x : (Int × Bs) × Vl => keyL x.1.1 x.1.2 ++ [58, 32] ++ showV x.2)).length := by
     refine depVs_le fun x hx => ?_
     rw [← z2, List.mem_map] at hx
     obtain ⟨z, hz, rfl⟩ := hx
     have h1 := hkid z.2 (zip_mem hz).2
     have h2 := sepL_len (s := commaL) (List.mem_map (f := fun x : (Int × Bs) × Vl => keyL x.1.1 x.1.2 ++ [58, 32] ++ showV x.2) |>.2 ⟨z, hz, rfl⟩)
     simp only [List.length_append] at h2 ⊢
     omega
    rw [hd, eb]
    simp only [depEs]
    omega
   ·
    have e3 : v = [] := by simpa using u3
    subst e3
    have hk : (decide (0 ≤ i ∧ i ≤ 4) && e.all (entB i) && decide (AscC cmpE e)) = true := hp.kind
    simp only [Bool.and_eq_true, List.all_eq_true] at hk
    have eb : (bodyV (.mk 9 i t [] y e l)).length = 6 + (Lib.itoa i).length + (sepL commaL (e.map showE)).length := by
     show ([102, 117, 110, 47] ++ Lib.itoa i ++ [123] ++ (sepL commaL (e.map showE) ++ [125])).length = _
     simp
     omega
    have : depEs e ≤ (sepL commaL (e.map showE)).length := by
     refine depEs_le fun x hx => ?_
     have h2 := sepL_len (s := commaL) (List.mem_map.2 ⟨x, hx, rfl⟩ : showE x ∈ _)
     refine Nat.le_trans ?_ h2
     have hf := hp.ents x hx
     have hz := hk.1.2 x hx
     obtain ⟨a, f, r⟩ := x
     obtain ⟨h3, h4⟩ := hf.args
     have h5 := depVs_show (l := a) (fun x hx => by
      have := (dep_show n x (h3 x hx)).1
      rw [showV_eq, List.length_append]
      omega) commaL
     rw [showE_eq]
     simp only [depE, List.length_cons, List.length_append, List.length_nil]
     have h6 : dep r ≤ (if f = true then [33] else showV r).length := by
      cases f with
      | true =>
       unfold entB at hz
       simp only [failsOf, resOf, argsOf, Bool.not_true, Bool.false_or, Bool.and_eq_true] at hz
       rw [isZ_iff.1 hz.2]
       simp [zeroV, dep, depVs, depEs]
      | false =>
       have := (dep_show n r (h4.resolve_left (by decide))).1
       simp only [Bool.false_eq_true, if_false]
       rw [showV_eq, List.length_append]
       omega
     omega
    rw [hd, eb]
    simp only [depVs]
    omega
  refine ⟨hb, fun hk => ?_⟩
  rw [tlV_eq]
  split
  ·
   rename_i hx
   obtain ⟨rfl, rfl⟩ := hx
   have hc : consB v = true := hp.kind
   match v, hc, hp.kids, hkid with
   | [a, b], hc, hkids, hkid =>
    have hkb : kindOf b = 5 ∨ kindOf b = 7 := by simpa [consB] using hc
    have h1 := hkid a (by simp)
    have h2 := (dep_show n b (hkids b (by simp))).2 hkb
    have e5 : e = [] := by simpa using u5
    subst e5
    rw [consL_two]
    simp only [dep, depVs, depEs, commaL, List.length_append, List.length_cons, List.length_nil]
    omega
  ·
   split
   ·
    rename_i hx
    obtain ⟨rfl, rfl⟩ := hx
    have e3 : v = [] := by simpa using u3
    have e5 : e = [] := by simpa using u5
    subst e3 e5
    simp [dep, depVs, depEs]
   ·
    rw [showV_eq]
    simp only [List.length_append]
    omega
theorem Fit.show {n : Nat} {v : Vl} (h : Fit n v) : Fit (showV v).length v := by
 refine ⟨h.ok, h.rng, ?_⟩
 have := (dep_show n v h).1
 rw [showV_eq, List.length_append]
 omega
end Go.Proofs.YtcjgaohblaidjaaGreatDoor
namespace Go.Proofs.YtcjgaohblaidjaaGreatDoor
open Go Go.RowKit
/-! ### Completeness -/
end Go.Proofs.YtcjgaohblaidjaaGreatDoor
namespace Go.Proofs.YtcjgaohblaidjaaGreatDoor
open Go Go.RowKit
end Go.Proofs.YtcjgaohblaidjaaGreatDoor
namespace Go.Proofs.YtcjgaohblaidjaaGreatDoor
open Go Go.RowKit
mutual
def tiny : Vl → Prop
 | .mk _ _ _ v y e l => v.length ≤ 4 ∧ y.length ≤ 2 ∧ e.length ≤ 2 ∧ l.length ≤ 2 ∧ tinyVs v ∧ tinyEs e
def tinyVs : List Vl → Prop
 | [] => True
 | a :: s => tiny a ∧ tinyVs s
def tinyE : En → Prop
 | .mk a _ r => a.length ≤ 2 ∧ tinyVs a ∧ tiny r
def tinyEs : List En → Prop
 | [] => True
 | a :: s => tinyE a ∧ tinyEs s
end
theorem tinyVs_iff : ∀ {l : List Vl}, tinyVs l ↔ ∀ x, x ∈ l → tiny x
 | [] => by simp [tinyVs]
 | a :: s => by simp [tinyVs, tinyVs_iff (l := s)]
theorem tinyEs_iff : ∀ {l : List En}, tinyEs l ↔ ∀ x, x ∈ l → tinyE x
 | [] => by simp [tinyEs]
 | a :: s => by simp [tinyEs, tinyEs_iff (l := s)]
theorem sepL_le (s : Bs) (M : Nat) : ∀ (l : List Bs), (∀ x ∈ l, x.length ≤ M) → (sepL s l).length ≤ l.length * (M + s.length)
 | [], _ => by simp [sepL]
 | [a], h => by
  have := h a (by simp)
  simp only [sepL, List.length_cons, List.length_nil]
  omega
 | a :: b :: r, h => by
  have h1 := h a (by simp)
  have h2 := sepL_le s M (b :: r) (fun x hx => h x (by simp [hx]))
  have e : (sepL s (a :: b :: r)).length = a.length + s.length + (sepL s (b :: r)).length := by simp [sepL]; omega
  rw [e]
  simp only [List.length_cons] at h2 ⊢
  rw [Nat.add_mul] at h2 ⊢
  rw [Nat.add_mul]
  omega
theorem sepL_le' (s : Bs) (M N : Nat) {l : List Bs} (h : ∀ x ∈ l, x.length ≤ M) (hN : l.length ≤ N) : (sepL s l).length ≤ N * (M + s.length) :=
 Nat.le_trans (sepL_le s M l h) (Nat.mul_le_mul_right _ hN)
theorem nameB_len {f t : Int → Bool} {l : Bs} (h : nameB f t l = true) : l.length ≤ 16 := by
 unfold nameB at h
 simp only [Bool.and_eq_true, decide_eq_true_eq] at h
 exact h.1.1.2
theorem qB_len (c : UInt8) : (qByte c).length ≤ 4 := by
 unfold qByte; split
 · simp
 · split <;> simp
theorem flat_len (l : Bs) : (l.flatMap qByte).length ≤ 4 * l.length := by
 induction l with
 | nil => simp
 | cons a r ih => have := qB_len a; simp only [List.flatMap_cons, List.length_append, List.length_cons]; omega
theorem quote_len {l : Bs} (h : l.length ≤ 64) : (quoteL l).length ≤ 258 := by
 have := flat_len l
 simp only [quoteL, List.length_cons, List.length_append, List.length_nil]; omega
theorem key_len {k : Int} {t : Bs} (h : keyB k t = true) : (keyL k t).length ≤ 258 := by
 rcases keyB_kind h with rfl | rfl
 ·
  have h1 : nameB lowB atomT t = true := by simpa [keyB, atomB] using h
  have := nameB_len h1
  show t.length ≤ 258
  omega
 · exact quote_len (by simpa [keyB] using h)
theorem labs_len {l : List Bs} (h : ∀ x ∈ l, varB x = true) (hn : l.length ≤ 2) : (labsL l).length ≤ 38 := by
 unfold labsL
 split
 · simp
 ·
  have := sepL_le' [32] 16 2 (fun x hx => nameB_len (h x hx)) hn
  simp only [List.length_append, List.length_cons, List.length_nil] at this ⊢
  omega
theorem tl_len {n : Nat} {v : Vl} (h : Fit n v) (hk : kindOf v = 5 ∨ kindOf v = 7) : (tlV v).length ≤ (showV v).length + 4 := by
 obtain ⟨m, rfl⟩ := h.pos
 obtain ⟨k, i, t, v, y, e, l⟩ := v
 rw [tlV_eq]
 split
 ·
  rename_i hx
  obtain ⟨rfl, rfl⟩ := hx
  have e1 : showV (.mk 7 i t v y e []) = 91 :: consL (shs v) := by
   rw [showV_eq]
   show (91 :: consL (shs v)) ++ labsL [] = _
   simp [labsL]
  rw [e1]
  simp [commaL]
 ·
  split
  · simp
  ·
   simp only [List.length_append, List.length_cons, List.length_nil]
   omega
def lenB : Nat → Nat
 | 0 => 300
 | k + 1 => 6 * lenB k + 90
theorem lenB_ge : ∀ k, 300 ≤ lenB k
 | 0 => Nat.le_refl _
 | k + 1 => by have := lenB_ge k; unfold lenB; omega
theorem show_len : ∀ (k : Nat) (v : Vl), Fit (k + 1) v → tiny v → (showV v).length ≤ lenB k := by
 intro k
 induction k with
 | zero =>
  intro v hv ht
  have hl := labs_all hv
  obtain ⟨k, i, t, v, y, e, l⟩ := v
  have hp := hv.parts
  obtain ⟨t1, t2, t3, t4, t5, t6⟩ := ht
  have hv0 : v = [] := by
   cases v with
   | nil => rfl
   | cons a r => obtain ⟨m, hm⟩ := (hp.kids a (by simp)).pos; omega
  have he0 : e = [] := by
   cases e with
   | nil => rfl
   | cons a r =>
    have := (hp.ents a (by simp)).dep
    obtain ⟨a, f, r⟩ := a
    obtain ⟨k, i, t, v, y, e, l⟩ := r
    simp only [depE, dep] at this
    omega
  subst hv0 he0
  have h1 := labs_len hl t4
  have h2 : (bodyV (.mk k i t [] y [] l)).length ≤ 260 := by
   rcases kinds hp.kind with rfl | rfl | rfl | rfl | rfl | rfl | rfl | rfl | rfl
   ·
    have := Lib.itoa_length_le i hp.lo hp.hi
    show (Lib.itoa i).length ≤ 260
    omega
   ·
    have := quote_len (l := t) (by simpa [kindB] using hp.kind)
    show (quoteL t).length ≤ 260
    omega
   ·
    have := nameB_len (show nameB lowB atomT t = true from hp.kind)
    show t.length ≤ 260
    omega
   ·
    have := Lib.itoa_length_le i hp.lo hp.hi
    show (35 :: Lib.itoa i).length ≤ 260
    simp only [List.length_cons]
    omega
   ·
    show 2 ≤ 260
    omega
   ·
    show (2 : Nat) ≤ 260
    omega
   · exact absurd (show consB [] = true from hp.kind) (by decide)
   ·
    have hk : (y.all (fun x => keyB x.1 x.2) && decide (AscC cmpK y) && decide (y.length = ([] : List Vl).length)) = true := hp.kind
    simp only [Bool.and_eq_true, decide_eq_true_eq, List.length_nil] at hk
    have hy : y = [] := List.eq_nil_of_length_eq_zero hk.2
    subst hy
    show (3 : Nat) ≤ 260
    omega
   ·
    have := Lib.itoa_length_le i hp.lo hp.hi
    show ([102, 117, 110, 47] ++ Lib.itoa i ++ [123] ++ ([] ++ [125])).length ≤ 260
    simp only [List.length_append, List.length_cons, List.length_nil]
    omega
  rw [showV_eq, List.length_append]
  have : (labsL (lbsV (.mk k i t [] y [] l))).length ≤ 38 := h1
  show _ ≤ 300
  omega
 | succ k ih =>
  intro v hv ht
  have hl := labs_all hv
  obtain ⟨kd, i, t, v, y, e, l⟩ := v
  have hp := hv.parts
  obtain ⟨t1, t2, t3, t4, t5, t6⟩ := ht
  rw [tinyVs_iff] at t5
  rw [tinyEs_iff] at t6
  have hB := lenB_ge k
  have hkid : ∀ x ∈ v.map showV, x.length ≤ lenB k := by
   intro x hx
   rw [List.mem_map] at hx
   obtain ⟨u, hu, rfl⟩ := hx
   exact ih u (hp.kids u hu) (t5 u hu)
  have h1 := labs_len hl t4
  have h2 : (bodyV (.mk kd i t v y e l)).length ≤ 6 * lenB k + 52 := by
   rcases kinds hp.kind with rfl | rfl | rfl | rfl | rfl | rfl | rfl | rfl | rfl
   ·
    have := Lib.itoa_length_le i hp.lo hp.hi
    show (Lib.itoa i).length ≤ _
    omega
   ·
    have := quote_len (l := t) (by simpa [kindB] using hp.kind)
    show (quoteL t).length ≤ _
    omega
   ·
    have := nameB_len (show nameB lowB atomT t = true from hp.kind)
    show t.length ≤ _
    omega
   ·
    have := Lib.itoa_length_le i hp.lo hp.hi
    show (35 :: Lib.itoa i).length ≤ _
    simp only [List.length_cons]
    omega
   ·
    show 2 ≤ _
    omega
   ·
    have := sepL_le' commaL (lenB k) 4 hkid (by simpa using t1)
    show (123 :: (sepL commaL (v.map showV) ++ [125])).length ≤ _
    simp only [List.length_append, List.length_cons, List.length_nil, commaL] at this ⊢
    omega
   ·
    have hc : consB v = true := hp.kind
    match v, hc, hp.kids, hkid with
    | [a, b], hc, hkids, hkid =>
     have hkb : kindOf b = 5 ∨ kindOf b = 7 := by simpa [consB] using hc
     have h3 := hkid (showV a) (by simp)
     have h4 := hkid (showV b) (by simp)
     have h5 := tl_len (hkids b (by simp)) hkb
     show (91 :: consL (shs [a, b])).length ≤ _
     rw [consL_two]
     simp only [List.length_append, List.length_cons]
     omega
   ·
    have hk : (y.all (fun x => keyB x.1 x.2) && decide (AscC cmpK y) && decide (y.length = v.length)) = true := hp.kind
    simp only [Bool.and_eq_true, decide_eq_true_eq, List.all_eq_true] at hk
    obtain ⟨z1, z2⟩ := zip_map y v hk.2
    have h3 := sepL_le' commaL (260 + lenB k) 2 (l := (y.zip v).map fun x : (Int × Bs) × Vl => keyL x.1.1 x.1.2 ++ [58, 32] ++ showV x.2) (by
     intro x hx
     rw [List.mem_map] at hx
     obtain ⟨u, hu, rfl⟩ := hx
     have m1 := key_len (hk.1.1 _ (zip_mem hu).1)
     have m2 := hkid (showV u.2) (List.mem_map.2 ⟨u.2, (zip_mem hu).2, rfl⟩)
     simp only [List.length_append, List.length_cons, List.length_nil]
     omega) (by
     rw [List.length_map, List.length_zip]
     omega)
    show ([37, 123] ++ (sepL commaL (List.zipWith (fun (x : Int × Bs) (z : Bs) => keyL x.1 x.2 ++ [58, 32] ++ z) y (v.map showV)) ++ [125])).length ≤ _
    have hz := zip_fields (y.zip v)
    rw [z1, z2] at hz
    rw [hz]
    simp only [List.length_append, List.length_cons, List.length_nil, commaL] at h3 ⊢
    omega
   ·
    have h3 := Lib.itoa_length_le i hp.lo hp.hi
    have h4 := sepL_le' commaL (3 * lenB k + 10) 2 (l := e.map showE) (by
     intro x hx
     rw [List.mem_map] at hx
     obtain ⟨u, hu, rfl⟩ := hx
     have hf := hp.ents u hu
     have htu := t6 u hu
     obtain ⟨a, f, r⟩ := u
     obtain ⟨h5, h6⟩ := hf.args
     obtain ⟨s1, s2, s3⟩ := htu
     rw [tinyVs_iff] at s2
     have h7 := sepL_le' commaL (lenB k) 2 (l := a.map showV) (by
      intro x hx
      rw [List.mem_map] at hx
      obtain ⟨u, hu, rfl⟩ := hx
      exact ih u (h5 u hu) (s2 u hu)) (by simpa using s1)
     have h8 : (if f = true then [33] else showV r).length ≤ lenB k := by
      cases f with
      | true => simp only [if_true, List.length_cons, List.length_nil]; omega
      | false =>
       simp only [Bool.false_eq_true, if_false]
       exact ih r (h6.resolve_left (by decide)) s3
     rw [showE_eq]
     simp only [List.length_append, List.length_cons, List.length_nil, commaL] at h7 ⊢
     omega) (by simpa using t3)
    show ([102, 117, 110, 47] ++ Lib.itoa i ++ [123] ++ (sepL commaL (e.map showE) ++ [125])).length ≤ _
    simp only [List.length_append, List.length_cons, List.length_nil, commaL] at h4 ⊢
    omega
  rw [showV_eq, List.length_append]
  have : (labsL (lbsV (.mk kd i t v y e l))).length ≤ 38 := h1
  show _ ≤ 6 * lenB k + 90
  omega
theorem drawn_len {v : Vl} (hv : Fit 4 v) (ht : tiny v) : (showV v).length ≤ 68670 := show_len 3 v hv ht
end Go.Proofs.YtcjgaohblaidjaaGreatDoor
namespace Go.Proofs.YtcjgaohblaidjaaGreatDoor
open Go.ChangeShapes Go.WideShapes Go.ChangeAt Go.RowKit Go.Joins Go.Deep
set_option maxRecDepth 100000 in
theorem rowL_of {H : Type} {enc : TypeId × Value → H} {W : World} {fuel : Nat} {u : Value} {x : DataW H × List MemPlace} (hf : DataW.trod enc Tryz.prog W 0 (fun _ => true) true fuel 28 [u] = some x) :
  ∃ A n c, u = .slice A n c ∧ RowP W W.heap.size 1 (.slice A n c) n (fun _ cs => ∃ x, cs = [.int .i64 x] ∧ (Lit.int .i64 x).wf = true) := by
 obtain ⟨l, hl⟩ := open_row (α := Int) (fun x cs => cs = [.int .i64 x] ∧ (Lit.int .i64 x).wf = true) Tryz.underlying28 (show Tryz.prog.cellsOf 3 = 1 by kernel_rfl) (by omega) hf (fun m cs z _ hz => by
  obtain ⟨i, e, _, wi⟩ := DataW.trod_int Tryz.underlying3 hz
  exact ⟨i, e, wi⟩)
 obtain ⟨A, c, hu, _⟩ := hl.form
 subst hu
 exact ⟨A, l.length, c, rfl, RowB.sub hl (fun _ h => h) (fun _ _ ⟨x, _, hx⟩ => ⟨x, hx⟩)⟩
set_option maxRecDepth 100000 in
theorem rowL_of_trod {H : Type} {enc : TypeId × Value → H} {W : World} {A : Option Addr} {n c : Nat} {d : DataW H} {p : List MemPlace} (h : DataW.Trod enc Tryz.prog W 0 (fun _ => true) true 28 (.slice A n c) d p) :
  RowP W W.heap.size 1 (.slice A n c) n (fun _ cs => ∃ x, cs = [.int .i64 x] ∧ (Lit.int .i64 x).wf = true) := by
 obtain ⟨fuel, hf⟩ := h
 have hf' : DataW.trod enc Tryz.prog W 0 (fun _ => true) true fuel 28 [.slice A n c] = some (d, p) := hf
 obtain ⟨A', n', c', hu, hR⟩ := rowL_of hf'
 injection hu with e1 e2 e3
 subst e1 e2 e3
 exact hR
end Go.Proofs.YtcjgaohblaidjaaGreatDoor
