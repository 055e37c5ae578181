/- What show of the document returns at a map. Condition: the table of powers of ten is laid. -/
import Derived.Test.YtcjgaohblaidjaaGreatDoorVgZ
import Derived.Test.YtcjgaohblaidjaaGreatDoorVg14
import Derived.Test.YtcjgaohblaidjaaGreatDoorVg23
set_option linter.all false
set_option maxRecDepth 100000
set_option maxHeartbeats 6400000
namespace Go.Proofs.YtcjgaohblaidjaaGreatDoor
open Go Go.RowKit
theorem show8 (k:Nat) (hP:Hid (ShowR k)) (i:Int) (t:Bs) (kids:List Vl) (keys:List (Int×Bs)) (ents:List En) (labs:List Bs) (cs:List Value) (w:World) (hv:VS (k+1) w w.heap.size (.mk 8 i t kids keys ents labs) cs) (hok:okV (.mk 8 i t kids keys ents labs)=true) (hlm:(showV (.mk 8 i t kids keys ents labs)).length≤LIM) (hT:Tb w) :
  Calls Tryz.prog 20 #[.agg cs.toArray] w fun e w'=>e=.returned (.string ⟨(showV (.mk 8 i t kids keys ents labs)).toArray⟩)∧Below w.heap.size w w':=by
 have hv0:=hv;obtain⟨uk,uy,ue,ul,rfl,_,hi,_,hkk,hyy,hee,hll⟩:=hv;obtain⟨Ak,ck,rfl,hkl⟩:=hkk.form;obtain⟨Ay,cy,rfl,hyl⟩:=hyy.form;obtain⟨Ae,ce,rfl,hel⟩:=hee.form;obtain⟨Al,cl,rfl,hlbl⟩:=hll.form;unfold maxLen at hkl hyl hel hlbl;obtain⟨W,hW⟩:∃ W,W=w.alloc (.cells #[.int .i64 8,.int .i64 i,.string ⟨t.toArray⟩,.slice Ak kids.length ck,.slice Ay keys.length cy,.slice Ae ents.length ce,.slice Al labs.length cl] 27):=⟨_,rfl⟩;have hbW:Below w.heap.size w W:=by rw[hW];exact bR.alloc lR _
 have kW:W.heap[w.heap.size]?=some (.cells #[.int .i64 8,.int .i64 i,.string ⟨t.toArray⟩,.slice Ak kids.length ck,.slice Ay keys.length cy,.slice Ae ents.length ce,.slice Al labs.length cl] 27 (0,0)):=by rw[hW];exact heap_alloc_new w _
 have hsW:w.heap.size<W.heap.size:=by rw[hW];simp
 have HLR:=xI hll;have hTW:Tb W:=hT.below lR hbW;have hle:(bodyV (.mk 8 i t kids keys ents labs)).length+(labsL labs).length≤LIM:=by rw[zAg,List.length_append]at hlm;exact hlm
 have hsh:showV (.mk 8 i t kids keys ents labs)=bodyV (.mk 8 i t kids keys ents labs)++labsL labs:=zAg _;simp only[okV,zAn,zAx,Bool.and_eq_true,List.all_eq_true]at hok;clear hlm hll hT;have hz:bodyV (.mk 8 i t kids keys ents labs)=37::123::(sepL zAc ((keys.zip kids).map fun x:(Int×Bs)×Vl=>keyL x.1.1 x.1.2++[58,32]++showV x.2)++[125]):=by
  show [37,123]++(sepL zAc (List.zipWith (fun (x:Int×Bs) (z:Bs)=>keyL x.1 x.2++[58,32]++z) keys (kids.map showV))++[125])=_;have h2:(keys.all (fun x=>keyB x.1 x.2)&&decide (AscC cmpK keys)&&decide (keys.length=kids.length))=true:=hok.1.1.2;simp only[Bool.and_eq_true,decide_eq_true_eq]at h2;have hz:=zCb (keys.zip kids);rw[(zCu keys kids h2.2).1,(zCu keys kids h2.2).2]at hz;rw[hz];rfl
 rw[hz]at hle hsh;have hk2:(∀ x∈keys,keyB x.1 x.2=true)∧keys.length=kids.length:=by
  have h2:(keys.all (fun x=>keyB x.1 x.2)&&decide (AscC cmpK keys)&&decide (keys.length=kids.length))=true:=hok.1.1.2;simp only[Bool.and_eq_true,decide_eq_true_eq,List.all_eq_true]at h2;exact⟨h2.1.1,h2.2⟩
 have HKB:=xI hk2.1;have HOKS:=xI hok.1.2;have hkk2:=hk2.2;obtain⟨Z,hZ⟩:∃ Z:List Bs,Z=(keys.zip kids).map fun x:(Int×Bs)×Vl=>keyL x.1.1 x.1.2++[58,32]++showV x.2:=⟨_,rfl⟩;rw[←hZ]at hle hsh;have hZn:Z.length=keys.length:=by rw[hZ,List.length_map,List.length_zip];omega
 have HZ:Hid (∀ (j:Nat) (x:Int×Bs) (z:Vl),keys[j]?=some x→kids[j]?=some z→Z[j]?=some (keyL x.1 x.2++[58,32]++showV z)):=xI (by
  intro j x z h1 h2;rw[hZ,List.getElem?_map,List.getElem?_zip_eq_some.2 (show keys[j]?=some (x,z).1∧kids[j]?=some (x,z).2 from⟨h1,h2⟩)];rfl)
 have hZl:(sepL zAc Z).length+3+(labsL labs).length≤LIM:=by simp only[List.length_cons,List.length_append,List.length_nil]at hle;omega
 have HZL:=xI hZl;have HQ:=xI hsh;have HTW:=xI hTW;have HKK:=xI hkk;have HYY:=xI hyy;have HBW:=xI hbW;have HKW:=xI kW;have HZN:=xI hZn;have HKN:=xI hkk2;clear hz hk2 hok hle hsh hZ hZn hZl hTW hkk hyy hee hbW kW hv0 hkk2;go_enter Tryz.func20,Tryz.ntmps20;go_wp2_with fail;rw[←hW];clear hW
 go_loopw [3,4] (fun sv iv wr=>∃ j:Nat,iv=.int .i64 j∧j≤keys.length∧sv=.string ⟨(37::123::sepL zAc (Z.take j)).toArray⟩∧Below W.heap.size W wr) (fun _ iv _=>keys.length-(intOf iv).toNat)
 case atStart=>exact⟨0,rfl,by omega,by simp[sepL],Below.refl _ _⟩
 case round=>
  obtain⟨j,rfl,hj,rfl,hb⟩:=hrel;have kwr:=(hb.block _ hsW).trans HKW.out;obtain⟨e0,e1,e2,e3,e4,e5,e6⟩:=zAd kwr;have hbw:=HBW.out.trans (hb.mono HBW.out.size);by_cases hjn:j<keys.length
  ·obtain⟨by0,offy,cpy,y0,y1,huy,hby,⟨xk,hxk,hyc,_,_⟩,cy0,cy1⟩:=(HYY.out.on hbw (fun _ _ h=>h)).at2 hjn;injection huy with hAy _ hcy;subst hAy hcy;simp only[List.cons.injEq,and_true]at hyc;obtain⟨rfl,rfl⟩:=hyc;obtain⟨bk0,offk,cpk,x0,x1,x2,x3,x4,x5,x6,huk,hbk,⟨z,hz,hvz⟩,c0,c1,c2,c3,c4,c5,c6⟩:=(HKK.out.on hbw (fun _ _ h=>h)).at7 (j:=j) (by have:=HKN.out;omega);injection huk with hAk _ hck;subst hAk hck;obtain⟨xk1,xk2⟩:=xk;have hkb:keyB xk1 xk2=true:=HKB.out _ (List.mem_of_getElem? hxk);have hzo:okV z=true:=HOKS.out z (List.mem_of_getElem? hz);have hc:=fun wq=>zGg xk1 xk2 wq hkb;have hst:=zBg (s:=zAc) (HZ.out j _ z hxk hz);have hle:=zBm zAc Z j (by have:=HZN.out;omega);rw[hst]at hle;have hle2:=HZL.out;unfold LIM at hle2;simp only[List.length_append,List.length_cons,List.length_nil]at hle;obtain⟨P,hP0⟩:∃ P,P=37::123::sepL zAc (Z.take j):=⟨_,rfl⟩;have hPl:P.length=(sepL zAc (Z.take j)).length+2:=by rw[hP0];simp only[List.length_cons]
   have HS:Hid (37::123::sepL zAc (Z.take (j+1))=P++(preL zAc j++(keyL xk1 xk2++[58,32]++showV z))):=xI (by rw[hst,hP0];simp);rw[←hP0];have hlim:P.length+(preL zAc j).length+(keyL xk1 xk2).length+2+(showV z).length≤4611686018427387904:=by omega
   have hkl:(j:Int)<(kids.length:Int):=by have:=HKN.out;omega
   have kn:(j:Int)<(keys.length:Int):=by omega
   have k0:(0:Int)≤(j:Int):=by omega
   have hsz:(showV z).length≤LIM:=by unfold LIM;omega
   have hltr:w.heap.size<wr.heap.size:=Nat.lt_of_lt_of_le hsW hb.size;have hbyr:by0<wr.heap.size:=Nat.lt_of_lt_of_le hby hbw.size;have hbkr:bk0<wr.heap.size:=Nat.lt_of_lt_of_le hbk hbw.size;have hTr:Tb wr:=HTW.out.below lR hb;have HP2:Hid (∀ w1,Below wr.heap.size wr w1→Calls Tryz.prog 20 #[.agg #[x0,x1,x2,x3,x4,x5,x6]] w1 fun e w'=>e=.returned (.string ⟨(showV z).toArray⟩)∧Below w1.heap.size w1 w'):=xI (fun w1 h1=>
    hP.out z _ w1 (VS.up (Nat.le_trans hbw.size h1.size) lR (VS.on (hbw.trans (h1.mono hbw.size)) hvz)) hzo hsz (hTr.below lR h1))
   clear hTr hvz hzo hsz hbw hkb hxk hz hst hle hle2 hP0 hPl kwr;by_cases h0:j=0
   ·have hp:preL zAc j=[]:=by rw[h0];rfl
    rw[hp]at HS hlim;have hA1:=add_b Tryz.prog P (keyL xk1 xk2) (by omega);have hA2:=add_b Tryz.prog (P++keyL xk1 xk2) [58,32] (by simp only[List.length_append,List.length_cons,List.length_nil]at hlim ⊢;omega);have hA3:=add_b Tryz.prog (P++(keyL xk1 xk2++[58,32])) (showV z) (by simp only[List.length_append,List.length_cons,List.length_nil]at hlim ⊢;omega);have HLI:=xI hlim;have HB:=xI hb;clear hlim hb;have hj0:(j:Int)=0:=by omega
    subst h0;simp only[Nat.zero_mul,Nat.add_zero]at c0 c1 c2 c3 c4 c5 c6 cy0 cy1;generalize keyL xk1 xk2=KK at hc HS hA1 hA2 hA3;generalize showV z=ZZ at hA3 HS HP2;have HKc:Hid (∀ wq,Below wr.heap.size wr wq→wq.cell? ⟨w.heap.size,3,none⟩=some (.slice (some ⟨bk0,offk,none⟩) kids.length ck)∧wq.cell? ⟨w.heap.size,4,none⟩=some (.slice (some ⟨by0,offy,none⟩) keys.length cy)∧wq.cell? ⟨by0,offy,none⟩=some (.int .i64 xk1)∧wq.cell? ⟨by0,offy+1,none⟩=some (.string ⟨xk2.toArray⟩)∧wq.cell? ⟨bk0,offk,none⟩=some (x0)∧wq.cell? ⟨bk0,offk+1,none⟩=some (x1)∧wq.cell? ⟨bk0,offk+2,none⟩=some (x2)∧wq.cell? ⟨bk0,offk+3,none⟩=some (x3)∧wq.cell? ⟨bk0,offk+4,none⟩=some (x4)∧wq.cell? ⟨bk0,offk+5,none⟩=some (x5)∧wq.cell? ⟨bk0,offk+6,none⟩=some (x6)):=xI (fun wq h=>⟨(h.cell (p:=⟨w.heap.size,3,none⟩) hltr).trans e3,(h.cell (p:=⟨w.heap.size,4,none⟩) hltr).trans e4,(h.cell (p:=⟨by0,offy,none⟩) hbyr).trans cy0,(h.cell (p:=⟨by0,offy+1,none⟩) hbyr).trans cy1,(h.cell (p:=⟨bk0,offk,none⟩) hbkr).trans c0,(h.cell (p:=⟨bk0,offk+1,none⟩) hbkr).trans c1,(h.cell (p:=⟨bk0,offk+2,none⟩) hbkr).trans c2,(h.cell (p:=⟨bk0,offk+3,none⟩) hbkr).trans c3,(h.cell (p:=⟨bk0,offk+4,none⟩) hbkr).trans c4,(h.cell (p:=⟨bk0,offk+5,none⟩) hbkr).trans c5,(h.cell (p:=⟨bk0,offk+6,none⟩) hbkr).trans c6⟩);have HC1:Hid (∀ wq,Below wr.heap.size wr wq→Calls Tryz.prog 41 #[.agg #[.int .i64 xk1,.string ⟨xk2.toArray⟩]] wq fun e w'=>e=.returned (.string ⟨KK.toArray⟩)∧Below wq.heap.size wq w'):=xI (fun wq _=>hc wq);go_wp2_with fail;have kk0:0<kids.length:=by omega
    have kk1:0<keys.length:=by omega
    clear hc c0 c1 c2 c3 c4 c5 c6 cy0 cy1 e0 e1 e2 e3 e4 e5 e6;refine wp_region_held_drew (S:=fun wq=>wq.cell? ⟨w.heap.size,3,none⟩=some (.slice (some ⟨bk0,offk,none⟩) kids.length ck)∧wq.cell? ⟨w.heap.size,4,none⟩=some (.slice (some ⟨by0,offy,none⟩) keys.length cy)∧wq.cell? ⟨by0,offy,none⟩=some (.int .i64 xk1)∧wq.cell? ⟨by0,offy+1,none⟩=some (.string ⟨xk2.toArray⟩)∧wq.cell? ⟨bk0,offk,none⟩=some (x0)∧wq.cell? ⟨bk0,offk+1,none⟩=some (x1)∧wq.cell? ⟨bk0,offk+2,none⟩=some (x2)∧wq.cell? ⟨bk0,offk+3,none⟩=some (x3)∧wq.cell? ⟨bk0,offk+4,none⟩=some (x4)∧wq.cell? ⟨bk0,offk+5,none⟩=some (x5)∧wq.cell? ⟨bk0,offk+6,none⟩=some (x6)) (by kernel_rfl) (HKc.out _ bR.drew) (fun _=>?_);have hB0:Below wr.heap.size wr wr.drew:=bR.drew;refine zAh (i:=0) (v:=_) rfl (by kernel_rfl) (by kernel_rfl) (by kernel_rfl) (fun _ _ _ h=>h) (Or.inl ⟨by rfl,(by intro w hSw;(try dsimp only at hSw);go_simp;try with_reducible rfl)⟩) (HKc.out _ hB0) ?_
    try simp only[pK]
    refine zAh (i:=1) (v:=_) rfl (by kernel_rfl) (by kernel_rfl) (by kernel_rfl) (fun _ _ _ h=>h) (Or.inl ⟨by rfl,(by intro w hSw;(try dsimp only at hSw);go_simp;try with_reducible rfl)⟩) (HKc.out _ hB0) ?_
    try simp only[pK]
    refine zAh (i:=2) (v:=_) rfl (by kernel_rfl) (by kernel_rfl) (by kernel_rfl) (fun _ _ _ h=>h) (Or.inl ⟨by rfl,(by intro w hSw;(try dsimp only at hSw);go_simp;try with_reducible rfl)⟩) (HKc.out _ hB0) ?_
    try simp only[pK]
    refine zAh (i:=3) (v:=_) rfl (by kernel_rfl) (by kernel_rfl) (by kernel_rfl) (fun _ _ _ h=>h) (Or.inl ⟨by rfl,(by intro w hSw;(try dsimp only at hSw);go_simp;try with_reducible rfl)⟩) (HKc.out _ hB0) ?_
    try simp only[pK]
    refine zAh (i:=4) (v:=_) rfl (by kernel_rfl) (by kernel_rfl) (by kernel_rfl) (fun _ _ _ h=>h) (Or.inl ⟨by rfl,(by intro w hSw;(try dsimp only at hSw);go_simp;try with_reducible rfl)⟩) (HKc.out _ hB0) ?_
    try simp only[pK]
    refine zAh (i:=5) (v:=_) rfl (by kernel_rfl) (by kernel_rfl) (by kernel_rfl) (fun _ _ _ h=>h) (Or.inl ⟨by rfl,(by intro w hSw;(try dsimp only at hSw);go_simp;try with_reducible rfl)⟩) (HKc.out _ hB0) ?_
    try simp only[pK]
    refine zAh (i:=9) (v:=_) rfl (by kernel_rfl) (by kernel_rfl) (by kernel_rfl) (fun _ _ _ h=>h) (Or.inl ⟨by rfl,(by intro w hSw;(try dsimp only at hSw);go_simp;try with_reducible rfl)⟩) (HKc.out _ hB0) ?_
    try simp only[pK]
    refine zAh (i:=10) (v:=_) rfl (by kernel_rfl) (by kernel_rfl) (by kernel_rfl) (fun _ _ _ h=>h) (Or.inl ⟨by rfl,(by intro w hSw;(try dsimp only at hSw);go_simp;try with_reducible rfl)⟩) (HKc.out _ hB0) ?_
    try simp only[pK]
    refine zAh (i:=11) (v:=_) rfl (by kernel_rfl) (by kernel_rfl) (by kernel_rfl) (fun _ _ _ h=>h) (Or.inl ⟨by rfl,(by intro w hSw;(try dsimp only at hSw);go_simp;try with_reducible rfl)⟩) (HKc.out _ hB0) ?_
    try simp only[pK]
    refine zAh (i:=12) (v:=_) rfl (by kernel_rfl) (by kernel_rfl) (by kernel_rfl) (fun _ _ _ h=>h) (Or.inl ⟨by rfl,(by intro w hSw;(try dsimp only at hSw);go_simp;try with_reducible rfl)⟩) (HKc.out _ hB0) ?_
    try simp only[pK]
    refine zAh (i:=13) (v:=_) rfl (by kernel_rfl) (by kernel_rfl) (by kernel_rfl) (fun _ _ _ h=>h) (Or.inl ⟨by rfl,(by intro w hSw;(try dsimp only at hSw);go_simp;try with_reducible rfl)⟩) (HKc.out _ hB0) ?_
    try simp only[pK]
    refine oO 6 fun K hK=>?_;go_simp;refine (HC1.out _ hB0).mono ?_;rintro e w1 ⟨rfl,hb1⟩;have hB1:Below wr.heap.size wr w1:=zA0 hB0 lR hb1;clear hb1 hB0;refine hK _ _ (HKc.out _ hB1) ?_
    try simp only[pK]
    clear hK K;refine zAh (i:=7) (v:=_) rfl (by kernel_rfl) (by kernel_rfl) (by kernel_rfl) (fun _ _ _ h=>h) (Or.inl ⟨by rfl,(by intro w hSw;(try dsimp only at hSw);go_simp;try with_reducible rfl)⟩) (HKc.out _ hB1) ?_
    try simp only[pK]
    refine zAh (i:=8) (v:=_) rfl (by kernel_rfl) (by kernel_rfl) (by kernel_rfl) (fun _ _ _ h=>h) (Or.inl ⟨by rfl,(by intro w hSw;(try dsimp only at hSw);go_simp;try with_reducible rfl)⟩) (HKc.out _ hB1) ?_
    try simp only[pK]
    refine oO 14 fun K hK=>?_;go_simp;refine (HP2.out _ hB1).mono ?_;rintro e w2 ⟨rfl,hb2⟩;have hB2:Below wr.heap.size wr w2:=zA0 hB1 lR hb2;clear hb2 hB1;refine hK _ _ (HKc.out _ hB2) ?_
    try simp only[pK]
    clear hK K;refine zAh (i:=15) (v:=_) rfl (by kernel_rfl) (by kernel_rfl) (by kernel_rfl) (fun _ _ _ h=>h) (Or.inl ⟨by rfl,(by intro w hSw;(try dsimp only at hSw);go_simp;try with_reducible rfl)⟩) (HKc.out _ hB2) ?_
    try simp only[pK]
    refine zAh (i:=16) (v:=_) rfl (by kernel_rfl) (by kernel_rfl) (by kernel_rfl) (fun _ _ _ h=>h) (Or.inl ⟨by rfl,(by intro w hSw;(try dsimp only at hSw);go_simp;try with_reducible rfl)⟩) (HKc.out _ hB2) ?_
    try simp only[pK]
    refine (wD ?_) _;have HBE:=xI (HB.out.trans (hB2.mono HB.out.size));clear hB2;go_wp2
    go_roundw
    case rel=>exact⟨1,by go_num,by omega,by rw[HS.out];simp,HBE.out⟩
    case measure=>simp[intOf];omega
   ·have hp:preL zAc j=[44,32]:=if_neg h0;have kp:(0:Int)<(j:Int):=by omega
    rw[hp]at HS hlim;have hA0:=add_b Tryz.prog P [44,32] (by simp only[List.length_append,List.length_cons,List.length_nil]at hlim ⊢;omega);have hA1:=add_b Tryz.prog (P++[44,32]) (keyL xk1 xk2) (by simp only[List.length_append,List.length_cons,List.length_nil]at hlim ⊢;omega);have hA2:=add_b Tryz.prog (P++44::32::keyL xk1 xk2) [58,32] (by simp only[List.length_append,List.length_cons,List.length_nil]at hlim ⊢;omega);have hA3:=add_b Tryz.prog (P++44::32::(keyL xk1 xk2++[58,32])) (showV z) (by simp only[List.length_append,List.length_cons,List.length_nil]at hlim ⊢;omega);have HLI:=xI hlim;have HB:=xI hb;clear hlim hb;generalize keyL xk1 xk2=KK at hc HS hA1 hA2 hA3;generalize showV z=ZZ at hA3 HS HP2;have HKc:Hid (∀ wq,Below wr.heap.size wr wq→wq.cell? ⟨w.heap.size,3,none⟩=some (.slice (some ⟨bk0,offk,none⟩) kids.length ck)∧wq.cell? ⟨w.heap.size,4,none⟩=some (.slice (some ⟨by0,offy,none⟩) keys.length cy)∧wq.cell? ⟨by0,offy+j*2,none⟩=some (.int .i64 xk1)∧wq.cell? ⟨by0,offy+j*2+1,none⟩=some (.string ⟨xk2.toArray⟩)∧wq.cell? ⟨bk0,offk+j*7,none⟩=some (x0)∧wq.cell? ⟨bk0,offk+j*7+1,none⟩=some (x1)∧wq.cell? ⟨bk0,offk+j*7+2,none⟩=some (x2)∧wq.cell? ⟨bk0,offk+j*7+3,none⟩=some (x3)∧wq.cell? ⟨bk0,offk+j*7+4,none⟩=some (x4)∧wq.cell? ⟨bk0,offk+j*7+5,none⟩=some (x5)∧wq.cell? ⟨bk0,offk+j*7+6,none⟩=some (x6)):=xI (fun wq h=>⟨(h.cell (p:=⟨w.heap.size,3,none⟩) hltr).trans e3,(h.cell (p:=⟨w.heap.size,4,none⟩) hltr).trans e4,(h.cell (p:=⟨by0,offy+j*2,none⟩) hbyr).trans cy0,(h.cell (p:=⟨by0,offy+j*2+1,none⟩) hbyr).trans cy1,(h.cell (p:=⟨bk0,offk+j*7,none⟩) hbkr).trans c0,(h.cell (p:=⟨bk0,offk+j*7+1,none⟩) hbkr).trans c1,(h.cell (p:=⟨bk0,offk+j*7+2,none⟩) hbkr).trans c2,(h.cell (p:=⟨bk0,offk+j*7+3,none⟩) hbkr).trans c3,(h.cell (p:=⟨bk0,offk+j*7+4,none⟩) hbkr).trans c4,(h.cell (p:=⟨bk0,offk+j*7+5,none⟩) hbkr).trans c5,(h.cell (p:=⟨bk0,offk+j*7+6,none⟩) hbkr).trans c6⟩);have HC1:Hid (∀ wq,Below wr.heap.size wr wq→Calls Tryz.prog 41 #[.agg #[.int .i64 xk1,.string ⟨xk2.toArray⟩]] wq fun e w'=>e=.returned (.string ⟨KK.toArray⟩)∧Below wq.heap.size wq w'):=xI (fun wq _=>hc wq);go_wp2_with fail;clear hc c0 c1 c2 c3 c4 c5 c6 cy0 cy1 e0 e1 e2 e3 e4 e5 e6;refine wp_region_held_drew (S:=fun wq=>wq.cell? ⟨w.heap.size,3,none⟩=some (.slice (some ⟨bk0,offk,none⟩) kids.length ck)∧wq.cell? ⟨w.heap.size,4,none⟩=some (.slice (some ⟨by0,offy,none⟩) keys.length cy)∧wq.cell? ⟨by0,offy+j*2,none⟩=some (.int .i64 xk1)∧wq.cell? ⟨by0,offy+j*2+1,none⟩=some (.string ⟨xk2.toArray⟩)∧wq.cell? ⟨bk0,offk+j*7,none⟩=some (x0)∧wq.cell? ⟨bk0,offk+j*7+1,none⟩=some (x1)∧wq.cell? ⟨bk0,offk+j*7+2,none⟩=some (x2)∧wq.cell? ⟨bk0,offk+j*7+3,none⟩=some (x3)∧wq.cell? ⟨bk0,offk+j*7+4,none⟩=some (x4)∧wq.cell? ⟨bk0,offk+j*7+5,none⟩=some (x5)∧wq.cell? ⟨bk0,offk+j*7+6,none⟩=some (x6)) (by kernel_rfl) (HKc.out _ bR.drew) (fun _=>?_);have hB0:Below wr.heap.size wr wr.drew:=bR.drew;refine zAh (i:=0) (v:=_) rfl (by kernel_rfl) (by kernel_rfl) (by kernel_rfl) (fun _ _ _ h=>h) (Or.inl ⟨by rfl,(by intro w hSw;(try dsimp only at hSw);go_simp;try with_reducible rfl)⟩) (HKc.out _ hB0) ?_
    try simp only[pK]
    refine zAh (i:=1) (v:=_) rfl (by kernel_rfl) (by kernel_rfl) (by kernel_rfl) (fun _ _ _ h=>h) (Or.inl ⟨by rfl,(by intro w hSw;(try dsimp only at hSw);go_simp;try with_reducible rfl)⟩) (HKc.out _ hB0) ?_
    try simp only[pK]
    refine zAh (i:=2) (v:=_) rfl (by kernel_rfl) (by kernel_rfl) (by kernel_rfl) (fun _ _ _ h=>h) (Or.inl ⟨by rfl,(by intro w hSw;(try dsimp only at hSw);go_simp;try with_reducible rfl)⟩) (HKc.out _ hB0) ?_
    try simp only[pK]
    refine zAh (i:=3) (v:=_) rfl (by kernel_rfl) (by kernel_rfl) (by kernel_rfl) (fun _ _ _ h=>h) (Or.inl ⟨by rfl,(by intro w hSw;(try dsimp only at hSw);go_simp;try with_reducible rfl)⟩) (HKc.out _ hB0) ?_
    try simp only[pK]
    refine zAh (i:=4) (v:=_) rfl (by kernel_rfl) (by kernel_rfl) (by kernel_rfl) (fun _ _ _ h=>h) (Or.inl ⟨by rfl,(by intro w hSw;(try dsimp only at hSw);go_simp;try with_reducible rfl)⟩) (HKc.out _ hB0) ?_
    try simp only[pK]
    refine zAh (i:=5) (v:=_) rfl (by kernel_rfl) (by kernel_rfl) (by kernel_rfl) (fun _ _ _ h=>h) (Or.inl ⟨by rfl,(by intro w hSw;(try dsimp only at hSw);go_simp;try with_reducible rfl)⟩) (HKc.out _ hB0) ?_
    try simp only[pK]
    refine zAh (i:=9) (v:=_) rfl (by kernel_rfl) (by kernel_rfl) (by kernel_rfl) (fun _ _ _ h=>h) (Or.inl ⟨by rfl,(by intro w hSw;(try dsimp only at hSw);go_simp;try with_reducible rfl)⟩) (HKc.out _ hB0) ?_
    try simp only[pK]
    refine zAh (i:=10) (v:=_) rfl (by kernel_rfl) (by kernel_rfl) (by kernel_rfl) (fun _ _ _ h=>h) (Or.inl ⟨by rfl,(by intro w hSw;(try dsimp only at hSw);go_simp;try with_reducible rfl)⟩) (HKc.out _ hB0) ?_
    try simp only[pK]
    refine zAh (i:=11) (v:=_) rfl (by kernel_rfl) (by kernel_rfl) (by kernel_rfl) (fun _ _ _ h=>h) (Or.inl ⟨by rfl,(by intro w hSw;(try dsimp only at hSw);go_simp;try with_reducible rfl)⟩) (HKc.out _ hB0) ?_
    try simp only[pK]
    refine zAh (i:=12) (v:=_) rfl (by kernel_rfl) (by kernel_rfl) (by kernel_rfl) (fun _ _ _ h=>h) (Or.inl ⟨by rfl,(by intro w hSw;(try dsimp only at hSw);go_simp;try with_reducible rfl)⟩) (HKc.out _ hB0) ?_
    try simp only[pK]
    refine zAh (i:=13) (v:=_) rfl (by kernel_rfl) (by kernel_rfl) (by kernel_rfl) (fun _ _ _ h=>h) (Or.inl ⟨by rfl,(by intro w hSw;(try dsimp only at hSw);go_simp;try with_reducible rfl)⟩) (HKc.out _ hB0) ?_
    try simp only[pK]
    refine oO 6 fun K hK=>?_;go_simp;refine (HC1.out _ hB0).mono ?_;rintro e w1 ⟨rfl,hb1⟩;have hB1:Below wr.heap.size wr w1:=zA0 hB0 lR hb1;clear hb1 hB0;refine hK _ _ (HKc.out _ hB1) ?_
    try simp only[pK]
    clear hK K;refine zAh (i:=7) (v:=_) rfl (by kernel_rfl) (by kernel_rfl) (by kernel_rfl) (fun _ _ _ h=>h) (Or.inl ⟨by rfl,(by intro w hSw;(try dsimp only at hSw);go_simp;try with_reducible rfl)⟩) (HKc.out _ hB1) ?_
    try simp only[pK]
    refine zAh (i:=8) (v:=_) rfl (by kernel_rfl) (by kernel_rfl) (by kernel_rfl) (fun _ _ _ h=>h) (Or.inl ⟨by rfl,(by intro w hSw;(try dsimp only at hSw);go_simp;try with_reducible rfl)⟩) (HKc.out _ hB1) ?_
    try simp only[pK]
    refine oO 14 fun K hK=>?_;go_simp;refine (HP2.out _ hB1).mono ?_;rintro e w2 ⟨rfl,hb2⟩;have hB2:Below wr.heap.size wr w2:=zA0 hB1 lR hb2;clear hb2 hB1;refine hK _ _ (HKc.out _ hB2) ?_
    try simp only[pK]
    clear hK K;refine zAh (i:=15) (v:=_) rfl (by kernel_rfl) (by kernel_rfl) (by kernel_rfl) (fun _ _ _ h=>h) (Or.inl ⟨by rfl,(by intro w hSw;(try dsimp only at hSw);go_simp;try with_reducible rfl)⟩) (HKc.out _ hB2) ?_
    try simp only[pK]
    refine zAh (i:=16) (v:=_) rfl (by kernel_rfl) (by kernel_rfl) (by kernel_rfl) (fun _ _ _ h=>h) (Or.inl ⟨by rfl,(by intro w hSw;(try dsimp only at hSw);go_simp;try with_reducible rfl)⟩) (HKc.out _ hB2) ?_
    try simp only[pK]
    refine (wD ?_) _;have HBE:=xI (HB.out.trans (hB2.mono HB.out.size));clear hB2;go_wp2
    go_roundw
    case rel=>exact⟨j+1,by go_num,by omega,by rw[HS.out];simp,HBE.out⟩
    case measure=>simp[intOf];omega
  ·have hke:Z.take j=Z:=List.take_of_length_le (by have:=HZN.out;omega);rw[hke];have hjn':¬ (j:Int)<(keys.length:Int):=by omega
   have hlz:=HZL.out;unfold LIM at hlz;have hA:=add_b Tryz.prog (37::123::sepL zAc Z) [125] (by simp only[List.length_cons,List.length_nil];omega);have HQ2:Hid (showV (.mk 8 i t kids keys ents labs)=((37::123::sepL zAc Z)++[125])++labsL labs):=xI (by have:=HQ.out;simpa using this);have HLEN:Hid (((37::123::sepL zAc Z)++[125]).length+(labsL labs).length≤LIM):=xI (by have:=HZL.out;simp only[List.length_cons,List.length_append,List.length_nil];omega);have HQ:=HQ2;generalize (37::123::sepL zAc Z)++[125]=Q at hA HQ HLEN;clear HQ2 hke hlz;have hlt1:w.heap.size<wr.heap.size:=Nat.lt_of_lt_of_le hsW hb.size;rename World=>w1;have g6:=e6;have HB1:=xI hbw;have hs1:=hlt1;have HJ:=xI hjn;clear hb hbw kwr hlt1 hjn hj;by_cases hl0:labs=[]
   ·subst hl0;go_wp2;go_ret;exact⟨by rw[HQ.out];simp[labsL],HB1.out⟩
   ·have hlp:(0:Int)<(labs.length:Int):=by
     have:0<labs.length:=List.length_pos_iff.2 hl0;omega
    have hle:=HLEN.out;rw[zA1 hl0]at hle;unfold LIM at hle;simp only[List.length_append,List.length_cons,List.length_nil]at hle;have hA0:=add_b Tryz.prog (Q) [64,40] (by simp only[List.length_cons,List.length_nil];omega);have HLE:=xI hle;clear hle;go_wp2_with fail
    go_loopw [3,6] (fun sv iv wr=>∃ j:Nat,iv=.int .i64 j∧j≤labs.length∧sv=.string ⟨((Q)++64::40::sepL [32] (labs.take j)).toArray⟩∧Below w1.heap.size w1 wr) (fun _ i _=>labs.length-(intOf i).toNat)
    case atStart=>exact⟨0,rfl,by omega,by simp[sepL],Below.refl _ _⟩
    case round=>
     obtain⟨j,rfl,hj,rfl,hb⟩:=hrel;have g6':=(hb.cell (p:=⟨w.heap.size,6,none⟩) hs1).trans g6;by_cases hjn:j<labs.length
     ·obtain⟨bl,offl,capl,xl,hul,hbl,⟨x,hx,hxl,_⟩,cl0⟩:=(HLR.out.on (HB1.out.trans (hb.mono HB1.out.size)) (fun _ _ h=>h)).at1 hjn;injection hul with hAl _ hcl;subst hAl hcl;simp only[List.cons.injEq,and_true]at hxl;subst hxl;have kn:(j:Int)<(labs.length:Int):=by omega
      have k0:(0:Int)≤(j:Int):=by omega
      have hst:=zBg (s:=[32]) hx;have hle:=zBm [32] labs j hjn;rw[hst]at hle;simp only[List.length_append]at hle;have hle2:=HLE.out;obtain⟨P,hP0⟩:∃ P,P=(Q)++64::40::sepL [32] (labs.take j):=⟨_,rfl⟩;have hPl:P.length=(Q).length+2+(sepL [32] (labs.take j)).length:=by rw[hP0];simp only[List.length_append,List.length_cons,List.length_nil];omega
      try simp only[List.length_cons,List.length_nil]at hPl
      have HS:Hid ((Q)++64::40::sepL [32] (labs.take (j+1))=P++(preL [32] j++x)):=xI (by rw[hst,hP0];simp);rw[←hP0];have hlim:P.length+(preL [32] j).length+x.length≤4611686018427387904:=by omega
      clear hst hle hle2 hP0 hPl hx;have HB:=xI hb;clear hb;by_cases h0:j=0
      ·subst h0;have hA:=add_b Tryz.prog P x (by omega);have HLI:=xI hlim;clear hlim;simp only[Nat.add_zero]at cl0;go_wp2
       go_roundw
       case rel=>exact⟨1,by go_num,by omega,by rw[HS.out];rfl,HB.out⟩
       case measure=>simp[intOf];omega
      ·have kp:(0:Int)<(j:Int):=by omega
       have hp:preL [32] j=[32]:=if_neg h0;rw[hp]at HS hlim;simp only[List.length_cons,List.length_nil]at hlim;have hA1:=add_b Tryz.prog P [32] (by simp;omega);have hA2:=add_b Tryz.prog (P++[32]) x (by simp;omega);have HLI:=xI hlim;clear hlim hp;go_wp2
       go_roundw
       case rel=>exact⟨j+1,by go_num,by omega,by rw[HS.out];simp,HB.out⟩
       case measure=>simp[intOf];omega
     ·have hke:labs.take j=labs:=List.take_of_length_le (by omega);rw[hke];have hje:(j:Int)=(labs.length:Int):=by omega
      have hjn':¬ (j:Int)<(labs.length:Int):=by omega
      have hA:=add_b Tryz.prog ((Q)++64::40::sepL [32] labs) [41] (by have:=HLE.out;simp;omega);have HB:=xI hb;clear hb hje;go_wp2;go_ret;exact⟨by rw[HQ.out,zA1 hl0];simp,HB1.out.trans (HB.out.mono HB1.out.size)⟩
theorem show9 (k:Nat) (hP:Hid (ShowR k)) (i:Int) (t:Bs) (kids:List Vl) (keys:List (Int×Bs)) (ents:List En) (labs:List Bs) (cs:List Value) (w:World) (hv:VS (k+1) w w.heap.size (.mk 9 i t kids keys ents labs) cs) (hok:okV (.mk 9 i t kids keys ents labs)=true) (hlm:(showV (.mk 9 i t kids keys ents labs)).length≤LIM) (hT:Tb w) :
  Calls Tryz.prog 20 #[.agg cs.toArray] w fun e w'=>e=.returned (.string ⟨(showV (.mk 9 i t kids keys ents labs)).toArray⟩)∧Below w.heap.size w w':=by
 have hv0:=hv;obtain⟨uk,uy,ue,ul,rfl,_,hi,_,hkk,hyy,hee,hll⟩:=hv;obtain⟨Ak,ck,rfl,hkl⟩:=hkk.form;obtain⟨Ay,cy,rfl,hyl⟩:=hyy.form;obtain⟨Ae,ce,rfl,hel⟩:=hee.form;obtain⟨Al,cl,rfl,hlbl⟩:=hll.form;unfold maxLen at hkl hyl hel hlbl;obtain⟨W,hW⟩:∃ W,W=w.alloc (.cells #[.int .i64 9,.int .i64 i,.string ⟨t.toArray⟩,.slice Ak kids.length ck,.slice Ay keys.length cy,.slice Ae ents.length ce,.slice Al labs.length cl] 27):=⟨_,rfl⟩;have hbW:Below w.heap.size w W:=by rw[hW];exact bR.alloc lR _
 have kW:W.heap[w.heap.size]?=some (.cells #[.int .i64 9,.int .i64 i,.string ⟨t.toArray⟩,.slice Ak kids.length ck,.slice Ay keys.length cy,.slice Ae ents.length ce,.slice Al labs.length cl] 27 (0,0)):=by rw[hW];exact heap_alloc_new w _
 have hsW:w.heap.size<W.heap.size:=by rw[hW];simp
 have HLR:=xI hll;have hTW:Tb W:=hT.below lR hbW;have hle:(bodyV (.mk 9 i t kids keys ents labs)).length+(labsL labs).length≤LIM:=by rw[zAg,List.length_append]at hlm;exact hlm
 have hsh:showV (.mk 9 i t kids keys ents labs)=bodyV (.mk 9 i t kids keys ents labs)++labsL labs:=zAg _;simp only[okV,zAn,zAx,Bool.and_eq_true,List.all_eq_true]at hok;clear hlm hll hT;have hz:bodyV (.mk 9 i t kids keys ents labs)=102::117::110::47::(Lib.itoa i++123::(sepL zAc (ents.map showE)++[125])):=by
  show [102,117,110,47]++Lib.itoa i++[123]++(sepL zAc (ents.map showE)++[125])=_;simp
 rw[hz]at hle hsh;have hke:(decide (0≤i∧i≤4)&&ents.all (entB i)&&decide (AscC cmpE ents))=true:=hok.1.1.2;simp only[Bool.and_eq_true,List.all_eq_true]at hke;have HOKE:=xI hok.2;obtain⟨Z,hZ⟩:∃ Z:List Bs,Z=ents.map showE:=⟨_,rfl⟩;rw[←hZ]at hle hsh;have hZn:Z.length=ents.length:=by rw[hZ,List.length_map]
 have HZ:Hid (∀ (j:Nat) (x:En),ents[j]?=some x→Z[j]?=some (showE x)):=xI (by
  intro j x h1;rw[hZ,List.getElem?_map,h1];rfl)
 have hc:=zBw i hi W hTW;have hZl:(sepL zAc Z).length+(Lib.itoa i).length+6+(labsL labs).length≤LIM:=by simp only[List.length_cons,List.length_append,List.length_nil]at hle;omega
 generalize Lib.itoa i=I at hc hle hsh hZl;have hA00:=add_b Tryz.prog [102,117,110,47] I (by unfold LIM at hZl;simp only[List.length_cons,List.length_nil];omega);have hA01:=add_b Tryz.prog (102::117::110::47::I) [123] (by unfold LIM at hZl;simp only[List.length_cons,List.length_nil];omega);have HZL:=xI hZl;have HQ:=xI hsh;have HTW:=xI hTW;have HEE:=xI hee;have HZN:=xI hZn;clear hz hke hok hle hsh hZ hZn hZl hTW hkk hyy hee hv0;go_enter Tryz.func20,Tryz.ntmps20;go_wp2_with fail;rw[←hW];clear hW;refine hc.mono ?_;rintro e w1 ⟨rfl,hb1⟩;clear hc;have HBW:=xI (hbW.trans (hb1.mono hbW.size));have HKW:=xI ((hb1.block _ hsW).trans kW);have hsW1:=Nat.lt_of_lt_of_le hsW hb1.size;have HTW1:=xI (HTW.out.below lR hb1);clear hb1 hbW kW hsW HTW;have HA00:=xI hA00;go_wp2_with fail
 go_loopw [3,5] (fun sv iv wr=>∃ j:Nat,iv=.int .i64 j∧j≤ents.length∧sv=.string ⟨(102::117::110::47::(I++123::sepL zAc (Z.take j))).toArray⟩∧Below w1.heap.size w1 wr) (fun _ iv _=>ents.length-(intOf iv).toNat)
 case atStart=>exact⟨0,rfl,by omega,by simp[sepL],Below.refl _ _⟩
 case round=>
  obtain⟨j,rfl,hj,rfl,hb⟩:=hrel;have kwr:=(hb.block _ hsW1).trans HKW.out;obtain⟨e0,e1,e2,e3,e4,e5,e6⟩:=zAd kwr;have hbw:=HBW.out.trans (hb.mono HBW.out.size);by_cases hjn:j<ents.length
  ·obtain⟨be0,offe,cpe,ya,yb,x0,x1,x2,x3,x4,x5,x6,hue,hbe,⟨ar,fa,rs,hxe,ua,rcs,hcse,har,hrs⟩,c0,c1,c2,c3,c4,c5,c6,c7,c8⟩:=(HEE.out.on hbw (fun _ _ h=>h)).at9 hjn;injection hue with hAe _ hce;subst hAe hce;simp only[List.cons.injEq]at hcse;obtain⟨rfl,rfl,rfl⟩:=hcse;obtain⟨Aa,ca,rfl,hal⟩:=har.form;unfold maxLen at hal;obtain⟨ra,ri,rst,R3,rn3,rc3,R4,rn4,rc4,R5,rn5,rc5,R6,rn6,rc6,he7⟩:=hrs.form7;simp only[List.cons.injEq,and_true]at he7;obtain⟨rfl,rfl,rfl,rfl,rfl,rfl,rfl⟩:=he7;have hoe:okE (.mk ar fa rs)=true:=HOKE.out _ (List.mem_of_getElem? hxe);simp only[okE,zAn,Bool.and_eq_true,Bool.or_eq_true,List.all_eq_true]at hoe;have hst:=zBg (s:=zAc) (HZ.out j _ hxe);have hle:=zBm zAc Z j (by have:=HZN.out;omega);rw[hst]at hle;have hle2:=HZL.out;unfold LIM at hle2;rw[zCx]at hst hle;simp only[List.length_append,List.length_cons,List.length_nil]at hle;obtain⟨P,hP0⟩:∃ P,P=102::117::110::47::(I++123::sepL zAc (Z.take j)):=⟨_,rfl⟩;have hPl:P.length=I.length+(sepL zAc (Z.take j)).length+5:=by rw[hP0];simp only[List.length_append,List.length_cons];omega
   have HS:Hid (102::117::110::47::(I++123::sepL zAc (Z.take (j+1)))=P++(preL zAc j++(40::(sepL zAc (ar.map showV)++[41,32,45,62,32]++(if fa then [33] else showV rs))))):=xI (by rw[hst,hP0];simp);rw[←hP0];have hlim:P.length+(preL zAc j).length+(sepL zAc (ar.map showV)).length+6+(if fa then [33] else showV rs).length≤4611686018427387904:=by omega
   have kn:(j:Int)<(ents.length:Int):=by omega
   have k0:(0:Int)≤(j:Int):=by omega
   have hltr:w.heap.size<wr.heap.size:=Nat.lt_of_lt_of_le hsW1 hb.size;have hber:be0<wr.heap.size:=Nat.lt_of_lt_of_le hbe hbw.size;have hTr:Tb wr:=HTW1.out.below lR hb;have hcA:=zJk k hP Aa ca ar wr ((har.on hbw fun _ _ ⟨x,h1,h2⟩=>⟨x,h1,VS.up hbw.size lR (VS.on hbw h2)⟩).mono hbw.size fun _ _ h=>h) hoe.1 (by unfold LIM;omega) hTr;have HP2:fa=false→Hid (∀ w1,Below wr.heap.size wr w1→Calls Tryz.prog 20 #[.agg #[.int .i64 ra,.int .i64 ri,.string rst,.slice R3 rn3 rc3,.slice R4 rn4 rc4,.slice R5 rn5 rc5,.slice R6 rn6 rc6]] w1 fun e w'=>e=.returned (.string ⟨(showV rs).toArray⟩)∧Below w1.heap.size w1 w'):=fun hf=>xI (fun w1 h1=>
    hP.out rs _ w1 (VS.up (Nat.le_trans hbw.size h1.size) lR (VS.on (hbw.trans (h1.mono hbw.size)) hrs)) (hoe.2.resolve_left (by rw[hf];decide)) (by rw[hf]at hlim;simp only[Bool.false_eq_true,if_false]at hlim;unfold LIM;omega) (hTr.below lR h1))
   clear hTr har hrs hoe hbw hxe hst hle hle2 hP0 hPl kwr hA01 hal;generalize sepL zAc (ar.map showV)=AS at hcA HS hlim;cases fa with
   | true=>
    clear HP2;simp only[if_true]at HS hlim;by_cases h0:j=0
    ·have hp:preL zAc j=[]:=by rw[h0];rfl
     rw[hp]at HS hlim;simp only[List.length_nil]at hlim;have hA1:=add_b Tryz.prog P [40] (by simp only[List.length_cons,List.length_nil];omega);have hA2:=add_b Tryz.prog (P++[40]) AS (by simp only[List.length_append,List.length_cons,List.length_nil];omega);have hA3:=add_b Tryz.prog (P++40::AS) [41,32,45,62,32] (by simp only[List.length_append,List.length_cons,List.length_nil];omega);have hA4:=add_b Tryz.prog (P++40::(AS++[41,32,45,62,32])) [33] (by simp only[List.length_append,List.length_cons,List.length_nil]at hlim ⊢;omega);have HLI:=xI hlim;have HB:=xI hb;clear hlim;subst h0;simp only[Nat.zero_mul,Nat.add_zero]at c0 c1 c2 c3 c4 c5 c6 c7 c8;have kk0:0<ents.length:=by omega
     go_wp2_with fail;refine hcA.mono ?_;rintro e w2 ⟨rfl,hb1⟩;clear hcA;have c1':=(hb1.cell (p:=⟨be0,offe+1,none⟩) hber).trans c1;have e5':=(hb1.cell (p:=⟨w.heap.size,5,none⟩) hltr).trans e5;have HB2:=xI (HB.out.trans (hb1.mono HB.out.size));clear hb1 c0 c1 c2 c3 c4 c5 c6 c7 c8 e0 e1 e2 e3 e4 e5 e6;go_wp2
     go_roundw
     case rel=>exact⟨1,by go_num,by omega,by rw[HS.out];simp,HB2.out⟩
     case measure=>simp[intOf];omega
    ·have hp:preL zAc j=[44,32]:=if_neg h0;have kp:(0:Int)<(j:Int):=by omega
     rw[hp]at HS hlim;simp only[List.length_cons,List.length_nil]at hlim;have hA0:=add_b Tryz.prog P [44,32] (by simp only[List.length_cons,List.length_nil];omega);have hA1:=add_b Tryz.prog (P++[44,32]) [40] (by simp only[List.length_append,List.length_cons,List.length_nil];omega);have hA2:=add_b Tryz.prog (P++[44,32,40]) AS (by simp only[List.length_append,List.length_cons,List.length_nil];omega);have hA3:=add_b Tryz.prog (P++44::32::40::AS) [41,32,45,62,32] (by simp only[List.length_append,List.length_cons,List.length_nil];omega);have hA4:=add_b Tryz.prog (P++44::32::40::(AS++[41,32,45,62,32])) [33] (by simp only[List.length_append,List.length_cons,List.length_nil]at hlim ⊢;omega);have HLI:=xI hlim;have HB:=xI hb;clear hlim;go_wp2_with fail;refine hcA.mono ?_;rintro e w2 ⟨rfl,hb1⟩;clear hcA;have c1':=(hb1.cell (p:=⟨be0,offe+j*9+1,none⟩) hber).trans c1;have e5':=(hb1.cell (p:=⟨w.heap.size,5,none⟩) hltr).trans e5;have HB2:=xI (HB.out.trans (hb1.mono HB.out.size));clear hb1 c0 c1 c2 c3 c4 c5 c6 c7 c8 e0 e1 e2 e3 e4 e5 e6;go_wp2
     go_roundw
     case rel=>exact⟨j+1,by go_num,by omega,by rw[HS.out];simp,HB2.out⟩
     case measure=>simp[intOf];omega
   | false=>
    replace HP2:=HP2 rfl;simp only[Bool.false_eq_true,if_false]at HS hlim;generalize showV rs=RS at HP2 HS hlim;by_cases h0:j=0
    ·have hp:preL zAc j=[]:=by rw[h0];rfl
     rw[hp]at HS hlim;simp only[List.length_nil]at hlim;have hA1:=add_b Tryz.prog P [40] (by simp only[List.length_cons,List.length_nil];omega);have hA2:=add_b Tryz.prog (P++[40]) AS (by simp only[List.length_append,List.length_cons,List.length_nil];omega);have hA3:=add_b Tryz.prog (P++40::AS) [41,32,45,62,32] (by simp only[List.length_append,List.length_cons,List.length_nil];omega);have hA4:=add_b Tryz.prog (P++40::(AS++[41,32,45,62,32])) RS (by simp only[List.length_append,List.length_cons,List.length_nil]at hlim ⊢;omega);have HLI:=xI hlim;have HB:=xI hb;clear hlim;subst h0;simp only[Nat.zero_mul,Nat.add_zero]at c0 c1 c2 c3 c4 c5 c6 c7 c8;have kk0:0<ents.length:=by omega
     go_wp2_with fail;refine hcA.mono ?_;rintro e w2 ⟨rfl,hb1⟩;clear hcA;have c1':=(hb1.cell (p:=⟨be0,offe+1,none⟩) hber).trans c1;have c2':=(hb1.cell (p:=⟨be0,offe+2,none⟩) hber).trans c2;have c3':=(hb1.cell (p:=⟨be0,offe+3,none⟩) hber).trans c3;have c4':=(hb1.cell (p:=⟨be0,offe+4,none⟩) hber).trans c4;have c5':=(hb1.cell (p:=⟨be0,offe+5,none⟩) hber).trans c5;have c6':=(hb1.cell (p:=⟨be0,offe+6,none⟩) hber).trans c6;have c7':=(hb1.cell (p:=⟨be0,offe+7,none⟩) hber).trans c7;have c8':=(hb1.cell (p:=⟨be0,offe+8,none⟩) hber).trans c8;have e5':=(hb1.cell (p:=⟨w.heap.size,5,none⟩) hltr).trans e5;have hcs:=HP2.out w2 hb1;have HB2:=xI (HB.out.trans (hb1.mono HB.out.size));clear hb1 c0 c1 c2 c3 c4 c5 c6 c7 c8 e0 e1 e2 e3 e4 e5 e6;go_wp2_with fail;refine hcs.mono ?_;rintro e w3 ⟨rfl,hb2⟩;clear hcs;go_wp2
     go_roundw
     case rel=>exact⟨1,by go_num,by omega,by rw[HS.out];simp,HB2.out.trans (hb2.mono HB2.out.size)⟩
     case measure=>simp[intOf];omega
    ·have hp:preL zAc j=[44,32]:=if_neg h0;have kp:(0:Int)<(j:Int):=by omega
     rw[hp]at HS hlim;simp only[List.length_cons,List.length_nil]at hlim;have hA0:=add_b Tryz.prog P [44,32] (by simp only[List.length_cons,List.length_nil];omega);have hA1:=add_b Tryz.prog (P++[44,32]) [40] (by simp only[List.length_append,List.length_cons,List.length_nil];omega);have hA2:=add_b Tryz.prog (P++[44,32,40]) AS (by simp only[List.length_append,List.length_cons,List.length_nil];omega);have hA3:=add_b Tryz.prog (P++44::32::40::AS) [41,32,45,62,32] (by simp only[List.length_append,List.length_cons,List.length_nil];omega);have hA4:=add_b Tryz.prog (P++44::32::40::(AS++[41,32,45,62,32])) RS (by simp only[List.length_append,List.length_cons,List.length_nil]at hlim ⊢;omega);have HLI:=xI hlim;have HB:=xI hb;clear hlim;go_wp2_with fail;refine hcA.mono ?_;rintro e w2 ⟨rfl,hb1⟩;clear hcA;have c1':=(hb1.cell (p:=⟨be0,offe+j*9+1,none⟩) hber).trans c1;have c2':=(hb1.cell (p:=⟨be0,offe+j*9+2,none⟩) hber).trans c2;have c3':=(hb1.cell (p:=⟨be0,offe+j*9+3,none⟩) hber).trans c3;have c4':=(hb1.cell (p:=⟨be0,offe+j*9+4,none⟩) hber).trans c4;have c5':=(hb1.cell (p:=⟨be0,offe+j*9+5,none⟩) hber).trans c5;have c6':=(hb1.cell (p:=⟨be0,offe+j*9+6,none⟩) hber).trans c6;have c7':=(hb1.cell (p:=⟨be0,offe+j*9+7,none⟩) hber).trans c7;have c8':=(hb1.cell (p:=⟨be0,offe+j*9+8,none⟩) hber).trans c8;have e5':=(hb1.cell (p:=⟨w.heap.size,5,none⟩) hltr).trans e5;have hcs:=HP2.out w2 hb1;have HB2:=xI (HB.out.trans (hb1.mono HB.out.size));clear hb1 c0 c1 c2 c3 c4 c5 c6 c7 c8 e0 e1 e2 e3 e4 e5 e6;go_wp2_with fail;refine hcs.mono ?_;rintro e w3 ⟨rfl,hb2⟩;clear hcs;go_wp2
     go_roundw
     case rel=>exact⟨j+1,by go_num,by omega,by rw[HS.out];simp,HB2.out.trans (hb2.mono HB2.out.size)⟩
     case measure=>simp[intOf];omega
  ·have hke:Z.take j=Z:=List.take_of_length_le (by have:=HZN.out;omega);rw[hke];have hjn':¬ (j:Int)<(ents.length:Int):=by omega
   have hlz:=HZL.out;unfold LIM at hlz;have hA:=add_b Tryz.prog (102::117::110::47::(I++123::sepL zAc Z)) [125] (by simp only[List.length_append,List.length_cons,List.length_nil];omega);have HQ2:Hid (showV (.mk 9 i t kids keys ents labs)=((102::117::110::47::(I++123::sepL zAc Z))++[125])++labsL labs):=xI (by have:=HQ.out;simpa using this);have HLEN:Hid (((102::117::110::47::(I++123::sepL zAc Z))++[125]).length+(labsL labs).length≤LIM):=xI (by have:=HZL.out;simp only[List.length_cons,List.length_append,List.length_nil];omega);have HQ:=HQ2;generalize (102::117::110::47::(I++123::sepL zAc Z))++[125]=Q at hA HQ HLEN;clear HQ2 hke hlz hA01;have hlt1:w.heap.size<wr.heap.size:=Nat.lt_of_lt_of_le hsW1 hb.size;rename World=>w2;have g6:=e6;have HB1:=xI hbw;have hs1:=hlt1;have HJ:=xI hjn;clear hb hbw kwr hlt1 hjn hj;by_cases hl0:labs=[]
   ·subst hl0;go_wp2;go_ret;exact⟨by rw[HQ.out];simp[labsL],HB1.out⟩
   ·have hlp:(0:Int)<(labs.length:Int):=by
     have:0<labs.length:=List.length_pos_iff.2 hl0;omega
    have hle:=HLEN.out;rw[zA1 hl0]at hle;unfold LIM at hle;simp only[List.length_append,List.length_cons,List.length_nil]at hle;have hA0:=add_b Tryz.prog (Q) [64,40] (by simp only[List.length_cons,List.length_nil];omega);have HLE:=xI hle;clear hle;go_wp2_with fail
    go_loopw [3,6] (fun sv iv wr=>∃ j:Nat,iv=.int .i64 j∧j≤labs.length∧sv=.string ⟨((Q)++64::40::sepL [32] (labs.take j)).toArray⟩∧Below w2.heap.size w2 wr) (fun _ i _=>labs.length-(intOf i).toNat)
    case atStart=>exact⟨0,rfl,by omega,by simp[sepL],Below.refl _ _⟩
    case round=>
     obtain⟨j,rfl,hj,rfl,hb⟩:=hrel;have g6':=(hb.cell (p:=⟨w.heap.size,6,none⟩) hs1).trans g6;by_cases hjn:j<labs.length
     ·obtain⟨bl,offl,capl,xl,hul,hbl,⟨x,hx,hxl,_⟩,cl0⟩:=(HLR.out.on (HB1.out.trans (hb.mono HB1.out.size)) (fun _ _ h=>h)).at1 hjn;injection hul with hAl _ hcl;subst hAl hcl;simp only[List.cons.injEq,and_true]at hxl;subst hxl;have kn:(j:Int)<(labs.length:Int):=by omega
      have k0:(0:Int)≤(j:Int):=by omega
      have hst:=zBg (s:=[32]) hx;have hle:=zBm [32] labs j hjn;rw[hst]at hle;simp only[List.length_append]at hle;have hle2:=HLE.out;obtain⟨P,hP0⟩:∃ P,P=(Q)++64::40::sepL [32] (labs.take j):=⟨_,rfl⟩;have hPl:P.length=(Q).length+2+(sepL [32] (labs.take j)).length:=by rw[hP0];simp only[List.length_append,List.length_cons,List.length_nil];omega
      try simp only[List.length_cons,List.length_nil]at hPl
      have HS:Hid ((Q)++64::40::sepL [32] (labs.take (j+1))=P++(preL [32] j++x)):=xI (by rw[hst,hP0];simp);rw[←hP0];have hlim:P.length+(preL [32] j).length+x.length≤4611686018427387904:=by omega
      clear hst hle hle2 hP0 hPl hx;have HB:=xI hb;clear hb;by_cases h0:j=0
      ·subst h0;have hA:=add_b Tryz.prog P x (by omega);have HLI:=xI hlim;clear hlim;simp only[Nat.add_zero]at cl0;go_wp2
       go_roundw
       case rel=>exact⟨1,by go_num,by omega,by rw[HS.out];rfl,HB.out⟩
       case measure=>simp[intOf];omega
      ·have kp:(0:Int)<(j:Int):=by omega
       have hp:preL [32] j=[32]:=if_neg h0;rw[hp]at HS hlim;simp only[List.length_cons,List.length_nil]at hlim;have hA1:=add_b Tryz.prog P [32] (by simp;omega);have hA2:=add_b Tryz.prog (P++[32]) x (by simp;omega);have HLI:=xI hlim;clear hlim hp;go_wp2
       go_roundw
       case rel=>exact⟨j+1,by go_num,by omega,by rw[HS.out];simp,HB.out⟩
       case measure=>simp[intOf];omega
     ·have hke:labs.take j=labs:=List.take_of_length_le (by omega);rw[hke];have hje:(j:Int)=(labs.length:Int):=by omega
      have hjn':¬ (j:Int)<(labs.length:Int):=by omega
      have hA:=add_b Tryz.prog ((Q)++64::40::sepL [32] labs) [41] (by have:=HLE.out;simp;omega);have HB:=xI hb;clear hb hje;go_wp2;go_ret;exact⟨by rw[HQ.out,zA1 hl0];simp,HB1.out.trans (HB.out.mono HB1.out.size)⟩
theorem zLu:∀ k,ShowR k
 | 0=>by intro v cs w h;exact h.elim
 | k+1=>by
  intro v cs w hv hok hlm hT;have hP:=xI (zLu k);obtain⟨kd,i,t,kids,keys,ents,labs⟩:=v;have hk:kindB kd i t kids keys ents=true:=by
   have h2:=hok;simp only[okV,Bool.and_eq_true]at h2;exact h2.1.1.2
  rcases kinds hk with rfl|rfl|rfl|rfl|rfl|rfl|rfl|rfl|rfl
  ·exact show1 k hP i t kids keys ents labs cs w hv hok hlm hT
  ·exact show2 k hP i t kids keys ents labs cs w hv hok hlm hT
  ·exact show3 k hP i t kids keys ents labs cs w hv hok hlm hT
  ·exact show4 k hP i t kids keys ents labs cs w hv hok hlm hT
  ·exact show5 k hP i t kids keys ents labs cs w hv hok hlm hT
  ·exact show6 k hP i t kids keys ents labs cs w hv hok hlm hT
  ·exact show7 k hP i t kids keys ents labs cs w hv hok hlm hT
  ·exact show8 k hP i t kids keys ents labs cs w hv hok hlm hT
  ·exact show9 k hP i t kids keys ents labs cs w hv hok hlm hT
end Go.Proofs.YtcjgaohblaidjaaGreatDoor
