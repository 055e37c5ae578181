/- What show of the document returns: the notation. Condition: the table of powers of ten is laid. -/
import Derived.Test.YtcjgaohblaidjaaGreatDoorVgZ
import Derived.Test.YtcjgaohblaidjaaGreatDoorVg12
set_option maxRecDepth 100000
set_option maxHeartbeats 6400000
set_option linter.all false
namespace Go.Proofs.YtcjgaohblaidjaaGreatDoor
open Go Go.RowKit
theorem zBg {s:Bs}{l:List Bs}{x:Bs}{j:Nat}(h:l[j]?=some x):sepL s (l.take (j+1))=sepL s (l.take j)++preL s j++x:=by
 have hj:=(List.getElem?_eq_some_iff.1 h).1;rw[List.take_add_one,h];simp only[Option.toList_some];rw[zEs,List.length_take,Nat.min_eq_left (by omega)]
theorem zBm (s:Bs) (l:List Bs) (j:Nat) (hj:j<l.length):(sepL s (l.take (j+1))).length≤(sepL s l).length:=by
 induction h:l.length-(j+1) generalizing j with
 | zero=>rw[List.take_of_length_le (by omega)];exact Nat.le_refl _
 | succ n ih=>
  have h1:=ih (j+1) (by omega) (by omega);have h2:=zBg (s:=s) (List.getElem?_eq_getElem (l:=l) (i:=j+1) (by omega));rw[h2]at h1;simp only[List.length_append]at h1;omega
theorem zA1 {l:List Bs}(h:l≠[]):labsL l=64::40::(sepL [32] l++[41]):=by
 unfold labsL;rw[if_neg h];simp
theorem show1 (k:Nat) (hP:Hid (ShowR k)) (i:Int) (t:Bs) (kids:List Vl) (keys:List (Int×Bs)) (ents:List En) (labs:List Bs) (cs:List Value) (w:World) (hv:VS (k+1) w w.heap.size (.mk 1 i t kids keys ents labs) cs) (hok:okV (.mk 1 i t kids keys ents labs)=true) (hlm:(showV (.mk 1 i t kids keys ents labs)).length≤LIM) (hT:Tb w) :
  Calls Tryz.prog 20 #[.agg cs.toArray] w fun e w'=>e=.returned (.string ⟨(showV (.mk 1 i t kids keys ents labs)).toArray⟩)∧Below w.heap.size w w':=by
 have hv0:=hv;obtain⟨uk,uy,ue,ul,rfl,_,hi,_,hkk,hyy,hee,hll⟩:=hv;obtain⟨Ak,ck,rfl,hkl⟩:=hkk.form;obtain⟨Ay,cy,rfl,hyl⟩:=hyy.form;obtain⟨Ae,ce,rfl,hel⟩:=hee.form;obtain⟨Al,cl,rfl,hlbl⟩:=hll.form;unfold maxLen at hkl hyl hel hlbl;obtain⟨W,hW⟩:∃ W,W=w.alloc (.cells #[.int .i64 1,.int .i64 i,.string ⟨t.toArray⟩,.slice Ak kids.length ck,.slice Ay keys.length cy,.slice Ae ents.length ce,.slice Al labs.length cl] 27):=⟨_,rfl⟩;have hbW:Below w.heap.size w W:=by rw[hW];exact bR.alloc lR _
 have kW:W.heap[w.heap.size]?=some (.cells #[.int .i64 1,.int .i64 i,.string ⟨t.toArray⟩,.slice Ak kids.length ck,.slice Ay keys.length cy,.slice Ae ents.length ce,.slice Al labs.length cl] 27 (0,0)):=by rw[hW];exact heap_alloc_new w _
 have hsW:w.heap.size<W.heap.size:=by rw[hW];simp
 have HLR:=xI hll;have hTW:Tb W:=hT.below lR hbW;have hle:(bodyV (.mk 1 i t kids keys ents labs)).length+(labsL labs).length≤LIM:=by rw[zAg,List.length_append]at hlm;exact hlm
 have hsh:showV (.mk 1 i t kids keys ents labs)=bodyV (.mk 1 i t kids keys ents labs)++labsL labs:=zAg _;simp only[okV,zAn,zAx,Bool.and_eq_true,List.all_eq_true]at hok;clear hlm hll hT;have hbd:bodyV (.mk 1 i t kids keys ents labs)=Lib.itoa i:=rfl;rw[hbd]at hle hsh;have hc:=zBw i hi W hTW;clear hbd;generalize Lib.itoa i=Q at hc hle hsh;have HQ:=xI hsh;have HLEN:=xI hle;clear hsh hle hv0 hkk hyy hee hok hTW;go_enter Tryz.func20,Tryz.ntmps20;go_wp2_with fail;rw[←hW];clear hW;refine hc.mono ?_;rintro e w1 ⟨rfl,hb1⟩;clear hc;have g6:=(zAd ((hb1.block _ hsW).trans kW)).2.2.2.2.2.2;have HB1:=xI (hbW.trans (hb1.mono hbW.size));have hs1:=Nat.lt_of_lt_of_le hsW hb1.size;clear hb1 hbW kW hsW;by_cases hl0:labs=[]
 ·subst hl0;go_wp2;go_ret;exact⟨by rw[HQ.out];simp[labsL],HB1.out⟩
 ·have hlp:(0:Int)<(labs.length:Int):=by
   have:0<labs.length:=List.length_pos_iff.2 hl0;omega
  have hle:=HLEN.out;rw[zA1 hl0]at hle;unfold LIM at hle;simp only[List.length_append,List.length_cons,List.length_nil]at hle;have hA0:=add_b Tryz.prog (Q) [64,40] (by simp only[List.length_cons,List.length_nil];omega);have HLE:=xI hle;clear hle;go_wp2_with fail
  go_loopw [3,6] (fun sv iv wr=>∃ j:Nat,iv=.int .i64 j∧j≤labs.length∧sv=.string ⟨((Q)++64::40::sepL [32] (labs.take j)).toArray⟩∧Below w1.heap.size w1 wr) (fun _ i _=>labs.length-(intOf i).toNat)
  case atStart=>exact⟨0,rfl,by omega,by simp[sepL],Below.refl _ _⟩
  case round=>
   obtain⟨j,rfl,hj,rfl,hb⟩:=hrel;have g6':=(hb.cell (p:=⟨w.heap.size,6,none⟩) hs1).trans g6;by_cases hjn:j<labs.length
   ·obtain⟨bl,offl,capl,xl,hul,hbl,⟨x,hx,hxl,_⟩,cl0⟩:=(HLR.out.on (HB1.out.trans (hb.mono HB1.out.size)) (fun _ _ h=>h)).at1 hjn;injection hul with hAl _ hcl;subst hAl hcl;simp only[List.cons.injEq,and_true]at hxl;subst hxl;have kn:(j:Int)<(labs.length:Int):=by omega
    have k0:(0:Int)≤(j:Int):=by omega
    have hst:=zBg (s:=[32]) hx;have hle:=zBm [32] labs j hjn;rw[hst]at hle;simp only[List.length_append]at hle;have hle2:=HLE.out;obtain⟨P,hP0⟩:∃ P,P=(Q)++64::40::sepL [32] (labs.take j):=⟨_,rfl⟩;have hPl:P.length=(Q).length+2+(sepL [32] (labs.take j)).length:=by rw[hP0];simp only[List.length_append,List.length_cons,List.length_nil];omega
    try simp only[List.length_cons,List.length_nil]at hPl
    have HS:Hid ((Q)++64::40::sepL [32] (labs.take (j+1))=P++(preL [32] j++x)):=xI (by rw[hst,hP0];simp);rw[←hP0];have hlim:P.length+(preL [32] j).length+x.length≤4611686018427387904:=by omega
    clear hst hle hle2 hP0 hPl hx;have HB:=xI hb;clear hb;by_cases h0:j=0
    ·subst h0;have hA:=add_b Tryz.prog P x (by omega);have HLI:=xI hlim;clear hlim;simp only[Nat.add_zero]at cl0;go_wp2
     go_roundw
     case rel=>exact⟨1,by go_num,by omega,by rw[HS.out];rfl,HB.out⟩
     case measure=>simp[intOf];omega
    ·have kp:(0:Int)<(j:Int):=by omega
     have hp:preL [32] j=[32]:=if_neg h0;rw[hp]at HS hlim;simp only[List.length_cons,List.length_nil]at hlim;have hA1:=add_b Tryz.prog P [32] (by simp;omega);have hA2:=add_b Tryz.prog (P++[32]) x (by simp;omega);have HLI:=xI hlim;clear hlim hp;go_wp2
     go_roundw
     case rel=>exact⟨j+1,by go_num,by omega,by rw[HS.out];simp,HB.out⟩
     case measure=>simp[intOf];omega
   ·have hke:labs.take j=labs:=List.take_of_length_le (by omega);rw[hke];have hje:(j:Int)=(labs.length:Int):=by omega
    have hjn':¬ (j:Int)<(labs.length:Int):=by omega
    have hA:=add_b Tryz.prog ((Q)++64::40::sepL [32] labs) [41] (by have:=HLE.out;simp;omega);have HB:=xI hb;clear hb hje;go_wp2;go_ret;exact⟨by rw[HQ.out,zA1 hl0];simp,HB1.out.trans (HB.out.mono HB1.out.size)⟩
theorem show2 (k:Nat) (hP:Hid (ShowR k)) (i:Int) (t:Bs) (kids:List Vl) (keys:List (Int×Bs)) (ents:List En) (labs:List Bs) (cs:List Value) (w:World) (hv:VS (k+1) w w.heap.size (.mk 2 i t kids keys ents labs) cs) (hok:okV (.mk 2 i t kids keys ents labs)=true) (hlm:(showV (.mk 2 i t kids keys ents labs)).length≤LIM) (hT:Tb w) :
  Calls Tryz.prog 20 #[.agg cs.toArray] w fun e w'=>e=.returned (.string ⟨(showV (.mk 2 i t kids keys ents labs)).toArray⟩)∧Below w.heap.size w w':=by
 have hv0:=hv;obtain⟨uk,uy,ue,ul,rfl,_,hi,_,hkk,hyy,hee,hll⟩:=hv;obtain⟨Ak,ck,rfl,hkl⟩:=hkk.form;obtain⟨Ay,cy,rfl,hyl⟩:=hyy.form;obtain⟨Ae,ce,rfl,hel⟩:=hee.form;obtain⟨Al,cl,rfl,hlbl⟩:=hll.form;unfold maxLen at hkl hyl hel hlbl;obtain⟨W,hW⟩:∃ W,W=w.alloc (.cells #[.int .i64 2,.int .i64 i,.string ⟨t.toArray⟩,.slice Ak kids.length ck,.slice Ay keys.length cy,.slice Ae ents.length ce,.slice Al labs.length cl] 27):=⟨_,rfl⟩;have hbW:Below w.heap.size w W:=by rw[hW];exact bR.alloc lR _
 have kW:W.heap[w.heap.size]?=some (.cells #[.int .i64 2,.int .i64 i,.string ⟨t.toArray⟩,.slice Ak kids.length ck,.slice Ay keys.length cy,.slice Ae ents.length ce,.slice Al labs.length cl] 27 (0,0)):=by rw[hW];exact heap_alloc_new w _
 have hsW:w.heap.size<W.heap.size:=by rw[hW];simp
 have HLR:=xI hll;have hTW:Tb W:=hT.below lR hbW;have hle:(bodyV (.mk 2 i t kids keys ents labs)).length+(labsL labs).length≤LIM:=by rw[zAg,List.length_append]at hlm;exact hlm
 have hsh:showV (.mk 2 i t kids keys ents labs)=bodyV (.mk 2 i t kids keys ents labs)++labsL labs:=zAg _;simp only[okV,zAn,zAx,Bool.and_eq_true,List.all_eq_true]at hok;clear hlm hll hT;have hbd:bodyV (.mk 2 i t kids keys ents labs)=zAq t:=rfl;rw[hbd]at hle hsh;have ht:t.length≤64:=by
  have h2:=hok.1.1.2;simpa [kindB] using h2
 have hc:=zF2 ⟨t.toArray⟩ W (by show t.length≤35184372088830;omega);rw[show (⟨t.toArray⟩:ByteArray).data.toList=t from rfl]at hc;clear hbd;generalize zAq t=Q at hc hle hsh;have HQ:=xI hsh;have HLEN:=xI hle;clear hsh hle hv0 hkk hyy hee hok hTW;go_enter Tryz.func20,Tryz.ntmps20;go_wp2_with fail;rw[←hW];clear hW;refine hc.mono ?_;rintro e w1 ⟨rfl,hb1⟩;clear hc;have g6:=(zAd ((hb1.block _ hsW).trans kW)).2.2.2.2.2.2;have HB1:=xI (hbW.trans (hb1.mono hbW.size));have hs1:=Nat.lt_of_lt_of_le hsW hb1.size;clear hb1 hbW kW hsW;by_cases hl0:labs=[]
 ·subst hl0;go_wp2;go_ret;exact⟨by rw[HQ.out];simp[labsL],HB1.out⟩
 ·have hlp:(0:Int)<(labs.length:Int):=by
   have:0<labs.length:=List.length_pos_iff.2 hl0;omega
  have hle:=HLEN.out;rw[zA1 hl0]at hle;unfold LIM at hle;simp only[List.length_append,List.length_cons,List.length_nil]at hle;have hA0:=add_b Tryz.prog (Q) [64,40] (by simp only[List.length_cons,List.length_nil];omega);have HLE:=xI hle;clear hle;go_wp2_with fail
  go_loopw [3,6] (fun sv iv wr=>∃ j:Nat,iv=.int .i64 j∧j≤labs.length∧sv=.string ⟨((Q)++64::40::sepL [32] (labs.take j)).toArray⟩∧Below w1.heap.size w1 wr) (fun _ i _=>labs.length-(intOf i).toNat)
  case atStart=>exact⟨0,rfl,by omega,by simp[sepL],Below.refl _ _⟩
  case round=>
   obtain⟨j,rfl,hj,rfl,hb⟩:=hrel;have g6':=(hb.cell (p:=⟨w.heap.size,6,none⟩) hs1).trans g6;by_cases hjn:j<labs.length
   ·obtain⟨bl,offl,capl,xl,hul,hbl,⟨x,hx,hxl,_⟩,cl0⟩:=(HLR.out.on (HB1.out.trans (hb.mono HB1.out.size)) (fun _ _ h=>h)).at1 hjn;injection hul with hAl _ hcl;subst hAl hcl;simp only[List.cons.injEq,and_true]at hxl;subst hxl;have kn:(j:Int)<(labs.length:Int):=by omega
    have k0:(0:Int)≤(j:Int):=by omega
    have hst:=zBg (s:=[32]) hx;have hle:=zBm [32] labs j hjn;rw[hst]at hle;simp only[List.length_append]at hle;have hle2:=HLE.out;obtain⟨P,hP0⟩:∃ P,P=(Q)++64::40::sepL [32] (labs.take j):=⟨_,rfl⟩;have hPl:P.length=(Q).length+2+(sepL [32] (labs.take j)).length:=by rw[hP0];simp only[List.length_append,List.length_cons,List.length_nil];omega
    try simp only[List.length_cons,List.length_nil]at hPl
    have HS:Hid ((Q)++64::40::sepL [32] (labs.take (j+1))=P++(preL [32] j++x)):=xI (by rw[hst,hP0];simp);rw[←hP0];have hlim:P.length+(preL [32] j).length+x.length≤4611686018427387904:=by omega
    clear hst hle hle2 hP0 hPl hx;have HB:=xI hb;clear hb;by_cases h0:j=0
    ·subst h0;have hA:=add_b Tryz.prog P x (by omega);have HLI:=xI hlim;clear hlim;simp only[Nat.add_zero]at cl0;go_wp2
     go_roundw
     case rel=>exact⟨1,by go_num,by omega,by rw[HS.out];rfl,HB.out⟩
     case measure=>simp[intOf];omega
    ·have kp:(0:Int)<(j:Int):=by omega
     have hp:preL [32] j=[32]:=if_neg h0;rw[hp]at HS hlim;simp only[List.length_cons,List.length_nil]at hlim;have hA1:=add_b Tryz.prog P [32] (by simp;omega);have hA2:=add_b Tryz.prog (P++[32]) x (by simp;omega);have HLI:=xI hlim;clear hlim hp;go_wp2
     go_roundw
     case rel=>exact⟨j+1,by go_num,by omega,by rw[HS.out];simp,HB.out⟩
     case measure=>simp[intOf];omega
   ·have hke:labs.take j=labs:=List.take_of_length_le (by omega);rw[hke];have hje:(j:Int)=(labs.length:Int):=by omega
    have hjn':¬ (j:Int)<(labs.length:Int):=by omega
    have hA:=add_b Tryz.prog ((Q)++64::40::sepL [32] labs) [41] (by have:=HLE.out;simp;omega);have HB:=xI hb;clear hb hje;go_wp2;go_ret;exact⟨by rw[HQ.out,zA1 hl0];simp,HB1.out.trans (HB.out.mono HB1.out.size)⟩
theorem show4 (k:Nat) (hP:Hid (ShowR k)) (i:Int) (t:Bs) (kids:List Vl) (keys:List (Int×Bs)) (ents:List En) (labs:List Bs) (cs:List Value) (w:World) (hv:VS (k+1) w w.heap.size (.mk 4 i t kids keys ents labs) cs) (hok:okV (.mk 4 i t kids keys ents labs)=true) (hlm:(showV (.mk 4 i t kids keys ents labs)).length≤LIM) (hT:Tb w) :
  Calls Tryz.prog 20 #[.agg cs.toArray] w fun e w'=>e=.returned (.string ⟨(showV (.mk 4 i t kids keys ents labs)).toArray⟩)∧Below w.heap.size w w':=by
 have hv0:=hv;obtain⟨uk,uy,ue,ul,rfl,_,hi,_,hkk,hyy,hee,hll⟩:=hv;obtain⟨Ak,ck,rfl,hkl⟩:=hkk.form;obtain⟨Ay,cy,rfl,hyl⟩:=hyy.form;obtain⟨Ae,ce,rfl,hel⟩:=hee.form;obtain⟨Al,cl,rfl,hlbl⟩:=hll.form;unfold maxLen at hkl hyl hel hlbl;obtain⟨W,hW⟩:∃ W,W=w.alloc (.cells #[.int .i64 4,.int .i64 i,.string ⟨t.toArray⟩,.slice Ak kids.length ck,.slice Ay keys.length cy,.slice Ae ents.length ce,.slice Al labs.length cl] 27):=⟨_,rfl⟩;have hbW:Below w.heap.size w W:=by rw[hW];exact bR.alloc lR _
 have kW:W.heap[w.heap.size]?=some (.cells #[.int .i64 4,.int .i64 i,.string ⟨t.toArray⟩,.slice Ak kids.length ck,.slice Ay keys.length cy,.slice Ae ents.length ce,.slice Al labs.length cl] 27 (0,0)):=by rw[hW];exact heap_alloc_new w _
 have hsW:w.heap.size<W.heap.size:=by rw[hW];simp
 have HLR:=xI hll;have hTW:Tb W:=hT.below lR hbW;have hle:(bodyV (.mk 4 i t kids keys ents labs)).length+(labsL labs).length≤LIM:=by rw[zAg,List.length_append]at hlm;exact hlm
 have hsh:showV (.mk 4 i t kids keys ents labs)=bodyV (.mk 4 i t kids keys ents labs)++labsL labs:=zAg _;simp only[okV,zAn,zAx,Bool.and_eq_true,List.all_eq_true]at hok;clear hlm hll hT;have hbd:bodyV (.mk 4 i t kids keys ents labs)=35::Lib.itoa i:=rfl;rw[hbd]at hle hsh;have hc:=zBw i hi W hTW;have hA00:=add_b Tryz.prog [35] (Lib.itoa i) (by unfold LIM at hle;simp only[List.length_cons,List.length_nil]at hle ⊢;omega);clear hbd;rw[show 35::Lib.itoa i=[35]++Lib.itoa i from rfl]at hle hsh;generalize [35]++Lib.itoa i=Q at hA00 hle hsh;have HQ:=xI hsh;have HLEN:=xI hle;clear hsh hle hv0 hkk hyy hee hok hTW;go_enter Tryz.func20,Tryz.ntmps20;go_wp2_with fail;rw[←hW];clear hW;refine hc.mono ?_;rintro e w1 ⟨rfl,hb1⟩;clear hc;have g6:=(zAd ((hb1.block _ hsW).trans kW)).2.2.2.2.2.2;have HB1:=xI (hbW.trans (hb1.mono hbW.size));have hs1:=Nat.lt_of_lt_of_le hsW hb1.size;clear hb1 hbW kW hsW;by_cases hl0:labs=[]
 ·subst hl0;go_wp2;go_ret;exact⟨by rw[HQ.out];simp[labsL],HB1.out⟩
 ·have hlp:(0:Int)<(labs.length:Int):=by
   have:0<labs.length:=List.length_pos_iff.2 hl0;omega
  have hle:=HLEN.out;rw[zA1 hl0]at hle;unfold LIM at hle;simp only[List.length_append,List.length_cons,List.length_nil]at hle;have hA0:=add_b Tryz.prog (Q) [64,40] (by simp only[List.length_cons,List.length_nil];omega);have HLE:=xI hle;clear hle;go_wp2_with fail
  go_loopw [3,6] (fun sv iv wr=>∃ j:Nat,iv=.int .i64 j∧j≤labs.length∧sv=.string ⟨((Q)++64::40::sepL [32] (labs.take j)).toArray⟩∧Below w1.heap.size w1 wr) (fun _ i _=>labs.length-(intOf i).toNat)
  case atStart=>exact⟨0,rfl,by omega,by simp[sepL],Below.refl _ _⟩
  case round=>
   obtain⟨j,rfl,hj,rfl,hb⟩:=hrel;have g6':=(hb.cell (p:=⟨w.heap.size,6,none⟩) hs1).trans g6;by_cases hjn:j<labs.length
   ·obtain⟨bl,offl,capl,xl,hul,hbl,⟨x,hx,hxl,_⟩,cl0⟩:=(HLR.out.on (HB1.out.trans (hb.mono HB1.out.size)) (fun _ _ h=>h)).at1 hjn;injection hul with hAl _ hcl;subst hAl hcl;simp only[List.cons.injEq,and_true]at hxl;subst hxl;have kn:(j:Int)<(labs.length:Int):=by omega
    have k0:(0:Int)≤(j:Int):=by omega
    have hst:=zBg (s:=[32]) hx;have hle:=zBm [32] labs j hjn;rw[hst]at hle;simp only[List.length_append]at hle;have hle2:=HLE.out;obtain⟨P,hP0⟩:∃ P,P=(Q)++64::40::sepL [32] (labs.take j):=⟨_,rfl⟩;have hPl:P.length=(Q).length+2+(sepL [32] (labs.take j)).length:=by rw[hP0];simp only[List.length_append,List.length_cons,List.length_nil];omega
    try simp only[List.length_cons,List.length_nil]at hPl
    have HS:Hid ((Q)++64::40::sepL [32] (labs.take (j+1))=P++(preL [32] j++x)):=xI (by rw[hst,hP0];simp);rw[←hP0];have hlim:P.length+(preL [32] j).length+x.length≤4611686018427387904:=by omega
    clear hst hle hle2 hP0 hPl hx;have HB:=xI hb;clear hb;by_cases h0:j=0
    ·subst h0;have hA:=add_b Tryz.prog P x (by omega);have HLI:=xI hlim;clear hlim;simp only[Nat.add_zero]at cl0;go_wp2
     go_roundw
     case rel=>exact⟨1,by go_num,by omega,by rw[HS.out];rfl,HB.out⟩
     case measure=>simp[intOf];omega
    ·have kp:(0:Int)<(j:Int):=by omega
     have hp:preL [32] j=[32]:=if_neg h0;rw[hp]at HS hlim;simp only[List.length_cons,List.length_nil]at hlim;have hA1:=add_b Tryz.prog P [32] (by simp;omega);have hA2:=add_b Tryz.prog (P++[32]) x (by simp;omega);have HLI:=xI hlim;clear hlim hp;go_wp2
     go_roundw
     case rel=>exact⟨j+1,by go_num,by omega,by rw[HS.out];simp,HB.out⟩
     case measure=>simp[intOf];omega
   ·have hke:labs.take j=labs:=List.take_of_length_le (by omega);rw[hke];have hje:(j:Int)=(labs.length:Int):=by omega
    have hjn':¬ (j:Int)<(labs.length:Int):=by omega
    have hA:=add_b Tryz.prog ((Q)++64::40::sepL [32] labs) [41] (by have:=HLE.out;simp;omega);have HB:=xI hb;clear hb hje;go_wp2;go_ret;exact⟨by rw[HQ.out,zA1 hl0];simp,HB1.out.trans (HB.out.mono HB1.out.size)⟩
theorem show3 (k:Nat) (hP:Hid (ShowR k)) (i:Int) (t:Bs) (kids:List Vl) (keys:List (Int×Bs)) (ents:List En) (labs:List Bs) (cs:List Value) (w:World) (hv:VS (k+1) w w.heap.size (.mk 3 i t kids keys ents labs) cs) (hok:okV (.mk 3 i t kids keys ents labs)=true) (hlm:(showV (.mk 3 i t kids keys ents labs)).length≤LIM) (hT:Tb w) :
  Calls Tryz.prog 20 #[.agg cs.toArray] w fun e w'=>e=.returned (.string ⟨(showV (.mk 3 i t kids keys ents labs)).toArray⟩)∧Below w.heap.size w w':=by
 have hv0:=hv;obtain⟨uk,uy,ue,ul,rfl,_,hi,_,hkk,hyy,hee,hll⟩:=hv;obtain⟨Ak,ck,rfl,hkl⟩:=hkk.form;obtain⟨Ay,cy,rfl,hyl⟩:=hyy.form;obtain⟨Ae,ce,rfl,hel⟩:=hee.form;obtain⟨Al,cl,rfl,hlbl⟩:=hll.form;unfold maxLen at hkl hyl hel hlbl;obtain⟨W,hW⟩:∃ W,W=w.alloc (.cells #[.int .i64 3,.int .i64 i,.string ⟨t.toArray⟩,.slice Ak kids.length ck,.slice Ay keys.length cy,.slice Ae ents.length ce,.slice Al labs.length cl] 27):=⟨_,rfl⟩;have hbW:Below w.heap.size w W:=by rw[hW];exact bR.alloc lR _
 have kW:W.heap[w.heap.size]?=some (.cells #[.int .i64 3,.int .i64 i,.string ⟨t.toArray⟩,.slice Ak kids.length ck,.slice Ay keys.length cy,.slice Ae ents.length ce,.slice Al labs.length cl] 27 (0,0)):=by rw[hW];exact heap_alloc_new w _
 have hsW:w.heap.size<W.heap.size:=by rw[hW];simp
 have HLR:=xI hll;have hTW:Tb W:=hT.below lR hbW;have hle:(bodyV (.mk 3 i t kids keys ents labs)).length+(labsL labs).length≤LIM:=by rw[zAg,List.length_append]at hlm;exact hlm
 have hsh:showV (.mk 3 i t kids keys ents labs)=bodyV (.mk 3 i t kids keys ents labs)++labsL labs:=zAg _;simp only[okV,zAn,zAx,Bool.and_eq_true,List.all_eq_true]at hok;clear hlm hll hT;have hbd:bodyV (.mk 3 i t kids keys ents labs)=t:=rfl;rw[hbd]at hle hsh;clear hbd;have HQ:=xI hsh;have HLEN:=xI hle;subst hW;have g6:=(zAd kW).2.2.2.2.2.2;have HB1:=xI hbW;have hs1:=hsW;clear hsh hle hv0 hkk hyy hee hok hTW hbW kW hsW;go_enter Tryz.func20,Tryz.ntmps20;by_cases hl0:labs=[]
 ·subst hl0;go_wp2;go_ret;exact⟨by rw[HQ.out];simp[labsL],HB1.out⟩
 ·have hlp:(0:Int)<(labs.length:Int):=by
   have:0<labs.length:=List.length_pos_iff.2 hl0;omega
  have hle:=HLEN.out;rw[zA1 hl0]at hle;unfold LIM at hle;simp only[List.length_append,List.length_cons,List.length_nil]at hle;have hA0:=add_b Tryz.prog (t) [64,40] (by simp only[List.length_cons,List.length_nil];omega);have HLE:=xI hle;clear hle;go_wp2_with fail
  go_loopw [3,6] (fun sv iv wr=>∃ j:Nat,iv=.int .i64 j∧j≤labs.length∧sv=.string ⟨((t)++64::40::sepL [32] (labs.take j)).toArray⟩∧Below (w.alloc (.cells #[.int .i64 3,.int .i64 i,.string ⟨t.toArray⟩,.slice Ak kids.length ck,.slice Ay keys.length cy,.slice Ae ents.length ce,.slice Al labs.length cl] 27)).heap.size (w.alloc (.cells #[.int .i64 3,.int .i64 i,.string ⟨t.toArray⟩,.slice Ak kids.length ck,.slice Ay keys.length cy,.slice Ae ents.length ce,.slice Al labs.length cl] 27)) wr) (fun _ i _=>labs.length-(intOf i).toNat)
  case atStart=>exact⟨0,rfl,by omega,by simp[sepL],Below.refl _ _⟩
  case round=>
   obtain⟨j,rfl,hj,rfl,hb⟩:=hrel;have g6':=(hb.cell (p:=⟨w.heap.size,6,none⟩) hs1).trans g6;by_cases hjn:j<labs.length
   ·obtain⟨bl,offl,capl,xl,hul,hbl,⟨x,hx,hxl,_⟩,cl0⟩:=(HLR.out.on (HB1.out.trans (hb.mono HB1.out.size)) (fun _ _ h=>h)).at1 hjn;injection hul with hAl _ hcl;subst hAl hcl;simp only[List.cons.injEq,and_true]at hxl;subst hxl;have kn:(j:Int)<(labs.length:Int):=by omega
    have k0:(0:Int)≤(j:Int):=by omega
    have hst:=zBg (s:=[32]) hx;have hle:=zBm [32] labs j hjn;rw[hst]at hle;simp only[List.length_append]at hle;have hle2:=HLE.out;obtain⟨P,hP0⟩:∃ P,P=(t)++64::40::sepL [32] (labs.take j):=⟨_,rfl⟩;have hPl:P.length=(t).length+2+(sepL [32] (labs.take j)).length:=by rw[hP0];simp only[List.length_append,List.length_cons,List.length_nil];omega
    try simp only[List.length_cons,List.length_nil]at hPl
    have HS:Hid ((t)++64::40::sepL [32] (labs.take (j+1))=P++(preL [32] j++x)):=xI (by rw[hst,hP0];simp);rw[←hP0];have hlim:P.length+(preL [32] j).length+x.length≤4611686018427387904:=by omega
    clear hst hle hle2 hP0 hPl hx;have HB:=xI hb;clear hb;by_cases h0:j=0
    ·subst h0;have hA:=add_b Tryz.prog P x (by omega);have HLI:=xI hlim;clear hlim;simp only[Nat.add_zero]at cl0;go_wp2
     go_roundw
     case rel=>exact⟨1,by go_num,by omega,by rw[HS.out];rfl,HB.out⟩
     case measure=>simp[intOf];omega
    ·have kp:(0:Int)<(j:Int):=by omega
     have hp:preL [32] j=[32]:=if_neg h0;rw[hp]at HS hlim;simp only[List.length_cons,List.length_nil]at hlim;have hA1:=add_b Tryz.prog P [32] (by simp;omega);have hA2:=add_b Tryz.prog (P++[32]) x (by simp;omega);have HLI:=xI hlim;clear hlim hp;go_wp2
     go_roundw
     case rel=>exact⟨j+1,by go_num,by omega,by rw[HS.out];simp,HB.out⟩
     case measure=>simp[intOf];omega
   ·have hke:labs.take j=labs:=List.take_of_length_le (by omega);rw[hke];have hje:(j:Int)=(labs.length:Int):=by omega
    have hjn':¬ (j:Int)<(labs.length:Int):=by omega
    have hA:=add_b Tryz.prog ((t)++64::40::sepL [32] labs) [41] (by have:=HLE.out;simp;omega);have HB:=xI hb;clear hb hje;go_wp2;go_ret;exact⟨by rw[HQ.out,zA1 hl0];simp,HB1.out.trans (HB.out.mono HB1.out.size)⟩
theorem show5 (k:Nat) (hP:Hid (ShowR k)) (i:Int) (t:Bs) (kids:List Vl) (keys:List (Int×Bs)) (ents:List En) (labs:List Bs) (cs:List Value) (w:World) (hv:VS (k+1) w w.heap.size (.mk 5 i t kids keys ents labs) cs) (hok:okV (.mk 5 i t kids keys ents labs)=true) (hlm:(showV (.mk 5 i t kids keys ents labs)).length≤LIM) (hT:Tb w) :
  Calls Tryz.prog 20 #[.agg cs.toArray] w fun e w'=>e=.returned (.string ⟨(showV (.mk 5 i t kids keys ents labs)).toArray⟩)∧Below w.heap.size w w':=by
 have hv0:=hv;obtain⟨uk,uy,ue,ul,rfl,_,hi,_,hkk,hyy,hee,hll⟩:=hv;obtain⟨Ak,ck,rfl,hkl⟩:=hkk.form;obtain⟨Ay,cy,rfl,hyl⟩:=hyy.form;obtain⟨Ae,ce,rfl,hel⟩:=hee.form;obtain⟨Al,cl,rfl,hlbl⟩:=hll.form;unfold maxLen at hkl hyl hel hlbl;obtain⟨W,hW⟩:∃ W,W=w.alloc (.cells #[.int .i64 5,.int .i64 i,.string ⟨t.toArray⟩,.slice Ak kids.length ck,.slice Ay keys.length cy,.slice Ae ents.length ce,.slice Al labs.length cl] 27):=⟨_,rfl⟩;have hbW:Below w.heap.size w W:=by rw[hW];exact bR.alloc lR _
 have kW:W.heap[w.heap.size]?=some (.cells #[.int .i64 5,.int .i64 i,.string ⟨t.toArray⟩,.slice Ak kids.length ck,.slice Ay keys.length cy,.slice Ae ents.length ce,.slice Al labs.length cl] 27 (0,0)):=by rw[hW];exact heap_alloc_new w _
 have hsW:w.heap.size<W.heap.size:=by rw[hW];simp
 have HLR:=xI hll;have hTW:Tb W:=hT.below lR hbW;have hle:(bodyV (.mk 5 i t kids keys ents labs)).length+(labsL labs).length≤LIM:=by rw[zAg,List.length_append]at hlm;exact hlm
 have hsh:showV (.mk 5 i t kids keys ents labs)=bodyV (.mk 5 i t kids keys ents labs)++labsL labs:=zAg _;simp only[okV,zAn,zAx,Bool.and_eq_true,List.all_eq_true]at hok;clear hlm hll hT;have hbd:bodyV (.mk 5 i t kids keys ents labs)=[91,93]:=rfl;rw[hbd]at hle hsh;clear hbd;have HQ:=xI hsh;have HLEN:=xI hle;subst hW;have g6:=(zAd kW).2.2.2.2.2.2;have HB1:=xI hbW;have hs1:=hsW;clear hsh hle hv0 hkk hyy hee hok hTW hbW kW hsW;go_enter Tryz.func20,Tryz.ntmps20;by_cases hl0:labs=[]
 ·subst hl0;go_wp2;go_ret;exact⟨by rw[HQ.out];simp[labsL],HB1.out⟩
 ·have hlp:(0:Int)<(labs.length:Int):=by
   have:0<labs.length:=List.length_pos_iff.2 hl0;omega
  have hle:=HLEN.out;rw[zA1 hl0]at hle;unfold LIM at hle;simp only[List.length_append,List.length_cons,List.length_nil]at hle;have hA0:=add_b Tryz.prog ([91,93]) [64,40] (by simp only[List.length_cons,List.length_nil];omega);have HLE:=xI hle;clear hle;go_wp2_with fail
  go_loopw [3,6] (fun sv iv wr=>∃ j:Nat,iv=.int .i64 j∧j≤labs.length∧sv=.string ⟨(91::93::64::40::sepL [32] (labs.take j)).toArray⟩∧Below (w.alloc (.cells #[.int .i64 5,.int .i64 i,.string ⟨t.toArray⟩,.slice Ak kids.length ck,.slice Ay keys.length cy,.slice Ae ents.length ce,.slice Al labs.length cl] 27)).heap.size (w.alloc (.cells #[.int .i64 5,.int .i64 i,.string ⟨t.toArray⟩,.slice Ak kids.length ck,.slice Ay keys.length cy,.slice Ae ents.length ce,.slice Al labs.length cl] 27)) wr) (fun _ i _=>labs.length-(intOf i).toNat)
  case atStart=>exact⟨0,rfl,by omega,by simp[sepL],Below.refl _ _⟩
  case round=>
   obtain⟨j,rfl,hj,rfl,hb⟩:=hrel;have g6':=(hb.cell (p:=⟨w.heap.size,6,none⟩) hs1).trans g6;by_cases hjn:j<labs.length
   ·obtain⟨bl,offl,capl,xl,hul,hbl,⟨x,hx,hxl,_⟩,cl0⟩:=(HLR.out.on (HB1.out.trans (hb.mono HB1.out.size)) (fun _ _ h=>h)).at1 hjn;injection hul with hAl _ hcl;subst hAl hcl;simp only[List.cons.injEq,and_true]at hxl;subst hxl;have kn:(j:Int)<(labs.length:Int):=by omega
    have k0:(0:Int)≤(j:Int):=by omega
    have hst:=zBg (s:=[32]) hx;have hle:=zBm [32] labs j hjn;rw[hst]at hle;simp only[List.length_append]at hle;have hle2:=HLE.out;obtain⟨P,hP0⟩:∃ P,P=91::93::64::40::sepL [32] (labs.take j):=⟨_,rfl⟩;have hPl:P.length=([91,93]).length+2+(sepL [32] (labs.take j)).length:=by rw[hP0];simp only[List.length_append,List.length_cons,List.length_nil];omega
    try simp only[List.length_cons,List.length_nil]at hPl
    have HS:Hid (91::93::64::40::sepL [32] (labs.take (j+1))=P++(preL [32] j++x)):=xI (by rw[hst,hP0];simp);rw[←hP0];have hlim:P.length+(preL [32] j).length+x.length≤4611686018427387904:=by omega
    clear hst hle hle2 hP0 hPl hx;have HB:=xI hb;clear hb;by_cases h0:j=0
    ·subst h0;have hA:=add_b Tryz.prog P x (by omega);have HLI:=xI hlim;clear hlim;simp only[Nat.add_zero]at cl0;go_wp2
     go_roundw
     case rel=>exact⟨1,by go_num,by omega,by rw[HS.out];rfl,HB.out⟩
     case measure=>simp[intOf];omega
    ·have kp:(0:Int)<(j:Int):=by omega
     have hp:preL [32] j=[32]:=if_neg h0;rw[hp]at HS hlim;simp only[List.length_cons,List.length_nil]at hlim;have hA1:=add_b Tryz.prog P [32] (by simp;omega);have hA2:=add_b Tryz.prog (P++[32]) x (by simp;omega);have HLI:=xI hlim;clear hlim hp;go_wp2
     go_roundw
     case rel=>exact⟨j+1,by go_num,by omega,by rw[HS.out];simp,HB.out⟩
     case measure=>simp[intOf];omega
   ·have hke:labs.take j=labs:=List.take_of_length_le (by omega);rw[hke];have hje:(j:Int)=(labs.length:Int):=by omega
    have hjn':¬ (j:Int)<(labs.length:Int):=by omega
    have hA:=add_b Tryz.prog (91::93::64::40::sepL [32] labs) [41] (by have:=HLE.out;simp;omega);have HB:=xI hb;clear hb hje;go_wp2;go_ret;exact⟨by rw[HQ.out,zA1 hl0];simp,HB1.out.trans (HB.out.mono HB1.out.size)⟩
theorem show6 (k:Nat) (hP:Hid (ShowR k)) (i:Int) (t:Bs) (kids:List Vl) (keys:List (Int×Bs)) (ents:List En) (labs:List Bs) (cs:List Value) (w:World) (hv:VS (k+1) w w.heap.size (.mk 6 i t kids keys ents labs) cs) (hok:okV (.mk 6 i t kids keys ents labs)=true) (hlm:(showV (.mk 6 i t kids keys ents labs)).length≤LIM) (hT:Tb w) :
  Calls Tryz.prog 20 #[.agg cs.toArray] w fun e w'=>e=.returned (.string ⟨(showV (.mk 6 i t kids keys ents labs)).toArray⟩)∧Below w.heap.size w w':=by
 have hv0:=hv;obtain⟨uk,uy,ue,ul,rfl,_,hi,_,hkk,hyy,hee,hll⟩:=hv;obtain⟨Ak,ck,rfl,hkl⟩:=hkk.form;obtain⟨Ay,cy,rfl,hyl⟩:=hyy.form;obtain⟨Ae,ce,rfl,hel⟩:=hee.form;obtain⟨Al,cl,rfl,hlbl⟩:=hll.form;unfold maxLen at hkl hyl hel hlbl;obtain⟨W,hW⟩:∃ W,W=w.alloc (.cells #[.int .i64 6,.int .i64 i,.string ⟨t.toArray⟩,.slice Ak kids.length ck,.slice Ay keys.length cy,.slice Ae ents.length ce,.slice Al labs.length cl] 27):=⟨_,rfl⟩;have hbW:Below w.heap.size w W:=by rw[hW];exact bR.alloc lR _
 have kW:W.heap[w.heap.size]?=some (.cells #[.int .i64 6,.int .i64 i,.string ⟨t.toArray⟩,.slice Ak kids.length ck,.slice Ay keys.length cy,.slice Ae ents.length ce,.slice Al labs.length cl] 27 (0,0)):=by rw[hW];exact heap_alloc_new w _
 have hsW:w.heap.size<W.heap.size:=by rw[hW];simp
 have HLR:=xI hll;have hTW:Tb W:=hT.below lR hbW;have hle:(bodyV (.mk 6 i t kids keys ents labs)).length+(labsL labs).length≤LIM:=by rw[zAg,List.length_append]at hlm;exact hlm
 have hsh:showV (.mk 6 i t kids keys ents labs)=bodyV (.mk 6 i t kids keys ents labs)++labsL labs:=zAg _;simp only[okV,zAn,zAx,Bool.and_eq_true,List.all_eq_true]at hok;clear hlm hll hT;have hbd:bodyV (.mk 6 i t kids keys ents labs)=123::(sepL zAc (kids.map showV)++[125]):=rfl;rw[hbd]at hle hsh;have hlk:(sepL zAc (kids.map showV)).length≤LIM:=by simp only[List.length_cons,List.length_append,List.length_nil]at hle;omega
 have hc:=zJk k hP Ak ck kids W ((hkk.on hbW fun _ _ ⟨x,h1,h2⟩=>⟨x,h1,VS.up hbW.size lR (VS.on hbW h2)⟩).mono hbW.size fun _ _ h=>h) hok.1.2 hlk hTW;generalize sepL zAc (kids.map showV)=S at hlk hc hle hsh;unfold LIM at hlk;have hA00:=add_b Tryz.prog [123] S (by simp;omega);have hA01:=add_b Tryz.prog (123::S) [125] (by simp;omega);clear hbd hlk;rw[show 123::(S++[125])=123::S++[125]from rfl]at hle hsh;generalize 123::S++[125]=Q at hA01 hle hsh;have HQ:=xI hsh;have HLEN:=xI hle;clear hsh hle hv0 hkk hyy hee hok hTW;go_enter Tryz.func20,Tryz.ntmps20;go_wp2_with fail;rw[←hW];clear hW;refine hc.mono ?_;rintro e w1 ⟨rfl,hb1⟩;clear hc;have g6:=(zAd ((hb1.block _ hsW).trans kW)).2.2.2.2.2.2;have HB1:=xI (hbW.trans (hb1.mono hbW.size));have hs1:=Nat.lt_of_lt_of_le hsW hb1.size;clear hb1 hbW kW hsW;by_cases hl0:labs=[]
 ·subst hl0;go_wp2;go_ret;exact⟨by rw[HQ.out];simp[labsL],HB1.out⟩
 ·have hlp:(0:Int)<(labs.length:Int):=by
   have:0<labs.length:=List.length_pos_iff.2 hl0;omega
  have hle:=HLEN.out;rw[zA1 hl0]at hle;unfold LIM at hle;simp only[List.length_append,List.length_cons,List.length_nil]at hle;have hA0:=add_b Tryz.prog (Q) [64,40] (by simp only[List.length_cons,List.length_nil];omega);have HLE:=xI hle;clear hle;go_wp2_with fail
  go_loopw [3,6] (fun sv iv wr=>∃ j:Nat,iv=.int .i64 j∧j≤labs.length∧sv=.string ⟨((Q)++64::40::sepL [32] (labs.take j)).toArray⟩∧Below w1.heap.size w1 wr) (fun _ i _=>labs.length-(intOf i).toNat)
  case atStart=>exact⟨0,rfl,by omega,by simp[sepL],Below.refl _ _⟩
  case round=>
   obtain⟨j,rfl,hj,rfl,hb⟩:=hrel;have g6':=(hb.cell (p:=⟨w.heap.size,6,none⟩) hs1).trans g6;by_cases hjn:j<labs.length
   ·obtain⟨bl,offl,capl,xl,hul,hbl,⟨x,hx,hxl,_⟩,cl0⟩:=(HLR.out.on (HB1.out.trans (hb.mono HB1.out.size)) (fun _ _ h=>h)).at1 hjn;injection hul with hAl _ hcl;subst hAl hcl;simp only[List.cons.injEq,and_true]at hxl;subst hxl;have kn:(j:Int)<(labs.length:Int):=by omega
    have k0:(0:Int)≤(j:Int):=by omega
    have hst:=zBg (s:=[32]) hx;have hle:=zBm [32] labs j hjn;rw[hst]at hle;simp only[List.length_append]at hle;have hle2:=HLE.out;obtain⟨P,hP0⟩:∃ P,P=(Q)++64::40::sepL [32] (labs.take j):=⟨_,rfl⟩;have hPl:P.length=(Q).length+2+(sepL [32] (labs.take j)).length:=by rw[hP0];simp only[List.length_append,List.length_cons,List.length_nil];omega
    try simp only[List.length_cons,List.length_nil]at hPl
    have HS:Hid ((Q)++64::40::sepL [32] (labs.take (j+1))=P++(preL [32] j++x)):=xI (by rw[hst,hP0];simp);rw[←hP0];have hlim:P.length+(preL [32] j).length+x.length≤4611686018427387904:=by omega
    clear hst hle hle2 hP0 hPl hx;have HB:=xI hb;clear hb;by_cases h0:j=0
    ·subst h0;have hA:=add_b Tryz.prog P x (by omega);have HLI:=xI hlim;clear hlim;simp only[Nat.add_zero]at cl0;go_wp2
     go_roundw
     case rel=>exact⟨1,by go_num,by omega,by rw[HS.out];rfl,HB.out⟩
     case measure=>simp[intOf];omega
    ·have kp:(0:Int)<(j:Int):=by omega
     have hp:preL [32] j=[32]:=if_neg h0;rw[hp]at HS hlim;simp only[List.length_cons,List.length_nil]at hlim;have hA1:=add_b Tryz.prog P [32] (by simp;omega);have hA2:=add_b Tryz.prog (P++[32]) x (by simp;omega);have HLI:=xI hlim;clear hlim hp;go_wp2
     go_roundw
     case rel=>exact⟨j+1,by go_num,by omega,by rw[HS.out];simp,HB.out⟩
     case measure=>simp[intOf];omega
   ·have hke:labs.take j=labs:=List.take_of_length_le (by omega);rw[hke];have hje:(j:Int)=(labs.length:Int):=by omega
    have hjn':¬ (j:Int)<(labs.length:Int):=by omega
    have hA:=add_b Tryz.prog ((Q)++64::40::sepL [32] labs) [41] (by have:=HLE.out;simp;omega);have HB:=xI hb;clear hb hje;go_wp2;go_ret;exact⟨by rw[HQ.out,zA1 hl0];simp,HB1.out.trans (HB.out.mono HB1.out.size)⟩
theorem show7 (k:Nat) (hP:Hid (ShowR k)) (i:Int) (t:Bs) (kids:List Vl) (keys:List (Int×Bs)) (ents:List En) (labs:List Bs) (cs:List Value) (w:World) (hv:VS (k+1) w w.heap.size (.mk 7 i t kids keys ents labs) cs) (hok:okV (.mk 7 i t kids keys ents labs)=true) (hlm:(showV (.mk 7 i t kids keys ents labs)).length≤LIM) (hT:Tb w) :
  Calls Tryz.prog 20 #[.agg cs.toArray] w fun e w'=>e=.returned (.string ⟨(showV (.mk 7 i t kids keys ents labs)).toArray⟩)∧Below w.heap.size w w':=by
 have hv0:=hv;obtain⟨uk,uy,ue,ul,rfl,_,hi,_,hkk,hyy,hee,hll⟩:=hv;obtain⟨Ak,ck,rfl,hkl⟩:=hkk.form;obtain⟨Ay,cy,rfl,hyl⟩:=hyy.form;obtain⟨Ae,ce,rfl,hel⟩:=hee.form;obtain⟨Al,cl,rfl,hlbl⟩:=hll.form;unfold maxLen at hkl hyl hel hlbl;obtain⟨W,hW⟩:∃ W,W=w.alloc (.cells #[.int .i64 7,.int .i64 i,.string ⟨t.toArray⟩,.slice Ak kids.length ck,.slice Ay keys.length cy,.slice Ae ents.length ce,.slice Al labs.length cl] 27):=⟨_,rfl⟩;have hbW:Below w.heap.size w W:=by rw[hW];exact bR.alloc lR _
 have kW:W.heap[w.heap.size]?=some (.cells #[.int .i64 7,.int .i64 i,.string ⟨t.toArray⟩,.slice Ak kids.length ck,.slice Ay keys.length cy,.slice Ae ents.length ce,.slice Al labs.length cl] 27 (0,0)):=by rw[hW];exact heap_alloc_new w _
 have hsW:w.heap.size<W.heap.size:=by rw[hW];simp
 have HLR:=xI hll;have hTW:Tb W:=hT.below lR hbW;have hle:(bodyV (.mk 7 i t kids keys ents labs)).length+(labsL labs).length≤LIM:=by rw[zAg,List.length_append]at hlm;exact hlm
 have hsh:showV (.mk 7 i t kids keys ents labs)=bodyV (.mk 7 i t kids keys ents labs)++labsL labs:=zAg _;have HOKV:=xI hok;simp only[okV,zAn,zAx,Bool.and_eq_true,List.all_eq_true]at hok;clear hlm hll hT;have hbd:bodyV (.mk 7 i t kids keys ents labs)=bodyV (.mk 7 i t kids keys ents labs):=rfl;rw[hbd]at hle hsh;have hc:=zO0 k hP _ _ W (VS.up hbW.size lR (VS.on hbW hv0)) rfl HOKV.out (Nat.le_trans (Nat.le_add_right _ _) hle) hTW;clear hbd;generalize bodyV (.mk 7 i t kids keys ents labs)=Q at hc hle hsh;have HQ:=xI hsh;have HLEN:=xI hle;clear hsh hle hv0 hkk hyy hee hok hTW;go_enter Tryz.func20,Tryz.ntmps20;go_wp2_with fail;rw[←hW];clear hW;refine hc.mono ?_;rintro e w1 ⟨rfl,hb1⟩;clear hc;have g6:=(zAd ((hb1.block _ hsW).trans kW)).2.2.2.2.2.2;have HB1:=xI (hbW.trans (hb1.mono hbW.size));have hs1:=Nat.lt_of_lt_of_le hsW hb1.size;clear hb1 hbW kW hsW;by_cases hl0:labs=[]
 ·subst hl0;go_wp2;go_ret;exact⟨by rw[HQ.out];simp[labsL],HB1.out⟩
 ·have hlp:(0:Int)<(labs.length:Int):=by
   have:0<labs.length:=List.length_pos_iff.2 hl0;omega
  have hle:=HLEN.out;rw[zA1 hl0]at hle;unfold LIM at hle;simp only[List.length_append,List.length_cons,List.length_nil]at hle;have hA0:=add_b Tryz.prog (Q) [64,40] (by simp only[List.length_cons,List.length_nil];omega);have HLE:=xI hle;clear hle;go_wp2_with fail
  go_loopw [3,6] (fun sv iv wr=>∃ j:Nat,iv=.int .i64 j∧j≤labs.length∧sv=.string ⟨((Q)++64::40::sepL [32] (labs.take j)).toArray⟩∧Below w1.heap.size w1 wr) (fun _ i _=>labs.length-(intOf i).toNat)
  case atStart=>exact⟨0,rfl,by omega,by simp[sepL],Below.refl _ _⟩
  case round=>
   obtain⟨j,rfl,hj,rfl,hb⟩:=hrel;have g6':=(hb.cell (p:=⟨w.heap.size,6,none⟩) hs1).trans g6;by_cases hjn:j<labs.length
   ·obtain⟨bl,offl,capl,xl,hul,hbl,⟨x,hx,hxl,_⟩,cl0⟩:=(HLR.out.on (HB1.out.trans (hb.mono HB1.out.size)) (fun _ _ h=>h)).at1 hjn;injection hul with hAl _ hcl;subst hAl hcl;simp only[List.cons.injEq,and_true]at hxl;subst hxl;have kn:(j:Int)<(labs.length:Int):=by omega
    have k0:(0:Int)≤(j:Int):=by omega
    have hst:=zBg (s:=[32]) hx;have hle:=zBm [32] labs j hjn;rw[hst]at hle;simp only[List.length_append]at hle;have hle2:=HLE.out;obtain⟨P,hP0⟩:∃ P,P=(Q)++64::40::sepL [32] (labs.take j):=⟨_,rfl⟩;have hPl:P.length=(Q).length+2+(sepL [32] (labs.take j)).length:=by rw[hP0];simp only[List.length_append,List.length_cons,List.length_nil];omega
    try simp only[List.length_cons,List.length_nil]at hPl
    have HS:Hid ((Q)++64::40::sepL [32] (labs.take (j+1))=P++(preL [32] j++x)):=xI (by rw[hst,hP0];simp);rw[←hP0];have hlim:P.length+(preL [32] j).length+x.length≤4611686018427387904:=by omega
    clear hst hle hle2 hP0 hPl hx;have HB:=xI hb;clear hb;by_cases h0:j=0
    ·subst h0;have hA:=add_b Tryz.prog P x (by omega);have HLI:=xI hlim;clear hlim;simp only[Nat.add_zero]at cl0;go_wp2
     go_roundw
     case rel=>exact⟨1,by go_num,by omega,by rw[HS.out];rfl,HB.out⟩
     case measure=>simp[intOf];omega
    ·have kp:(0:Int)<(j:Int):=by omega
     have hp:preL [32] j=[32]:=if_neg h0;rw[hp]at HS hlim;simp only[List.length_cons,List.length_nil]at hlim;have hA1:=add_b Tryz.prog P [32] (by simp;omega);have hA2:=add_b Tryz.prog (P++[32]) x (by simp;omega);have HLI:=xI hlim;clear hlim hp;go_wp2
     go_roundw
     case rel=>exact⟨j+1,by go_num,by omega,by rw[HS.out];simp,HB.out⟩
     case measure=>simp[intOf];omega
   ·have hke:labs.take j=labs:=List.take_of_length_le (by omega);rw[hke];have hje:(j:Int)=(labs.length:Int):=by omega
    have hjn':¬ (j:Int)<(labs.length:Int):=by omega
    have hA:=add_b Tryz.prog ((Q)++64::40::sepL [32] labs) [41] (by have:=HLE.out;simp;omega);have HB:=xI hb;clear hb hje;go_wp2;go_ret;exact⟨by rw[HQ.out,zA1 hl0];simp,HB1.out.trans (HB.out.mono HB1.out.size)⟩
end Go.Proofs.YtcjgaohblaidjaaGreatDoor
