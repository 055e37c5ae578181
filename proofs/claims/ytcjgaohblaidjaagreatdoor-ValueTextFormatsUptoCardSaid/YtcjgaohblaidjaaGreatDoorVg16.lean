/- What isPlain says and what writeList writes, with write as it works on lower trees. -/
import Derived.Test.YtcjgaohblaidjaaGreatDoorVgZ
import Derived.Test.YtcjgaohblaidjaaGreatDoorVg10
import Derived.Test.YtcjgaohblaidjaaGreatDoorVg12
import Derived.Test.YtcjgaohblaidjaaGreatDoorVg14
import Derived.Test.YtcjgaohblaidjaaGreatDoorVg15
import Derived.Deep.LoopGhost
import Derived.Lib.ItoaLen
set_option maxRecDepth 100000
set_option maxHeartbeats 6400000
namespace Go.Proofs.YtcjgaohblaidjaaGreatDoor
open Go Go.RowKit
theorem BufW.set {B b g i:Nat}{l:Bs}{w:World}{cs:Array Value}{T:TypeId}{fz:Nat×Nat}{v:Value}(h:BufW B b l w) (hg:w.heap[g]?=some (.cells cs T fz)) (hT:T≠5) (hgb:g≠b):BufW B b l (w.setCell ⟨g,i,none⟩ v):=by
 obtain⟨⟨hB,v',lr,hb,hown,hne⟩,hBs⟩:=h;refine⟨⟨hB,v',lr,(heap_setCell_other _ _ _ _ (show b≠g from fun e=>hgb e.symm)).trans hb,⟨hown.1,?_⟩,hne⟩,by simpa using hBs⟩;rcases hown.2 with hn|⟨g',cap,cur,hv,hbg,hg',rest⟩
 ·exact .inl hn
 ·refine .inr ⟨g',cap,cur,hv,hbg,(heap_setCell_other _ _ _ _ (show g'≠g from fun e=>?_)).trans hg',rest⟩;rw[e,hg]at hg';injection hg' with hg';injection hg' with _ h2 _;exact hT h2
theorem Wr.set {B b g i:Nat}{w w1:World}{v:Value}(h:Wr B b w w1) (hB:B≤g) (hg:w.heap.size≤g):Wr B b w (w1.setCell ⟨g,i,none⟩ v):=
 ⟨h.1.setCell (p:=⟨g,i,none⟩) hB v,fun k ob hk hne hcs=>(heap_setCell_other _ _ _ _ (show k≠g from fun e=>by have:=(Array.getElem?_eq_some_iff.1 hk).1;omega)).trans (h.2 k ob hk hne hcs)⟩
theorem zLk {H g:Nat}{a w:World}(h:Below H a w) (hg:H≤g) (v0 v1 v2 v3 v4 v5 v6:Value):Below H a ((((((((w.setCell ⟨g,0,none⟩ (v0)).setCell ⟨g,1,none⟩ (v1)).setCell ⟨g,2,none⟩ (v2)).setCell ⟨g,3,none⟩ (v3)).setCell ⟨g,4,none⟩ (v4)).setCell ⟨g,5,none⟩ (v5)).setCell ⟨g,6,none⟩ (v6))):=
 (Below.setCell (Below.setCell (Below.setCell (Below.setCell (Below.setCell (Below.setCell (Below.setCell h (p:=⟨g,0,none⟩) hg _) (p:=⟨g,1,none⟩) hg _) (p:=⟨g,2,none⟩) hg _) (p:=⟨g,3,none⟩) hg _) (p:=⟨g,4,none⟩) hg _) (p:=⟨g,5,none⟩) hg _) (p:=⟨g,6,none⟩) hg _)
theorem zQr {B b g:Nat}{w w1:World}(h:Wr B b w w1) (hB:B≤g) (hg:w.heap.size≤g) (v0 v1 v2 v3 v4 v5 v6:Value):Wr B b w ((((((((w1.setCell ⟨g,0,none⟩ (v0)).setCell ⟨g,1,none⟩ (v1)).setCell ⟨g,2,none⟩ (v2)).setCell ⟨g,3,none⟩ (v3)).setCell ⟨g,4,none⟩ (v4)).setCell ⟨g,5,none⟩ (v5)).setCell ⟨g,6,none⟩ (v6))):=
 (((((((h.set hB hg).set hB hg).set hB hg).set hB hg).set hB hg).set hB hg).set hB hg)
theorem zO1 {B b g:Nat}{l:Bs}{w:World}{z0 z1 z2 z3 z4 z5 z6:Value}{T:TypeId}(h:BufW B b l w) (hk:w.heap[g]?=some (.cells #[z0,z1,z2,z3,z4,z5,z6] T (0,0))) (hT:T≠5) (hgb:g≠b) (v0 v1 v2 v3 v4 v5 v6:Value):BufW B b l ((((((((w.setCell ⟨g,0,none⟩ (v0)).setCell ⟨g,1,none⟩ (v1)).setCell ⟨g,2,none⟩ (v2)).setCell ⟨g,3,none⟩ (v3)).setCell ⟨g,4,none⟩ (v4)).setCell ⟨g,5,none⟩ (v5)).setCell ⟨g,6,none⟩ (v6))):=by
 have k0:=heap_setCell_same w g 0 _ _ v0 hk;have k1:=heap_setCell_same _ g 1 _ _ v1 k0;have k2:=heap_setCell_same _ g 2 _ _ v2 k1;have k3:=heap_setCell_same _ g 3 _ _ v3 k2;have k4:=heap_setCell_same _ g 4 _ _ v4 k3;have k5:=heap_setCell_same _ g 5 _ _ v5 k4;exact ((((((h.set hk hT hgb).set k0 hT hgb).set k1 hT hgb).set k2 hT hgb).set k3 hT hgb).set k4 hT hgb).set k5 hT hgb
theorem zHi (kd q:Int) (i:Int) (s:ByteArray) (A3 A4 A5 A6:Option Addr) (n3 c3 n4 c4 n5 c5 n6 c6:Nat) (w:World) :
  Calls Tryz.prog 73 #[.agg #[.int .i64 kd,.int .i64 i,.string s,.slice A3 n3 c3,.slice A4 n4 c4,.slice A5 n5 c5,.slice A6 n6 c6],.int .i64 q] w fun e w'=>e=.returned (.bool (decide (kd=q)&&decide (n6=0)))∧Below w.heap.size w w':=by
 obtain⟨W,hW⟩:∃ W,W=w.alloc (.cells #[.int .i64 kd,.int .i64 i,.string s,.slice A3 n3 c3,.slice A4 n4 c4,.slice A5 n5 c5,.slice A6 n6 c6] 27):=⟨_,rfl⟩;have hbW:Below w.heap.size w (w.alloc (.cells #[.int .i64 kd,.int .i64 i,.string s,.slice A3 n3 c3,.slice A4 n4 c4,.slice A5 n5 c5,.slice A6 n6 c6] 27)):=bR.alloc lR _;by_cases hk:kd=q
 ·have hkb:(kd==q)=true:=by rw[beq_iff_eq];exact hk
  subst hk;by_cases hn:n6=0
  ·subst hn;go_enter Tryz.func73,Tryz.ntmps73;go_wp2;go_ret;exact⟨by simp,hbW⟩
  ·have hn2:¬ (n6:Int)=0:=by omega
   have hn3:((n6:Int)==0)=false:=by rw[beq_eq_false_iff_ne];exact hn2
   go_enter Tryz.func73,Tryz.ntmps73;go_wp2;go_ret;exact⟨by simp[hn],hbW⟩
 ·have hkb:(kd==q)=false:=by rw[beq_eq_false_iff_ne];exact hk
  go_enter Tryz.func73,Tryz.ntmps73;go_wp2;go_ret;exact⟨by simp[hk],hbW⟩
theorem zIn (k:Nat) (hP:Hid (zCh k)) (B b:Nat) (l:Bs) (v:Vl) (cs:List Value) (w:World) (h:BufW B b l w) (hv:VS (k+1) w B v cs) (hk:zAj v=7) (hok:okV v=true) (hT:TbH B w) (hlim:l.length+(bodyV v).length≤140737488355328) :
  Calls Tryz.prog 31 #[.pointer (some ⟨b,0,none⟩),.agg cs.toArray] w fun e w'=>e=.returned (.tuple #[])∧BufW B b (l++bodyV v) w'∧Wr B b w w':=by
 obtain⟨kind,int,text,kids,keys,ents,labels⟩:=v;have hk7:kind=7:=hk;obtain⟨a,b2,rfl,hoa,hob,hkb⟩:=zGr hok hk7;subst hk7;have eb:bodyV (.mk 7 int text [a,b2] keys ents labels)=91::(showV a++tlV b2):=by
  show 91::consL (shs [a,b2])=_;rw[zBs]
 rw[eb]at hlim ⊢;clear eb;obtain⟨uk,uy,ue,ul,rfl,_,_,_,hkk,hyy,hee,hll⟩:=hv;obtain⟨Ay,cy,rfl,_⟩:=hyy.form;obtain⟨Ae,ce,rfl,_⟩:=hee.form;obtain⟨Al,cl,rfl,_⟩:=hll.form;obtain⟨bk,off,ck,x0,x1,x2,x3,x4,x5,x6,hu,hbk,⟨xa,hxa,hva⟩,c0,c1,c2,c3,c4,c5,c6⟩:=hkk.at7 (j:=0) (by simp);obtain⟨bk',off',ck',z0,z1,z2,z3,z4,z5,z6,hu',hbk',⟨xb,hxb,hvb⟩,d0,d1,d2,d3,d4,d5,d6⟩:=hkk.at7 (j:=1) (by simp);rw[hu]at hu';injection hu' with e1 _ e3;injection e1 with e1;injection e1 with e1 e2;subst e1 e2 e3 hu;have hxa':a=xa:=by simpa using hxa
 have hxb':b2=xb:=by simpa using hxb
 subst hxa' hxb';clear hxa hxb hkk hyy hee hll hok hk;obtain⟨za,zi,zs,zA3,zn3,zc3,zA4,zn4,zc4,zA5,zn5,zc5,zA6,zn6,zc6,he7⟩:=hvb.form7;simp only[List.cons.injEq,and_true]at he7;obtain⟨rfl,rfl,rfl,rfl,rfl,rfl,rfl⟩:=he7;obtain⟨qa,qi,qs,qA3,qn3,qc3,qA4,qn4,qc4,qA5,qn5,qc5,qA6,qn6,qc6,he7⟩:=hva.form7;simp only[List.cons.injEq,and_true]at he7;obtain⟨rfl,rfl,rfl,rfl,rfl,rfl,rfl⟩:=he7;obtain⟨W,hW⟩:∃ W,W=w.alloc (.cells #[.int .i64 7,.int .i64 int,.string ⟨text.toArray⟩,.slice (some ⟨bk,off,none⟩) 2 ck,.slice Ay keys.length cy,.slice Ae ents.length ce,.slice Al labels.length cl] 27):=⟨_,rfl⟩;have kW:W.heap[w.heap.size]?=some (.cells #[.int .i64 7,.int .i64 int,.string ⟨text.toArray⟩,.slice (some ⟨bk,off,none⟩) 2 ck,.slice Ay keys.length cy,.slice Ae ents.length ce,.slice Al labels.length cl] 27 (0,0)):=by rw[hW];exact heap_alloc_new w _
 have hBW:BufW B b l W:=by rw[hW];exact h.alloc _
 have hWW:Wr B b w W:=by rw[hW];exact (Wr.refl _ _ _).alloc h.2 _
 have hne:w.heap.size≠b:=by have:=h.1.lt;omega
 have hBs:=h.2;simp only[Nat.zero_mul,Nat.add_zero,Nat.one_mul,Nat.add_assoc,Nat.reduceAdd]at c0 c1 c2 c3 c4 c5 c6 d0 d1 d2 d3 d4 d5 d6;have hc0:=bufW B b l [91] W hBW (by simp only[List.length_cons,List.length_nil]at hlim ⊢;omega);have HLM:=xI hlim;have HT:=xI hT;have HKB:=xI (aN hkb hob);have HVA:=xI hva;have HVB:=xI hvb;have HWW:=xI hWW;have HKW:=xI kW;clear hlim hT hkb hva hvb hBW hWW kW h hob;go_enter Tryz.func31,Tryz.ntmps31;go_wp2_with fail;rw[←hW];clear hW;refine hc0.mono ?_;rintro e w1 ⟨rfl,h1,hb1⟩;clear hc0;have HW1:=xI (HWW.out.trans hb1);have k1:=hb1.box HKW.out hne;have HK1:=xI k1;have c0_:=(HW1.out.1.cell (p:=⟨bk,off,none⟩) hbk).trans c0;have c1_:=(HW1.out.1.cell (p:=⟨bk,off+1,none⟩) hbk).trans c1;have c2_:=(HW1.out.1.cell (p:=⟨bk,off+2,none⟩) hbk).trans c2;have c3_:=(HW1.out.1.cell (p:=⟨bk,off+3,none⟩) hbk).trans c3;have c4_:=(HW1.out.1.cell (p:=⟨bk,off+4,none⟩) hbk).trans c4;have c5_:=(HW1.out.1.cell (p:=⟨bk,off+5,none⟩) hbk).trans c5;have c6_:=(HW1.out.1.cell (p:=⟨bk,off+6,none⟩) hbk).trans c6;have g3:=cH k1 3;have hc1:=hP.out B b (l++[91]) a _ w1 h1 (VS.on HW1.out.1 HVA.out) hoa (HT.out.below HW1.out.1) (by have:=HLM.out;simp only[List.length_cons,List.length_append,List.length_nil]at this ⊢;omega);clear h1 hb1 k1 c0 c1 c2 c3 c4 c5 c6 HWW hoa HKW;go_wp2_with fail;refine hc1.mono ?_;rintro e w2 ⟨rfl,h2,hb2⟩;clear hc1 g3 c0_ c1_ c2_ c3_ c4_ c5_ c6_;have HW2:=xI (HW1.out.trans hb2);have k2:=hb2.box HK1.out hne;have d0_:=(HW2.out.1.cell (p:=⟨bk,off+7,none⟩) hbk).trans d0;have d1_:=(HW2.out.1.cell (p:=⟨bk,off+8,none⟩) hbk).trans d1;have d2_:=(HW2.out.1.cell (p:=⟨bk,off+9,none⟩) hbk).trans d2;have d3_:=(HW2.out.1.cell (p:=⟨bk,off+10,none⟩) hbk).trans d3;have d4_:=(HW2.out.1.cell (p:=⟨bk,off+11,none⟩) hbk).trans d4;have d5_:=(HW2.out.1.cell (p:=⟨bk,off+12,none⟩) hbk).trans d5;have d6_:=(HW2.out.1.cell (p:=⟨bk,off+13,none⟩) hbk).trans d6;have g3:=cH k2 3;obtain⟨w3,hw3⟩:∃ w3,w3=w2.alloc (.cells #[.int .i64 za,.int .i64 zi,.string zs,.slice zA3 zn3 zc3,.slice zA4 zn4 zc4,.slice zA5 zn5 zc5,.slice zA6 zn6 zc6] 27):=⟨_,rfl⟩;have h3:BufW B b (l++91::showV a) w3:=by rw[hw3,show l++91::showV a=l++[91]++showV a by simp];exact h2.alloc _
 have hW3:Wr B b w w3:=by rw[hw3];exact HW2.out.alloc h2.2 _
 have kb3:w3.heap[w2.heap.size]?=some (.cells #[.int .i64 za,.int .i64 zi,.string zs,.slice zA3 zn3 zc3,.slice zA4 zn4 zc4,.slice zA5 zn5 zc5,.slice zA6 zn6 zc6] 27 (0,0)):=by rw[hw3];exact heap_alloc_new w2 _
 have hgb:w2.heap.size≠b:=by have:=h2.1.lt;omega
 have hgB:B≤w2.heap.size:=h2.2;have hgw:w.heap.size≤w2.heap.size:=HW2.out.1.size;have H3:=xI (aN h3 (aN hW3 kb3));have HVB3:=xI (VS.on hW3.1 HVB.out);clear h2 hb2 k2 d0 d1 d2 d3 d4 d5 d6 h3 hW3 kb3 HW1 HW2 HK1 HVA HVB;go_wp2_with fail;rw[←hw3];clear hw3 g3 d0_ d1_ d2_ d3_ d4_ d5_ d6_
 go_loopg [18] ((tlV b2).length+1) (fun gk _ wr=>∃ (x:Vl) (q:Bs) (ma mi ms mA3 mn3 mc3 mA4 mn4 mc4 mA5 mn5 mc5 mA6 mn6 mc6:_),BufW B b (l++q) wr∧Wr B b w wr∧wr.heap[w2.heap.size]?=some (.cells #[.int .i64 ma,.int .i64 mi,.string ms,.slice mA3 mn3 mc3,.slice mA4 mn4 mc4,.slice mA5 mn5 mc5,.slice mA6 mn6 mc6] 27 (0,0))∧VS k wr B x [.int .i64 ma,.int .i64 mi,.string ms,.slice mA3 mn3 mc3,.slice mA4 mn4 mc4,.slice mA5 mn5 mc5,.slice mA6 mn6 mc6]∧okV x=true∧(zAj x=5∨zAj x=7)∧91::(showV a++tlV b2)=q++tlV x∧(tlV x).length<gk)
 case atStart=>exact⟨b2,91::showV a,_,_,_,_,_,_,_,_,_,_,_,_,_,_,_,H3.out.1,H3.out.2.1,H3.out.2.2,HVB3.out,HKB.out.2,HKB.out.1,rfl,Nat.lt_succ_self _⟩
 case round=>
  obtain⟨x,q,ma,mi,ms,mA3,mn3,mc3,mA4,mn4,mc4,mA5,mn5,mc5,mA6,mn6,mc6,hB,hW0,hk,hx,hox,hkx,hq,hlt⟩:=hrel;obtain⟨k',rfl⟩:∃ k',k=k'+1:=by
   cases k with
   | zero=>exact hx.elim
   | succ k'=>exact⟨k',rfl⟩
  obtain⟨kd,i2,t2,v2,y2,en2,l2⟩:=x;have hx0:=hx;obtain⟨uk2,uy2,ue2,ul2,hcs,_,_,_,hkk2,hyy2,hee2,hll2⟩:=hx;obtain⟨Ak2,ck2,rfl,_⟩:=hkk2.form;obtain⟨Ay2,cy2,rfl,_⟩:=hyy2.form;obtain⟨Ae2,ce2,rfl,_⟩:=hee2.form;obtain⟨Al2,cl2,rfl,hl2m⟩:=hll2.form;simp only[List.cons.injEq,and_true,Value.int.injEq,true_and,Value.string.injEq,Value.slice.injEq]at hcs;obtain⟨rfl,rfl,rfl,⟨rfl,rfl,rfl⟩,⟨rfl,rfl,rfl⟩,⟨rfl,rfl,rfl⟩,⟨rfl,rfl,rfl⟩⟩:=hcs;have hlm:=HLM.out;rw[hq]at hlm;obtain⟨e0,e1,e2,e3,e4,e5,e6⟩:=zAd hk;obtain⟨f0,f1,f2,f3,f4,f5,f6⟩:=zAe hk;have hp1:=zHi ma 7 mi ⟨t2.toArray⟩ mA3 mA4 mA5 mA6 v2.length mc3 y2.length mc4 en2.length mc5 l2.length mc6 wr;have HQ:=xI hq;have HB:=xI hB;have HW0:=xI hW0;have HKX:=xI hk;have HLM2:=xI hlm;by_cases hpl:ma=7∧l2=[]
  ·obtain⟨rfl,rfl⟩:=hpl;obtain⟨a2,b3,rfl,hoa2,hob2,hkb2⟩:=zGr hox rfl;have htl:tlV (.mk 7 mi t2 [a2,b3] y2 en2 [])=zAc++(showV a2++tlV b3):=by rw[zD8,if_pos ⟨rfl,rfl⟩,zBs]
   rw[htl]at hq hlm hlt;simp only[List.length_append,zAc,List.length_cons,List.length_nil]at hlm hlt;obtain⟨bk2,off2,cq2,x0',x1',x2',x3',x4',x5',x6',hu,hbk2,⟨xa,hxa,hva⟩,c0,c1,c2,c3,c4,c5,c6⟩:=hkk2.at7 (j:=0) (by simp);obtain⟨bk3,off3,cq3,z0,z1,z2,z3,z4,z5,z6,hu',hbk3,⟨xb,hxb,hvb⟩,d0,d1,d2,d3,d4,d5,d6⟩:=hkk2.at7 (j:=1) (by simp);rw[hu]at hu';injection hu' with e1' _ e3';injection e1' with e1';injection e1' with e1' e2';subst e1' e2' e3';injection hu with hu1 _ hu3;subst hu1 hu3;have hxa':a2=xa:=by simpa using hxa
   have hxb':b3=xb:=by simpa using hxb
   subst hxa' hxb';obtain⟨sa,si,ss,sA3,sn3,sc3,sA4,sn4,sc4,sA5,sn5,sc5,sA6,sn6,sc6,he7⟩:=hvb.form7;simp only[List.cons.injEq,and_true]at he7;obtain⟨rfl,rfl,rfl,rfl,rfl,rfl,rfl⟩:=he7;obtain⟨ra,ri,rs,rA3,rn3,rc3,rA4,rn4,rc4,rA5,rn5,rc5,rA6,rn6,rc6,he7⟩:=hva.form7;simp only[List.cons.injEq,and_true]at he7;obtain⟨rfl,rfl,rfl,rfl,rfl,rfl,rfl⟩:=he7;simp only[Nat.zero_mul,Nat.add_zero,Nat.one_mul,Nat.add_assoc,Nat.reduceAdd]at c0 c1 c2 c3 c4 c5 c6 d0 d1 d2 d3 d4 d5 d6;have HQ2:=xI hq;have HLT:=xI (aN hlt hlm);have HVX:=xI (aN hva (aN hvb (aN hoa2 (aN hob2 hkb2))));rw[show (decide ((7:Int)=7)&&decide (([]:List Bs).length=0))=true from rfl]at hp1;clear hq hlm hlt hva hvb hx0 hkk2 hyy2 hee2 hll2 htl hk hox hl2m hB hW0 hkx hxa hxb HQ HLM2;go_wp2_with fail;refine hp1.mono ?_;rintro e w4 ⟨rfl,hb4⟩;clear hp1 e0 e1 e2 e3 e4 e5 e6 f0 f1 f2 f3 f4 f5 f6;have h4:BufW B b (l++q) w4:=⟨HB.out.1.old hb4,Nat.le_trans HB.out.2 hb4.size⟩;have k4:=(hb4.block _ (Array.getElem?_eq_some_iff.1 HKX.out).1).trans HKX.out;have HW4:=xI (HW0.out.trans (Wr.of_below (b:=b) hb4 HB.out.2));have hr4:Below B wr w4:=hb4.mono HB.out.2;have hc1:=bufW B b (l++q) [44,32] w4 h4 (by have:=HLT.out.2;simp only[List.length_append,List.length_cons,List.length_nil];omega);have HK4:=xI k4;have HR4:=xI hr4;clear h4 k4 hr4 hb4;go_wp2_with fail;refine hc1.mono ?_;rintro e w5 ⟨rfl,h5,hb5⟩;clear hc1;have k5:=hb5.box HK4.out hgb;have hr5:=HR4.out.trans hb5.1;have HW5:=xI (HW4.out.trans hb5);have c0_:=(hr5.cell (p:=⟨bk2,off2,none⟩) hbk2).trans c0;have c1_:=(hr5.cell (p:=⟨bk2,off2+1,none⟩) hbk2).trans c1;have c2_:=(hr5.cell (p:=⟨bk2,off2+2,none⟩) hbk2).trans c2;have c3_:=(hr5.cell (p:=⟨bk2,off2+3,none⟩) hbk2).trans c3;have c4_:=(hr5.cell (p:=⟨bk2,off2+4,none⟩) hbk2).trans c4;have c5_:=(hr5.cell (p:=⟨bk2,off2+5,none⟩) hbk2).trans c5;have c6_:=(hr5.cell (p:=⟨bk2,off2+6,none⟩) hbk2).trans c6;have g3:=cH k5 3;have hc2:=hP.out B b (l++q++[44,32]) a2 _ w5 h5 (VS.on hr5 (VS.up lR (Nat.le_succ _) HVX.out.1)) HVX.out.2.2.1 (HT.out.below HW5.out.1) (by have:=HLT.out.2;simp only[List.length_append,List.length_cons,List.length_nil];omega);have HR5:=xI hr5;have HK5:=xI k5;clear h5 hb5 k5 hr5 c0 c1 c2 c3 c4 c5 c6;go_wp2_with fail;refine hc2.mono ?_;rintro e w6 ⟨rfl,h6,hb6⟩;clear hc2 g3 c0_ c1_ c2_ c3_ c4_ c5_ c6_;have k6:=hb6.box HK5.out hgb;have hr6:=HR5.out.trans hb6.1;have hW6:=HW5.out.trans hb6;have d0_:=(hr6.cell (p:=⟨bk2,off2+7,none⟩) hbk2).trans d0;have d1_:=(hr6.cell (p:=⟨bk2,off2+8,none⟩) hbk2).trans d1;have d2_:=(hr6.cell (p:=⟨bk2,off2+9,none⟩) hbk2).trans d2;have d3_:=(hr6.cell (p:=⟨bk2,off2+10,none⟩) hbk2).trans d3;have d4_:=(hr6.cell (p:=⟨bk2,off2+11,none⟩) hbk2).trans d4;have d5_:=(hr6.cell (p:=⟨bk2,off2+12,none⟩) hbk2).trans d5;have d6_:=(hr6.cell (p:=⟨bk2,off2+13,none⟩) hbk2).trans d6;obtain⟨e0,e1,e2,e3,e4,e5,e6⟩:=zAd k6;obtain⟨f0,f1,f2,f3,f4,f5,f6⟩:=zAe k6;obtain⟨V,hV⟩:∃ V,V=(((((((w6.setCell ⟨w2.heap.size,0,none⟩ (.int .i64 sa)).setCell ⟨w2.heap.size,1,none⟩ (.int .i64 si)).setCell ⟨w2.heap.size,2,none⟩ (.string ss)).setCell ⟨w2.heap.size,3,none⟩ (.slice sA3 sn3 sc3)).setCell ⟨w2.heap.size,4,none⟩ (.slice sA4 sn4 sc4)).setCell ⟨w2.heap.size,5,none⟩ (.slice sA5 sn5 sc5)).setCell ⟨w2.heap.size,6,none⟩ (.slice sA6 sn6 sc6)):=⟨_,rfl⟩;have hBV:BufW B b (l++(q++zAc++showV a2)) V:=by
    rw[hV,show l++(q++zAc++showV a2)=l++q++[44,32]++showV a2 by simp[zAc]];exact zO1 h6 k6 (by decide) hgb _ _ _ _ _ _ _
   have hWV:Wr B b w V:=by rw[hV];exact zQr hW6 hgB hgw _ _ _ _ _ _ _
   have kV:V.heap[w2.heap.size]?=some (.cells #[.int .i64 sa,.int .i64 si,.string ss,.slice sA3 sn3 sc3,.slice sA4 sn4 sc4,.slice sA5 sn5 sc5,.slice sA6 sn6 sc6] 27 (0,0)):=by rw[hV];exact obj7 k6 (.int .i64 sa) (.int .i64 si) (.string ss) (.slice sA3 sn3 sc3) (.slice sA4 sn4 sc4) (.slice sA5 sn5 sc5) (.slice sA6 sn6 sc6)
   have hrV:Below B wr V:=by rw[hV];exact zLk hr6 hgB _ _ _ _ _ _ _
   have HVV:=xI (VS.on hrV (VS.up lR (Nat.le_succ _) HVX.out.2.1));have HF:=xI (aN hBV (aN hWV kV));have HV:=xI hV;clear h6 hb6 k6 hr6 hW6 d0 d1 d2 d3 d4 d5 d6 hBV hWV kV hrV hV;go_wp2
   go_roundg ((tlV b3).length+1)
   case measure=>have:=HLT.out.1;omega
   case rel=>
    rw[←HV.out];obtain⟨hBV,hWV,kV⟩:=HF.out;exact⟨b3,q++zAc++showV a2,_,_,_,_,_,_,_,_,_,_,_,_,_,_,_,hBV,hWV,kV,HVV.out,HVX.out.2.2.2.1,HVX.out.2.2.2.2,by rw[HQ2.out];simp,Nat.lt_succ_self _⟩
  ·have hpf:(decide (ma=7)&&decide (l2.length=0))=false:=by
    rw[Bool.and_eq_false_iff,decide_eq_false_iff_not,decide_eq_false_iff_not];by_cases h7:ma=7
    ·exact .inr fun e=>hpl ⟨h7,List.length_eq_zero_iff.1 e⟩
    ·exact .inl h7
   rw[hpf]at hp1;have HVX:=xI hx0;have HOX:=xI hox;have HPL:=xI hpl;have HKD:=xI hkx;generalize hn3:v2.length=N3 at *;generalize hn4:y2.length=N4 at *;generalize hn5:en2.length=N5 at *;generalize hn6:l2.length=N6 at *;have HN:=xI hn6;clear hn3 hn4 hn5 hn6 hq hlm hx0 hkk2 hyy2 hee2 hll2 hk hox hl2m hB hW0 hkx hpf hpl;go_wp2_with fail;refine hp1.mono ?_;rintro e w4 ⟨rfl,hb4⟩;clear hp1;have hp2:=zHi ma 5 mi ⟨t2.toArray⟩ mA3 mA4 mA5 mA6 N3 mc3 N4 mc4 N5 mc5 N6 mc6 w4;have h4:BufW B b (l++q) w4:=⟨HB.out.1.old hb4,Nat.le_trans HB.out.2 hb4.size⟩;have k4:=(hb4.block _ (Array.getElem?_eq_some_iff.1 HKX.out).1).trans HKX.out;have HW4:=xI (HW0.out.trans (Wr.of_below (b:=b) hb4 HB.out.2));have hr4:Below B wr w4:=hb4.mono HB.out.2;clear e0 e1 e2 e3 e4 e5 e6 f0 f1 f2 f3 f4 f5 f6;obtain⟨e0,e1,e2,e3,e4,e5,e6⟩:=zAd k4;have HK4:=xI k4;have HR4:=xI hr4;have HB4:=xI h4;clear h4 k4 hr4 hb4;by_cases hp5:ma=5∧N6=0
   ·obtain⟨rfl,rfl⟩:=hp5;have hl2:l2=[]:=List.length_eq_zero_iff.1 HN.out;have htl:tlV (.mk 5 mi t2 v2 y2 en2 l2)=[93]:=by rw[zD8,hl2,if_neg (by simp),if_pos ⟨rfl,rfl⟩]
    have hq:=HQ.out;have hlm:=HLM2.out;rw[htl]at hq hlm;have HQ3:=xI (aN hq hlm);rw[show (decide ((5:Int)=5)&&decide ((0:Nat)=0))=true from rfl]at hp2;clear hq hlm htl;go_wp2_with fail;refine hp2.mono ?_;rintro e w5 ⟨rfl,hb5⟩;clear hp2 e0 e1 e2 e3 e4 e5 e6;have h5:BufW B b (l++q) w5:=⟨HB4.out.1.old hb5,Nat.le_trans HB4.out.2 hb5.size⟩;have HW5:=xI (HW4.out.trans (Wr.of_below (b:=b) hb5 HB4.out.2));have hc1:=bufW B b (l++q) [93] w5 h5 (by have:=HQ3.out.2;simp only[List.length_append,List.length_cons,List.length_nil]at this ⊢;omega);clear h5 hb5;go_wp2_with fail;refine hc1.mono ?_;rintro e w6 ⟨rfl,h6,hb6⟩;clear hc1;go_wp2
    go_end0
    exact⟨rfl,by rw[HQ3.out.1,←List.append_assoc];exact h6,HW5.out.trans hb6⟩
   ·have hpf:(decide (ma=5)&&decide (N6=0))=false:=by
     rw[Bool.and_eq_false_iff,decide_eq_false_iff_not,decide_eq_false_iff_not];by_cases h5:ma=5
     ·exact .inr fun e=>hp5 ⟨h5,e⟩
     ·exact .inl h5
    rw[hpf]at hp2;have htl:tlV (.mk ma mi t2 v2 y2 en2 l2)=[32,124,32]++showV (.mk ma mi t2 v2 y2 en2 l2)++[93]:=by
     refine zNn ?_;show l2≠[];intro e;have hN:=HN.out;rw[e]at hN;rcases HKD.out with h5|h7
     ·exact hp5 ⟨h5,hN.symm⟩
     ·exact HPL.out ⟨h7,e⟩
    have hq:=HQ.out;have hlm:=HLM2.out;rw[htl]at hq hlm;simp only[List.length_append,List.length_cons,List.length_nil]at hlm;have HQ3:=xI (aN hq hlm);clear hq hlm htl hpf hp5;go_wp2_with fail;refine hp2.mono ?_;rintro e w5 ⟨rfl,hb5⟩;clear hp2 e0 e1 e2 e3 e4 e5 e6;have h5:BufW B b (l++q) w5:=⟨HB4.out.1.old hb5,Nat.le_trans HB4.out.2 hb5.size⟩;have HW5:=xI (HW4.out.trans (Wr.of_below (b:=b) hb5 HB4.out.2));have k5:=(hb5.block _ (Array.getElem?_eq_some_iff.1 HK4.out).1).trans HK4.out;have HR5:=xI (HR4.out.trans (hb5.mono HB4.out.2));have hc1:=bufW B b (l++q) [32,124,32] w5 h5 (by have:=HQ3.out.2;simp only[List.length_append,List.length_cons,List.length_nil]at this ⊢;omega);have HK5:=xI k5;clear h5 hb5 k5;go_wp2_with fail;refine hc1.mono ?_;rintro e w6 ⟨rfl,h6,hb6⟩;clear hc1;have k6:=hb6.box HK5.out hgb;have hr6:=HR5.out.trans hb6.1;have HW6:=xI (HW5.out.trans hb6);obtain⟨e0,e1,e2,e3,e4,e5,e6⟩:=zAd k6;have hc2:=hP.out B b (l++q++[32,124,32]) _ _ w6 h6 (VS.on hr6 HVX.out) HOX.out (HT.out.below HW6.out.1) (by have:=HQ3.out.2;simp only[List.length_append,List.length_cons,List.length_nil]at this ⊢;omega);clear h6 hb6 k6 hr6;go_wp2_with fail;refine hc2.mono ?_;rintro e w7 ⟨rfl,h7,hb7⟩;clear hc2 e0 e1 e2 e3 e4 e5 e6;have HW7:=xI (HW6.out.trans hb7);have hc3:=bufW B b _ [93] w7 h7 (by have:=HQ3.out.2;simp only[List.length_append,List.length_cons,List.length_nil]at this ⊢;omega);clear h7 hb7;go_wp2_with fail;refine hc3.mono ?_;rintro e w8 ⟨rfl,h8,hb8⟩;clear hc3;go_wp2
    go_end0
    refine⟨rfl,?_,HW7.out.trans hb8⟩;rw[HQ3.out.1];simpa using h8
theorem zQ6 {w:World}{g:Nat}{e:TypeId}{z0 z1:Value}(h:w.heap[g]?=some (.cells #[z0,z1] e (0,0))):w.cell? ⟨g,0,none⟩=some z0∧w.cell? ⟨g,1,none⟩=some z1:=
 ⟨cH h 0,cH h 1⟩
theorem Wr.boxK {B b g:Nat}{w w':World}{cs:Array Value}(h:Wr B b w w') (hg:w.heap[g]?=some (.cells cs 80 (0,0))) (hb:g≠b):w'.heap[g]?=some (.cells cs 80 (0,0)):=
 h.2 g _ hg (by intro e;injection e with e;exact hb e) (by intro c fz e;injection e with _ e _;exact absurd e (by decide))
theorem zI9 (k:Nat) (hP:Hid (zCh k)) (B b:Nat) (l:Bs) (i:Int) (t:Bs) (kids:List Vl) (keys:List (Int×Bs)) (ents:List En) (labs:List Bs) (cs:List Value) (w:World) (h:BufW B b l w) (hv:VS (k+1) w B (.mk 8 i t kids keys ents labs) cs) (hok:okV (.mk 8 i t kids keys ents labs)=true) (hT:TbH B w) (hlim:l.length+(bodyV (.mk 8 i t kids keys ents labs)).length≤140737488355328) :
  Calls Tryz.prog 32 #[.pointer (some ⟨b,0,none⟩),.agg cs.toArray] w fun e w'=>e=.returned (.tuple #[])∧BufW B b (l++bodyV (.mk 8 i t kids keys ents labs)) w'∧Wr B b w w':=by
 obtain⟨uk,uy,ue,ul,rfl,_,_,_,hkk,hyy,hee,hll⟩:=hv;obtain⟨Ak,ck,rfl,hkl⟩:=hkk.form;obtain⟨Ay,cy,rfl,hyl⟩:=hyy.form;obtain⟨Ae,ce,rfl,hel⟩:=hee.form;obtain⟨Al,cl,rfl,hlbl⟩:=hll.form;unfold maxLen at hkl hyl hel hlbl;simp only[okV,zAn,zAx,Bool.and_eq_true,List.all_eq_true]at hok;have hk2:(∀ x∈keys,keyB x.1 x.2=true)∧keys.length=kids.length:=by
  have h2:(keys.all (fun x=>keyB x.1 x.2)&&decide (AscC cmpK keys)&&decide (keys.length=kids.length))=true:=hok.1.1.2;simp only[Bool.and_eq_true,decide_eq_true_eq,List.all_eq_true]at h2;exact⟨h2.1.1,h2.2⟩
 have hz:bodyV (.mk 8 i t kids keys ents labs)=[37,123]++sepL zAc ((keys.zip kids).map fun x:(Int×Bs)×Vl=>keyL x.1.1 x.1.2++[58,32]++showV x.2)++[125]:=by
  show [37,123]++(sepL zAc (List.zipWith (fun (x:Int×Bs) (z:Bs)=>keyL x.1 x.2++[58,32]++z) keys (kids.map showV))++[125])=_;have hz:=zCb (keys.zip kids);rw[(zCu keys kids hk2.2).1,(zCu keys kids hk2.2).2]at hz;rw[hz,List.append_assoc]
 rw[hz]at hlim ⊢;obtain⟨Z,hZ⟩:∃ Z:List Bs,Z=(keys.zip kids).map fun x:(Int×Bs)×Vl=>keyL x.1.1 x.1.2++[58,32]++showV x.2:=⟨_,rfl⟩;rw[←hZ]at hlim ⊢;have hZn:Z.length=keys.length:=by rw[hZ,List.length_map,List.length_zip];omega
 have HZ:Hid (∀ (j:Nat) (x:Int×Bs) (z:Vl),keys[j]?=some x→kids[j]?=some z→Z[j]?=some (keyL x.1 x.2++[58,32]++showV z)):=xI (by
  intro j x z h1 h2;rw[hZ,List.getElem?_map,List.getElem?_zip_eq_some.2 (show keys[j]?=some (x,z).1∧kids[j]?=some (x,z).2 from⟨h1,h2⟩)];rfl)
 have HKB:=xI hk2.1;have HOKS:Hid (∀ x∈kids,okV x=true):=xI hok.1.2;have HKN:=xI hk2.2;obtain⟨W,hW⟩:∃ W,W=w.alloc (.cells #[.int .i64 8,.int .i64 i,.string ⟨t.toArray⟩,.slice Ak kids.length ck,.slice Ay keys.length cy,.slice Ae ents.length ce,.slice Al labs.length cl] 27):=⟨_,rfl⟩;have kW:W.heap[w.heap.size]?=some (.cells #[.int .i64 8,.int .i64 i,.string ⟨t.toArray⟩,.slice Ak kids.length ck,.slice Ay keys.length cy,.slice Ae ents.length ce,.slice Al labs.length cl] 27 (0,0)):=by rw[hW];exact heap_alloc_new w _
 have hBW:BufW B b l W:=by rw[hW];exact h.alloc _
 have hWW:Wr B b w W:=by rw[hW];exact (Wr.refl _ _ _).alloc h.2 _
 have hne:w.heap.size≠b:=by have:=h.1.lt;omega
 have hBs:=h.2;have hc0:=bufW B b l [37,123] W hBW (by simp only[List.length_append,List.length_cons,List.length_nil]at hlim ⊢;omega);have HLM:=xI hlim;have HT:=xI hT;have HWW:=xI hWW;have HKW:=xI kW;have HKK:=xI hkk;have HYY:=xI hyy;have HZN:=xI hZn;clear hz hk2 hok hlim hZ hZn hT hWW kW hkk hyy hee hll hBW h;go_enter Tryz.func32,Tryz.ntmps32;go_wp2_with fail;rw[←hW];clear hW;refine hc0.mono ?_;rintro e w1 ⟨rfl,h1,hb1⟩;clear hc0;have k1:=hb1.box HKW.out hne;have H1:=xI (aN h1 (aN (HWW.out.trans hb1) k1));have g4:=cH k1 4;clear h1 hb1 k1;go_wp2_with fail;clear g4
 go_loopw [11] (fun iv wr=>∃ j:Nat,iv=.int .i64 j∧j≤keys.length∧BufW B b (l++[37,123]++sepL zAc (Z.take j)) wr∧Wr B b w wr∧wr.heap[w.heap.size]?=some (.cells #[.int .i64 8,.int .i64 i,.string ⟨t.toArray⟩,.slice Ak kids.length ck,.slice Ay keys.length cy,.slice Ae ents.length ce,.slice Al labs.length cl] 27 (0,0))) (fun iv _=>keys.length-(intOf iv).toNat)
 case atStart=>exact⟨0,rfl,by omega,by simpa [sepL] using H1.out.1,H1.out.2.1,H1.out.2.2⟩
 case round=>
  obtain⟨j,rfl,hj,hB,hb,hG⟩:=hrel;by_cases hjn:j<keys.length
  ·obtain⟨by0,offy,cpy,y0,y1,huy,hby,⟨xk,hxk,hyc,_,hxl⟩,cy0,cy1⟩:=(HYY.out.on hb.1 (fun _ _ h=>h)).at2 hjn;injection huy with hAy _ hcy;subst hAy hcy;simp only[List.cons.injEq,and_true]at hyc;obtain⟨rfl,rfl⟩:=hyc;obtain⟨bk,off,cp,x0,x1,x2,x3,x4,x5,x6,hu,hbk,⟨xv,hxv,hvv⟩,d0,d1,d2,d3,d4,d5,d6⟩:=HKK.out.at7 (show j<kids.length by rw[←HKN.out];exact hjn);injection hu with hA _ hcp;subst hA hcp;obtain⟨za,zi,zs,zA3,zn3,zc3,zA4,zn4,zc4,zA5,zn5,zc5,zA6,zn6,zc6,he7⟩:=hvv.form7;simp only[List.cons.injEq,and_true]at he7;obtain⟨rfl,rfl,rfl,rfl,rfl,rfl,rfl⟩:=he7;have kn:(j:Int)<(keys.length:Int):=by omega
   have kn2:(j:Int)<(kids.length:Int):=by rw[←HKN.out];exact kn
   have k0:(0:Int)≤(j:Int):=by omega
   have hzx:=HZ.out j xk xv hxk hxv;have hst:=zDu (s:=zAc) hzx;have hle:=zFi zAc Z j (by rw[HZN.out];exact hjn);rw[hst]at hle;simp only[List.length_append]at hle;have hlm:=HLM.out;have hfl:zCm xk.1 (⟨xk.2.toArray⟩:ByteArray).data.toList=keyL xk.1 xk.2:=by
    show zCm xk.1 xk.2=_;unfold zCm keyL;rw[if_pos (HKB.out xk (List.mem_of_getElem? hxk))]
   have hxs:(⟨xk.2.toArray⟩:ByteArray).size≤maxLen:=hxl;have HXV:=xI hxv;have HVV:=xI hvv;have hlm2:(l++[37,123]++sepL zAc (Z.take j)).length+(preL zAc j).length+(keyL xk.1 xk.2).length+2+(showV xv).length≤140737488355328:=by simp only[List.length_append,List.length_cons,List.length_nil]at hlm ⊢;simp only[List.length_cons,List.length_nil]at hle;omega
   have HS0:Hid (l++[37,123]++sepL zAc (Z.take (j+1))=l++[37,123]++sepL zAc (Z.take j)++preL zAc j++(keyL xk.1 xk.2++[58,32]++showV xv)):=xI (by rw[hst];simp);obtain⟨V,hV⟩:∃ V,V=wr.alloc (.cells #[.int .i64 xk.1,.string ⟨xk.2.toArray⟩] 80):=⟨_,rfl⟩;have kV:V.heap[wr.heap.size]?=some (.cells #[.int .i64 xk.1,.string ⟨xk.2.toArray⟩] 80 (0,0)):=by rw[hV];exact heap_alloc_new wr _
   have hBV:BufW B b (l++[37,123]++sepL zAc (Z.take j)) V:=by rw[hV];exact hB.alloc _
   have hWV:Wr B b w V:=by rw[hV];exact hb.alloc hB.2 _
   have hGV:V.heap[w.heap.size]?=some (.cells #[.int .i64 8,.int .i64 i,.string ⟨t.toArray⟩,.slice (some ⟨bk,off,none⟩) kids.length ck,.slice (some ⟨by0,offy,none⟩) keys.length cy,.slice Ae ents.length ce,.slice Al labs.length cl] 27 (0,0)):=by rw[hV];exact (Below.heap_alloc _ _ _ (Array.getElem?_eq_some_iff.1 hG).1).trans hG
   have hgb:wr.heap.size≠b:=by have:=hB.1.lt;omega
   clear hst hle hlm hxk hxv hvv hzx hb hB hG hxl;generalize l++[37,123]++sepL zAc (Z.take j)=Pq at hBV HS0 hlm2;by_cases h0:j=0
   ·subst h0;have hp:preL zAc 0=[]:=rfl;rw[hp]at HS0 hlm2;simp only[Nat.zero_mul,Nat.add_zero]at cy0 cy1 d0 d1 d2 d3 d4 d5 d6;have HS:Hid (l++[37,123]++sepL zAc (Z.take (0+1))=Pq++keyL xk.1 xk.2++[58,32]++showV xv):=xI (by rw[HS0.out];simp);have HBx:=xI hBV;have HWx:=xI hWV;have HGx:=xI hGV;have HLx:=xI hlm2;clear hBV hWV hGV hlm2 HS0 kV hp;have hfk:=zE4 xk.1 ⟨xk.2.toArray⟩ V hxs;rw[hfl]at hfk;go_wp2_with fail;rw[←hV];clear hV;refine hfk.mono ?_;rintro e w5 ⟨rfl,hb5⟩;clear hfk;have h5:BufW B b (Pq) w5:=⟨HBx.out.1.old hb5,Nat.le_trans HBx.out.2 hb5.size⟩;have HW5:=xI (HWx.out.trans (Wr.of_below (b:=b) hb5 HBx.out.2));have k5:=(hb5.block _ (Array.getElem?_eq_some_iff.1 HGx.out).1).trans HGx.out;have hc1:=bufW B b (Pq) (keyL xk.1 xk.2) w5 h5 (by have:=HLx.out;(try simp at this ⊢);omega)
    have HK5:=xI k5;clear h5 hb5 k5 cy0 cy1;go_wp2_with fail;refine hc1.mono ?_;rintro e w6 ⟨rfl,h6,hb6⟩;clear hc1;have k6:=hb6.box HK5.out hne;have HW6:=xI (HW5.out.trans hb6);have hc2:=bufW B b (Pq++keyL xk.1 xk.2) [58,32] w6 h6 (by have:=HLx.out;simp only[List.length_append,List.length_cons,List.length_nil]at this ⊢;omega);have HK6:=xI k6;clear h6 hb6 k6;go_wp2_with fail;refine hc2.mono ?_;rintro e w7 ⟨rfl,h7,hb7⟩;clear hc2;have k7:=hb7.box HK6.out hne;have HW7:=xI (HW6.out.trans hb7);have d0_:=(HW7.out.1.cell (p:=⟨bk,off,none⟩) hbk).trans d0;have d1_:=(HW7.out.1.cell (p:=⟨bk,off+1,none⟩) hbk).trans d1;have d2_:=(HW7.out.1.cell (p:=⟨bk,off+2,none⟩) hbk).trans d2;have d3_:=(HW7.out.1.cell (p:=⟨bk,off+3,none⟩) hbk).trans d3;have d4_:=(HW7.out.1.cell (p:=⟨bk,off+4,none⟩) hbk).trans d4;have d5_:=(HW7.out.1.cell (p:=⟨bk,off+5,none⟩) hbk).trans d5;have d6_:=(HW7.out.1.cell (p:=⟨bk,off+6,none⟩) hbk).trans d6;have g3:=cH k7 3;have hc3:=hP.out B b (Pq++keyL xk.1 xk.2++[58,32]) xv _ w7 h7 (VS.on HW7.out.1 HVV.out) (HOKS.out xv (List.mem_of_getElem? HXV.out)) (HT.out.below HW7.out.1) (by have:=HLx.out;simp only[List.length_append,List.length_cons,List.length_nil]at this ⊢;omega);have HK7:=xI k7;clear h7 hb7 k7;go_wp2_with fail;refine hc3.mono ?_;rintro e w8 ⟨rfl,h8,hb8⟩;clear hc3 g3 d0_ d1_ d2_ d3_ d4_ d5_ d6_;have HR:=xI (aN h8 (aN (HW7.out.trans hb8) (hb8.box HK7.out hne)));clear h8 hb8 d0 d1 d2 d3 d4 d5 d6;go_wp2
    go_roundw
    case rel=>exact⟨1,by go_num,by omega,by rw[HS.out];simpa using HR.out.1,HR.out.2.1,HR.out.2.2⟩
    case measure=>simp[intOf];omega
   ·have hp:preL zAc j=[44,32]:=if_neg h0;have kp:(0:Int)<(j:Int):=by omega
    rw[hp]at HS0 hlm2;have HS:Hid (l++[37,123]++sepL zAc (Z.take (j+1))=Pq++[44,32]++keyL xk.1 xk.2++[58,32]++showV xv):=xI (by rw[HS0.out];simp);have hc0:=bufW B b Pq [44,32] V hBV (by simp only[List.length_cons,List.length_nil]at hlm2 ⊢;omega);have HWV:=xI hWV;have HGV:=xI hGV;have HKV:=xI kV;have HLx:=xI hlm2;clear hBV hWV hGV hlm2 HS0 kV hp;go_wp2_with fail;rw[←hV];clear hV;refine hc0.mono ?_;rintro e w4 ⟨rfl,h4,hb4⟩;clear hc0 cy0 cy1;have k4:=hb4.boxK HKV.out hgb;obtain⟨y0,y1⟩:=zQ6 k4;have HBx:=xI h4;have HWx:=xI (HWV.out.trans hb4);have HGx:=xI (hb4.box HGV.out hne);clear h4 hb4 k4;have hfk:=zE4 xk.1 ⟨xk.2.toArray⟩ w4 hxs;rw[hfl]at hfk;go_wp2_with fail;refine hfk.mono ?_;rintro e w5 ⟨rfl,hb5⟩;clear hfk;have h5:BufW B b (Pq++[44,32]) w5:=⟨HBx.out.1.old hb5,Nat.le_trans HBx.out.2 hb5.size⟩;have HW5:=xI (HWx.out.trans (Wr.of_below (b:=b) hb5 HBx.out.2));have k5:=(hb5.block _ (Array.getElem?_eq_some_iff.1 HGx.out).1).trans HGx.out;have hc1:=bufW B b (Pq++[44,32]) (keyL xk.1 xk.2) w5 h5 (by have:=HLx.out;(try simp at this ⊢);omega)
    have HK5:=xI k5;clear h5 hb5 k5 y0 y1;go_wp2_with fail;refine hc1.mono ?_;rintro e w6 ⟨rfl,h6,hb6⟩;clear hc1;have k6:=hb6.box HK5.out hne;have HW6:=xI (HW5.out.trans hb6);have hc2:=bufW B b (Pq++[44,32]++keyL xk.1 xk.2) [58,32] w6 h6 (by have:=HLx.out;simp only[List.length_append,List.length_cons,List.length_nil]at this ⊢;omega);have HK6:=xI k6;clear h6 hb6 k6;go_wp2_with fail;refine hc2.mono ?_;rintro e w7 ⟨rfl,h7,hb7⟩;clear hc2;have k7:=hb7.box HK6.out hne;have HW7:=xI (HW6.out.trans hb7);have d0_:=(HW7.out.1.cell (p:=⟨bk,off+j*7,none⟩) hbk).trans d0;have d1_:=(HW7.out.1.cell (p:=⟨bk,off+j*7+1,none⟩) hbk).trans d1;have d2_:=(HW7.out.1.cell (p:=⟨bk,off+j*7+2,none⟩) hbk).trans d2;have d3_:=(HW7.out.1.cell (p:=⟨bk,off+j*7+3,none⟩) hbk).trans d3;have d4_:=(HW7.out.1.cell (p:=⟨bk,off+j*7+4,none⟩) hbk).trans d4;have d5_:=(HW7.out.1.cell (p:=⟨bk,off+j*7+5,none⟩) hbk).trans d5;have d6_:=(HW7.out.1.cell (p:=⟨bk,off+j*7+6,none⟩) hbk).trans d6;have g3:=cH k7 3;have hc3:=hP.out B b (Pq++[44,32]++keyL xk.1 xk.2++[58,32]) xv _ w7 h7 (VS.on HW7.out.1 HVV.out) (HOKS.out xv (List.mem_of_getElem? HXV.out)) (HT.out.below HW7.out.1) (by have:=HLx.out;simp only[List.length_append,List.length_cons,List.length_nil]at this ⊢;omega);have HK7:=xI k7;clear h7 hb7 k7;go_wp2_with fail;refine hc3.mono ?_;rintro e w8 ⟨rfl,h8,hb8⟩;clear hc3 g3 d0_ d1_ d2_ d3_ d4_ d5_ d6_;have HR:=xI (aN h8 (aN (HW7.out.trans hb8) (hb8.box HK7.out hne)));clear h8 hb8 d0 d1 d2 d3 d4 d5 d6;go_wp2
    go_roundw
    case rel=>exact⟨j+1,by go_num,by omega,by rw[HS.out];simpa using HR.out.1,HR.out.2.1,HR.out.2.2⟩
    case measure=>simp[intOf];omega
  ·have hje:Z.take j=Z:=List.take_of_length_le (by rw[HZN.out];omega);rw[hje]at hB;have hjn':¬ (j:Int)<(keys.length:Int):=by omega
   have hc1:=bufW B b _ [125] wr hB (by have:=HLM.out;simp only[List.length_append,List.length_cons,List.length_nil]at this ⊢;omega);have HB:=xI hb;clear hB hje hb hG;go_wp2_with fail;refine hc1.mono ?_;rintro e w1 ⟨rfl,h1,hb1⟩;clear hc1;go_wp2
   go_end0
   exact⟨rfl,by simpa using h1,HB.out.trans hb1⟩
mutual
def tiny:Vl→Prop
 | .mk _ _ _ v y e l=>v.length≤4∧y.length≤2∧e.length≤2∧l.length≤2∧zEo v∧zF0 e
def zEo:List Vl→Prop
 | []=>True
 | a::s=>tiny a∧zEo s
def tinyE:En→Prop
 | .mk a _ r=>a.length≤2∧zEo a∧tiny r
def zF0:List En→Prop
 | []=>True
 | a::s=>tinyE a∧zF0 s
end
theorem zFf:∀ {l:List Vl},zEo l↔∀ x,x∈l→tiny x
 | []=>by simp[zEo]
 | a::s=>by simp[zEo,zFf (l:=s)]
theorem zH3:∀ {l:List En},zF0 l↔∀ x,x∈l→tinyE x
 | []=>by simp[zF0]
 | a::s=>by simp[zF0,zH3 (l:=s)]
theorem zNw (s:Bs) (M:Nat):∀ (l:List Bs),(∀ x∈l,x.length≤M)→(sepL s l).length≤l.length*(M+s.length)
 | [],_=>by simp[sepL]
 | [a],h=>by
  have:=h a (by simp);simp only[sepL,List.length_cons,List.length_nil];omega
 | a::b::r,h=>by
  have h1:=h a (by simp);have h2:=zNw s M (b::r) (fun x hx=>h x (by simp[hx]));have e:(sepL s (a::b::r)).length=a.length+s.length+(sepL s (b::r)).length:=by simp[sepL];omega
  rw[e];simp only[List.length_cons]at h2 ⊢;rw[Nat.add_mul]at h2 ⊢;rw[Nat.add_mul];omega
theorem zEt (s:Bs) (M N:Nat){l:List Bs}(h:∀ x∈l,x.length≤M) (hN:l.length≤N):(sepL s l).length≤N*(M+s.length):=
 Nat.le_trans (zNw s M l h) (Nat.mul_le_mul_right _ hN)
theorem zCq {f t:Int→Bool}{l:Bs}(h:nameB f t l=true):l.length≤16:=by
 unfold nameB at h;simp only[Bool.and_eq_true,decide_eq_true_eq]at h;exact h.1.1.2
theorem zRr (c:UInt8):(qByte c).length≤4:=by
 unfold qByte;split
 ·simp
 ·split<;>simp
theorem zP2 (l:Bs):(l.flatMap qByte).length≤4*l.length:=by
 induction l with
 | nil=>simp
 | cons a r ih=>have:=zRr a;simp only[List.flatMap_cons,List.length_append,List.length_cons];omega
theorem zEw {l:Bs}(h:l.length≤64):(zAq l).length≤258:=by
 have:=zP2 l;simp only[zAq,List.length_cons,List.length_append,List.length_nil];omega
theorem zN5 {k:Int}{t:Bs}(h:keyB k t=true):(keyL k t).length≤258:=by
 rcases zHh h with rfl|rfl
 ·have h1:nameB lowB atomT t=true:=by simpa [keyB,atomB] using h
  have:=zCq h1;show t.length≤258;omega
 ·exact zEw (by simpa [keyB] using h)
theorem zL3 {l:List Bs}(h:∀ x∈l,varB x=true) (hn:l.length≤2):(labsL l).length≤38:=by
 unfold labsL;split
 ·simp
 ·have:=zEt [32] 16 2 (fun x hx=>zCq (h x hx)) hn;simp only[List.length_append,List.length_cons,List.length_nil]at this ⊢;omega
theorem zQh {n:Nat}{v:Vl}(h:Fit n v) (hk:zAj v=5∨zAj v=7):(tlV v).length≤(showV v).length+4:=by
 obtain⟨m,rfl⟩:=h.pos;obtain⟨k,i,t,v,y,e,l⟩:=v;rw[zD8];split
 ·rename_i hx;obtain⟨rfl,rfl⟩:=hx;have e1:showV (.mk 7 i t v y e [])=91::consL (shs v):=by
   rw[zAg];show (91::consL (shs v))++labsL []=_;simp[labsL]
  rw[e1];simp[zAc]
 ·split
  ·simp
  ·simp only[List.length_append,List.length_cons,List.length_nil];omega
def lenB:Nat→Nat
 | 0=>300
 | k+1=>6*lenB k+90
theorem zN2:∀ k,300≤lenB k
 | 0=>Nat.le_refl _
 | k+1=>by have:=zN2 k;unfold lenB;omega
theorem zPk:∀ (k:Nat) (v:Vl),Fit (k+1) v→tiny v→(showV v).length≤lenB k:=by
 intro k
 induction k with
 | zero=>
  intro v hv ht;have hl:=zGq hv;obtain⟨k,i,t,v,y,e,l⟩:=v;have hp:=hv.parts;obtain⟨t1,t2,t3,t4,t5,t6⟩:=ht;have hv0:v=[]:=by
   cases v with
   | nil=>rfl
   | cons a r=>obtain⟨m,hm⟩:=(hp.kids a (by simp)).pos;omega
  have he0:e=[]:=by
   cases e with
   | nil=>rfl
   | cons a r=>
    have:=(hp.ents a (by simp)).dep;obtain⟨a,f,r⟩:=a;obtain⟨k,i,t,v,y,e,l⟩:=r;simp only[depE,dep]at this;omega
  subst hv0 he0;have h1:=zL3 hl t4;have h2:(bodyV (.mk k i t [] y [] l)).length≤260:=by
   rcases kinds hp.kind with rfl|rfl|rfl|rfl|rfl|rfl|rfl|rfl|rfl
   ·have:=Lib.itoa_length_le i hp.lo hp.hi;show (Lib.itoa i).length≤260;omega
   ·have:=zEw (l:=t) (by simpa [kindB] using hp.kind);show (zAq t).length≤260;omega
   ·have:=zCq (show nameB lowB atomT t=true from hp.kind);show t.length≤260;omega
   ·have:=Lib.itoa_length_le i hp.lo hp.hi;show (35::Lib.itoa i).length≤260;simp only[List.length_cons];omega
   ·show 2≤260;omega
   ·show (2:Nat)≤260;omega
   ·exact absurd (show consB []=true from hp.kind) (by decide)
   ·have hk:(y.all (fun x=>keyB x.1 x.2)&&decide (AscC cmpK y)&&decide (y.length=([]:List Vl).length))=true:=hp.kind;simp only[Bool.and_eq_true,decide_eq_true_eq,List.length_nil]at hk;have hy:y=[]:=List.eq_nil_of_length_eq_zero hk.2;subst hy;show (3:Nat)≤260;omega
   ·have:=Lib.itoa_length_le i hp.lo hp.hi;show ([102,117,110,47]++Lib.itoa i++[123]++([]++[125])).length≤260;simp only[List.length_append,List.length_cons,List.length_nil];omega
  rw[zAg,List.length_append];have:(labsL (lbsV (.mk k i t [] y [] l))).length≤38:=h1;show _≤300;omega
 | succ k ih=>
  intro v hv ht;have hl:=zGq hv;obtain⟨kd,i,t,v,y,e,l⟩:=v;have hp:=hv.parts;obtain⟨t1,t2,t3,t4,t5,t6⟩:=ht;rw[zFf]at t5;rw[zH3]at t6;have hB:=zN2 k;have hkid:∀ x∈v.map showV,x.length≤lenB k:=by
   intro x hx;rw[List.mem_map]at hx;obtain⟨u,hu,rfl⟩:=hx;exact ih u (hp.kids u hu) (t5 u hu)
  have h1:=zL3 hl t4;have h2:(bodyV (.mk kd i t v y e l)).length≤6*lenB k+52:=by
   rcases kinds hp.kind with rfl|rfl|rfl|rfl|rfl|rfl|rfl|rfl|rfl
   ·have:=Lib.itoa_length_le i hp.lo hp.hi;show (Lib.itoa i).length≤_;omega
   ·have:=zEw (l:=t) (by simpa [kindB] using hp.kind);show (zAq t).length≤_;omega
   ·have:=zCq (show nameB lowB atomT t=true from hp.kind);show t.length≤_;omega
   ·have:=Lib.itoa_length_le i hp.lo hp.hi;show (35::Lib.itoa i).length≤_;simp only[List.length_cons];omega
   ·show 2≤_;omega
   ·have:=zEt zAc (lenB k) 4 hkid (by simpa using t1);show (123::(sepL zAc (v.map showV)++[125])).length≤_;simp only[List.length_append,List.length_cons,List.length_nil,zAc]at this ⊢;omega
   ·have hc:consB v=true:=hp.kind
    match v,hc,hp.kids,hkid with
    | [a,b],hc,hkids,hkid=>
     have hkb:zAj b=5∨zAj b=7:=by simpa [consB] using hc
     have h3:=hkid (showV a) (by simp);have h4:=hkid (showV b) (by simp);have h5:=zQh (hkids b (by simp)) hkb;show (91::consL (shs [a,b])).length≤_;rw[zBs];simp only[List.length_append,List.length_cons];omega
   ·have hk:(y.all (fun x=>keyB x.1 x.2)&&decide (AscC cmpK y)&&decide (y.length=v.length))=true:=hp.kind;simp only[Bool.and_eq_true,decide_eq_true_eq,List.all_eq_true]at hk;obtain⟨z1,z2⟩:=zCu y v hk.2;have h3:=zEt zAc (260+lenB k) 2 (l:=(y.zip v).map fun x:(Int×Bs)×Vl=>keyL x.1.1 x.1.2++[58,32]++showV x.2) (by
     intro x hx;rw[List.mem_map]at hx;obtain⟨u,hu,rfl⟩:=hx;have m1:=zN5 (hk.1.1 _ (zEc hu).1);have m2:=hkid (showV u.2) (List.mem_map.2 ⟨u.2,(zEc hu).2,rfl⟩);simp only[List.length_append,List.length_cons,List.length_nil];omega) (by
     rw[List.length_map,List.length_zip];omega)
    show ([37,123]++(sepL zAc (List.zipWith (fun (x:Int×Bs) (z:Bs)=>keyL x.1 x.2++[58,32]++z) y (v.map showV))++[125])).length≤_;have hz:=zCb (y.zip v);rw[z1,z2]at hz;rw[hz];simp only[List.length_append,List.length_cons,List.length_nil,zAc]at h3 ⊢;omega
   ·have h3:=Lib.itoa_length_le i hp.lo hp.hi;have h4:=zEt zAc (3*lenB k+10) 2 (l:=e.map showE) (by
     intro x hx;rw[List.mem_map]at hx;obtain⟨u,hu,rfl⟩:=hx;have hf:=hp.ents u hu;have htu:=t6 u hu;obtain⟨a,f,r⟩:=u;obtain⟨h5,h6⟩:=hf.args;obtain⟨s1,s2,s3⟩:=htu;rw[zFf]at s2;have h7:=zEt zAc (lenB k) 2 (l:=a.map showV) (by
      intro x hx;rw[List.mem_map]at hx;obtain⟨u,hu,rfl⟩:=hx;exact ih u (h5 u hu) (s2 u hu)) (by simpa using s1)
     have h8:(if f=true then [33] else showV r).length≤lenB k:=by
      cases f with
      | true=>simp only[if_true,List.length_cons,List.length_nil];omega
      | false=>
       simp only[Bool.false_eq_true,if_false];exact ih r (h6.resolve_left (by decide)) s3
     rw[zCx];simp only[List.length_append,List.length_cons,List.length_nil,zAc]at h7 ⊢;omega) (by simpa using t3)
    show ([102,117,110,47]++Lib.itoa i++[123]++(sepL zAc (e.map showE)++[125])).length≤_;simp only[List.length_append,List.length_cons,List.length_nil,zAc]at h4 ⊢;omega
  rw[zAg,List.length_append];have:(labsL (lbsV (.mk kd i t v y e l))).length≤38:=h1;show _≤6*lenB k+90;omega
theorem zOq {v:Vl}(hv:Fit 4 v) (ht:tiny v):(showV v).length≤68670:=zPk 3 v hv ht
end Go.Proofs.YtcjgaohblaidjaaGreatDoor
