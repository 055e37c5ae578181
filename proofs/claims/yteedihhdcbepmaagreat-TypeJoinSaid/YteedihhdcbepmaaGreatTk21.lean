/- Member of the document: variables. -/
import Derived.Test.YteedihhdcbepmaaGreatTk14
import Derived.Test.YteedihhdcbepmaaGreatTk20
import Derived.Shelf.Spec.SlicesGrow
set_option maxRecDepth 100000
set_option maxHeartbeats 25600000
open Go.Value renaming slice→vS,int→vI,string→vT
open Go.IntKind renaming i64→i6
open Go.Proofs.Tryz renaming prog→tP
namespace Go.Proofs.YteedihhdcbepmaaGreat
open Go Go.RowKit
theorem zRi {w:World}{H n c:Nat}{l:List (List UInt8)}{A:Option Addr}{j:Nat}{x:List UInt8}(h:RowP w H 1 (vS A n c) l.length (fun j cs=>∃ x,l[j]?=some x/\cs=[vT ⟨x.toArray⟩]/\x.length<=maxLen)) (hx:l[j]?=some x):∃ b off,A=some (aD b off)/\b<H/\w.cell? (aD b (off+j))=some (vT ⟨x.toArray⟩):=by
 have hj:=(List.getElem?_eq_some_iff.1 hx).1;obtain⟨A',cap,h1,_,h3⟩:=h;injection h1 with h1 _ _;obtain⟨b,off,h4,h5,_,h7⟩:=h3 (by omega);obtain⟨cs,h8,h9,y,hy,rfl,_⟩:=h7 j hj;rw[hx]at hy;injection hy with hy;subst hy;have:=h9 0 (by omega);simp only[Nat.mul_one,Nat.add_zero]at this;exact⟨b,off,h1.trans h4,h5,this⟩
theorem zO1 (ns:List Tn) (root:Int) (A:Option Addr) (c:Nat) (hw:Wf ns) (k:Nat) (K lo hi:Int) (tn:List UInt8) (ks:List Int) (fds:List Fd) (r0 r1:Int) (hx:ns[k]?=some ⟨K,lo,hi,tn,ks,fds,r0,r1⟩) (hK:K=19)
  (q:Nat) (kd it:Int) (tx:List UInt8) (kids:List Vl) (keys:List (Int×List UInt8)) (ents:List En) (labs:List (List UInt8)) (Av Ay Ae Ab:Option Addr) (cv cy ce cb:Nat) (w:World) (hT:TyAt w ns root A c) (hv:VS (q+1) w w.heap.size (.mk kd it tx kids keys ents labs) [vI i6 kd,vI i6 it,vT ⟨tx.toArray⟩,vS Av kids.length cv,vS Ay keys.length cy,vS Ae ents.length ce,vS Ab labs.length cb]) (hok:okV (.mk kd it tx kids keys ents labs)=true) (hI:Hid (∀ v' k',k'<ns.length->fu ns v' k'<fu ns (.mk kd it tx kids keys ents labs) k->MemC ns root A c v' k')) :
  Calls tP 83 #[.agg #[vI i6 kd,vI i6 it,vT ⟨tx.toArray⟩,vS Av kids.length cv,vS Ay keys.length cy,vS Ae ents.length ce,vS Ab labs.length cb],.agg #[vS A ns.length c,vI i6 root],vI i6 k] w fun e w'=>e=.returned (.bool (memB ns (.mk kd it tx kids keys ents labs) k))/\bW w w':=by
 have r:=(List.getElem?_eq_some_iff.1 hx).1;have g:RowP w w.heap.size 8 (vS A ns.length c) ns.length (tnR w (fun b=>b<w.heap.size) ns):=by
  obtain⟨u,hu,_,h⟩:=hT;injection hu with hu _;rw[hu];exact h
 obtain⟨bn,on,N,Ak,ck,Af,cf,hu,d,B,j,D,d0,d1,d2,d3,d4,d5,d6,d7⟩:=TyB.at8 g hx;injection hu with hA hmm hcc;clear hmm;subst hA hcc;have V:=xI (aN B (aN j D));clear g B j D;have HM:=xI (zBp hw hx (.mk kd it tx kids keys ents labs));have t:=xI (aN hw hx);generalize memB ns (.mk kd it tx kids keys ents labs) k=res at *;obtain⟨W,hW⟩:∃ W,W=(((w.alloc (oV kd it ⟨tx.toArray⟩ Av kids.length cv Ay keys.length cy Ae ents.length ce Ab labs.length cb)).alloc (oE (some (aD bn on)) ns.length c root)).alloc (oX K lo hi ⟨tn.toArray⟩ Ak ks.length ck Af fds.length cf r0 r1)):=⟨_,rfl⟩;have m:bW w W:=by rw[hW];exact ((yR.alloc lR _).alloc (by simp) _).alloc (by simp;omega) _
 have a:bW w ((w.alloc (oV kd it ⟨tx.toArray⟩ Av kids.length cv Ay keys.length cy Ae ents.length ce Ab labs.length cb)).alloc (oE (some (aD bn on)) ns.length c root)):=(yR.alloc lR _).alloc (by simp) _;have kv:W.heap[w.heap.size]?=some (oV kd it ⟨tx.toArray⟩ Av kids.length cv Ay keys.length cy Ae ents.length ce Ab labs.length cb):=by rw[hW,Below.heap_alloc _ _ _ (by simp;omega),Below.heap_alloc _ _ _ (by simp)];exact heap_alloc_new w _
 have kt:W.heap[w.heap.size+1]?=some (oE (some (aD bn on)) ns.length c root):=by rw[hW,Below.heap_alloc _ _ _ (by simp)];exact zAg _ (by simp)
 have kn:W.heap[w.heap.size+1+1]?=some (oX K lo hi ⟨tn.toArray⟩ Ak ks.length ck Af fds.length cf r0 r1):=by rw[hW];exact zAg _ (by simp)
 have J:W.heap.size=w.heap.size+3:=by rw[hW];simp
 have HT:Hid (∀ wq,bW W wq->TyAt wq ns root (some (aD bn on)) c/\bW w wq/\(jV wq w.heap.size kd it ⟨tx.toArray⟩ Av kids.length cv Ay keys.length cy Ae ents.length ce Ab labs.length cb)/\(jT wq (w.heap.size+1) (some (aD bn on)) ns.length c root)/\(jN wq (w.heap.size+1+1) K lo hi ⟨tn.toArray⟩ Ak ks.length ck Af fds.length cf r0 r1)):=xI fun U hU=>by
  have hb:=m.trans (hU.mono (by omega));exact⟨hT.on hb,hb,zAc ((hU.block _ (by omega)).trans kv),zAf ((hU.block _ (by omega)).trans kt),zAe ((hU.block _ (by omega)).trans kn)⟩
 replace d0:=(a.cell (p:=(aD bn (on+k*8))) d).trans d0;replace d1:=(a.cell (p:=(aD bn (on+k*8+1))) d).trans d1;replace d2:=(a.cell (p:=(aD bn (on+k*8+2))) d).trans d2;replace d3:=(a.cell (p:=(aD bn (on+k*8+3))) d).trans d3;replace d4:=(a.cell (p:=(aD bn (on+k*8+4))) d).trans d4;replace d5:=(a.cell (p:=(aD bn (on+k*8+5))) d).trans d5;replace d6:=(a.cell (p:=(aD bn (on+k*8+6))) d).trans d6;replace d7:=(a.cell (p:=(aD bn (on+k*8+7))) d).trans d7;have hE:=(HT.out W yR).2.2;have u1:(0:Int)<=(k:Int):=by omega
 have u2:(k:Int)<(ns.length:Int):=by omega
 have HV:=xI hv;clear a m kv kt kn J hx hw r hT hv;rw[hW]at hE;obtain⟨⟨v0,v1,v2,v3,v4,v5,v6⟩,⟨t0,t1⟩,⟨n0,n1,n2,n3,n4,n5,n6,n7⟩⟩:=hE;have y:=t.out.1.edg _ (List.mem_of_getElem? t.out.2);have L:=t.out.1.node _ (List.mem_of_getElem? t.out.2);have f:zAj labs=true/\kindB kd it tx kids keys ents=true/\okVs kids=true/\okEs ents=true:=by
  have h:=hok;unfold okV at h;simp only[Bool.and_eq_true]at h;exact⟨h.1.1.1.1,h.1.1.2,h.1.2,h.2⟩
 have m:=(HT.out W yR).2.1;have M:=HV.out.later m;subst hK;have C:Hid (memS (memB ns) ⟨19,lo,hi,tn,ks,fds,r0,r1⟩ (.mk kd it tx kids keys ents labs)=labs.any (fun l=>decide (l=tn))):=xI rfl;rw[C.out]at HM;have hv:=HV.out;obtain⟨uk,uy,ue,ul,E,_,_,_,_,_,_,v⟩:=hv;simp only[List.cons.injEq,and_true,true_and]at E;obtain⟨rfl,rfl,rfl,rfl⟩:=E;have r:labs.length<=maxLen:=by obtain⟨_,_,_,h,_⟩:=v;exact h.1
 have H:=xI (aN v r);clear v r y L f hok C m M;go_enter Tryz.func83,Tryz.ntmps83;go_wp2_with fail;rw[<-hW];clear hW v0 v1 v2 v3 v4 v5 v6 t0 t1 n0 n1 n2 n3 n4 n5 n6 n7 d0 d1 d2 d3 d4 d5 d6 d7
 go_loopw [10] (fun iv wr=>∃ i:Nat,iv=vI i6 i/\i<=labs.length/\(labs.take i).any (fun l=>decide (l=tn))=false/\bW W wr) (fun i _=>((labs.length:Int)-intOf i).toNat)
 case atStart=>exact⟨0,rfl,by omega,by simp,Below.refl _ _⟩
 case round=>
  obtain⟨i,rfl,T,n,F⟩:=hrel;have o:=xI n;have z:=xI F;clear n F;have g6:=(HT.out wr z.out).2.2.1.2.2.2.2.2.2;by_cases him:i<labs.length
  ·have mp:(i:Int)<(labs.length:Int):=by omega
   have m0:(0:Int)<=(i:Int):=by omega
   have Q:IntKind.i64.wrap ((i:Int)+1)=(i:Int)+1:=IntWalk.i64_in _ (by have:=H.out.2;unfold maxLen at this;omega);have s:=List.getElem?_eq_getElem him;have x:=List.getElem_mem him;generalize labs[i]=lj at s x;obtain⟨bl,ol,rfl,G,f0⟩:=zRi H.out.1 s;have hd:bW W wr.drew:=z.out.drew;have HS:wr.drew.cell? (aH w 6)=some (vS (some (aD bl ol)) labs.length cb)/\wr.drew.cell? (aF w 3)=some (vT ⟨tn.toArray⟩)/\wr.drew.cell? (aD bl (ol+i))=some (vT ⟨lj.toArray⟩):=⟨(HT.out _ hd).2.2.1.2.2.2.2.2.2,(HT.out _ hd).2.2.2.2.2.2.2.1,((HT.out _ hd).2.1.cell (p:=(aD bl (ol+i))) G).trans f0⟩;have I:=xI (aN s x);have HQ:=xI HS;clear s x G f0 HS;by_cases hlt:lj=tn
   ·subst hlt;have O:Hid (labs.any (fun l=>decide (l=lj))=true):=xI (List.any_eq_true.2 ⟨_,I.out.2,by simp⟩);go_wp2_with fail;refine wp_region_held_drew (S:=fun wq=>(wq.cell? (aH w 6)=some (vS (some (aD bl ol)) labs.length cb)/\wq.cell? (aF w 3)=some (vT ⟨lj.toArray⟩)/\wq.cell? (aD bl (ol+i))=some (vT ⟨lj.toArray⟩))) (by kernel_rfl) HQ.out (fun _=>?_);refine oT 0 HQ.out ?_
    (iterate 7 refine oY HQ.out ?_)
    refine (wD ?_) _;go_wp2;go_ret;refine⟨?_,(HT.out _ hd).2.1⟩;rw[HM.out,O.out]
    first|rfl|simp
   ·have P:=xI hlt;have R:(lj==tn)=false:=beq_eq_false_iff_ne.2 hlt;go_wp2_with fail;refine wp_region_held_drew (S:=fun wq=>(wq.cell? (aH w 6)=some (vS (some (aD bl ol)) labs.length cb)/\wq.cell? (aF w 3)=some (vT ⟨tn.toArray⟩)/\wq.cell? (aD bl (ol+i))=some (vT ⟨lj.toArray⟩))) (by kernel_rfl) HQ.out (fun _=>?_);refine oT 0 HQ.out ?_
    (iterate 7 refine oY HQ.out ?_)
    refine (wD ?_) _;go_wp2_with fail
    go_roundw
    case rel=>exact⟨i+1,by go_num,by omega,by rw[zDq I.out.1,o.out];simp[P.out],hd⟩
    case measure=>simp[intOf];try omega
  ·have mp:¬ (i:Int)<(labs.length:Int):=by omega
   go_wp2;go_ret;refine⟨?_,(HT.out _ z.out).2.1⟩;have h:=o.out;rw[List.take_of_length_le (by omega)]at h;rw[HM.out,h]
   first|rfl|simp
theorem zNz {ns:List Tn}{d:List Bool}{i:Nat}{x:Tn}(h:ns[i]?=some x):stepD ns d i=d.set i (dn d i||kidsD d x):=by unfold stepD;rw[h]
theorem zIr {x:Tn}{Ak Af:Option Addr}{nk ck nf cf:Nat}(w:World):Calls tP 76 #[.agg #[vI i6 x.kind,vI i6 x.lo,vI i6 x.hi,vT ⟨x.text.toArray⟩,vS Ak nk ck,vS Af nf cf,vI i6 x.r0,vI i6 x.r1]] w fun e w'=>e=.returned (.bool (conn x))/\bW w w':=by
 obtain⟨W,hW⟩:∃ W,W=w.alloc (oX x.kind x.lo x.hi ⟨x.text.toArray⟩ Ak nk ck Af nf cf x.r0 x.r1):=⟨_,rfl⟩;have hb:bW w W:=by rw[hW];exact yR.alloc lR _
 unfold conn;generalize x.kind=k at *;by_cases h0:k=16
 ·subst h0;go_enter Tryz.func76,Tryz.ntmps76;go_wp2;rw[<-hW];go_ret;exact⟨rfl,hb⟩
 have b0:(k==16)=false:=beq_eq_false_iff_ne.2 h0;by_cases h1:k=17
 ·subst h1;go_enter Tryz.func76,Tryz.ntmps76;go_wp2;rw[<-hW];go_ret;exact⟨rfl,hb⟩
 have b1:(k==17)=false:=beq_eq_false_iff_ne.2 h1;by_cases h2:k=18
 ·subst h2;go_enter Tryz.func76,Tryz.ntmps76;go_wp2;rw[<-hW];go_ret;exact⟨rfl,hb⟩
 have b2:(k==18)=false:=beq_eq_false_iff_ne.2 h2;go_enter Tryz.func76,Tryz.ntmps76;go_wp2;rw[<-hW];go_ret;exact⟨by rw[decide_eq_false (show ¬ (k=16\/k=17\/k=18) by omega)];rfl,hb⟩
theorem zJg {α:Type}(f:α->Nat->α) (a:α) (i:Nat):(List.range (i+1)).foldl f a=f ((List.range i).foldl f a) i:=by rw[List.range_succ,List.foldl_append];rfl
theorem zK1 {d:List Bool}{x:Tn}(h:conn x=true):kidsD d x=x.kids.all (fun k=>dn d k.toNat):=by unfold kidsD;rw[h];rfl
theorem zK0 {d:List Bool}{x:Tn}(h:conn x=false):kidsD d x=true:=by unfold kidsD;rw[h];rfl
theorem zHw {α:Type}{l:List α}{p:α->Bool}{k:Nat}{x:α}(h:l[k]?=some x):(l.take (k+1)).all p=((l.take k).all p&&p x):=by
 rw[List.take_add_one,h,List.all_append];simp
theorem zMu (ns:List Tn) (l:List Nat) (d:List Bool):(l.foldl (stepD ns) d).length=d.length:=(zE6 ns l d).1.1.symm
theorem zP3 {ns:List Tn}{root:Int}{A:Option Addr}{c:Nat}(w:World) (hT:TyP w w.heap.size ns root [vS A ns.length c,vI i6 root]) (hn:ns.length<=1000000) :
  Calls tP 32 #[.agg #[vS A ns.length c,vI i6 root]] w fun e w'=>e=.returned (vI i6 (wfC ns root))/\bW w w':=by
 obtain⟨W,hW,Y,kW,al⟩:=aW w (oE A ns.length c root)
 have HT:Hid (∀ U,Below (w.heap.size+1) W U->TyP U w.heap.size ns root [vS A ns.length c,vI i6 root]/\bW w U/\U.cell? (aH w 0)=some (vS A ns.length c)/\U.cell? (aH w 1)=some (vI i6 root)/\w.heap.size+1<=U.heap.size):=xI fun U hU=>by
  have hb:=Y.trans (hU.mono (Nat.le_succ _));have hk:=zAf ((hU.block _ (Nat.lt_succ_self _)).trans kW);exact⟨hT.on hb,hb,hk.1,hk.2,by have:=hU.size;omega⟩
 have J:Hid (RowP w w.heap.size 8 (vS A ns.length c) ns.length (tnR w (fun b=>b<w.heap.size) ns)):=xI (by
  obtain⟨u,hu,_,h⟩:=hT;injection hu with hu _;rw[hu];exact h)
 have HW:=xI (aN Y (aN kW al));have hc:=zAy root W (HT.out W yR).1;clear hT Y kW al;generalize hnl:ns.length=n at *;have o:=xI hnl;clear hnl;go_enter Tryz.func32,Tryz.ntmps32;go_wp2_with fail;rw[<-hW];clear hW;refine hc.mono ?_;rintro e w1 ⟨rfl,hb1⟩;have Z:Below (w.heap.size+1) W w1:=hb1.mono (by have:=HW.out.2.2;omega);clear hc;cases hix:idxB n root with
 | false=>
  go_wp2;go_ret;exact⟨by unfold wfC;rw[o.out,hix];rfl,(HT.out w1 Z).2.1⟩
 | true=>
 have n0:0<n:=by have:=zE8.1 hix;omega
 have a3:=xI hix;have aj:=xI Z;clear hix hb1 Z;obtain⟨t0,t1,aS⟩:=(HT.out w1 aj.out).2.2;go_wp2_with fail
 go_loopw [3] (fun iv wr=>∃ i:Nat,iv=vI i6 i/\i<=n/\(∀ m x,m<i->ns[m]?=some x->tnB n x=true)/\Below (w.heap.size+1) W wr) (fun i _=>((n:Int)-intOf i).toNat)
 case atStart=>exact⟨0,rfl,by omega,fun m x hm=>absurd hm (by omega),aj.out⟩
 case round=>
  obtain⟨i,rfl,hi,a,ar⟩:=hrel;have af:=xI ar;have q:=xI a;clear ar a t0 t1 aS;obtain⟨t0,t1,T⟩:=(HT.out wr af.out).2.2;by_cases hin:i<n
  ·have mp:(i:Int)<(n:Int):=by omega
   have m0:(0:Int)<=(i:Int):=by omega
   have bg:IntKind.i64.wrap ((i:Int)+1)=(i:Int)+1:=IntWalk.i64_in _ (by omega);have z:i<ns.length:=by have:=o.out;omega
   have hx:=List.getElem?_eq_getElem z;generalize ns[i]=x at hx;have d:RowP w w.heap.size 8 (vS A ns.length c) ns.length (tnR w (fun b=>b<w.heap.size) ns):=by have:=J.out;rw[o.out];exact this
   obtain⟨bn,on,aa,Ak,ck,Af,cf,hu,f,M,l,N,d0,d1,d2,d3,d4,d5,d6,d7⟩:=TyB.at8 d hx;injection hu with hA _ hcc;subst hA hcc;clear d;have hd:Below (w.heap.size+1) W wr.drew:=af.out.drew;have HQ:Hid (∀ wq,Below (w.heap.size+1) W wq->(jT wq w.heap.size (some (aD bn on)) n c root)/\wq.cell? (aD bn (on+i*8))=some (vI i6 x.kind)/\wq.cell? (aD bn (on+i*8+1))=some (vI i6 x.lo)/\wq.cell? (aD bn (on+i*8+2))=some (vI i6 x.hi)/\wq.cell? (aD bn (on+i*8+3))=some (vT ⟨x.text.toArray⟩)/\wq.cell? (aD bn (on+i*8+4))=some (vS Ak x.kids.length ck)/\wq.cell? (aD bn (on+i*8+5))=some (vS Af x.fds.length cf)/\wq.cell? (aD bn (on+i*8+6))=some (vI i6 x.r0)/\wq.cell? (aD bn (on+i*8+7))=some (vI i6 x.r1)):=xI fun wq h=>by
    obtain⟨_,hb,q0,q1,_⟩:=HT.out wq h;exact⟨⟨q0,q1⟩,(hb.cell (p:=(aD bn _)) f).trans d0,(hb.cell (p:=(aD bn _)) f).trans d1,(hb.cell (p:=(aD bn _)) f).trans d2,(hb.cell (p:=(aD bn _)) f).trans d3,(hb.cell (p:=(aD bn _)) f).trans d4,(hb.cell (p:=(aD bn _)) f).trans d5,(hb.cell (p:=(aD bn _)) f).trans d6,(hb.cell (p:=(aD bn _)) f).trans d7⟩
   have I:=HT.out _ hd;have aA:TnP wr.drew wr.drew.heap.size x [vI i6 x.kind,vI i6 x.lo,vI i6 x.hi,vT ⟨x.text.toArray⟩,vS Ak x.kids.length ck,vS Af x.fds.length cf,vI i6 x.r0,vI i6 x.r1]:=by
    have h:TnP w w.heap.size x [vI i6 x.kind,vI i6 x.lo,vI i6 x.hi,vT ⟨x.text.toArray⟩,vS Ak x.kids.length ck,vS Af x.fds.length cf,vI i6 x.r0,vI i6 x.r1]:=⟨_,_,rfl,M,l,N⟩;exact (h.on I.2.1).up (by have:=I.2.2.2.2;omega)
   have H:TyP wr.drew wr.drew.heap.size ns root [vS (some (aD bn on)) n c,vI i6 root]:=I.1.up (by have:=I.2.2.2.2;omega);have hc:Calls tP 75 #[.agg #[vS (some (aD bn on)) n c,vI i6 root],.agg #[vI i6 x.kind,vI i6 x.lo,vI i6 x.hi,vT ⟨x.text.toArray⟩,vS Ak x.kids.length ck,vS Af x.fds.length cf,vI i6 x.r0,vI i6 x.r1]] wr.drew fun e w'=>e=.returned (.bool (tnB ns.length x))/\Below wr.drew.heap.size wr.drew w':=zKg wr.drew H aA;rw[o.out]at hc;have HX:=xI hx;clear M l N d0 d1 d2 d3 d4 d5 d6 d7 hx I aA H z;generalize x.kids.length=kl at *;generalize x.fds.length=fl at *;go_wp2_with fail;refine wp_region_held_drew (S:=fun wq=>(jT wq w.heap.size (some (aD bn on)) n c root)/\wq.cell? (aD bn (on+i*8))=some (vI i6 x.kind)/\wq.cell? (aD bn (on+i*8+1))=some (vI i6 x.lo)/\wq.cell? (aD bn (on+i*8+2))=some (vI i6 x.hi)/\wq.cell? (aD bn (on+i*8+3))=some (vT ⟨x.text.toArray⟩)/\wq.cell? (aD bn (on+i*8+4))=some (vS Ak kl ck)/\wq.cell? (aD bn (on+i*8+5))=some (vS Af fl cf)/\wq.cell? (aD bn (on+i*8+6))=some (vI i6 x.r0)/\wq.cell? (aD bn (on+i*8+7))=some (vI i6 x.r1)) (by kernel_rfl) (HQ.out _ hd) (fun _=>?_);refine oT 0 (HQ.out _ hd) ?_
   (iterate 5 refine oY (HQ.out _ hd) ?_)
   refine oO 6 fun K hK=>?_;go_simp;refine hc.mono ?_;rintro e w2 ⟨rfl,hb2⟩;have C:Below (w.heap.size+1) W w2:=hd.trans (hb2.mono (by have:=hd.size;have:=HW.out.2.2;omega));clear hc;refine hK _ _ (HQ.out _ C) (oP ?_);clear hK K;refine oT 7 (HQ.out _ C) ?_;refine (wD ?_) _;cases hxx:tnB n x with
   | false=>
    go_wp2;go_ret;exact⟨by
     have hf:ns.all (tnB n)=false:=by
      rw[List.all_eq_false];exact⟨x,List.mem_of_getElem? HX.out,by rw[hxx];decide⟩
     unfold wfC;rw[o.out,hf];simp,(HT.out w2 C).2.1⟩
   | true=>
    go_wp2_with fail
    go_roundw
    case rel=>exact⟨i+1,by go_num,by omega,fun m y hm hy=>by
      by_cases hmi:m=i
      ·subst hmi;rw[HX.out]at hy;injection hy with hy;rw[<-hy];exact hxx
      ·exact q.out m y (by omega) hy,C⟩
    case measure=>simp[intOf];try omega
  ·have mp:¬ (i:Int)<(n:Int):=by omega
   have a:ns.all (tnB n)=true:=by
    rw[List.all_eq_true];intro x hx;obtain⟨m,hm⟩:=List.mem_iff_getElem?.1 hx;exact q.out m x (by have:=(List.getElem?_eq_some_iff.1 hm).1;have:=o.out;omega) hm
   have aC:Hid (wfC ns root=if (zAk ns n).all id then 0 else 3):=xI (by unfold wfC;rw[o.out,a3.out,a];simp);have HV:Hid (∀ x∈ns,∀ k∈x.kids,0<=k/\k<n):=xI (fun x hx k hk=>by
    have h:=List.all_eq_true.1 a x hx;simp only[tnB,Bool.and_eq_true,List.all_eq_true,idxB,decide_eq_true_eq]at h;exact h.1.1 k hk)
   obtain⟨W5,aU,ao,az,am⟩:=zFr wr n hn;unfold aH at aU;have aB:Below (w.heap.size+1) W W5:=af.out.trans (az.mono T);have a7:=xI aB;have a0:=xI ao;have aX:w.heap.size+1<=wr.heap.size:=T;clear a aB ao az;have bm:=xI am;clear am q T;clear aj;generalize wr.heap.size=g at *;go_wp2_with fail;clear aU t0 t1;rename World=>wA
   go_loopw [5] (fun iv wq=>∃ r:Nat,iv=vI i6 r/\r<=n/\BRow wq g (zAk ns r)/\Below (w.heap.size+1) W wq) (fun i _=>((n:Int)-intOf i).toNat)
   case atStart=>exact⟨0,rfl,by omega,by have:=a0.out;rw[<-o.out]at this;exact this,a7.out⟩
   case round=>
    obtain⟨r,rfl,hr,v,au⟩:=hrel;have ab:=xI v;have Q:=xI au;clear v au;rename World=>wR;obtain⟨t0,t1,R⟩:=(HT.out wR Q.out).2.2;by_cases hrn:r<n
    ·have aQ:(r:Int)<(n:Int):=by omega
     have bf:IntKind.i64.wrap ((r:Int)+1)=(r:Int)+1:=IntWalk.i64_in _ (by omega);go_wp2_with fail
     go_loopw [6] (fun iv wq=>∃ i:Nat,iv=vI i6 i/\i<=n/\BRow wq g ((List.range i).foldl (stepD ns) (zAk ns r))/\Below (w.heap.size+1) W wq) (fun i _=>((n:Int)-intOf i).toNat)
     case atStart=>exact⟨0,rfl,by omega,ab.out,Q.out⟩
     case round=>
      obtain⟨i,rfl,hi,t,ay⟩:=hrel;have aG:=xI t;have ai:=xI ay;clear t ay t0 t1 R;rename World=>wI;obtain⟨t0,t1,aR⟩:=(HT.out wI ai.out).2.2;by_cases hin:i<n
      ·have aP:(i:Int)<(n:Int):=by omega
       have bb:(0:Int)<=(i:Int):=by omega
       have be:IntKind.i64.wrap ((i:Int)+1)=(i:Int)+1:=IntWalk.i64_in _ (by omega);have z:i<ns.length:=by have:=o.out;omega
       have hx:=List.getElem?_eq_getElem z;generalize ns[i]=x at hx;have d:RowP w w.heap.size 8 (vS A ns.length c) ns.length (tnR w (fun b=>b<w.heap.size) ns):=by have:=J.out;rw[o.out];exact this
       obtain⟨bn,on,aa,Ak,ck,Af,cf,hu,f,M,l,N,d0,d1,d2,d3,d4,d5,d6,d7⟩:=TyB.at8 d hx;injection hu with hA _ hcc;subst hA hcc;clear d;have aL:Hid (((List.range i).foldl (stepD ns) (zAk ns r)).length=n):=xI (by rw[zMu,zAt,o.out]);have aZ:Hid ((List.range (i+1)).foldl (stepD ns) (zAk ns r)=((List.range i).foldl (stepD ns) (zAk ns r)).set i (dn ((List.range i).foldl (stepD ns) (zAk ns r)) i||kidsD ((List.range i).foldl (stepD ns) (zAk ns r)) x)):=xI (by rw[zJg,zNz hx]);generalize (List.range i).foldl (stepD ns) (zAk ns r)=D at *;have G:x.kids.length<=maxLen:=by obtain⟨_,_,_,h,_⟩:=l;exact h.1
       obtain⟨bk,ok,O,X⟩:=zDy l;have a6:Hid (∀ wq:World,Calls tP 76 #[.agg #[vI i6 x.kind,vI i6 x.lo,vI i6 x.hi,vT ⟨x.text.toArray⟩,vS Ak x.kids.length ck,vS Af x.fds.length cf,vI i6 x.r0,vI i6 x.r1]] wq fun e w'=>e=.returned (.bool (conn x))/\bW wq w'):=xI fun wq=>zIr wq;have a1:Hid (∀ k∈x.kids,0<=k/\k<n):=xI (HV.out x (List.mem_of_getElem? hx));have aK:Hid (∀ wq,Below (w.heap.size+1) W wq->wq.cell? (aD bn (on+i*8))=some (vI i6 x.kind)/\wq.cell? (aD bn (on+i*8+1))=some (vI i6 x.lo)/\wq.cell? (aD bn (on+i*8+2))=some (vI i6 x.hi)/\wq.cell? (aD bn (on+i*8+3))=some (vT ⟨x.text.toArray⟩)/\wq.cell? (aD bn (on+i*8+4))=some (vS Ak x.kids.length ck)/\wq.cell? (aD bn (on+i*8+5))=some (vS Af x.fds.length cf)/\wq.cell? (aD bn (on+i*8+6))=some (vI i6 x.r0)/\wq.cell? (aD bn (on+i*8+7))=some (vI i6 x.r1)):=xI fun wq h=>by
        have hb:=(HT.out wq h).2.1;exact⟨(hb.cell (p:=(aD bn _)) f).trans d0,(hb.cell (p:=(aD bn _)) f).trans d1,(hb.cell (p:=(aD bn _)) f).trans d2,(hb.cell (p:=(aD bn _)) f).trans d3,(hb.cell (p:=(aD bn _)) f).trans d4,(hb.cell (p:=(aD bn _)) f).trans d5,(hb.cell (p:=(aD bn _)) f).trans d6,(hb.cell (p:=(aD bn _)) f).trans d7⟩
       have a2:Hid (∀ wq,Below (w.heap.size+1) W wq->∀ j k,x.kids[j]?=some k->Ak=some (aD bk ok)/\wq.cell? (aD bk (ok+j))=some (vI i6 k)):=xI fun wq h j k hj=>by
        have h0:=O (by have:=(List.getElem?_eq_some_iff.1 hj).1;omega);exact⟨h0.1,((HT.out wq h).2.1.cell (p:=(aD bk (ok+j))) h0.2).trans (X j k hj).1⟩
       have HX:=xI (aN hx G);clear M l N d0 d1 d2 d3 d4 d5 d6 d7 hx z O X G;go_wp2_with fail
       go_loopw [7,8] (fun av kv wq=>∃ k:Nat,kv=vI i6 k/\k<=x.kids.length/\av=.bool ((x.kids.take k).all (fun k=>dn D k.toNat))/\(conn x=true\/k=0)/\BRow wq g D/\Below (w.heap.size+1) W wq) (fun _ k _=>((x.kids.length:Int)-intOf k).toNat)
       case atStart=>exact⟨0,rfl,by omega,rfl,.inr rfl,aG.out,ai.out⟩
       case round=>
        obtain⟨k,rfl,hk,rfl,aq,d,aw⟩:=hrel;have aE:=xI d;have ag:=xI aw;have a5:=xI aq;clear d aw aq t0 t1 aR;obtain⟨t0,t1,ak⟩:=(HT.out _ ag.out).2.2;obtain⟨e0,e1,e2,e3,e4,e5,e6,e7⟩:=aK.out _ ag.out;rename World=>wK;have a9:(0:Int)<=(k:Int):=by omega
        generalize G:x.kids.length=kl at *;generalize hfl:x.fds.length=fl at *;have P:=xI (aN G hfl);clear G hfl;go_wp2_with fail;refine (a6.out wK).mono ?_;rintro e w2 ⟨rfl,hb2⟩;have C:Below (w.heap.size+1) W w2:=ag.out.trans (hb2.mono (by omega));have E:BRow w2 g D:=aE.out.on (hb2.block _ aE.out.lt);have aI:=xI E;have L:=xI C;clear t0 t1 ak e0 e1 e2 e3 e4 e5 e6 e7 hb2 C;obtain⟨t0,t1,ak⟩:=(HT.out _ L.out).2.2;obtain⟨e0,e1,e2,e3,e4,e5,e6,e7⟩:=aK.out _ L.out;clear e0 e1 e2 e3 e5 e6 e7;by_cases hgo:conn x=true/\k<kl
        ·have a8:(k:Int)<(kl:Int):=by omega
         rw[hgo.1];have bd:IntKind.i64.wrap ((k:Int)+1)=(k:Int)+1:=IntWalk.i64_in _ (by have:=HX.out.2;unfold maxLen at this;omega);have ap:k<x.kids.length:=by have:=P.out.1;omega
         have F:=List.getElem?_eq_getElem ap;generalize x.kids[k]=kj at F;have V:=a1.out kj (List.mem_of_getElem? F);obtain⟨O,X⟩:=a2.out _ L.out k kj F;obtain⟨km,rfl⟩:∃ km:Nat,kj=(km:Int):=⟨kj.toNat,by omega⟩;subst O;have bj:=E.cell (k:=km) (by rw[aL.out];omega);have k2:(km:Int)<(n:Int):=V.2;have k3:(0:Int)<=(km:Int):=V.1;have aY:Hid ((x.kids.take (k+1)).all (fun k=>dn D k.toNat)=((x.kids.take k).all (fun k=>dn D k.toNat)&&dn D km)):=xI (by rw[zHw F];rfl);generalize (x.kids.take k).all (fun k=>dn D k.toNat)=b0 at *;generalize dn D km=b1 at *;have a4:=xI hgo.1;have bo:=xI F;clear hgo V F ap E;cases b0
         all_goals
          cases b1
          all_goals
           go_wp2_with fail
           go_roundw
           case rel=>exact⟨k+1,by go_num,by have:=P.out.1;omega,by rw[aY.out];rfl,.inl a4.out,aI.out,L.out⟩
           case measure=>have:=P.out.1;simp[intOf];try omega
        ·have aM:Hid (kidsD D x=(x.kids.take k).all (fun k=>dn D k.toNat)):=xI (by
          cases hcx:conn x with
          | true=>
           have aV:kl<=k:=by
            rcases Nat.lt_or_ge k kl with h|h
            ·exact absurd ⟨hcx,h⟩ hgo
            ·exact h
           rw[zK1 hcx,List.take_of_length_le (by rw[P.out.1];exact aV)]
          | false=>
           rcases a5.out with h|h
           ·rw[hcx]at h;simp at h
           ·rw[zK0 hcx,h];rfl)
         have aT:conn x=false\/¬ (k:Int)<(kl:Int):=by
          cases hcx:conn x with
          | false=>exact .inl rfl
          | true=>right;intro h;exact hgo ⟨hcx,by omega⟩
         have bi:=E.cell (k:=i) (by rw[aL.out];exact hin);have bh:=E.froz i;have aJ:Hid (∀ b,(dn D i||kidsD D x)=b->∀ wq,wq=w2.setCell (aD g i) (.bool b)->BRow wq g ((List.range (i+1)).foldl (stepD ns) (zAk ns r))/\Below (w.heap.size+1) W wq):=xI fun b hb wq hwq=>by
          rw[aZ.out,hb,hwq];exact⟨aI.out.set i b,L.out.setCell (p:=(aD g i)) aX _⟩
         rw[aM.out]at aJ;generalize (x.kids.take k).all (fun k=>dn D k.toNat)=b0 at *;generalize dn D i=b1 at *;clear hgo E aM;rcases aT with hcf|hcf
         case' inl=>rw[hcf]
         case' inr=>cases hcx:conn x
         all_goals
          cases b0
          all_goals
           cases b1
           all_goals
            go_wp2_with fail
            go_roundw
            case rel=>exact⟨i+1,by go_num,by omega,aJ.out _ rfl _ rfl⟩
            case measure=>simp[intOf];try omega
      ·have aP:¬ (i:Int)<(n:Int):=by omega
       obtain rfl:i=n:=by omega
       clear ab Q;go_wp2_with fail
       go_roundw
       case rel=>exact⟨r+1,by go_num,by omega,by have:=aG.out;unfold zAk zH5;rw[o.out];exact this,ai.out⟩
       case measure=>simp[intOf];try omega
    ·have aQ:¬ (r:Int)<(n:Int):=by omega
     obtain rfl:r=n:=by omega
     have ad:Hid ((zAk ns r).length=r):=xI (by rw[zAt,o.out]);go_wp2_with fail
     go_loopw [9] (fun iv wq=>∃ i:Nat,iv=vI i6 i/\i<=r/\(∀ m,m<i->dn (zAk ns r) m=true)/\BRow wq g (zAk ns r)/\Below (w.heap.size+1) W wq) (fun i _=>((r:Int)-intOf i).toNat)
     case atStart=>exact⟨0,rfl,by omega,fun m hm=>absurd hm (by omega),ab.out,Q.out⟩
     case round=>
      obtain⟨i,rfl,hi,a,an,ax⟩:=hrel;have q:=xI a;have ah:=xI ax;have aF:=xI an;clear a ax an;by_cases hin:i<r
      ·have aO:(i:Int)<(r:Int):=by omega
       have ba:(0:Int)<=(i:Int):=by omega
       have bc:IntKind.i64.wrap ((i:Int)+1)=(i:Int)+1:=IntWalk.i64_in _ (by omega);have B:=aF.out.cell (k:=i) (by rw[ad.out];exact hin);cases s:dn (zAk ns r) i with
       | false=>
        rw[s]at B;have ae:=xI s;clear s;go_wp2;go_ret;refine⟨?_,(HT.out _ ah.out).2.1⟩;have s:=ae.out;have hf:(zAk ns r).all id=false:=by
         rw[List.all_eq_false];unfold dn at s;have z:i<(zAk ns r).length:=by rw[ad.out];exact hin
         rw[List.getElem?_eq_getElem z]at s;exact⟨_,List.getElem_mem z,by simp at s;simp[s]⟩
        rw[aC.out,hf];rfl
       | true=>
        rw[s]at B;have ae:=xI s;clear s;go_wp2_with fail
        go_roundw
        case rel=>exact⟨i+1,by go_num,by omega,fun m hm=>by
         by_cases hmi:m=i
         ·rw[hmi];exact ae.out
         ·exact q.out m (by omega),aF.out,ah.out⟩
        case measure=>simp[intOf];try omega
      ·have aO:¬ (i:Int)<(r:Int):=by omega
       go_wp2;go_ret;refine⟨?_,(HT.out _ ah.out).2.1⟩;have hf:(zAk ns r).all id=true:=by
        rw[List.all_eq_true];intro b hb;obtain⟨m,hm,rfl⟩:=List.mem_iff_getElem.1 hb;have h:=q.out m (by rw[ad.out]at hm;omega);unfold dn at h;rw[List.getElem?_eq_getElem hm]at h;exact h
       rw[aC.out,hf];rfl
def NRow (w:World) (g n:Nat) (css:List (List Value)):Prop:=∃ arr:Array Value,w.heap[g]?=some (.cells arr 40 (0,0))/\arr.size=n*8/\∀ j cs,css[j]?=some cs->cs.length=8/\∀ i,i<8->arr[j*8+i]?=cs[i]?
theorem NRow.on {w w':World}{g n:Nat}{css:List (List Value)}(h:NRow w g n css) (hb:w'.heap[g]?=w.heap[g]?):NRow w' g n css:=by
 obtain⟨a,h1,h2⟩:=h;exact⟨a,hb.trans h1,h2⟩
theorem NRow.lt {w:World}{g n:Nat}{css:List (List Value)}(h:NRow w g n css):g<w.heap.size:=by
 obtain⟨a,h1,_⟩:=h;exact (Array.getElem?_eq_some_iff.1 h1).1
theorem NRow.cell {w:World}{g n:Nat}{css:List (List Value)}(h:NRow w g n css){k:Nat}(hk:k<n*8):∃ v,w.cell? (aD g k)=some v:=by
 obtain⟨a,h1,h2,_⟩:=h;exact⟨a[k],(Lib.cell_of_heap h1 k).trans (Array.getElem?_eq_getElem (by omega))⟩
theorem NRow.froz {w:World}{g n:Nat}{css:List (List Value)}(h:NRow w g n css) (k:Nat):w.frozen? (aD g k)=false:=by
 obtain⟨a,h1,_⟩:=h;exact Lib.frozen_of_heap h1 k
theorem NRow.put {w:World}{g n j:Nat}{css:List (List Value)}(h:NRow w g n css) (hj:css.length=j) (hn:j<n) (v0 v1 v2 v3 v4 v5 v6 v7:Value) (V:World) (hV:V=((((((((w.setCell (aD g (j*8)) v0).setCell (aD g (j*8+1)) v1).setCell (aD g (j*8+2)) v2).setCell (aD g (j*8+3)) v3).setCell (aD g (j*8+4)) v4).setCell (aD g (j*8+5)) v5).setCell (aD g (j*8+6)) v6).setCell (aD g (j*8+7)) v7)) :
  NRow V g n (css++[[v0,v1,v2,v3,v4,v5,v6,v7]])/\V.heap.size=w.heap.size/\(∀ b,b≠g->V.heap[b]?=w.heap[b]?)/\∀ H,H<=g->Below H w V:=by
 subst hV;obtain⟨c,h1,h2,h3⟩:=h;have e0:=heap_setCell_same w g (j*8) _ _ v0 h1;have e1:=heap_setCell_same _ g (j*8+1) _ _ v1 e0;have e2:=heap_setCell_same _ g (j*8+2) _ _ v2 e1;have e3:=heap_setCell_same _ g (j*8+3) _ _ v3 e2;have e4:=heap_setCell_same _ g (j*8+4) _ _ v4 e3;have e5:=heap_setCell_same _ g (j*8+5) _ _ v5 e4;have e6:=heap_setCell_same _ g (j*8+6) _ _ v6 e5;have e7:=heap_setCell_same _ g (j*8+7) _ _ v7 e6;refine⟨⟨_,e7,by simpa using h2,fun m cs hm=>?_⟩,by simp,fun b hb=>?_,fun H hH=>(((((((((Below.refl H w).setCell (p:=(aD g _)) hH _).setCell (p:=(aD g _)) hH _).setCell (p:=(aD g _)) hH _).setCell (p:=(aD g _)) hH _).setCell (p:=(aD g _)) hH _).setCell (p:=(aD g _)) hH _).setCell (p:=(aD g _)) hH _).setCell (p:=(aD g _)) hH _)⟩
 ·by_cases hmj:m<j
  ·rw[List.getElem?_append_left (by omega)]at hm;obtain⟨h4,h5⟩:=h3 m cs hm;refine⟨h4,fun i hi=>?_⟩;rw[<-h5 i hi];simp only[Array.getElem?_setIfInBounds];rw[if_neg (by omega),if_neg (by omega),if_neg (by omega),if_neg (by omega),if_neg (by omega),if_neg (by omega),if_neg (by omega),if_neg (by omega)]
  ·rw[List.getElem?_append_right (by omega)]at hm;have a:m=j:=by have:=(List.getElem?_eq_some_iff.1 hm).1;simp at this;omega
   subst a;rw[hj,Nat.sub_self]at hm;injection hm with hm;subst hm;refine⟨rfl,fun i hi=>?_⟩;have:i=0\/i=1\/i=2\/i=3\/i=4\/i=5\/i=6\/i=7:=by omega
   rcases this with rfl|rfl|rfl|rfl|rfl|rfl|rfl|rfl<;>simp[Array.getElem?_setIfInBounds]<;>omega
 ·iterate 8 rw[heap_setCell_other _ _ _ _ hb]
theorem zKv (w:World) (n:Nat) (hn:n<=1000000):∃ W,(Instr.makeSlice 22 (vI i6 n) (vI i6 n)).run tP w=.ok (vS (some (aH w 0)) n n) W/\NRow W w.heap.size n []/\bW w W/\W.heap.size=w.heap.size+1:=by
 obtain⟨i0,hi,d,b,c⟩:=info_parts namT.inf;have a:=run_makeSlice (P:=tP) w 22 40 i0 _ Tryz.underlying22 hi d .i64 .i64 n n (by omega) (Int.le_refl _) (by rw[b];omega) (by rw[c];omega) (by omega);rw[b]at a;simp only[Int.toNat_natCast]at a;refine⟨_,a,⟨_,heap_alloc_new w _,?_,fun j cs h=>by simp at h⟩,yR.alloc lR _,by simp⟩;simp[madeCells]
theorem zGv (ns:List Tn) (A:Option Addr) (c H d:Nat) (w:World) (hH:H<=w.heap.size) (hrow:RowP w H 8 (vS A ns.length c) ns.length (tnR w (fun b=>b<H) ns)) (hn:ns.length<=1000000) (hd:d<=1000000) (he:EdgOk ns) (hsm:∀ x∈ns,x.kids.length<=1048576/\x.fds.length<=1048576) :
  Calls tP 81 #[vS A ns.length c,vI i6 d] w fun e w'=>∃ (g:Nat) (css:List (List Value)),e=.returned (vS (some (aD g 0)) ns.length ns.length)/\NRow w' g ns.length css/\css.length=ns.length/\(∀ (j:Nat) (cs:List Value) (x:Tn),css[j]?=some cs->ns[j]?=some x->TnB w' (fun b=>w.heap.size<=b/\b<w'.heap.size/\b≠g) (mvd (upI d) x) cs)/\w.heap.size<=g/\bW w w':=by
 have eg:=enters_of Tryz.func119 (by kernel_rfl) rfl;obtain⟨W0,Q,P,k0,J⟩:=aW w (.cells #[vI i6 d] 3 (0,0))
 obtain⟨W,D,f,F,R⟩:=zKv W0 ns.length hn;unfold aH at D;rw[J]at D f;have kW:=(F.block w.heap.size (by omega)).trans k0;have O:bW w W:=P.trans (F.mono (by omega));have I:W.heap.size=w.heap.size+2:=by omega
 rw[Q]at D;have HR:=xI (aN hrow (aN hn (aN hd (aN he hsm))));have HW:=xI (aN f (aN kW (aN O I)));clear hrow hn hd he hsm f kW O I P k0 J F R Q;generalize hnn:ns.length=nn at *;have C:=xI hnn;clear hnn;go_enter Tryz.func81,Tryz.ntmps81;go_wp2_with fail;clear D
 go_loopw [13] (fun iv wr=>∃ (i:Nat) (css:List (List Value)),iv=vI i6 i/\i<=nn/\css.length=i/\NRow wr (w.heap.size+1) nn css/\(∀ (j:Nat) (cs:List Value) (x:Tn),css[j]?=some cs->ns[j]?=some x->TnB wr (fun b=>w.heap.size<=b/\b<wr.heap.size/\b≠w.heap.size+1) (mvd (upI d) x) cs)/\wr.heap[w.heap.size]?=some (.cells #[vI i6 d] 3 (0,0))/\bW w wr) (fun i _=>((nn:Int)-intOf i).toNat)
 case atStart=>exact⟨0,[],rfl,by omega,rfl,HW.out.1,fun j cs x h=>by simp at h,HW.out.2.1,HW.out.2.2.1⟩
 case round=>
  obtain⟨i,css,rfl,hi,B,f,z,s,r⟩:=hrel;by_cases hlt:i<nn
  ·have mp:(i:Int)<(nn:Int):=by omega
   have m0:(0:Int)<=(i:Int):=by omega
   have Z:IntKind.i64.wrap ((i:Int)+1)=(i:Int)+1:=IntWalk.i64_in _ (by have:=HR.out.2.1;omega);have M:i<ns.length:=by have:=C.out;omega
   have hx:=List.getElem?_eq_getElem M;have p:=List.getElem_mem M;generalize ns[i]=x at hx p;obtain⟨K,lo,m,tn,ks,o,r0,r1⟩:=x;have l:RowP wr H 8 (vS A nn c) ns.length (tnR wr (fun b=>b<H) ns):=by
    have h:=HR.out.1;rw[C.out];exact RowB.on h (r.mono hH) fun _ _ ⟨y,hy,h⟩=>⟨y,hy,TnB.on h (r.mono hH)⟩
   obtain⟨bn,on,T,Ak,ck,Af,cf,hu,aa,L,t,N,d0,d1,d2,d3,d4,d5,d6,d7⟩:=TyB.at8 l hx;injection hu with hA hmm hcc;clear hmm;subst hA hcc;obtain⟨X,hX,v,kX,_⟩:=aW wr (oX K lo m ⟨tn.toArray⟩ Ak ks.length ck Af o.length cf r0 r1)
   have S:=f.lt;have n:Below H wr X:=v.mono (by omega);have Y:w.heap.size+1<X.heap.size:=by have:=v.size;omega
   have hc:Calls tP 111 #[.agg #[vI i6 K,vI i6 lo,vI i6 m,vT ⟨tn.toArray⟩,vS Ak ks.length ck,vS Af o.length cf,vI i6 r0,vI i6 r1],.func (.func 119) #[] #[.pointer (some (aH w 0))]] X fun e w'=>(∃ cs,e=.returned (.agg cs.toArray)/\TnB w' (Btw X.heap.size w'.heap.size) (mvd (upI d) ⟨K,lo,m,tn,ks,o,r0,r1⟩) cs)/\bW X w':=
    zIe K lo m tn ks o r0 r1 Ak Af ck cf H 119 (.pointer (some (aH w 0))) (upI d) X (by omega) ⟨_,_,rfl,L,RowB.on t n fun _ _ h=>h,RowB.on N n fun _ _ h=>h⟩ (HR.out.2.2.2.2 _ p).1 (HR.out.2.2.2.2 _ p).2 eg
     (fun k hk=>by
      have:=HR.out.2.2.2.1 _ p k hk;have h1:=HR.out.2.1;have h2:=HR.out.2.2.1;have h3:=C.out;unfold upI;exact zB0 (by omega) (by omega))
     (xI fun k hk U hU=>zKp k d w.heap.size U (by
      have:=HR.out.2.2.2.1 _ p k hk;have h1:=HR.out.2.1;have h2:=HR.out.2.2.1;have h3:=C.out;exact IntWalk.i64_in _ (by omega)) ((Lib.cell_of_heap ((hU.block _ (by omega)).trans ((v.block _ (by omega)).trans s)) 0).trans rfl))
   obtain⟨x0,x1,x2,x3,x4,x5,x6,x7⟩:=zAe kX;rw[hX]at x0 x1 x2 x3 x4 x5 x6 x7;have HI:=xI (aN B (aN f (aN z (aN s (aN r (aN hx (aN v S)))))));clear B f z s r hx p l L t N v kX n;go_wp2_with fail;rw[<-hX];clear hX x0 x1 x2 x3 x4 x5 x6 x7 d0 d1 d2 d3 d4 d5 d6 d7;refine hc.mono ?_;rintro e w5 ⟨⟨cs,rfl,hcs⟩,hb5⟩;have HY:Hid (mvd (upI d) ⟨K,lo,m,tn,ks,o,r0,r1⟩=mvd (upI d) ⟨K,lo,m,tn,ks,o,r0,r1⟩):=xI rfl;clear hc;generalize hyy:mvd (upI d) ⟨K,lo,m,tn,ks,o,r0,r1⟩=y at hcs;have V:=xI hyy;clear hyy HY;have u:=hcs;obtain⟨A1,m1,c1,A2,m2,c2,rfl⟩:=u.form8;clear u;have G:bW wr w5:=HI.out.2.2.2.2.2.2.1.trans (hb5.mono HI.out.2.2.2.2.2.2.1.size);have a:=HI.out.2.1.on (G.block _ HI.out.2.2.2.2.2.2.2);obtain⟨y0,z0⟩:=a.cell (k:=i*8) (by omega);obtain⟨y1,z1⟩:=a.cell (k:=i*8+1) (by omega);obtain⟨y2,z2⟩:=a.cell (k:=i*8+2) (by omega);obtain⟨y3,z3⟩:=a.cell (k:=i*8+3) (by omega);obtain⟨y4,z4⟩:=a.cell (k:=i*8+4) (by omega);obtain⟨y5,z5⟩:=a.cell (k:=i*8+5) (by omega);obtain⟨y6,z6⟩:=a.cell (k:=i*8+6) (by omega);obtain⟨y7,z7⟩:=a.cell (k:=i*8+7) (by omega);have f0:=a.froz (i*8);have f1:=a.froz (i*8+1);have f2:=a.froz (i*8+2);have f3:=a.froz (i*8+3);have f4:=a.froz (i*8+4);have f5:=a.froz (i*8+5);have f6:=a.froz (i*8+6);have f7:=a.froz (i*8+7);obtain⟨p1,p2,p3,p4⟩:=NRow.put a HI.out.1 hlt (vI i6 y.kind) (vI i6 y.lo) (vI i6 y.hi) (vT ⟨y.text.toArray⟩) (vS A1 m1 c1) (vS A2 m2 c2) (vI i6 y.r0) (vI i6 y.r1) _ rfl;simp only[aD]at p1 p2 p3 p4;have HP:=xI (aN p1 (aN p2 (aN p3 (aN (p4 w.heap.size (by omega)) (aN hcs (aN hb5 G))))));clear p1 p2 p3 p4 hcs hb5 G a;go_wp2_with fail
   go_roundw
   case rel=>
    refine⟨i+1,css++[[vI i6 y.kind,vI i6 y.lo,vI i6 y.hi,vT ⟨y.text.toArray⟩,vS A1 m1 c1,vS A2 m2 c2,vI i6 y.r0,vI i6 y.r1]],by go_num,by omega,by rw[List.length_append,HI.out.1];rfl,HP.out.1,fun j cs x hj hx=>?_,?_,?_⟩
    ·by_cases hji:j<i
     ·rw[List.getElem?_append_left (by rw[HI.out.1];exact hji)]at hj;refine ((HI.out.2.2.1 j cs x hj hx).keep ⟨?_,fun b q hb hl=>?_⟩).sub fun b hb=>⟨hb.1,?_,hb.2.2⟩
      ·have h1:=HP.out.2.1;have h2:=HP.out.2.2.2.2.2.2.size;omega
      ·exact World.cell?_of_block ((HP.out.2.2.1 b hb.2.2).trans (HP.out.2.2.2.2.2.2.block b hl))
      ·have h1:=HP.out.2.1;have h2:=HP.out.2.2.2.2.2.2.size;omega
     ·rw[List.getElem?_append_right (by rw[HI.out.1];omega)]at hj;have E:j=i:=by have:=(List.getElem?_eq_some_iff.1 hj).1;simp[HI.out.1]at this;omega
      subst E;rw[HI.out.1,Nat.sub_self]at hj;injection hj with hj;rw[HI.out.2.2.2.2.2.1]at hx;injection hx with hx;subst hx hj;rw[V.out];have h1:=HP.out.2.1;have h3:=HI.out.2.2.2.2.2.2.2;refine (HP.out.2.2.2.2.1.keep ⟨by omega,fun b q hb hl=>?_⟩).sub fun b hb=>⟨by have:=hb.1;omega,by have:=hb.2;omega,by have:=hb.1;omega⟩;exact World.cell?_of_block (HP.out.2.2.1 b (by have:=hb.1;omega))
    ·exact (HP.out.2.2.1 _ (by omega)).trans ((HP.out.2.2.2.2.2.2.block _ (by have:=HI.out.2.2.2.2.2.2.2;omega)).trans HI.out.2.2.2.1)
    ·exact (HI.out.2.2.2.2.1.trans (HP.out.2.2.2.2.2.2.mono HI.out.2.2.2.2.1.size)).trans HP.out.2.2.2.1
   case measure=>simp[intOf];try omega
  ·have mp:¬ (i:Int)<(nn:Int):=by omega
   have HI:=xI (aN B (aN f (aN z (aN s r))));clear B f z s r;go_wp2;go_ret;exact⟨w.heap.size+1,rfl,css,HI.out.2.1,by have:=HI.out.1;omega,HI.out.2.2.1,by omega,HI.out.2.2.2.2⟩
theorem zLd (ns:List Tn) (A:Option Addr) (c H d:Nat) (w:World) (hH:H<=w.heap.size) (hrow:RowP w H 8 (vS A ns.length c) ns.length (tnR w (fun b=>b<H) ns)) (hn:ns.length<=1000000) (hd:d<=1000000) (he:EdgOk ns) (hsm:∀ x∈ns,x.kids.length<=1048576/\x.fds.length<=1048576) :
  Calls tP 81 #[vS A ns.length c,vI i6 d] w fun e w'=>∃ g,e=.returned (vS (some (aD g 0)) ns.length ns.length)/\RowB w' (Btw w.heap.size w'.heap.size) 8 (vS (some (aD g 0)) ns.length ns.length) ns.length (tnR w' (Btw w.heap.size w'.heap.size) (ns.map (mvd (upI d))))/\bW w w':=by
 refine (zGv ns A c H d w hH hrow hn hd he hsm).mono ?_;rintro e w' ⟨g,css,rfl,hnr,hcl,htn,hg,hb⟩;refine⟨g,rfl,?_,hb⟩;have i:=hnr.lt;obtain⟨o,m,n,l⟩:=hnr;refine⟨_,_,rfl,⟨by unfold maxLen;omega,Nat.le_refl _⟩,fun _=>⟨g,0,rfl,⟨by omega,i⟩,i,fun j hj=>?_⟩⟩;have k:j<css.length:=by omega
 have h:=List.getElem?_eq_getElem k;have f:=List.getElem?_eq_getElem hj;generalize css[j]=cs at h;generalize ns[j]=x at f;obtain⟨h8,a⟩:=l j cs h;refine⟨cs,h8,fun q hq=>?_,mvd (upI d) x,by rw[List.getElem?_map,f];rfl,(htn j cs x h f).sub fun b hb=>⟨hb.1,hb.2.1⟩⟩;rw[<-a q hq];refine (Lib.cell_of_heap m _).trans ?_;rw[Nat.zero_add]
def renG:Go.Shelf.Ren:=⟨fun|4=>80|n=>n,fun|0=>0|3=>3|4=>4|9=>9|20=>20|22=>22|25=>40|n=>n,fun|n=>n⟩
theorem layG:Go.Proofs.Lays8.n4 tP renG:={
 mixed:=by kernel_rfl
 f4:=⟨Tryz.f80.name,by decide,Tryz.func80.trans (congrArg some (by kernel_rfl))⟩
 t0:=Tryz.underlying0
 a0:=Tryz.isAgg0
 z0:=Tryz.sizeOf0
 v0:=Tryz.zeroValue0
 t3:=Tryz.underlying3
 a3:=Tryz.isAgg3
 z3:=Tryz.sizeOf3
 v3:=Tryz.zeroValue3
 t4:=Tryz.underlying4
 a4:=Tryz.isAgg4
 z4:=Tryz.sizeOf4
 v4:=Tryz.zeroValue4
 t9:=Tryz.underlying9
 a9:=Tryz.isAgg9
 z9:=Tryz.sizeOf9
 v9:=Tryz.zeroValue9
 t20:=Tryz.underlying20
 a20:=Tryz.isAgg20
 z20:=Tryz.sizeOf20
 v20:=Tryz.zeroValue20
 t22:=Tryz.underlying22
 a22:=Tryz.isAgg22
 z22:=Tryz.sizeOf22
 v22:=Tryz.zeroValue22 }
theorem zPj (ns:List Tn) (css:List (List Value)) (g base n:Nat) (w:World) (hnr:NRow w g ns.length css) (hcl:css.length=ns.length) (hlen:ns.length<=1000000) (hn1:1<=n) (hn:n<=1000000) (hbase:base<=w.heap.size)
  (htn:∀ (j:Nat) (cs:List Value) (x:Tn),css[j]?=some cs->ns[j]?=some x->TnB w (fun b=>base<=b/\b<w.heap.size) x cs) :
  Calls tP 80 #[vS (some (aD g 0)) ns.length ns.length,vI i6 n] w fun e w'=>∃ v,e=.returned v/\OwnT w' base v ns/\bW w w':=by
 obtain⟨k,o,d,y⟩:=hnr;obtain⟨i0,hi,s,m,r⟩:=info_parts namT.inf;have h:=Go.Proofs.Any8.slices_Grow_grow layG i0 _ hi s (by rw[m];decide) (some (aD g 0)) ns.length ns.length n k.toList w lR (by omega) (by rw[r];omega) (by omega) (by rw[m,Array.length_toList];exact d) (by intro h;cases h) (by
  intro a ha j v hj;injection ha with ha;subst ha;unfold Addr.add;split
  ·rename_i h0;subst h0;exact (Lib.cell_of_heap o 0).trans (by simpa using hj)
  ·refine (Lib.cell_of_heap o _).trans ?_;rw[Nat.zero_add];simpa using hj)
 change Calls tP 80 _ _ _ at h;refine h.mono ?_;rintro e w' ⟨rfl,hw'⟩;have B:ns.length+n<=grownCap w (ns.length+n) ns.length (renG.t 25):=grownCap_ge _ _ _ _;have u:grownCap w (ns.length+n) ns.length (renG.t 25)<=maxLen:=grownCap_le_maxLen _ _ _ _ (by unfold maxLen;omega);generalize grownCap w (ns.length+n) ns.length (renG.t 25)=cap at *;have hb:bW w w':=by rw[hw'];exact (Below.refl w.heap.size w).drew.alloc lR _
 have z:w'.heap.size=w.heap.size+1:=by rw[hw'];simp
 refine⟨_,rfl,⟨k.toList,⟨by rw[Array.length_toList];exact d,.inr ⟨w.heap.size,cap,_,rfl,hbase,by rw[hw'];exact heap_alloc_new w.drew _,by omega,u,?_,?_⟩⟩,fun j x hj=>?_⟩,hb⟩
 ·rw[Array.size_append,Array.size_append,size_zeroCells,size_zeroCells,namT.siz];simp[d];omega
 ·simp[<-d]
 ·have A:=(List.getElem?_eq_some_iff.1 hj).1;have f:=List.getElem?_eq_getElem (l:=css) (i:=j) (by omega);generalize css[j]'(by omega)=cs at f;obtain⟨h8,c⟩:=y j cs f;have:(k.toList.drop (j*8)).take 8=cs:=by
   apply List.ext_getElem?;intro i;by_cases hi8:i<8
   ·rw[List.getElem?_take_of_lt hi8,List.getElem?_drop,Array.getElem?_toList,c i hi8]
   ·rw[List.getElem?_eq_none (by rw[List.length_take];omega),List.getElem?_eq_none (by omega)]
  rw[this];exact ((htn j cs x f hj).keep ⟨by omega,fun b q hbb hl=>hb.cell (p:=(aD b q)) hl⟩).sub fun b hbb=>⟨hbb.1,by omega,by simp[Value.ownBlock];omega⟩
end Go.Proofs.YteedihhdcbepmaaGreat
