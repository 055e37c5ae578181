/- Member of the document: variables. -/
import Derived.Test.YteedihhdcbepmaaGreatTsZ
import Derived.Test.YteedihhdcbepmaaGreatTs20
set_option maxRecDepth 100000
set_option maxHeartbeats 25600000
set_option linter.all false
open Go.Value renaming slice→vS,int→vI,string→vT
open Go.IntKind renaming i64→i6
open Go.Proofs.Tryz
open Go.Proofs.Tryz renaming prog→tP
namespace Go.Proofs.YteedihhdcbepmaaGreat
open Go Go.RowKit
theorem zQ7 {w:World}{H n c:Nat}{l:List (List UInt8)}{A:Option Addr}{j:Nat}{x:List UInt8}(h:RowP w H 1 (vS A n c) l.length (fun j cs=>∃ x,l[j]?=some x/\cs=[vT ⟨x.toArray⟩]/\x.length<=maxLen)) (hx:l[j]?=some x):∃ b off,A=some (aD b off)/\b<H/\w.cell? (aD b (off+j))=some (vT ⟨x.toArray⟩):=by
 have hj:=(Bx.1 hx).1;obtain⟨A',cap,h1,_,h3⟩:=h;injection h1 with h1 _ _;obtain⟨b,off,h4,h5,_,h7⟩:=h3 (by omega);obtain⟨cs,h8,h9,y,hy,rfl,_⟩:=h7 j hj;rw[hx]at hy;injection hy with hy;subst hy;have:=h9 0 (by omega);simp only[Nat.mul_one,Ds]at this;exact⟨b,off,h1.trans h4,h5,this⟩
theorem zP3 (ns:List Tn) (root:Int) (A:Option Addr) (c:Nat) (hw:Wf ns) (k:Nat) (K lo hi:Int) (tn:List UInt8) (ks:List Int) (fds:List Fd) (r0 r1:Int) (hx:ns[k]?=some ⟨K,lo,hi,tn,ks,fds,r0,r1⟩) (hK:K=19)
  (q:Nat) (kd it:Int) (tx:List UInt8) (kids:List Vl) (keys:List (Int×List UInt8)) (ents:List En) (labs:List (List UInt8)) (Av Ay Ae Ab:Option Addr) (cv cy ce cb:Nat) (w:World) (hT:TyAt w ns root A c) (hv:VS (q+1) w w.heap.size (.mk kd it tx kids keys ents labs) [vI i6 kd,vI i6 it,vT ⟨tx.toArray⟩,vS Av kids.length cv,vS Ay keys.length cy,vS Ae ents.length ce,vS Ab labs.length cb]) (hok:okV (.mk kd it tx kids keys ents labs)=true) (hI:Hid (∀ v' k',k'<ns.length->fu ns v' k'<fu ns (.mk kd it tx kids keys ents labs) k->MemC ns root A c v' k')) :
  Calls tP 83 #[.agg #[vI i6 kd,vI i6 it,vT ⟨tx.toArray⟩,vS Av kids.length cv,vS Ay keys.length cy,vS Ae ents.length ce,vS Ab labs.length cb],.agg #[vS A ns.length c,vI i6 root],vI i6 k] w fun e w'=>e=.returned (.bool (memB ns (.mk kd it tx kids keys ents labs) k))/\bW w w':=by
 have n:=(Bx.1 hx).1;have d:RowP w w.heap.size 8 (vS A ns.length c) ns.length (tnR w (fun b=>b<w.heap.size) ns):=by
  obtain⟨u,hu,_,h⟩:=hT;injection hu with hu _;rw[hu];exact h
 obtain⟨bn,on,N,Ak,ck,Af,cf,hu,L,y,f,B,d0,d1,d2,d3,d4,d5,d6,d7⟩:=TyB.at8 d hx;injection hu with hA hmm hcc;clear hmm;subst hA hcc;have V:=xI (aN y (aN f B));clear d y f B;have HM:=xI (zBn hw hx (.mk kd it tx kids keys ents labs));have r:=xI (aN hw hx);generalize memB ns (.mk kd it tx kids keys ents labs) k=res at *;obtain⟨W,hW⟩:∃ W,W=(((w.alloc (oV kd it ⟨tx.toArray⟩ Av kids.length cv Ay keys.length cy Ae ents.length ce Ab labs.length cb)).alloc (oE (some (aD bn on)) ns.length c root)).alloc (oX K lo hi ⟨tn.toArray⟩ Ak ks.length ck Af fds.length cf r0 r1)):=⟨_,rfl⟩;have g:bW w W:=by rw[hW];exact ((yR.alloc lR _).alloc (by simp) _).alloc (by simp;omega) _
 have F:bW w ((w.alloc (oV kd it ⟨tx.toArray⟩ Av kids.length cv Ay keys.length cy Ae ents.length ce Ab labs.length cb)).alloc (oE (some (aD bn on)) ns.length c root)):=(yR.alloc lR _).alloc (by simp) _;have kv:W.heap[w.heap.size]?=some (oV kd it ⟨tx.toArray⟩ Av kids.length cv Ay keys.length cy Ae ents.length ce Ab labs.length cb):=by rw[hW,Bp _ _ _ (by simp;omega),Bp _ _ _ (by simp)];exact Bl w _
 have kt:W.heap[w.heap.size+1]?=some (oE (some (aD bn on)) ns.length c root):=by rw[hW,Bp _ _ _ (by simp)];exact zAg _ (by simp)
 have kn:W.heap[w.heap.size+1+1]?=some (oX K lo hi ⟨tn.toArray⟩ Ak ks.length ck Af fds.length cf r0 r1):=by rw[hW];exact zAg _ (by simp)
 have I:W.heap.size=w.heap.size+3:=by rw[hW];simp
 have HT:Hid (∀ wq,bW W wq->TyAt wq ns root (some (aD bn on)) c/\bW w wq/\(jV wq w.heap.size kd it ⟨tx.toArray⟩ Av kids.length cv Ay keys.length cy Ae ents.length ce Ab labs.length cb)/\(jT wq (w.heap.size+1) (some (aD bn on)) ns.length c root)/\(jN wq (w.heap.size+1+1) K lo hi ⟨tn.toArray⟩ Ak ks.length ck Af fds.length cf r0 r1)):=xI fun U hU=>by
  have hb:=g.trans (hU.mono (by omega));exact⟨hT.on hb,hb,zAc ((hU.block _ (by omega)).trans kv),zAf ((hU.block _ (by omega)).trans kt),zAe ((hU.block _ (by omega)).trans kn)⟩
 have K8:=kC8 F L d0 d1 d2 d3 d4 d5 d6 d7;clear d0 d1 d2 d3 d4 d5 d6 d7;obtain⟨d0,d1,d2,d3,d4,d5,d6,d7⟩:=K8;have hE:=(HT.out W yR).2.2;have u1:(0:Int)<=(k:Int):=by omega
 have u2:(k:Int)<(ns.length:Int):=by omega
 have HV:=xI hv;clear F g kv kt kn I hx hw n hT hv;rw[hW]at hE;obtain⟨⟨v0,v1,v2,v3,v4,v5,v6⟩,⟨t0,t1⟩,⟨n0,n1,n2,n3,n4,n5,n6,n7⟩⟩:=hE;have v:=r.out.1.edg _ (Bh r.out.2);have J:=r.out.1.node _ (Bh r.out.2);have a:zAj labs=true/\kindB kd it tx kids keys ents=true/\okVs kids=true/\okEs ents=true:=by
  have h:=hok;unfold okV at h;simp only[Cy]at h;exact⟨h.1.1.1.1,h.1.1.2,h.1.2,h.2⟩
 have g:=(HT.out W yR).2.1;have M:=HV.out.later g;subst hK;have z:Hid (memS (memB ns) ⟨19,lo,hi,tn,ks,fds,r0,r1⟩ (.mk kd it tx kids keys ents labs)=labs.any (fun l=>decide (l=tn))):=xI rfl;rw[z.out]at HM;have hv:=HV.out;obtain⟨uk,uy,ue,ul,C,_,_,_,_,_,_,s⟩:=hv;simp only[Bb,and_true,true_and]at C;obtain⟨rfl,rfl,rfl,rfl⟩:=C;have n:labs.length<=maxLen:=by obtain⟨_,_,_,h,_⟩:=s;exact h.1
 have G:=xI (aN s n);clear s n v J a hok z g M;go_enter func83,ntmps83;go_wp2_with fail;rw[<-hW];clear hW v0 v1 v2 v3 v4 v5 v6 t0 t1 n0 n1 n2 n3 n4 n5 n6 n7 d0 d1 d2 d3 d4 d5 d6 d7
 go_loopw [10] (fun iv wr=>∃ i:Nat,iv=vI i6 i/\i<=labs.length/\(labs.take i).any (fun l=>decide (l=tn))=false/\bW W wr) (fun i _=>((labs.length:Int)-intOf i).toNat)
 case atStart=>exact⟨0,rfl,by omega,by simp,Bw _ _⟩
 case round=>
  obtain⟨i,rfl,T,j,D⟩:=hrel;have m:=xI j;have x:=xI D;clear j D;have g6:=(HT.out wr x.out).2.2.1.2.2.2.2.2.2;by_cases him:i<labs.length
  ·have mp:(i:Int)<(labs.length:Int):=by omega
   have m0:(0:Int)<=(i:Int):=by omega
   have Q:IntKind.i64.wrap ((i:Int)+1)=(i:Int)+1:=Br _ (by have:=G.out.2;unfold maxLen at this;omega);have o:=By him;have t:=Cx him;generalize labs[i]=lj at o t;obtain⟨bl,ol,rfl,E,f0⟩:=zQ7 G.out.1 o;have hd:bW W wr.drew:=x.out.drew;have HS:wr.drew.cell? (aH w 6)=some (vS (some (aD bl ol)) labs.length cb)/\wr.drew.cell? (aF w 3)=some (vT ⟨tn.toArray⟩)/\wr.drew.cell? (aD bl (ol+i))=some (vT ⟨lj.toArray⟩):=⟨(HT.out _ hd).2.2.1.2.2.2.2.2.2,(HT.out _ hd).2.2.2.2.2.2.2.1,((HT.out _ hd).2.1.cell (p:=(aD bl (ol+i))) E).trans f0⟩;have H:=xI (aN o t);have HQ:=xI HS;clear o t E f0 HS;by_cases hlt:lj=tn
   ·subst hlt;have O:Hid (labs.any (fun l=>decide (l=lj))=true):=xI (List.any_eq_true.2 ⟨_,H.out.2,by simp⟩);go_wp2_with fail;refine Be (S:=fun wq=>(wq.cell? (aH w 6)=some (vS (some (aD bl ol)) labs.length cb)/\wq.cell? (aF w 3)=some (vT ⟨lj.toArray⟩)/\wq.cell? (aD bl (ol+i))=some (vT ⟨lj.toArray⟩))) (by kernel_rfl) HQ.out (fun _=>?_);refine oT 0 HQ.out ?_
    (iterate 7 refine oY HQ.out ?_)
    refine wD ?_;go_wp2;go_ret;refine⟨?_,(HT.out _ hd).2.1⟩;rw[HM.out,O.out]
    first|rfl|simp
   ·have P:=xI hlt;have R:(lj==tn)=false:=Cm.2 hlt;go_wp2_with fail;refine Be (S:=fun wq=>(wq.cell? (aH w 6)=some (vS (some (aD bl ol)) labs.length cb)/\wq.cell? (aF w 3)=some (vT ⟨tn.toArray⟩)/\wq.cell? (aD bl (ol+i))=some (vT ⟨lj.toArray⟩))) (by kernel_rfl) HQ.out (fun _=>?_);refine oT 0 HQ.out ?_
    (iterate 7 refine oY HQ.out ?_)
    refine wD ?_;go_wp2_with fail
    go_roundw
    case rel=>exact⟨i+1,by go_num,by omega,by rw[zDx H.out.1,m.out];simp[P.out],hd⟩
    case measure=>simp[intOf];try omega
  ·have mp:¬ (i:Int)<(labs.length:Int):=by omega
   go_wp2;go_ret;refine⟨?_,(HT.out _ x.out).2.1⟩;have h:=m.out;rw[B8 (by omega)]at h;rw[HM.out,h]
   first|rfl|simp
theorem zO0 {ns:List Tn}{d:List Bool}{i:Nat}{x:Tn}(h:ns[i]?=some x):stepD ns d i=d.set i (dn d i||kidsD d x):=by unfold stepD;rw[h]
theorem zJa {x:Tn}{Ak Af:Option Addr}{nk ck nf cf:Nat}(w:World):Calls tP 76 #[.agg #[vI i6 x.kind,vI i6 x.lo,vI i6 x.hi,vT ⟨x.text.toArray⟩,vS Ak nk ck,vS Af nf cf,vI i6 x.r0,vI i6 x.r1]] w fun e w'=>e=.returned (.bool (conn x))/\bW w w':=by
 obtain⟨W,hW⟩:∃ W,W=w.alloc (oX x.kind x.lo x.hi ⟨x.text.toArray⟩ Ak nk ck Af nf cf x.r0 x.r1):=⟨_,rfl⟩;have hb:bW w W:=by rw[hW];exact yR.alloc lR _
 unfold conn;generalize x.kind=k at *;by_cases h0:k=16
 ·subst h0;go_enter func76,ntmps76;go_wp2;rw[<-hW];go_ret;exact⟨rfl,hb⟩
 have b0:(k==16)=false:=Cm.2 h0;by_cases h1:k=17
 ·subst h1;go_enter func76,ntmps76;go_wp2;rw[<-hW];go_ret;exact⟨rfl,hb⟩
 have b1:(k==17)=false:=Cm.2 h1;by_cases h2:k=18
 ·subst h2;go_enter func76,ntmps76;go_wp2;rw[<-hW];go_ret;exact⟨rfl,hb⟩
 have b2:(k==18)=false:=Cm.2 h2;go_enter func76,ntmps76;go_wp2;rw[<-hW];go_ret;exact⟨by rw[Ci (show ¬ (k=16\/k=17\/k=18) by omega)];rfl,hb⟩
theorem zJy {α:Type}(f:α->Nat->α) (a:α) (i:Nat):(List.range (i+1)).foldl f a=f ((List.range i).foldl f a) i:=by rw[List.range_succ,List.foldl_append];rfl
theorem zLp {d:List Bool}{x:Tn}(h:conn x=true):kidsD d x=x.kids.all (fun k=>dn d k.toNat):=by unfold kidsD;rw[h];rfl
theorem zLo {d:List Bool}{x:Tn}(h:conn x=false):kidsD d x=true:=by unfold kidsD;rw[h];rfl
theorem zH9 {α:Type}{l:List α}{p:α->Bool}{k:Nat}{x:α}(h:l[k]?=some x):(l.take (k+1)).all p=((l.take k).all p&&p x):=by
 rw[Cr,h,List.all_append];simp
theorem zNt (ns:List Tn) (l:List Nat) (d:List Bool):(l.foldl (stepD ns) d).length=d.length:=(zFi ns l d).1.1.symm
theorem zMe {ns:List Tn}{root:Int}{A:Option Addr}{c:Nat}(w:World) (hT:TyP w w.heap.size ns root [vS A ns.length c,vI i6 root]) (hn:ns.length<=1000000) :
  Calls tP 32 #[.agg #[vS A ns.length c,vI i6 root]] w fun e w'=>e=.returned (vI i6 (wfC ns root))/\bW w w':=by
 obtain⟨W,hW,Y,kW,al⟩:=aW w (oE A ns.length c root)
 have HT:Hid (∀ U,Below (w.heap.size+1) W U->TyP U w.heap.size ns root [vS A ns.length c,vI i6 root]/\bW w U/\U.cell? (aH w 0)=some (vS A ns.length c)/\U.cell? (aH w 1)=some (vI i6 root)/\w.heap.size+1<=U.heap.size):=xI fun U hU=>by
  have hb:=Y.trans (hU.mono (Cg _));have hk:=zAf ((hU.block _ (Nat.lt_succ_self _)).trans kW);exact⟨hT.on hb,hb,hk.1,hk.2,by have:=hU.size;omega⟩
 have J:Hid (RowP w w.heap.size 8 (vS A ns.length c) ns.length (tnR w (fun b=>b<w.heap.size) ns)):=xI (by
  obtain⟨u,hu,_,h⟩:=hT;injection hu with hu _;rw[hu];exact h)
 have HW:=xI (aN Y (aN kW al));have hc:=zAy root W (HT.out W yR).1;clear hT Y kW al;generalize hnl:ns.length=n at *;have o:=xI hnl;clear hnl;go_enter func32,ntmps32;go_wp2_with fail;rw[<-hW];clear hW;refine hc.mono ?_;rintro e w1 ⟨rfl,hb1⟩;have Z:Below (w.heap.size+1) W w1:=hb1.mono (by have:=HW.out.2.2;omega);clear hc;cases hix:idxB n root with
 | false=>
  go_wp2;go_ret;exact⟨by unfold wfC;rw[o.out,hix];rfl,(HT.out w1 Z).2.1⟩
 | true=>
 have n0:0<n:=by have:=zFk.1 hix;omega
 have a3:=xI hix;have aj:=xI Z;clear hix hb1 Z;obtain⟨t0,t1,aS⟩:=(HT.out w1 aj.out).2.2;go_wp2_with fail
 go_loopw [3] (fun iv wr=>∃ i:Nat,iv=vI i6 i/\i<=n/\(∀ m x,m<i->ns[m]?=some x->tnB n x=true)/\Below (w.heap.size+1) W wr) (fun i _=>((n:Int)-intOf i).toNat)
 case atStart=>exact⟨0,rfl,by omega,fun m x hm=>absurd hm (by omega),aj.out⟩
 case round=>
  obtain⟨i,rfl,hi,a,ar⟩:=hrel;have af:=xI ar;have q:=xI a;clear ar a t0 t1 aS;obtain⟨t0,t1,T⟩:=(HT.out wr af.out).2.2;by_cases hin:i<n
  ·have mp:(i:Int)<(n:Int):=by omega
   have m0:(0:Int)<=(i:Int):=by omega
   have bg:IntKind.i64.wrap ((i:Int)+1)=(i:Int)+1:=Br _ (by omega);have z:i<ns.length:=by have:=o.out;omega
   have hx:=By z;generalize ns[i]=x at hx;have d:RowP w w.heap.size 8 (vS A ns.length c) ns.length (tnR w (fun b=>b<w.heap.size) ns):=by have:=J.out;rw[o.out];exact this
   obtain⟨bn,on,aa,Ak,ck,Af,cf,hu,f,M,l,N,d0,d1,d2,d3,d4,d5,d6,d7⟩:=TyB.at8 d hx;injection hu with hA _ hcc;subst hA hcc;clear d;have hd:Below (w.heap.size+1) W wr.drew:=af.out.drew;have HQ:Hid (∀ wq,Below (w.heap.size+1) W wq->(jT wq w.heap.size (some (aD bn on)) n c root)/\wq.cell? (aD bn (on+i*8))=some (vI i6 x.kind)/\wq.cell? (aD bn (on+i*8+1))=some (vI i6 x.lo)/\wq.cell? (aD bn (on+i*8+2))=some (vI i6 x.hi)/\wq.cell? (aD bn (on+i*8+3))=some (vT ⟨x.text.toArray⟩)/\wq.cell? (aD bn (on+i*8+4))=some (vS Ak x.kids.length ck)/\wq.cell? (aD bn (on+i*8+5))=some (vS Af x.fds.length cf)/\wq.cell? (aD bn (on+i*8+6))=some (vI i6 x.r0)/\wq.cell? (aD bn (on+i*8+7))=some (vI i6 x.r1)):=xI fun wq h=>by
    obtain⟨_,hb,q0,q1,_⟩:=HT.out wq h;exact⟨⟨q0,q1⟩,(hb.cell (p:=(aD bn _)) f).trans d0,(hb.cell (p:=(aD bn _)) f).trans d1,(hb.cell (p:=(aD bn _)) f).trans d2,(hb.cell (p:=(aD bn _)) f).trans d3,(hb.cell (p:=(aD bn _)) f).trans d4,(hb.cell (p:=(aD bn _)) f).trans d5,(hb.cell (p:=(aD bn _)) f).trans d6,(hb.cell (p:=(aD bn _)) f).trans d7⟩
   have I:=HT.out _ hd;have aA:TnP wr.drew wr.drew.heap.size x [vI i6 x.kind,vI i6 x.lo,vI i6 x.hi,vT ⟨x.text.toArray⟩,vS Ak x.kids.length ck,vS Af x.fds.length cf,vI i6 x.r0,vI i6 x.r1]:=by
    have h:TnP w w.heap.size x [vI i6 x.kind,vI i6 x.lo,vI i6 x.hi,vT ⟨x.text.toArray⟩,vS Ak x.kids.length ck,vS Af x.fds.length cf,vI i6 x.r0,vI i6 x.r1]:=⟨_,_,rfl,M,l,N⟩;exact (h.on I.2.1).up (by have:=I.2.2.2.2;omega)
   have H:TyP wr.drew wr.drew.heap.size ns root [vS (some (aD bn on)) n c,vI i6 root]:=I.1.up (by have:=I.2.2.2.2;omega);have hc:Calls tP 75 #[.agg #[vS (some (aD bn on)) n c,vI i6 root],.agg #[vI i6 x.kind,vI i6 x.lo,vI i6 x.hi,vT ⟨x.text.toArray⟩,vS Ak x.kids.length ck,vS Af x.fds.length cf,vI i6 x.r0,vI i6 x.r1]] wr.drew fun e w'=>e=.returned (.bool (tnB ns.length x))/\Below wr.drew.heap.size wr.drew w':=zK5 wr.drew H aA;rw[o.out]at hc;have HX:=xI hx;clear M l N d0 d1 d2 d3 d4 d5 d6 d7 hx I aA H z;generalize x.kids.length=kl at *;generalize x.fds.length=fl at *;go_wp2_with fail;refine Be (S:=fun wq=>(jT wq w.heap.size (some (aD bn on)) n c root)/\wq.cell? (aD bn (on+i*8))=some (vI i6 x.kind)/\wq.cell? (aD bn (on+i*8+1))=some (vI i6 x.lo)/\wq.cell? (aD bn (on+i*8+2))=some (vI i6 x.hi)/\wq.cell? (aD bn (on+i*8+3))=some (vT ⟨x.text.toArray⟩)/\wq.cell? (aD bn (on+i*8+4))=some (vS Ak kl ck)/\wq.cell? (aD bn (on+i*8+5))=some (vS Af fl cf)/\wq.cell? (aD bn (on+i*8+6))=some (vI i6 x.r0)/\wq.cell? (aD bn (on+i*8+7))=some (vI i6 x.r1)) (by kernel_rfl) (HQ.out _ hd) (fun _=>?_);refine oT 0 (HQ.out _ hd) ?_
   (iterate 5 refine oY (HQ.out _ hd) ?_)
   refine oO 6 fun K hK=>?_;go_simp;refine hc.mono ?_;rintro e w2 ⟨rfl,hb2⟩;have C:Below (w.heap.size+1) W w2:=hd.trans (hb2.mono (by have:=hd.size;have:=HW.out.2.2;omega));clear hc;refine hK _ _ (HQ.out _ C) (oP ?_);clear hK K;refine oT 7 (HQ.out _ C) ?_;refine wD ?_;cases hxx:tnB n x with
   | false=>
    go_wp2;go_ret;exact⟨by
     have hf:ns.all (tnB n)=false:=by
      rw[Dy];exact⟨x,Bh HX.out,by rw[hxx];decide⟩
     unfold wfC;rw[o.out,hf];simp,(HT.out w2 C).2.1⟩
   | true=>
    go_wp2_with fail
    go_roundw
    case rel=>exact⟨i+1,by go_num,by omega,fun m y hm hy=>by
      by_cases hmi:m=i
      ·subst hmi;rw[HX.out]at hy;injection hy with hy;rw[<-hy];exact hxx
      ·exact q.out m y (by omega) hy,C⟩
    case measure=>simp[intOf];try omega
  ·have mp:¬ (i:Int)<(n:Int):=by omega
   have a:ns.all (tnB n)=true:=by
    rw[Cz];intro x hx;obtain⟨m,hm⟩:=D4.1 hx;exact q.out m x (by have:=(Bx.1 hm).1;have:=o.out;omega) hm
   have aC:Hid (wfC ns root=if (zAk ns n).all id then 0 else 3):=xI (by unfold wfC;rw[o.out,a3.out,a];simp);have HV:Hid (∀ x∈ns,∀ k∈x.kids,0<=k/\k<n):=xI (fun x hx k hk=>by
    have h:=Cz.1 a x hx;simp only[tnB,Cy,Cz,idxB,Bf]at h;exact h.1.1 k hk)
   obtain⟨W5,aU,ao,az,am⟩:=zEh wr n hn;have aB:Below (w.heap.size+1) W W5:=af.out.trans (az.mono T);have a7:=xI aB;have a0:=xI ao;have aX:w.heap.size+1<=wr.heap.size:=T;clear a aB ao az;have bm:=xI am;clear am q T;clear aj;generalize wr.heap.size=g at *;go_wp2_with fail;clear aU t0 t1;rename World=>wA
   go_loopw [5] (fun iv wq=>∃ r:Nat,iv=vI i6 r/\r<=n/\BRow wq g (zAk ns r)/\Below (w.heap.size+1) W wq) (fun i _=>((n:Int)-intOf i).toNat)
   case atStart=>exact⟨0,rfl,by omega,by have:=a0.out;rw[<-o.out]at this;exact this,a7.out⟩
   case round=>
    obtain⟨r,rfl,hr,v,au⟩:=hrel;have ab:=xI v;have Q:=xI au;clear v au;rename World=>wR;obtain⟨t0,t1,R⟩:=(HT.out wR Q.out).2.2;by_cases hrn:r<n
    ·have aQ:(r:Int)<(n:Int):=by omega
     have bf:IntKind.i64.wrap ((r:Int)+1)=(r:Int)+1:=Br _ (by omega);go_wp2_with fail
     go_loopw [6] (fun iv wq=>∃ i:Nat,iv=vI i6 i/\i<=n/\BRow wq g ((List.range i).foldl (stepD ns) (zAk ns r))/\Below (w.heap.size+1) W wq) (fun i _=>((n:Int)-intOf i).toNat)
     case atStart=>exact⟨0,rfl,by omega,ab.out,Q.out⟩
     case round=>
      obtain⟨i,rfl,hi,t,ay⟩:=hrel;have aG:=xI t;have ai:=xI ay;clear t ay t0 t1 R;rename World=>wI;obtain⟨t0,t1,aR⟩:=(HT.out wI ai.out).2.2;by_cases hin:i<n
      ·have aP:(i:Int)<(n:Int):=by omega
       have bb:(0:Int)<=(i:Int):=by omega
       have be:IntKind.i64.wrap ((i:Int)+1)=(i:Int)+1:=Br _ (by omega);have z:i<ns.length:=by have:=o.out;omega
       have hx:=By z;generalize ns[i]=x at hx;have d:RowP w w.heap.size 8 (vS A ns.length c) ns.length (tnR w (fun b=>b<w.heap.size) ns):=by have:=J.out;rw[o.out];exact this
       obtain⟨bn,on,aa,Ak,ck,Af,cf,hu,f,M,l,N,d0,d1,d2,d3,d4,d5,d6,d7⟩:=TyB.at8 d hx;injection hu with hA _ hcc;subst hA hcc;clear d;have aL:Hid (((List.range i).foldl (stepD ns) (zAk ns r)).length=n):=xI (by rw[zNt,zAt,o.out]);have aZ:Hid ((List.range (i+1)).foldl (stepD ns) (zAk ns r)=((List.range i).foldl (stepD ns) (zAk ns r)).set i (dn ((List.range i).foldl (stepD ns) (zAk ns r)) i||kidsD ((List.range i).foldl (stepD ns) (zAk ns r)) x)):=xI (by rw[zJy,zO0 hx]);generalize (List.range i).foldl (stepD ns) (zAk ns r)=D at *;have G:x.kids.length<=maxLen:=by obtain⟨_,_,_,h,_⟩:=l;exact h.1
       obtain⟨bk,ok,O,X⟩:=zD6 l;have a6:Hid (∀ wq:World,Calls tP 76 #[.agg #[vI i6 x.kind,vI i6 x.lo,vI i6 x.hi,vT ⟨x.text.toArray⟩,vS Ak x.kids.length ck,vS Af x.fds.length cf,vI i6 x.r0,vI i6 x.r1]] wq fun e w'=>e=.returned (.bool (conn x))/\bW wq w'):=xI fun wq=>zJa wq;have a1:Hid (∀ k∈x.kids,0<=k/\k<n):=xI (HV.out x (Bh hx));have aK:Hid (∀ wq,Below (w.heap.size+1) W wq->wq.cell? (aD bn (on+i*8))=some (vI i6 x.kind)/\wq.cell? (aD bn (on+i*8+1))=some (vI i6 x.lo)/\wq.cell? (aD bn (on+i*8+2))=some (vI i6 x.hi)/\wq.cell? (aD bn (on+i*8+3))=some (vT ⟨x.text.toArray⟩)/\wq.cell? (aD bn (on+i*8+4))=some (vS Ak x.kids.length ck)/\wq.cell? (aD bn (on+i*8+5))=some (vS Af x.fds.length cf)/\wq.cell? (aD bn (on+i*8+6))=some (vI i6 x.r0)/\wq.cell? (aD bn (on+i*8+7))=some (vI i6 x.r1)):=xI fun wq h=>by
        have hb:=(HT.out wq h).2.1;exact⟨(hb.cell (p:=(aD bn _)) f).trans d0,(hb.cell (p:=(aD bn _)) f).trans d1,(hb.cell (p:=(aD bn _)) f).trans d2,(hb.cell (p:=(aD bn _)) f).trans d3,(hb.cell (p:=(aD bn _)) f).trans d4,(hb.cell (p:=(aD bn _)) f).trans d5,(hb.cell (p:=(aD bn _)) f).trans d6,(hb.cell (p:=(aD bn _)) f).trans d7⟩
       have a2:Hid (∀ wq,Below (w.heap.size+1) W wq->∀ j k,x.kids[j]?=some k->Ak=some (aD bk ok)/\wq.cell? (aD bk (ok+j))=some (vI i6 k)):=xI fun wq h j k hj=>by
        have h0:=O (by have:=(Bx.1 hj).1;omega);exact⟨h0.1,((HT.out wq h).2.1.cell (p:=(aD bk (ok+j))) h0.2).trans (X j k hj).1⟩
       have HX:=xI (aN hx G);clear M l N d0 d1 d2 d3 d4 d5 d6 d7 hx z O X G;go_wp2_with fail
       go_loopw [7,8] (fun av kv wq=>∃ k:Nat,kv=vI i6 k/\k<=x.kids.length/\av=.bool ((x.kids.take k).all (fun k=>dn D k.toNat))/\(conn x=true\/k=0)/\BRow wq g D/\Below (w.heap.size+1) W wq) (fun _ k _=>((x.kids.length:Int)-intOf k).toNat)
       case atStart=>exact⟨0,rfl,by omega,rfl,.inr rfl,aG.out,ai.out⟩
       case round=>
        obtain⟨k,rfl,hk,rfl,aq,d,aw⟩:=hrel;have aE:=xI d;have ag:=xI aw;have a5:=xI aq;clear d aw aq t0 t1 aR;obtain⟨t0,t1,ak⟩:=(HT.out _ ag.out).2.2;obtain⟨e0,e1,e2,e3,e4,e5,e6,e7⟩:=aK.out _ ag.out;rename World=>wK;have a9:(0:Int)<=(k:Int):=by omega
        generalize G:x.kids.length=kl at *;generalize hfl:x.fds.length=fl at *;have P:=xI (aN G hfl);clear G hfl;go_wp2_with fail;refine (a6.out wK).mono ?_;rintro e w2 ⟨rfl,hb2⟩;have C:Below (w.heap.size+1) W w2:=ag.out.trans (hb2.mono (by omega));have E:BRow w2 g D:=aE.out.on (hb2.block _ aE.out.lt);have aI:=xI E;have L:=xI C;clear t0 t1 ak e0 e1 e2 e3 e4 e5 e6 e7 hb2 C;obtain⟨t0,t1,ak⟩:=(HT.out _ L.out).2.2;obtain⟨e0,e1,e2,e3,e4,e5,e6,e7⟩:=aK.out _ L.out;clear e0 e1 e2 e3 e5 e6 e7;by_cases hgo:conn x=true/\k<kl
        ·have a8:(k:Int)<(kl:Int):=by omega
         rw[hgo.1];have bd:IntKind.i64.wrap ((k:Int)+1)=(k:Int)+1:=Br _ (by have:=HX.out.2;unfold maxLen at this;omega);have ap:k<x.kids.length:=by have:=P.out.1;omega
         have F:=By ap;generalize x.kids[k]=kj at F;have V:=a1.out kj (Bh F);obtain⟨O,X⟩:=a2.out _ L.out k kj F;obtain⟨km,rfl⟩:∃ km:Nat,kj=(km:Int):=⟨kj.toNat,by omega⟩;subst O;have bj:=E.cell (k:=km) (by rw[aL.out];omega);have k2:(km:Int)<(n:Int):=V.2;have k3:(0:Int)<=(km:Int):=V.1;have aY:Hid ((x.kids.take (k+1)).all (fun k=>dn D k.toNat)=((x.kids.take k).all (fun k=>dn D k.toNat)&&dn D km)):=xI (by rw[zH9 F];rfl);generalize (x.kids.take k).all (fun k=>dn D k.toNat)=b0 at *;generalize dn D km=b1 at *;have a4:=xI hgo.1;have bo:=xI F;clear hgo V F ap E;cases b0
         all_goals
          cases b1
          all_goals
           go_wp2_with fail
           go_roundw
           case rel=>exact⟨k+1,by go_num,by have:=P.out.1;omega,by rw[aY.out];rfl,.inl a4.out,aI.out,L.out⟩
           case measure=>have:=P.out.1;simp[intOf];try omega
        ·have aM:Hid (kidsD D x=(x.kids.take k).all (fun k=>dn D k.toNat)):=xI (by
          cases hcx:conn x with
          | true=>
           have aV:kl<=k:=by
            rcases Nat.lt_or_ge k kl with h|h
            ·exact absurd ⟨hcx,h⟩ hgo
            ·exact h
           rw[zLp hcx,B8 (by rw[P.out.1];exact aV)]
          | false=>
           rcases a5.out with h|h
           ·rw[hcx]at h;simp at h
           ·rw[zLo hcx,h];rfl)
         have aT:conn x=false\/¬ (k:Int)<(kl:Int):=by
          cases hcx:conn x with
          | false=>exact .inl rfl
          | true=>right;intro h;exact hgo ⟨hcx,by omega⟩
         have bi:=E.cell (k:=i) (by rw[aL.out];exact hin);have bh:=E.froz i;have aJ:Hid (∀ b,(dn D i||kidsD D x)=b->∀ wq,wq=w2.setCell (aD g i) (.bool b)->BRow wq g ((List.range (i+1)).foldl (stepD ns) (zAk ns r))/\Below (w.heap.size+1) W wq):=xI fun b hb wq hwq=>by
          rw[aZ.out,hb,hwq];exact⟨aI.out.set i b,L.out.setCell (p:=(aD g i)) aX _⟩
         rw[aM.out]at aJ;generalize (x.kids.take k).all (fun k=>dn D k.toNat)=b0 at *;generalize dn D i=b1 at *;clear hgo E aM;rcases aT with hcf|hcf
         case' inl=>rw[hcf]
         case' inr=>cases hcx:conn x
         all_goals
          cases b0
          all_goals
           cases b1
           all_goals
            go_wp2_with fail
            go_roundw
            case rel=>exact⟨i+1,by go_num,by omega,aJ.out _ rfl _ rfl⟩
            case measure=>simp[intOf];try omega
      ·have aP:¬ (i:Int)<(n:Int):=by omega
       obtain rfl:i=n:=by omega
       clear ab Q;go_wp2_with fail
       go_roundw
       case rel=>exact⟨r+1,by go_num,by omega,by have:=aG.out;unfold zAk zIk;rw[o.out];exact this,ai.out⟩
       case measure=>simp[intOf];try omega
    ·have aQ:¬ (r:Int)<(n:Int):=by omega
     obtain rfl:r=n:=by omega
     have ad:Hid ((zAk ns r).length=r):=xI (by rw[zAt,o.out]);go_wp2_with fail
     go_loopw [9] (fun iv wq=>∃ i:Nat,iv=vI i6 i/\i<=r/\(∀ m,m<i->dn (zAk ns r) m=true)/\BRow wq g (zAk ns r)/\Below (w.heap.size+1) W wq) (fun i _=>((r:Int)-intOf i).toNat)
     case atStart=>exact⟨0,rfl,by omega,fun m hm=>absurd hm (by omega),ab.out,Q.out⟩
     case round=>
      obtain⟨i,rfl,hi,a,an,ax⟩:=hrel;have q:=xI a;have ah:=xI ax;have aF:=xI an;clear a ax an;by_cases hin:i<r
      ·have aO:(i:Int)<(r:Int):=by omega
       have ba:(0:Int)<=(i:Int):=by omega
       have bc:IntKind.i64.wrap ((i:Int)+1)=(i:Int)+1:=Br _ (by omega);have B:=aF.out.cell (k:=i) (by rw[ad.out];exact hin);cases s:dn (zAk ns r) i with
       | false=>
        rw[s]at B;have ae:=xI s;clear s;go_wp2;go_ret;refine⟨?_,(HT.out _ ah.out).2.1⟩;have s:=ae.out;have hf:(zAk ns r).all id=false:=by
         rw[Dy];unfold dn at s;have z:i<(zAk ns r).length:=by rw[ad.out];exact hin
         rw[By z]at s;exact⟨_,Cx z,by simp at s;simp[s]⟩
        rw[aC.out,hf];rfl
       | true=>
        rw[s]at B;have ae:=xI s;clear s;go_wp2_with fail
        go_roundw
        case rel=>exact⟨i+1,by go_num,by omega,fun m hm=>by
         by_cases hmi:m=i
         ·rw[hmi];exact ae.out
         ·exact q.out m (by omega),aF.out,ah.out⟩
        case measure=>simp[intOf];try omega
      ·have aO:¬ (i:Int)<(r:Int):=by omega
       go_wp2;go_ret;refine⟨?_,(HT.out _ ah.out).2.1⟩;have hf:(zAk ns r).all id=true:=by
        rw[Cz];intro b hb;obtain⟨m,hm,rfl⟩:=List.mem_iff_getElem.1 hb;have h:=q.out m (by rw[ad.out]at hm;omega);unfold dn at h;rw[By hm]at h;exact h
       rw[aC.out,hf];rfl
abbrev SbT:=List Tn×(List UInt8->Option Int)
noncomputable def stp (nm:List (List UInt8)) (st:SbT) (x:List UInt8×Ty):SbT:=
 if x.1∈nm/\st.2 x.1=none then ((gr (fun _=>none) (accT x.2) st.1).1,fun z=>if z=x.1 then some (gr (fun _=>none) (accT x.2) st.1).2 else st.2 z) else st
noncomputable def sbS (nm:List (List UInt8)) (l:List (List UInt8×Ty)):SbT:=l.foldl (stp nm) ([],fun _=>none)
def vnm (t:Ty):List (List UInt8):=srt (varL (accT t).1 (visR (accT t).1 (accT t).2.toNat))
noncomputable def subT (t:Ty) (l:List (List UInt8×Ty)):Ty:=gr (sbS (vnm t) l).2 (accT t) (sbS (vnm t) l).1
theorem zO5 (nm:List (List UInt8)) (l:List (List UInt8×Ty)) (x:List UInt8×Ty):sbS nm (l++[x])=stp nm (sbS nm l) x:=by
 unfold sbS;rw[List.foldl_append];rfl
structure SbOk (st:SbT) (m:Nat):Prop where
 ok:BOk 0 st.1
 rt:∀ s p,st.2 s=some p->0<=p/\p<(st.1.length:Int)
 sm:st.1.length<=m/\∀ x∈st.1,kidOk x
theorem SbOk.nil:SbOk ([],fun _=>none) 0:=
 ⟨⟨(fun i x hx=>by simp at hx),(fun x hx=>by simp at hx),⟨fun _=>0,(fun i x hx=>by simp at hx)⟩⟩,(fun s p h=>by cases h),⟨Bc _,(fun x hx=>by simp at hx)⟩⟩
theorem SbOk.gr {st:SbT}{m n:Nat}{f:List UInt8->Option Int}(h:SbOk st m){t:Ty}(ht:SmT n t) (hn:1<=n) (hf:∀ s p,f s=some p->0<=p/\p<(st.1.length:Int)) :
  BOk 0 (gr f (accT t) st.1).1/\(0<=(gr f (accT t) st.1).2/\(gr f (accT t) st.1).2<((gr f (accT t) st.1).1.length:Int))/\((gr f (accT t) st.1).1.length<=m+n/\∀ x∈(gr f (accT t) st.1).1,kidOk x):=by
 have h1:=gr_ok (z:=0) (f:=f) (zCi t) h.ok (Bt _) (fun s p hs=>by have:=hf s p hs;omega);exact⟨h1.1,by have:=h1.2;omega,zKr (m:=m) (f:=f) (zCi t) (zC5 ht hn) h.sm.1 h.sm.2⟩
theorem SbOk.stp {nm:List (List UInt8)}{st:SbT}{m n:Nat}(h:SbOk st m){x:List UInt8×Ty}(ht:SmT n x.2) (hn:1<=n):SbOk (stp nm st x) (m+n):=by
 unfold Proofs.YteedihhdcbepmaaGreat.stp;split
 ·have hg:=h.gr (f:=fun _=>none) ht hn (fun s p h=>by cases h);refine⟨hg.1,fun s p hs=>?_,hg.2.2⟩;dsimp only at hs;split at hs
  ·injection hs with hs;rw[<-hs];exact hg.2.1
  ·have h1:=h.rt s p hs;have h2:=zSt (f:=fun _=>none) (t:=accT x.2) (bs:=st.1);exact⟨h1.1,by show p<(((Proofs.YteedihhdcbepmaaGreat.gr (fun _=>none) (accT x.2) st.1).1.length:Nat):Int);omega⟩
 ·exact⟨h.ok,h.rt,⟨by have:=h.sm.1;omega,h.sm.2⟩⟩
theorem zMu {nm:List (List UInt8)}{n:Nat}(hn:1<=n):∀ (l:List (List UInt8×Ty)) (st:SbT) (m:Nat),SbOk st m->(∀ x∈l,SmT n x.2)->SbOk (l.foldl (stp nm) st) (m+l.length*n)
 | [],st,m,h,_=>by simpa using h
 | x::l,st,m,h,hl=>by
  have h1:=zMu (nm:=nm) hn l _ _ (h.stp (nm:=nm) (hl x (Ca ..)) hn) fun y hy=>hl y (C0 _ hy);rw[Dn,Cj,C6,Nat.one_mul,Nat.add_comm (l.length*n),<-Da];exact h1
theorem zQ3 {nm:List (List UInt8)}{n:Nat}(hn:1<=n) (l:List (List UInt8×Ty)) (hl:∀ x∈l,SmT n x.2):SbOk (sbS nm l) (l.length*n):=by
 have h:=zMu (nm:=nm) hn l _ _ SbOk.nil hl
 rwa [Dx]at h
theorem gr_wf {t:Ty}{f:List UInt8->Option Int}{bs:List Tn}(h1:BOk 0 (gr f (accT t) bs).1) (h2:0<=(gr f (accT t) bs).2/\(gr f (accT t) bs).2<((gr f (accT t) bs).1.length:Int)):WfT (gr f (accT t) bs):=by
 have hw:Wf (gr f (accT t) bs).1:=⟨fun x hx=>by
  obtain⟨i,hi⟩:=D4.1 hx;exact (h1.node i x hi (Bt _)).1,h1.ctr⟩
 exact WfT.mk hw h2.1 h2.2
theorem zMp {t:Ty}{l:List (List UInt8×Ty)}{n:Nat}(hn:1<=n) (ht:SmT n t) (hl:∀ x∈l,SmT n x.2):WfT (subT t l)/\SmT ((l.length+1)*n) (subT t l):=by
 have h:=zQ3 (nm:=vnm t) hn l hl;have hg:=h.gr ht hn h.rt;refine⟨gr_wf hg.1 hg.2.1,⟨?_,hg.2.2.2⟩⟩;have:=hg.2.2.1;rw[C6,Nat.one_mul];exact this
theorem zEn {nm:List (List UInt8)}:∀ (l:List (List UInt8×Ty)) (st:SbT),(∀ x∈l,x.1 ∉ nm\/st.2 x.1≠none)->l.foldl (stp nm) st=st
 | [],_,_=>rfl
 | x::l,st,h=>by
  have h1:stp nm st x=st:=by
   unfold stp;rw[if_neg];rintro⟨ha,hb⟩;rcases h x (Ca ..)with h|h
   ·exact h ha
   ·exact h hb
  rw[Dn,h1];exact zEn l st fun y hy=>h y (C0 _ hy)
theorem zO6 {nm:List (List UInt8)}(l:List (List UInt8×Ty)) (h:∀ x∈l,x.1 ∉ nm):sbS nm l=([],fun _=>none):=zEn l _ fun x hx=>.inl (h x hx)
theorem zMq {t:Ty}{l:List (List UInt8×Ty)}(h:∀ x∈l,x.1 ∉ vnm t):subT t l=pruT t:=by
 unfold subT;rw[zO6 l h];rfl
def vrT (s:List UInt8):Ty:=([⟨19,0,0,s,[],[],0,0⟩],0)
theorem zKe {s:List UInt8}(h:varB s=true):WfT (vrT s):=by
 refine WfT.mk ⟨fun x hx=>?_,⟨fun _=>0,fun i x hx hc k hk=>?_⟩⟩ (by show (0:Int)<=0;decide) (by show (0:Int)<((1:Nat):Int);decide)
 ·simp[vrT]at hx;subst hx;simp[tnB,useB,formB,h]
 ·have:=Bh hx;simp[vrT]at this;subst this;simp at hk
theorem zMg {s:List UInt8}:visR (vrT s).1 (vrT s).2.toNat=[0]:=by rfl
theorem zMf {s:List UInt8}(h:varB s=true):vnm (vrT s)=[s]:=by
 unfold vnm;rw[zGj (zKe h),zMg];show srt [s]=[s];have h1:=zB4 [s];have h2:=(zBq [s] s).2 (by simp)
 match hq:srt [s],h1,h2 with
 | [],_,h2=>cases h2
 | [a],_,h2=>rw[Ct.1 h2]
 | a::b::l,h1,_=>simp at h1
theorem zMh {s:List UInt8}(h:varB s=true) (v:Vl):memT v (vrT s)=(labsV v).any fun l=>decide (l=s):=by
 rw[zHu (zKe h)];show memB (vrT s).1 v 0=_;rw[zBn (zKe h).wf (k:=0) (x:=⟨19,0,0,s,[],[],0,0⟩) rfl];rfl
theorem zKg {s:List UInt8}(h:varB s=true){l1 l2:List (List UInt8×Ty)}{u:Ty}(h1:∀ x∈l1,x.1≠s):subT (vrT s) (l1++(s,u)::l2)=pruT u:=by
 have hv:=zMf h;have a:sbS [s] (l1++(s,u)::l2)=((gr (fun _=>none) (accT u) []).1,fun z=>if z=s then some (gr (fun _=>none) (accT u) []).2 else none):=by
  unfold sbS;rw[List.foldl_append,Dn,zEn l1 _ fun x hx=>.inl (by simpa using h1 x hx)];have h2:stp [s] ([],fun _=>none) (s,u)=((gr (fun _=>none) (accT u) []).1,fun z=>if z=s then some (gr (fun _=>none) (accT u) []).2 else none):=by
   unfold stp;rw[if_pos ⟨by simp,rfl⟩]
  rw[h2];refine zEn l2 _ fun x _=>?_;by_cases hx:x.1=s
  ·exact .inr (by rw[hx];simp)
  ·exact .inl (by simpa using hx)
 unfold subT;rw[hv,a,zGj (zKe h)];show gr (fun z=>if z=s then some (pruT u).2 else none) (vrT s) (pruT u).1=pruT u;generalize pruT u=G;obtain⟨g1,g2⟩:=G;unfold gr;rw[zMg];simp[keptL,plc,grfN,sub1,nd,vrT]
theorem RowB.at3 {w:World}{H n j:Nat}{u:Value}{R:Nat->List Value->Prop}(h:RowP w H 3 u n R) (hj:j<n) :
  ∃ b off cap x0 x1 x2,u=vS (some (aD b off)) n cap/\b<H/\R j [x0,x1,x2]/\w.cell? (aD b (off+j*3))=some x0/\w.cell? (aD b (off+j*3+1))=some x1/\w.cell? (aD b (off+j*3+2))=some x2:=by
 obtain⟨A,cap,h1,_,h3⟩:=h;obtain⟨b,off,rfl,h5,_,h7⟩:=h3 (by omega);obtain⟨cs,h8,h9,a⟩:=h7 j hj
 match cs,h8 with
 | [x0,x1,x2],_=>exact⟨b,off,cap,x0,x1,x2,h1,h5,a,h9 0 (by omega),h9 1 (by omega),h9 2 (by omega)⟩
def bndR (w:World) (H:Nat) (bl:List (List UInt8×Ty)) (j:Nat) (cs:List Value):Prop:=∃ s t,bl[j]?=some (s,t)/\∃ A c,cs=[vT ⟨s.toArray⟩,vS A t.1.length c,vI i6 t.2]/\s.length<=maxLen/\TyP w H t.1 t.2 [vS A t.1.length c,vI i6 t.2]
theorem zMl {w:World}{B:Nat->Prop}{ns:List Tn}{r:Int}{cs:List Value}(h:TyB w B ns r cs):∀ x∈ns,x.text.length<=maxLen:=fun x hx=>by
 obtain⟨u,_,_,A,cap,_,_,h3⟩:=h;obtain⟨j,hj⟩:=D4.1 hx;have c:=(Bx.1 hj).1;obtain⟨b,d,_,_,_,h7⟩:=h3 (by omega);obtain⟨cs,_,_,y,hy,_,_,_,a,_,_⟩:=h7 j c;rw[hj]at hy;injection hy with hy;subst hy;exact a.2.2.2.1
theorem zIb {t:Ty}(h:∀ x∈t.1,x.text.length<=maxLen):Short (vnm t):=fun s hs=>by
 have hs:=(zBq _ s).1 hs;unfold varL at hs;obtain⟨n,hn,rfl⟩:=Cd.1 hs;unfold nd;cases hq:(accT t).1[n.toNat]? with
 | none=>show ([]:List UInt8).length<=maxLen;exact Bt _
 | some x=>
  have hx:=Bh hq;unfold accT at hx;split at hx
  ·exact h x hx
  ·simp[noneT]at hx;subst hx;show ([]:List UInt8).length<=maxLen;exact Bt _
theorem OwnN.stay {w w':World}{B:Nat}{v:Value}{ss:List Strg}(h:OwnN w B v ss) (hb:∀ g,B<=g->g<w.heap.size->w'.heap[g]?=w.heap[g]?):OwnN w' B v ss:=by
 obtain⟨h1,h2⟩:=h;refine⟨h1,?_⟩;rcases h2 with h2|⟨g,cap,cur,hv,hg,hc,hr⟩
 ·exact .inl h2
 ·exact .inr ⟨g,cap,cur,hv,hg,(hb g hg (Cv.1 hc).1).trans hc,hr⟩
structure SB (w2 wr:World) (bb mb B0:Nat) (v:Value) (css:List (List Value)) (st:SbT) (n:Nat):Prop where
 box:wr.heap[bb]?=some (.cells #[v] 101 (0,0))
 own:OwnQ wr B0 v css
 nds:NdsB wr (GD 0 B0 bb v wr) css st.1
 ob:∀ g,v.ownBlock=some g->B0<=g
 map:MapS wr mb n st.2
 siz:B0<=wr.heap.size
 low:Below bb w2 wr
 blk:∀ b,b<B0->b≠bb->b≠mb->wr.heap[b]?=w2.heap[b]?
section
variable {w2 wr:World}{bb mb B0:Nat}{v:Value}{css:List (List Value)}{st:SbT}{n:Nat}
theorem SB.below (h:SB w2 wr bb mb B0 v css st n) (hc:bb<mb/\mb<B0){X:World}(hb:bW wr X):SB w2 X bb mb B0 v css st n:=by
 have hl:=h.siz;have hz:=hb.size;exact⟨(hb.block bb (by omega)).trans h.box,OwnE.stay zBs h.own (fun g _ hl=>hb.block g hl),(h.nds.keep (Same.of_below hb fun b hd=>hd.1)).sub (fun b hd=>⟨by have:=hd.1;omega,hd.2.1,hd.2.2.1,hd.2.2.2⟩),h.ob,h.map.kept (hb.block mb (by omega)),by omega,h.low.trans (hb.mono (by omega)),fun b h1 h2 h3=>(hb.block b (by omega)).trans (h.blk b h1 h2 h3)⟩
theorem SB.graft (h:SB w2 wr bb mb B0 v css st n) (hc:bb<mb/\mb<B0){w':World}{bs':List Tn}{v':Value}{css':List (List Value)}(hG:GrS B0 bb B0 wr v.ownBlock bs' w' v' css'):SB w2 w' bb mb B0 v' css' (bs',st.2) n:=by
 have hl:=h.siz;have hv:∀ b,b<B0->v.ownBlock≠some b:=fun b hb e=>by have:=h.ob b e;omega
 have hb:Below bb wr w':=hG.vk.below lR lR (fun g hg=>by have:=h.ob g hg;omega) (by omega);have hz:=hb.size;exact⟨hG.box,hG.own,hG.nds,(fun g hg=>by
  rcases hG.ob g hg with h1|h1
  ·exact h.ob g h1
  ·omega),h.map.kept (hG.vk.blk mb (by omega) (by omega) (by omega) (hv mb hc.2)),by omega,h.low.trans hb,fun b h1 h2 h3=>(hG.vk.blk b (by omega) h2 h2 (hv b h1)).trans (h.blk b h1 h2 h3)⟩
theorem SB.put (h:SB w2 wr bb mb B0 v css st n) (hc:bb<mb/\mb<B0){w':World}{m':List UInt8->Option Int}(hM:MapS w' mb (n+1) m') (hg:wr.grownBy w' (some mb)):SB w2 w' bb mb B0 v css (st.1,m') (n+1):=by
 have hl:=h.siz;have hz:=hg.size;have hb:∀ b,b<wr.heap.size->b≠mb->w'.heap[b]?=wr.heap[b]?:=fun b hb hne=>hg.block b hb fun e=>hne (by injection e);have hB:Below bb wr w':=(Bw bb wr).grown hg (by omega) (fun j hj=>by injection hj with hj;omega);exact⟨(hb bb (by omega) (by omega)).trans h.box,OwnE.stay zBs h.own (fun g hg' hl'=>hb g hl' (by have:=h.ob g hg';omega)),(h.nds.keep ⟨hz,fun b i hd hl'=>Bi (hb b hl' (by rcases hd.2.2.2 with h5|h5<;>omega))⟩).sub (fun b hd=>⟨by have:=hd.1;omega,hd.2.1,hd.2.2.1,hd.2.2.2⟩),h.ob,hM,by omega,h.low.trans hB,fun b h1 h2 h3=>(hb b (by omega) h3).trans (h.blk b h1 h2 h3)⟩
end
def vrN (s:List UInt8):Ty:=if varB s=true then vrT s else noneT
theorem zDz (s:List UInt8){n:Nat}(hn:1<=n):SmT n (vrN s):=by
 unfold vrN;split
 ·exact⟨hn,fun x hx=>by simp[vrT]at hx;subst hx;exact⟨Bt _,Bt _⟩⟩
 ·exact⟨hn,fun x hx=>by simp[noneT]at hx;subst hx;exact⟨Bt _,Bt _⟩⟩
theorem zIe (s:List UInt8) (w:World) (hs:s.length<=maxLen):Calls tP 24 #[vT ⟨s.toArray⟩] w (TyOut 0 w (vrN s)):=by
 obtain⟨W,hW,hb,kW,b⟩:=aW w (oE none 0 0 0)
 have hc:Calls tP 67 #[vT ⟨s.toArray⟩] W fun e w'=>e=.returned (.bool (varB s))/\W=w':=zDu ⟨s.toArray⟩ W (by show s.toArray.size<=maxLen;simpa using hs);cases hv:varB s with
 | false=>
  have hT:vrN s=noneT:=by unfold vrN;rw[hv];rfl
  rw[hT];rw[hv]at hc;have a:=zFg W;clear hv hT hs;go_enter func24,ntmps24;go_wp2_with fail;rw[<-hW];clear hW;refine hc.mono ?_;rintro e w1 ⟨rfl,rfl⟩;clear hc;go_wp2_with fail;refine a.mono ?_;rintro e w1 ⟨⟨A,c,rfl,hT⟩,hB⟩;have HT:=xI hT;clear hT a;have kz:=(hB.block _ (by omega)).trans kW;have f0:=Bz kz 0;have f1:=Bz kz 1;have c0:=cH kz 0;have c1:=cH kz 1;go_wp2;exact ret2s kz rfl rfl rfl fun V hz hbb hl=>⟨⟨_,_,rfl,TyOut.put HT.out (Bt _) (by omega) (by omega) hz hbb⟩,(hb.trans (hB.mono (by omega))).trans (hl _ lR)⟩
 | true=>
  have hT:vrN s=vrT s:=by unfold vrN;rw[hv];rfl
  rw[hT];rw[hv]at hc;have a:Calls tP 60 #[.agg #[vI i6 19,vI i6 0,vI i6 0,vT ⟨s.toArray⟩,vS none 0 0,vS none 0 0,vI i6 0,vI i6 0]] W (TyOut 0 W (vrT s)):=
   zHw 19 0 0 s [] [] 0 0 none none 0 0 0 W (by omega) (leafT 19 0 0 s (by show i64B 19;decide) (by show i64B 0;decide) (by show i64B 0;decide) hs)
  clear hv hT hs;go_enter func24,ntmps24;go_wp2_with fail;rw[<-hW];clear hW;refine hc.mono ?_;rintro e w1 ⟨rfl,rfl⟩;clear hc;go_wp2_with fail;refine a.mono ?_;rintro e w1 ⟨⟨A,c,rfl,hT⟩,hB⟩;have HT:=xI hT;clear hT a;have kz:=(hB.block _ (by omega)).trans kW;have f0:=Bz kz 0;have f1:=Bz kz 1;have c0:=cH kz 0;have c1:=cH kz 1;go_wp2;exact ret2s kz rfl rfl rfl fun V hz hbb hl=>⟨⟨_,_,rfl,TyOut.put HT.out (Bt _) (by omega) (by omega) hz hbb⟩,(hb.trans (hB.mono (by omega))).trans (hl _ lR)⟩
theorem zIy (q:Nat) (kd it:Int) (tx:List UInt8) (kids:List Vl) (keys:List (Int×List UInt8)) (ents:List En) (labs:List (List UInt8)) (Av Ay Ae Ab:Option Addr) (cv cy ce cb:Nat) (tn:List UInt8) (w:World) (hv:VS (q+1) w w.heap.size (.mk kd it tx kids keys ents labs) [vI i6 kd,vI i6 it,vT ⟨tx.toArray⟩,vS Av kids.length cv,vS Ay keys.length cy,vS Ae ents.length ce,vS Ab labs.length cb]) :
  Calls tP 30 #[.agg #[vI i6 kd,vI i6 it,vT ⟨tx.toArray⟩,vS Av kids.length cv,vS Ay keys.length cy,vS Ae ents.length ce,vS Ab labs.length cb],vT ⟨tn.toArray⟩] w fun e w'=>e=.returned (.bool (labs.any fun l=>decide (l=tn)))/\bW w w':=by
 obtain⟨W,hW,hb,kv,m⟩:=aW w (oV kd it ⟨tx.toArray⟩ Av kids.length cv Ay keys.length cy Ae ents.length ce Ab labs.length cb)
 obtain⟨uk,uy,ue,ul,o,_,_,_,_,_,_,j⟩:=id hv;simp only[Bb,and_true,true_and]at o;obtain⟨rfl,rfl,rfl,rfl⟩:=o;have n:labs.length<=maxLen:=by obtain⟨_,_,_,h,_⟩:=j;exact h.1
 have b:=xI (aN j (aN n (aN hb (aN kv m))));clear j n hb kv m hv;go_enter func30,ntmps30;go_wp2_with fail;rw[<-hW];clear hW
 go_loopw [5] (fun iv wr=>∃ i:Nat,iv=vI i6 i/\i<=labs.length/\(labs.take i).any (fun l=>decide (l=tn))=false/\bW W wr) (fun i _=>((labs.length:Int)-intOf i).toNat)
 case atStart=>exact⟨0,rfl,by omega,by simp,Bw _ _⟩
 case round=>
  obtain⟨i,rfl,y,c,g⟩:=hrel;obtain⟨g0,g1,g2,g3,g4,g5,g6⟩:=zAc ((g.block w.heap.size (by have:=b.out.2.2.2.2;omega)).trans b.out.2.2.2.1);have f:=b.out.2.2.1.trans (g.mono b.out.2.2.1.size);have a:=xI (aN c (aN g f));clear c g g0 g1 g2 g3 g4 g5;by_cases him:i<labs.length
  ·have mp:(i:Int)<(labs.length:Int):=by omega
   have m0:(0:Int)<=(i:Int):=by omega
   have v:IntKind.i64.wrap ((i:Int)+1)=(i:Int)+1:=Br _ (by have:=b.out.2.1;unfold maxLen at this;omega);have d:=By him;have k:=Cx him;generalize labs[i]=lj at d k;obtain⟨bl,ol,rfl,r,f0⟩:=zQ7 b.out.1 d;replace f0:=(f.cell (p:=(aD bl (ol+i))) r).trans f0;have s:=xI (aN d k);clear d k r f;by_cases hlt:lj=tn
   ·subst hlt;have t:Hid (labs.any (fun l=>decide (l=lj))=true):=xI (List.any_eq_true.2 ⟨_,s.out.2,by simp⟩);go_wp2;go_ret;exact⟨by rw[t.out];first|rfl|simp,a.out.2.2⟩
   ·have u:=xI hlt;have x:(lj==tn)=false:=Cm.2 hlt;clear hlt;go_wp2
    go_roundw
    case rel=>exact⟨i+1,by go_num,by omega,by rw[Cr,s.out.1,List.any_append,a.out.1];simp[u.out],a.out.2.1⟩
    case measure=>simp[intOf];omega
  ·have mp:¬ (i:Int)<(labs.length:Int):=by omega
   clear f;go_wp2;go_ret;have h:=a.out.1;rw[B8 (by omega)]at h;exact⟨by rw[h];first|rfl|simp,a.out.2.2⟩
end Go.Proofs.YteedihhdcbepmaaGreat
