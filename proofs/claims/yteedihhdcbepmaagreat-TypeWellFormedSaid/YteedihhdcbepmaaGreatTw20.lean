/- What the source returns of types: .. -/
import Derived.Test.YteedihhdcbepmaaGreatTwZ
import Derived.Test.YteedihhdcbepmaaGreatTw19
set_option maxRecDepth 100000
set_option maxHeartbeats 12800000
set_option linter.all false
open Go.Value renaming slice→vS,int→vI,string→vT
open Go.IntKind renaming i64→i6
open Go.Proofs.Tryz
open Go.Proofs.Tryz renaming prog→tP
namespace Go.Proofs.YteedihhdcbepmaaGreat
open Go Go.RowKit
structure TypL (h p n m:Nat) (w:World) (i:Nat) (A:Option Addr) (c:Nat) (l:List Tn) (wr:World):Prop where
 le:i<=n
 len:l.length=i
 gen:∀ j x,l[j]?=some x->GenN n j x
 res:wr.heap[m]?=some (oE none 0 0 0)
 box:wr.heap[m+1]?=some (oE A l.length c 0)
 own:OwnT wr (m+2) (vS A l.length c) l
 src:SrcOk h p wr
 eff:Eff p w wr
 siz:m+2<=wr.heap.size
theorem zB6 {w:World}{g:Nat}{e:TypeId}{z0 z1:Value}(h:w.heap[g]?=some (.cells #[z0,z1] e (0,0))):j2 w g z0 z1:=⟨cH h 0,cH h 1⟩
def TypeR (h p n:Nat) (w:World) (e:Ending) (w':World):Prop:=(∃ ns cs,e=.returned (.agg cs.toArray)/\ns.length=n/\(∀ j x,ns[j]?=some x->GenN n j x)/\TyB w' (Btw w.heap.size w'.heap.size) ns 0 cs)/\SrcOk h p w'/\Eff p w w'
theorem zOs (h p n:Nat) (w:World) (hS:SrcOk h p w) (hn:1<=n) (hn2:n<=100):Calls tP 44 #[.pointer (some (aD p 0)),vI i6 n] w (TypeR h p n w):=by
 have B:=hS.lt;obtain⟨W,hW⟩:∃ W,W=(w.alloc (oE none 0 0 0)).alloc (oE none 0 0 0):=⟨_,rfl⟩;have hb:bW w W:=by rw[hW];exact (yR.alloc lR _).alloc (by simp) _
 have hL:TypL h p n w.heap.size w 0 none 0 [] W:=⟨by omega,rfl,by simp,by rw[hW,Bm _ _ _ (by simp)];exact Bj w _,by rw[hW];exact zAg _ (by simp),OwnE.nil _ _ _ _ _,hS.below hb,Eff.of_below hb (by omega),by rw[hW];simp⟩;have G:max (n:Int) 1=n:=by omega
 clear hS hb;go_enter func44,ntmps44;go_wp2_with fail;rw[<-hW];clear hW
 try simp only[G]
 clear G
 go_loopw [6] (fun iv wr=>∃ (i:Nat) (A:Option Addr) (c:Nat) (l:List Tn),iv=vI i6 i/\TypL h p n w.heap.size w i A c l wr) (fun i _=>((n:Int)-intOf i).toNat)
 case atStart=>exact⟨0,none,0,[],rfl,hL⟩
 case round=>
  obtain⟨i,A,c,l,rfl,hL⟩:=hrel;by_cases hi:i<n
  ·have mp:(i:Int)<(n:Int):=by omega
   have R:IntKind.i64.wrap ((i:Int)+1)=(i:Int)+1:=Bq _ (by omega);have hz:=hL.siz;have hd:Eff p wr wr.drew:=Eff.of_below yR.drew (by have:=hL.eff.size;omega);have S:=hL.eff.size;have HQ:Hid (∀ wq,Eff p wr wq->wq.cell? (aE w 0)=some (vS A l.length c)):=xI fun wq hE=>(zB6 ((hE.other _ (by omega) (by omega)).trans hL.box)).1;have hc:=zPb h p i n wr.drew (hL.src.below yR.drew) hi hn2;have HL:=xI hL;generalize a:l.length=la at HQ;have f:=xI a;clear hL a;go_wp2_with fail;refine ub 7 (fun _=>True) (fun wq=>wq.cell? (aE w 0)=some (vS A la c)) ?_;refine oM 0 ⟨trivial,HQ.out _ hd⟩ ?_;refine oK 1 ⟨trivial,HQ.out _ hd⟩ ?_;refine oM 2 ⟨trivial,HQ.out _ hd⟩ ?_;refine oM 3 ⟨trivial,HQ.out _ hd⟩ ?_;refine oM 4 ⟨trivial,HQ.out _ hd⟩ ?_;refine uo 5 (fun K hK=>?_);go_simp;refine hc.mono ?_;rintro e w5 ⟨⟨x,cs,rfl,hT,hG⟩,hS5,hE5⟩;clear hc;have hT:TnB w5 (Btw wr.heap.size w5.heap.size) x cs:=hT;obtain⟨A1,n1,d1,A2,n2,d2,rfl⟩:=TnB.form8 hT;have d:=hd.trans hE5;have hL:=HL.out;have L:wr.heap.size<=w5.heap.size:=d.size;have m:=hL.own.blk;obtain⟨g,cap,w7,u,D,t,N,_⟩:=appG elT namT 22 w5 (w.heap.size+2) _ l (hL.own.eff d (by omega)) x _ (hT.sub fun b hb=>⟨by have:=hb.1;omega,hb.2,fun e=>by have:=m b e.symm;have:=hb.1;omega⟩) rfl (zNx hT) (by have:=hL.len;omega) (by omega) _ rfl 1;rw[f.out]at u D;have s:=((d.other _ (by omega) (by omega)).trans hL.box);have k:=(t.block _ (by omega)).trans s;rw[f.out]at k;have J:=(zB6 k).1;have I:=Bz k 0;have H:TypL h p n w.heap.size w (i+1) (some (aD g 0)) cap (l++[x]) (w7.setCell (aE w 0) (vS (some (aD g 0)) (la+1) cap)):=by
    have r:(l++[x]).length=la+1:=by rw[Bc,f.out];rfl
    have s:=Bp w7 (w.heap.size+1) 0 _ _ (vS (some (aD g 0)) (la+1) cap) k;have C:Below (w.heap.size+1) w5 (w7.setCell (aE w 0) (vS (some (aD g 0)) (la+1) cap)):=(t.mono (show w.heap.size+1<=w.heap.size+2 by omega)).setCell (p:=(aE w 0)) (B7 (w.heap.size+1)) _;refine⟨hi,by rw[r];have:=hL.len;have:=f.out;omega,fun j y hy=>?_,(C.block _ (by omega)).trans ((d.other _ (by omega) (by omega)).trans hL.res),by rw[r];simpa using s,by rw[r];exact OwnE.low D (by omega),hS5.below3 C (by omega),(hL.eff.trans d).grow (C.mono (by omega)) B,by simp;have:=t.size;omega⟩;by_cases hj:j<l.length
    ·rw[Ds hj]at hy;exact hL.gen j y hy
    ·have O:j=l.length:=by have:=(Bw.1 hy).1;rw[r]at this;have:=f.out;omega
     subst O;rw[Dy lR,Nat.sub_self]at hy;simp only[D3,Cs]at hy;rw[<-hy,hL.len];exact hG
   have HR:=xI H;have F:=HQ.out w5 d;have E:=fun o=>HQ.out (w5.alloc o) (d.grow ((Bv wr.heap.size w5).alloc L o) (by omega));clear H k D t N hL s m hT hG hS5 hE5;refine hK _ _ ⟨trivial,fun _=>F⟩ (oQ ?_);clear hK K;refine uo 6 (fun K hK=>?_);go_simp;refine hK _ _ ⟨trivial,fun _=>E _⟩ (oQ ?_);clear hK K;refine uo 7 (fun K hK=>?_);refine Lib.wp_append_run _ _ _ _ _ rfl _ _ rfl rfl _ w7 u ?_;refine hK _ _ ⟨trivial,ug⟩ (oQ ?_);clear hK K;refine oN 8 trivial ?_;refine uo 9 (fun K hK=>?_);go_simp;refine hK _ _ ⟨trivial,ug⟩ (oQ ?_);clear hK K;refine (ud ?_) _;clear J I u E F;go_wp2_with fail
   go_roundw
   case rel=>exact⟨i+1,_,_,_,by go_num,HR.out⟩
   case measure=>simp[intOf];try omega
  ·have mp:¬ (i:Int)<(n:Int):=by omega
   have P:i=n:=by have:=hL.le;omega
   obtain⟨c0,c1⟩:=zB6 hL.box;obtain⟨e0,e1⟩:=zB6 hL.res;have z0:=Bz hL.res 0;have z1:=Bz hL.res 1;have HL:=xI hL;generalize a:l.length=la at c0;have f:=xI a;clear hL a;go_wp2;obtain⟨V,hV⟩:∃ V,V=(wr.setCell (aH w 0) (vS A la c)).setCell (aH w 1) (vI i6 0):=⟨_,rfl⟩;rw[<-hV];have M:V.heap[w.heap.size]?=some (oE A la c 0):=by
    rw[hV];simpa using Bp _ w.heap.size 1 _ _ (vI i6 0) (Bp wr w.heap.size 0 _ _ (vS A la c) HL.out.res)
   have z:∀ b,b≠w.heap.size->V.heap[b]?=wr.heap[b]?:=fun b hb=>by rw[hV,Bu _ _ _ _ hb,Bu _ _ _ _ hb]
   have q:Below w.heap.size wr V:=by rw[hV];exact ((Bv w.heap.size wr).setCell (p:=(aH w 0)) lR _).setCell (p:=(aH w 1)) lR _
   have Q:V.heap.size=wr.heap.size:=by rw[hV];simp
   clear hV c0 c1 e0 e1 z0 z1;obtain⟨c0,c1⟩:=zB6 M;refine Cv (v:=.agg #[vS A la c,vI i6 0]) (by simp[results,results44,go_sem,c0,c1]) rfl ?_;have hL:=HL.out;have a:=f.out;subst a;refine⟨⟨l,_,rfl,by rw[hL.len,P],hL.gen,_,rfl,by show i64B 0;decide,?_⟩,hL.src.below3 q B,hL.eff.grow q B⟩;exact OwnE.rowB (hL.own.kept (by omega) fun b h1 _=>z b (by omega)) (by decide) (by have:=hL.len;unfold maxLen;omega) (by omega)
theorem zP0 (ns:List Tn) (root:Int) (A:Option Addr) (c:Nat) (hw:Wf ns) (k:Nat) (K lo hi:Int) (tn:List UInt8) (ks:List Int) (fds:List Fd) (r0 r1:Int) (hx:ns[k]?=some ⟨K,lo,hi,tn,ks,fds,r0,r1⟩) (hK:K=18)
  (q:Nat) (kd it:Int) (tx:List UInt8) (kids:List Vl) (keys:List (Int×List UInt8)) (ents:List En) (labs:List (List UInt8)) (Av Ay Ae Ab:Option Addr) (cv cy ce cb:Nat) (w:World) (hT:TyAt w ns root A c) (hv:VS (q+1) w w.heap.size (.mk kd it tx kids keys ents labs) [vI i6 kd,vI i6 it,vT ⟨tx.toArray⟩,vS Av kids.length cv,vS Ay keys.length cy,vS Ae ents.length ce,vS Ab labs.length cb]) (hok:okV (.mk kd it tx kids keys ents labs)=true) (hI:Hid (∀ v' k',k'<ns.length->fu ns v' k'<fu ns (.mk kd it tx kids keys ents labs) k->MemC ns root A c v' k')) :
  Calls tP 83 #[.agg #[vI i6 kd,vI i6 it,vT ⟨tx.toArray⟩,vS Av kids.length cv,vS Ay keys.length cy,vS Ae ents.length ce,vS Ab labs.length cb],.agg #[vS A ns.length c,vI i6 root],vI i6 k] w fun e w'=>e=.returned (.bool (memB ns (.mk kd it tx kids keys ents labs) k))/\bW w w':=by
 have I:=(Bw.1 hx).1;have f:RowP w w.heap.size 8 (vS A ns.length c) ns.length (tnR w (fun b=>b<w.heap.size) ns):=by
  obtain⟨u,hu,_,h⟩:=hT;injection hu with hu _;rw[hu];exact h
 obtain⟨bn,on,M,Ak,ck,Af,cf,hu,J,z,m,C,d0,d1,d2,d3,d4,d5,d6,d7⟩:=TyB.at8 f hx;injection hu with hA hmm hcc;clear hmm;subst hA hcc;have N:=xI (aN z (aN m C));clear f z m C;have HM:=xI (zBq hw hx (.mk kd it tx kids keys ents labs));have d:=xI (aN hw hx);generalize memB ns (.mk kd it tx kids keys ents labs) k=res at *;obtain⟨W,hW⟩:∃ W,W=(((w.alloc (oV kd it ⟨tx.toArray⟩ Av kids.length cv Ay keys.length cy Ae ents.length ce Ab labs.length cb)).alloc (oE (some (aD bn on)) ns.length c root)).alloc (oX K lo hi ⟨tn.toArray⟩ Ak ks.length ck Af fds.length cf r0 r1)):=⟨_,rfl⟩;have r:bW w W:=by rw[hW];exact ((yR.alloc lR _).alloc (by simp) _).alloc (by simp;omega) _
 have t:bW w ((w.alloc (oV kd it ⟨tx.toArray⟩ Av kids.length cv Ay keys.length cy Ae ents.length ce Ab labs.length cb)).alloc (oE (some (aD bn on)) ns.length c root)):=(yR.alloc lR _).alloc (by simp) _;have kv:W.heap[w.heap.size]?=some (oV kd it ⟨tx.toArray⟩ Av kids.length cv Ay keys.length cy Ae ents.length ce Ab labs.length cb):=by rw[hW,Bm _ _ _ (by simp;omega),Bm _ _ _ (by simp)];exact Bj w _
 have kt:W.heap[w.heap.size+1]?=some (oE (some (aD bn on)) ns.length c root):=by rw[hW,Bm _ _ _ (by simp)];exact zAg _ (by simp)
 have kn:W.heap[w.heap.size+1+1]?=some (oX K lo hi ⟨tn.toArray⟩ Ak ks.length ck Af fds.length cf r0 r1):=by rw[hW];exact zAg _ (by simp)
 have H:W.heap.size=w.heap.size+3:=by rw[hW];simp
 have HT:Hid (∀ wq,bW W wq->TyAt wq ns root (some (aD bn on)) c/\bW w wq/\(jV wq w.heap.size kd it ⟨tx.toArray⟩ Av kids.length cv Ay keys.length cy Ae ents.length ce Ab labs.length cb)/\(jT wq (w.heap.size+1) (some (aD bn on)) ns.length c root)/\(jN wq (w.heap.size+1+1) K lo hi ⟨tn.toArray⟩ Ak ks.length ck Af fds.length cf r0 r1)):=xI fun U hU=>by
  have hb:=r.trans (hU.mono (by omega));exact⟨hT.on hb,hb,zAc ((hU.block _ (by omega)).trans kv),zAf ((hU.block _ (by omega)).trans kt),zAd ((hU.block _ (by omega)).trans kn)⟩
 have K8:=kC8 t J d0 d1 d2 d3 d4 d5 d6 d7;clear d0 d1 d2 d3 d4 d5 d6 d7;obtain⟨d0,d1,d2,d3,d4,d5,d6,d7⟩:=K8;have hE:=(HT.out W yR).2.2;have u1:(0:Int)<=(k:Int):=by omega
 have u2:(k:Int)<(ns.length:Int):=by omega
 have HV:=xI hv;clear t r kv kt kn H hx hw I hT hv;rw[hW]at hE;obtain⟨⟨v0,v1,v2,v3,v4,v5,v6⟩,⟨t0,t1⟩,⟨n0,n1,n2,n3,n4,n5,n6,n7⟩⟩:=hE;have o:=d.out.1.edg _ (Bh d.out.2);have x:=d.out.1.node _ (Bh d.out.2);have a:zAk labs=true/\kindB kd it tx kids keys ents=true/\okVs kids=true/\okEs ents=true:=by
  have h:=hok;unfold okV at h;simp only[Cz]at h;exact⟨h.1.1.1.1,h.1.1.2,h.1.2,h.2⟩
 have r:=(HT.out W yR).2.1;have E:=HV.out.later r;have O:Hid (∀ y∈ks,fu ns (.mk kd it tx kids keys ents labs) y.toNat<fu ns (.mk kd it tx kids keys ents labs) k):=xI fun y hy=>by
  have:=zIo (i:=y) d.out.1.ctr d.out.2 (by simp[conn,hK]) hy;unfold fu;omega
 have G:Hid (∀ y∈ks,0<=y/\y<ns.length):=xI fun y hy=>o y (zB0 hy);have F:=xI (aN E hok);have g:ks.length=1:=by
  simp only[tnB,Cz]at x;have:=x.2;unfold formB at this;simpa [hK] using this
 have s:=By (l:=ks) (i:=0) (by omega);have j:=Cw (l:=ks) (n:=0) (by omega);generalize ks[0]=kj at s j;obtain⟨bk,ok,L,D,f0,_⟩:=zDa N.out.2.1 s;obtain⟨kn,rfl⟩:∃ kn:Nat,kj=(kn:Int):=⟨kj.toNat,by have:=(G.out kj j).1;omega⟩;subst hK L;have B:Hid (memS (memB ns) ⟨18,lo,hi,tn,ks,fds,r0,r1⟩ (.mk kd it tx kids keys ents labs)=(!memB ns (.mk kd it tx kids keys ents labs) kn)):=xI (by show (!memB ns _ ((ks[0]?).getD 0).toNat)=_;rw[s];rfl);rw[B.out]at HM;have u3:(0:Int)<(ks.length:Int):=by omega
 have u4:0<ks.length:=by omega
 have HQ:Hid (∀ wq,bW W wq->((jV wq w.heap.size kd it ⟨tx.toArray⟩ Av kids.length cv Ay keys.length cy Ae ents.length ce Ab labs.length cb)/\(jT wq (w.heap.size+1) (some (aD bn on)) ns.length c root)/\wq.cell? (aF w 4)=some (vS (some (aD bk ok)) ks.length ck)/\wq.cell? (aD bk ok)=some (vI i6 kn))):=xI fun wq h=>by
  obtain⟨_,hb,q0,q1,q2⟩:=HT.out wq h;exact⟨q0,q1,q2.2.2.2.2.1,(hb.cell (p:=(aD bk _)) D).trans f0⟩
 have hd:bW W W.drew:=yR.drew;have hc:Calls tP 83 #[.agg #[vI i6 kd,vI i6 it,vT ⟨tx.toArray⟩,vS Av kids.length cv,vS Ay keys.length cy,vS Ae ents.length ce,vS Ab labs.length cb],.agg #[vS (some (aD bn on)) ns.length c,vI i6 root],vI i6 (kn:Int)] W.drew fun e w'=>e=.returned (.bool (memB ns (.mk kd it tx kids keys ents labs) kn))/\Below W.drew.heap.size W.drew w':=by
  have h:=hI.out (.mk kd it tx kids keys ents labs) (kn:Int).toNat (by have:=G.out _ j;omega) (O.out (kn:Int) j) (q+1) _ W.drew (F.out.1.later hd) F.out.2 (HT.out _ hd).1;rw[Ca]at h;exact h
 clear s g j D f0 o x a hok B r E;go_enter func83,ntmps83;go_wp2_with fail;rw[<-hW];clear hW v0 v1 v2 v3 v4 v5 v6 t0 t1 n0 n1 n2 n3 n4 n5 n6 n7 d0 d1 d2 d3 d4 d5 d6 d7;refine wR HQ (by kernel_rfl) (HQ.out _ hd) (fun _=>?_);refine oT 0 (HQ.out _ hd) ?_
 (iterate 5 refine oY (HQ.out _ hd) ?_)
 refine oO 6 fun K hK=>?_;go_simp;refine (hc).mono ?_;rintro e w2 ⟨rfl,t⟩;have v:=hd.trans (t.mono hd.size);clear hc;refine hK _ _ (HQ.out _ v) (oP ?_);clear hK K;refine oT 7 (HQ.out _ v) ?_;refine oT 8 (HQ.out _ v) ?_;refine wD ?_;go_wp2;go_ret;exact⟨by rw[HM.out];first|rfl|simp,(HT.out _ v).2.1⟩
theorem zP2 (ns:List Tn) (root:Int) (A:Option Addr) (c:Nat) (hw:Wf ns) (k:Nat) (K lo hi:Int) (tn:List UInt8) (ks:List Int) (fds:List Fd) (r0 r1:Int) (hx:ns[k]?=some ⟨K,lo,hi,tn,ks,fds,r0,r1⟩) (hK:K=17)
  (q:Nat) (kd it:Int) (tx:List UInt8) (kids:List Vl) (keys:List (Int×List UInt8)) (ents:List En) (labs:List (List UInt8)) (Av Ay Ae Ab:Option Addr) (cv cy ce cb:Nat) (w:World) (hT:TyAt w ns root A c) (hv:VS (q+1) w w.heap.size (.mk kd it tx kids keys ents labs) [vI i6 kd,vI i6 it,vT ⟨tx.toArray⟩,vS Av kids.length cv,vS Ay keys.length cy,vS Ae ents.length ce,vS Ab labs.length cb]) (hok:okV (.mk kd it tx kids keys ents labs)=true) (hI:Hid (∀ v' k',k'<ns.length->fu ns v' k'<fu ns (.mk kd it tx kids keys ents labs) k->MemC ns root A c v' k')) :
  Calls tP 83 #[.agg #[vI i6 kd,vI i6 it,vT ⟨tx.toArray⟩,vS Av kids.length cv,vS Ay keys.length cy,vS Ae ents.length ce,vS Ab labs.length cb],.agg #[vS A ns.length c,vI i6 root],vI i6 k] w fun e w'=>e=.returned (.bool (memB ns (.mk kd it tx kids keys ents labs) k))/\bW w w':=by
 have r:=(Bw.1 hx).1;have g:RowP w w.heap.size 8 (vS A ns.length c) ns.length (tnR w (fun b=>b<w.heap.size) ns):=by
  obtain⟨u,hu,_,h⟩:=hT;injection hu with hu _;rw[hu];exact h
 obtain⟨bn,on,P,Ak,ck,Af,cf,hu,O,B,j,D,d0,d1,d2,d3,d4,d5,d6,d7⟩:=TyB.at8 g hx;injection hu with hA hmm hcc;clear hmm;subst hA hcc;have I:=xI (aN B (aN j D));clear g B j D;have HM:=xI (zBq hw hx (.mk kd it tx kids keys ents labs));have f:=xI (aN hw hx);generalize memB ns (.mk kd it tx kids keys ents labs) k=res at *;obtain⟨W,hW⟩:∃ W,W=(((w.alloc (oV kd it ⟨tx.toArray⟩ Av kids.length cv Ay keys.length cy Ae ents.length ce Ab labs.length cb)).alloc (oE (some (aD bn on)) ns.length c root)).alloc (oX K lo hi ⟨tn.toArray⟩ Ak ks.length ck Af fds.length cf r0 r1)):=⟨_,rfl⟩;have m:bW w W:=by rw[hW];exact ((yR.alloc lR _).alloc (by simp) _).alloc (by simp;omega) _
 have t:bW w ((w.alloc (oV kd it ⟨tx.toArray⟩ Av kids.length cv Ay keys.length cy Ae ents.length ce Ab labs.length cb)).alloc (oE (some (aD bn on)) ns.length c root)):=(yR.alloc lR _).alloc (by simp) _;have kv:W.heap[w.heap.size]?=some (oV kd it ⟨tx.toArray⟩ Av kids.length cv Ay keys.length cy Ae ents.length ce Ab labs.length cb):=by rw[hW,Bm _ _ _ (by simp;omega),Bm _ _ _ (by simp)];exact Bj w _
 have kt:W.heap[w.heap.size+1]?=some (oE (some (aD bn on)) ns.length c root):=by rw[hW,Bm _ _ _ (by simp)];exact zAg _ (by simp)
 have kn:W.heap[w.heap.size+1+1]?=some (oX K lo hi ⟨tn.toArray⟩ Ak ks.length ck Af fds.length cf r0 r1):=by rw[hW];exact zAg _ (by simp)
 have M:W.heap.size=w.heap.size+3:=by rw[hW];simp
 have HT:Hid (∀ wq,bW W wq->TyAt wq ns root (some (aD bn on)) c/\bW w wq/\(jV wq w.heap.size kd it ⟨tx.toArray⟩ Av kids.length cv Ay keys.length cy Ae ents.length ce Ab labs.length cb)/\(jT wq (w.heap.size+1) (some (aD bn on)) ns.length c root)/\(jN wq (w.heap.size+1+1) K lo hi ⟨tn.toArray⟩ Ak ks.length ck Af fds.length cf r0 r1)):=xI fun U hU=>by
  have hb:=m.trans (hU.mono (by omega));exact⟨hT.on hb,hb,zAc ((hU.block _ (by omega)).trans kv),zAf ((hU.block _ (by omega)).trans kt),zAd ((hU.block _ (by omega)).trans kn)⟩
 have K8:=kC8 t O d0 d1 d2 d3 d4 d5 d6 d7;clear d0 d1 d2 d3 d4 d5 d6 d7;obtain⟨d0,d1,d2,d3,d4,d5,d6,d7⟩:=K8;have hE:=(HT.out W yR).2.2;have u1:(0:Int)<=(k:Int):=by omega
 have u2:(k:Int)<(ns.length:Int):=by omega
 have HV:=xI hv;clear t m kv kt kn M hx hw r hT hv;rw[hW]at hE;obtain⟨⟨v0,v1,v2,v3,v4,v5,v6⟩,⟨t0,t1⟩,⟨n0,n1,n2,n3,n4,n5,n6,n7⟩⟩:=hE;have l:=f.out.1.edg _ (Bh f.out.2);have N:=f.out.1.node _ (Bh f.out.2);have a:zAk labs=true/\kindB kd it tx kids keys ents=true/\okVs kids=true/\okEs ents=true:=by
  have h:=hok;unfold okV at h;simp only[Cz]at h;exact⟨h.1.1.1.1,h.1.1.2,h.1.2,h.2⟩
 have m:=(HT.out W yR).2.1;have G:=HV.out.later m;have R:Hid (∀ y∈ks,fu ns (.mk kd it tx kids keys ents labs) y.toNat<fu ns (.mk kd it tx kids keys ents labs) k):=xI fun y hy=>by
  have:=zIo (i:=y) f.out.1.ctr f.out.2 (by simp[conn,hK]) hy;unfold fu;omega
 have L:Hid (∀ y∈ks,0<=y/\y<ns.length):=xI fun y hy=>l y (zB0 hy);have H:=xI (aN G hok);subst hK;have C:Hid (memS (memB ns) ⟨17,lo,hi,tn,ks,fds,r0,r1⟩ (.mk kd it tx kids keys ents labs)=ks.all (fun y=>memB ns (.mk kd it tx kids keys ents labs) y.toNat)):=xI rfl;rw[C.out]at HM;have r:ks.length<=maxLen:=by obtain⟨_,_,_,h,_⟩:=I.out.2.1;exact h.1
 have Q:=xI r;clear r l N a hok C m G;go_enter func83,ntmps83;go_wp2_with fail;rw[<-hW];clear hW v0 v1 v2 v3 v4 v5 v6 t0 t1 n0 n1 n2 n3 n4 n5 n6 n7 d0 d1 d2 d3 d4 d5 d6 d7
 go_loopw [9] (fun iv wr=>∃ i:Nat,iv=vI i6 i/\i<=ks.length/\(ks.take i).all (fun y=>memB ns (.mk kd it tx kids keys ents labs) y.toNat)=true/\bW W wr) (fun i _=>((ks.length:Int)-intOf i).toNat)
 case atStart=>exact⟨0,rfl,by omega,by simp,Bv _ _⟩
 case round=>
  obtain⟨i,rfl,T,n,E⟩:=hrel;have o:=xI n;have z:=xI E;clear n E;have g4:=(HT.out wr z.out).2.2.2.2.2.2.2.2.1;by_cases him:i<ks.length
  ·have mp:(i:Int)<(ks.length:Int):=by omega
   have m0:(0:Int)<=(i:Int):=by omega
   have S:IntKind.i64.wrap ((i:Int)+1)=(i:Int)+1:=Bq _ (by have:=Q.out;unfold maxLen at this;omega);have s:=By him;have d:=Cw him;generalize ks[i]=kj at s d;obtain⟨bk,ok,rfl,F,f0,_⟩:=zDa I.out.2.1 s;obtain⟨kn,rfl⟩:∃ kn:Nat,kj=(kn:Int):=⟨kj.toNat,by have:=(L.out kj d).1;omega⟩;have hd:bW W wr.drew:=z.out.drew;have HQ:Hid (∀ wq,bW W wq->((jV wq w.heap.size kd it ⟨tx.toArray⟩ Av kids.length cv Ay keys.length cy Ae ents.length ce Ab labs.length cb)/\(jT wq (w.heap.size+1) (some (aD bn on)) ns.length c root)/\wq.cell? (aF w 4)=some (vS (some (aD bk ok)) ks.length ck)/\wq.cell? (aD bk (ok+i))=some (vI i6 kn))):=xI fun wq h=>by
    obtain⟨_,hb,q0,q1,q2⟩:=HT.out wq h;exact⟨q0,q1,q2.2.2.2.2.1,(hb.cell (p:=(aD bk _)) F).trans f0⟩
   have hc:Calls tP 83 #[.agg #[vI i6 kd,vI i6 it,vT ⟨tx.toArray⟩,vS Av kids.length cv,vS Ay keys.length cy,vS Ae ents.length ce,vS Ab labs.length cb],.agg #[vS (some (aD bn on)) ns.length c,vI i6 root],vI i6 (kn:Int)] wr.drew fun e w'=>e=.returned (.bool (memB ns (.mk kd it tx kids keys ents labs) kn))/\Below wr.drew.heap.size wr.drew w':=by
    have h:=hI.out (.mk kd it tx kids keys ents labs) (kn:Int).toNat (by have:=L.out _ d;omega) (R.out (kn:Int) d) (q+1) _ wr.drew (H.out.1.later hd) H.out.2 (HT.out _ hd).1;rw[Ca]at h;exact h
   have J:=xI (aN s d);clear s d f0 F;go_wp2_with fail;refine wR HQ (by kernel_rfl) (HQ.out _ hd) (fun _=>?_);refine oT 0 (HQ.out _ hd) ?_
   (iterate 6 refine oY (HQ.out _ hd) ?_)
   refine oO 7 fun K hK=>?_;go_simp;refine (hc).mono ?_;rintro e w2 ⟨rfl,t⟩;have v:=hd.trans (t.mono hd.size);clear hc;refine hK _ _ (HQ.out _ v) (oP ?_);clear hK K;refine oT 8 (HQ.out _ v) ?_;refine wD ?_;cases hmx:memB ns (.mk kd it tx kids keys ents labs) kn with
   | false=>
    have x:=xI hmx;clear hmx;go_wp2;go_ret;refine⟨?_,(HT.out _ v).2.1⟩;rw[HM.out,(C8.2 ⟨_,J.out.2,by simp[x.out]⟩:ks.all (fun y=>memB ns (.mk kd it tx kids keys ents labs) y.toNat)=false)]
    first|rfl|simp
   | true=>
    have x:=xI hmx;clear hmx;go_wp2_with fail
    go_roundw
    case rel=>exact⟨i+1,by go_num,by omega,by rw[zAv J.out.1,o.out];simp[x.out],v⟩
    case measure=>simp[intOf];try omega
  ·have mp:¬ (i:Int)<(ks.length:Int):=by omega
   go_wp2;go_ret;refine⟨?_,(HT.out _ z.out).2.1⟩;have h:=o.out;rw[Cx (by omega)]at h;rw[HM.out,h]
   first|rfl|simp
theorem zDw {α:Type}{l:List α}{p:α->Bool}{k:Nat}{x:α}(h:l[k]?=some x):(l.take (k+1)).any p=((l.take k).any p||p x):=by
 rw[Cp,h,List.any_append];simp
theorem zPy (ns:List Tn) (root:Int) (A:Option Addr) (c:Nat) (hw:Wf ns) (k:Nat) (K lo hi:Int) (tn:List UInt8) (ks:List Int) (fds:List Fd) (r0 r1:Int) (hx:ns[k]?=some ⟨K,lo,hi,tn,ks,fds,r0,r1⟩) (hK:K=16)
  (q:Nat) (kd it:Int) (tx:List UInt8) (kids:List Vl) (keys:List (Int×List UInt8)) (ents:List En) (labs:List (List UInt8)) (Av Ay Ae Ab:Option Addr) (cv cy ce cb:Nat) (w:World) (hT:TyAt w ns root A c) (hv:VS (q+1) w w.heap.size (.mk kd it tx kids keys ents labs) [vI i6 kd,vI i6 it,vT ⟨tx.toArray⟩,vS Av kids.length cv,vS Ay keys.length cy,vS Ae ents.length ce,vS Ab labs.length cb]) (hok:okV (.mk kd it tx kids keys ents labs)=true) (hI:Hid (∀ v' k',k'<ns.length->fu ns v' k'<fu ns (.mk kd it tx kids keys ents labs) k->MemC ns root A c v' k')) :
  Calls tP 83 #[.agg #[vI i6 kd,vI i6 it,vT ⟨tx.toArray⟩,vS Av kids.length cv,vS Ay keys.length cy,vS Ae ents.length ce,vS Ab labs.length cb],.agg #[vS A ns.length c,vI i6 root],vI i6 k] w fun e w'=>e=.returned (.bool (memB ns (.mk kd it tx kids keys ents labs) k))/\bW w w':=by
 have r:=(Bw.1 hx).1;have g:RowP w w.heap.size 8 (vS A ns.length c) ns.length (tnR w (fun b=>b<w.heap.size) ns):=by
  obtain⟨u,hu,_,h⟩:=hT;injection hu with hu _;rw[hu];exact h
 obtain⟨bn,on,P,Ak,ck,Af,cf,hu,O,B,j,D,d0,d1,d2,d3,d4,d5,d6,d7⟩:=TyB.at8 g hx;injection hu with hA hmm hcc;clear hmm;subst hA hcc;have I:=xI (aN B (aN j D));clear g B j D;have HM:=xI (zBq hw hx (.mk kd it tx kids keys ents labs));have f:=xI (aN hw hx);generalize memB ns (.mk kd it tx kids keys ents labs) k=res at *;obtain⟨W,hW⟩:∃ W,W=(((w.alloc (oV kd it ⟨tx.toArray⟩ Av kids.length cv Ay keys.length cy Ae ents.length ce Ab labs.length cb)).alloc (oE (some (aD bn on)) ns.length c root)).alloc (oX K lo hi ⟨tn.toArray⟩ Ak ks.length ck Af fds.length cf r0 r1)):=⟨_,rfl⟩;have m:bW w W:=by rw[hW];exact ((yR.alloc lR _).alloc (by simp) _).alloc (by simp;omega) _
 have t:bW w ((w.alloc (oV kd it ⟨tx.toArray⟩ Av kids.length cv Ay keys.length cy Ae ents.length ce Ab labs.length cb)).alloc (oE (some (aD bn on)) ns.length c root)):=(yR.alloc lR _).alloc (by simp) _;have kv:W.heap[w.heap.size]?=some (oV kd it ⟨tx.toArray⟩ Av kids.length cv Ay keys.length cy Ae ents.length ce Ab labs.length cb):=by rw[hW,Bm _ _ _ (by simp;omega),Bm _ _ _ (by simp)];exact Bj w _
 have kt:W.heap[w.heap.size+1]?=some (oE (some (aD bn on)) ns.length c root):=by rw[hW,Bm _ _ _ (by simp)];exact zAg _ (by simp)
 have kn:W.heap[w.heap.size+1+1]?=some (oX K lo hi ⟨tn.toArray⟩ Ak ks.length ck Af fds.length cf r0 r1):=by rw[hW];exact zAg _ (by simp)
 have M:W.heap.size=w.heap.size+3:=by rw[hW];simp
 have HT:Hid (∀ wq,bW W wq->TyAt wq ns root (some (aD bn on)) c/\bW w wq/\(jV wq w.heap.size kd it ⟨tx.toArray⟩ Av kids.length cv Ay keys.length cy Ae ents.length ce Ab labs.length cb)/\(jT wq (w.heap.size+1) (some (aD bn on)) ns.length c root)/\(jN wq (w.heap.size+1+1) K lo hi ⟨tn.toArray⟩ Ak ks.length ck Af fds.length cf r0 r1)):=xI fun U hU=>by
  have hb:=m.trans (hU.mono (by omega));exact⟨hT.on hb,hb,zAc ((hU.block _ (by omega)).trans kv),zAf ((hU.block _ (by omega)).trans kt),zAd ((hU.block _ (by omega)).trans kn)⟩
 have K8:=kC8 t O d0 d1 d2 d3 d4 d5 d6 d7;clear d0 d1 d2 d3 d4 d5 d6 d7;obtain⟨d0,d1,d2,d3,d4,d5,d6,d7⟩:=K8;have hE:=(HT.out W yR).2.2;have u1:(0:Int)<=(k:Int):=by omega
 have u2:(k:Int)<(ns.length:Int):=by omega
 have HV:=xI hv;clear t m kv kt kn M hx hw r hT hv;rw[hW]at hE;obtain⟨⟨v0,v1,v2,v3,v4,v5,v6⟩,⟨t0,t1⟩,⟨n0,n1,n2,n3,n4,n5,n6,n7⟩⟩:=hE;have l:=f.out.1.edg _ (Bh f.out.2);have N:=f.out.1.node _ (Bh f.out.2);have a:zAk labs=true/\kindB kd it tx kids keys ents=true/\okVs kids=true/\okEs ents=true:=by
  have h:=hok;unfold okV at h;simp only[Cz]at h;exact⟨h.1.1.1.1,h.1.1.2,h.1.2,h.2⟩
 have m:=(HT.out W yR).2.1;have G:=HV.out.later m;have R:Hid (∀ y∈ks,fu ns (.mk kd it tx kids keys ents labs) y.toNat<fu ns (.mk kd it tx kids keys ents labs) k):=xI fun y hy=>by
  have:=zIo (i:=y) f.out.1.ctr f.out.2 (by simp[conn,hK]) hy;unfold fu;omega
 have L:Hid (∀ y∈ks,0<=y/\y<ns.length):=xI fun y hy=>l y (zB0 hy);have H:=xI (aN G hok);subst hK;have C:Hid (memS (memB ns) ⟨16,lo,hi,tn,ks,fds,r0,r1⟩ (.mk kd it tx kids keys ents labs)=ks.any (fun y=>memB ns (.mk kd it tx kids keys ents labs) y.toNat)):=xI rfl;rw[C.out]at HM;have r:ks.length<=maxLen:=by obtain⟨_,_,_,h,_⟩:=I.out.2.1;exact h.1
 have Q:=xI r;clear r l N a hok C m G;go_enter func83,ntmps83;go_wp2_with fail;rw[<-hW];clear hW v0 v1 v2 v3 v4 v5 v6 t0 t1 n0 n1 n2 n3 n4 n5 n6 n7 d0 d1 d2 d3 d4 d5 d6 d7
 go_loopw [8] (fun iv wr=>∃ i:Nat,iv=vI i6 i/\i<=ks.length/\(ks.take i).any (fun y=>memB ns (.mk kd it tx kids keys ents labs) y.toNat)=false/\bW W wr) (fun i _=>((ks.length:Int)-intOf i).toNat)
 case atStart=>exact⟨0,rfl,by omega,by simp,Bv _ _⟩
 case round=>
  obtain⟨i,rfl,T,n,E⟩:=hrel;have o:=xI n;have z:=xI E;clear n E;have g4:=(HT.out wr z.out).2.2.2.2.2.2.2.2.1;by_cases him:i<ks.length
  ·have mp:(i:Int)<(ks.length:Int):=by omega
   have m0:(0:Int)<=(i:Int):=by omega
   have S:IntKind.i64.wrap ((i:Int)+1)=(i:Int)+1:=Bq _ (by have:=Q.out;unfold maxLen at this;omega);have s:=By him;have d:=Cw him;generalize ks[i]=kj at s d;obtain⟨bk,ok,rfl,F,f0,_⟩:=zDa I.out.2.1 s;obtain⟨kn,rfl⟩:∃ kn:Nat,kj=(kn:Int):=⟨kj.toNat,by have:=(L.out kj d).1;omega⟩;have hd:bW W wr.drew:=z.out.drew;have HQ:Hid (∀ wq,bW W wq->((jV wq w.heap.size kd it ⟨tx.toArray⟩ Av kids.length cv Ay keys.length cy Ae ents.length ce Ab labs.length cb)/\(jT wq (w.heap.size+1) (some (aD bn on)) ns.length c root)/\wq.cell? (aF w 4)=some (vS (some (aD bk ok)) ks.length ck)/\wq.cell? (aD bk (ok+i))=some (vI i6 kn))):=xI fun wq h=>by
    obtain⟨_,hb,q0,q1,q2⟩:=HT.out wq h;exact⟨q0,q1,q2.2.2.2.2.1,(hb.cell (p:=(aD bk _)) F).trans f0⟩
   have hc:Calls tP 83 #[.agg #[vI i6 kd,vI i6 it,vT ⟨tx.toArray⟩,vS Av kids.length cv,vS Ay keys.length cy,vS Ae ents.length ce,vS Ab labs.length cb],.agg #[vS (some (aD bn on)) ns.length c,vI i6 root],vI i6 (kn:Int)] wr.drew fun e w'=>e=.returned (.bool (memB ns (.mk kd it tx kids keys ents labs) kn))/\Below wr.drew.heap.size wr.drew w':=by
    have h:=hI.out (.mk kd it tx kids keys ents labs) (kn:Int).toNat (by have:=L.out _ d;omega) (R.out (kn:Int) d) (q+1) _ wr.drew (H.out.1.later hd) H.out.2 (HT.out _ hd).1;rw[Ca]at h;exact h
   have J:=xI (aN s d);clear s d f0 F;go_wp2_with fail;refine wR HQ (by kernel_rfl) (HQ.out _ hd) (fun _=>?_);refine oT 0 (HQ.out _ hd) ?_
   (iterate 6 refine oY (HQ.out _ hd) ?_)
   refine oO 7 fun K hK=>?_;go_simp;refine (hc).mono ?_;rintro e w2 ⟨rfl,t⟩;have v:=hd.trans (t.mono hd.size);clear hc;refine hK _ _ (HQ.out _ v) (oP ?_);clear hK K;refine wD ?_;cases hmx:memB ns (.mk kd it tx kids keys ents labs) kn with
   | true=>
    have x:=xI hmx;clear hmx;go_wp2;go_ret;refine⟨?_,(HT.out _ v).2.1⟩;rw[HM.out,(List.any_eq_true.2 ⟨_,J.out.2,by simpa using x.out⟩:ks.any (fun y=>memB ns (.mk kd it tx kids keys ents labs) y.toNat)=true)]
    first|rfl|simp
   | false=>
    have x:=xI hmx;clear hmx;go_wp2_with fail
    go_roundw
    case rel=>exact⟨i+1,by go_num,by omega,by rw[zDw J.out.1,o.out];simp[x.out],v⟩
    case measure=>simp[intOf];try omega
  ·have mp:¬ (i:Int)<(ks.length:Int):=by omega
   go_wp2;go_ret;refine⟨?_,(HT.out _ z.out).2.1⟩;have h:=o.out;rw[Cx (by omega)]at h;rw[HM.out,h]
   first|rfl|simp
def szN (x:Tn):Nat:=x.kids.length+x.fds.length
def sumN:List Tn->Nat
 | []=>0
 | x::l=>szN x+sumN l
def zC8 (ns:List Tn):Bool:=decide (ns.length<=80)&&decide (sumN ns<=400)
theorem zIi:∀ (l:List Tn) (x:Tn),sumN (l++[x])=sumN l+szN x
 | [],x=>by simp[sumN]
 | y::l,x=>by simp only[Dx,sumN,zIi l x];omega
theorem zMn {ns:List Tn}{i:Nat}{x:Tn}(h:ns[i]?=some x):sumN (ns.take (i+1))=sumN (ns.take i)+szN x:=by
 rw[Cp,h];exact zIi _ _
theorem zMo:∀ (ns:List Tn) (i:Nat),sumN (ns.take i)<=sumN ns
 | [],i=>by simp[sumN]
 | x::l,0=>by simp[sumN]
 | x::l,i+1=>by simp only[Dc,sumN];have:=zMo l i;omega
theorem zHp:∀ {ns:List Tn}{x:Tn},x∈ns->szN x<=sumN ns
 | y::l,x,h=>by
  rcases Ct.1 h with rfl|h
  ·simp only[sumN];omega
  ·have:=zHp h;simp only[sumN];omega
theorem zLc {ns:List Tn}{r:Int}(h:zC8 ns=true):SmT 1000000 (ns,r):=by
 unfold zC8 at h;simp only[Cz,Be]at h;refine⟨by have:=h.1;show ns.length<=1000000;omega,fun x hx=>?_⟩;have h1:szN x<=sumN ns:=zHp hx;unfold szN at h1;exact⟨by omega,by omega⟩
theorem zMs {ns:List Tn}{root:Int}{A:Option Addr}{c:Nat}(w:World) (hT:TyP w w.heap.size ns root [vS A ns.length c,vI i6 root]) (hk:∀ x∈ns,szN x<=2 ^ 60) :
  Calls tP 9 #[.agg #[vS A ns.length c,vI i6 root]] w fun e w'=>e=.returned (.bool (zC8 ns))/\bW w w':=by
 obtain⟨W,hW,B,kW,D⟩:=aW w (oE A ns.length c root)
 have HT:Hid (∀ U,Below (w.heap.size+1) W U->bW w U/\U.cell? (aH w 0)=some (vS A ns.length c)):=xI fun U hU=>by
  have hb:=B.trans (hU.mono (Cg _));exact⟨hb,(zAf ((hU.block _ (Nat.lt_succ_self _)).trans kW)).1⟩
 have o:Hid (RowP w w.heap.size 8 (vS A ns.length c) ns.length (tnR w (fun b=>b<w.heap.size) ns)):=xI (by
  obtain⟨u,hu,_,h⟩:=hT;injection hu with hu _;rw[hu];exact h)
 have HK:=xI hk;have t0:=(HT.out W yR).2;clear hT B kW D hk;generalize hnl:ns.length=n at *;have d:=xI hnl;clear hnl;rw[hW]at t0;by_cases h80:(80:Int)<(n:Int)
 ·go_enter func9,ntmps9;go_wp2_with fail;rw[<-hW];go_ret;exact⟨by unfold zC8;rw[d.out,Ch (by omega)];rfl,(HT.out W yR).1⟩
 go_enter func9,ntmps9;go_wp2_with fail;rw[<-hW];have E:0+0=0:=rfl;clear E hW
 go_loopw [3,4] (fun sv iv wr=>∃ i:Nat,iv=vI i6 i/\i<=n/\sv=vI i6 (sumN (ns.take i):Nat)/\sumN (ns.take i)<=400/\Below (w.heap.size+1) W wr) (fun _ i _=>((n:Int)-intOf i).toNat)
 case atStart=>exact⟨0,rfl,by omega,by simp[sumN],by simp[sumN],Bv _ _⟩
 case round=>
  obtain⟨i,rfl,hi,rfl,hs,y⟩:=hrel;have q:=xI y;clear y t0;have t0:=(HT.out wr q.out).2;have C:n<=80:=by omega
  by_cases hin:i<n
  ·have mp:(i:Int)<(n:Int):=by omega
   have m0:(0:Int)<=(i:Int):=by omega
   have J:IntKind.i64.wrap ((i:Int)+1)=(i:Int)+1:=Bq _ (by omega);have l:i<ns.length:=by have:=d.out;omega
   have hx:=By l;have g:=Cw l;generalize ns[i]=x at hx g;have f:=zMn hx;have r:=HK.out x g;have a:RowP w w.heap.size 8 (vS A ns.length c) ns.length (tnR w (fun b=>b<w.heap.size) ns):=by have:=o.out;rw[d.out];exact this
   obtain⟨bn,on,I,Ak,ck,Af,cf,hu,z,F,k,H,d0,d1,d2,d3,d4,d5,d6,d7⟩:=TyB.at8 a hx;injection hu with hA _ hcc;subst hA hcc;clear a F k H d0 d1 d2 d3 d6 d7;unfold szN at f r;generalize x.kids.length=kl at *;generalize x.fds.length=fl at *;have HQ:Hid (∀ wq,Below (w.heap.size+1) W wq->wq.cell? (aH w 0)=some (vS (some (aD bn on)) n c)/\wq.cell? (aD bn (on+i*8+4))=some (vS Ak kl ck)/\wq.cell? (aD bn (on+i*8+5))=some (vS Af fl cf)):=xI fun wq h=>by
    obtain⟨hb,q0⟩:=HT.out wq h;exact⟨q0,(hb.cell (p:=(aD bn _)) z).trans d4,(hb.cell (p:=(aD bn _)) z).trans d5⟩
   have hd:Below (w.heap.size+1) W wr.drew:=q.out.drew;obtain⟨s1,j⟩:∃ s1,s1=sumN (ns.take (i+1)):=⟨_,rfl⟩;rw[<-j]at f;have m:=xI j;have K:=xI f;generalize sumN (ns.take i)=s at *;have G:IntKind.i64.wrap ((s:Int)+(kl:Int))=((s+kl:Nat):Int):=by rw[Bq _ (by omega)];omega
   have t:IntKind.i64.wrap ((s:Int)+(kl:Int)+(fl:Int))=(s1:Int):=by rw[Bq _ (by omega)];omega
   have HX:=xI hx;clear f j hx g r d4 d5 l;go_wp2_with fail;refine wR HQ (by kernel_rfl) (HQ.out _ hd) (fun _=>?_);refine oT 0 (HQ.out _ hd) ?_
   (iterate 17 refine oY (HQ.out _ hd) ?_)
   refine wD ?_
   try simp only[t]
   have HD:=xI hd;clear hd G t;by_cases h4:(400:Int)<(s1:Int)
   ·go_wp2;go_ret;exact⟨by
     have h1:=zMo ns (i+1);rw[<-m.out]at h1;unfold zC8;rw[Ch (p:=sumN ns<=400) (by omega),Bool.and_false];rfl,(HT.out _ HD.out).1⟩
   ·go_wp2
    go_roundw
    case rel=>exact⟨i+1,by go_num,by omega,by rw[<-m.out],by rw[<-m.out];omega,HD.out⟩
    case measure=>simp[intOf];omega
  ·have mp:¬ ((i:Int)<(n:Int)):=by omega
   have v:ns.take i=ns:=Cx (by have:=d.out;omega);rw[v]at hs;have HS:=xI hs;clear hs v;go_wp2;go_ret;exact⟨by unfold zC8;rw[d.out,C5 C,C5 HS.out];rfl,(HT.out _ q.out).1⟩
end Go.Proofs.YteedihhdcbepmaaGreat
