/- Member of the document: unions. -/
import Derived.Test.YteedihhdcbepmaaGreatTfZ
import Derived.Test.YteedihhdcbepmaaGreatTf19
set_option maxRecDepth 100000
set_option maxHeartbeats 25600000
set_option linter.all false
open Go.Value renaming slice→vS,int→vI,string→vT
open Go.IntKind renaming i64→i6
open Go.Proofs.Tryz
open Go.Proofs.Tryz renaming prog→tP
namespace Go.Proofs.YteedihhdcbepmaaGreat
open Go Go.RowKit
theorem zDt {α:Type}{l:List α}{p:α->Bool}{k:Nat}{x:α}(h:l[k]?=some x):(l.take (k+1)).any p=((l.take k).any p||p x):=by
 rw[Ct,h,List.any_append];simp
theorem zOz (ns:List Tn) (root:Int) (A:Option Addr) (c:Nat) (hw:Wf ns) (k:Nat) (K lo hi:Int) (tn:List UInt8) (ks:List Int) (fds:List Fd) (r0 r1:Int) (hx:ns[k]?=some ⟨K,lo,hi,tn,ks,fds,r0,r1⟩) (hK:K=16)
  (q:Nat) (kd it:Int) (tx:List UInt8) (kids:List Vl) (keys:List (Int×List UInt8)) (ents:List En) (labs:List (List UInt8)) (Av Ay Ae Ab:Option Addr) (cv cy ce cb:Nat) (w:World) (hT:TyAt w ns root A c) (hv:VS (q+1) w w.heap.size (.mk kd it tx kids keys ents labs) [vI i6 kd,vI i6 it,vT ⟨tx.toArray⟩,vS Av kids.length cv,vS Ay keys.length cy,vS Ae ents.length ce,vS Ab labs.length cb]) (hok:okV (.mk kd it tx kids keys ents labs)=true) (hI:Hid (∀ v' k',k'<ns.length->fu ns v' k'<fu ns (.mk kd it tx kids keys ents labs) k->MemC ns root A c v' k')) :
  Calls tP 83 #[.agg #[vI i6 kd,vI i6 it,vT ⟨tx.toArray⟩,vS Av kids.length cv,vS Ay keys.length cy,vS Ae ents.length ce,vS Ab labs.length cb],.agg #[vS A ns.length c,vI i6 root],vI i6 k] w fun e w'=>e=.returned (.bool (memB ns (.mk kd it tx kids keys ents labs) k))/\bW w w':=by
 have r:=(Bx.1 hx).1;have g:RowP w w.heap.size 8 (vS A ns.length c) ns.length (tnR w (fun b=>b<w.heap.size) ns):=by
  obtain⟨u,hu,_,h⟩:=hT;injection hu with hu _;rw[hu];exact h
 obtain⟨bn,on,P,Ak,ck,Af,cf,hu,O,B,j,D,d0,d1,d2,d3,d4,d5,d6,d7⟩:=TyB.at8 g hx;injection hu with hA hmm hcc;clear hmm;subst hA hcc;have I:=xI (aN B (aN j D));clear g B j D;have HM:=xI (zBn hw hx (.mk kd it tx kids keys ents labs));have f:=xI (aN hw hx);generalize memB ns (.mk kd it tx kids keys ents labs) k=res at *;obtain⟨W,hW⟩:∃ W,W=(((w.alloc (oV kd it ⟨tx.toArray⟩ Av kids.length cv Ay keys.length cy Ae ents.length ce Ab labs.length cb)).alloc (oE (some (aD bn on)) ns.length c root)).alloc (oX K lo hi ⟨tn.toArray⟩ Ak ks.length ck Af fds.length cf r0 r1)):=⟨_,rfl⟩;have m:bW w W:=by rw[hW];exact ((yR.alloc lR _).alloc (by simp) _).alloc (by simp;omega) _
 have t:bW w ((w.alloc (oV kd it ⟨tx.toArray⟩ Av kids.length cv Ay keys.length cy Ae ents.length ce Ab labs.length cb)).alloc (oE (some (aD bn on)) ns.length c root)):=(yR.alloc lR _).alloc (by simp) _;have kv:W.heap[w.heap.size]?=some (oV kd it ⟨tx.toArray⟩ Av kids.length cv Ay keys.length cy Ae ents.length ce Ab labs.length cb):=by rw[hW,Bt _ _ _ (by simp;omega),Bt _ _ _ (by simp)];exact Bk w _
 have kt:W.heap[w.heap.size+1]?=some (oE (some (aD bn on)) ns.length c root):=by rw[hW,Bt _ _ _ (by simp)];exact zAf _ (by simp)
 have kn:W.heap[w.heap.size+1+1]?=some (oX K lo hi ⟨tn.toArray⟩ Ak ks.length ck Af fds.length cf r0 r1):=by rw[hW];exact zAf _ (by simp)
 have M:W.heap.size=w.heap.size+3:=by rw[hW];simp
 have HT:Hid (∀ wq,bW W wq->TyAt wq ns root (some (aD bn on)) c/\bW w wq/\(jV wq w.heap.size kd it ⟨tx.toArray⟩ Av kids.length cv Ay keys.length cy Ae ents.length ce Ab labs.length cb)/\(jT wq (w.heap.size+1) (some (aD bn on)) ns.length c root)/\(jN wq (w.heap.size+1+1) K lo hi ⟨tn.toArray⟩ Ak ks.length ck Af fds.length cf r0 r1)):=xI fun U hU=>by
  have hb:=m.trans (hU.mono (by omega));exact⟨hT.on hb,hb,zAc ((hU.block _ (by omega)).trans kv),zAh ((hU.block _ (by omega)).trans kt),zAe ((hU.block _ (by omega)).trans kn)⟩
 have K8:=kC8 t O d0 d1 d2 d3 d4 d5 d6 d7;clear d0 d1 d2 d3 d4 d5 d6 d7;obtain⟨d0,d1,d2,d3,d4,d5,d6,d7⟩:=K8;have hE:=(HT.out W yR).2.2;have u1:(0:Int)<=(k:Int):=by omega
 have u2:(k:Int)<(ns.length:Int):=by omega
 have HV:=xI hv;clear t m kv kt kn M hx hw r hT hv;rw[hW]at hE;obtain⟨⟨v0,v1,v2,v3,v4,v5,v6⟩,⟨t0,t1⟩,⟨n0,n1,n2,n3,n4,n5,n6,n7⟩⟩:=hE;have l:=f.out.1.edg _ (Bi f.out.2);have N:=f.out.1.node _ (Bi f.out.2);have a:zAj labs=true/\kindB kd it tx kids keys ents=true/\okVs kids=true/\okEs ents=true:=by
  have h:=hok;unfold okV at h;simp only[B8]at h;exact⟨h.1.1.1.1,h.1.1.2,h.1.2,h.2⟩
 have m:=(HT.out W yR).2.1;have G:=HV.out.later m;have R:Hid (∀ y∈ks,fu ns (.mk kd it tx kids keys ents labs) y.toNat<fu ns (.mk kd it tx kids keys ents labs) k):=xI fun y hy=>by
  have:=zH4 (i:=y) f.out.1.ctr f.out.2 (by simp[conn,hK]) hy;unfold fu;omega
 have L:Hid (∀ y∈ks,0<=y/\y<ns.length):=xI fun y hy=>l y (zB0 hy);have H:=xI (aN G hok);subst hK;have C:Hid (memS (memB ns) ⟨16,lo,hi,tn,ks,fds,r0,r1⟩ (.mk kd it tx kids keys ents labs)=ks.any (fun y=>memB ns (.mk kd it tx kids keys ents labs) y.toNat)):=xI rfl;rw[C.out]at HM;have r:ks.length<=maxLen:=by obtain⟨_,_,_,h,_⟩:=I.out.2.1;exact h.1
 have Q:=xI r;clear r l N a hok C m G;go_enter func83,ntmps83;go_wp2_with fail;rw[<-hW];clear hW v0 v1 v2 v3 v4 v5 v6 t0 t1 n0 n1 n2 n3 n4 n5 n6 n7 d0 d1 d2 d3 d4 d5 d6 d7
 go_loopw [8] (fun iv wr=>∃ i:Nat,iv=vI i6 i/\i<=ks.length/\(ks.take i).any (fun y=>memB ns (.mk kd it tx kids keys ents labs) y.toNat)=false/\bW W wr) (fun i _=>((ks.length:Int)-intOf i).toNat)
 case atStart=>exact⟨0,rfl,by omega,by simp,By _ _⟩
 case round=>
  obtain⟨i,rfl,T,n,E⟩:=hrel;have o:=xI n;have z:=xI E;clear n E;have g4:=(HT.out wr z.out).2.2.2.2.2.2.2.2.1;by_cases him:i<ks.length
  ·have mp:(i:Int)<(ks.length:Int):=by omega
   have m0:(0:Int)<=(i:Int):=by omega
   have S:IntKind.i64.wrap ((i:Int)+1)=(i:Int)+1:=Br _ (by have:=Q.out;unfold maxLen at this;omega);have s:=Bw him;have d:=Cv him;generalize ks[i]=kj at s d;obtain⟨bk,ok,rfl,F,f0,_⟩:=zC6 I.out.2.1 s;obtain⟨kn,rfl⟩:∃ kn:Nat,kj=(kn:Int):=⟨kj.toNat,by have:=(L.out kj d).1;omega⟩;have hd:bW W wr.drew:=z.out.drew;have HQ:Hid (∀ wq,bW W wq->((jV wq w.heap.size kd it ⟨tx.toArray⟩ Av kids.length cv Ay keys.length cy Ae ents.length ce Ab labs.length cb)/\(jT wq (w.heap.size+1) (some (aD bn on)) ns.length c root)/\wq.cell? (aF w 4)=some (vS (some (aD bk ok)) ks.length ck)/\wq.cell? (aD bk (ok+i))=some (vI i6 kn))):=xI fun wq h=>by
    obtain⟨_,hb,q0,q1,q2⟩:=HT.out wq h;exact⟨q0,q1,q2.2.2.2.2.1,(hb.cell (p:=(aD bk _)) F).trans f0⟩
   have hc:Calls tP 83 #[.agg #[vI i6 kd,vI i6 it,vT ⟨tx.toArray⟩,vS Av kids.length cv,vS Ay keys.length cy,vS Ae ents.length ce,vS Ab labs.length cb],.agg #[vS (some (aD bn on)) ns.length c,vI i6 root],vI i6 (kn:Int)] wr.drew fun e w'=>e=.returned (.bool (memB ns (.mk kd it tx kids keys ents labs) kn))/\Below wr.drew.heap.size wr.drew w':=by
    have h:=hI.out (.mk kd it tx kids keys ents labs) (kn:Int).toNat (by have:=L.out _ d;omega) (R.out (kn:Int) d) (q+1) _ wr.drew (H.out.1.later hd) H.out.2 (HT.out _ hd).1;rw[Dy]at h;exact h
   have J:=xI (aN s d);clear s d f0 F;go_wp2_with fail;refine wR HQ (by kernel_rfl) (HQ.out _ hd) (fun _=>?_);refine oT 0 (HQ.out _ hd) ?_
   (iterate 6 refine oY (HQ.out _ hd) ?_)
   refine oO 7 fun K hK=>?_;go_simp;refine (hc).mono ?_;rintro e w2 ⟨rfl,t⟩;have v:=hd.trans (t.mono hd.size);clear hc;refine hK _ _ (HQ.out _ v) (oP ?_);clear hK K;refine wD ?_;cases hmx:memB ns (.mk kd it tx kids keys ents labs) kn with
   | true=>
    have x:=xI hmx;clear hmx;go_wp2;go_ret;refine⟨?_,(HT.out _ v).2.1⟩;rw[HM.out,(List.any_eq_true.2 ⟨_,J.out.2,by simpa using x.out⟩:ks.any (fun y=>memB ns (.mk kd it tx kids keys ents labs) y.toNat)=true)]
    first|rfl|simp
   | false=>
    have x:=xI hmx;clear hmx;go_wp2_with fail
    go_roundw
    case rel=>exact⟨i+1,by go_num,by omega,by rw[zDt J.out.1,o.out];simp[x.out],v⟩
    case measure=>simp[intOf];try omega
  ·have mp:¬ (i:Int)<(ks.length:Int):=by omega
   go_wp2;go_ret;refine⟨?_,(HT.out _ z.out).2.1⟩;have h:=o.out;rw[Cz (by omega)]at h;rw[HM.out,h]
   first|rfl|simp
theorem zRo {w:World}{H n c:Nat}{l:List (List UInt8)}{A:Option Addr}{j:Nat}{x:List UInt8}(h:RowP w H 1 (vS A n c) l.length (fun j cs=>∃ x,l[j]?=some x/\cs=[vT ⟨x.toArray⟩]/\x.length<=maxLen)) (hx:l[j]?=some x):∃ b off,A=some (aD b off)/\b<H/\w.cell? (aD b (off+j))=some (vT ⟨x.toArray⟩):=by
 have hj:=(Bx.1 hx).1;obtain⟨A',cap,h1,_,h3⟩:=h;injection h1 with h1 _ _;obtain⟨b,off,h4,h5,_,h7⟩:=h3 (by omega);obtain⟨cs,h8,h9,y,hy,rfl,_⟩:=h7 j hj;rw[hx]at hy;injection hy with hy;subst hy;have:=h9 0 (by omega);simp only[Nat.mul_one,Dv]at this;exact⟨b,off,h1.trans h4,h5,this⟩
theorem zOy (ns:List Tn) (root:Int) (A:Option Addr) (c:Nat) (hw:Wf ns) (k:Nat) (K lo hi:Int) (tn:List UInt8) (ks:List Int) (fds:List Fd) (r0 r1:Int) (hx:ns[k]?=some ⟨K,lo,hi,tn,ks,fds,r0,r1⟩) (hK:K=19)
  (q:Nat) (kd it:Int) (tx:List UInt8) (kids:List Vl) (keys:List (Int×List UInt8)) (ents:List En) (labs:List (List UInt8)) (Av Ay Ae Ab:Option Addr) (cv cy ce cb:Nat) (w:World) (hT:TyAt w ns root A c) (hv:VS (q+1) w w.heap.size (.mk kd it tx kids keys ents labs) [vI i6 kd,vI i6 it,vT ⟨tx.toArray⟩,vS Av kids.length cv,vS Ay keys.length cy,vS Ae ents.length ce,vS Ab labs.length cb]) (hok:okV (.mk kd it tx kids keys ents labs)=true) (hI:Hid (∀ v' k',k'<ns.length->fu ns v' k'<fu ns (.mk kd it tx kids keys ents labs) k->MemC ns root A c v' k')) :
  Calls tP 83 #[.agg #[vI i6 kd,vI i6 it,vT ⟨tx.toArray⟩,vS Av kids.length cv,vS Ay keys.length cy,vS Ae ents.length ce,vS Ab labs.length cb],.agg #[vS A ns.length c,vI i6 root],vI i6 k] w fun e w'=>e=.returned (.bool (memB ns (.mk kd it tx kids keys ents labs) k))/\bW w w':=by
 have n:=(Bx.1 hx).1;have d:RowP w w.heap.size 8 (vS A ns.length c) ns.length (tnR w (fun b=>b<w.heap.size) ns):=by
  obtain⟨u,hu,_,h⟩:=hT;injection hu with hu _;rw[hu];exact h
 obtain⟨bn,on,N,Ak,ck,Af,cf,hu,L,y,f,B,d0,d1,d2,d3,d4,d5,d6,d7⟩:=TyB.at8 d hx;injection hu with hA hmm hcc;clear hmm;subst hA hcc;have V:=xI (aN y (aN f B));clear d y f B;have HM:=xI (zBn hw hx (.mk kd it tx kids keys ents labs));have r:=xI (aN hw hx);generalize memB ns (.mk kd it tx kids keys ents labs) k=res at *;obtain⟨W,hW⟩:∃ W,W=(((w.alloc (oV kd it ⟨tx.toArray⟩ Av kids.length cv Ay keys.length cy Ae ents.length ce Ab labs.length cb)).alloc (oE (some (aD bn on)) ns.length c root)).alloc (oX K lo hi ⟨tn.toArray⟩ Ak ks.length ck Af fds.length cf r0 r1)):=⟨_,rfl⟩;have g:bW w W:=by rw[hW];exact ((yR.alloc lR _).alloc (by simp) _).alloc (by simp;omega) _
 have F:bW w ((w.alloc (oV kd it ⟨tx.toArray⟩ Av kids.length cv Ay keys.length cy Ae ents.length ce Ab labs.length cb)).alloc (oE (some (aD bn on)) ns.length c root)):=(yR.alloc lR _).alloc (by simp) _;have kv:W.heap[w.heap.size]?=some (oV kd it ⟨tx.toArray⟩ Av kids.length cv Ay keys.length cy Ae ents.length ce Ab labs.length cb):=by rw[hW,Bt _ _ _ (by simp;omega),Bt _ _ _ (by simp)];exact Bk w _
 have kt:W.heap[w.heap.size+1]?=some (oE (some (aD bn on)) ns.length c root):=by rw[hW,Bt _ _ _ (by simp)];exact zAf _ (by simp)
 have kn:W.heap[w.heap.size+1+1]?=some (oX K lo hi ⟨tn.toArray⟩ Ak ks.length ck Af fds.length cf r0 r1):=by rw[hW];exact zAf _ (by simp)
 have I:W.heap.size=w.heap.size+3:=by rw[hW];simp
 have HT:Hid (∀ wq,bW W wq->TyAt wq ns root (some (aD bn on)) c/\bW w wq/\(jV wq w.heap.size kd it ⟨tx.toArray⟩ Av kids.length cv Ay keys.length cy Ae ents.length ce Ab labs.length cb)/\(jT wq (w.heap.size+1) (some (aD bn on)) ns.length c root)/\(jN wq (w.heap.size+1+1) K lo hi ⟨tn.toArray⟩ Ak ks.length ck Af fds.length cf r0 r1)):=xI fun U hU=>by
  have hb:=g.trans (hU.mono (by omega));exact⟨hT.on hb,hb,zAc ((hU.block _ (by omega)).trans kv),zAh ((hU.block _ (by omega)).trans kt),zAe ((hU.block _ (by omega)).trans kn)⟩
 have K8:=kC8 F L d0 d1 d2 d3 d4 d5 d6 d7;clear d0 d1 d2 d3 d4 d5 d6 d7;obtain⟨d0,d1,d2,d3,d4,d5,d6,d7⟩:=K8;have hE:=(HT.out W yR).2.2;have u1:(0:Int)<=(k:Int):=by omega
 have u2:(k:Int)<(ns.length:Int):=by omega
 have HV:=xI hv;clear F g kv kt kn I hx hw n hT hv;rw[hW]at hE;obtain⟨⟨v0,v1,v2,v3,v4,v5,v6⟩,⟨t0,t1⟩,⟨n0,n1,n2,n3,n4,n5,n6,n7⟩⟩:=hE;have v:=r.out.1.edg _ (Bi r.out.2);have J:=r.out.1.node _ (Bi r.out.2);have a:zAj labs=true/\kindB kd it tx kids keys ents=true/\okVs kids=true/\okEs ents=true:=by
  have h:=hok;unfold okV at h;simp only[B8]at h;exact⟨h.1.1.1.1,h.1.1.2,h.1.2,h.2⟩
 have g:=(HT.out W yR).2.1;have M:=HV.out.later g;subst hK;have z:Hid (memS (memB ns) ⟨19,lo,hi,tn,ks,fds,r0,r1⟩ (.mk kd it tx kids keys ents labs)=labs.any (fun l=>decide (l=tn))):=xI rfl;rw[z.out]at HM;have hv:=HV.out;obtain⟨uk,uy,ue,ul,C,_,_,_,_,_,_,s⟩:=hv;simp only[Bc,and_true,true_and]at C;obtain⟨rfl,rfl,rfl,rfl⟩:=C;have n:labs.length<=maxLen:=by obtain⟨_,_,_,h,_⟩:=s;exact h.1
 have G:=xI (aN s n);clear s n v J a hok z g M;go_enter func83,ntmps83;go_wp2_with fail;rw[<-hW];clear hW v0 v1 v2 v3 v4 v5 v6 t0 t1 n0 n1 n2 n3 n4 n5 n6 n7 d0 d1 d2 d3 d4 d5 d6 d7
 go_loopw [10] (fun iv wr=>∃ i:Nat,iv=vI i6 i/\i<=labs.length/\(labs.take i).any (fun l=>decide (l=tn))=false/\bW W wr) (fun i _=>((labs.length:Int)-intOf i).toNat)
 case atStart=>exact⟨0,rfl,by omega,by simp,By _ _⟩
 case round=>
  obtain⟨i,rfl,T,j,D⟩:=hrel;have m:=xI j;have x:=xI D;clear j D;have g6:=(HT.out wr x.out).2.2.1.2.2.2.2.2.2;by_cases him:i<labs.length
  ·have mp:(i:Int)<(labs.length:Int):=by omega
   have m0:(0:Int)<=(i:Int):=by omega
   have Q:IntKind.i64.wrap ((i:Int)+1)=(i:Int)+1:=Br _ (by have:=G.out.2;unfold maxLen at this;omega);have o:=Bw him;have t:=Cv him;generalize labs[i]=lj at o t;obtain⟨bl,ol,rfl,E,f0⟩:=zRo G.out.1 o;have hd:bW W wr.drew:=x.out.drew;have HS:wr.drew.cell? (aH w 6)=some (vS (some (aD bl ol)) labs.length cb)/\wr.drew.cell? (aF w 3)=some (vT ⟨tn.toArray⟩)/\wr.drew.cell? (aD bl (ol+i))=some (vT ⟨lj.toArray⟩):=⟨(HT.out _ hd).2.2.1.2.2.2.2.2.2,(HT.out _ hd).2.2.2.2.2.2.2.1,((HT.out _ hd).2.1.cell (p:=(aD bl (ol+i))) E).trans f0⟩;have H:=xI (aN o t);have HQ:=xI HS;clear o t E f0 HS;by_cases hlt:lj=tn
   ·subst hlt;have O:Hid (labs.any (fun l=>decide (l=lj))=true):=xI (List.any_eq_true.2 ⟨_,H.out.2,by simp⟩);go_wp2_with fail;refine Bf (S:=fun wq=>(wq.cell? (aH w 6)=some (vS (some (aD bl ol)) labs.length cb)/\wq.cell? (aF w 3)=some (vT ⟨lj.toArray⟩)/\wq.cell? (aD bl (ol+i))=some (vT ⟨lj.toArray⟩))) (by kernel_rfl) HQ.out (fun _=>?_);refine oT 0 HQ.out ?_
    (iterate 7 refine oY HQ.out ?_)
    refine wD ?_;go_wp2;go_ret;refine⟨?_,(HT.out _ hd).2.1⟩;rw[HM.out,O.out]
    first|rfl|simp
   ·have P:=xI hlt;have R:(lj==tn)=false:=Ck.2 hlt;go_wp2_with fail;refine Bf (S:=fun wq=>(wq.cell? (aH w 6)=some (vS (some (aD bl ol)) labs.length cb)/\wq.cell? (aF w 3)=some (vT ⟨tn.toArray⟩)/\wq.cell? (aD bl (ol+i))=some (vT ⟨lj.toArray⟩))) (by kernel_rfl) HQ.out (fun _=>?_);refine oT 0 HQ.out ?_
    (iterate 7 refine oY HQ.out ?_)
    refine wD ?_;go_wp2_with fail
    go_roundw
    case rel=>exact⟨i+1,by go_num,by omega,by rw[zDt H.out.1,m.out];simp[P.out],hd⟩
    case measure=>simp[intOf];try omega
  ·have mp:¬ (i:Int)<(labs.length:Int):=by omega
   go_wp2;go_ret;refine⟨?_,(HT.out _ x.out).2.1⟩;have h:=m.out;rw[Cz (by omega)]at h;rw[HM.out,h]
   first|rfl|simp
theorem zNw {ns:List Tn}{d:List Bool}{i:Nat}{x:Tn}(h:ns[i]?=some x):stepD ns d i=d.set i (dn d i||kidsD d x):=by unfold stepD;rw[h]
theorem zIs {x:Tn}{Ak Af:Option Addr}{nk ck nf cf:Nat}(w:World):Calls tP 76 #[.agg #[vI i6 x.kind,vI i6 x.lo,vI i6 x.hi,vT ⟨x.text.toArray⟩,vS Ak nk ck,vS Af nf cf,vI i6 x.r0,vI i6 x.r1]] w fun e w'=>e=.returned (.bool (conn x))/\bW w w':=by
 obtain⟨W,hW⟩:∃ W,W=w.alloc (oX x.kind x.lo x.hi ⟨x.text.toArray⟩ Ak nk ck Af nf cf x.r0 x.r1):=⟨_,rfl⟩;have hb:bW w W:=by rw[hW];exact yR.alloc lR _
 unfold conn;generalize x.kind=k at *;by_cases h0:k=16
 ·subst h0;go_enter func76,ntmps76;go_wp2;rw[<-hW];go_ret;exact⟨rfl,hb⟩
 have b0:(k==16)=false:=Ck.2 h0;by_cases h1:k=17
 ·subst h1;go_enter func76,ntmps76;go_wp2;rw[<-hW];go_ret;exact⟨rfl,hb⟩
 have b1:(k==17)=false:=Ck.2 h1;by_cases h2:k=18
 ·subst h2;go_enter func76,ntmps76;go_wp2;rw[<-hW];go_ret;exact⟨rfl,hb⟩
 have b2:(k==18)=false:=Ck.2 h2;go_enter func76,ntmps76;go_wp2;rw[<-hW];go_ret;exact⟨by rw[Co (show ¬ (k=16\/k=17\/k=18) by omega)];rfl,hb⟩
theorem zJg {α:Type}(f:α->Nat->α) (a:α) (i:Nat):(List.range (i+1)).foldl f a=f ((List.range i).foldl f a) i:=by rw[List.range_succ,List.foldl_append];rfl
theorem zK0 {d:List Bool}{x:Tn}(h:conn x=true):kidsD d x=x.kids.all (fun k=>dn d k.toNat):=by unfold kidsD;rw[h];rfl
theorem zKz {d:List Bool}{x:Tn}(h:conn x=false):kidsD d x=true:=by unfold kidsD;rw[h];rfl
theorem zHt {α:Type}{l:List α}{p:α->Bool}{k:Nat}{x:α}(h:l[k]?=some x):(l.take (k+1)).all p=((l.take k).all p&&p x):=by
 rw[Ct,h,Ez];simp
theorem zMu (ns:List Tn) (l:List Nat) (d:List Bool):(l.foldl (stepD ns) d).length=d.length:=(zE7 ns l d).1.1.symm
theorem zRh {ns:List Tn}{root:Int}{A:Option Addr}{c:Nat}(w:World) (hT:TyP w w.heap.size ns root [vS A ns.length c,vI i6 root]) (hn:ns.length<=1000000) :
  Calls tP 32 #[.agg #[vS A ns.length c,vI i6 root]] w fun e w'=>e=.returned (vI i6 (wfC ns root))/\bW w w':=by
 obtain⟨W,hW,Y,kW,al⟩:=aW w (oE A ns.length c root)
 have HT:Hid (∀ U,Below (w.heap.size+1) W U->TyP U w.heap.size ns root [vS A ns.length c,vI i6 root]/\bW w U/\U.cell? (aH w 0)=some (vS A ns.length c)/\U.cell? (aH w 1)=some (vI i6 root)/\w.heap.size+1<=U.heap.size):=xI fun U hU=>by
  have hb:=Y.trans (hU.mono (Cf _));have hk:=zAh ((hU.block _ (Nat.lt_succ_self _)).trans kW);exact⟨hT.on hb,hb,hk.1,hk.2,by have:=hU.size;omega⟩
 have J:Hid (RowP w w.heap.size 8 (vS A ns.length c) ns.length (tnR w (fun b=>b<w.heap.size) ns)):=xI (by
  obtain⟨u,hu,_,h⟩:=hT;injection hu with hu _;rw[hu];exact h)
 have HW:=xI (aN Y (aN kW al));have hc:=zAy root W (HT.out W yR).1;clear hT Y kW al;generalize hnl:ns.length=n at *;have o:=xI hnl;clear hnl;go_enter func32,ntmps32;go_wp2_with fail;rw[<-hW];clear hW;refine hc.mono ?_;rintro e w1 ⟨rfl,hb1⟩;have Z:Below (w.heap.size+1) W w1:=hb1.mono (by have:=HW.out.2.2;omega);clear hc;cases hix:idxB n root with
 | false=>
  go_wp2;go_ret;exact⟨by unfold wfC;rw[o.out,hix];rfl,(HT.out w1 Z).2.1⟩
 | true=>
 have n0:0<n:=by have:=zE9.1 hix;omega
 have a3:=xI hix;have aj:=xI Z;clear hix hb1 Z;obtain⟨t0,t1,aS⟩:=(HT.out w1 aj.out).2.2;go_wp2_with fail
 go_loopw [3] (fun iv wr=>∃ i:Nat,iv=vI i6 i/\i<=n/\(∀ m x,m<i->ns[m]?=some x->tnB n x=true)/\Below (w.heap.size+1) W wr) (fun i _=>((n:Int)-intOf i).toNat)
 case atStart=>exact⟨0,rfl,by omega,fun m x hm=>absurd hm (by omega),aj.out⟩
 case round=>
  obtain⟨i,rfl,hi,a,ar⟩:=hrel;have af:=xI ar;have q:=xI a;clear ar a t0 t1 aS;obtain⟨t0,t1,T⟩:=(HT.out wr af.out).2.2;by_cases hin:i<n
  ·have mp:(i:Int)<(n:Int):=by omega
   have m0:(0:Int)<=(i:Int):=by omega
   have bg:IntKind.i64.wrap ((i:Int)+1)=(i:Int)+1:=Br _ (by omega);have z:i<ns.length:=by have:=o.out;omega
   have hx:=Bw z;generalize ns[i]=x at hx;have d:RowP w w.heap.size 8 (vS A ns.length c) ns.length (tnR w (fun b=>b<w.heap.size) ns):=by have:=J.out;rw[o.out];exact this
   obtain⟨bn,on,aa,Ak,ck,Af,cf,hu,f,M,l,N,d0,d1,d2,d3,d4,d5,d6,d7⟩:=TyB.at8 d hx;injection hu with hA _ hcc;subst hA hcc;clear d;have hd:Below (w.heap.size+1) W wr.drew:=af.out.drew;have HQ:Hid (∀ wq,Below (w.heap.size+1) W wq->(jT wq w.heap.size (some (aD bn on)) n c root)/\wq.cell? (aD bn (on+i*8))=some (vI i6 x.kind)/\wq.cell? (aD bn (on+i*8+1))=some (vI i6 x.lo)/\wq.cell? (aD bn (on+i*8+2))=some (vI i6 x.hi)/\wq.cell? (aD bn (on+i*8+3))=some (vT ⟨x.text.toArray⟩)/\wq.cell? (aD bn (on+i*8+4))=some (vS Ak x.kids.length ck)/\wq.cell? (aD bn (on+i*8+5))=some (vS Af x.fds.length cf)/\wq.cell? (aD bn (on+i*8+6))=some (vI i6 x.r0)/\wq.cell? (aD bn (on+i*8+7))=some (vI i6 x.r1)):=xI fun wq h=>by
    obtain⟨_,hb,q0,q1,_⟩:=HT.out wq h;exact⟨⟨q0,q1⟩,(hb.cell (p:=(aD bn _)) f).trans d0,(hb.cell (p:=(aD bn _)) f).trans d1,(hb.cell (p:=(aD bn _)) f).trans d2,(hb.cell (p:=(aD bn _)) f).trans d3,(hb.cell (p:=(aD bn _)) f).trans d4,(hb.cell (p:=(aD bn _)) f).trans d5,(hb.cell (p:=(aD bn _)) f).trans d6,(hb.cell (p:=(aD bn _)) f).trans d7⟩
   have I:=HT.out _ hd;have aA:TnP wr.drew wr.drew.heap.size x [vI i6 x.kind,vI i6 x.lo,vI i6 x.hi,vT ⟨x.text.toArray⟩,vS Ak x.kids.length ck,vS Af x.fds.length cf,vI i6 x.r0,vI i6 x.r1]:=by
    have h:TnP w w.heap.size x [vI i6 x.kind,vI i6 x.lo,vI i6 x.hi,vT ⟨x.text.toArray⟩,vS Ak x.kids.length ck,vS Af x.fds.length cf,vI i6 x.r0,vI i6 x.r1]:=⟨_,_,rfl,M,l,N⟩;exact (h.on I.2.1).up (by have:=I.2.2.2.2;omega)
   have H:TyP wr.drew wr.drew.heap.size ns root [vS (some (aD bn on)) n c,vI i6 root]:=I.1.up (by have:=I.2.2.2.2;omega);have hc:Calls tP 75 #[.agg #[vS (some (aD bn on)) n c,vI i6 root],.agg #[vI i6 x.kind,vI i6 x.lo,vI i6 x.hi,vT ⟨x.text.toArray⟩,vS Ak x.kids.length ck,vS Af x.fds.length cf,vI i6 x.r0,vI i6 x.r1]] wr.drew fun e w'=>e=.returned (.bool (tnB ns.length x))/\Below wr.drew.heap.size wr.drew w':=zKh wr.drew H aA;rw[o.out]at hc;have HX:=xI hx;clear M l N d0 d1 d2 d3 d4 d5 d6 d7 hx I aA H z;generalize x.kids.length=kl at *;generalize x.fds.length=fl at *;go_wp2_with fail;refine Bf (S:=fun wq=>(jT wq w.heap.size (some (aD bn on)) n c root)/\wq.cell? (aD bn (on+i*8))=some (vI i6 x.kind)/\wq.cell? (aD bn (on+i*8+1))=some (vI i6 x.lo)/\wq.cell? (aD bn (on+i*8+2))=some (vI i6 x.hi)/\wq.cell? (aD bn (on+i*8+3))=some (vT ⟨x.text.toArray⟩)/\wq.cell? (aD bn (on+i*8+4))=some (vS Ak kl ck)/\wq.cell? (aD bn (on+i*8+5))=some (vS Af fl cf)/\wq.cell? (aD bn (on+i*8+6))=some (vI i6 x.r0)/\wq.cell? (aD bn (on+i*8+7))=some (vI i6 x.r1)) (by kernel_rfl) (HQ.out _ hd) (fun _=>?_);refine oT 0 (HQ.out _ hd) ?_
   (iterate 5 refine oY (HQ.out _ hd) ?_)
   refine oO 6 fun K hK=>?_;go_simp;refine hc.mono ?_;rintro e w2 ⟨rfl,hb2⟩;have C:Below (w.heap.size+1) W w2:=hd.trans (hb2.mono (by have:=hd.size;have:=HW.out.2.2;omega));clear hc;refine hK _ _ (HQ.out _ C) (oP ?_);clear hK K;refine oT 7 (HQ.out _ C) ?_;refine wD ?_;cases hxx:tnB n x with
   | false=>
    go_wp2;go_ret;exact⟨by
     have hf:ns.all (tnB n)=false:=by
      rw[C8];exact⟨x,Bi HX.out,by rw[hxx];decide⟩
     unfold wfC;rw[o.out,hf];simp,(HT.out w2 C).2.1⟩
   | true=>
    go_wp2_with fail
    go_roundw
    case rel=>exact⟨i+1,by go_num,by omega,fun m y hm hy=>by
      by_cases hmi:m=i
      ·subst hmi;rw[HX.out]at hy;injection hy with hy;rw[<-hy];exact hxx
      ·exact q.out m y (by omega) hy,C⟩
    case measure=>simp[intOf];try omega
  ·have mp:¬ (i:Int)<(n:Int):=by omega
   have a:ns.all (tnB n)=true:=by
    rw[B7];intro x hx;obtain⟨m,hm⟩:=Eu.1 hx;exact q.out m x (by have:=(Bx.1 hm).1;have:=o.out;omega) hm
   have aC:Hid (wfC ns root=if (zAk ns n).all id then 0 else 3):=xI (by unfold wfC;rw[o.out,a3.out,a];simp);have HV:Hid (∀ x∈ns,∀ k∈x.kids,0<=k/\k<n):=xI (fun x hx k hk=>by
    have h:=B7.1 a x hx;simp only[tnB,B8,B7,idxB,Be]at h;exact h.1.1 k hk)
   obtain⟨W5,aU,ao,az,am⟩:=zFs wr n hn;have aB:Below (w.heap.size+1) W W5:=af.out.trans (az.mono T);have a7:=xI aB;have a0:=xI ao;have aX:w.heap.size+1<=wr.heap.size:=T;clear a aB ao az;have bm:=xI am;clear am q T;clear aj;generalize wr.heap.size=g at *;go_wp2_with fail;clear aU t0 t1;rename World=>wA
   go_loopw [5] (fun iv wq=>∃ r:Nat,iv=vI i6 r/\r<=n/\BRow wq g (zAk ns r)/\Below (w.heap.size+1) W wq) (fun i _=>((n:Int)-intOf i).toNat)
   case atStart=>exact⟨0,rfl,by omega,by have:=a0.out;rw[<-o.out]at this;exact this,a7.out⟩
   case round=>
    obtain⟨r,rfl,hr,v,au⟩:=hrel;have ab:=xI v;have Q:=xI au;clear v au;rename World=>wR;obtain⟨t0,t1,R⟩:=(HT.out wR Q.out).2.2;by_cases hrn:r<n
    ·have aQ:(r:Int)<(n:Int):=by omega
     have bf:IntKind.i64.wrap ((r:Int)+1)=(r:Int)+1:=Br _ (by omega);go_wp2_with fail
     go_loopw [6] (fun iv wq=>∃ i:Nat,iv=vI i6 i/\i<=n/\BRow wq g ((List.range i).foldl (stepD ns) (zAk ns r))/\Below (w.heap.size+1) W wq) (fun i _=>((n:Int)-intOf i).toNat)
     case atStart=>exact⟨0,rfl,by omega,ab.out,Q.out⟩
     case round=>
      obtain⟨i,rfl,hi,t,ay⟩:=hrel;have aG:=xI t;have ai:=xI ay;clear t ay t0 t1 R;rename World=>wI;obtain⟨t0,t1,aR⟩:=(HT.out wI ai.out).2.2;by_cases hin:i<n
      ·have aP:(i:Int)<(n:Int):=by omega
       have bb:(0:Int)<=(i:Int):=by omega
       have be:IntKind.i64.wrap ((i:Int)+1)=(i:Int)+1:=Br _ (by omega);have z:i<ns.length:=by have:=o.out;omega
       have hx:=Bw z;generalize ns[i]=x at hx;have d:RowP w w.heap.size 8 (vS A ns.length c) ns.length (tnR w (fun b=>b<w.heap.size) ns):=by have:=J.out;rw[o.out];exact this
       obtain⟨bn,on,aa,Ak,ck,Af,cf,hu,f,M,l,N,d0,d1,d2,d3,d4,d5,d6,d7⟩:=TyB.at8 d hx;injection hu with hA _ hcc;subst hA hcc;clear d;have aL:Hid (((List.range i).foldl (stepD ns) (zAk ns r)).length=n):=xI (by rw[zMu,zAt,o.out]);have aZ:Hid ((List.range (i+1)).foldl (stepD ns) (zAk ns r)=((List.range i).foldl (stepD ns) (zAk ns r)).set i (dn ((List.range i).foldl (stepD ns) (zAk ns r)) i||kidsD ((List.range i).foldl (stepD ns) (zAk ns r)) x)):=xI (by rw[zJg,zNw hx]);generalize (List.range i).foldl (stepD ns) (zAk ns r)=D at *;have G:x.kids.length<=maxLen:=by obtain⟨_,_,_,h,_⟩:=l;exact h.1
       obtain⟨bk,ok,O,X⟩:=zDz l;have a6:Hid (∀ wq:World,Calls tP 76 #[.agg #[vI i6 x.kind,vI i6 x.lo,vI i6 x.hi,vT ⟨x.text.toArray⟩,vS Ak x.kids.length ck,vS Af x.fds.length cf,vI i6 x.r0,vI i6 x.r1]] wq fun e w'=>e=.returned (.bool (conn x))/\bW wq w'):=xI fun wq=>zIs wq;have a1:Hid (∀ k∈x.kids,0<=k/\k<n):=xI (HV.out x (Bi hx));have aK:Hid (∀ wq,Below (w.heap.size+1) W wq->wq.cell? (aD bn (on+i*8))=some (vI i6 x.kind)/\wq.cell? (aD bn (on+i*8+1))=some (vI i6 x.lo)/\wq.cell? (aD bn (on+i*8+2))=some (vI i6 x.hi)/\wq.cell? (aD bn (on+i*8+3))=some (vT ⟨x.text.toArray⟩)/\wq.cell? (aD bn (on+i*8+4))=some (vS Ak x.kids.length ck)/\wq.cell? (aD bn (on+i*8+5))=some (vS Af x.fds.length cf)/\wq.cell? (aD bn (on+i*8+6))=some (vI i6 x.r0)/\wq.cell? (aD bn (on+i*8+7))=some (vI i6 x.r1)):=xI fun wq h=>by
        have hb:=(HT.out wq h).2.1;exact⟨(hb.cell (p:=(aD bn _)) f).trans d0,(hb.cell (p:=(aD bn _)) f).trans d1,(hb.cell (p:=(aD bn _)) f).trans d2,(hb.cell (p:=(aD bn _)) f).trans d3,(hb.cell (p:=(aD bn _)) f).trans d4,(hb.cell (p:=(aD bn _)) f).trans d5,(hb.cell (p:=(aD bn _)) f).trans d6,(hb.cell (p:=(aD bn _)) f).trans d7⟩
       have a2:Hid (∀ wq,Below (w.heap.size+1) W wq->∀ j k,x.kids[j]?=some k->Ak=some (aD bk ok)/\wq.cell? (aD bk (ok+j))=some (vI i6 k)):=xI fun wq h j k hj=>by
        have h0:=O (by have:=(Bx.1 hj).1;omega);exact⟨h0.1,((HT.out wq h).2.1.cell (p:=(aD bk (ok+j))) h0.2).trans (X j k hj).1⟩
       have HX:=xI (aN hx G);clear M l N d0 d1 d2 d3 d4 d5 d6 d7 hx z O X G;go_wp2_with fail
       go_loopw [7,8] (fun av kv wq=>∃ k:Nat,kv=vI i6 k/\k<=x.kids.length/\av=.bool ((x.kids.take k).all (fun k=>dn D k.toNat))/\(conn x=true\/k=0)/\BRow wq g D/\Below (w.heap.size+1) W wq) (fun _ k _=>((x.kids.length:Int)-intOf k).toNat)
       case atStart=>exact⟨0,rfl,by omega,rfl,.inr rfl,aG.out,ai.out⟩
       case round=>
        obtain⟨k,rfl,hk,rfl,aq,d,aw⟩:=hrel;have aE:=xI d;have ag:=xI aw;have a5:=xI aq;clear d aw aq t0 t1 aR;obtain⟨t0,t1,ak⟩:=(HT.out _ ag.out).2.2;obtain⟨e0,e1,e2,e3,e4,e5,e6,e7⟩:=aK.out _ ag.out;rename World=>wK;have a9:(0:Int)<=(k:Int):=by omega
        generalize G:x.kids.length=kl at *;generalize hfl:x.fds.length=fl at *;have P:=xI (aN G hfl);clear G hfl;go_wp2_with fail;refine (a6.out wK).mono ?_;rintro e w2 ⟨rfl,hb2⟩;have C:Below (w.heap.size+1) W w2:=ag.out.trans (hb2.mono (by omega));have E:BRow w2 g D:=aE.out.on (hb2.block _ aE.out.lt);have aI:=xI E;have L:=xI C;clear t0 t1 ak e0 e1 e2 e3 e4 e5 e6 e7 hb2 C;obtain⟨t0,t1,ak⟩:=(HT.out _ L.out).2.2;obtain⟨e0,e1,e2,e3,e4,e5,e6,e7⟩:=aK.out _ L.out;clear e0 e1 e2 e3 e5 e6 e7;by_cases hgo:conn x=true/\k<kl
        ·have a8:(k:Int)<(kl:Int):=by omega
         rw[hgo.1];have bd:IntKind.i64.wrap ((k:Int)+1)=(k:Int)+1:=Br _ (by have:=HX.out.2;unfold maxLen at this;omega);have ap:k<x.kids.length:=by have:=P.out.1;omega
         have F:=Bw ap;generalize x.kids[k]=kj at F;have V:=a1.out kj (Bi F);obtain⟨O,X⟩:=a2.out _ L.out k kj F;obtain⟨km,rfl⟩:∃ km:Nat,kj=(km:Int):=⟨kj.toNat,by omega⟩;subst O;have bj:=E.cell (k:=km) (by rw[aL.out];omega);have k2:(km:Int)<(n:Int):=V.2;have k3:(0:Int)<=(km:Int):=V.1;have aY:Hid ((x.kids.take (k+1)).all (fun k=>dn D k.toNat)=((x.kids.take k).all (fun k=>dn D k.toNat)&&dn D km)):=xI (by rw[zHt F];rfl);generalize (x.kids.take k).all (fun k=>dn D k.toNat)=b0 at *;generalize dn D km=b1 at *;have a4:=xI hgo.1;have bo:=xI F;clear hgo V F ap E;cases b0
         all_goals
          cases b1
          all_goals
           go_wp2_with fail
           go_roundw
           case rel=>exact⟨k+1,by go_num,by have:=P.out.1;omega,by rw[aY.out];rfl,.inl a4.out,aI.out,L.out⟩
           case measure=>have:=P.out.1;simp[intOf];try omega
        ·have aM:Hid (kidsD D x=(x.kids.take k).all (fun k=>dn D k.toNat)):=xI (by
          cases hcx:conn x with
          | true=>
           have aV:kl<=k:=by
            rcases Nat.lt_or_ge k kl with h|h
            ·exact absurd ⟨hcx,h⟩ hgo
            ·exact h
           rw[zK0 hcx,Cz (by rw[P.out.1];exact aV)]
          | false=>
           rcases a5.out with h|h
           ·rw[hcx]at h;simp at h
           ·rw[zKz hcx,h];rfl)
         have aT:conn x=false\/¬ (k:Int)<(kl:Int):=by
          cases hcx:conn x with
          | false=>exact .inl rfl
          | true=>right;intro h;exact hgo ⟨hcx,by omega⟩
         have bi:=E.cell (k:=i) (by rw[aL.out];exact hin);have bh:=E.froz i;have aJ:Hid (∀ b,(dn D i||kidsD D x)=b->∀ wq,wq=w2.setCell (aD g i) (.bool b)->BRow wq g ((List.range (i+1)).foldl (stepD ns) (zAk ns r))/\Below (w.heap.size+1) W wq):=xI fun b hb wq hwq=>by
          rw[aZ.out,hb,hwq];exact⟨aI.out.set i b,L.out.setCell (p:=(aD g i)) aX _⟩
         rw[aM.out]at aJ;generalize (x.kids.take k).all (fun k=>dn D k.toNat)=b0 at *;generalize dn D i=b1 at *;clear hgo E aM;rcases aT with hcf|hcf
         case' inl=>rw[hcf]
         case' inr=>cases hcx:conn x
         all_goals
          cases b0
          all_goals
           cases b1
           all_goals
            go_wp2_with fail
            go_roundw
            case rel=>exact⟨i+1,by go_num,by omega,aJ.out _ rfl _ rfl⟩
            case measure=>simp[intOf];try omega
      ·have aP:¬ (i:Int)<(n:Int):=by omega
       obtain rfl:i=n:=by omega
       clear ab Q;go_wp2_with fail
       go_roundw
       case rel=>exact⟨r+1,by go_num,by omega,by have:=aG.out;unfold zAk zH3;rw[o.out];exact this,ai.out⟩
       case measure=>simp[intOf];try omega
    ·have aQ:¬ (r:Int)<(n:Int):=by omega
     obtain rfl:r=n:=by omega
     have ad:Hid ((zAk ns r).length=r):=xI (by rw[zAt,o.out]);go_wp2_with fail
     go_loopw [9] (fun iv wq=>∃ i:Nat,iv=vI i6 i/\i<=r/\(∀ m,m<i->dn (zAk ns r) m=true)/\BRow wq g (zAk ns r)/\Below (w.heap.size+1) W wq) (fun i _=>((r:Int)-intOf i).toNat)
     case atStart=>exact⟨0,rfl,by omega,fun m hm=>absurd hm (by omega),ab.out,Q.out⟩
     case round=>
      obtain⟨i,rfl,hi,a,an,ax⟩:=hrel;have q:=xI a;have ah:=xI ax;have aF:=xI an;clear a ax an;by_cases hin:i<r
      ·have aO:(i:Int)<(r:Int):=by omega
       have ba:(0:Int)<=(i:Int):=by omega
       have bc:IntKind.i64.wrap ((i:Int)+1)=(i:Int)+1:=Br _ (by omega);have B:=aF.out.cell (k:=i) (by rw[ad.out];exact hin);cases s:dn (zAk ns r) i with
       | false=>
        rw[s]at B;have ae:=xI s;clear s;go_wp2;go_ret;refine⟨?_,(HT.out _ ah.out).2.1⟩;have s:=ae.out;have hf:(zAk ns r).all id=false:=by
         rw[C8];unfold dn at s;have z:i<(zAk ns r).length:=by rw[ad.out];exact hin
         rw[Bw z]at s;exact⟨_,Cv z,by simp at s;simp[s]⟩
        rw[aC.out,hf];rfl
       | true=>
        rw[s]at B;have ae:=xI s;clear s;go_wp2_with fail
        go_roundw
        case rel=>exact⟨i+1,by go_num,by omega,fun m hm=>by
         by_cases hmi:m=i
         ·rw[hmi];exact ae.out
         ·exact q.out m (by omega),aF.out,ah.out⟩
        case measure=>simp[intOf];try omega
      ·have aO:¬ (i:Int)<(r:Int):=by omega
       go_wp2;go_ret;refine⟨?_,(HT.out _ ah.out).2.1⟩;have hf:(zAk ns r).all id=true:=by
        rw[B7];intro b hb;obtain⟨m,hm,rfl⟩:=List.mem_iff_getElem.1 hb;have h:=q.out m (by rw[ad.out]at hm;omega);unfold dn at h;rw[Bw hm]at h;exact h
       rw[aC.out,hf];rfl
end Go.Proofs.YteedihhdcbepmaaGreat
