/- The program's Variables and IsGround. -/
import Derived.Test.YteedihhdcbepmaaGreatTsZ
import Derived.Test.YteedihhdcbepmaaGreatTs18
set_option maxRecDepth 100000
set_option maxHeartbeats 12800000
set_option linter.all false
open Go.Value renaming slice→vS,int→vI,string→vT
open Go.IntKind renaming i64→i6
open Go.Proofs.Tryz
open Go.Proofs.Tryz renaming prog→tP
namespace Go.Proofs.YteedihhdcbepmaaGreat
open Go Go.RowKit
def elS7:ElK (List UInt8):=⟨fun x _ _ cs=>cs=[vT ⟨x.toArray⟩],fun _ h=>h,fun _ h=>h⟩
theorem zKv {x:List UInt8}{w:World}{B:Nat->Prop}{cs:List Value}(h:elS7.E x w B cs):∀ u∈cs,u.oneCell'=true:=by
 obtain rfl:=h;intro u hu;simp at hu;subst hu;rfl
theorem namS7:Nam 31 9 (vT .empty) 1 16:=⟨underlying31,by kernel_rfl,rfl,by decide,by decide⟩
theorem OwnE.names {w:World}{base:Nat}{v:Value}{l:List (List UInt8)}(h:OwnE elS7 9 1 w base v l):OwnN w base v l:=by
 obtain⟨xs,h1,h2⟩:=h;have hx:xs=l.map encStr:=by
  apply Dq;intro j;have hl:xs.length=l.length*1:=h1.1;by_cases hj:j<l.length
  ·have h3:=h2 j _ (By hj);have h4:(xs.drop (j*1)).take 1=[vT ⟨(l[j]).toArray⟩]:=h3;rw[Nat.mul_one]at h4;have h5:((xs.drop j).take 1)[0]?=xs[j]?:=by rw[Co (by decide),C7,Ds]
   rw[<-h5,h4,Ch,By hj];rfl
  ·rw[Ce (by omega),Ce (by rw[Bk];omega)]
 rw[hx]at h1;exact h1
def varL (ns:List Tn) (l:List Int):List (List UInt8):=(l.filter fun n=>decide ((nd ns n).kind=19)).map fun n=>(nd ns n).text
theorem zIf (ns:List Tn) (l:List Int) (n:Int):varL ns (l++[n])=varL ns l++(if (nd ns n).kind=19 then [(nd ns n).text] else []):=by
 unfold varL;rw[List.filter_append,Dl,List.filter_cons];by_cases h:(nd ns n).kind=19<;>simp[h]
theorem zOu (ns:List Tn) (l:List Int):(varL ns l).length<=l.length:=by unfold varL;rw[Bk];exact El _ _
theorem zEb {ns:List Tn}{root:Int}{A:Option Addr}{c:Nat}(w:World) (hT:TyP w w.heap.size ns root [vS A ns.length c,vI i6 root]) (hn:ns.length<=1000000) :
  Calls tP 52 #[.agg #[vS A ns.length c,vI i6 root]] w fun e w'=>∃ v,e=.returned v/\OwnN w' w.heap.size v (srt (varL (accT (ns,root)).1 (visR (accT (ns,root)).1 (accT (ns,root)).2.toNat)))/\bW w w':=by
 obtain⟨W0,Y,W,Q,J⟩:=aW w (oE A ns.length c root)
 have T:=zHe (H:=w.heap.size) W0 (by omega) (hT.on W) hn;have N:(accT (ns,root)).1.length<=1000000:=by
  unfold accT;split
  ·exact hn
  ·simp[noneT]
 have K:=zCi (ns,root);obtain⟨q0,q1⟩:=zAf Q;rw[Y]at q0 q1;have HP:=xI (aN W (aN Q J));generalize hta:accT (ns,root)=ta at *;obtain⟨ms,r⟩:=ta;clear hta hn hT W Q J;dsimp only at T N K ⊢;go_enter func52,ntmps52;go_wp2_with fail;rw[<-Y];refine T.mono ?_;rintro e w1 ⟨⟨A1,c1,rfl,hT1⟩,hb1⟩;clear T q0 q1 Y;have J:=HP.out.2.2;have k1:=(hb1.block w.heap.size (by omega)).trans HP.out.2.1;obtain⟨q0,q1⟩:=zAf k1;have f0:=Bz k1 0;have f1:=Bz k1 1;obtain⟨V1,aa⟩:∃ V1,V1=(w1.setCell (aH w 0) (vS A1 ms.length c1)).setCell (aH w 1) (vI i6 r):=⟨_,rfl⟩;obtain⟨p1,p2,p3,p4⟩:=box2x k1 _ _ V1 aa;have aC:=hb1.size;have ax:bW w V1:=(HP.out.1.trans (hb1.mono (by omega))).trans (p4 _ lR);have S:∀ b,Bo w.heap.size W0 w1 b->b<V1.heap.size/\b≠w.heap.size:=fun b hb=>by rcases hb with h|h<;>exact⟨by omega,by omega⟩
 have ae:TyB V1 (fun b=>b<V1.heap.size/\b≠w.heap.size) ms r [vS A1 ms.length c1,vI i6 r]:=(hT1.keep (w':=V1) ⟨by omega,fun b i hb _=>Bi (p3 b (S b hb).2)⟩).sub S;have ar:=zFv (H:=V1.heap.size) V1 lR (ae.sub fun b hb=>hb.1) K N;obtain⟨t0,t1⟩:=zAf p1;have HT:=xI (aN N (aN K (aN ae (aN p1 (aN ax (show w.heap.size<V1.heap.size by omega))))));have ag:=xI aa;clear aa p1 p2 p3 p4 aC ax S ae hT1 hb1 J k1 N K;rw[ag.out]at t0 t1;go_wp2_with fail;rw[<-ag.out];clear t0 t1 q0 q1 f0 f1 ag;refine ar.mono ?_;rintro e U ⟨v,rfl,hO,hbU⟩;clear ar;obtain⟨a,f⟩:∃ a,a=visR ms r.toNat:=⟨_,rfl⟩;rw[<-f]at hO;obtain⟨Ao,co,rfl⟩:=hO.form;have I:Hid ((∀ i∈a,0<=i/\i.toNat<ms.length)/\a.length<=1000000):=xI (by
  have hv:=zBz (t:=(ms,r)) HT.out.2.1;have al:=HT.out.2.1.rt;refine⟨fun i hi=>?_,?_⟩
  ·rw[f]at hi;have h:=(hv i).1 hi;exact⟨h.1,h.2.lt HT.out.2.1.wf.edg (by simp only at al ⊢;omega)⟩
  ·rw[f];have h2:=zHt ms.length (visR ms r.toNat) (zEu (t:=(ms,r)) HT.out.2.1) fun k hk=>by
    have h:=(hv k).1 hk;have:=h.2.lt HT.out.2.1.wf.edg (by simp only at al ⊢;omega);exact⟨h.1,by simp only at this;omega⟩
   have:=HT.out.1;omega)
 have HU:=xI (aN hO hbU);have ah:=xI f;clear hO hbU f;go_wp2_with fail
 go_loopw [12,3] (fun i v wr=>∃ j:Nat,i=vI i6 j/\j<=a.length/\OwnE elS7 9 1 wr U.heap.size v (varL ms (a.take j))/\bW U wr) (fun i _ _=>((a.length:Int)-intOf i).toNat)
 case atStart=>exact⟨0,rfl,Bt _,OwnE.nil _ _ _ _ _,Bw _ _⟩
 case round=>
  obtain⟨j,rfl,hj,P,aw⟩:=hrel;obtain⟨Av,cv,rfl⟩:=P.form;have an:∀ g,(vS Av (varL ms (a.take j)).length cv).ownBlock=some g->U.heap.size<=g:=fun g hg=>(OwnE.ltB P hg).1;have z:=zOu ms (a.take j);generalize hnl:varL ms (a.take j)=nl at *;have ai:=xI hnl;have HI:=xI (aN P (aN aw (aN an z)));clear P aw an z hnl;by_cases hlt:j<a.length
  ·have mp:(j:Int)<(a.length:Int):=by omega
   have m0:(0:Int)<=(j:Int):=by omega
   have aL:IntKind.i64.wrap ((j:Int)+1)=(j:Int)+1:=Br _ (by have:=I.out.2;omega);have E:=By hlt;have n:=Cx hlt;have p:a.take (j+1)=a.take j++[a[j]]:=by rw[Cr,E];rfl
   generalize a[j]=m at E n p;have ap:=I.out.1 m n;obtain⟨mn,rfl⟩:∃ mn:Nat,m=(mn:Int):=⟨m.toNat,by omega⟩;have az:=xI p;have aD:mn<ms.length:=by omega
   have u1:(0:Int)<=(mn:Int):=by omega
   have u2:(mn:Int)<(ms.length:Int):=by omega
   have hx:=By aD;generalize ms[mn]=x at hx;have l:nd ms (mn:Int)=x:=nd_at hx;have ad:=HU.out.2.size;have Z:=HT.out.2.2.2.2.2;have o:bW V1 wr:=HU.out.2.trans (HI.out.2.1.mono ad);have af:OwnI wr V1.heap.size (vS Ao a.length co) a:=OwnE.stay zAp HU.out.1 fun g hg hl=>HI.out.2.1.block g hl;obtain⟨bo,oo,aG,av,am,_⟩:=zDa ((OwnI.row af (by have:=I.out.2;unfold maxLen;omega)).sub (fun b hb=>hb.2) fun _ _ h=>h) E;subst aG;have aF:=HT.out.2.2.1.keep (Same.of_below o fun b hb=>hb.1);obtain⟨uu,R,_,q⟩:=aF;injection R with R _;subst R;obtain⟨bn,on,aI,Ak,ck,Af,cf,hu,_,d0,d1,d2,d3,d4,d5,d6,d7⟩:=TyB.at8B q hx;injection hu with hA hq1 hq2;clear hq1;subst hA hq2;obtain⟨t0,t1⟩:=zAf ((o.block w.heap.size Z).trans HT.out.2.2.2.1);obtain⟨X,hX,O,kX,aj⟩:=aW wr (oX x.kind x.lo x.hi ⟨x.text.toArray⟩ Ak x.kids.length ck Af x.fds.length cf x.r0 x.r1)
   have F:OwnE elS7 9 1 X U.heap.size (vS Av nl.length cv) nl:=OwnE.old HI.out.1 O;have d:bW U X:=HI.out.2.1.trans (O.mono HI.out.2.1.size);have L:=HI.out.2.2.2;have M:(a.take j).length<=1000000:=by rw[Bg];have:=I.out.2;omega
   obtain⟨x0,x1,x2,x3,x4,x5,x6,x7⟩:=zAe kX;rw[hX]at x0 x1 x2 x3 x4 x5 x6 x7;by_cases hk:x.kind=19
   ·have HV:Hid (varL ms (a.take (j+1))=nl++[x.text]):=xI (by rw[az.out,zIf,ai.out,l,if_pos hk]);have aE:=d.size;have u:nl.length<=300000000:=by omega
    have s:U.heap.size<=X.heap.size:=d.size;have G:=xI d;have C:=zKv (x:=x.text) (w:=w) (B:=fun _=>True) (cs:=[vT ⟨x.text.toArray⟩]) rfl;clear d L M O kX aj ad Z o af q E n p ap hx l av;subst hX;rw[hk]at F s G x0 x1 x2 x3 x4 x5 x6 x7;go_wp2_with (at_builtin;refine zFm elS7 namS7 rfl _ _ rfl U.heap.size _ nl rfl F x.text [vT ⟨x.text.toArray⟩] 1 (wr.heap.size+1) (by simp) rfl _ rfl rfl rfl C u s ?_;intro g cap w4 ho4 hb4 _ _;refine Hid.out ?_);refine xI ?_;have HF:=xI (aN ho4 hb4);clear ho4 hb4 F C u s x0 x1 x2 x3 x4 x5 x6 x7 d0 d1 d2 d3 d4 d5 d6 d7 t0 t1 am;go_wp2_with fail
    go_roundw
    case rel=>exact⟨j+1,by go_num,by omega,by rw[HV.out];exact HF.out.1,G.out.trans HF.out.2⟩
    case measure=>simp[intOf];omega
   ·have HV:Hid (varL ms (a.take (j+1))=nl):=xI (by rw[az.out,zIf,ai.out,l,if_neg hk,Do]);have G:=xI (aN F d);clear F d L M O kX aj ad Z o af q E n p ap hx l av;go_wp2_with fail;clear x0 x1 x2 x3 x4 x5 x6 x7 d0 d1 d2 d3 d4 d5 d6 d7 t0 t1 am
    try rw[<-hX]
    go_roundw
    case rel=>exact⟨j+1,by go_num,by omega,by rw[HV.out];exact G.out.1,G.out.2⟩
    case measure=>simp[intOf];omega
  ·obtain rfl:j=a.length:=by omega
   have mp:¬ ((a.length:Nat):Int)<(a.length:Int):=by omega
   have L:=HI.out.2.2.2;have ao:=I.out.2;have M:(a.take a.length).length<=1000000:=by rw[Ek];exact ao
   have ay:=HI.out.1.names;have ab:=HI.out.2.1.size;have au:=zMt _ _ wr U.heap.size ay ab (by omega);have D:nl.length<=1000000:=by omega
   have aJ:=xI D;clear L ao ay ab M D;go_wp2_with (go_at_call 94;refine au.mono ?_;rintro e w3 ⟨rfl,ho3,hb3⟩;refine Hid.out ?_);refine xI ?_;have aB:=hb3.size;have aq:(nl.mergeSort fun x y=>decide (x<=y)).length=nl.length:=List.length_mergeSort _;have V:=zI8 _ _ w3 U.heap.size ho3 (by have:=HI.out.2.1.size;omega) (by rw[aq];have:=aJ.out;omega);have ak:Lib.compact (nl.mergeSort fun x y=>decide (x<=y))=srt nl:=rfl;rw[ak]at V;have aK:=xI hb3;clear au ho3 hb3 aB aq ak;go_wp2_with (go_at_call 95;refine V.mono ?_;rintro e w4 ⟨v4,rfl,ho4,hb4⟩;refine Hid.out ?_);refine xI ?_;have aA:=xI (aN ho4 hb4);clear V ho4 hb4;go_wp2;go_ret;have ab:=HI.out.2.1.size;have hn:nl=varL ms a:=by rw[<-ai.out,Ek]
   refine⟨v4,by first|rfl|simp,?_,?_⟩
   ·rw[<-ah.out,<-hn];exact OwnN.mono aA.out.1 (by have:=HU.out.2.size;have:=HT.out.2.2.2.2.2;omega)
   ·have h1:=HT.out.2.2.2.2.1.trans (HU.out.2.mono (by have:=HT.out.2.2.2.2.2;omega));have h2:=h1.trans (HI.out.2.1.mono (by have:=h1.size;omega));exact (h2.trans (aK.out.mono (by have:=h1.size;omega))).trans (aA.out.2.mono (by have:=h1.size;omega))
def varsT (t:Ty):List (List UInt8):=srt (varL (accT t).1 (visR (accT t).1 (accT t).2.toNat))
theorem zI1 {ns:List Tn}{root:Int}{A:Option Addr}{c:Nat}(w:World) (hT:TyP w w.heap.size ns root [vS A ns.length c,vI i6 root]) (hn:ns.length<=1000000) :
  Calls tP 43 #[.agg #[vS A ns.length c,vI i6 root]] w fun e w'=>e=.returned (.bool (decide (((varsT (ns,root)).length:Int)=0)))/\bW w w':=by
 obtain⟨W,hW,hb,kW,_⟩:=aW w (oE A ns.length c root)
 have hc:=zEb W ((hT.on hb).up hb.size) hn;have hv:varsT (ns,root)=srt (varL (accT (ns,root)).1 (visR (accT (ns,root)).1 (accT (ns,root)).2.toNat)):=rfl;rw[<-hv]at hc;generalize varsT (ns,root)=vs at *;obtain⟨q0,q1⟩:=zAf kW;rw[hW]at q0 q1;have HB:=xI hb;clear hT hb kW hv;go_enter func43,ntmps43;go_wp2_with fail;rw[<-hW];clear hW q0 q1;refine hc.mono ?_;rintro e w1 ⟨v,rfl,hO,hb1⟩;obtain⟨Av,cv,rfl⟩:=hO.form;have HC:=xI hb1;clear hO hb1 hc;go_wp2;go_ret;exact⟨by first|rfl|simp,HB.out.trans (HC.out.mono HB.out.size)⟩
theorem zOt {t:Ty}(h:WfT t):zHf t.1 t.2.toNat (varsT t):=by
 unfold varsT;rw[zGj h];refine⟨(zD2 _).imp fun hab=>zDq hab,fun s=>?_⟩;rw[zBq];unfold varL;rw[Cd];constructor
 ·rintro⟨n,hn,rfl⟩;obtain⟨h1,h2⟩:=Dj.1 hn;have h3:=(zBz h n).1 h1;have h4:=h3.2.lt h.wf.edg (by have:=h.rt;omega);have h5:=By h4;refine⟨n.toNat,nd t.1 n,h3.2,?_,by simpa using h2,rfl⟩;rw[nd_at h5];exact h5
 ·rintro⟨i,x,h1,h2,h3,rfl⟩;have hx:nd t.1 (i:Int)=x:=nd_at (by simpa using h2);refine⟨(i:Int),Dj.2 ⟨(zBz h _).2 ⟨by omega,by simpa using h1⟩,by rw[hx];simpa using h3⟩,by rw[hx]⟩
theorem zB1 {x:Tn}{k:Int}(h:k∈x.kids):k∈edg x:=by unfold edg;simp[h]
theorem zP5 (ns:List Tn) (root:Int) (A:Option Addr) (c:Nat) (hw:Wf ns) (k:Nat) (K lo hi:Int) (tn:List UInt8) (ks:List Int) (fds:List Fd) (r0 r1:Int) (hx:ns[k]?=some ⟨K,lo,hi,tn,ks,fds,r0,r1⟩) (hK:K=10)
  (q:Nat) (kd it:Int) (tx:List UInt8) (kids:List Vl) (keys:List (Int×List UInt8)) (ents:List En) (labs:List (List UInt8)) (Av Ay Ae Ab:Option Addr) (cv cy ce cb:Nat) (w:World) (hT:TyAt w ns root A c) (hv:VS (q+1) w w.heap.size (.mk kd it tx kids keys ents labs) [vI i6 kd,vI i6 it,vT ⟨tx.toArray⟩,vS Av kids.length cv,vS Ay keys.length cy,vS Ae ents.length ce,vS Ab labs.length cb]) (hok:okV (.mk kd it tx kids keys ents labs)=true) (hI:Hid (∀ v' k',k'<ns.length->fu ns v' k'<fu ns (.mk kd it tx kids keys ents labs) k->MemC ns root A c v' k')) :
  Calls tP 83 #[.agg #[vI i6 kd,vI i6 it,vT ⟨tx.toArray⟩,vS Av kids.length cv,vS Ay keys.length cy,vS Ae ents.length ce,vS Ab labs.length cb],.agg #[vS A ns.length c,vI i6 root],vI i6 k] w fun e w'=>e=.returned (.bool (memB ns (.mk kd it tx kids keys ents labs) k))/\bW w w':=by
 have D:=(Bx.1 hx).1;have g:RowP w w.heap.size 8 (vS A ns.length c) ns.length (tnR w (fun b=>b<w.heap.size) ns):=by
  obtain⟨u,hu,_,h⟩:=hT;injection hu with hu _;rw[hu];exact h
 obtain⟨bn,on,F,Ak,ck,Af,cf,hu,E,o,i,r,d0,d1,d2,d3,d4,d5,d6,d7⟩:=TyB.at8 g hx;injection hu with hA hmm hcc;clear hmm;subst hA hcc;have G:=xI (aN o (aN i r));clear g o i r;have HM:=xI (zBn hw hx (.mk kd it tx kids keys ents labs));have m:=xI (aN hw hx);generalize memB ns (.mk kd it tx kids keys ents labs) k=res at *;obtain⟨W,hW⟩:∃ W,W=(((w.alloc (oV kd it ⟨tx.toArray⟩ Av kids.length cv Ay keys.length cy Ae ents.length ce Ab labs.length cb)).alloc (oE (some (aD bn on)) ns.length c root)).alloc (oX K lo hi ⟨tn.toArray⟩ Ak ks.length ck Af fds.length cf r0 r1)):=⟨_,rfl⟩;have d:bW w W:=by rw[hW];exact ((yR.alloc lR _).alloc (by simp) _).alloc (by simp;omega) _
 have l:bW w ((w.alloc (oV kd it ⟨tx.toArray⟩ Av kids.length cv Ay keys.length cy Ae ents.length ce Ab labs.length cb)).alloc (oE (some (aD bn on)) ns.length c root)):=(yR.alloc lR _).alloc (by simp) _;have kv:W.heap[w.heap.size]?=some (oV kd it ⟨tx.toArray⟩ Av kids.length cv Ay keys.length cy Ae ents.length ce Ab labs.length cb):=by rw[hW,Bp _ _ _ (by simp;omega),Bp _ _ _ (by simp)];exact Bl w _
 have kt:W.heap[w.heap.size+1]?=some (oE (some (aD bn on)) ns.length c root):=by rw[hW,Bp _ _ _ (by simp)];exact zAg _ (by simp)
 have kn:W.heap[w.heap.size+1+1]?=some (oX K lo hi ⟨tn.toArray⟩ Ak ks.length ck Af fds.length cf r0 r1):=by rw[hW];exact zAg _ (by simp)
 have t:W.heap.size=w.heap.size+3:=by rw[hW];simp
 have HT:Hid (∀ wq,bW W wq->TyAt wq ns root (some (aD bn on)) c/\bW w wq/\(jV wq w.heap.size kd it ⟨tx.toArray⟩ Av kids.length cv Ay keys.length cy Ae ents.length ce Ab labs.length cb)/\(jT wq (w.heap.size+1) (some (aD bn on)) ns.length c root)/\(jN wq (w.heap.size+1+1) K lo hi ⟨tn.toArray⟩ Ak ks.length ck Af fds.length cf r0 r1)):=xI fun U hU=>by
  have hb:=d.trans (hU.mono (by omega));exact⟨hT.on hb,hb,zAc ((hU.block _ (by omega)).trans kv),zAf ((hU.block _ (by omega)).trans kt),zAe ((hU.block _ (by omega)).trans kn)⟩
 have K8:=kC8 l E d0 d1 d2 d3 d4 d5 d6 d7;clear d0 d1 d2 d3 d4 d5 d6 d7;obtain⟨d0,d1,d2,d3,d4,d5,d6,d7⟩:=K8;have hE:=(HT.out W yR).2.2;have u1:(0:Int)<=(k:Int):=by omega
 have u2:(k:Int)<(ns.length:Int):=by omega
 have HV:=xI hv;clear l d kv kt kn t hx hw D hT hv;rw[hW]at hE;obtain⟨⟨v0,v1,v2,v3,v4,v5,v6⟩,⟨t0,t1⟩,⟨n0,n1,n2,n3,n4,n5,n6,n7⟩⟩:=hE;have hv:=HV.out;obtain⟨uk,uy,ue,ul,s,_,_,_,n,z,C,B⟩:=hv;simp only[Bb,and_true,true_and]at s;obtain⟨rfl,rfl,rfl,rfl⟩:=s;have f:=m.out.1.edg _ (Bh m.out.2);have v:=m.out.1.node _ (Bh m.out.2);have a:zAj labs=true/\kindB kd it tx kids keys ents=true/\okVs kids=true/\okEs ents=true:=by
  have h:=hok;unfold okV at h;simp only[Cy]at h;exact⟨h.1.1.1.1,h.1.1.2,h.1.2,h.2⟩
 have p:Hid (memS (memB ns) ⟨K,lo,hi,tn,ks,fds,r0,r1⟩ (.mk kd it tx kids keys ents labs)=(decide (kd=6)&&zA7 (memB ns) kids ks)):=xI (by subst hK;rfl);rw[p.out]at HM;have d:=(HT.out W yR).2.1;have hc:=zD5 ns root (some (aD bn on)) c q kids ks Av cv Ak ck W (HT.out W yR).1
  (RowB.mono (RowB.on (R':=fun j cs=>∃ x,kids[j]?=some x/\VS q W w.heap.size x cs) n d fun j cs h=>by obtain⟨x,hx,hv⟩:=h;exact⟨x,hx,VS.on d hv⟩) d.size fun j cs h=>by obtain⟨x,hx,hv⟩:=h;exact⟨x,hx,VS.up d.size lR hv⟩)
  (RowB.mono (RowB.on (R':=kidR ks) G.out.2.1 d fun _ _ h=>h) d.size fun _ _ h=>h)
  (fun x hx=>by have h:=a.2.2.1;rw[zCa,Cz]at h;exact h x hx) (fun y hy=>(f y (zB1 hy)).1) (xI fun x hx y hy=>hI.out x y.toNat (by have:=f y (zB1 hy);omega) (zF7 k y.toNat (zGc hx)))
 clear n z C B f v a hok p d;subst hK;by_cases hkd:kd=6
 case neg=>
  have I:(kd==6)=false:=Cm.2 hkd;have H:=xI hkd;clear hkd hc;go_enter func83,ntmps83;go_wp2;go_ret;exact⟨by rw[HM.out,Ci H.out];rfl,((yR.alloc lR _).alloc (by simp) _).alloc (by simp;omega) _⟩
 case pos=>
  subst hkd;go_enter func83,ntmps83;go_wp2_with fail;rw[<-hW];clear hW v0 v1 v2 v3 v4 v5 v6 t0 t1 n0 n1 n2 n3 n4 n5 n6 n7 d0 d1 d2 d3 d4 d5 d6 d7;refine hc.mono ?_;rintro e w2 ⟨rfl,l⟩;clear hc;go_wp2;go_ret;exact⟨by rw[HM.out];simp,(HT.out _ l).2.1⟩
theorem zNe (ns:List Tn) (root:Int) (A:Option Addr) (c:Nat) (hw:Wf ns) (k:Nat) (K lo hi:Int) (tn:List UInt8) (ks:List Int) (fds:List Fd) (r0 r1:Int) (hx:ns[k]?=some ⟨K,lo,hi,tn,ks,fds,r0,r1⟩) (hK:K=12)
  (q:Nat) (kd it:Int) (tx:List UInt8) (kids:List Vl) (keys:List (Int×List UInt8)) (ents:List En) (labs:List (List UInt8)) (Av Ay Ae Ab:Option Addr) (cv cy ce cb:Nat) (w:World) (hT:TyAt w ns root A c) (hv:VS (q+1) w w.heap.size (.mk kd it tx kids keys ents labs) [vI i6 kd,vI i6 it,vT ⟨tx.toArray⟩,vS Av kids.length cv,vS Ay keys.length cy,vS Ae ents.length ce,vS Ab labs.length cb]) (hok:okV (.mk kd it tx kids keys ents labs)=true) (hI:Hid (∀ v' k',k'<ns.length->fu ns v' k'<fu ns (.mk kd it tx kids keys ents labs) k->MemC ns root A c v' k')) :
  Calls tP 83 #[.agg #[vI i6 kd,vI i6 it,vT ⟨tx.toArray⟩,vS Av kids.length cv,vS Ay keys.length cy,vS Ae ents.length ce,vS Ab labs.length cb],.agg #[vS A ns.length c,vI i6 root],vI i6 k] w fun e w'=>e=.returned (.bool (memB ns (.mk kd it tx kids keys ents labs) k))/\bW w w':=by
 have D:=(Bx.1 hx).1;have g:RowP w w.heap.size 8 (vS A ns.length c) ns.length (tnR w (fun b=>b<w.heap.size) ns):=by
  obtain⟨u,hu,_,h⟩:=hT;injection hu with hu _;rw[hu];exact h
 obtain⟨bn,on,F,Ak,ck,Af,cf,hu,E,o,i,r,d0,d1,d2,d3,d4,d5,d6,d7⟩:=TyB.at8 g hx;injection hu with hA hmm hcc;clear hmm;subst hA hcc;have G:=xI (aN o (aN i r));clear g o i r;have HM:=xI (zBn hw hx (.mk kd it tx kids keys ents labs));have m:=xI (aN hw hx);generalize memB ns (.mk kd it tx kids keys ents labs) k=res at *;obtain⟨W,hW⟩:∃ W,W=(((w.alloc (oV kd it ⟨tx.toArray⟩ Av kids.length cv Ay keys.length cy Ae ents.length ce Ab labs.length cb)).alloc (oE (some (aD bn on)) ns.length c root)).alloc (oX K lo hi ⟨tn.toArray⟩ Ak ks.length ck Af fds.length cf r0 r1)):=⟨_,rfl⟩;have d:bW w W:=by rw[hW];exact ((yR.alloc lR _).alloc (by simp) _).alloc (by simp;omega) _
 have l:bW w ((w.alloc (oV kd it ⟨tx.toArray⟩ Av kids.length cv Ay keys.length cy Ae ents.length ce Ab labs.length cb)).alloc (oE (some (aD bn on)) ns.length c root)):=(yR.alloc lR _).alloc (by simp) _;have kv:W.heap[w.heap.size]?=some (oV kd it ⟨tx.toArray⟩ Av kids.length cv Ay keys.length cy Ae ents.length ce Ab labs.length cb):=by rw[hW,Bp _ _ _ (by simp;omega),Bp _ _ _ (by simp)];exact Bl w _
 have kt:W.heap[w.heap.size+1]?=some (oE (some (aD bn on)) ns.length c root):=by rw[hW,Bp _ _ _ (by simp)];exact zAg _ (by simp)
 have kn:W.heap[w.heap.size+1+1]?=some (oX K lo hi ⟨tn.toArray⟩ Ak ks.length ck Af fds.length cf r0 r1):=by rw[hW];exact zAg _ (by simp)
 have t:W.heap.size=w.heap.size+3:=by rw[hW];simp
 have HT:Hid (∀ wq,bW W wq->TyAt wq ns root (some (aD bn on)) c/\bW w wq/\(jV wq w.heap.size kd it ⟨tx.toArray⟩ Av kids.length cv Ay keys.length cy Ae ents.length ce Ab labs.length cb)/\(jT wq (w.heap.size+1) (some (aD bn on)) ns.length c root)/\(jN wq (w.heap.size+1+1) K lo hi ⟨tn.toArray⟩ Ak ks.length ck Af fds.length cf r0 r1)):=xI fun U hU=>by
  have hb:=d.trans (hU.mono (by omega));exact⟨hT.on hb,hb,zAc ((hU.block _ (by omega)).trans kv),zAf ((hU.block _ (by omega)).trans kt),zAe ((hU.block _ (by omega)).trans kn)⟩
 have K8:=kC8 l E d0 d1 d2 d3 d4 d5 d6 d7;clear d0 d1 d2 d3 d4 d5 d6 d7;obtain⟨d0,d1,d2,d3,d4,d5,d6,d7⟩:=K8;have hE:=(HT.out W yR).2.2;have u1:(0:Int)<=(k:Int):=by omega
 have u2:(k:Int)<(ns.length:Int):=by omega
 have HV:=xI hv;clear l d kv kt kn t hx hw D hT hv;rw[hW]at hE;obtain⟨⟨v0,v1,v2,v3,v4,v5,v6⟩,⟨t0,t1⟩,⟨n0,n1,n2,n3,n4,n5,n6,n7⟩⟩:=hE;have hv:=HV.out;obtain⟨uk,uy,ue,ul,s,_,_,_,n,z,C,B⟩:=hv;simp only[Bb,and_true,true_and]at s;obtain⟨rfl,rfl,rfl,rfl⟩:=s;have f:=m.out.1.edg _ (Bh m.out.2);have v:=m.out.1.node _ (Bh m.out.2);have a:zAj labs=true/\kindB kd it tx kids keys ents=true/\okVs kids=true/\okEs ents=true:=by
  have h:=hok;unfold okV at h;simp only[Cy]at h;exact⟨h.1.1.1.1,h.1.1.2,h.1.2,h.2⟩
 have p:Hid (memS (memB ns) ⟨K,lo,hi,tn,ks,fds,r0,r1⟩ (.mk kd it tx kids keys ents labs)=(decide (kd=7)&&zA7 (memB ns) kids ks)):=xI (by subst hK;rfl);rw[p.out]at HM;have d:=(HT.out W yR).2.1;have hc:=zD5 ns root (some (aD bn on)) c q kids ks Av cv Ak ck W (HT.out W yR).1
  (RowB.mono (RowB.on (R':=fun j cs=>∃ x,kids[j]?=some x/\VS q W w.heap.size x cs) n d fun j cs h=>by obtain⟨x,hx,hv⟩:=h;exact⟨x,hx,VS.on d hv⟩) d.size fun j cs h=>by obtain⟨x,hx,hv⟩:=h;exact⟨x,hx,VS.up d.size lR hv⟩)
  (RowB.mono (RowB.on (R':=kidR ks) G.out.2.1 d fun _ _ h=>h) d.size fun _ _ h=>h)
  (fun x hx=>by have h:=a.2.2.1;rw[zCa,Cz]at h;exact h x hx) (fun y hy=>(f y (zB1 hy)).1) (xI fun x hx y hy=>hI.out x y.toNat (by have:=f y (zB1 hy);omega) (zF7 k y.toNat (zGc hx)))
 clear n z C B f v a hok p d;subst hK;by_cases hkd:kd=7
 case neg=>
  have I:(kd==7)=false:=Cm.2 hkd;have H:=xI hkd;clear hkd hc;go_enter func83,ntmps83;go_wp2;go_ret;exact⟨by rw[HM.out,Ci H.out];rfl,((yR.alloc lR _).alloc (by simp) _).alloc (by simp;omega) _⟩
 case pos=>
  subst hkd;go_enter func83,ntmps83;go_wp2_with fail;rw[<-hW];clear hW v0 v1 v2 v3 v4 v5 v6 t0 t1 n0 n1 n2 n3 n4 n5 n6 n7 d0 d1 d2 d3 d4 d5 d6 d7;refine hc.mono ?_;rintro e w2 ⟨rfl,l⟩;clear hc;go_wp2;go_ret;exact⟨by rw[HM.out];simp,(HT.out _ l).2.1⟩
theorem zP6 (ns:List Tn) (root:Int) (A:Option Addr) (c:Nat) (hw:Wf ns) (k:Nat) (K lo hi:Int) (tn:List UInt8) (ks:List Int) (fds:List Fd) (r0 r1:Int) (hx:ns[k]?=some ⟨K,lo,hi,tn,ks,fds,r0,r1⟩) (hK:K=18)
  (q:Nat) (kd it:Int) (tx:List UInt8) (kids:List Vl) (keys:List (Int×List UInt8)) (ents:List En) (labs:List (List UInt8)) (Av Ay Ae Ab:Option Addr) (cv cy ce cb:Nat) (w:World) (hT:TyAt w ns root A c) (hv:VS (q+1) w w.heap.size (.mk kd it tx kids keys ents labs) [vI i6 kd,vI i6 it,vT ⟨tx.toArray⟩,vS Av kids.length cv,vS Ay keys.length cy,vS Ae ents.length ce,vS Ab labs.length cb]) (hok:okV (.mk kd it tx kids keys ents labs)=true) (hI:Hid (∀ v' k',k'<ns.length->fu ns v' k'<fu ns (.mk kd it tx kids keys ents labs) k->MemC ns root A c v' k')) :
  Calls tP 83 #[.agg #[vI i6 kd,vI i6 it,vT ⟨tx.toArray⟩,vS Av kids.length cv,vS Ay keys.length cy,vS Ae ents.length ce,vS Ab labs.length cb],.agg #[vS A ns.length c,vI i6 root],vI i6 k] w fun e w'=>e=.returned (.bool (memB ns (.mk kd it tx kids keys ents labs) k))/\bW w w':=by
 have I:=(Bx.1 hx).1;have f:RowP w w.heap.size 8 (vS A ns.length c) ns.length (tnR w (fun b=>b<w.heap.size) ns):=by
  obtain⟨u,hu,_,h⟩:=hT;injection hu with hu _;rw[hu];exact h
 obtain⟨bn,on,M,Ak,ck,Af,cf,hu,J,z,m,C,d0,d1,d2,d3,d4,d5,d6,d7⟩:=TyB.at8 f hx;injection hu with hA hmm hcc;clear hmm;subst hA hcc;have N:=xI (aN z (aN m C));clear f z m C;have HM:=xI (zBn hw hx (.mk kd it tx kids keys ents labs));have d:=xI (aN hw hx);generalize memB ns (.mk kd it tx kids keys ents labs) k=res at *;obtain⟨W,hW⟩:∃ W,W=(((w.alloc (oV kd it ⟨tx.toArray⟩ Av kids.length cv Ay keys.length cy Ae ents.length ce Ab labs.length cb)).alloc (oE (some (aD bn on)) ns.length c root)).alloc (oX K lo hi ⟨tn.toArray⟩ Ak ks.length ck Af fds.length cf r0 r1)):=⟨_,rfl⟩;have r:bW w W:=by rw[hW];exact ((yR.alloc lR _).alloc (by simp) _).alloc (by simp;omega) _
 have t:bW w ((w.alloc (oV kd it ⟨tx.toArray⟩ Av kids.length cv Ay keys.length cy Ae ents.length ce Ab labs.length cb)).alloc (oE (some (aD bn on)) ns.length c root)):=(yR.alloc lR _).alloc (by simp) _;have kv:W.heap[w.heap.size]?=some (oV kd it ⟨tx.toArray⟩ Av kids.length cv Ay keys.length cy Ae ents.length ce Ab labs.length cb):=by rw[hW,Bp _ _ _ (by simp;omega),Bp _ _ _ (by simp)];exact Bl w _
 have kt:W.heap[w.heap.size+1]?=some (oE (some (aD bn on)) ns.length c root):=by rw[hW,Bp _ _ _ (by simp)];exact zAg _ (by simp)
 have kn:W.heap[w.heap.size+1+1]?=some (oX K lo hi ⟨tn.toArray⟩ Ak ks.length ck Af fds.length cf r0 r1):=by rw[hW];exact zAg _ (by simp)
 have H:W.heap.size=w.heap.size+3:=by rw[hW];simp
 have HT:Hid (∀ wq,bW W wq->TyAt wq ns root (some (aD bn on)) c/\bW w wq/\(jV wq w.heap.size kd it ⟨tx.toArray⟩ Av kids.length cv Ay keys.length cy Ae ents.length ce Ab labs.length cb)/\(jT wq (w.heap.size+1) (some (aD bn on)) ns.length c root)/\(jN wq (w.heap.size+1+1) K lo hi ⟨tn.toArray⟩ Ak ks.length ck Af fds.length cf r0 r1)):=xI fun U hU=>by
  have hb:=r.trans (hU.mono (by omega));exact⟨hT.on hb,hb,zAc ((hU.block _ (by omega)).trans kv),zAf ((hU.block _ (by omega)).trans kt),zAe ((hU.block _ (by omega)).trans kn)⟩
 have K8:=kC8 t J d0 d1 d2 d3 d4 d5 d6 d7;clear d0 d1 d2 d3 d4 d5 d6 d7;obtain⟨d0,d1,d2,d3,d4,d5,d6,d7⟩:=K8;have hE:=(HT.out W yR).2.2;have u1:(0:Int)<=(k:Int):=by omega
 have u2:(k:Int)<(ns.length:Int):=by omega
 have HV:=xI hv;clear t r kv kt kn H hx hw I hT hv;rw[hW]at hE;obtain⟨⟨v0,v1,v2,v3,v4,v5,v6⟩,⟨t0,t1⟩,⟨n0,n1,n2,n3,n4,n5,n6,n7⟩⟩:=hE;have o:=d.out.1.edg _ (Bh d.out.2);have x:=d.out.1.node _ (Bh d.out.2);have a:zAj labs=true/\kindB kd it tx kids keys ents=true/\okVs kids=true/\okEs ents=true:=by
  have h:=hok;unfold okV at h;simp only[Cy]at h;exact⟨h.1.1.1.1,h.1.1.2,h.1.2,h.2⟩
 have r:=(HT.out W yR).2.1;have E:=HV.out.later r;have O:Hid (∀ y∈ks,fu ns (.mk kd it tx kids keys ents labs) y.toNat<fu ns (.mk kd it tx kids keys ents labs) k):=xI fun y hy=>by
  have:=zIl (i:=y) d.out.1.ctr d.out.2 (by simp[conn,hK]) hy;unfold fu;omega
 have G:Hid (∀ y∈ks,0<=y/\y<ns.length):=xI fun y hy=>o y (zB1 hy);have F:=xI (aN E hok);have g:ks.length=1:=by
  simp only[tnB,Cy]at x;have:=x.2;unfold formB at this;simpa [hK] using this
 have s:=By (l:=ks) (i:=0) (by omega);have j:=Cx (l:=ks) (n:=0) (by omega);generalize ks[0]=kj at s j;obtain⟨bk,ok,L,D,f0,_⟩:=zDa N.out.2.1 s;obtain⟨kn,rfl⟩:∃ kn:Nat,kj=(kn:Int):=⟨kj.toNat,by have:=(G.out kj j).1;omega⟩;subst hK L;have B:Hid (memS (memB ns) ⟨18,lo,hi,tn,ks,fds,r0,r1⟩ (.mk kd it tx kids keys ents labs)=(!memB ns (.mk kd it tx kids keys ents labs) kn)):=xI (by show (!memB ns _ ((ks[0]?).getD 0).toNat)=_;rw[s];rfl);rw[B.out]at HM;have u3:(0:Int)<(ks.length:Int):=by omega
 have u4:0<ks.length:=by omega
 have HQ:Hid (∀ wq,bW W wq->((jV wq w.heap.size kd it ⟨tx.toArray⟩ Av kids.length cv Ay keys.length cy Ae ents.length ce Ab labs.length cb)/\(jT wq (w.heap.size+1) (some (aD bn on)) ns.length c root)/\wq.cell? (aF w 4)=some (vS (some (aD bk ok)) ks.length ck)/\wq.cell? (aD bk ok)=some (vI i6 kn))):=xI fun wq h=>by
  obtain⟨_,hb,q0,q1,q2⟩:=HT.out wq h;exact⟨q0,q1,q2.2.2.2.2.1,(hb.cell (p:=(aD bk _)) D).trans f0⟩
 have hd:bW W W.drew:=yR.drew;have hc:Calls tP 83 #[.agg #[vI i6 kd,vI i6 it,vT ⟨tx.toArray⟩,vS Av kids.length cv,vS Ay keys.length cy,vS Ae ents.length ce,vS Ab labs.length cb],.agg #[vS (some (aD bn on)) ns.length c,vI i6 root],vI i6 (kn:Int)] W.drew fun e w'=>e=.returned (.bool (memB ns (.mk kd it tx kids keys ents labs) kn))/\Below W.drew.heap.size W.drew w':=by
  have h:=hI.out (.mk kd it tx kids keys ents labs) (kn:Int).toNat (by have:=G.out _ j;omega) (O.out (kn:Int) j) (q+1) _ W.drew (F.out.1.later hd) F.out.2 (HT.out _ hd).1;rw[Cb]at h;exact h
 clear s g j D f0 o x a hok B r E;go_enter func83,ntmps83;go_wp2_with fail;rw[<-hW];clear hW v0 v1 v2 v3 v4 v5 v6 t0 t1 n0 n1 n2 n3 n4 n5 n6 n7 d0 d1 d2 d3 d4 d5 d6 d7;refine wR HQ (by kernel_rfl) (HQ.out _ hd) (fun _=>?_);refine oT 0 (HQ.out _ hd) ?_
 (iterate 5 refine oY (HQ.out _ hd) ?_)
 refine oO 6 fun K hK=>?_;go_simp;refine (hc).mono ?_;rintro e w2 ⟨rfl,t⟩;have v:=hd.trans (t.mono hd.size);clear hc;refine hK _ _ (HQ.out _ v) (oP ?_);clear hK K;refine oT 7 (HQ.out _ v) ?_;refine oT 8 (HQ.out _ v) ?_;refine wD ?_;go_wp2;go_ret;exact⟨by rw[HM.out];first|rfl|simp,(HT.out _ v).2.1⟩
theorem zP8 (ns:List Tn) (root:Int) (A:Option Addr) (c:Nat) (hw:Wf ns) (k:Nat) (K lo hi:Int) (tn:List UInt8) (ks:List Int) (fds:List Fd) (r0 r1:Int) (hx:ns[k]?=some ⟨K,lo,hi,tn,ks,fds,r0,r1⟩) (hK:K=17)
  (q:Nat) (kd it:Int) (tx:List UInt8) (kids:List Vl) (keys:List (Int×List UInt8)) (ents:List En) (labs:List (List UInt8)) (Av Ay Ae Ab:Option Addr) (cv cy ce cb:Nat) (w:World) (hT:TyAt w ns root A c) (hv:VS (q+1) w w.heap.size (.mk kd it tx kids keys ents labs) [vI i6 kd,vI i6 it,vT ⟨tx.toArray⟩,vS Av kids.length cv,vS Ay keys.length cy,vS Ae ents.length ce,vS Ab labs.length cb]) (hok:okV (.mk kd it tx kids keys ents labs)=true) (hI:Hid (∀ v' k',k'<ns.length->fu ns v' k'<fu ns (.mk kd it tx kids keys ents labs) k->MemC ns root A c v' k')) :
  Calls tP 83 #[.agg #[vI i6 kd,vI i6 it,vT ⟨tx.toArray⟩,vS Av kids.length cv,vS Ay keys.length cy,vS Ae ents.length ce,vS Ab labs.length cb],.agg #[vS A ns.length c,vI i6 root],vI i6 k] w fun e w'=>e=.returned (.bool (memB ns (.mk kd it tx kids keys ents labs) k))/\bW w w':=by
 have r:=(Bx.1 hx).1;have g:RowP w w.heap.size 8 (vS A ns.length c) ns.length (tnR w (fun b=>b<w.heap.size) ns):=by
  obtain⟨u,hu,_,h⟩:=hT;injection hu with hu _;rw[hu];exact h
 obtain⟨bn,on,P,Ak,ck,Af,cf,hu,O,B,j,D,d0,d1,d2,d3,d4,d5,d6,d7⟩:=TyB.at8 g hx;injection hu with hA hmm hcc;clear hmm;subst hA hcc;have I:=xI (aN B (aN j D));clear g B j D;have HM:=xI (zBn hw hx (.mk kd it tx kids keys ents labs));have f:=xI (aN hw hx);generalize memB ns (.mk kd it tx kids keys ents labs) k=res at *;obtain⟨W,hW⟩:∃ W,W=(((w.alloc (oV kd it ⟨tx.toArray⟩ Av kids.length cv Ay keys.length cy Ae ents.length ce Ab labs.length cb)).alloc (oE (some (aD bn on)) ns.length c root)).alloc (oX K lo hi ⟨tn.toArray⟩ Ak ks.length ck Af fds.length cf r0 r1)):=⟨_,rfl⟩;have m:bW w W:=by rw[hW];exact ((yR.alloc lR _).alloc (by simp) _).alloc (by simp;omega) _
 have t:bW w ((w.alloc (oV kd it ⟨tx.toArray⟩ Av kids.length cv Ay keys.length cy Ae ents.length ce Ab labs.length cb)).alloc (oE (some (aD bn on)) ns.length c root)):=(yR.alloc lR _).alloc (by simp) _;have kv:W.heap[w.heap.size]?=some (oV kd it ⟨tx.toArray⟩ Av kids.length cv Ay keys.length cy Ae ents.length ce Ab labs.length cb):=by rw[hW,Bp _ _ _ (by simp;omega),Bp _ _ _ (by simp)];exact Bl w _
 have kt:W.heap[w.heap.size+1]?=some (oE (some (aD bn on)) ns.length c root):=by rw[hW,Bp _ _ _ (by simp)];exact zAg _ (by simp)
 have kn:W.heap[w.heap.size+1+1]?=some (oX K lo hi ⟨tn.toArray⟩ Ak ks.length ck Af fds.length cf r0 r1):=by rw[hW];exact zAg _ (by simp)
 have M:W.heap.size=w.heap.size+3:=by rw[hW];simp
 have HT:Hid (∀ wq,bW W wq->TyAt wq ns root (some (aD bn on)) c/\bW w wq/\(jV wq w.heap.size kd it ⟨tx.toArray⟩ Av kids.length cv Ay keys.length cy Ae ents.length ce Ab labs.length cb)/\(jT wq (w.heap.size+1) (some (aD bn on)) ns.length c root)/\(jN wq (w.heap.size+1+1) K lo hi ⟨tn.toArray⟩ Ak ks.length ck Af fds.length cf r0 r1)):=xI fun U hU=>by
  have hb:=m.trans (hU.mono (by omega));exact⟨hT.on hb,hb,zAc ((hU.block _ (by omega)).trans kv),zAf ((hU.block _ (by omega)).trans kt),zAe ((hU.block _ (by omega)).trans kn)⟩
 have K8:=kC8 t O d0 d1 d2 d3 d4 d5 d6 d7;clear d0 d1 d2 d3 d4 d5 d6 d7;obtain⟨d0,d1,d2,d3,d4,d5,d6,d7⟩:=K8;have hE:=(HT.out W yR).2.2;have u1:(0:Int)<=(k:Int):=by omega
 have u2:(k:Int)<(ns.length:Int):=by omega
 have HV:=xI hv;clear t m kv kt kn M hx hw r hT hv;rw[hW]at hE;obtain⟨⟨v0,v1,v2,v3,v4,v5,v6⟩,⟨t0,t1⟩,⟨n0,n1,n2,n3,n4,n5,n6,n7⟩⟩:=hE;have l:=f.out.1.edg _ (Bh f.out.2);have N:=f.out.1.node _ (Bh f.out.2);have a:zAj labs=true/\kindB kd it tx kids keys ents=true/\okVs kids=true/\okEs ents=true:=by
  have h:=hok;unfold okV at h;simp only[Cy]at h;exact⟨h.1.1.1.1,h.1.1.2,h.1.2,h.2⟩
 have m:=(HT.out W yR).2.1;have G:=HV.out.later m;have R:Hid (∀ y∈ks,fu ns (.mk kd it tx kids keys ents labs) y.toNat<fu ns (.mk kd it tx kids keys ents labs) k):=xI fun y hy=>by
  have:=zIl (i:=y) f.out.1.ctr f.out.2 (by simp[conn,hK]) hy;unfold fu;omega
 have L:Hid (∀ y∈ks,0<=y/\y<ns.length):=xI fun y hy=>l y (zB1 hy);have H:=xI (aN G hok);subst hK;have C:Hid (memS (memB ns) ⟨17,lo,hi,tn,ks,fds,r0,r1⟩ (.mk kd it tx kids keys ents labs)=ks.all (fun y=>memB ns (.mk kd it tx kids keys ents labs) y.toNat)):=xI rfl;rw[C.out]at HM;have r:ks.length<=maxLen:=by obtain⟨_,_,_,h,_⟩:=I.out.2.1;exact h.1
 have Q:=xI r;clear r l N a hok C m G;go_enter func83,ntmps83;go_wp2_with fail;rw[<-hW];clear hW v0 v1 v2 v3 v4 v5 v6 t0 t1 n0 n1 n2 n3 n4 n5 n6 n7 d0 d1 d2 d3 d4 d5 d6 d7
 go_loopw [9] (fun iv wr=>∃ i:Nat,iv=vI i6 i/\i<=ks.length/\(ks.take i).all (fun y=>memB ns (.mk kd it tx kids keys ents labs) y.toNat)=true/\bW W wr) (fun i _=>((ks.length:Int)-intOf i).toNat)
 case atStart=>exact⟨0,rfl,by omega,by simp,Bw _ _⟩
 case round=>
  obtain⟨i,rfl,T,n,E⟩:=hrel;have o:=xI n;have z:=xI E;clear n E;have g4:=(HT.out wr z.out).2.2.2.2.2.2.2.2.1;by_cases him:i<ks.length
  ·have mp:(i:Int)<(ks.length:Int):=by omega
   have m0:(0:Int)<=(i:Int):=by omega
   have S:IntKind.i64.wrap ((i:Int)+1)=(i:Int)+1:=Br _ (by have:=Q.out;unfold maxLen at this;omega);have s:=By him;have d:=Cx him;generalize ks[i]=kj at s d;obtain⟨bk,ok,rfl,F,f0,_⟩:=zDa I.out.2.1 s;obtain⟨kn,rfl⟩:∃ kn:Nat,kj=(kn:Int):=⟨kj.toNat,by have:=(L.out kj d).1;omega⟩;have hd:bW W wr.drew:=z.out.drew;have HQ:Hid (∀ wq,bW W wq->((jV wq w.heap.size kd it ⟨tx.toArray⟩ Av kids.length cv Ay keys.length cy Ae ents.length ce Ab labs.length cb)/\(jT wq (w.heap.size+1) (some (aD bn on)) ns.length c root)/\wq.cell? (aF w 4)=some (vS (some (aD bk ok)) ks.length ck)/\wq.cell? (aD bk (ok+i))=some (vI i6 kn))):=xI fun wq h=>by
    obtain⟨_,hb,q0,q1,q2⟩:=HT.out wq h;exact⟨q0,q1,q2.2.2.2.2.1,(hb.cell (p:=(aD bk _)) F).trans f0⟩
   have hc:Calls tP 83 #[.agg #[vI i6 kd,vI i6 it,vT ⟨tx.toArray⟩,vS Av kids.length cv,vS Ay keys.length cy,vS Ae ents.length ce,vS Ab labs.length cb],.agg #[vS (some (aD bn on)) ns.length c,vI i6 root],vI i6 (kn:Int)] wr.drew fun e w'=>e=.returned (.bool (memB ns (.mk kd it tx kids keys ents labs) kn))/\Below wr.drew.heap.size wr.drew w':=by
    have h:=hI.out (.mk kd it tx kids keys ents labs) (kn:Int).toNat (by have:=L.out _ d;omega) (R.out (kn:Int) d) (q+1) _ wr.drew (H.out.1.later hd) H.out.2 (HT.out _ hd).1;rw[Cb]at h;exact h
   have J:=xI (aN s d);clear s d f0 F;go_wp2_with fail;refine wR HQ (by kernel_rfl) (HQ.out _ hd) (fun _=>?_);refine oT 0 (HQ.out _ hd) ?_
   (iterate 6 refine oY (HQ.out _ hd) ?_)
   refine oO 7 fun K hK=>?_;go_simp;refine (hc).mono ?_;rintro e w2 ⟨rfl,t⟩;have v:=hd.trans (t.mono hd.size);clear hc;refine hK _ _ (HQ.out _ v) (oP ?_);clear hK K;refine oT 8 (HQ.out _ v) ?_;refine wD ?_;cases hmx:memB ns (.mk kd it tx kids keys ents labs) kn with
   | false=>
    have x:=xI hmx;clear hmx;go_wp2;go_ret;refine⟨?_,(HT.out _ v).2.1⟩;rw[HM.out,(Dy.2 ⟨_,J.out.2,by simp[x.out]⟩:ks.all (fun y=>memB ns (.mk kd it tx kids keys ents labs) y.toNat)=false)]
    first|rfl|simp
   | true=>
    have x:=xI hmx;clear hmx;go_wp2_with fail
    go_roundw
    case rel=>exact⟨i+1,by go_num,by omega,by rw[zAv J.out.1,o.out];simp[x.out],v⟩
    case measure=>simp[intOf];try omega
  ·have mp:¬ (i:Int)<(ks.length:Int):=by omega
   go_wp2;go_ret;refine⟨?_,(HT.out _ z.out).2.1⟩;have h:=o.out;rw[B8 (by omega)]at h;rw[HM.out,h]
   first|rfl|simp
end Go.Proofs.YteedihhdcbepmaaGreat
