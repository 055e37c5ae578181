/- What entries of the document returns: the .. -/
import Derived.Test.YteedihhdcbepmaaGreatTsZ
import Derived.Test.YteedihhdcbepmaaGreatTs08
set_option maxRecDepth 100000
set_option maxHeartbeats 3200000
set_option linter.all false
open Go.Value renaming slice→vS,int→vI,string→vT
open Go.IntKind renaming i64→i6
open Go.Proofs.Tryz
open Go.Proofs.Tryz renaming prog→tP
namespace Go.Proofs.YteedihhdcbepmaaGreat
open Go Go.RowKit
theorem RowB.take2 {w:World}{B:Nat->Prop}{c n cap p:Nat}{A:Option Addr}{R:Nat->List Value->Prop}(h:RowB w B c (vS A n cap) n R) (hp:p<=n) (cap2:Nat) (hc2:p<=cap2):RowB w B c (vS A p cap2) p (fun j cs=>j<p/\R j cs):=by
 obtain⟨A',a,h1,h2,h3⟩:=RowB.take h hp cap;injection h1 with e1 _ e3;subst e1 e3;exact⟨A,cap2,rfl,⟨h2.1,hc2⟩,h3⟩
abbrev OwnX (k:Nat) (w0:World) (B0:Nat->Prop) (w:World) (base:Nat) (v:Value) (l:List En):Prop:=OwnE (elC (fun x cs=>EnB k x w0 B0 cs)) 68 9 w base v l
theorem zGn (k:Nat) (B0:Nat->Prop) (A:Option Addr) (c:Nat) (l:List En) (w:World) (hB:∀ b,B0 b->b<w.heap.size) (hl:RowP w w.heap.size 9 (vS A l.length c) l.length (fun j cs=>∃ x,l[j]?=some x/\EnB k x w B0 cs)) (hn:l.length<=100000000) :
  Calls tP 146 #[vS A l.length c] w fun e w'=>∃ A' c',e=.returned (vS A' (srtC cmpE l).length c')/\OwnX k w B0 w' w.heap.size (vS A' (srtC cmpE l).length c') (srtC cmpE l)/\bW w w':=by
 have HL:=xI hl;clear hl;generalize hLN:l.length=n at *;have HN:=xI hLN;clear hLN;go_enter func146,ntmps146;go_wp2_with fail
 go_loopw [3,4] (fun v i wr=>∃ (k0:Nat) (Ao:Option Addr) (cap:Nat) (out:List En),i=vI i6 k0/\k0<=n/\v=vS Ao out.length cap/\OwnX k w B0 wr w.heap.size (vS Ao out.length cap) out/\out=srtC cmpE (l.take k0)/\(out.length=0->Ao=none/\cap=0)/\bW w wr) (fun _ i _=>n-(intOf i).toNat)
 case atStart=>exact⟨0,none,0,[],rfl,by omega,rfl,OwnE.nil _ _ _ _ _,by simp[srtC],fun _=>⟨rfl,rfl⟩,Bw _ _⟩
 case round=>
  obtain⟨j,Ao,cap,out,rfl,hk,rfl,hO,am,ad,hb⟩:=hrel;have ag:=xI am;have ah:=xI hO;have t:=hb.size;clear am;by_cases hkn:j<n
  ·obtain⟨bs,a,aG,v0,v1,t0,t1,t2,t3,t4,t5,t6,hu,X,⟨x,hx,hE⟩,c0,c1,c2,c3,c4,c5,c6,c7,c8⟩:=RowB.at9 (j:=j) HL.out (by have:=HN.out;omega);injection hu with hA hNN hcc;subst hA;clear hNN hcc;have aJ:j<n:=hkn;have HX:=xI (aN hx hE);have HC:Hid (∀ wq,bW w wq->wq.cell? (aD bs (a+j*9))=some v0/\wq.cell? (aD bs (a+j*9+1))=some v1/\wq.cell? (aD bs (a+j*9+2))=some t0/\wq.cell? (aD bs (a+j*9+3))=some t1/\wq.cell? (aD bs (a+j*9+4))=some t2/\wq.cell? (aD bs (a+j*9+5))=some t3/\wq.cell? (aD bs (a+j*9+6))=some t4/\wq.cell? (aD bs (a+j*9+7))=some t5/\wq.cell? (aD bs (a+j*9+8))=some t6):=xI fun wq h=>⟨(h.cell (p:=(aD bs _)) X).trans c0,(h.cell (p:=(aD bs _)) X).trans c1,(h.cell (p:=(aD bs _)) X).trans c2,(h.cell (p:=(aD bs _)) X).trans c3,(h.cell (p:=(aD bs _)) X).trans c4,(h.cell (p:=(aD bs _)) X).trans c5,(h.cell (p:=(aD bs _)) X).trans c6,(h.cell (p:=(aD bs _)) X).trans c7,(h.cell (p:=(aD bs _)) X).trans c8⟩;have aB:=xI hE;clear hx hE c0 c1 c2 c3 c4 c5 c6 c7 c8;have kn:(j:Int)<(n:Int):=by omega
   have k0:(0:Int)<=(j:Int):=by omega
   by_cases he:out.length=0
   ·obtain⟨rfl,rfl⟩:=ad he;obtain rfl:out=[]:=Cf he;clear ad he hO;go_wp2_with fail
    go_loopw [5] (fun i wq=>i=vI i6 0/\∃ q,wq=wr.drewN q) (fun i _=>0)
    case atStart=>exact⟨rfl,0,rfl⟩
    case round=>
     obtain⟨rfl,q,rfl⟩:=hrel;go_wp2_with fail
     go_quiet (fail)
     go_wp2_with fail
     go_quiet (fail)
     go_wp2_with fail;generalize hw1:wr.drewN _=w1;have C:bW w w1:=by rw[<-hw1];exact zA0 hb _
     clear hw1;have F:=C.size;obtain⟨i0,hi,aq,aa,ap⟩:=Cp Tryz.infoE;obtain⟨g2,af,w2,ab,J,G,_,_⟩:=zBi (elC (fun x cs=>EnB k x w B0 cs)) 30 30 68 i0 (.agg #[vS none 0 0,.bool false,vI i6 0,vI i6 0,vT ⟨#[]⟩,vS none 0 0,vS none 0 0,vS none 0 0,vS none 0 0]) 9 160 underlying30 hi aq aa ap rfl (by decide) (by decide) w1.drew w.heap.size (vS none 0 0) [] (OwnE.nil _ _ _ _ _) x [v0,v1,t0,t1,t2,t3,t4,t5,t6] HX.out.2 rfl (zBt k x w B0 _ HX.out.2) (by simp) F _ rfl 1;obtain⟨v3,w3,I,s,Q,_,_⟩:=zBh (elC (fun x cs=>EnB k x w B0 cs)) 30 30 68 i0 (.agg #[vS none 0 0,.bool false,vI i6 0,vI i6 0,vT ⟨#[]⟩,vS none 0 0,vS none 0 0,vS none 0 0,vS none 0 0]) 9 160 underlying30 hi aq aa ap rfl (by decide) (by decide) (fun x w' B cs h=>zBt k x w B0 cs h) w2 w.heap.size _ _ J none 0 0 [] rfl (fun _=>True) ⟨none,0,rfl,⟨Bt _,Bc _⟩,fun h=>absurd h (by omega)⟩ (by simp) (Ba F G.size);obtain⟨A3,c3,rfl⟩:=s.form;have al:srtC cmpE (l.take (j+1))=([]++[x])++[]:=by rw[zBr HX.out.1,<-ag.out];rfl
     have Y:(([]++[x])++[]:List En).length=1:=rfl;rw[Y]at I;rw[<-al]at s;have ae:bW w (w1.drew.alloc (.cells #[v0,v1,t0,t1,t2,t3,t4,t5,t6] 68)):=C.drew.alloc F _;have aC:bW w w2:=C.drew.trans G;have ax:bW w w3:=aC.trans Q;have az:OwnX k w B0 w3 w.heap.size (vS A3 (srtC cmpE (l.take (j+1))).length c3) (srtC cmpE (l.take (j+1))):=by rw[al];rw[al]at s;exact s
     have R:=xI al;clear J s G Q al Y hi aq aa ap;refine wR HC (by kernel_rfl) (HC.out _ C.drew) (fun hHeld=>?_);refine oT 0 hHeld ?_
     (iterate 4 refine oY hHeld ?_)
     refine oT 7 hHeld ?_
     (iterate 2 refine oY hHeld ?_)
     refine oO 5 fun K hK=>?_;go_simp;refine hK _ _ (HC.out _ ae) (oP ?_);refine oO 6 fun K hK=>?_;refine Lib.wp_append_run _ _ _ _ _ rfl _ _ rfl rfl _ w2 ab ?_;refine hK _ _ (HC.out _ aC) (oP ?_);refine oO 10 fun K hK=>?_;refine Lib.wp_append_run _ _ _ _ _ rfl _ _ rfl rfl _ w3 I ?_;refine hK _ _ (HC.out _ ax) (oP ?_);refine oO 11 fun K hK=>?_;go_simp;refine hK _ _ (HC.out _ ax) (oP ?_);refine wD ?_;go_wp2_with fail
     go_roundw
     case rel=>exact⟨j+1,A3,c3,srtC cmpE (l.take (j+1)),by go_num,by omega,by rw[R.out];rfl,az,rfl,fun h=>by rw[R.out]at h;simp at h,ax⟩
     case measure=>simp[intOf];try omega
   ·obtain⟨g,aH,hv,aQ,aO,aM⟩:=hO.formG (List.len_ne he);injection hv with e1 _ e3;subst e1 e3;clear ad hO;have aL:out.length<=n:=by
     rw[ag.out];have:=zFc (c:=cmpE) (l.take j);rw[Bg]at this;omega
    go_wp2_with fail
    go_loopw [5] (fun i wq=>∃ p:Nat,i=vI i6 p/\p<=out.length/\(∀ y∈out.take p,cmpE y x<0)/\bW wr wq) (fun i _=>out.length-(intOf i).toNat)
    case atStart=>exact⟨0,rfl,Bt _,by simp,Bw _ _⟩
    case round=>
     rename World=>wq;obtain⟨p,rfl,hp,aA,W⟩:=hrel;have ao:=xI aA;clear aA;have D:=hb.trans (W.mono t);have aK:p<=cap:=by omega
     have aP:¬ cap=0:=by omega
     by_cases hpl:p<out.length
     ·obtain⟨g',og,cg,y0,y1,z0,z1,z2,z3,z4,z5,z6,hu,hg,⟨y,hy,aw⟩,d0,d1,d2,d3,d4,d5,d6,d7,d8⟩:=RowB.at9 (H:=wq.heap.size) (j:=p) (RowB.sub ((ah.out.old W).row (by omega) (by unfold maxLen;omega)) (fun _ h=>h.2) (fun _ _ h=>h)) hpl;injection hu with hA hNN hcc;injection hA with hA;injection hA with e1 e2;subst e1 e2;clear hNN hcc;rw[Dx]at d0 d1 d2 d3 d4 d5 d6 d7 d8;have aF:¬ cap=p:=by omega
      have HD:Hid (∀ V,bW wq V->V.cell? (aD g (p*9))=some y0/\V.cell? (aD g (p*9+1))=some y1/\V.cell? (aD g (p*9+2))=some z0/\V.cell? (aD g (p*9+3))=some z1/\V.cell? (aD g (p*9+4))=some z2/\V.cell? (aD g (p*9+5))=some z3/\V.cell? (aD g (p*9+6))=some z4/\V.cell? (aD g (p*9+7))=some z5/\V.cell? (aD g (p*9+8))=some z6):=xI fun V h=>⟨(h.cell (p:=(aD g _)) hg).trans d0,(h.cell (p:=(aD g _)) hg).trans d1,(h.cell (p:=(aD g _)) hg).trans d2,(h.cell (p:=(aD g _)) hg).trans d3,(h.cell (p:=(aD g _)) hg).trans d4,(h.cell (p:=(aD g _)) hg).trans d5,(h.cell (p:=(aD g _)) hg).trans d6,(h.cell (p:=(aD g _)) hg).trans d7,(h.cell (p:=(aD g _)) hg).trans d8⟩;have au:∀ (V:World),bW w V->∀ e cs,EnB k e w B0 cs->ES k V V.heap.size e cs:=fun V hV e cs h=>(elE k).sub (B:=B0) (fun b hb=>by have:=hB b hb;have:=hV.size;omega) ((elE k).keep (Same.of_below hV hB) h);have hc:=fun V (hV:bW w V)=>zC3 k (xI (zCk k)) y x _ _ V (au V hV y _ aw) (au V hV x _ HX.out.2);have aj:=xI hc;have HY:=xI (aN hy aw);clear hc au hy aw d0 d1 d2 d3 d4 d5 d6 d7 d8;generalize hzc:cmpE y x=zc at aj;have ay:=xI hzc;clear hzc;have pl:(p:Int)<(out.length:Int):=by omega
      have p0:(0:Int)<=(p:Int):=by omega
      by_cases hlt:zc<0
      ·have ar:decide (zc<0)=true:=by simpa using hlt
       go_wp2_with fail;refine Be (S:=fun V=>(V.cell? (aD bs (a+j*9))=some v0/\V.cell? (aD bs (a+j*9+1))=some v1/\V.cell? (aD bs (a+j*9+2))=some t0/\V.cell? (aD bs (a+j*9+3))=some t1/\V.cell? (aD bs (a+j*9+4))=some t2/\V.cell? (aD bs (a+j*9+5))=some t3/\V.cell? (aD bs (a+j*9+6))=some t4/\V.cell? (aD bs (a+j*9+7))=some t5/\V.cell? (aD bs (a+j*9+8))=some t6)/\V.cell? (aD g (p*9))=some y0/\V.cell? (aD g (p*9+1))=some y1/\V.cell? (aD g (p*9+2))=some z0/\V.cell? (aD g (p*9+3))=some z1/\V.cell? (aD g (p*9+4))=some z2/\V.cell? (aD g (p*9+5))=some z3/\V.cell? (aD g (p*9+6))=some z4/\V.cell? (aD g (p*9+7))=some z5/\V.cell? (aD g (p*9+8))=some z6) (by kernel_rfl) ⟨HC.out _ D.drew,HD.out _ yR.drew⟩ (fun hHeld=>?_);refine oT 0 hHeld ?_
       (iterate 12 refine oY hHeld ?_)
       refine oO 13 fun K hK=>?_;go_simp;refine (aj.out _ D.drew).mono ?_;rintro e w10 ⟨rfl,hb10⟩;have f:bW wq w10:=(Bw _ _).drew.trans hb10;have o:bW w w10:=D.trans (f.mono D.size);have d:=aN (HC.out _ o) (HD.out _ f);refine hK _ _ d (oP ?_);refine oT 14 d ?_;refine oT 15 d ?_;refine wD ?_;go_wp2_with fail
       go_roundw
       case rel=>
        refine⟨p+1,by go_num,by omega,fun z hz=>?_,W.trans (f.mono W.size)⟩;rw[Cr,HY.out.1]at hz;rcases B7.1 hz with hz|hz
        ·exact ao.out z hz
        ·obtain rfl:z=y:=by simpa using hz
         rw[ay.out];exact hlt
       case measure=>simp[intOf];try omega
      ·have ar:decide (zc<0)=false:=by simpa using hlt
       by_cases heq:zc=0
       ·have av:(zc==0)=true:=by rw[zKz];simpa using heq
        go_wp2_with fail;refine Be (S:=fun V=>(V.cell? (aD bs (a+j*9))=some v0/\V.cell? (aD bs (a+j*9+1))=some v1/\V.cell? (aD bs (a+j*9+2))=some t0/\V.cell? (aD bs (a+j*9+3))=some t1/\V.cell? (aD bs (a+j*9+4))=some t2/\V.cell? (aD bs (a+j*9+5))=some t3/\V.cell? (aD bs (a+j*9+6))=some t4/\V.cell? (aD bs (a+j*9+7))=some t5/\V.cell? (aD bs (a+j*9+8))=some t6)/\V.cell? (aD g (p*9))=some y0/\V.cell? (aD g (p*9+1))=some y1/\V.cell? (aD g (p*9+2))=some z0/\V.cell? (aD g (p*9+3))=some z1/\V.cell? (aD g (p*9+4))=some z2/\V.cell? (aD g (p*9+5))=some z3/\V.cell? (aD g (p*9+6))=some z4/\V.cell? (aD g (p*9+7))=some z5/\V.cell? (aD g (p*9+8))=some z6) (by kernel_rfl) ⟨HC.out _ D.drew,HD.out _ yR.drew⟩ (fun hHeld=>?_);refine oT 0 hHeld ?_
        (iterate 12 refine oY hHeld ?_)
        refine oO 13 fun K hK=>?_;go_simp;refine (aj.out _ D.drew).mono ?_;rintro e w10 ⟨rfl,hb10⟩;have f:bW wq w10:=(Bw _ _).drew.trans hb10;have o:bW w w10:=D.trans (f.mono D.size);have d:=aN (HC.out _ o) (HD.out _ f);refine hK _ _ d (oP ?_);refine oT 14 d ?_;refine oT 15 d ?_;refine wD ?_;go_wp2_with fail;refine Be (S:=fun V=>(V.cell? (aD bs (a+j*9))=some v0/\V.cell? (aD bs (a+j*9+1))=some v1/\V.cell? (aD bs (a+j*9+2))=some t0/\V.cell? (aD bs (a+j*9+3))=some t1/\V.cell? (aD bs (a+j*9+4))=some t2/\V.cell? (aD bs (a+j*9+5))=some t3/\V.cell? (aD bs (a+j*9+6))=some t4/\V.cell? (aD bs (a+j*9+7))=some t5/\V.cell? (aD bs (a+j*9+8))=some t6)/\V.cell? (aD g (p*9))=some y0/\V.cell? (aD g (p*9+1))=some y1/\V.cell? (aD g (p*9+2))=some z0/\V.cell? (aD g (p*9+3))=some z1/\V.cell? (aD g (p*9+4))=some z2/\V.cell? (aD g (p*9+5))=some z3/\V.cell? (aD g (p*9+6))=some z4/\V.cell? (aD g (p*9+7))=some z5/\V.cell? (aD g (p*9+8))=some z6) (by kernel_rfl) ⟨HC.out _ o.drew,HD.out _ f.drew⟩ (fun hHeld3=>?_);refine oT 0 hHeld3 ?_
        (iterate 12 refine oY hHeld3 ?_)
        refine oO 13 fun K hK=>?_;go_simp;refine (aj.out _ o.drew).mono ?_;rintro e w11 ⟨rfl,hb11⟩;have r:bW wq w11:=f.drew.trans (hb11.mono f.size);have E:bW w w11:=D.trans (r.mono D.size);have m:=aN (HC.out _ E) (HD.out _ r);refine hK _ _ m (oP ?_);refine oT 14 m ?_;refine oT 15 m ?_;refine wD ?_;go_wp2_with fail
        go_roundw
        case rel=>exact⟨j+1,_,cap,out,by go_num,by omega,rfl,ah.out.old (W.trans (r.mono W.size)),by rw[zBr HX.out.1,<-ag.out,zHz ao.out HY.out.1 (by rw[ay.out];exact heq)],fun h=>absurd h he,E⟩
        case measure=>simp[intOf];try omega
       ·have av:(zc==0)=false:=by rw[zKz];simpa using heq
        have ai:Hid (∀ z,out[p]?=some z->0<=cmpE z x/\cmpE z x≠0):=xI (fun z hz=>by
         rw[HY.out.1]at hz;injection hz with hz;rw[<-hz,ay.out];exact⟨by omega,heq⟩)
        go_wp2_with fail;refine Be (S:=fun V=>(V.cell? (aD bs (a+j*9))=some v0/\V.cell? (aD bs (a+j*9+1))=some v1/\V.cell? (aD bs (a+j*9+2))=some t0/\V.cell? (aD bs (a+j*9+3))=some t1/\V.cell? (aD bs (a+j*9+4))=some t2/\V.cell? (aD bs (a+j*9+5))=some t3/\V.cell? (aD bs (a+j*9+6))=some t4/\V.cell? (aD bs (a+j*9+7))=some t5/\V.cell? (aD bs (a+j*9+8))=some t6)/\V.cell? (aD g (p*9))=some y0/\V.cell? (aD g (p*9+1))=some y1/\V.cell? (aD g (p*9+2))=some z0/\V.cell? (aD g (p*9+3))=some z1/\V.cell? (aD g (p*9+4))=some z2/\V.cell? (aD g (p*9+5))=some z3/\V.cell? (aD g (p*9+6))=some z4/\V.cell? (aD g (p*9+7))=some z5/\V.cell? (aD g (p*9+8))=some z6) (by kernel_rfl) ⟨HC.out _ D.drew,HD.out _ yR.drew⟩ (fun hHeld=>?_);refine oT 0 hHeld ?_
        (iterate 12 refine oY hHeld ?_)
        refine oO 13 fun K hK=>?_;go_simp;refine (aj.out _ D.drew).mono ?_;rintro e w10 ⟨rfl,hb10⟩;have f:bW wq w10:=(Bw _ _).drew.trans hb10;have o:bW w w10:=D.trans (f.mono D.size);have d:=aN (HC.out _ o) (HD.out _ f);refine hK _ _ d (oP ?_);refine oT 14 d ?_;refine oT 15 d ?_;refine wD ?_;go_wp2_with fail;refine Be (S:=fun V=>(V.cell? (aD bs (a+j*9))=some v0/\V.cell? (aD bs (a+j*9+1))=some v1/\V.cell? (aD bs (a+j*9+2))=some t0/\V.cell? (aD bs (a+j*9+3))=some t1/\V.cell? (aD bs (a+j*9+4))=some t2/\V.cell? (aD bs (a+j*9+5))=some t3/\V.cell? (aD bs (a+j*9+6))=some t4/\V.cell? (aD bs (a+j*9+7))=some t5/\V.cell? (aD bs (a+j*9+8))=some t6)/\V.cell? (aD g (p*9))=some y0/\V.cell? (aD g (p*9+1))=some y1/\V.cell? (aD g (p*9+2))=some z0/\V.cell? (aD g (p*9+3))=some z1/\V.cell? (aD g (p*9+4))=some z2/\V.cell? (aD g (p*9+5))=some z3/\V.cell? (aD g (p*9+6))=some z4/\V.cell? (aD g (p*9+7))=some z5/\V.cell? (aD g (p*9+8))=some z6) (by kernel_rfl) ⟨HC.out _ o.drew,HD.out _ f.drew⟩ (fun hHeld3=>?_);refine oT 0 hHeld3 ?_
        (iterate 12 refine oY hHeld3 ?_)
        refine oO 13 fun K hK=>?_;go_simp;refine (aj.out _ o.drew).mono ?_;rintro e w11 ⟨rfl,hb11⟩;have r:bW wq w11:=f.drew.trans (hb11.mono f.size);have E:bW w w11:=D.trans (r.mono D.size);have m:=aN (HC.out _ E) (HD.out _ r);refine hK _ _ m (oP ?_);refine oT 14 m ?_;refine oT 15 m ?_;refine wD ?_;have P:bW wr w11:=W.trans (r.mono W.size);clear hHeld d hHeld3;go_wp2_with (at_builtin;(refine zFl (elC (fun x cs=>EnB k x w B0 cs)) (fun x w' B cs h=>zBt k x w B0 cs h) rfl _ _ rfl wr.heap.size (vS none 0 0) [] rfl (OwnE.nil _ _ _ _ _) (some (aD g 0)) p _ (out.take p) (by rw[Bg];omega) _ rfl (RowB.sub (RowB.take ((ah.out.old P).row (by omega) (by unfold maxLen;omega)) (show p<=out.length by omega) _) (fun _ h=>h) (fun q cs ⟨hq,z,hz,hv⟩=>⟨z,by rw[Co hq];exact hz,hv⟩)) (by simp only[Cl];omega) P.size ?_);intro u1 w1 ho1 hb1' _ _;refine Hid.out ?_);refine xI ?_;have C:bW wr w1:=P.trans hb1';clear hb1';go_wp2_with fail;have F:=C.size;have ae:bW w (w1.drew.alloc (.cells #[v0,v1,t0,t1,t2,t3,t4,t5,t6] 68)):=(hb.trans (C.mono t)).drew.alloc (Ba t F) _;obtain⟨i0,hi,O,N,M⟩:=Cp Tryz.infoE;have ak:([]++out.take p).length<=n:=by rw[Cn,Bg];omega
        obtain⟨g2,af,w2,ab,J,G,_,_⟩:=zBi (elC (fun x cs=>EnB k x w B0 cs)) 30 30 68 i0 (.agg #[vS none 0 0,.bool false,vI i6 0,vI i6 0,vT ⟨#[]⟩,vS none 0 0,vS none 0 0,vS none 0 0,vS none 0 0]) 9 160 underlying30 hi O N M rfl (by decide) (by decide) w1.drew wr.heap.size u1 ([]++out.take p) (ho1.old yR.drew) x [v0,v1,t0,t1,t2,t3,t4,t5,t6] HX.out.2 rfl (zBt k x w B0 _ HX.out.2) (by omega) F _ rfl 1;have u:bW wr w2:=C.drew.trans G;obtain⟨u3,w3,I,s,Q,_,_⟩:=zBh (elC (fun x cs=>EnB k x w B0 cs)) 30 30 68 i0 (.agg #[vS none 0 0,.bool false,vI i6 0,vI i6 0,vT ⟨#[]⟩,vS none 0 0,vS none 0 0,vS none 0 0,vS none 0 0]) 9 160 underlying30 hi O N M rfl (by decide) (by decide) (fun x w' B cs h=>zBt k x w B0 cs h) w2 wr.heap.size _ _ J (some (aD g (p*9))) (out.length-p) (cap-p) (out.drop p) (by first|rfl|rw[Cc]) (_) (RowB.sub (RowB.drop ((ah.out.old u).row (by omega) (by unfold maxLen;omega)) hpl _ _ (by omega)) (fun _ h=>h) (fun q cs ⟨z,hz,hv⟩=>⟨z,by rw[C7];exact hz,hv⟩)) (by rw[Bd,Dg];omega) u.size
        have R:=xI (show srtC cmpE (l.take (j+1))=(([]++out.take p)++[x])++out.drop p by rw[zBr HX.out.1,<-ag.out,zF4 (show p<=out.length by omega) ao.out (fun z hz=>⟨Int.not_lt.2 (ai.out z hz).1,(ai.out z hz).2⟩)];simp);obtain⟨A3,c3,rfl⟩:=s.form;have Z:bW w w2:=hb.trans (u.mono t);have U:bW w w3:=Z.trans (Q.mono t);rw[<-R.out]at s I;have L:¬ (srtC cmpE (l.take (j+1))).length=0:=by rw[R.out];simp
        have an:=xI (s.mono t);generalize hLL:(srtC cmpE (l.take (j+1))).length=LL at *;have T:=xI hLL;clear ho1 J s G Q hi O N M ak hLL;refine wR HC (by kernel_rfl) (HC.out _ (hb.trans (C.mono t)).drew) (fun hHeld5=>?_);refine oT 0 hHeld5 ?_
        (iterate 4 refine oY hHeld5 ?_)
        refine oT 7 hHeld5 ?_
        (iterate 2 refine oY hHeld5 ?_)
        refine oO 5 fun K hK=>?_;go_simp;refine hK _ _ (HC.out _ ae) (oP ?_);refine oO 6 fun K hK=>?_;refine Lib.wp_append_run _ _ _ _ _ rfl _ _ rfl rfl _ w2 ab ?_;refine hK _ _ (HC.out _ Z) (oP ?_);refine oO 10 fun K hK=>?_;refine Lib.wp_append_run _ _ _ _ _ rfl _ _ rfl rfl _ w3 I ?_;refine hK _ _ (HC.out _ U) (oP ?_);refine oT 11 (HC.out _ U) ?_;refine wD ?_;go_wp2_with fail
        go_roundw
        case rel=>exact⟨j+1,A3,c3,srtC cmpE (l.take (j+1)),by go_num,by omega,by rw[T.out],by rw[T.out];exact an.out,rfl,fun h=>absurd (T.out ▸ h) L,U⟩
        case measure=>simp[intOf];try omega
     ·have pl:decide ((p:Int)<(out.length:Int))=false:=by simpa using hpl
      obtain rfl:p=out.length:=by omega
      have ai:Hid (∀ z,out[out.length]?=some z->0<=cmpE z x/\cmpE z x≠0):=xI (fun z hz=>by simp at hz);by_cases aF:cap=out.length
      ·go_wp2_with fail;refine Be (S:=fun V=>True) (by kernel_rfl) trivial (fun hHeld=>?_);refine oT 0 hHeld ?_
       (iterate 4 refine oY hHeld ?_)
       refine oU 5 hHeld ?_
       (iterate 7 refine oZ hHeld ?_)
       refine zAu 13 (by kernel_rfl) rfl (by rfl) hHeld (oP ?_);refine oU 14 hHeld ?_;refine oT 15 hHeld ?_;refine wD ?_;go_wp2_with fail;refine Be (S:=fun V=>True) (by kernel_rfl) trivial (fun hHeld=>?_);refine oT 0 hHeld ?_
       (iterate 4 refine oY hHeld ?_)
       refine oU 5 hHeld ?_
       (iterate 7 refine oZ hHeld ?_)
       refine zAu 13 (by kernel_rfl) rfl (by rfl) hHeld (oP ?_);refine oU 14 hHeld ?_;refine oT 15 hHeld ?_;refine wD ?_;generalize hw9:wq.drew.drew=w9;have P:bW wr w9:=by rw[<-hw9];exact W.drew.drew
       clear hw9;go_wp2_with (at_builtin;(refine zFl (elC (fun x cs=>EnB k x w B0 cs)) (fun x w' B cs h=>zBt k x w B0 cs h) rfl _ _ rfl wr.heap.size (vS none 0 0) [] rfl (OwnE.nil _ _ _ _ _) (some (aD g 0)) out.length _ (out.take out.length) (by rw[Bg];omega) _ rfl (RowB.sub (RowB.take2 ((ah.out.old P).row (by omega) (by unfold maxLen;omega)) (show out.length<=out.length by omega) _ lR) (fun _ h=>h) (fun q cs ⟨hq,z,hz,hv⟩=>⟨z,by rw[Co hq];exact hz,hv⟩)) (by simp only[Cl];omega) P.size ?_);intro u1 w1 ho1 hb1' _ _;refine Hid.out ?_);refine xI ?_;have C:bW wr w1:=P.trans hb1';clear hb1';go_wp2_with fail;have F:=C.size;have ae:bW w (w1.drew.alloc (.cells #[v0,v1,t0,t1,t2,t3,t4,t5,t6] 68)):=(hb.trans (C.mono t)).drew.alloc (Ba t F) _;obtain⟨i0,hi,O,N,M⟩:=Cp Tryz.infoE;have ak:([]++out.take out.length).length<=n:=by rw[Cn,Bg];omega
       obtain⟨g2,af,w2,ab,J,G,_,_⟩:=zBi (elC (fun x cs=>EnB k x w B0 cs)) 30 30 68 i0 (.agg #[vS none 0 0,.bool false,vI i6 0,vI i6 0,vT ⟨#[]⟩,vS none 0 0,vS none 0 0,vS none 0 0,vS none 0 0]) 9 160 underlying30 hi O N M rfl (by decide) (by decide) w1.drew wr.heap.size u1 ([]++out.take out.length) (ho1.old yR.drew) x [v0,v1,t0,t1,t2,t3,t4,t5,t6] HX.out.2 rfl (zBt k x w B0 _ HX.out.2) (by omega) F _ rfl 1;have u:bW wr w2:=C.drew.trans G;obtain⟨u3,w3,I,s,Q,_,_⟩:=zBh (elC (fun x cs=>EnB k x w B0 cs)) 30 30 68 i0 (.agg #[vS none 0 0,.bool false,vI i6 0,vI i6 0,vT ⟨#[]⟩,vS none 0 0,vS none 0 0,vS none 0 0,vS none 0 0]) 9 160 underlying30 hi O N M rfl (by decide) (by decide) (fun x w' B cs h=>zBt k x w B0 cs h) w2 wr.heap.size _ _ J (some (aD g 0)) (0) (0) (([]:List En)) (by first|rfl|rw[Cc]) (fun _=>True) (⟨_,_,rfl,⟨Bt _,Bt _⟩,fun h=>absurd h (by omega)⟩) (by rw[Bd,Dg];omega) u.size
       have R:=xI (show srtC cmpE (l.take (j+1))=(([]++out.take out.length)++[x])++([]:List En) by rw[zBr HX.out.1,<-ag.out,zF4 (show out.length<=out.length by omega) ao.out (fun z hz=>⟨Int.not_lt.2 (ai.out z hz).1,(ai.out z hz).2⟩)];simp);obtain⟨A3,c3,rfl⟩:=s.form;have Z:bW w w2:=hb.trans (u.mono t);have U:bW w w3:=Z.trans (Q.mono t);rw[<-R.out]at s I;have L:¬ (srtC cmpE (l.take (j+1))).length=0:=by rw[R.out];simp
       have an:=xI (s.mono t);generalize hLL:(srtC cmpE (l.take (j+1))).length=LL at *;have T:=xI hLL;clear ho1 J s G Q hi O N M ak hLL;refine wR HC (by kernel_rfl) (HC.out _ (hb.trans (C.mono t)).drew) (fun hHeld5=>?_);refine oT 0 hHeld5 ?_
       (iterate 4 refine oY hHeld5 ?_)
       refine oT 7 hHeld5 ?_
       (iterate 2 refine oY hHeld5 ?_)
       refine oO 5 fun K hK=>?_;go_simp;refine hK _ _ (HC.out _ ae) (oP ?_);refine oO 6 fun K hK=>?_;refine Lib.wp_append_run _ _ _ _ _ rfl _ _ rfl rfl _ w2 ab ?_;refine hK _ _ (HC.out _ Z) (oP ?_);refine oO 10 fun K hK=>?_;refine Lib.wp_append_run _ _ _ _ _ rfl _ _ rfl rfl _ w3 I ?_;refine hK _ _ (HC.out _ U) (oP ?_);refine oT 11 (HC.out _ U) ?_;refine wD ?_;go_wp2_with fail
       go_roundw
       case rel=>exact⟨j+1,A3,c3,srtC cmpE (l.take (j+1)),by go_num,by omega,by rw[T.out],by rw[T.out];exact an.out,rfl,fun h=>absurd (T.out ▸ h) L,U⟩
       case measure=>simp[intOf];try omega
      ·go_wp2_with fail;refine Be (S:=fun V=>True) (by kernel_rfl) trivial (fun hHeld=>?_);refine oT 0 hHeld ?_
       (iterate 4 refine oY hHeld ?_)
       refine oU 5 hHeld ?_
       (iterate 7 refine oZ hHeld ?_)
       refine zAu 13 (by kernel_rfl) rfl (by rfl) hHeld (oP ?_);refine oU 14 hHeld ?_;refine oT 15 hHeld ?_;refine wD ?_;go_wp2_with fail;refine Be (S:=fun V=>True) (by kernel_rfl) trivial (fun hHeld=>?_);refine oT 0 hHeld ?_
       (iterate 4 refine oY hHeld ?_)
       refine oU 5 hHeld ?_
       (iterate 7 refine oZ hHeld ?_)
       refine zAu 13 (by kernel_rfl) rfl (by rfl) hHeld (oP ?_);refine oU 14 hHeld ?_;refine oT 15 hHeld ?_;refine wD ?_;generalize hw9:wq.drew.drew=w9;have P:bW wr w9:=by rw[<-hw9];exact W.drew.drew
       clear hw9;go_wp2_with (at_builtin;(refine zFl (elC (fun x cs=>EnB k x w B0 cs)) (fun x w' B cs h=>zBt k x w B0 cs h) rfl _ _ rfl wr.heap.size (vS none 0 0) [] rfl (OwnE.nil _ _ _ _ _) (some (aD g 0)) out.length _ (out.take out.length) (by rw[Bg];omega) _ rfl (RowB.sub (RowB.take ((ah.out.old P).row (by omega) (by unfold maxLen;omega)) (show out.length<=out.length by omega) _) (fun _ h=>h) (fun q cs ⟨hq,z,hz,hv⟩=>⟨z,by rw[Co hq];exact hz,hv⟩)) (by simp only[Cl];omega) P.size ?_);intro u1 w1 ho1 hb1' _ _;refine Hid.out ?_);refine xI ?_;have C:bW wr w1:=P.trans hb1';clear hb1';go_wp2_with fail;have F:=C.size;have ae:bW w (w1.drew.alloc (.cells #[v0,v1,t0,t1,t2,t3,t4,t5,t6] 68)):=(hb.trans (C.mono t)).drew.alloc (Ba t F) _;obtain⟨i0,hi,O,N,M⟩:=Cp Tryz.infoE;have ak:([]++out.take out.length).length<=n:=by rw[Cn,Bg];omega
       obtain⟨g2,af,w2,ab,J,G,_,_⟩:=zBi (elC (fun x cs=>EnB k x w B0 cs)) 30 30 68 i0 (.agg #[vS none 0 0,.bool false,vI i6 0,vI i6 0,vT ⟨#[]⟩,vS none 0 0,vS none 0 0,vS none 0 0,vS none 0 0]) 9 160 underlying30 hi O N M rfl (by decide) (by decide) w1.drew wr.heap.size u1 ([]++out.take out.length) (ho1.old yR.drew) x [v0,v1,t0,t1,t2,t3,t4,t5,t6] HX.out.2 rfl (zBt k x w B0 _ HX.out.2) (by omega) F _ rfl 1;have u:bW wr w2:=C.drew.trans G;obtain⟨u3,w3,I,s,Q,_,_⟩:=zBh (elC (fun x cs=>EnB k x w B0 cs)) 30 30 68 i0 (.agg #[vS none 0 0,.bool false,vI i6 0,vI i6 0,vT ⟨#[]⟩,vS none 0 0,vS none 0 0,vS none 0 0,vS none 0 0]) 9 160 underlying30 hi O N M rfl (by decide) (by decide) (fun x w' B cs h=>zBt k x w B0 cs h) w2 wr.heap.size _ _ J (some (aD g (out.length*9))) (0) (cap-out.length) (([]:List En)) (by first|rfl|rw[Cc]) (fun _=>True) (⟨_,_,rfl,⟨Bt _,Bt _⟩,fun h=>absurd h (by omega)⟩) (by rw[Bd,Dg];omega) u.size
       have R:=xI (show srtC cmpE (l.take (j+1))=(([]++out.take out.length)++[x])++([]:List En) by rw[zBr HX.out.1,<-ag.out,zF4 (show out.length<=out.length by omega) ao.out (fun z hz=>⟨Int.not_lt.2 (ai.out z hz).1,(ai.out z hz).2⟩)];simp);obtain⟨A3,c3,rfl⟩:=s.form;have Z:bW w w2:=hb.trans (u.mono t);have U:bW w w3:=Z.trans (Q.mono t);rw[<-R.out]at s I;have L:¬ (srtC cmpE (l.take (j+1))).length=0:=by rw[R.out];simp
       have an:=xI (s.mono t);generalize hLL:(srtC cmpE (l.take (j+1))).length=LL at *;have T:=xI hLL;clear ho1 J s G Q hi O N M ak hLL;refine wR HC (by kernel_rfl) (HC.out _ (hb.trans (C.mono t)).drew) (fun hHeld5=>?_);refine oT 0 hHeld5 ?_
       (iterate 4 refine oY hHeld5 ?_)
       refine oT 7 hHeld5 ?_
       (iterate 2 refine oY hHeld5 ?_)
       refine oO 5 fun K hK=>?_;go_simp;refine hK _ _ (HC.out _ ae) (oP ?_);refine oO 6 fun K hK=>?_;refine Lib.wp_append_run _ _ _ _ _ rfl _ _ rfl rfl _ w2 ab ?_;refine hK _ _ (HC.out _ Z) (oP ?_);refine oO 10 fun K hK=>?_;refine Lib.wp_append_run _ _ _ _ _ rfl _ _ rfl rfl _ w3 I ?_;refine hK _ _ (HC.out _ U) (oP ?_);refine oT 11 (HC.out _ U) ?_;refine wD ?_;go_wp2_with fail
       go_roundw
       case rel=>exact⟨j+1,A3,c3,srtC cmpE (l.take (j+1)),by go_num,by omega,by rw[T.out],by rw[T.out];exact an.out,rfl,fun h=>absurd (T.out ▸ h) L,U⟩
       case measure=>simp[intOf];try omega
  ·have aE:Hid (l.take j=l):=xI (B8 (by have:=HN.out;omega));have aI:=xI (show out=srtC cmpE l from by rw[ag.out,aE.out]);clear hO;go_wp2;go_ret;have h1:=aI.out;subst h1;exact⟨_,_,rfl,ah.out,hb⟩
end Go.Proofs.YteedihhdcbepmaaGreat
