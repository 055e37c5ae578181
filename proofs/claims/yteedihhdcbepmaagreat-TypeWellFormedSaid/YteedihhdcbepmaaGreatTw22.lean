/- What the document's test of a node returns .. -/
import Derived.Test.YteedihhdcbepmaaGreatTwZ
import Derived.Test.YteedihhdcbepmaaGreatTw21
set_option maxRecDepth 100000
set_option maxHeartbeats 12800000
set_option linter.all false
open Go.Value renaming slice→vS,int→vI,string→vT
open Go.IntKind renaming i64→i6
open Go.Proofs.Tryz renaming prog→tP
namespace Go.Proofs.YteedihhdcbepmaaGreat
open Go Go.RowKit
theorem zO2 (k:Nat) (v:Vl) (cs:List Value) (w:World) (h:VS k w w.heap.size v cs) (hkd:zAo v=8):Calls tP 120 #[.agg cs.toArray] w fun e w'=>e=.returned (.bool (nodeV v))/\bW w w':=by
 cases k with
 | zero=>exact h.elim
 | succ k=>
 obtain⟨t,C,r,c,a,d,n⟩:=v;have aG:=xI hkd;clear hkd;obtain⟨uk,uy,ue,ul,rfl,aP,aO,ax,hk,al,he,am⟩:=h;obtain⟨A,cA,rfl,az⟩:=hk.form;obtain⟨Y,cY,rfl,ay⟩:=al.form;obtain⟨E,cE,rfl,aA⟩:=he.form;obtain⟨L,cL,rfl,Z⟩:=am.form;have aW:=xI hk;have aF:=xI al;have aX:=xI he;have aE:=xI am;have ai:=xI (aN ax (aN az (aN ay (aN aA Z))));clear hk al he am aP aO ax az ay aA Z;have HR:Hid (nodeV (.mk t C r c a d n)=(zAk n&&usesB t C r c a d&&kindB t C r c a d)):=xI rfl;generalize nodeV (.mk t C r c a d n)=y at HR ⊢;obtain⟨W,hW⟩:∃ W,W=w.alloc (oV t C ⟨r.toArray⟩ A c.length cA Y a.length cY E d.length cE L n.length cL):=⟨_,rfl⟩;have aB:bW w W:=by rw[hW];exact yR.alloc lR _
 have d0:W.cell? (aH w 0)=some (vI i6 t):=by rw[hW];simp
 have d1:W.cell? (aH w 1)=some (vI i6 C):=by rw[hW];simp
 have d2:W.cell? (aH w 2)=some (vT ⟨r.toArray⟩):=by rw[hW];simp
 have d3:W.cell? (aH w 3)=some (vS A c.length cA):=by rw[hW];simp
 have d4:W.cell? (aH w 4)=some (vS Y a.length cY):=by rw[hW];simp
 have d5:W.cell? (aH w 5)=some (vS E d.length cE):=by rw[hW];simp
 have d6:W.cell? (aH w 6)=some (vS L n.length cL):=by rw[hW];simp
 have H:w.heap.size<W.heap.size:=by rw[hW];simp
 have HB:=xI aB;clear aB;go_enter Tryz.func120,Tryz.ntmps120;go_wp2_with fail;rw[<-hW];clear hW;generalize hnl:n.length=nl at *;have ae:=xI hnl;clear hnl
 go_loopw [3] (fun i wr=>∃ j:Nat,i=vI i6 j/\j<=nl/\zAk (n.take j)=true/\bW W wr) (fun i _=>nl-(intOf i).toNat)
 case atStart=>exact⟨0,rfl,by omega,by simp[zAk,AscC],Bv _ _⟩
 case round=>
  obtain⟨j,rfl,hj,F,hb⟩:=hrel;have s:=xI F;clear F;have e6:wr.cell? (aH w 6)=some (vS L nl cL):=(hb.cell (p:=(aH w 6)) H).trans d6;by_cases hjn:j<nl
  ·have ap:bW w wr:=HB.out.trans (hb.mono HB.out.size);obtain⟨b,o,au,x0,hu,aq,⟨x,hx,R,ah⟩,c0⟩:=(aE.out.on ap (fun _ _ h=>h)).at1 (j:=j) (by have:=ae.out;omega);injection hu with hA hNN hcc;subst hA hcc;clear hNN;simp only[Bb,and_true]at R;subst R;have D:=zBj ⟨x.toArray⟩ wr.drew (by simpa [ByteArray.size] using ah);rw[show (⟨x.toArray⟩:ByteArray).data.toList=x from rfl]at D;have HX:=xI hx;have HV:=xI hb;have u:=xI ap;have kn:(j:Int)<(nl:Int):=by omega
   have k0:(0:Int)<=(j:Int):=by omega
   have aT:Hid (varB x=varB x):=xI rfl;generalize hvx:varB x=z at D;have O:=xI hvx;clear hx hb ap hvx aT;cases z
   ·have HU:Hid (y=false):=xI (by rw[HR.out,zCc HX.out (.inl O.out)];rfl);go_wp2_with fail;refine Bd (S:=fun V=>V.cell? (aH w 6)=some (vS (some (aD b o)) nl cL)/\V.cell? (aD b (o+j))=some (vT ⟨x.toArray⟩)) (by kernel_rfl) ⟨e6,c0⟩ (fun hHeld=>?_);refine oT 0 hHeld ?_
    (iterate 4 refine oY hHeld ?_)
    refine oO 5 fun K hK=>?_;go_simp;refine D.mono ?_;rintro e w2 ⟨rfl,hw2⟩;subst hw2;refine hK _ _ hHeld (oP ?_);refine oT 6 hHeld ?_;refine oT 7 hHeld ?_;refine oU 8 hHeld ?_
    (iterate 15 refine oZ hHeld ?_)
    refine oT 24 hHeld ?_;refine wD ?_;go_wp2;go_ret;exact⟨zAb HU.out.symm,u.out.drew⟩
   ·by_cases hj0:j=0
    ·subst hj0;have P:=xI (zBo HX.out s.out O.out (.inl rfl));have q0:decide ((0:Int)<((0:Nat):Int))=false:=rfl;go_wp2_with fail;refine Bd (S:=fun V=>V.cell? (aH w 6)=some (vS (some (aD b o)) nl cL)/\V.cell? (aD b o)=some (vT ⟨x.toArray⟩)) (by kernel_rfl) ⟨e6,by simpa using c0⟩ (fun hHeld=>?_);refine oT 0 hHeld ?_
     (iterate 4 refine oY hHeld ?_)
     refine oO 5 fun K hK=>?_;go_simp;refine D.mono ?_;rintro e w2 ⟨rfl,hw2⟩;subst hw2;refine hK _ _ hHeld (oP ?_);refine oT 6 hHeld ?_
     (iterate 4 refine oY hHeld ?_)
     refine oU 11 hHeld ?_
     (iterate 11 refine oZ hHeld ?_)
     refine oT 23 hHeld ?_;refine oT 24 hHeld ?_;refine wD ?_;go_wp2_with fail
     go_roundw
     case rel=>exact⟨0+1,by go_num,by omega,P.out,HV.out.drew⟩
     case measure=>simp[intOf];omega
    ·obtain⟨m,hm⟩:∃ m,j=m+1:=⟨j-1,by omega⟩;obtain⟨b',ak,ar,x1,hu,_,⟨p,hp,T,aV⟩,c1⟩:=(aE.out.on u.out (fun _ _ h=>h)).at1 (j:=m) (by have:=ae.out;omega);injection hu with hA hNN hcc;injection hA with hA;injection hA with g1 g2;subst g1 g2;clear hNN hcc;simp only[Bb,and_true]at T;subst T;have HP:Hid (n[j-1]?=some p):=xI (by rw[hm,Eu];exact hp);have aw:Hid (0<j):=xI (by omega);have q0:decide (0<j)=true:=by rw[Be];omega
     have qm:IntKind.i64.wrap ((j:Int)-1)=(m:Int):=by rw[Bq _ (by have:=ai.out.2.2.2.2;have:=ae.out;unfold maxLen at *;omega)];omega
     have km:(m:Int)<(nl:Int):=by omega
     have aQ:(0:Int)<=(m:Int):=by omega
     have an:=zF4 p x;generalize hgz:Op.bytesLess p x=g at an;have aJ:=xI an;clear hp hm an hj0;cases g
     ·have HU:Hid (y=false):=xI (by rw[HR.out,zCc HX.out (.inr ⟨aw.out,p,HP.out,by have:=aJ.out;simpa using this.symm⟩)];rfl);go_wp2_with fail;refine Bd (S:=fun V=>V.cell? (aH w 6)=some (vS (some (aD b o)) nl cL)/\V.cell? (aD b (o+j))=some (vT ⟨x.toArray⟩)/\V.cell? (aD b (o+m))=some (vT ⟨p.toArray⟩)) (by kernel_rfl) ⟨e6,c0,c1⟩ (fun hHeld=>?_);refine oT 0 hHeld ?_
      (iterate 4 refine oY hHeld ?_)
      refine oO 5 fun K hK=>?_;go_simp;refine D.mono ?_;rintro e w2 ⟨rfl,hw2⟩;subst hw2;refine hK _ _ hHeld (oP ?_);refine oT 6 hHeld ?_
      (iterate 18 refine oY hHeld ?_)
      refine wD ?_;go_wp2;go_ret;exact⟨zAb HU.out.symm,u.out.drew⟩
     ·have P:=xI (zBo HX.out s.out O.out (.inr ⟨p,HP.out,by have:=aJ.out;simpa using this.symm⟩));have qj:IntKind.i64.wrap ((j:Int)+1)=(j:Int)+1:=Bq _ (by have:=ai.out.2.2.2.2;have:=ae.out;unfold maxLen at *;omega);go_wp2_with fail;refine Bd (S:=fun V=>V.cell? (aH w 6)=some (vS (some (aD b o)) nl cL)/\V.cell? (aD b (o+j))=some (vT ⟨x.toArray⟩)/\V.cell? (aD b (o+m))=some (vT ⟨p.toArray⟩)) (by kernel_rfl) ⟨e6,c0,c1⟩ (fun hHeld=>?_);refine oT 0 hHeld ?_
      (iterate 4 refine oY hHeld ?_)
      refine oO 5 fun K hK=>?_;go_simp;refine D.mono ?_;rintro e w2 ⟨rfl,hw2⟩;subst hw2;refine hK _ _ hHeld (oP ?_);refine oT 6 hHeld ?_
      (iterate 18 refine oY hHeld ?_)
      refine wD ?_;go_wp2_with fail
      go_roundw
      case rel=>exact⟨j+1,by go_num,by omega,P.out,HV.out.drew⟩
      case measure=>simp[intOf];omega
  ·have aU:Hid (zAk n=true):=xI (by
    have ao:n.take j=n:=Cx (by have:=ae.out;omega);rw[<-ao];exact s.out)
   have u:=xI (HB.out.trans (hb.mono HB.out.size));have Q:=xI (Bk H hb.size);have e0:wr.cell? (aH w 0)=some (vI i6 t):=(hb.cell (p:=(aH w 0)) H).trans d0;have e1:wr.cell? (aH w 1)=some (vI i6 C):=(hb.cell (p:=(aH w 1)) H).trans d1;have e2:wr.cell? (aH w 2)=some (vT ⟨r.toArray⟩):=(hb.cell (p:=(aH w 2)) H).trans d2;have e3:wr.cell? (aH w 3)=some (vS A c.length cA):=(hb.cell (p:=(aH w 3)) H).trans d3;have e4:wr.cell? (aH w 4)=some (vS Y a.length cY):=(hb.cell (p:=(aH w 4)) H).trans d4;have e5:wr.cell? (aH w 5)=some (vS E d.length cE):=(hb.cell (p:=(aH w 5)) H).trans d5;clear d0 d1 d2 d3 d4 d5 d6 hb H hj s;have jf:decide ((j:Int)<(nl:Int))=false:=by simp;omega
   have aS:t=8:=aG.out;clear aG;subst aS;have ad:Hid (y=(usesN 8 C r c.length a.length d.length&&kindB 8 C r c a d)):=xI (by rw[HR.out,aU.out,zCp];rfl);clear HR;by_cases hc:C=0
   case neg=>
    have HU:Hid (y=false):=xI (by rw[ad.out];simp[usesN,hc]);have fi:(C != 0)=true:=by simpa using hc
    clear hc;go_wp2;go_ret;exact⟨zAb HU.out.symm,u.out⟩
   have av:=xI hc;have fi:(C != 0)=false:=by simpa using hc
   clear hc;by_cases hc:r=[]
   case neg=>
    have HU:Hid (y=false):=xI (by rw[ad.out];simp[usesN,hc]);have ft:=hc;clear hc;go_wp2;go_ret;exact⟨zAb HU.out.symm,u.out⟩
   have aa:=xI hc;have ft:=hc;clear hc;by_cases hc:d.length=0
   case neg=>
    have HU:Hid (y=false):=xI (by rw[ad.out];simp[usesN,hc]);have J:0<d.length:=by omega
    have I:decide ((0:Int)<(d.length:Int))=true:=by rw[Be];omega
    clear hc;go_wp2;go_ret;exact⟨zAb HU.out.symm,u.out⟩
   have ab:=xI hc;have J:¬ 0<d.length:=by omega
   have I:decide ((0:Int)<(d.length:Int))=false:=by rw[Cu];omega
   clear hc;have aj:Hid (y=(zA3 (fun x=>keyB x.1 x.2) cmpK a&&decide (a.length=c.length))):=xI (by rw[ad.out];simp[usesN,kindB,zA3,av.out,aa.out,ab.out]);clear ad;generalize hnk:a.length=nk at *;have af:=xI hnk;clear hnk;go_wp2_with fail;clear fi ft J I jf hjn e6;rename World=>X
   go_loopw [7] (fun i w2=>∃ q:Nat,i=vI i6 q/\q<=nk/\zA3 (fun x=>keyB x.1 x.2) cmpK (a.take q)=true/\bW X w2) (fun i _=>nk-(intOf i).toNat)
   case atStart=>exact⟨0,rfl,by omega,by simp[zA3,AscC],Bv _ _⟩
   case round=>
    obtain⟨q,rfl,hq,F,hb⟩:=hrel;have s:=xI F;clear F;have g4:wr.cell? (aH w 4)=some (vS Y nk cY):=(hb.cell (p:=(aH w 4)) Q.out).trans e4;by_cases hqn:q<nk
    ·obtain⟨b,o,au,x0,x1,hu,aq,⟨x,hx,R,aR,ah⟩,c0,c1⟩:=(aF.out.on u.out (fun _ _ h=>h)).at2 (j:=q) (by have:=af.out;omega);injection hu with hA hNN hcc;subst hA hcc;clear hNN aR;simp only[Bb,and_true]at R;obtain⟨rfl,rfl⟩:=R;have aC:b<X.heap.size:=Bk aq u.out.size;have D:Hid (∀ U,Calls tP 116 #[.agg #[vI i6 x.1,vT ⟨x.2.toArray⟩]] U fun e w'=>e=.returned (.bool (keyB x.1 x.2))/\bW U w'):=xI fun U=>zBf x.1 ⟨x.2.toArray⟩ U (by simpa [ByteArray.size] using ah);have HX:=xI hx;have l:=xI hb;have kn:(q:Int)<(nk:Int):=by omega
     have k0:(0:Int)<=(q:Int):=by omega
     generalize hvx:keyB x.1 x.2=z at D;have O:=xI hvx;have G:=xI (aN Q.out aC);have HD:=xI (aN e4 (aN c0 c1));have aY:=xI e3;clear hx hb hvx aq aC ah e0 e1 e2 e3 e4 e5 c0 c1;cases z
     ·have HU:Hid (y=false):=xI (by rw[aj.out,zBl HX.out (.inl O.out)];rfl);have HS:Hid (∀ V,bW X V->V.cell? (aH w 4)=some (vS (some (aD b o)) nk cY)/\V.cell? (aD b (o+q*2))=some (vI i6 x.1)/\V.cell? (aD b (o+q*2+1))=some (vT ⟨x.2.toArray⟩)):=xI fun V hV=>by
       have hz:X.heap.size<=V.heap.size:=hV.size;exact⟨(hV.cell (p:=(aH w 4)) G.out.1).trans HD.out.1,(hV.cell (p:=(aD b _)) G.out.2).trans HD.out.2.1,(hV.cell (p:=(aD b _)) G.out.2).trans HD.out.2.2⟩
      go_wp2_with fail;refine wR HS (by kernel_rfl) (HS.out _ l.out.drew) (fun hHeld=>?_);refine oT 0 hHeld ?_
      (iterate 4 refine oY hHeld ?_)
      refine oO 5 fun K hK=>?_;go_simp;refine (D.out _).mono ?_;rintro e w2 ⟨rfl,hb2⟩;have B:=xI (l.out.drew.trans (hb2.mono l.out.drew.size));have f:=HS.out w2 B.out;refine hK _ _ f (oP ?_);refine oT 6 f ?_;refine oT 7 f ?_;refine oU 8 f ?_
      (iterate 13 refine oZ f ?_)
      refine zAu 22 (by kernel_rfl) rfl (by rfl) f (oP ?_);refine oU 23 f ?_;refine oU 24 f ?_;refine oT 25 f ?_;refine wD ?_;go_wp2;go_ret;exact⟨zAb HU.out.symm,u.out.trans (B.out.mono u.out.size)⟩
     ·by_cases hj0:q=0
      ·subst hj0;have P:=xI (zA0 totK (p:=fun x=>keyB x.1 x.2) HX.out s.out O.out (.inl rfl));have q0:decide ((0:Int)<((0:Nat):Int))=false:=rfl;have HS:Hid (∀ V,bW X V->V.cell? (aH w 4)=some (vS (some (aD b o)) nk cY)/\V.cell? (aD b o)=some (vI i6 x.1)/\V.cell? (aD b (o+1))=some (vT ⟨x.2.toArray⟩)):=xI fun V hV=>by
        have hz:X.heap.size<=V.heap.size:=hV.size;have h1:=(hV.cell (p:=(aD b _)) G.out.2).trans HD.out.2.1;have h2:=(hV.cell (p:=(aD b _)) G.out.2).trans HD.out.2.2;exact⟨(hV.cell (p:=(aH w 4)) G.out.1).trans HD.out.1,by simpa using h1,by simpa using h2⟩
       go_wp2_with fail;refine wR HS (by kernel_rfl) (HS.out _ l.out.drew) (fun hHeld=>?_);refine oT 0 hHeld ?_
       (iterate 4 refine oY hHeld ?_)
       refine oO 5 fun K hK=>?_;go_simp;refine (D.out _).mono ?_;rintro e w2 ⟨rfl,hb2⟩;have B:=xI (l.out.drew.trans (hb2.mono l.out.drew.size));have f:=HS.out w2 B.out;refine hK _ _ f (oP ?_);refine oT 6 f ?_
       (iterate 4 refine oY f ?_)
       refine oU 11 f ?_
       (iterate 10 refine oZ f ?_)
       refine zAu 22 (by kernel_rfl) rfl (by rfl) f (oP ?_);refine oU 23 f ?_;refine oT 24 f ?_;refine oT 25 f ?_;refine wD ?_;go_wp2_with fail
       go_roundw
       case rel=>exact⟨0+1,by go_num,by omega,P.out,B.out⟩
       case measure=>simp[intOf];omega
      ·obtain⟨m,hm⟩:∃ m,q=m+1:=⟨q-1,by omega⟩;obtain⟨b',ak,ar,y0,y1,hu,_,⟨p,hp,T,_,_⟩,d0,d1⟩:=(aF.out.on u.out (fun _ _ h=>h)).at2 (j:=m) (by have:=af.out;omega);injection hu with hA hNN hcc;injection hA with hA;injection hA with g1 g2;subst g1 g2;clear hNN hcc;simp only[Bb,and_true]at T;obtain⟨rfl,rfl⟩:=T;have HP:Hid (a[q-1]?=some p):=xI (by rw[hm,Eu];exact hp);have aw:Hid (0<q):=xI (by omega);have q0:decide (0<q)=true:=by rw[Be];omega
       have qm:IntKind.i64.wrap ((q:Int)-1)=(m:Int):=by rw[Bq _ (by have:=ai.out.2.2.1;have:=af.out;unfold maxLen at *;omega)];omega
       have km:(m:Int)<(nk:Int):=by omega
       have aQ:(0:Int)<=(m:Int):=by omega
       have M:Hid (∀ U,Calls tP 117 #[.agg #[vI i6 p.1,vT ⟨p.2.toArray⟩],.agg #[vI i6 x.1,vT ⟨x.2.toArray⟩]] U fun e w'=>e=.returned (vI i6 (cmpK p x))/\bW U w'):=xI fun U=>zCx p x U;generalize hcz:cmpK p x=cz at M;have aL:=xI hcz;have aK:=xI (aN d0 d1);clear hcz hp hm hj0 d0 d1;have HS:Hid (∀ V,bW X V->V.cell? (aH w 4)=some (vS (some (aD b o)) nk cY)/\V.cell? (aD b (o+q*2))=some (vI i6 x.1)/\V.cell? (aD b (o+q*2+1))=some (vT ⟨x.2.toArray⟩)/\V.cell? (aD b (o+m*2))=some (vI i6 p.1)/\V.cell? (aD b (o+m*2+1))=some (vT ⟨p.2.toArray⟩)):=xI fun V hV=>by
        have hz:X.heap.size<=V.heap.size:=hV.size;exact⟨(hV.cell (p:=(aH w 4)) G.out.1).trans HD.out.1,(hV.cell (p:=(aD b _)) G.out.2).trans HD.out.2.1,(hV.cell (p:=(aD b _)) G.out.2).trans HD.out.2.2,(hV.cell (p:=(aD b _)) G.out.2).trans aK.out.1,(hV.cell (p:=(aD b _)) G.out.2).trans aK.out.2⟩
       by_cases hcg:cz<0
       ·have qg:decide ((0:Int)<=cz)=false:=by rw[Cu];omega
        have P:=xI (zA0 totK (p:=fun x=>keyB x.1 x.2) HX.out s.out O.out (.inr ⟨p,HP.out,by rw[aL.out];exact hcg⟩));have qj:IntKind.i64.wrap ((q:Int)+1)=(q:Int)+1:=Bq _ (by have:=ai.out.2.2.1;have:=af.out;unfold maxLen at *;omega);clear hcg;go_wp2_with fail;refine wR HS (by kernel_rfl) (HS.out _ l.out.drew) (fun hHeld=>?_);refine oT 0 hHeld ?_
        (iterate 4 refine oY hHeld ?_)
        refine oO 5 fun K hK=>?_;go_simp;refine (D.out _).mono ?_;rintro e w2 ⟨rfl,hb2⟩;have B:=xI (l.out.drew.trans (hb2.mono l.out.drew.size));have f:=HS.out w2 B.out;refine hK _ _ f (oP ?_);refine oT 6 f ?_
        (iterate 15 refine oY f ?_)
        refine oO 22 fun K hK=>?_;go_simp;refine (M.out w2).mono ?_;rintro e w3 ⟨rfl,hb3⟩;have ag:=xI (B.out.trans (hb3.mono B.out.size));have N:=HS.out w3 ag.out;refine hK _ _ N (oP ?_);refine oT 23 N ?_
        (iterate 2 refine oY N ?_)
        refine wD ?_;go_wp2_with fail
        go_roundw
        case rel=>exact⟨q+1,by go_num,by omega,P.out,ag.out⟩
        case measure=>simp[intOf];omega
       ·have qg:decide ((0:Int)<=cz)=true:=by rw[Be];omega
        have HU:Hid (y=false):=xI (by rw[aj.out,zBl HX.out (.inr ⟨aw.out,p,HP.out,by rw[aL.out];exact hcg⟩)];rfl);clear hcg;go_wp2_with fail;refine wR HS (by kernel_rfl) (HS.out _ l.out.drew) (fun hHeld=>?_);refine oT 0 hHeld ?_
        (iterate 4 refine oY hHeld ?_)
        refine oO 5 fun K hK=>?_;go_simp;refine (D.out _).mono ?_;rintro e w2 ⟨rfl,hb2⟩;have B:=xI (l.out.drew.trans (hb2.mono l.out.drew.size));have f:=HS.out w2 B.out;refine hK _ _ f (oP ?_);refine oT 6 f ?_
        (iterate 15 refine oY f ?_)
        refine oO 22 fun K hK=>?_;go_simp;refine (M.out w2).mono ?_;rintro e w3 ⟨rfl,hb3⟩;have ag:=xI (B.out.trans (hb3.mono B.out.size));have N:=HS.out w3 ag.out;refine hK _ _ N (oP ?_);refine oT 23 N ?_
        (iterate 2 refine oY N ?_)
        refine wD ?_;go_wp2;go_ret;exact⟨zAb HU.out.symm,u.out.trans (ag.out.mono u.out.size)⟩
    ·have aI:Hid (zA3 (fun x=>keyB x.1 x.2) cmpK a=true):=xI (by
      have ao:a.take q=a:=Cx (by have:=af.out;omega);rw[<-ao];exact s.out)
     have g3:wr.cell? (aH w 3)=some (vS A c.length cA):=(hb.cell (p:=(aH w 3)) Q.out).trans e3;have aM:=xI (u.out.trans (hb.mono u.out.size));clear hb e0 e1 e2 e3 e4 e5 s;by_cases hl:nk=c.length
     ·have HU:Hid (y=true):=xI (by rw[aj.out,aI.out];simp[hl]);have fl:((nk:Int)==(c.length:Int))=true:=by rw[beq_iff_eq];omega
      clear hl;go_wp2;go_ret;exact⟨zAb HU.out.symm,aM.out⟩
     ·have HU:Hid (y=false):=xI (by rw[aj.out,aI.out];simp[hl]);have fl:((nk:Int)==(c.length:Int))=false:=by rw[Cf];omega
      clear hl;go_wp2;go_ret;exact⟨zAb HU.out.symm,aM.out⟩
theorem OwnI.pop {w:World}{base:Nat}{v:Value}{l:List Int}{x:Int}(h:OwnI w base v (l++[x])):∃ g cap,v=vS (some (aD g 0)) (l.length+1) cap/\l.length+1<=cap/\base<=g/\w.cell? (aD g l.length)=some (vI i6 x)/\OwnI w base (vS (some (aD g 0)) l.length cap) l:=by
 obtain⟨xs,ho,hx⟩:=h;rcases ho.2 with⟨_,hn⟩|⟨g,cap,c,rfl,hB,hg,h1,h2,h3,h4⟩
 ·simp at hn
 ·rw[Bc,Dg]at *;refine⟨g,cap,rfl,h1,hB,?_,xs.take l.length,⟨?_,.inr ⟨g,cap,c,rfl,hB,hg,by omega,h2,h3,?_⟩⟩,fun j y hj=>?_⟩
  ·have a:=(hx l.length x (by simp)).1;refine (Bt hg _).trans ?_;have h5:xs[l.length]?=some (vI i6 x):=by
    have h6:((xs.drop (l.length*1)).take 1)[0]?=some (vI i6 x):=by rw[a];rfl
    simpa using h6
   rw[<-h4,Cl (by omega)]at h5;simpa using h5
  ·rw[Bg,ho.1];simp
  ·rw[<-h4,List.take_take];congr 1;omega
  ·have b:=(Bw.1 hj).1;have:=hx j y (by rw[Ds b];exact hj);rw[List.drop_take,List.take_take,show min 1 (l.length-j*1)=1 by omega];exact this
def zOc (w:World) (g:Nat):List Bool:=match w.heap[g]? with
 | some (.cells cs _ _)=>cs.toList.map fun u=>match u with
  | .bool b=>b
  | _=>false
 | _=>[]
def zHq:Value->Nat
 | vS _ n _=>n
 | _=>0
theorem zG9 {w:World}{g:Nat}{v:List Bool}(h:BRow w g v):zOc w g=v:=by
 unfold zOc;rw[h];simp[Function.comp_def]
theorem WfT.edges {t:Ty}(h:WfT t):EdgOk t.1:=zKw h.wf.node
theorem zIv {ns:List Tn}{root:Int}{A:Option Addr}{c:Nat}(w:World) (hT:TyP w w.heap.size ns root [vS A ns.length c,vI i6 root]) (hwf:WfT (ns,root)) (hn:ns.length<=1000000) (hko:∀ x∈ns,kidOk x) (hlf:left ns (List.replicate ns.length false)<=100000000) :
  Calls tP 85 #[.agg #[vS A ns.length c,vI i6 root]] w fun e w'=>∃ g v,e=.returned (vS (some (aD g 0)) ns.length ns.length)/\BRow w' g v/\v.length=ns.length/\(∀ i,dn v i=true↔Rch ns root.toNat i)/\w.heap.size<=g/\bW w w':=by
 obtain⟨X,hX,au,kX,al⟩:=aW w (oE A ns.length c root)
 obtain⟨W1,ad,r,ah,D⟩:=zEe X ns.length hn;rw[al]at ad r D;have Q:bW w W1:=au.trans (ah.mono (by omega));have W:=(ah.block w.heap.size (by omega)).trans kX;obtain⟨W2,ai,T,k2,_⟩:=aW W1 (.cells #[vI i6 root] 3 (0,0))
 have aA:W2.heap.size=w.heap.size+3:=by rw[ai];simp;omega
 have Z:=hwf.rt;have am:i64B root:=by
  obtain⟨_,_,h,_⟩:=hT;exact h
 have M:OwnI W2 W1.heap.size (vS (some (aH W1 0)) 1 1) [root]:=by
  refine⟨[vI i6 root],⟨rfl,.inr ⟨W1.heap.size,1,_,rfl,B7 _,k2,B7 _,by unfold maxLen;decide,rfl,rfl⟩⟩,fun j x hj=>?_⟩;cases j with
  | zero=>
   simp at hj;subst hj;exact⟨rfl,am⟩
  | succ j=>simp at hj
 obtain⟨rn,S⟩:∃ rn:Nat,root=(rn:Int):=⟨root.toNat,by have:=Z.1;show root=_;omega⟩;have aa:rn<ns.length:=by have:=Z.2;rw[show ((ns,root):Ty).2=root from rfl,S]at this;exact_mod_cast this
 have o:WorkS ns rn (List.replicate ns.length false) [root]:=by rw[S];exact WorkS.start aa
 have HT:Hid (∀ U,Below (w.heap.size+1) W2 U->(jT U w.heap.size A ns.length c root)/\bW w U/\w.heap.size+3<=U.heap.size):=xI fun U hU=>
  ⟨zAf ((hU.block _ (by omega)).trans ((T.block _ (by omega)).trans W)),Q.trans ((T.mono (by omega)).trans (hU.mono (by omega))),by have:=hU.size;omega⟩
 have aj:Hid (RowP w w.heap.size 8 (vS A ns.length c) ns.length (tnR w (fun b=>b<w.heap.size) ns)):=xI (by
  obtain⟨u,hu,_,h⟩:=hT;injection hu with hu _;rw[hu];exact h)
 have H0:Hid (OwnI W2 W1.heap.size (vS (some (aH W1 0)) 1 1) [root]/\BRow W2 (w.heap.size+1) (List.replicate ns.length false)/\WorkS ns rn (List.replicate ns.length false) [root]):=xI ⟨M,r.on (T.block _ (by omega)),o⟩;have HE:=xI (aN hwf.edges (aN hko (aN hlf (aN hn D))));obtain⟨x0,x1⟩:=zAf kX;obtain⟨y0,y1⟩:=zAf W;rw[hX]at x0 x1 ad;clear au kX al r ah D Q W T k2 aA Z am M o hT hwf hko hlf hX hn;generalize hnl:ns.length=n at *;have V:=xI (aN hnl (aN S aa));clear hnl S aa;go_enter Tryz.func85,Tryz.ntmps85;go_wp2_with fail;rw[<-ai];clear ai x0 x1 y0 y1 ad
 go_loopw [4] (fun lv wr=>∃ l v,OwnI wr W1.heap.size lv l/\BRow wr (w.heap.size+1) v/\WorkS ns rn v l/\l.length+left ns v<=100000001/\Below (w.heap.size+1) W2 wr) (fun lv wr=>left ns (zOc wr (w.heap.size+1))+zHq lv)
 case atStart=>exact⟨[root],_,H0.out.1,H0.out.2.1,H0.out.2.2,by have:=HE.out.2.2.1;simp only[Dg];omega,Bv _ _⟩
 case round=>
  obtain⟨l,v,ho,hr,hw,ae,z⟩:=hrel;obtain⟨⟨t0,t1⟩,G,aI⟩:=HT.out wr z;rcases List.eq_nil_or_concat l with rfl|⟨l2,k,hlk⟩
  ·obtain⟨A2,c2,rfl⟩:=ho.form;simp only[Ck];have HR:=xI (aN hr (aN hw G));clear ho hr hw ae z G t0 t1;go_wp2_with fail;go_ret;obtain⟨hr,hw,G⟩:=HR.out;exact⟨w.heap.size+1,v,rfl,hr,hw.len.trans V.out.1,fun i=>by rw[V.out.2.1,Ca];exact hw.done i,by omega,G⟩
  ·rw[List.concat_eq_append]at hlk;subst hlk;obtain⟨g,cap,rfl,ag,aL,aC,H⟩:=OwnI.pop ho;have hk:=hw.ok k (by simp);obtain⟨kn,rfl⟩:∃ kn:Nat,k=(kn:Int):=⟨k.toNat,by omega⟩;have af:kn<ns.length:=by have:=hk.2;exact_mod_cast this
   have t:=zG9 hr;have d:l2.length+1+left ns v<=100000001:=by simpa using ae
   have HW:=xI (aN hw (aN z (aN G (aN t (aN d (aN H hr))))));have e:=hr.cell (k:=kn) (by rw[hw.len];exact af);have aB:=hr.froz kn;have u1:(kn:Int)<(n:Int):=by have:=V.out.1;omega
   have u0:(0:Int)<=(kn:Int):=by omega
   obtain⟨m,hm⟩:∃ m,m=l2.length:=⟨_,rfl⟩;rw[<-hm]at aC ag ⊢;have aK:m<=100000001:=by omega
   have aJ:IntKind.i64.wrap (((m+1:Nat):Int)-1)=(m:Int):=by rw[Bq _ (by omega)];omega
   have m0:(0:Int)<=(m:Int):=by omega
   have m1:(m:Int)<((m+1:Nat):Int):=by omega
   have m2:(m:Int)<=(cap:Int):=by omega
   have m3:(0:Int)<((m+1:Nat):Int):=by omega
   have HM:=xI hm;clear hm ho hw ae hk d H hr z G t;cases hd:dn v kn with
   | true=>
    rw[hd]at e;go_wp2_with fail
    go_roundw
    case rel=>
     obtain⟨hw,z,_,_,d,H,hr⟩:=HW.out;exact⟨l2,v,by rw[HM.out];exact H,hr,hw.drop (by simpa using hd),by omega,z⟩
    case measure=>simp[zHq]
   | false=>
    rw[hd]at e;obtain⟨hw,z,G,t,d,H,hr⟩:=HW.out;obtain⟨V1,I⟩:∃ V1,V1=wr.setCell (aE w kn) (.bool true):=⟨_,rfl⟩;have aw:∀ b,b≠w.heap.size+1->V1.heap[b]?=wr.heap[b]?:=fun b hb=>by rw[I];exact Bu _ (aD _ kn) b _ hb
    have aF:V1.heap.size=wr.heap.size:=by rw[I];simp
    have r:BRow V1 (w.heap.size+1) (v.set kn true):=by rw[I];exact hr.set kn true
    have av:Below (w.heap.size+1) wr V1:=by rw[I];exact yR.setCell (p:=(aD _ kn)) lR _
    have f:=z.trans av;obtain⟨⟨s0,s1⟩,a,J⟩:=HT.out V1 f;have D:=HE.out.2.2.2.2;have N:OwnI V1 W1.heap.size (vS (some (aD g 0)) l2.length cap) l2:=OwnE.stay (fun _ _ _ _ _ _ h=>h) H fun q hq _=>aw q (by
     have:g=q:=by simpa [Value.ownBlock] using hq
     omega)
    have hx:=By af;have Y:=Cw af;generalize ns[kn]=x at hx Y;have hko:=HE.out.2.1 x Y;have L:RowP w w.heap.size 8 (vS A ns.length c) ns.length (tnR w (fun b=>b<w.heap.size) ns):=by have h:=aj.out;rw[V.out.1];exact h
    obtain⟨bn,on,aG,Ak,ck,Af,cf,hu,C,K,P,aq,d0,d1,d2,d3,d4,d5,d6,d7⟩:=TyB.at8 L hx;injection hu with hA _ hcc;subst hA hcc;have ay:TnP V1 V1.heap.size x [vI i6 x.kind,vI i6 x.lo,vI i6 x.hi,vT ⟨x.text.toArray⟩,vS Ak x.kids.length ck,vS Af x.fds.length cf,vI i6 x.r0,vI i6 x.r1]:=((show TnP w w.heap.size x [vI i6 x.kind,vI i6 x.lo,vI i6 x.hi,vT ⟨x.text.toArray⟩,vS Ak x.kids.length ck,vS Af x.fds.length cf,vI i6 x.r0,vI i6 x.r1]from⟨_,_,rfl,K,P,aq⟩).on a).up (by omega);have hc:=zNy V1 ay hko.1 hko.2;have e0:=(a.cell (p:=(aD bn _)) C).trans d0;have e1:=(a.cell (p:=(aD bn _)) C).trans d1;have e2:=(a.cell (p:=(aD bn _)) C).trans d2;have e3:=(a.cell (p:=(aD bn _)) C).trans d3;have e4:=(a.cell (p:=(aD bn _)) C).trans d4;have e5:=(a.cell (p:=(aD bn _)) C).trans d5;have e6:=(a.cell (p:=(aD bn _)) C).trans d6;have e7:=(a.cell (p:=(aD bn _)) C).trans d7;have F:=zKo hw.len hx hd;have o:=hw.see HE.out.1 (by rw[Ca];exact hx);rw[Ca]at o;obtain⟨es,ar⟩:∃ es,es=edg x:=⟨_,rfl⟩;rw[<-ar]at hc F o;obtain⟨ne,s⟩:∃ ne,ne=es.length:=⟨_,rfl⟩;rw[<-s]at hc F;have HS:=xI (aN F (aN o (aN N (aN r (aN f (aN D (aN J (aN s (aN t d)))))))));clear F o N r f D ar L K P aq d0 d1 d2 d3 d4 d5 d6 d7 ay C hw z G t d H hr aw av hx Y hko a aF J s1 s;rw[I]at s0 e0 e1 e2 e3 e4 e5 e6 e7;generalize x.kids.length=kl at *;generalize x.fds.length=fl at *;go_wp2_with fail;rw[<-I];clear I s0 e0 e1 e2 e3 e4 e5 e6 e7 e aB t0 t1;refine hc.mono ?_;rintro e w5 ⟨A5,c5,rfl,ho5,hb5⟩;clear hc;obtain⟨F,o,N,r,f,D,J,s,t,d⟩:=HS.out;have ao:OwnI w5 W1.heap.size (vS (some (aD g 0)) m cap) l2:=by rw[HM.out];exact OwnE.old N hb5
    have ax:RowB w5 (Btw (V1.heap.size+1) w5.heap.size) 1 (vS A5 ne c5) ne (fun j cs=>∃ y,es[j]?=some y/\elI.E y w5 (fun b=>W1.heap.size<=b/\b<w5.heap.size/\some b≠(vS (some (aD g 0)) m cap).ownBlock) cs):=by
     rw[s]at ho5 ⊢;exact OwnI.row ho5 (by unfold maxLen;omega)
    have ap:l2.length+ne<=300000000:=by omega
    have R:W1.heap.size<=w5.heap.size:=by have:=hb5.size;omega
    have ab:∀ (y:Int) (w:World) (B:Nat->Prop) (cs:List Value),elI.E y w B cs->∀ u∈cs,u.oneCell'=true:=fun _ _ _ _ h=>zEz h;have O:=s.symm;have ak:w.heap.size+1<W1.heap.size/\w.heap.size+3<=V1.heap.size:=⟨by omega,J⟩;have az:=xI ak;have HH:=xI (aN (r.on (hb5.block _ (by omega))) (f.trans (hb5.mono (by omega))));clear F o N r f t d ho5 hb5 s D J ak;go_wp2_with (at_builtin;refine zHh elI namI ab rfl _ _ rfl W1.heap.size _ l2 rfl ao A5 ne c5 es O _ rfl ax ap R ?_;intro v9 w9 ho9 hb9 _ _;refine Hid.out ?_);refine xI ?_;have an:=HH.out.1.on (hb9.block _ az.out.1);have HG:=xI (aN ho9 (aN an (HH.out.2.trans (hb9.mono (Dt az.out.1)))));clear ho9 hb9 an ao ax ap R O;go_wp2_with fail
    go_roundw
    case rel=>
     obtain⟨F,o,_,_,_,_,_,s,_,d⟩:=HS.out;exact⟨l2++es,v.set kn true,HG.out.1,HG.out.2.1,o,by rw[Bc];omega,HG.out.2.2⟩
    case measure=>
     obtain⟨F,_,_,_,_,_,_,s,t,_⟩:=HS.out;obtain⟨A9,c9,rfl⟩:=HG.out.1.form;rw[t,zG9 HG.out.2.1];simp only[zHq,Bc];have:=HM.out;omega
end Go.Proofs.YteedihhdcbepmaaGreat
