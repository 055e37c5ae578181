/- What the document's test of a node returns .. -/
import Derived.Test.YteedihhdcbepmaaGreatTsZ
import Derived.Test.YteedihhdcbepmaaGreatTs21
set_option maxRecDepth 100000
set_option maxHeartbeats 12800000
set_option linter.all false
open Go.Value renaming slice→vS,int→vI,string→vT
open Go.IntKind renaming i64→i6
open Go.Proofs.Tryz renaming prog→tP
namespace Go.Proofs.YteedihhdcbepmaaGreat
open Go Go.RowKit
theorem zO9 (k:Nat) (v:Vl) (cs:List Value) (w:World) (h:VS k w w.heap.size v cs) (hkd:zAn v=8):Calls tP 120 #[.agg cs.toArray] w fun e w'=>e=.returned (.bool (nodeV v))/\bW w w':=by
 cases k with
 | zero=>exact h.elim
 | succ k=>
 obtain⟨t,C,r,c,a,d,n⟩:=v;have aG:=xI hkd;clear hkd;obtain⟨uk,uy,ue,ul,rfl,aP,aO,ax,hk,al,he,am⟩:=h;obtain⟨A,cA,rfl,az⟩:=hk.form;obtain⟨Y,cY,rfl,ay⟩:=al.form;obtain⟨E,cE,rfl,aA⟩:=he.form;obtain⟨L,cL,rfl,Z⟩:=am.form;have aW:=xI hk;have aF:=xI al;have aX:=xI he;have aE:=xI am;have ai:=xI (aN ax (aN az (aN ay (aN aA Z))));clear hk al he am aP aO ax az ay aA Z;have HR:Hid (nodeV (.mk t C r c a d n)=(zAj n&&usesB t C r c a d&&kindB t C r c a d)):=xI rfl;generalize nodeV (.mk t C r c a d n)=y at HR ⊢;obtain⟨W,hW⟩:∃ W,W=w.alloc (oV t C ⟨r.toArray⟩ A c.length cA Y a.length cY E d.length cE L n.length cL):=⟨_,rfl⟩;have aB:bW w W:=by rw[hW];exact yR.alloc lR _
 have d0:W.cell? (aH w 0)=some (vI i6 t):=by rw[hW];simp
 have d1:W.cell? (aH w 1)=some (vI i6 C):=by rw[hW];simp
 have d2:W.cell? (aH w 2)=some (vT ⟨r.toArray⟩):=by rw[hW];simp
 have d3:W.cell? (aH w 3)=some (vS A c.length cA):=by rw[hW];simp
 have d4:W.cell? (aH w 4)=some (vS Y a.length cY):=by rw[hW];simp
 have d5:W.cell? (aH w 5)=some (vS E d.length cE):=by rw[hW];simp
 have d6:W.cell? (aH w 6)=some (vS L n.length cL):=by rw[hW];simp
 have H:w.heap.size<W.heap.size:=by rw[hW];simp
 have HB:=xI aB;clear aB;go_enter Tryz.func120,Tryz.ntmps120;go_wp2_with fail;rw[<-hW];clear hW;generalize hnl:n.length=nl at *;have ae:=xI hnl;clear hnl
 go_loopw [3] (fun i wr=>∃ j:Nat,i=vI i6 j/\j<=nl/\zAj (n.take j)=true/\bW W wr) (fun i _=>nl-(intOf i).toNat)
 case atStart=>exact⟨0,rfl,by omega,by simp[zAj,AscC],Bw _ _⟩
 case round=>
  obtain⟨j,rfl,hj,F,hb⟩:=hrel;have s:=xI F;clear F;have e6:wr.cell? (aH w 6)=some (vS L nl cL):=(hb.cell (p:=(aH w 6)) H).trans d6;by_cases hjn:j<nl
  ·have ap:bW w wr:=HB.out.trans (hb.mono HB.out.size);obtain⟨b,o,au,x0,hu,aq,⟨x,hx,R,ah⟩,c0⟩:=(aE.out.on ap (fun _ _ h=>h)).at1 (j:=j) (by have:=ae.out;omega);injection hu with hA hNN hcc;subst hA hcc;clear hNN;simp only[Bb,and_true]at R;subst R;have D:=zA2 ⟨x.toArray⟩ wr.drew (by simpa [ByteArray.size] using ah);rw[show (⟨x.toArray⟩:ByteArray).data.toList=x from rfl]at D;have HX:=xI hx;have HV:=xI hb;have u:=xI ap;have kn:(j:Int)<(nl:Int):=by omega
   have k0:(0:Int)<=(j:Int):=by omega
   have aT:Hid (varB x=varB x):=xI rfl;generalize hvx:varB x=z at D;have O:=xI hvx;clear hx hb ap hvx aT;cases z
   ·have HU:Hid (y=false):=xI (by rw[HR.out,zCd HX.out (.inl O.out)];rfl);go_wp2_with fail;refine Be (S:=fun V=>V.cell? (aH w 6)=some (vS (some (aD b o)) nl cL)/\V.cell? (aD b (o+j))=some (vT ⟨x.toArray⟩)) (by kernel_rfl) ⟨e6,c0⟩ (fun hHeld=>?_);refine oT 0 hHeld ?_
    (iterate 4 refine oY hHeld ?_)
    refine oO 5 fun K hK=>?_;go_simp;refine D.mono ?_;rintro e w2 ⟨rfl,hw2⟩;subst hw2;refine hK _ _ hHeld (oP ?_);refine oT 6 hHeld ?_;refine oT 7 hHeld ?_;refine oU 8 hHeld ?_
    (iterate 15 refine oZ hHeld ?_)
    refine oT 24 hHeld ?_;refine wD ?_;go_wp2;go_ret;exact⟨zAb HU.out.symm,u.out.drew⟩
   ·by_cases hj0:j=0
    ·subst hj0;have P:=xI (zBp HX.out s.out O.out (.inl rfl));have q0:decide ((0:Int)<((0:Nat):Int))=false:=rfl;go_wp2_with fail;refine Be (S:=fun V=>V.cell? (aH w 6)=some (vS (some (aD b o)) nl cL)/\V.cell? (aD b o)=some (vT ⟨x.toArray⟩)) (by kernel_rfl) ⟨e6,by simpa using c0⟩ (fun hHeld=>?_);refine oT 0 hHeld ?_
     (iterate 4 refine oY hHeld ?_)
     refine oO 5 fun K hK=>?_;go_simp;refine D.mono ?_;rintro e w2 ⟨rfl,hw2⟩;subst hw2;refine hK _ _ hHeld (oP ?_);refine oT 6 hHeld ?_
     (iterate 4 refine oY hHeld ?_)
     refine oU 11 hHeld ?_
     (iterate 11 refine oZ hHeld ?_)
     refine oT 23 hHeld ?_;refine oT 24 hHeld ?_;refine wD ?_;go_wp2_with fail
     go_roundw
     case rel=>exact⟨0+1,by go_num,by omega,P.out,HV.out.drew⟩
     case measure=>simp[intOf];omega
    ·obtain⟨m,hm⟩:∃ m,j=m+1:=⟨j-1,by omega⟩;obtain⟨b',ak,ar,x1,hu,_,⟨p,hp,T,aV⟩,c1⟩:=(aE.out.on u.out (fun _ _ h=>h)).at1 (j:=m) (by have:=ae.out;omega);injection hu with hA hNN hcc;injection hA with hA;injection hA with g1 g2;subst g1 g2;clear hNN hcc;simp only[Bb,and_true]at T;subst T;have HP:Hid (n[j-1]?=some p):=xI (by rw[hm,Eu];exact hp);have aw:Hid (0<j):=xI (by omega);have q0:decide (0<j)=true:=by rw[Bf];omega
     have qm:IntKind.i64.wrap ((j:Int)-1)=(m:Int):=by rw[Br _ (by have:=ai.out.2.2.2.2;have:=ae.out;unfold maxLen at *;omega)];omega
     have km:(m:Int)<(nl:Int):=by omega
     have aQ:(0:Int)<=(m:Int):=by omega
     have an:=zF1 p x;generalize hgz:Op.bytesLess p x=g at an;have aJ:=xI an;clear hp hm an hj0;cases g
     ·have HU:Hid (y=false):=xI (by rw[HR.out,zCd HX.out (.inr ⟨aw.out,p,HP.out,by have:=aJ.out;simpa using this.symm⟩)];rfl);go_wp2_with fail;refine Be (S:=fun V=>V.cell? (aH w 6)=some (vS (some (aD b o)) nl cL)/\V.cell? (aD b (o+j))=some (vT ⟨x.toArray⟩)/\V.cell? (aD b (o+m))=some (vT ⟨p.toArray⟩)) (by kernel_rfl) ⟨e6,c0,c1⟩ (fun hHeld=>?_);refine oT 0 hHeld ?_
      (iterate 4 refine oY hHeld ?_)
      refine oO 5 fun K hK=>?_;go_simp;refine D.mono ?_;rintro e w2 ⟨rfl,hw2⟩;subst hw2;refine hK _ _ hHeld (oP ?_);refine oT 6 hHeld ?_
      (iterate 18 refine oY hHeld ?_)
      refine wD ?_;go_wp2;go_ret;exact⟨zAb HU.out.symm,u.out.drew⟩
     ·have P:=xI (zBp HX.out s.out O.out (.inr ⟨p,HP.out,by have:=aJ.out;simpa using this.symm⟩));have qj:IntKind.i64.wrap ((j:Int)+1)=(j:Int)+1:=Br _ (by have:=ai.out.2.2.2.2;have:=ae.out;unfold maxLen at *;omega);go_wp2_with fail;refine Be (S:=fun V=>V.cell? (aH w 6)=some (vS (some (aD b o)) nl cL)/\V.cell? (aD b (o+j))=some (vT ⟨x.toArray⟩)/\V.cell? (aD b (o+m))=some (vT ⟨p.toArray⟩)) (by kernel_rfl) ⟨e6,c0,c1⟩ (fun hHeld=>?_);refine oT 0 hHeld ?_
      (iterate 4 refine oY hHeld ?_)
      refine oO 5 fun K hK=>?_;go_simp;refine D.mono ?_;rintro e w2 ⟨rfl,hw2⟩;subst hw2;refine hK _ _ hHeld (oP ?_);refine oT 6 hHeld ?_
      (iterate 18 refine oY hHeld ?_)
      refine wD ?_;go_wp2_with fail
      go_roundw
      case rel=>exact⟨j+1,by go_num,by omega,P.out,HV.out.drew⟩
      case measure=>simp[intOf];omega
  ·have aU:Hid (zAj n=true):=xI (by
    have ao:n.take j=n:=B8 (by have:=ae.out;omega);rw[<-ao];exact s.out)
   have u:=xI (HB.out.trans (hb.mono HB.out.size));have Q:=xI (Bj H hb.size);have e0:wr.cell? (aH w 0)=some (vI i6 t):=(hb.cell (p:=(aH w 0)) H).trans d0;have e1:wr.cell? (aH w 1)=some (vI i6 C):=(hb.cell (p:=(aH w 1)) H).trans d1;have e2:wr.cell? (aH w 2)=some (vT ⟨r.toArray⟩):=(hb.cell (p:=(aH w 2)) H).trans d2;have e3:wr.cell? (aH w 3)=some (vS A c.length cA):=(hb.cell (p:=(aH w 3)) H).trans d3;have e4:wr.cell? (aH w 4)=some (vS Y a.length cY):=(hb.cell (p:=(aH w 4)) H).trans d4;have e5:wr.cell? (aH w 5)=some (vS E d.length cE):=(hb.cell (p:=(aH w 5)) H).trans d5;clear d0 d1 d2 d3 d4 d5 d6 hb H hj s;have jf:decide ((j:Int)<(nl:Int))=false:=by simp;omega
   have aS:t=8:=aG.out;clear aG;subst aS;have ad:Hid (y=(usesN 8 C r c.length a.length d.length&&kindB 8 C r c a d)):=xI (by rw[HR.out,aU.out,zCr];rfl);clear HR;by_cases hc:C=0
   case neg=>
    have HU:Hid (y=false):=xI (by rw[ad.out];simp[usesN,hc]);have fi:(C != 0)=true:=by simpa using hc
    clear hc;go_wp2;go_ret;exact⟨zAb HU.out.symm,u.out⟩
   have av:=xI hc;have fi:(C != 0)=false:=by simpa using hc
   clear hc;by_cases hc:r=[]
   case neg=>
    have HU:Hid (y=false):=xI (by rw[ad.out];simp[usesN,hc]);have ft:=hc;clear hc;go_wp2;go_ret;exact⟨zAb HU.out.symm,u.out⟩
   have aa:=xI hc;have ft:=hc;clear hc;by_cases hc:d.length=0
   case neg=>
    have HU:Hid (y=false):=xI (by rw[ad.out];simp[usesN,hc]);have J:0<d.length:=by omega
    have I:decide ((0:Int)<(d.length:Int))=true:=by rw[Bf];omega
    clear hc;go_wp2;go_ret;exact⟨zAb HU.out.symm,u.out⟩
   have ab:=xI hc;have J:¬ 0<d.length:=by omega
   have I:decide ((0:Int)<(d.length:Int))=false:=by rw[Cu];omega
   clear hc;have aj:Hid (y=(zA5 (fun x=>keyB x.1 x.2) cmpK a&&decide (a.length=c.length))):=xI (by rw[ad.out];simp[usesN,kindB,zA5,av.out,aa.out,ab.out]);clear ad;generalize hnk:a.length=nk at *;have af:=xI hnk;clear hnk;go_wp2_with fail;clear fi ft J I jf hjn e6;rename World=>X
   go_loopw [7] (fun i w2=>∃ q:Nat,i=vI i6 q/\q<=nk/\zA5 (fun x=>keyB x.1 x.2) cmpK (a.take q)=true/\bW X w2) (fun i _=>nk-(intOf i).toNat)
   case atStart=>exact⟨0,rfl,by omega,by simp[zA5,AscC],Bw _ _⟩
   case round=>
    obtain⟨q,rfl,hq,F,hb⟩:=hrel;have s:=xI F;clear F;have g4:wr.cell? (aH w 4)=some (vS Y nk cY):=(hb.cell (p:=(aH w 4)) Q.out).trans e4;by_cases hqn:q<nk
    ·obtain⟨b,o,au,x0,x1,hu,aq,⟨x,hx,R,aR,ah⟩,c0,c1⟩:=(aF.out.on u.out (fun _ _ h=>h)).at2 (j:=q) (by have:=af.out;omega);injection hu with hA hNN hcc;subst hA hcc;clear hNN aR;simp only[Bb,and_true]at R;obtain⟨rfl,rfl⟩:=R;have aC:b<X.heap.size:=Bj aq u.out.size;have D:Hid (∀ U,Calls tP 116 #[.agg #[vI i6 x.1,vT ⟨x.2.toArray⟩]] U fun e w'=>e=.returned (.bool (keyB x.1 x.2))/\bW U w'):=xI fun U=>zBf x.1 ⟨x.2.toArray⟩ U (by simpa [ByteArray.size] using ah);have HX:=xI hx;have l:=xI hb;have kn:(q:Int)<(nk:Int):=by omega
     have k0:(0:Int)<=(q:Int):=by omega
     generalize hvx:keyB x.1 x.2=z at D;have O:=xI hvx;have G:=xI (aN Q.out aC);have HD:=xI (aN e4 (aN c0 c1));have aY:=xI e3;clear hx hb hvx aq aC ah e0 e1 e2 e3 e4 e5 c0 c1;cases z
     ·have HU:Hid (y=false):=xI (by rw[aj.out,zBl HX.out (.inl O.out)];rfl);have HS:Hid (∀ V,bW X V->V.cell? (aH w 4)=some (vS (some (aD b o)) nk cY)/\V.cell? (aD b (o+q*2))=some (vI i6 x.1)/\V.cell? (aD b (o+q*2+1))=some (vT ⟨x.2.toArray⟩)):=xI fun V hV=>by
       have hz:X.heap.size<=V.heap.size:=hV.size;exact⟨(hV.cell (p:=(aH w 4)) G.out.1).trans HD.out.1,(hV.cell (p:=(aD b _)) G.out.2).trans HD.out.2.1,(hV.cell (p:=(aD b _)) G.out.2).trans HD.out.2.2⟩
      go_wp2_with fail;refine wR HS (by kernel_rfl) (HS.out _ l.out.drew) (fun hHeld=>?_);refine oT 0 hHeld ?_
      (iterate 4 refine oY hHeld ?_)
      refine oO 5 fun K hK=>?_;go_simp;refine (D.out _).mono ?_;rintro e w2 ⟨rfl,hb2⟩;have B:=xI (l.out.drew.trans (hb2.mono l.out.drew.size));have f:=HS.out w2 B.out;refine hK _ _ f (oP ?_);refine oT 6 f ?_;refine oT 7 f ?_;refine oU 8 f ?_
      (iterate 13 refine oZ f ?_)
      refine zAu 22 (by kernel_rfl) rfl (by rfl) f (oP ?_);refine oU 23 f ?_;refine oU 24 f ?_;refine oT 25 f ?_;refine wD ?_;go_wp2;go_ret;exact⟨zAb HU.out.symm,u.out.trans (B.out.mono u.out.size)⟩
     ·by_cases hj0:q=0
      ·subst hj0;have P:=xI (zA1 totK (p:=fun x=>keyB x.1 x.2) HX.out s.out O.out (.inl rfl));have q0:decide ((0:Int)<((0:Nat):Int))=false:=rfl;have HS:Hid (∀ V,bW X V->V.cell? (aH w 4)=some (vS (some (aD b o)) nk cY)/\V.cell? (aD b o)=some (vI i6 x.1)/\V.cell? (aD b (o+1))=some (vT ⟨x.2.toArray⟩)):=xI fun V hV=>by
        have hz:X.heap.size<=V.heap.size:=hV.size;have h1:=(hV.cell (p:=(aD b _)) G.out.2).trans HD.out.2.1;have h2:=(hV.cell (p:=(aD b _)) G.out.2).trans HD.out.2.2;exact⟨(hV.cell (p:=(aH w 4)) G.out.1).trans HD.out.1,by simpa using h1,by simpa using h2⟩
       go_wp2_with fail;refine wR HS (by kernel_rfl) (HS.out _ l.out.drew) (fun hHeld=>?_);refine oT 0 hHeld ?_
       (iterate 4 refine oY hHeld ?_)
       refine oO 5 fun K hK=>?_;go_simp;refine (D.out _).mono ?_;rintro e w2 ⟨rfl,hb2⟩;have B:=xI (l.out.drew.trans (hb2.mono l.out.drew.size));have f:=HS.out w2 B.out;refine hK _ _ f (oP ?_);refine oT 6 f ?_
       (iterate 4 refine oY f ?_)
       refine oU 11 f ?_
       (iterate 10 refine oZ f ?_)
       refine zAu 22 (by kernel_rfl) rfl (by rfl) f (oP ?_);refine oU 23 f ?_;refine oT 24 f ?_;refine oT 25 f ?_;refine wD ?_;go_wp2_with fail
       go_roundw
       case rel=>exact⟨0+1,by go_num,by omega,P.out,B.out⟩
       case measure=>simp[intOf];omega
      ·obtain⟨m,hm⟩:∃ m,q=m+1:=⟨q-1,by omega⟩;obtain⟨b',ak,ar,y0,y1,hu,_,⟨p,hp,T,_,_⟩,d0,d1⟩:=(aF.out.on u.out (fun _ _ h=>h)).at2 (j:=m) (by have:=af.out;omega);injection hu with hA hNN hcc;injection hA with hA;injection hA with g1 g2;subst g1 g2;clear hNN hcc;simp only[Bb,and_true]at T;obtain⟨rfl,rfl⟩:=T;have HP:Hid (a[q-1]?=some p):=xI (by rw[hm,Eu];exact hp);have aw:Hid (0<q):=xI (by omega);have q0:decide (0<q)=true:=by rw[Bf];omega
       have qm:IntKind.i64.wrap ((q:Int)-1)=(m:Int):=by rw[Br _ (by have:=ai.out.2.2.1;have:=af.out;unfold maxLen at *;omega)];omega
       have km:(m:Int)<(nk:Int):=by omega
       have aQ:(0:Int)<=(m:Int):=by omega
       have M:Hid (∀ U,Calls tP 117 #[.agg #[vI i6 p.1,vT ⟨p.2.toArray⟩],.agg #[vI i6 x.1,vT ⟨x.2.toArray⟩]] U fun e w'=>e=.returned (vI i6 (cmpK p x))/\bW U w'):=xI fun U=>zCx p x U;generalize hcz:cmpK p x=cz at M;have aL:=xI hcz;have aK:=xI (aN d0 d1);clear hcz hp hm hj0 d0 d1;have HS:Hid (∀ V,bW X V->V.cell? (aH w 4)=some (vS (some (aD b o)) nk cY)/\V.cell? (aD b (o+q*2))=some (vI i6 x.1)/\V.cell? (aD b (o+q*2+1))=some (vT ⟨x.2.toArray⟩)/\V.cell? (aD b (o+m*2))=some (vI i6 p.1)/\V.cell? (aD b (o+m*2+1))=some (vT ⟨p.2.toArray⟩)):=xI fun V hV=>by
        have hz:X.heap.size<=V.heap.size:=hV.size;exact⟨(hV.cell (p:=(aH w 4)) G.out.1).trans HD.out.1,(hV.cell (p:=(aD b _)) G.out.2).trans HD.out.2.1,(hV.cell (p:=(aD b _)) G.out.2).trans HD.out.2.2,(hV.cell (p:=(aD b _)) G.out.2).trans aK.out.1,(hV.cell (p:=(aD b _)) G.out.2).trans aK.out.2⟩
       by_cases hcg:cz<0
       ·have qg:decide ((0:Int)<=cz)=false:=by rw[Cu];omega
        have P:=xI (zA1 totK (p:=fun x=>keyB x.1 x.2) HX.out s.out O.out (.inr ⟨p,HP.out,by rw[aL.out];exact hcg⟩));have qj:IntKind.i64.wrap ((q:Int)+1)=(q:Int)+1:=Br _ (by have:=ai.out.2.2.1;have:=af.out;unfold maxLen at *;omega);clear hcg;go_wp2_with fail;refine wR HS (by kernel_rfl) (HS.out _ l.out.drew) (fun hHeld=>?_);refine oT 0 hHeld ?_
        (iterate 4 refine oY hHeld ?_)
        refine oO 5 fun K hK=>?_;go_simp;refine (D.out _).mono ?_;rintro e w2 ⟨rfl,hb2⟩;have B:=xI (l.out.drew.trans (hb2.mono l.out.drew.size));have f:=HS.out w2 B.out;refine hK _ _ f (oP ?_);refine oT 6 f ?_
        (iterate 15 refine oY f ?_)
        refine oO 22 fun K hK=>?_;go_simp;refine (M.out w2).mono ?_;rintro e w3 ⟨rfl,hb3⟩;have ag:=xI (B.out.trans (hb3.mono B.out.size));have N:=HS.out w3 ag.out;refine hK _ _ N (oP ?_);refine oT 23 N ?_
        (iterate 2 refine oY N ?_)
        refine wD ?_;go_wp2_with fail
        go_roundw
        case rel=>exact⟨q+1,by go_num,by omega,P.out,ag.out⟩
        case measure=>simp[intOf];omega
       ·have qg:decide ((0:Int)<=cz)=true:=by rw[Bf];omega
        have HU:Hid (y=false):=xI (by rw[aj.out,zBl HX.out (.inr ⟨aw.out,p,HP.out,by rw[aL.out];exact hcg⟩)];rfl);clear hcg;go_wp2_with fail;refine wR HS (by kernel_rfl) (HS.out _ l.out.drew) (fun hHeld=>?_);refine oT 0 hHeld ?_
        (iterate 4 refine oY hHeld ?_)
        refine oO 5 fun K hK=>?_;go_simp;refine (D.out _).mono ?_;rintro e w2 ⟨rfl,hb2⟩;have B:=xI (l.out.drew.trans (hb2.mono l.out.drew.size));have f:=HS.out w2 B.out;refine hK _ _ f (oP ?_);refine oT 6 f ?_
        (iterate 15 refine oY f ?_)
        refine oO 22 fun K hK=>?_;go_simp;refine (M.out w2).mono ?_;rintro e w3 ⟨rfl,hb3⟩;have ag:=xI (B.out.trans (hb3.mono B.out.size));have N:=HS.out w3 ag.out;refine hK _ _ N (oP ?_);refine oT 23 N ?_
        (iterate 2 refine oY N ?_)
        refine wD ?_;go_wp2;go_ret;exact⟨zAb HU.out.symm,u.out.trans (ag.out.mono u.out.size)⟩
    ·have aI:Hid (zA5 (fun x=>keyB x.1 x.2) cmpK a=true):=xI (by
      have ao:a.take q=a:=B8 (by have:=af.out;omega);rw[<-ao];exact s.out)
     have g3:wr.cell? (aH w 3)=some (vS A c.length cA):=(hb.cell (p:=(aH w 3)) Q.out).trans e3;have aM:=xI (u.out.trans (hb.mono u.out.size));clear hb e0 e1 e2 e3 e4 e5 s;by_cases hl:nk=c.length
     ·have HU:Hid (y=true):=xI (by rw[aj.out,aI.out];simp[hl]);have fl:((nk:Int)==(c.length:Int))=true:=by rw[beq_iff_eq];omega
      clear hl;go_wp2;go_ret;exact⟨zAb HU.out.symm,aM.out⟩
     ·have HU:Hid (y=false):=xI (by rw[aj.out,aI.out];simp[hl]);have fl:((nk:Int)==(c.length:Int))=false:=by rw[Cm];omega
      clear hl;go_wp2;go_ret;exact⟨zAb HU.out.symm,aM.out⟩
theorem zGl {t:Ty}{bl:List (List UInt8×Ty)}{A Ab:Option Addr}{c cb:Nat}(w:World) (hT:TyP w w.heap.size t.1 t.2 [vS A t.1.length c,vI i6 t.2]) (hs:SmT 100000 t) (hB:RowP w w.heap.size 3 (vS Ab bl.length cb) bl.length (bndR w w.heap.size bl)) (hbs:∀ x∈bl,SmT 100000 x.2) (hn:bl.length<=5) :
  Calls tP 40 #[.agg #[vS A t.1.length c,vI i6 t.2],vS Ab bl.length cb] w (TyOut 0 w (subT t bl)):=by
 obtain⟨ns,d⟩:=t;dsimp only at hT hs ⊢;obtain⟨W,hW⟩:∃ W,W=((w.alloc (oE A ns.length c d)).alloc (oE none 0 0 0)).alloc (.cells #[vS none 0 0] 101 (0,0)):=⟨_,rfl⟩;have hb:bW w W:=by rw[hW];exact ((yR.alloc lR _).alloc (by simp) _).alloc (by simp;omega) _
 have k0:W.heap[w.heap.size]?=some (oE A ns.length c d):=by rw[hW,Bp _ _ _ (by simp;omega),Bp _ _ _ (by simp)];exact Bl w _
 have kW:W.heap[w.heap.size+1]?=some (oE none 0 0 0):=by rw[hW,Bp _ _ _ (by simp)];exact zAg _ (by simp)
 have kB:W.heap[w.heap.size+1+1]?=some (.cells #[vS none 0 0] 101 (0,0)):=by rw[hW];exact zAg _ (by simp)
 have C:W.heap.size=w.heap.size+3:=by rw[hW];simp
 have ai:=zEb W ((TyB.on hT hb).up hb.size) (Ba hs.1 (by decide));have az:=zIb (t:=(ns,d)) (zMl hT);have av:=zMp (t:=(ns,d)) (l:=bl) (n:=100000) (by decide) hs hbs;have I:∀ j,SbOk (sbS (vnm (ns,d)) (bl.take j)) 500000:=fun j=>by
  have h:=zQ3 (nm:=vnm (ns,d)) (n:=100000) (by decide) (bl.take j) fun x hx=>hbs x (Ey hx);have h2:(bl.take j).length<=5:=by rw[Bg];omega
  have h3:(bl.take j).length*100000<=5*100000:=Di _ h2;exact⟨h.ok,h.rt,⟨by have:=h.sm.1;omega,h.sm.2⟩⟩
 have R:Asc (vnm (ns,d)):=zD2 _;have B:subT (ns,d) bl=gr (sbS (vnm (ns,d)) bl).2 (accT (ns,d)) (sbS (vnm (ns,d)) bl).1:=rfl;rw[show srt (varL (accT (ns,d)).1 (visR (accT (ns,d)).1 (accT (ns,d)).2.toNat))=vnm (ns,d)from rfl]at ai;have aw:(vnm (ns,d)).length<=1000000000:=by
  have h1:=zB4 (varL (accT (ns,d)).1 (visR (accT (ns,d)).1 (accT (ns,d)).2.toNat));have h2:(varL (accT (ns,d)).1 (visR (accT (ns,d)).1 (accT (ns,d)).2.toNat)).length<=(visR (accT (ns,d)).1 (accT (ns,d)).2.toNat).length:=by unfold varL;rw[Bk];exact El _ _
  have h3:=zFb (zCi (ns,d));have h4:=(zC5 hs (by decide)).1;show (srt _).length<=_;omega
 generalize subT (ns,d) bl=TT at *;generalize vnm (ns,d)=nm at *;obtain⟨e0,e1⟩:=zAf k0;rw[hW]at e0 e1;have HP:=xI (aN hT (aN hs (aN hB (aN hbs (aN hn (aN az (aN av (aN I (aN R (aN aw B))))))))));have HW:=xI (aN hb (aN k0 (aN kW (aN kB C))));clear hT hs hB hbs hn az av I R aw B hb k0 kW kB C;go_enter Tryz.func40,Tryz.ntmps40;go_wp2_with fail;rw[<-hW];clear hW e0 e1;refine ai.mono ?_;rintro e w1 ⟨vn,rfl,hon,hb1⟩;clear ai;obtain⟨An,cn,rfl⟩:=hon.form;have aX:=run_makeMap (P:=tP) 114 w1;obtain⟨w2,ae,E,_,ar⟩:=aW w1 (.map #[] 0);have aR:MapS w2 w1.heap.size 0 (fun _=>none):=by rw[ae];exact MapS.made w1
 have ad:=hb1.size;have C:=HW.out.2.2.2.2;have J:bW W w2:=hb1.trans (E.mono ad);have Q:w.heap.size+1+1<w1.heap.size/\w1.heap.size<w2.heap.size:=⟨by omega,by omega⟩;have aP:SB w2 w2 (w.heap.size+1+1) w1.heap.size w2.heap.size (vS none 0 0) [] (sbS nm (bl.take 0)) 0:=
  ⟨(J.block _ (by omega)).trans HW.out.2.2.2.1,OwnE.nil _ _ _ _ _,NdsB.nil _ _,(fun g hg=>by simp[Value.ownBlock]at hg),aR,Bc _,Bw _ _,fun _ _ _ _=>rfl⟩
 have HN:=xI (aN hon (aN J (aN Q (aN ad (aN ar E)))));have aY:=xI aP;rw[<-ae]at aX;clear aR E ar ad C J Q aP hon hb1 ae;go_wp2_with fail
 go_loopw [19] (fun iv wr=>∃ (j:Nat) (v:Value) (aS:List (List Value)) (n:Nat),iv=vI i6 j/\j<=bl.length/\n<=j/\SB w2 wr (w.heap.size+1+1) w1.heap.size w2.heap.size v aS (sbS nm (bl.take j)) n) (fun i _=>((bl.length:Int)-intOf i).toNat)
 case atStart=>exact⟨0,_,_,0,rfl,Bt _,Bc _,aY.out⟩
 case round=>
  obtain⟨j,v,aS,n,rfl,hj,a1,m⟩:=hrel;have o:=xI m;clear m;by_cases hlt:j<bl.length
  ·have mp:(j:Int)<(bl.length:Int):=by omega
   have aZ:(0:Int)<=(j:Int):=by omega
   have a0:IntKind.i64.wrap ((j:Int)+1)=(j:Int)+1:=Br _ (by have:=HP.out.2.2.2.2.1;omega);have hc:w.heap.size+1+1<w1.heap.size/\w1.heap.size<w2.heap.size:=HN.out.2.2.1;have C:=HW.out.2.2.2.2;have k:∀ b,b<w.heap.size->wr.heap[b]?=w.heap[b]?:=fun b hb=>(o.out.blk b (by omega) (by omega) (by omega)).trans ((HN.out.2.1.block b (by omega)).trans (HW.out.1.block b hb));obtain⟨bd,od,a2,x0,x1,x2,hu,Y,⟨s,u,ag,Au,cu,aG,ay,aJ⟩,d0,d1,d2⟩:=RowB.at3 HP.out.2.2.1 hlt;injection hu with hA h1 h2;clear h1;subst hA h2;simp only[Bb,and_true]at aG;obtain⟨rfl,rfl,rfl⟩:=aG;replace d0:=(Bi (a:=(aD bd _)) (k bd Y)).trans d0;replace d1:=(Bi (a:=(aD bd _)) (k bd Y)).trans d1;replace d2:=(Bi (a:=(aD bd _)) (k bd Y)).trans d2;obtain⟨X,hX,aj,kX,ap⟩:=aW wr (.cells #[vT ⟨s.toArray⟩,vS Au u.1.length cu,vI i6 u.2] 76 (0,0))
   have al:=o.out.below hc aj;have aC:NmS X X.heap.size An nm.length nm:=(OwnN.stay HN.out.1 fun g hg hl=>(al.blk g (by omega) (by omega) (by omega)).trans (HN.out.2.2.2.2.2.block g hl)).rng HP.out.2.2.2.2.2.1;have hbs:=zJ8 An nm.length cn nm s X X.heap.size aC HP.out.2.2.2.2.2.2.2.2.1 HP.out.2.2.2.2.2.2.2.2.2.1;have S:TyP X w.heap.size u.1 u.2 [vS Au u.1.length cu,vI i6 u.2]:=aJ.keep ⟨by have:=o.out.siz;omega,fun b i hb hl=>Bi ((aj.block b (by have:=o.out.siz;omega)).trans (k b hb))⟩;have N:sbS nm (bl.take (j+1))=stp nm (sbS nm (bl.take j)) (s,u):=by
    rw[Cr,ag];exact zO5 _ _ _
   have ax:=HP.out.2.2.2.1 (s,u) (Bh ag);have O:=HP.out.2.2.2.2.2.2.2.1 j;have HX:=xI (aN al (aN kX (aN ap (aN S (aN ay (aN ax O))))));generalize sbS nm (bl.take j)=st at *;have aT:=xI N;clear aj kX ap al aC S N ax O aJ ay ag k C Y;go_wp2_with fail;rw[<-hX];clear hX d0 d1 d2;refine hbs.mono ?_;rintro e w4 ⟨kk,rfl,q,hw4⟩;clear hbs;have aa:bW X w4:=by rw[hw4];exact zA0 yR _
   have am:=HX.out.1.below hc aa;have k4:=(aa.block wr.heap.size (by have:=HX.out.2.2.1;omega)).trans HX.out.2.1;have y:=am.map.look s HX.out.2.2.2.2.1;obtain⟨c0,c1,c2⟩:w4.cell? (aH wr 0)=some (vT ⟨s.toArray⟩)/\w4.cell? (aH wr 1)=some (vS Au u.1.length cu)/\w4.cell? (aH wr 2)=some (vI i6 u.2):=⟨cH k4 0,cH k4 1,cH k4 2⟩;have H4:=xI (aN am (aN k4 aa));clear am k4 aa hw4;by_cases hcase:s∈nm/\st.2 s=none
   case neg=>
    have an:Hid (sbS nm (bl.take (j+1))=st):=xI (by rw[aT.out];unfold stp;rw[if_neg hcase]);by_cases hmem:s∈nm
    case' pos=>
     have T:decide (s∈nm)=true:=C8 hmem;obtain⟨pv,hf⟩:∃ pv,st.2 s=some pv:=by
      cases hf:st.2 s with
      | none=>exact absurd ⟨hmem,hf⟩ hcase
      | some pv=>exact⟨pv,rfl⟩
     rw[hf]at y;replace y:(Instr.lookup 114 (.map (some w1.heap.size)) (vT ⟨s.toArray⟩) true).run tP w4=.ok (.tuple #[vI i6 pv,.bool true]) w4:=y;clear hcase hmem hf;go_wp2_with fail
    case' neg=>
     have T:decide (s∈nm)=false:=Ci hmem;obtain⟨fo,aF⟩:∃ fo,fo=st.2 s:=⟨_,rfl⟩;rw[<-aF]at y;generalize fo.getD 0=pv at y;generalize fo.isSome=pb at y;clear hcase hmem aF;go_wp2_with fail
    all_goals (
     clear y c0 c1 c2 T
     go_roundw
     case rel=>exact⟨j+1,_,_,n,by go_num,by omega,by omega,by rw[an.out];exact H4.out.1⟩
     case measure=>simp[intOf];omega)
   case pos=>
    have T:decide (s∈nm)=true:=C8 hcase.1;rw[hcase.2]at y;replace y:(Instr.lookup 114 (.map (some w1.heap.size)) (vT ⟨s.toArray⟩) true).run tP w4=.ok (.tuple #[vI i6 0,.bool false]) w4:=y;have an:Hid (sbS nm (bl.take (j+1))=((gr (fun _=>none) (accT u) st.1).1,fun z=>if z=s then some (gr (fun _=>none) (accT u) st.1).2 else st.2 z)):=xI (by rw[aT.out];unfold stp;rw[if_pos hcase]);clear hcase;go_wp2_with fail;clear y c0 c1 c2 T;have hd:bW w4 w4.drew:=yR.drew;have HQ:Hid (∀ wq,bW w4 wq->wq.cell? (aH wr 0)=some (vT ⟨s.toArray⟩)/\wq.cell? (aH wr 1)=some (vS Au u.1.length cu)/\wq.cell? (aH wr 2)=some (vI i6 u.2)):=xI fun wq h=>by
     have kq:=(h.block wr.heap.size (by have:=H4.out.2.2.size;have:=HX.out.2.2.1;omega)).trans H4.out.2.1;exact⟨cH kq 0,cH kq 1,cH kq 2⟩
    have F:=H4.out.1.below hc hd;have ab:=F.siz;have aL:TyP w4.drew w.heap.size u.1 u.2 [vS Au u.1.length cu,vI i6 u.2]:=HX.out.2.2.2.1.keep ⟨by have:=H4.out.2.2.size;have:=hd.size;omega,fun b i hb hl=>Bi ((hd.block b (by have:=H4.out.2.2.size;omega)).trans (H4.out.2.2.block b hl))⟩;have L:=zEl (H:=w.heap.size) (Z:=w2.heap.size) (bb:=w.heap.size+1+1) (base:=w2.heap.size) w4.drew aL (Ba HX.out.2.2.2.2.2.1.1 (by decide)) HX.out.2.2.2.2.2.1.2 ⟨by omega,by omega,by omega,ab⟩ (fun e=>by have:=F.ob _ e;omega) ab F.box F.own F.nds (by have:=F.nds.1;have:=HX.out.2.2.2.2.2.2.sm.1;omega);have aE:=HX.out.2.2.2.2.2.2.gr (f:=fun _=>none) HX.out.2.2.2.2.2.1 (by decide) (fun s p h=>by cases h);have D:v.ownBlock≠some wr.heap.size:=fun e=>by have:=(OwnE.ltB o.out.own e).2;omega
    generalize gr (fun _=>none) (accT u) st.1=G at *;obtain⟨G1,G2⟩:=G;have HG:=xI (aN aE (aN F D));clear aE F ab aL D;refine wR HQ (by kernel_rfl) (HQ.out _ hd) (fun _=>?_);refine oT 0 (HQ.out _ hd) ?_
    (iterate 4 refine oY (HQ.out _ hd) ?_)
    refine oO 5 fun K hK=>?_;go_simp;refine L.mono ?_;rintro e w5 ⟨rfl,v5,css5,hG5⟩;clear L;have M:=HG.out.2.1.graft hc hG5;have k5:w5.heap[wr.heap.size]?=some (.cells #[vT ⟨s.toArray⟩,vS Au u.1.length cu,vI i6 u.2] 76 (0,0)):=(hG5.vk.blk wr.heap.size (by have:=H4.out.2.2.size;have:=HX.out.2.2.1;have:=hd.size;omega) (by have:=o.out.siz;omega) (by have:=o.out.siz;omega) HG.out.2.2).trans ((hd.block _ (by have:=H4.out.2.2.size;have:=HX.out.2.2.1;omega)).trans H4.out.2.1);obtain⟨w6,af,aQ,ah⟩:=M.map.put (by have:=HP.out.2.2.2.2.1;unfold maxLen;omega) s HX.out.2.2.2.2.1 G2 (WalkArith.wf_i64 (by have:=HG.out.1.2.1;have:=HG.out.1.2.2.1;dsimp only at *;omega));have aO:=M.put hc aQ ah;have k6:=(ah.block wr.heap.size (Cv.1 k5).1 (by have:=o.out.siz;intro e;injection e;omega)).trans k5;have q5:w5.cell? (aH wr 0)=some (vT ⟨s.toArray⟩)/\w5.cell? (aH wr 1)=some (vS Au u.1.length cu)/\w5.cell? (aH wr 2)=some (vI i6 u.2):=⟨cH k5 0,cH k5 1,cH k5 2⟩;have q6:w6.cell? (aH wr 0)=some (vT ⟨s.toArray⟩)/\w6.cell? (aH wr 1)=some (vS Au u.1.length cu)/\w6.cell? (aH wr 2)=some (vI i6 u.2):=⟨cH k6 0,cH k6 1,cH k6 2⟩;have H6:=xI aO;clear M hG5 k5 k6 aQ ah aO;refine hK _ _ q5 (oP ?_);clear hK K q5;refine oO 6 fun K hK=>?_;go_simp;refine hK _ _ q6 (oP ?_);clear hK K q6 af;refine wD ?_;go_wp2
    go_roundw
    case rel=>exact⟨j+1,_,_,n+1,by go_num,by omega,by omega,by rw[an.out];exact H6.out⟩
    case measure=>simp[intOf];omega
  ·obtain rfl:j=bl.length:=by omega
   have mp:¬ ((bl.length:Nat):Int)<(bl.length:Int):=by omega
   have hc:w.heap.size+1+1<w1.heap.size/\w1.heap.size<w2.heap.size:=HN.out.2.2.1;have C:=HW.out.2.2.2.2;have k:∀ b,b<w.heap.size+2->wr.heap[b]?=W.heap[b]?:=fun b hb=>(o.out.blk b (by omega) (by omega) (by omega)).trans (HN.out.2.1.block b (by omega));have k0:=(k w.heap.size (by omega)).trans HW.out.2.1;have kR:=(k (w.heap.size+1) (by omega)).trans HW.out.2.2.1;obtain⟨e0,e1⟩:=zAf k0;have aK:TyP wr w.heap.size ns d [vS A ns.length c,vI i6 d]:=HP.out.1.keep ⟨by have:=o.out.siz;omega,fun b i hb hl=>Bi ((k b (by omega)).trans (HW.out.1.block b hl))⟩;have I:=HP.out.2.2.2.2.2.2.2.1 bl.length;have m:=o.out;rw[Ek]at I m;have B:=HP.out.2.2.2.2.2.2.2.2.2.2;generalize sbS nm bl=st at *;have L:=zNq (f:=st.2) (mB:=fun b=>b=w1.heap.size) (im:=.map (some w1.heap.size)) (H:=w.heap.size) (Z:=w2.heap.size) (bb:=w.heap.size+1+1) (base:=w2.heap.size) wr aK (Ba HP.out.2.1.1 (by decide)) HP.out.2.1.2 ⟨by omega,by have:=m.siz;omega,by omega,m.siz⟩ (fun e=>by have:=m.ob _ e;omega) m.siz m.box m.own m.nds (by have:=m.nds.1;have:=I.sm.1;omega)
    ⟨I.rt,fun b hb=>⟨by rw[hb];have:=m.siz;omega,by rw[hb];omega,fun e=>by rw[hb]at e;have:=m.ob _ e;omega⟩⟩ (fun s U hs hU=>(m.map.kept (hU _ rfl)).look s hs)
   rw[<-B]at L;have au:=HP.out.2.2.2.2.2.2.1;have HE:=xI (aN m (aN kR au));clear k k0 kR aK I m B au o;go_wp2_with fail;clear e0 e1;refine L.mono ?_;rintro e w5 ⟨rfl,v5,css5,hG5⟩;clear L;have M:=HE.out.1.graft hc hG5;have aV:TT.1.length<=600000:=by
    have h1:=HE.out.2.2.2.1;have h2:(bl.length+1)*100000<=6*100000:=Di _ (by have:=HP.out.2.2.2.2.1;omega);omega
   have aU:=HE.out.2.2.1.rt;obtain⟨A5,c5,rfl,aM⟩:=hG5.type lR (by unfold maxLen;omega) (r:=TT.2) (zB3 (by omega) (by omega));have aI:=zDh A5 TT.1.length c5 (w.heap.size+1+1) TT.2 w5 (cH hG5.box 0);have ak:Below (w.heap.size+1+1) wr w5:=hG5.vk.below lR lR (fun g h=>by have:=HE.out.1.ob g h;omega) (by have:=HE.out.1.siz;omega);have ao:=(ak.block (w.heap.size+1) (by omega)).trans HE.out.2.1;have HT:=xI (aN aM (aN ak (aN ao M.siz)));clear hG5 aM aV aU ak ao M;go_wp2_with fail;refine aI.mono ?_;rintro e w6 ⟨rfl,hb6⟩;clear aI;have aq:=HT.out.2.1.size;have aB:=HT.out.2.2.2;have aA:=HE.out.1.siz;have kz:=(hb6.block (w.heap.size+1) (by omega)).trans HT.out.2.2.1;have f0:=Bz kz 0;have f1:=Bz kz 1;have c0:=cH kz 0;have c1:=cH kz 1;have HB:=xI (aN hb6 (aN C (aN aq (aN aB aA))));clear hb6 C aq aB aA;go_wp2;refine ret2s kz rfl rfl rfl fun V hz hbb hl=>⟨⟨_,_,rfl,?_⟩,?_⟩
   ·refine (HT.out.1.keep (w':=V) ⟨by have:=HB.out.1.size;omega,fun b i E hl2=>Bi ((hbb b (by have:=E.2;omega)).trans (HB.out.1.block b hl2))⟩).sub fun b E=>?_;exact .inr ⟨by have:=E.2;omega,by have:=HB.out.1.size;have:=E.1;omega⟩
   ·have hn:=HN.out;have hB:=HB.out;have h1:bW w wr:=(HW.out.1.trans (hn.2.1.mono (by omega))).trans (HE.out.1.low.mono (by omega));exact ((h1.trans (HT.out.2.1.mono (by omega))).trans (hB.1.mono (by have:=h1.size;omega))).trans (hl _ (by omega))
end Go.Proofs.YteedihhdcbepmaaGreat
