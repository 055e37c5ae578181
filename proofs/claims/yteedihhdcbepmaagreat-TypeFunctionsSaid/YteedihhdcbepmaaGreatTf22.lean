/- What the document's test of a node returns .. -/
import Derived.Test.YteedihhdcbepmaaGreatTfZ
import Derived.Test.YteedihhdcbepmaaGreatTf19
set_option maxRecDepth 100000
set_option maxHeartbeats 12800000
set_option linter.all false
open Go.Value renaming slice→vS,int→vI,string→vT
open Go.IntKind renaming i64→i6
open Go.Proofs.Tryz renaming prog→tP
namespace Go.Proofs.YteedihhdcbepmaaGreat
open Go Go.RowKit
theorem zN3 (k:Nat) (v:Vl) (cs:List Value) (w:World) (h:VS k w w.heap.size v cs) (hkd:zAl v=8):Calls tP 120 #[.agg cs.toArray] w fun e w'=>e=.returned (.bool (nodeV v))/\bW w w':=by
 cases k with
 | zero=>exact h.elim
 | succ k=>
 obtain⟨t,C,r,c,a,d,n⟩:=v;have aG:=xI hkd;clear hkd;obtain⟨uk,uy,ue,ul,rfl,aP,aO,ax,hk,al,he,am⟩:=h;obtain⟨A,cA,rfl,az⟩:=hk.form;obtain⟨Y,cY,rfl,ay⟩:=al.form;obtain⟨E,cE,rfl,aA⟩:=he.form;obtain⟨L,cL,rfl,Z⟩:=am.form;have aW:=xI hk;have aF:=xI al;have aX:=xI he;have aE:=xI am;have ai:=xI (aN ax (aN az (aN ay (aN aA Z))));clear hk al he am aP aO ax az ay aA Z;have HR:Hid (nodeV (.mk t C r c a d n)=(zAj n&&usesB t C r c a d&&kindB t C r c a d)):=xI rfl;generalize nodeV (.mk t C r c a d n)=y at HR ⊢;obtain⟨W,hW⟩:∃ W,W=w.alloc (oV t C ⟨r.toArray⟩ A c.length cA Y a.length cY E d.length cE L n.length cL):=⟨_,rfl⟩;have aB:bW w W:=by rw[hW];exact yR.alloc lR _
 have d0:W.cell? (aH w 0)=some (vI i6 t):=by rw[hW];simp
 have d1:W.cell? (aH w 1)=some (vI i6 C):=by rw[hW];simp
 have d2:W.cell? (aH w 2)=some (vT ⟨r.toArray⟩):=by rw[hW];simp
 have d3:W.cell? (aH w 3)=some (vS A c.length cA):=by rw[hW];simp
 have d4:W.cell? (aH w 4)=some (vS Y a.length cY):=by rw[hW];simp
 have d5:W.cell? (aH w 5)=some (vS E d.length cE):=by rw[hW];simp
 have d6:W.cell? (aH w 6)=some (vS L n.length cL):=by rw[hW];simp
 have H:w.heap.size<W.heap.size:=by rw[hW];simp
 have HB:=xI aB;clear aB;go_enter Tryz.func120,Tryz.ntmps120;go_wp2_with fail;rw[<-hW];clear hW;generalize hnl:n.length=nl at *;have ae:=xI hnl;clear hnl
 go_loopw [3] (fun i wr=>∃ j:Nat,i=vI i6 j/\j<=nl/\zAj (n.take j)=true/\bW W wr) (fun i _=>nl-(intOf i).toNat)
 case atStart=>exact⟨0,rfl,by omega,by simp[zAj,AscC],By _ _⟩
 case round=>
  obtain⟨j,rfl,hj,F,hb⟩:=hrel;have s:=xI F;clear F;have e6:wr.cell? (aH w 6)=some (vS L nl cL):=(hb.cell (p:=(aH w 6)) H).trans d6;by_cases hjn:j<nl
  ·have ap:bW w wr:=HB.out.trans (hb.mono HB.out.size);obtain⟨b,o,au,x0,hu,aq,⟨x,hx,R,ah⟩,c0⟩:=(aE.out.on ap (fun _ _ h=>h)).at1 (j:=j) (by have:=ae.out;omega);injection hu with hA hNN hcc;subst hA hcc;clear hNN;simp only[Bc,and_true]at R;subst R;have D:=zBj ⟨x.toArray⟩ wr.drew (by simpa [ByteArray.size] using ah);rw[show (⟨x.toArray⟩:ByteArray).data.toList=x from rfl]at D;have HX:=xI hx;have HV:=xI hb;have u:=xI ap;have kn:(j:Int)<(nl:Int):=by omega
   have k0:(0:Int)<=(j:Int):=by omega
   have aT:Hid (varB x=varB x):=xI rfl;generalize hvx:varB x=z at D;have O:=xI hvx;clear hx hb ap hvx aT;cases z
   ·have HU:Hid (y=false):=xI (by rw[HR.out,zCa HX.out (.inl O.out)];rfl);go_wp2_with fail;refine Bf (S:=fun V=>V.cell? (aH w 6)=some (vS (some (aD b o)) nl cL)/\V.cell? (aD b (o+j))=some (vT ⟨x.toArray⟩)) (by kernel_rfl) ⟨e6,c0⟩ (fun hHeld=>?_);refine oT 0 hHeld ?_
    (iterate 4 refine oY hHeld ?_)
    refine oO 5 fun K hK=>?_;go_simp;refine D.mono ?_;rintro e w2 ⟨rfl,hw2⟩;subst hw2;refine hK _ _ hHeld (oP ?_);refine oT 6 hHeld ?_;refine oT 7 hHeld ?_;refine oU 8 hHeld ?_
    (iterate 15 refine oZ hHeld ?_)
    refine oT 24 hHeld ?_;refine wD ?_;go_wp2;go_ret;exact⟨zAb HU.out.symm,u.out.drew⟩
   ·by_cases hj0:j=0
    ·subst hj0;have P:=xI (zBo HX.out s.out O.out (.inl rfl));have q0:decide ((0:Int)<((0:Nat):Int))=false:=rfl;go_wp2_with fail;refine Bf (S:=fun V=>V.cell? (aH w 6)=some (vS (some (aD b o)) nl cL)/\V.cell? (aD b o)=some (vT ⟨x.toArray⟩)) (by kernel_rfl) ⟨e6,by simpa using c0⟩ (fun hHeld=>?_);refine oT 0 hHeld ?_
     (iterate 4 refine oY hHeld ?_)
     refine oO 5 fun K hK=>?_;go_simp;refine D.mono ?_;rintro e w2 ⟨rfl,hw2⟩;subst hw2;refine hK _ _ hHeld (oP ?_);refine oT 6 hHeld ?_
     (iterate 4 refine oY hHeld ?_)
     refine oU 11 hHeld ?_
     (iterate 11 refine oZ hHeld ?_)
     refine oT 23 hHeld ?_;refine oT 24 hHeld ?_;refine wD ?_;go_wp2_with fail
     go_roundw
     case rel=>exact⟨0+1,by go_num,by omega,P.out,HV.out.drew⟩
     case measure=>simp[intOf];omega
    ·obtain⟨m,hm⟩:∃ m,j=m+1:=⟨j-1,by omega⟩;obtain⟨b',ak,ar,x1,hu,_,⟨p,hp,T,aV⟩,c1⟩:=(aE.out.on u.out (fun _ _ h=>h)).at1 (j:=m) (by have:=ae.out;omega);injection hu with hA hNN hcc;injection hA with hA;injection hA with g1 g2;subst g1 g2;clear hNN hcc;simp only[Bc,and_true]at T;subst T;have HP:Hid (n[j-1]?=some p):=xI (by rw[hm,Et];exact hp);have aw:Hid (0<j):=xI (by omega);have q0:decide (0<j)=true:=by rw[Be];omega
     have qm:IntKind.i64.wrap ((j:Int)-1)=(m:Int):=by rw[Br _ (by have:=ai.out.2.2.2.2;have:=ae.out;unfold maxLen at *;omega)];omega
     have km:(m:Int)<(nl:Int):=by omega
     have aQ:(0:Int)<=(m:Int):=by omega
     have an:=zFt p x;generalize hgz:Op.bytesLess p x=g at an;have aJ:=xI an;clear hp hm an hj0;cases g
     ·have HU:Hid (y=false):=xI (by rw[HR.out,zCa HX.out (.inr ⟨aw.out,p,HP.out,by have:=aJ.out;simpa using this.symm⟩)];rfl);go_wp2_with fail;refine Bf (S:=fun V=>V.cell? (aH w 6)=some (vS (some (aD b o)) nl cL)/\V.cell? (aD b (o+j))=some (vT ⟨x.toArray⟩)/\V.cell? (aD b (o+m))=some (vT ⟨p.toArray⟩)) (by kernel_rfl) ⟨e6,c0,c1⟩ (fun hHeld=>?_);refine oT 0 hHeld ?_
      (iterate 4 refine oY hHeld ?_)
      refine oO 5 fun K hK=>?_;go_simp;refine D.mono ?_;rintro e w2 ⟨rfl,hw2⟩;subst hw2;refine hK _ _ hHeld (oP ?_);refine oT 6 hHeld ?_
      (iterate 18 refine oY hHeld ?_)
      refine wD ?_;go_wp2;go_ret;exact⟨zAb HU.out.symm,u.out.drew⟩
     ·have P:=xI (zBo HX.out s.out O.out (.inr ⟨p,HP.out,by have:=aJ.out;simpa using this.symm⟩));have qj:IntKind.i64.wrap ((j:Int)+1)=(j:Int)+1:=Br _ (by have:=ai.out.2.2.2.2;have:=ae.out;unfold maxLen at *;omega);go_wp2_with fail;refine Bf (S:=fun V=>V.cell? (aH w 6)=some (vS (some (aD b o)) nl cL)/\V.cell? (aD b (o+j))=some (vT ⟨x.toArray⟩)/\V.cell? (aD b (o+m))=some (vT ⟨p.toArray⟩)) (by kernel_rfl) ⟨e6,c0,c1⟩ (fun hHeld=>?_);refine oT 0 hHeld ?_
      (iterate 4 refine oY hHeld ?_)
      refine oO 5 fun K hK=>?_;go_simp;refine D.mono ?_;rintro e w2 ⟨rfl,hw2⟩;subst hw2;refine hK _ _ hHeld (oP ?_);refine oT 6 hHeld ?_
      (iterate 18 refine oY hHeld ?_)
      refine wD ?_;go_wp2_with fail
      go_roundw
      case rel=>exact⟨j+1,by go_num,by omega,P.out,HV.out.drew⟩
      case measure=>simp[intOf];omega
  ·have aU:Hid (zAj n=true):=xI (by
    have ao:n.take j=n:=Cz (by have:=ae.out;omega);rw[<-ao];exact s.out)
   have u:=xI (HB.out.trans (hb.mono HB.out.size));have Q:=xI (Bl H hb.size);have e0:wr.cell? (aH w 0)=some (vI i6 t):=(hb.cell (p:=(aH w 0)) H).trans d0;have e1:wr.cell? (aH w 1)=some (vI i6 C):=(hb.cell (p:=(aH w 1)) H).trans d1;have e2:wr.cell? (aH w 2)=some (vT ⟨r.toArray⟩):=(hb.cell (p:=(aH w 2)) H).trans d2;have e3:wr.cell? (aH w 3)=some (vS A c.length cA):=(hb.cell (p:=(aH w 3)) H).trans d3;have e4:wr.cell? (aH w 4)=some (vS Y a.length cY):=(hb.cell (p:=(aH w 4)) H).trans d4;have e5:wr.cell? (aH w 5)=some (vS E d.length cE):=(hb.cell (p:=(aH w 5)) H).trans d5;clear d0 d1 d2 d3 d4 d5 d6 hb H hj s;have jf:decide ((j:Int)<(nl:Int))=false:=by simp;omega
   have aS:t=8:=aG.out;clear aG;subst aS;have ad:Hid (y=(usesN 8 C r c.length a.length d.length&&kindB 8 C r c a d)):=xI (by rw[HR.out,aU.out,zCm];rfl);clear HR;by_cases hc:C=0
   case neg=>
    have HU:Hid (y=false):=xI (by rw[ad.out];simp[usesN,hc]);have fi:(C != 0)=true:=by simpa using hc
    clear hc;go_wp2;go_ret;exact⟨zAb HU.out.symm,u.out⟩
   have av:=xI hc;have fi:(C != 0)=false:=by simpa using hc
   clear hc;by_cases hc:r=[]
   case neg=>
    have HU:Hid (y=false):=xI (by rw[ad.out];simp[usesN,hc]);have ft:=hc;clear hc;go_wp2;go_ret;exact⟨zAb HU.out.symm,u.out⟩
   have aa:=xI hc;have ft:=hc;clear hc;by_cases hc:d.length=0
   case neg=>
    have HU:Hid (y=false):=xI (by rw[ad.out];simp[usesN,hc]);have J:0<d.length:=by omega
    have I:decide ((0:Int)<(d.length:Int))=true:=by rw[Be];omega
    clear hc;go_wp2;go_ret;exact⟨zAb HU.out.symm,u.out⟩
   have ab:=xI hc;have J:¬ 0<d.length:=by omega
   have I:decide ((0:Int)<(d.length:Int))=false:=by rw[Cw];omega
   clear hc;have aj:Hid (y=(zA4 (fun x=>keyB x.1 x.2) cmpK a&&decide (a.length=c.length))):=xI (by rw[ad.out];simp[usesN,kindB,zA4,av.out,aa.out,ab.out]);clear ad;generalize hnk:a.length=nk at *;have af:=xI hnk;clear hnk;go_wp2_with fail;clear fi ft J I jf hjn e6;rename World=>X
   go_loopw [7] (fun i w2=>∃ q:Nat,i=vI i6 q/\q<=nk/\zA4 (fun x=>keyB x.1 x.2) cmpK (a.take q)=true/\bW X w2) (fun i _=>nk-(intOf i).toNat)
   case atStart=>exact⟨0,rfl,by omega,by simp[zA4,AscC],By _ _⟩
   case round=>
    obtain⟨q,rfl,hq,F,hb⟩:=hrel;have s:=xI F;clear F;have g4:wr.cell? (aH w 4)=some (vS Y nk cY):=(hb.cell (p:=(aH w 4)) Q.out).trans e4;by_cases hqn:q<nk
    ·obtain⟨b,o,au,x0,x1,hu,aq,⟨x,hx,R,aR,ah⟩,c0,c1⟩:=(aF.out.on u.out (fun _ _ h=>h)).at2 (j:=q) (by have:=af.out;omega);injection hu with hA hNN hcc;subst hA hcc;clear hNN aR;simp only[Bc,and_true]at R;obtain⟨rfl,rfl⟩:=R;have aC:b<X.heap.size:=Bl aq u.out.size;have D:Hid (∀ U,Calls tP 116 #[.agg #[vI i6 x.1,vT ⟨x.2.toArray⟩]] U fun e w'=>e=.returned (.bool (keyB x.1 x.2))/\bW U w'):=xI fun U=>zBe x.1 ⟨x.2.toArray⟩ U (by simpa [ByteArray.size] using ah);have HX:=xI hx;have l:=xI hb;have kn:(q:Int)<(nk:Int):=by omega
     have k0:(0:Int)<=(q:Int):=by omega
     generalize hvx:keyB x.1 x.2=z at D;have O:=xI hvx;have G:=xI (aN Q.out aC);have HD:=xI (aN e4 (aN c0 c1));have aY:=xI e3;clear hx hb hvx aq aC ah e0 e1 e2 e3 e4 e5 c0 c1;cases z
     ·have HU:Hid (y=false):=xI (by rw[aj.out,zBl HX.out (.inl O.out)];rfl);have HS:Hid (∀ V,bW X V->V.cell? (aH w 4)=some (vS (some (aD b o)) nk cY)/\V.cell? (aD b (o+q*2))=some (vI i6 x.1)/\V.cell? (aD b (o+q*2+1))=some (vT ⟨x.2.toArray⟩)):=xI fun V hV=>by
       have hz:X.heap.size<=V.heap.size:=hV.size;exact⟨(hV.cell (p:=(aH w 4)) G.out.1).trans HD.out.1,(hV.cell (p:=(aD b _)) G.out.2).trans HD.out.2.1,(hV.cell (p:=(aD b _)) G.out.2).trans HD.out.2.2⟩
      go_wp2_with fail;refine wR HS (by kernel_rfl) (HS.out _ l.out.drew) (fun hHeld=>?_);refine oT 0 hHeld ?_
      (iterate 4 refine oY hHeld ?_)
      refine oO 5 fun K hK=>?_;go_simp;refine (D.out _).mono ?_;rintro e w2 ⟨rfl,hb2⟩;have B:=xI (l.out.drew.trans (hb2.mono l.out.drew.size));have f:=HS.out w2 B.out;refine hK _ _ f (oP ?_);refine oT 6 f ?_;refine oT 7 f ?_;refine oU 8 f ?_
      (iterate 13 refine oZ f ?_)
      refine zAu 22 (by kernel_rfl) rfl (by rfl) f (oP ?_);refine oU 23 f ?_;refine oU 24 f ?_;refine oT 25 f ?_;refine wD ?_;go_wp2;go_ret;exact⟨zAb HU.out.symm,u.out.trans (B.out.mono u.out.size)⟩
     ·by_cases hj0:q=0
      ·subst hj0;have P:=xI (zA0 totK (p:=fun x=>keyB x.1 x.2) HX.out s.out O.out (.inl rfl));have q0:decide ((0:Int)<((0:Nat):Int))=false:=rfl;have HS:Hid (∀ V,bW X V->V.cell? (aH w 4)=some (vS (some (aD b o)) nk cY)/\V.cell? (aD b o)=some (vI i6 x.1)/\V.cell? (aD b (o+1))=some (vT ⟨x.2.toArray⟩)):=xI fun V hV=>by
        have hz:X.heap.size<=V.heap.size:=hV.size;have h1:=(hV.cell (p:=(aD b _)) G.out.2).trans HD.out.2.1;have h2:=(hV.cell (p:=(aD b _)) G.out.2).trans HD.out.2.2;exact⟨(hV.cell (p:=(aH w 4)) G.out.1).trans HD.out.1,by simpa using h1,by simpa using h2⟩
       go_wp2_with fail;refine wR HS (by kernel_rfl) (HS.out _ l.out.drew) (fun hHeld=>?_);refine oT 0 hHeld ?_
       (iterate 4 refine oY hHeld ?_)
       refine oO 5 fun K hK=>?_;go_simp;refine (D.out _).mono ?_;rintro e w2 ⟨rfl,hb2⟩;have B:=xI (l.out.drew.trans (hb2.mono l.out.drew.size));have f:=HS.out w2 B.out;refine hK _ _ f (oP ?_);refine oT 6 f ?_
       (iterate 4 refine oY f ?_)
       refine oU 11 f ?_
       (iterate 10 refine oZ f ?_)
       refine zAu 22 (by kernel_rfl) rfl (by rfl) f (oP ?_);refine oU 23 f ?_;refine oT 24 f ?_;refine oT 25 f ?_;refine wD ?_;go_wp2_with fail
       go_roundw
       case rel=>exact⟨0+1,by go_num,by omega,P.out,B.out⟩
       case measure=>simp[intOf];omega
      ·obtain⟨m,hm⟩:∃ m,q=m+1:=⟨q-1,by omega⟩;obtain⟨b',ak,ar,y0,y1,hu,_,⟨p,hp,T,_,_⟩,d0,d1⟩:=(aF.out.on u.out (fun _ _ h=>h)).at2 (j:=m) (by have:=af.out;omega);injection hu with hA hNN hcc;injection hA with hA;injection hA with g1 g2;subst g1 g2;clear hNN hcc;simp only[Bc,and_true]at T;obtain⟨rfl,rfl⟩:=T;have HP:Hid (a[q-1]?=some p):=xI (by rw[hm,Et];exact hp);have aw:Hid (0<q):=xI (by omega);have q0:decide (0<q)=true:=by rw[Be];omega
       have qm:IntKind.i64.wrap ((q:Int)-1)=(m:Int):=by rw[Br _ (by have:=ai.out.2.2.1;have:=af.out;unfold maxLen at *;omega)];omega
       have km:(m:Int)<(nk:Int):=by omega
       have aQ:(0:Int)<=(m:Int):=by omega
       have M:Hid (∀ U,Calls tP 117 #[.agg #[vI i6 p.1,vT ⟨p.2.toArray⟩],.agg #[vI i6 x.1,vT ⟨x.2.toArray⟩]] U fun e w'=>e=.returned (vI i6 (cmpK p x))/\bW U w'):=xI fun U=>zCs p x U;generalize hcz:cmpK p x=cz at M;have aL:=xI hcz;have aK:=xI (aN d0 d1);clear hcz hp hm hj0 d0 d1;have HS:Hid (∀ V,bW X V->V.cell? (aH w 4)=some (vS (some (aD b o)) nk cY)/\V.cell? (aD b (o+q*2))=some (vI i6 x.1)/\V.cell? (aD b (o+q*2+1))=some (vT ⟨x.2.toArray⟩)/\V.cell? (aD b (o+m*2))=some (vI i6 p.1)/\V.cell? (aD b (o+m*2+1))=some (vT ⟨p.2.toArray⟩)):=xI fun V hV=>by
        have hz:X.heap.size<=V.heap.size:=hV.size;exact⟨(hV.cell (p:=(aH w 4)) G.out.1).trans HD.out.1,(hV.cell (p:=(aD b _)) G.out.2).trans HD.out.2.1,(hV.cell (p:=(aD b _)) G.out.2).trans HD.out.2.2,(hV.cell (p:=(aD b _)) G.out.2).trans aK.out.1,(hV.cell (p:=(aD b _)) G.out.2).trans aK.out.2⟩
       by_cases hcg:cz<0
       ·have qg:decide ((0:Int)<=cz)=false:=by rw[Cw];omega
        have P:=xI (zA0 totK (p:=fun x=>keyB x.1 x.2) HX.out s.out O.out (.inr ⟨p,HP.out,by rw[aL.out];exact hcg⟩));have qj:IntKind.i64.wrap ((q:Int)+1)=(q:Int)+1:=Br _ (by have:=ai.out.2.2.1;have:=af.out;unfold maxLen at *;omega);clear hcg;go_wp2_with fail;refine wR HS (by kernel_rfl) (HS.out _ l.out.drew) (fun hHeld=>?_);refine oT 0 hHeld ?_
        (iterate 4 refine oY hHeld ?_)
        refine oO 5 fun K hK=>?_;go_simp;refine (D.out _).mono ?_;rintro e w2 ⟨rfl,hb2⟩;have B:=xI (l.out.drew.trans (hb2.mono l.out.drew.size));have f:=HS.out w2 B.out;refine hK _ _ f (oP ?_);refine oT 6 f ?_
        (iterate 15 refine oY f ?_)
        refine oO 22 fun K hK=>?_;go_simp;refine (M.out w2).mono ?_;rintro e w3 ⟨rfl,hb3⟩;have ag:=xI (B.out.trans (hb3.mono B.out.size));have N:=HS.out w3 ag.out;refine hK _ _ N (oP ?_);refine oT 23 N ?_
        (iterate 2 refine oY N ?_)
        refine wD ?_;go_wp2_with fail
        go_roundw
        case rel=>exact⟨q+1,by go_num,by omega,P.out,ag.out⟩
        case measure=>simp[intOf];omega
       ·have qg:decide ((0:Int)<=cz)=true:=by rw[Be];omega
        have HU:Hid (y=false):=xI (by rw[aj.out,zBl HX.out (.inr ⟨aw.out,p,HP.out,by rw[aL.out];exact hcg⟩)];rfl);clear hcg;go_wp2_with fail;refine wR HS (by kernel_rfl) (HS.out _ l.out.drew) (fun hHeld=>?_);refine oT 0 hHeld ?_
        (iterate 4 refine oY hHeld ?_)
        refine oO 5 fun K hK=>?_;go_simp;refine (D.out _).mono ?_;rintro e w2 ⟨rfl,hb2⟩;have B:=xI (l.out.drew.trans (hb2.mono l.out.drew.size));have f:=HS.out w2 B.out;refine hK _ _ f (oP ?_);refine oT 6 f ?_
        (iterate 15 refine oY f ?_)
        refine oO 22 fun K hK=>?_;go_simp;refine (M.out w2).mono ?_;rintro e w3 ⟨rfl,hb3⟩;have ag:=xI (B.out.trans (hb3.mono B.out.size));have N:=HS.out w3 ag.out;refine hK _ _ N (oP ?_);refine oT 23 N ?_
        (iterate 2 refine oY N ?_)
        refine wD ?_;go_wp2;go_ret;exact⟨zAb HU.out.symm,u.out.trans (ag.out.mono u.out.size)⟩
    ·have aI:Hid (zA4 (fun x=>keyB x.1 x.2) cmpK a=true):=xI (by
      have ao:a.take q=a:=Cz (by have:=af.out;omega);rw[<-ao];exact s.out)
     have g3:wr.cell? (aH w 3)=some (vS A c.length cA):=(hb.cell (p:=(aH w 3)) Q.out).trans e3;have aM:=xI (u.out.trans (hb.mono u.out.size));clear hb e0 e1 e2 e3 e4 e5 s;by_cases hl:nk=c.length
     ·have HU:Hid (y=true):=xI (by rw[aj.out,aI.out];simp[hl]);have fl:((nk:Int)==(c.length:Int))=true:=by rw[beq_iff_eq];omega
      clear hl;go_wp2;go_ret;exact⟨zAb HU.out.symm,aM.out⟩
     ·have HU:Hid (y=false):=xI (by rw[aj.out,aI.out];simp[hl]);have fl:((nk:Int)==(c.length:Int))=false:=by rw[Ck];omega
      clear hl;go_wp2;go_ret;exact⟨zAb HU.out.symm,aM.out⟩
theorem zP3 {w:World}{B:Nat->Prop}{x:Ty}{cs:List Value}(h:TyB w B x.1 x.2 cs):∀ u∈cs,u.oneCell'=true:=zJ8 (w:=w) (B:=B) (x:=x) h
theorem zHl {l:List Ty}{r:Ty}{Al Ar:Option Addr}{cl cr:Nat}(w:World) (hl:RowB w (fun b=>b<w.heap.size) 2 (vS Al l.length cl) l.length (tyR w (fun b=>b<w.heap.size) l)) (hr:TyP w w.heap.size r.1 r.2 [vS Ar r.1.length cr,vI i6 r.2]) (hs:∀ t∈l++[r],SmT 1000000 t) (hn:l.length<=50) :
  Calls tP 31 #[vS Al l.length cl,.agg #[vS Ar r.1.length cr,vI i6 r.2]] w (TyOut 0 w (if 4<l.length then noneT else compT 14 ((l++[r]).map accT))):=by
 by_cases h4:4<l.length
 ·rw[if_pos h4];have m4:(4:Int)<(l.length:Int):=by omega
  obtain⟨W,hW⟩:∃ W,W=(w.alloc (oE Ar r.1.length cr r.2)).alloc (oE none 0 0 0):=⟨_,rfl⟩;have hb:bW w W:=by rw[hW];exact (yR.alloc lR _).alloc (by simp) _
  have f:W.heap.size=w.heap.size+2:=by rw[hW];simp
  have kR:W.heap[w.heap.size+1]?=some (oE none 0 0 0):=by rw[hW];exact zAf _ (by simp)
  have hc:=zHe W;clear hl hr hs hn h4;go_enter Tryz.func31,Tryz.ntmps31;go_wp2_with fail;rw[<-hW];clear hW;refine hc.mono ?_;rintro e w1 ⟨⟨A,c,rfl,hT⟩,hB⟩;have HT:=xI hT;clear hT hc;have kz:=(hB.block _ (by omega)).trans kR;have f0:=Bz kz 0;have f1:=Bz kz 1;have c0:=cH kz 0;have c1:=cH kz 1;go_wp2;exact ret2s kz rfl rfl rfl fun V hz hbb hl=>⟨⟨_,_,rfl,TyOut.put HT.out (Bq _) (by omega) (by omega) hz hbb⟩,(hb.trans (hB.mono (by omega))).trans (hl _ (by omega))⟩
 ·rw[if_neg h4];obtain⟨T,m⟩:∃ T,T=compT 14 ((l++[r]).map accT):=⟨_,rfl⟩;rw[<-m];have p:=xI m;clear m;have m4:¬ (4:Int)<(l.length:Int):=by omega
  obtain⟨W,hW⟩:∃ W,W=(((w.alloc (oE Ar r.1.length cr r.2)).alloc (oE none 0 0 0)).alloc (oE Ar r.1.length cr r.2)).alloc (.cells #[vS Al l.length cl,vS (some (aF w 0)) 1 1] 65 (0,0)):=⟨_,rfl⟩;have hb:bW w W:=by rw[hW];exact (((yR.alloc lR _).alloc (by simp) _).alloc (by simp;omega) _).alloc (by simp;omega) _
  have f:W.heap.size=w.heap.size+4:=by rw[hW];simp
  have kR:W.heap[w.heap.size+1]?=some (oE none 0 0 0):=by rw[hW,Bt _ _ _ (by simp),Bt _ _ _ (by simp)];exact zAf _ (by simp)
  have kS:W.heap[w.heap.size+1+1]?=some (oE Ar r.1.length cr r.2):=by rw[hW,Bt _ _ _ (by simp)];exact zAf _ (by simp)
  have kV:W.heap[w.heap.size+1+1+1]?=some (.cells #[vS Al l.length cl,vS (some (aF w 0)) 1 1] 65 (0,0)):=by rw[hW];exact zAf _ (by simp)
  have d:RowP W W.heap.size 2 (vS Al l.length cl) l.length (ElR (fun (t:Ty) cs=>TyB w (fun b=>b<w.heap.size) t.1 t.2 cs) l):=(RowB.on hl hb fun _ _ h=>h).sub (fun b hb=>by omega) fun _ _ h=>h;have a:RowP W W.heap.size 2 (vS (some (aF w 0)) 1 1) 1 (ElR (fun (t:Ty) cs=>TyB w (fun b=>b<w.heap.size) t.1 t.2 cs) [r]):=by
   refine⟨_,_,rfl,⟨by unfold maxLen;decide,Bb _⟩,fun _=>⟨_,0,rfl,by omega,by omega,fun j hj=>?_⟩⟩;obtain rfl:j=0:=by omega
   refine⟨[vS Ar r.1.length cr,vI i6 r.2],rfl,fun i hi=>?_,r,rfl,hr⟩;obtain⟨c0,c1⟩:=zAh kS;rcases (show i=0\/i=1 by omega)with rfl|rfl
   ·exact c0
   ·exact c1
  obtain⟨v0,v1⟩:j2 W (w.heap.size+1+1+1) (vS Al l.length cl) (vS (some (aF w 0)) 1 1):=⟨cH kV 0,cH kV 1⟩;have hc:=zIo (fun (t:Ty) cs=>TyB w (fun b=>b<w.heap.size) t.1 t.2 cs) (fun x cs h=>zP3 h) Al (some (aF w 0)) l.length cl 1 1 l [r] (w.heap.size+1+1+1) W rfl rfl d a (by omega) (by omega) (by omega) v0 v1;have HP:=xI (aN hs (aN hb (aN f (aN kR hn))));clear hl hr hs hn h4 hb f kR kS kV d a v0 v1;go_enter Tryz.func31,Tryz.ntmps31;go_wp2_with fail;rw[<-hW];clear hW;refine hc.mono ?_;rintro e w1 ⟨v1,rfl,ho,hb1⟩;clear hc;obtain⟨A1,c1,rfl⟩:=ho.form;have k:=hb1.size;have g:bW w w1:=HP.out.2.1.trans (hb1.mono (by have:=HP.out.2.2.1;omega));have o:(l++[r]).length<=51:=by have:=HP.out.2.2.2.2;rw[Bd];simp;omega
  have n:RowB w1 (fun b=>b<w1.heap.size) 2 (vS A1 (l++[r]).length c1) (l++[r]).length (tyR w1 (fun b=>b<w1.heap.size) (l++[r])):=
   RowB.sub (OwnE.rowB ho (by decide) (by unfold maxLen;omega) (Bq _)) (fun _ hb=>hb.2) fun _ _ ⟨t,ht,hT⟩=>⟨t,ht,(TyB.on hT g).up g.size⟩
  have hc:=zF9 (H:=w1.heap.size) 14 w1 lR n HP.out.1 (by have:=HP.out.2.2.2.2;rw[Bd];simp;omega) (by decide);rw[<-p.out]at hc;have HQ:=xI (aN g (aN hb1 k));clear ho hb1 k g n;have HL:=xI o;clear o;generalize (l++[r]).length=ln at hc HL ⊢;go_wp2_with fail;refine hc.mono ?_;clear hc;rintro e w2 ⟨⟨A2,c2,rfl,hT2⟩,hb2⟩;have q:=hb2.size;have f:=HP.out.2.2.1;have k:=HQ.out.2.2;have kz:=(hb2.block (w.heap.size+1) (by omega)).trans ((HQ.out.2.1.block (w.heap.size+1) (by omega)).trans HP.out.2.2.2.1);have f0:=Bz kz 0;have f1:=Bz kz 1;have c0:=cH kz 0;have s:=cH kz 1;have HC:=xI (aN hT2 hb2);clear hT2 hb2;go_wp2;refine ret2s kz rfl rfl rfl fun V hz hbb hl=>⟨⟨_,_,rfl,?_⟩,(HQ.out.1.trans (HC.out.2.mono (by omega))).trans (hl _ (by omega))⟩;exact TyOut.put HC.out.1 (Bq _) (by omega) (by omega) hz hbb
noncomputable def entT (t:Ty) (e:En):Bool:=!((zC0 e).all fun a=>memT a t)||(!zD2 e&&memT (resOf e) t)
theorem zMb {v:Vl}(h:okV v=true) (hk:zAl v=9):(∀ e∈zF4 v,((zC0 e).length:Int)=zCl v/\okE e=true):=by
 obtain⟨k,i,t,vs,y,es,l⟩:=v;simp only[zAl]at hk;subst hk;unfold okV at h;simp only[B8]at h;obtain⟨⟨⟨_,h3⟩,_⟩,h5⟩:=h;intro e he;simp only[zF4]at he;rw[zEa,B7]at h5;refine⟨?_,h5 e he⟩;simp[kindB]at h3;have:=h3.1.2 e he;simp[entB]at this;exact this.1
theorem conFn {t:Ty}(ht:WfT t){n:Nat}(hn:n<=4){v:Vl}(hok:okV v=true):memT v (compT 14 (List.replicate (n+1) t))=(decide (zAl v=9)&&decide (zCl v=n)&&(zF4 v).all (entT t)):=by
 obtain⟨_,ks,hl,h2,h3⟩:=zPo (kind:=14) (l:=List.replicate (n+1) t) (fun s hs=>by rw[List.eq_of_mem_replicate hs];exact ht) (.inr (.inr (.inl ⟨rfl,by simp,by simp;omega⟩)));rw[h3];rw[Dm]at hl;have hk:∀ k∈ks,∀ u,memB (compT 14 (List.replicate (n+1) t)).1 u k.toNat=memT u t:=fun k hk u=>by
  have h:=Db (f:=fun k:Int=>memB (compT 14 (List.replicate (n+1) t)).1 u k.toNat) hk;rw[h2 u,List.map_replicate]at h;exact List.eq_of_mem_replicate h
 generalize memB (compT 14 (List.replicate (n+1) t)).1=c at hk;show (decide (zAl v=9)&&funMC c v ⟨14,0,0,[],ks,[],0,0⟩)=_;by_cases h9:zAl v=9
 ·rw[Cj h9,Du,Du];have hf:=zMb hok h9;unfold funMC;show (decide (zCl v=(ks.length:Int)-1)&&_)=_;rw[hl];by_cases hi:zCl v=n
  ·rw[Cj hi,Cj (show zCl v=((n+1:Nat):Int)-1 by omega),Du,Du];have d:∀ (l:List En),(∀ e∈l,((zC0 e).length:Int)=n)->l.all (entMC c ⟨14,0,0,[],ks,[],0,0⟩)=l.all (entT t):=by
    intro l
    induction l with
    | nil=>intro _;rfl
    | cons e l ih=>
     intro h;rw[Ds,Ds,ih fun e he=>h e (C0 _ he)];congr 1;have ha:=h e (Cb ..);have b:(ks[ks.length-1]?).getD 0∈ks:=by
      rw[Bw (by omega)];exact Cv _
     unfold entMC entT;show (!zA1 c (zC0 e) (ks.take (ks.length-1))||(!zD2 e&&c (resOf e) ((ks[ks.length-1]?).getD 0).toNat))=_;rw[hk _ b];congr 2;unfold zA1;rw[Cj (show (zC0 e).length=(ks.take (ks.length-1)).length by rw[Bh];omega),Du];have hz:∀ (bs:List Vl) (qs:List Int),bs.length=qs.length->(∀ k∈qs,k∈ks)->((bs.zip qs).all fun p=>c p.1 p.2.toNat)=bs.all fun a=>memT a t:=by
      intro bs
      induction bs with
      | nil=>intro qs _ _;rfl
      | cons a bs iha=>
       intro qs hq hm;cases qs with
       | nil=>simp at hq
       | cons q qs=>
        rw[List.zip_cons_cons,Ds,Ds,iha qs (by simpa using hq) fun k hk=>hm k (C0 _ hk)];congr 1;exact hk q (hm q (Cb ..)) a
     exact hz _ _ (by rw[Bh];omega) fun k hk=>Ex hk
   exact d _ fun e he=>by rw[(hf e he).1,hi]
  ·rw[Co hi,Co (show ¬ zCl v=((n+1:Nat):Int)-1 by omega)];rfl
 ·rw[Co h9];rfl
end Go.Proofs.YteedihhdcbepmaaGreat
