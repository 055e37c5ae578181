/- What the document's test of a node returns .. -/
import Derived.Test.YteedihhdcbepmaaGreatTb18
set_option maxRecDepth 100000
set_option maxHeartbeats 12800000
open Go.Value renaming slice→vS,int→vI,string→vT
open Go.IntKind renaming i64→i6
open Go.Proofs.Tryz
open Go.Proofs.Tryz renaming prog→tP
namespace Go.Proofs.YteedihhdcbepmaaGreat
open Go Go.RowKit
theorem zOw (k:Nat) (v:Vl) (cs:List Value) (w:World) (h:VS k w w.heap.size v cs) (hkd:zAn v=8):Calls tP 120 #[.agg cs.toArray] w fun e w'=>e=.returned (.bool (nodeV v))/\bW w w':=by
 cases k with
 | zero=>exact h.elim
 | succ k=>
 obtain⟨t,C,r,c,a,d,n⟩:=v;have aG:=xI hkd;clear hkd;obtain⟨uk,uy,ue,ul,rfl,aP,aO,ax,hk,al,he,am⟩:=h;obtain⟨A,cA,rfl,az⟩:=hk.form;obtain⟨Y,cY,rfl,ay⟩:=al.form;obtain⟨E,cE,rfl,aA⟩:=he.form;obtain⟨L,cL,rfl,Z⟩:=am.form;have aW:=xI hk;have aF:=xI al;have aX:=xI he;have aE:=xI am;have ai:=xI (aN ax (aN az (aN ay (aN aA Z))));clear hk al he am aP aO ax az ay aA Z;have HR:Hid (nodeV (.mk t C r c a d n)=(zAj n&&usesB t C r c a d&&kindB t C r c a d)):=xI rfl;generalize nodeV (.mk t C r c a d n)=y at HR ⊢;obtain⟨W,hW⟩:∃ W,W=w.alloc (oV t C ⟨r.toArray⟩ A c.length cA Y a.length cY E d.length cE L n.length cL):=⟨_,rfl⟩;have aB:bW w W:=by rw[hW];exact yR.alloc lR _
 have d0:W.cell? (aH w 0)=some (vI i6 t):=by rw[hW];simp
 have d1:W.cell? (aH w 1)=some (vI i6 C):=by rw[hW];simp
 have d2:W.cell? (aH w 2)=some (vT ⟨r.toArray⟩):=by rw[hW];simp
 have d3:W.cell? (aH w 3)=some (vS A c.length cA):=by rw[hW];simp
 have d4:W.cell? (aH w 4)=some (vS Y a.length cY):=by rw[hW];simp
 have d5:W.cell? (aH w 5)=some (vS E d.length cE):=by rw[hW];simp
 have d6:W.cell? (aH w 6)=some (vS L n.length cL):=by rw[hW];simp
 have H:w.heap.size<W.heap.size:=by rw[hW];simp
 have HB:=xI aB;clear aB;go_enter func120,ntmps120;go_wp2_with fail;rw[<-hW];clear hW;generalize hnl:n.length=nl at *;have ae:=xI hnl;clear hnl
 go_loopw [3] (fun i wr=>∃ j:Nat,i=vI i6 j/\j<=nl/\zAj (n.take j)=true/\bW W wr) (fun i _=>nl-(intOf i).toNat)
 case atStart=>exact⟨0,rfl,by omega,by simp[zAj,AscC],Below.refl _ _⟩
 case round=>
  obtain⟨j,rfl,hj,F,hb⟩:=hrel;have s:=xI F;clear F;have e6:wr.cell? (aH w 6)=some (vS L nl cL):=(hb.cell (p:=(aH w 6)) H).trans d6;by_cases hjn:j<nl
  ·have ap:bW w wr:=HB.out.trans (hb.mono HB.out.size);obtain⟨b,o,au,x0,hu,aq,⟨x,hx,R,ah⟩,c0⟩:=(aE.out.on ap (fun _ _ h=>h)).at1 (j:=j) (by have:=ae.out;omega);injection hu with hA hNN hcc;subst hA hcc;clear hNN;simp only[List.cons.injEq,and_true]at R;subst R;have D:=zBi ⟨x.toArray⟩ wr.drew (by simpa [ByteArray.size] using ah);rw[show (⟨x.toArray⟩:ByteArray).data.toList=x from rfl]at D;have HX:=xI hx;have HV:=xI hb;have u:=xI ap;have kn:(j:Int)<(nl:Int):=by omega
   have k0:(0:Int)<=(j:Int):=by omega
   have aT:Hid (varB x=varB x):=xI rfl;generalize hvx:varB x=z at D;have O:=xI hvx;clear hx hb ap hvx aT;cases z
   ·have HU:Hid (y=false):=xI (by rw[HR.out,zCb HX.out (.inl O.out)];rfl);go_wp2_with fail;refine wp_region_held_drew (S:=fun V=>V.cell? (aH w 6)=some (vS (some (aD b o)) nl cL)/\V.cell? (aD b (o+j))=some (vT ⟨x.toArray⟩)) (by kernel_rfl) ⟨e6,c0⟩ (fun hHeld=>?_);refine oT 0 hHeld ?_
    (iterate 4 refine oY hHeld ?_)
    refine oO 5 fun K hK=>?_;go_simp;refine D.mono ?_;rintro e w2 ⟨rfl,hw2⟩;subst hw2;refine hK _ _ hHeld (oP ?_);refine oT 6 hHeld ?_;refine oT 7 hHeld ?_;refine oU 8 hHeld ?_
    (iterate 15 refine oZ hHeld ?_)
    refine oT 24 hHeld ?_;refine wD ?_;go_wp2;go_ret;exact⟨zAb HU.out.symm,u.out.drew⟩
   ·by_cases hj0:j=0
    ·subst hj0;have P:=xI (zBo HX.out s.out O.out (.inl rfl));have q0:decide ((0:Int)<((0:Nat):Int))=false:=rfl;go_wp2_with fail;refine wp_region_held_drew (S:=fun V=>V.cell? (aH w 6)=some (vS (some (aD b o)) nl cL)/\V.cell? (aD b o)=some (vT ⟨x.toArray⟩)) (by kernel_rfl) ⟨e6,by simpa using c0⟩ (fun hHeld=>?_);refine oT 0 hHeld ?_
     (iterate 4 refine oY hHeld ?_)
     refine oO 5 fun K hK=>?_;go_simp;refine D.mono ?_;rintro e w2 ⟨rfl,hw2⟩;subst hw2;refine hK _ _ hHeld (oP ?_);refine oT 6 hHeld ?_
     (iterate 4 refine oY hHeld ?_)
     refine oU 11 hHeld ?_
     (iterate 11 refine oZ hHeld ?_)
     refine oT 23 hHeld ?_;refine oT 24 hHeld ?_;refine wD ?_;go_wp2_with fail
     go_roundw
     case rel=>exact⟨0+1,by go_num,by omega,P.out,HV.out.drew⟩
     case measure=>simp[intOf];omega
    ·obtain⟨m,hm⟩:∃ m,j=m+1:=⟨j-1,by omega⟩;obtain⟨b',ak,ar,x1,hu,_,⟨p,hp,T,aV⟩,c1⟩:=(aE.out.on u.out (fun _ _ h=>h)).at1 (j:=m) (by have:=ae.out;omega);injection hu with hA hNN hcc;injection hA with hA;injection hA with g1 g2;subst g1 g2;clear hNN hcc;simp only[List.cons.injEq,and_true]at T;subst T;have HP:Hid (n[j-1]?=some p):=xI (by rw[hm,Nat.add_sub_cancel];exact hp);have aw:Hid (0<j):=xI (by omega);have q0:decide (0<j)=true:=by rw[decide_eq_true_eq];omega
     have qm:IntKind.i64.wrap ((j:Int)-1)=(m:Int):=by rw[IntWalk.i64_in _ (by have:=ai.out.2.2.2.2;have:=ae.out;unfold maxLen at *;omega)];omega
     have km:(m:Int)<(nl:Int):=by omega
     have aQ:(0:Int)<=(m:Int):=by omega
     have an:=zF4 p x;generalize hgz:Op.bytesLess p x=g at an;have aJ:=xI an;clear hp hm an hj0;cases g
     ·have HU:Hid (y=false):=xI (by rw[HR.out,zCb HX.out (.inr ⟨aw.out,p,HP.out,by have:=aJ.out;simpa using this.symm⟩)];rfl);go_wp2_with fail;refine wp_region_held_drew (S:=fun V=>V.cell? (aH w 6)=some (vS (some (aD b o)) nl cL)/\V.cell? (aD b (o+j))=some (vT ⟨x.toArray⟩)/\V.cell? (aD b (o+m))=some (vT ⟨p.toArray⟩)) (by kernel_rfl) ⟨e6,c0,c1⟩ (fun hHeld=>?_);refine oT 0 hHeld ?_
      (iterate 4 refine oY hHeld ?_)
      refine oO 5 fun K hK=>?_;go_simp;refine D.mono ?_;rintro e w2 ⟨rfl,hw2⟩;subst hw2;refine hK _ _ hHeld (oP ?_);refine oT 6 hHeld ?_
      (iterate 18 refine oY hHeld ?_)
      refine wD ?_;go_wp2;go_ret;exact⟨zAb HU.out.symm,u.out.drew⟩
     ·have P:=xI (zBo HX.out s.out O.out (.inr ⟨p,HP.out,by have:=aJ.out;simpa using this.symm⟩));have qj:IntKind.i64.wrap ((j:Int)+1)=(j:Int)+1:=IntWalk.i64_in _ (by have:=ai.out.2.2.2.2;have:=ae.out;unfold maxLen at *;omega);go_wp2_with fail;refine wp_region_held_drew (S:=fun V=>V.cell? (aH w 6)=some (vS (some (aD b o)) nl cL)/\V.cell? (aD b (o+j))=some (vT ⟨x.toArray⟩)/\V.cell? (aD b (o+m))=some (vT ⟨p.toArray⟩)) (by kernel_rfl) ⟨e6,c0,c1⟩ (fun hHeld=>?_);refine oT 0 hHeld ?_
      (iterate 4 refine oY hHeld ?_)
      refine oO 5 fun K hK=>?_;go_simp;refine D.mono ?_;rintro e w2 ⟨rfl,hw2⟩;subst hw2;refine hK _ _ hHeld (oP ?_);refine oT 6 hHeld ?_
      (iterate 18 refine oY hHeld ?_)
      refine wD ?_;go_wp2_with fail
      go_roundw
      case rel=>exact⟨j+1,by go_num,by omega,P.out,HV.out.drew⟩
      case measure=>simp[intOf];omega
  ·have aU:Hid (zAj n=true):=xI (by
    have ao:n.take j=n:=List.take_of_length_le (by have:=ae.out;omega);rw[<-ao];exact s.out)
   have u:=xI (HB.out.trans (hb.mono HB.out.size));have Q:=xI (Nat.lt_of_lt_of_le H hb.size);have e0:wr.cell? (aH w 0)=some (vI i6 t):=(hb.cell (p:=(aH w 0)) H).trans d0;have e1:wr.cell? (aH w 1)=some (vI i6 C):=(hb.cell (p:=(aH w 1)) H).trans d1;have e2:wr.cell? (aH w 2)=some (vT ⟨r.toArray⟩):=(hb.cell (p:=(aH w 2)) H).trans d2;have e3:wr.cell? (aH w 3)=some (vS A c.length cA):=(hb.cell (p:=(aH w 3)) H).trans d3;have e4:wr.cell? (aH w 4)=some (vS Y a.length cY):=(hb.cell (p:=(aH w 4)) H).trans d4;have e5:wr.cell? (aH w 5)=some (vS E d.length cE):=(hb.cell (p:=(aH w 5)) H).trans d5;clear d0 d1 d2 d3 d4 d5 d6 hb H hj s;have jf:decide ((j:Int)<(nl:Int))=false:=by simp;omega
   have aS:t=8:=aG.out;clear aG;subst aS;have ad:Hid (y=(usesN 8 C r c.length a.length d.length&&kindB 8 C r c a d)):=xI (by rw[HR.out,aU.out,zCm];rfl);clear HR;by_cases hc:C=0
   case neg=>
    have HU:Hid (y=false):=xI (by rw[ad.out];simp[usesN,hc]);have fi:(C != 0)=true:=by simpa using hc
    clear hc;go_wp2;go_ret;exact⟨zAb HU.out.symm,u.out⟩
   have av:=xI hc;have fi:(C != 0)=false:=by simpa using hc
   clear hc;by_cases hc:r=[]
   case neg=>
    have HU:Hid (y=false):=xI (by rw[ad.out];simp[usesN,hc]);have ft:=hc;clear hc;go_wp2;go_ret;exact⟨zAb HU.out.symm,u.out⟩
   have aa:=xI hc;have ft:=hc;clear hc;by_cases hc:d.length=0
   case neg=>
    have HU:Hid (y=false):=xI (by rw[ad.out];simp[usesN,hc]);have J:0<d.length:=by omega
    have I:decide ((0:Int)<(d.length:Int))=true:=by rw[decide_eq_true_eq];omega
    clear hc;go_wp2;go_ret;exact⟨zAb HU.out.symm,u.out⟩
   have ab:=xI hc;have J:¬ 0<d.length:=by omega
   have I:decide ((0:Int)<(d.length:Int))=false:=by rw[decide_eq_false_iff_not];omega
   clear hc;have aj:Hid (y=(zA3 (fun x=>keyB x.1 x.2) cmpK a&&decide (a.length=c.length))):=xI (by rw[ad.out];simp[usesN,kindB,zA3,av.out,aa.out,ab.out]);clear ad;generalize hnk:a.length=nk at *;have af:=xI hnk;clear hnk;go_wp2_with fail;clear fi ft J I jf hjn e6;rename World=>X
   go_loopw [7] (fun i w2=>∃ q:Nat,i=vI i6 q/\q<=nk/\zA3 (fun x=>keyB x.1 x.2) cmpK (a.take q)=true/\bW X w2) (fun i _=>nk-(intOf i).toNat)
   case atStart=>exact⟨0,rfl,by omega,by simp[zA3,AscC],Below.refl _ _⟩
   case round=>
    obtain⟨q,rfl,hq,F,hb⟩:=hrel;have s:=xI F;clear F;have g4:wr.cell? (aH w 4)=some (vS Y nk cY):=(hb.cell (p:=(aH w 4)) Q.out).trans e4;by_cases hqn:q<nk
    ·obtain⟨b,o,au,x0,x1,hu,aq,⟨x,hx,R,aR,ah⟩,c0,c1⟩:=(aF.out.on u.out (fun _ _ h=>h)).at2 (j:=q) (by have:=af.out;omega);injection hu with hA hNN hcc;subst hA hcc;clear hNN aR;simp only[List.cons.injEq,and_true]at R;obtain⟨rfl,rfl⟩:=R;have aC:b<X.heap.size:=Nat.lt_of_lt_of_le aq u.out.size;have D:Hid (∀ U,Calls tP 116 #[.agg #[vI i6 x.1,vT ⟨x.2.toArray⟩]] U fun e w'=>e=.returned (.bool (keyB x.1 x.2))/\bW U w'):=xI fun U=>zBe x.1 ⟨x.2.toArray⟩ U (by simpa [ByteArray.size] using ah);have HX:=xI hx;have l:=xI hb;have kn:(q:Int)<(nk:Int):=by omega
     have k0:(0:Int)<=(q:Int):=by omega
     generalize hvx:keyB x.1 x.2=z at D;have O:=xI hvx;have G:=xI (aN Q.out aC);have HD:=xI (aN e4 (aN c0 c1));have aY:=xI e3;clear hx hb hvx aq aC ah e0 e1 e2 e3 e4 e5 c0 c1;cases z
     ·have HU:Hid (y=false):=xI (by rw[aj.out,zBm HX.out (.inl O.out)];rfl);have HS:Hid (∀ V,bW X V->V.cell? (aH w 4)=some (vS (some (aD b o)) nk cY)/\V.cell? (aD b (o+q*2))=some (vI i6 x.1)/\V.cell? (aD b (o+q*2+1))=some (vT ⟨x.2.toArray⟩)):=xI fun V hV=>by
       have hz:X.heap.size<=V.heap.size:=hV.size;exact⟨(hV.cell (p:=(aH w 4)) G.out.1).trans HD.out.1,(hV.cell (p:=(aD b _)) G.out.2).trans HD.out.2.1,(hV.cell (p:=(aD b _)) G.out.2).trans HD.out.2.2⟩
      go_wp2_with fail;refine wR HS (by kernel_rfl) (HS.out _ l.out.drew) (fun hHeld=>?_);refine oT 0 hHeld ?_
      (iterate 4 refine oY hHeld ?_)
      refine oO 5 fun K hK=>?_;go_simp;refine (D.out _).mono ?_;rintro e w2 ⟨rfl,hb2⟩;have B:=xI (l.out.drew.trans (hb2.mono l.out.drew.size));have f:=HS.out w2 B.out;refine hK _ _ f (oP ?_);refine oT 6 f ?_;refine oT 7 f ?_;refine oU 8 f ?_
      (iterate 13 refine oZ f ?_)
      refine zAr 22 (by kernel_rfl) rfl (by rfl) f (oP ?_);refine oU 23 f ?_;refine oU 24 f ?_;refine oT 25 f ?_;refine wD ?_;go_wp2;go_ret;exact⟨zAb HU.out.symm,u.out.trans (B.out.mono u.out.size)⟩
     ·by_cases hj0:q=0
      ·subst hj0;have P:=xI (zA0 totK (p:=fun x=>keyB x.1 x.2) HX.out s.out O.out (.inl rfl));have q0:decide ((0:Int)<((0:Nat):Int))=false:=rfl;have HS:Hid (∀ V,bW X V->V.cell? (aH w 4)=some (vS (some (aD b o)) nk cY)/\V.cell? (aD b o)=some (vI i6 x.1)/\V.cell? (aD b (o+1))=some (vT ⟨x.2.toArray⟩)):=xI fun V hV=>by
        have hz:X.heap.size<=V.heap.size:=hV.size;have h1:=(hV.cell (p:=(aD b _)) G.out.2).trans HD.out.2.1;have h2:=(hV.cell (p:=(aD b _)) G.out.2).trans HD.out.2.2;exact⟨(hV.cell (p:=(aH w 4)) G.out.1).trans HD.out.1,by simpa using h1,by simpa using h2⟩
       go_wp2_with fail;refine wR HS (by kernel_rfl) (HS.out _ l.out.drew) (fun hHeld=>?_);refine oT 0 hHeld ?_
       (iterate 4 refine oY hHeld ?_)
       refine oO 5 fun K hK=>?_;go_simp;refine (D.out _).mono ?_;rintro e w2 ⟨rfl,hb2⟩;have B:=xI (l.out.drew.trans (hb2.mono l.out.drew.size));have f:=HS.out w2 B.out;refine hK _ _ f (oP ?_);refine oT 6 f ?_
       (iterate 4 refine oY f ?_)
       refine oU 11 f ?_
       (iterate 10 refine oZ f ?_)
       refine zAr 22 (by kernel_rfl) rfl (by rfl) f (oP ?_);refine oU 23 f ?_;refine oT 24 f ?_;refine oT 25 f ?_;refine wD ?_;go_wp2_with fail
       go_roundw
       case rel=>exact⟨0+1,by go_num,by omega,P.out,B.out⟩
       case measure=>simp[intOf];omega
      ·obtain⟨m,hm⟩:∃ m,q=m+1:=⟨q-1,by omega⟩;obtain⟨b',ak,ar,y0,y1,hu,_,⟨p,hp,T,_,_⟩,d0,d1⟩:=(aF.out.on u.out (fun _ _ h=>h)).at2 (j:=m) (by have:=af.out;omega);injection hu with hA hNN hcc;injection hA with hA;injection hA with g1 g2;subst g1 g2;clear hNN hcc;simp only[List.cons.injEq,and_true]at T;obtain⟨rfl,rfl⟩:=T;have HP:Hid (a[q-1]?=some p):=xI (by rw[hm,Nat.add_sub_cancel];exact hp);have aw:Hid (0<q):=xI (by omega);have q0:decide (0<q)=true:=by rw[decide_eq_true_eq];omega
       have qm:IntKind.i64.wrap ((q:Int)-1)=(m:Int):=by rw[IntWalk.i64_in _ (by have:=ai.out.2.2.1;have:=af.out;unfold maxLen at *;omega)];omega
       have km:(m:Int)<(nk:Int):=by omega
       have aQ:(0:Int)<=(m:Int):=by omega
       have M:Hid (∀ U,Calls tP 117 #[.agg #[vI i6 p.1,vT ⟨p.2.toArray⟩],.agg #[vI i6 x.1,vT ⟨x.2.toArray⟩]] U fun e w'=>e=.returned (vI i6 (cmpK p x))/\bW U w'):=xI fun U=>zCt p x U;generalize hcz:cmpK p x=cz at M;have aL:=xI hcz;have aK:=xI (aN d0 d1);clear hcz hp hm hj0 d0 d1;have HS:Hid (∀ V,bW X V->V.cell? (aH w 4)=some (vS (some (aD b o)) nk cY)/\V.cell? (aD b (o+q*2))=some (vI i6 x.1)/\V.cell? (aD b (o+q*2+1))=some (vT ⟨x.2.toArray⟩)/\V.cell? (aD b (o+m*2))=some (vI i6 p.1)/\V.cell? (aD b (o+m*2+1))=some (vT ⟨p.2.toArray⟩)):=xI fun V hV=>by
        have hz:X.heap.size<=V.heap.size:=hV.size;exact⟨(hV.cell (p:=(aH w 4)) G.out.1).trans HD.out.1,(hV.cell (p:=(aD b _)) G.out.2).trans HD.out.2.1,(hV.cell (p:=(aD b _)) G.out.2).trans HD.out.2.2,(hV.cell (p:=(aD b _)) G.out.2).trans aK.out.1,(hV.cell (p:=(aD b _)) G.out.2).trans aK.out.2⟩
       by_cases hcg:cz<0
       ·have qg:decide ((0:Int)<=cz)=false:=by rw[decide_eq_false_iff_not];omega
        have P:=xI (zA0 totK (p:=fun x=>keyB x.1 x.2) HX.out s.out O.out (.inr ⟨p,HP.out,by rw[aL.out];exact hcg⟩));have qj:IntKind.i64.wrap ((q:Int)+1)=(q:Int)+1:=IntWalk.i64_in _ (by have:=ai.out.2.2.1;have:=af.out;unfold maxLen at *;omega);clear hcg;go_wp2_with fail;refine wR HS (by kernel_rfl) (HS.out _ l.out.drew) (fun hHeld=>?_);refine oT 0 hHeld ?_
        (iterate 4 refine oY hHeld ?_)
        refine oO 5 fun K hK=>?_;go_simp;refine (D.out _).mono ?_;rintro e w2 ⟨rfl,hb2⟩;have B:=xI (l.out.drew.trans (hb2.mono l.out.drew.size));have f:=HS.out w2 B.out;refine hK _ _ f (oP ?_);refine oT 6 f ?_
        (iterate 15 refine oY f ?_)
        refine oO 22 fun K hK=>?_;go_simp;refine (M.out w2).mono ?_;rintro e w3 ⟨rfl,hb3⟩;have ag:=xI (B.out.trans (hb3.mono B.out.size));have N:=HS.out w3 ag.out;refine hK _ _ N (oP ?_);refine oT 23 N ?_
        (iterate 2 refine oY N ?_)
        refine wD ?_;go_wp2_with fail
        go_roundw
        case rel=>exact⟨q+1,by go_num,by omega,P.out,ag.out⟩
        case measure=>simp[intOf];omega
       ·have qg:decide ((0:Int)<=cz)=true:=by rw[decide_eq_true_eq];omega
        have HU:Hid (y=false):=xI (by rw[aj.out,zBm HX.out (.inr ⟨aw.out,p,HP.out,by rw[aL.out];exact hcg⟩)];rfl);clear hcg;go_wp2_with fail;refine wR HS (by kernel_rfl) (HS.out _ l.out.drew) (fun hHeld=>?_);refine oT 0 hHeld ?_
        (iterate 4 refine oY hHeld ?_)
        refine oO 5 fun K hK=>?_;go_simp;refine (D.out _).mono ?_;rintro e w2 ⟨rfl,hb2⟩;have B:=xI (l.out.drew.trans (hb2.mono l.out.drew.size));have f:=HS.out w2 B.out;refine hK _ _ f (oP ?_);refine oT 6 f ?_
        (iterate 15 refine oY f ?_)
        refine oO 22 fun K hK=>?_;go_simp;refine (M.out w2).mono ?_;rintro e w3 ⟨rfl,hb3⟩;have ag:=xI (B.out.trans (hb3.mono B.out.size));have N:=HS.out w3 ag.out;refine hK _ _ N (oP ?_);refine oT 23 N ?_
        (iterate 2 refine oY N ?_)
        refine wD ?_;go_wp2;go_ret;exact⟨zAb HU.out.symm,u.out.trans (ag.out.mono u.out.size)⟩
    ·have aI:Hid (zA3 (fun x=>keyB x.1 x.2) cmpK a=true):=xI (by
      have ao:a.take q=a:=List.take_of_length_le (by have:=af.out;omega);rw[<-ao];exact s.out)
     have g3:wr.cell? (aH w 3)=some (vS A c.length cA):=(hb.cell (p:=(aH w 3)) Q.out).trans e3;have aM:=xI (u.out.trans (hb.mono u.out.size));clear hb e0 e1 e2 e3 e4 e5 s;by_cases hl:nk=c.length
     ·have HU:Hid (y=true):=xI (by rw[aj.out,aI.out];simp[hl]);have fl:((nk:Int)==(c.length:Int))=true:=by rw[beq_iff_eq];omega
      clear hl;go_wp2;go_ret;exact⟨zAb HU.out.symm,aM.out⟩
     ·have HU:Hid (y=false):=xI (by rw[aj.out,aI.out];simp[hl]);have fl:((nk:Int)==(c.length:Int))=false:=by rw[beq_eq_false_iff_ne];omega
      clear hl;go_wp2;go_ret;exact⟨zAb HU.out.symm,aM.out⟩
theorem zRd {w:World}{g:Nat}{P B:Nat->Prop}{t:Ty}{A:Option Addr}{c:Nat}(hk:w.heap[g]?=some (oE A t.1.length c t.2)) (hB:P g) (ht:TyB w B t.1 t.2 [vS A t.1.length c,vI i6 t.2]):RowB w P 2 (vS (some (aD g 0)) 1 1) [t].length (tyR w B [t]):=by
 have hl:g<w.heap.size:=(Array.getElem?_eq_some_iff.1 hk).1;refine⟨_,_,rfl,⟨by show 1<=maxLen;unfold maxLen;decide,Nat.le_refl _⟩,fun _=>⟨g,0,rfl,hB,hl,fun j hj=>?_⟩⟩;obtain rfl:j=0:=by simp at hj;omega
 refine⟨[vS A t.1.length c,vI i6 t.2],rfl,fun i hi=>?_,t,rfl,ht⟩;refine (Lib.cell_of_heap hk _).trans ?_;simp
theorem zMo {w:World}{g:Nat}{P B:Nat->Prop}{s t:Ty}{A C:Option Addr}{c d:Nat}(hk:w.heap[g]?=some (.cells #[vS A s.1.length c,vI i6 s.2,vS C t.1.length d,vI i6 t.2] 24 (0,0))) (hB:P g) (hs:TyB w B s.1 s.2 [vS A s.1.length c,vI i6 s.2]) (ht:TyB w B t.1 t.2 [vS C t.1.length d,vI i6 t.2]):RowB w P 2 (vS (some (aD g 0)) 2 2) [s,t].length (tyR w B [s,t]):=by
 have hl:g<w.heap.size:=(Array.getElem?_eq_some_iff.1 hk).1;refine⟨_,_,rfl,⟨by show 2<=maxLen;unfold maxLen;decide,Nat.le_refl _⟩,fun _=>⟨g,0,rfl,hB,hl,fun j hj=>?_⟩⟩;have a:j=0\/j=1:=by simp at hj;omega
 rcases a with rfl|rfl
 ·refine⟨[vS A s.1.length c,vI i6 s.2],rfl,fun i hi=>?_,s,rfl,hs⟩;refine (Lib.cell_of_heap hk _).trans ?_;have:i=0\/i=1:=by omega
  rcases this with rfl|rfl<;>rfl
 ·refine⟨[vS C t.1.length d,vI i6 t.2],rfl,fun i hi=>?_,t,rfl,ht⟩;refine (Lib.cell_of_heap hk _).trans ?_;have:i=0\/i=1:=by omega
  rcases this with rfl|rfl<;>rfl
theorem zDu {t:Ty}{A:Option Addr}{c:Nat}(w:World) (hT:TyP w w.heap.size t.1 t.2 [vS A t.1.length c,vI i6 t.2]) (hs:SmT 1000000 t) :
  Calls tP 35 #[.agg #[vS A t.1.length c,vI i6 t.2]] w (TyOut 0 w (compT 18 [accT t])):=by
 obtain⟨W,hW⟩:∃ W,W=((w.alloc (oE A t.1.length c t.2)).alloc (oE none 0 0 0)).alloc (oE A t.1.length c t.2):=⟨_,rfl⟩;have hb:bW w W:=by rw[hW];exact ((yR.alloc lR _).alloc (by simp) _).alloc (by simp;omega) _
 have k0:W.heap[w.heap.size]?=some (oE A t.1.length c t.2):=by rw[hW,Below.heap_alloc _ _ _ (by simp;omega),Below.heap_alloc _ _ _ (by simp)];exact heap_alloc_new w _
 have kR:W.heap[w.heap.size+1]?=some (oE none 0 0 0):=by rw[hW,Below.heap_alloc _ _ _ (by simp)];exact zAf _ (by simp)
 have kL:W.heap[w.heap.size+1+1]?=some (oE A t.1.length c t.2):=by rw[hW];exact zAf _ (by simp)
 have a:W.heap.size=w.heap.size+3:=by rw[hW];simp
 have hc:=zGm (H:=w.heap.size) (l:=[t]) (Al:=some (aF w 0)) (cl:=1) 18 W (by omega) (zRd kL (by omega) (hT.on hb)) (by intro s hs9;simp at hs9;rw[hs9];exact hs) (by simp) (by decide);have hm:[t].map accT=[accT t]:=rfl;rw[hm]at hc;obtain⟨e0,e1⟩:=zAg k0;rw[hW]at e0 e1;clear hT k0 kL hm;simp only[List.length_cons,List.length_nil,Nat.zero_add]at hc;go_enter func35,ntmps35;go_wp2_with fail;rw[<-hW];clear hW e0 e1;refine hc.mono ?_;clear hc;rintro e w2 ⟨⟨A2,c2,rfl,hT2⟩,hb2⟩;have kz:=(hb2.block (w.heap.size+1) (by omega)).trans kR;have f0:=Lib.frozen_of_heap kz 0;have f1:=Lib.frozen_of_heap kz 1;have c0:=cH kz 0;have c1:=cH kz 1;have HB:=xI (aN hT2 (aN hb2 (aN hb a)));clear hT2 hb2 a hb;go_wp2;exact ret2s kz rfl rfl rfl fun V hz hbb hl=>⟨⟨_,_,rfl,TyOut.put HB.out.1 (Nat.zero_le _) (by have:=HB.out;omega) (by have:=HB.out;omega) hz hbb⟩,(HB.out.2.2.1.trans (HB.out.2.1.mono (by have:=HB.out;omega))).trans (hl _ (by omega))⟩
theorem zGu {s t:Ty}{A C:Option Addr}{c d:Nat}(w:World) (hS:TyP w w.heap.size s.1 s.2 [vS A s.1.length c,vI i6 s.2]) (hT:TyP w w.heap.size t.1 t.2 [vS C t.1.length d,vI i6 t.2]) (hs:SmT 1000000 s) (ht:SmT 900000 t) :
  Calls tP 36 #[.agg #[vS A s.1.length c,vI i6 s.2],.agg #[vS C t.1.length d,vI i6 t.2]] w (TyOut 0 w (conT 17 anyTy [s,compT 18 [accT t]])):=by
 obtain⟨W,hW⟩:∃ W,W=((w.alloc (oE A s.1.length c s.2)).alloc (oE C t.1.length d t.2)).alloc (oE none 0 0 0):=⟨_,rfl⟩;have hb:bW w W:=by rw[hW];exact ((yR.alloc lR _).alloc (by simp) _).alloc (by simp;omega) _
 have k0:W.heap[w.heap.size]?=some (oE A s.1.length c s.2):=by rw[hW,Below.heap_alloc _ _ _ (by simp;omega),Below.heap_alloc _ _ _ (by simp)];exact heap_alloc_new w _
 have k1:W.heap[w.heap.size+1]?=some (oE C t.1.length d t.2):=by rw[hW,Below.heap_alloc _ _ _ (by simp)];exact zAf _ (by simp)
 have kR:W.heap[w.heap.size+1+1]?=some (oE none 0 0 0):=by rw[hW];exact zAf _ (by simp)
 have m:W.heap.size=w.heap.size+3:=by rw[hW];simp
 have hd:bW W W.drew:=yR.drew;have HQ:Hid (∀ U,bW W U->(jT U w.heap.size A s.1.length c s.2)/\jT U (w.heap.size+1) C t.1.length d t.2):=xI fun U hU=>⟨zAg ((hU.block _ (by omega)).trans k0),zAg ((hU.block _ (by omega)).trans k1)⟩;have v:=zDu (t:=t) (A:=C) (c:=d) W.drew (((hT.on hb).up hb.size).on hd) (ht.mono (by decide));have r:SmT 1000000 (compT 18 [accT t]):=(zGn (n:=900000) (l:=[accT t]) (by intro x hx;simp at hx;rw[hx];exact⟨zBy t,zC2 ht (by decide)⟩) (by simp)).mono (by simp);have HP:=xI (aN hS (aN hs (aN r (aN hb (aN kR m)))));clear hT ht hS hs r hb kR k0 k1;go_enter func36,ntmps36;go_wp2_with fail;rw[<-hW];clear hW m;refine wR HQ (by kernel_rfl) (HQ.out _ hd) (fun _=>?_);refine oT 0 (HQ.out _ hd) ?_;refine oT 1 (HQ.out _ hd) ?_;refine zEd 2 (by kernel_rfl) rfl (by rfl) (fun K9 hK=>?_);go_simp;refine v.mono ?_;rintro e w2 ⟨⟨A2,c2,rfl,hT2⟩,hb2⟩;clear v;have i:=hd.trans (hb2.mono hd.size);refine hK _ _ (HQ.out _ i) (oP ?_);clear hK K9;generalize hcp:compT 18 [accT t]=p at *;obtain⟨w3,q,k,k3,o⟩:=aW w2 (.cells #[vS A s.1.length c,vI i6 s.2,vS A2 p.1.length c2,vI i6 p.2] 24 (0,0))
 have f:=i.trans (k.mono i.size);have hp:=HP.out;have a:bW w w3:=hp.2.2.2.1.trans (f.mono (by omega));have z:=(hp.1.on a).up (H':=w3.heap.size) a.size;have y:=(hT2.keep (Same.of_below k fun b hb=>by rcases hb with h|h<;>omega)).sub fun b hb=>(show b<w3.heap.size by rcases hb with h|h<;>omega);have j:=zF7 (H:=w3.heap.size) (l:=[s,p]) (Al:=some (aH w2 0)) (cl:=2) w3 lR (zMo k3 (by omega) z y) (by intro x hx;simp at hx;rcases hx with rfl|rfl;exact hp.2.1;exact hp.2.2.1) (by simp);have u:[s,p].length=2:=rfl;rw[u]at j;have H3:=xI (aN f (aN a o));clear hT2 hb2 k k3 o a z y hp u;refine zEd 3 (by kernel_rfl) rfl (by rfl) (fun K9 hK=>?_);go_simp;rw[<-q];refine hK _ _ (HQ.out _ f) (oP ?_);clear hK K9 q;refine zEd 4 (by kernel_rfl) rfl (by rfl) (fun K9 hK=>?_);go_simp;refine j.mono ?_;rintro e w5 ⟨⟨A5,c5,rfl,hT5⟩,hb5⟩;clear j;have g:=f.trans (hb5.mono f.size);refine hK _ _ (HQ.out _ g) (oP ?_);clear hK K9;have kz:=(g.block (w.heap.size+1+1) (by have:=HP.out;omega)).trans HP.out.2.2.2.2.1;obtain⟨e0,e1⟩:=zAg kz;have f0:=Lib.frozen_of_heap kz 0;have f1:=Lib.frozen_of_heap kz 1;generalize hres:conT 17 anyTy [s,p]=res at *;obtain⟨V,hV⟩:∃ V,V=(w5.setCell (aF w 0) (vS A5 res.1.length c5)).setCell (aF w 1) (vI i6 res.2):=⟨_,rfl⟩;obtain⟨p1,p2,p3,p4⟩:=box2x kz _ _ V hV;have B:(jT V w.heap.size A s.1.length c s.2)/\jT V (w.heap.size+1) C t.1.length d t.2:=by
  have h:=HQ.out _ g;exact⟨⟨(World.cell?_of_block (p3 w.heap.size (by omega))).trans h.1.1,(World.cell?_of_block (p3 w.heap.size (by omega))).trans h.1.2⟩,(World.cell?_of_block (p3 (w.heap.size+1) (by omega))).trans h.2.1,(World.cell?_of_block (p3 (w.heap.size+1) (by omega))).trans h.2.2⟩
 have HF:Hid (TyB V (Bo 0 w V) res.1 res.2 [vS A5 res.1.length c5,vI i6 res.2]/\bW w V):=xI (by
  have h3:=H3.out;refine⟨TyOut.put hT5 (Nat.zero_le _) (by have:=HP.out;have:=h3.1.size;omega) h3.2.1.size p2 p3,(h3.2.1.trans (hb5.mono h3.2.1.size)).trans (p4 _ (by omega))⟩)
 refine zEd 5 (by kernel_rfl) rfl (by rfl) (fun K9 hK=>?_);go_simp;rw[<-hV];clear hV e0 e1 f0 f1 p2 p3 p4 hT5 hb5 g f i;refine hK _ _ B (oP ?_);clear hK K9;refine wD ?_;go_wp2;exact ret2 p1 rfl rfl rfl ⟨⟨_,_,rfl,HF.out.1⟩,HF.out.2⟩
def szN (x:Tn):Nat:=x.kids.length+x.fds.length
def sumN:List Tn->Nat
 | []=>0
 | x::l=>szN x+sumN l
def zEa (ns:List Tn):Bool:=decide (ns.length<=80)&&decide (sumN ns<=400)
theorem zIj:∀ (l:List Tn) (x:Tn),sumN (l++[x])=sumN l+szN x
 | [],x=>by simp[sumN]
 | y::l,x=>by simp only[List.cons_append,sumN,zIj l x];omega
theorem zMh {ns:List Tn}{i:Nat}{x:Tn}(h:ns[i]?=some x):sumN (ns.take (i+1))=sumN (ns.take i)+szN x:=by
 rw[List.take_add_one,h];exact zIj _ _
theorem zMi:∀ (ns:List Tn) (i:Nat),sumN (ns.take i)<=sumN ns
 | [],i=>by simp[sumN]
 | x::l,0=>by simp[sumN]
 | x::l,i+1=>by simp only[List.take_succ_cons,sumN];have:=zMi l i;omega
theorem zKd:∀ {ns:List Tn}{x:Tn},x∈ns->szN x<=sumN ns
 | y::l,x,h=>by
  rcases List.mem_cons.1 h with rfl|h
  ·simp only[sumN];omega
  ·have:=zKd h;simp only[sumN];omega
theorem zK5 {ns:List Tn}{r:Int}(h:zEa ns=true):SmT 1000000 (ns,r):=by
 unfold zEa at h;simp only[Bool.and_eq_true,decide_eq_true_eq]at h;refine⟨by have:=h.1;show ns.length<=1000000;omega,fun x hx=>?_⟩;have h1:szN x<=sumN ns:=zKd hx;unfold szN at h1;exact⟨by omega,by omega⟩
theorem zMl {ns:List Tn}{root:Int}{A:Option Addr}{c:Nat}(w:World) (hT:TyP w w.heap.size ns root [vS A ns.length c,vI i6 root]) (hk:∀ x∈ns,szN x<=2 ^ 60) :
  Calls tP 9 #[.agg #[vS A ns.length c,vI i6 root]] w fun e w'=>e=.returned (.bool (zEa ns))/\bW w w':=by
 obtain⟨W,hW,B,kW,D⟩:=aW w (oE A ns.length c root)
 have HT:Hid (∀ U,Below (w.heap.size+1) W U->bW w U/\U.cell? (aH w 0)=some (vS A ns.length c)):=xI fun U hU=>by
  have hb:=B.trans (hU.mono (Nat.le_succ _));exact⟨hb,(zAg ((hU.block _ (Nat.lt_succ_self _)).trans kW)).1⟩
 have o:Hid (RowP w w.heap.size 8 (vS A ns.length c) ns.length (tnR w (fun b=>b<w.heap.size) ns)):=xI (by
  obtain⟨u,hu,_,h⟩:=hT;injection hu with hu _;rw[hu];exact h)
 have HK:=xI hk;have t0:=(HT.out W yR).2;clear hT B kW D hk;generalize hnl:ns.length=n at *;have d:=xI hnl;clear hnl;rw[hW]at t0;by_cases h80:(80:Int)<(n:Int)
 ·go_enter func9,ntmps9;go_wp2_with fail;rw[<-hW];go_ret;exact⟨by unfold zEa;rw[d.out,decide_eq_false (by omega)];rfl,(HT.out W yR).1⟩
 go_enter func9,ntmps9;go_wp2_with fail;rw[<-hW];have E:0+0=0:=rfl;clear E hW
 go_loopw [3,4] (fun sv iv wr=>∃ i:Nat,iv=vI i6 i/\i<=n/\sv=vI i6 (sumN (ns.take i):Nat)/\sumN (ns.take i)<=400/\Below (w.heap.size+1) W wr) (fun _ i _=>((n:Int)-intOf i).toNat)
 case atStart=>exact⟨0,rfl,by omega,by simp[sumN],by simp[sumN],Below.refl _ _⟩
 case round=>
  obtain⟨i,rfl,hi,rfl,hs,y⟩:=hrel;have q:=xI y;clear y t0;have t0:=(HT.out wr q.out).2;have C:n<=80:=by omega
  by_cases hin:i<n
  ·have mp:(i:Int)<(n:Int):=by omega
   have m0:(0:Int)<=(i:Int):=by omega
   have J:IntKind.i64.wrap ((i:Int)+1)=(i:Int)+1:=IntWalk.i64_in _ (by omega);have l:i<ns.length:=by have:=d.out;omega
   have hx:=List.getElem?_eq_getElem l;have g:=List.getElem_mem l;generalize ns[i]=x at hx g;have f:=zMh hx;have r:=HK.out x g;have a:RowP w w.heap.size 8 (vS A ns.length c) ns.length (tnR w (fun b=>b<w.heap.size) ns):=by have:=o.out;rw[d.out];exact this
   obtain⟨bn,on,I,Ak,ck,Af,cf,hu,z,F,k,H,d0,d1,d2,d3,d4,d5,d6,d7⟩:=TyB.at8 a hx;injection hu with hA _ hcc;subst hA hcc;clear a F k H d0 d1 d2 d3 d6 d7;unfold szN at f r;generalize x.kids.length=kl at *;generalize x.fds.length=fl at *;have HQ:Hid (∀ wq,Below (w.heap.size+1) W wq->wq.cell? (aH w 0)=some (vS (some (aD bn on)) n c)/\wq.cell? (aD bn (on+i*8+4))=some (vS Ak kl ck)/\wq.cell? (aD bn (on+i*8+5))=some (vS Af fl cf)):=xI fun wq h=>by
    obtain⟨hb,q0⟩:=HT.out wq h;exact⟨q0,(hb.cell (p:=(aD bn _)) z).trans d4,(hb.cell (p:=(aD bn _)) z).trans d5⟩
   have hd:Below (w.heap.size+1) W wr.drew:=q.out.drew;obtain⟨s1,j⟩:∃ s1,s1=sumN (ns.take (i+1)):=⟨_,rfl⟩;rw[<-j]at f;have m:=xI j;have K:=xI f;generalize sumN (ns.take i)=s at *;have G:IntKind.i64.wrap ((s:Int)+(kl:Int))=((s+kl:Nat):Int):=by rw[IntWalk.i64_in _ (by omega)];omega
   have t:IntKind.i64.wrap ((s:Int)+(kl:Int)+(fl:Int))=(s1:Int):=by rw[IntWalk.i64_in _ (by omega)];omega
   have HX:=xI hx;clear f j hx g r d4 d5 l;go_wp2_with fail;refine wR HQ (by kernel_rfl) (HQ.out _ hd) (fun _=>?_);refine oT 0 (HQ.out _ hd) ?_
   (iterate 17 refine oY (HQ.out _ hd) ?_)
   refine wD ?_
   try simp only[t]
   have HD:=xI hd;clear hd G t;by_cases h4:(400:Int)<(s1:Int)
   ·go_wp2;go_ret;exact⟨by
     have h1:=zMi ns (i+1);rw[<-m.out]at h1;unfold zEa;rw[decide_eq_false (p:=sumN ns<=400) (by omega),Bool.and_false];rfl,(HT.out _ HD.out).1⟩
   ·go_wp2
    go_roundw
    case rel=>exact⟨i+1,by go_num,by omega,by rw[<-m.out],by rw[<-m.out];omega,HD.out⟩
    case measure=>simp[intOf];omega
  ·have mp:¬ ((i:Int)<(n:Int)):=by omega
   have v:ns.take i=ns:=List.take_of_length_le (by have:=d.out;omega);rw[v]at hs;have HS:=xI hs;clear hs v;go_wp2;go_ret;exact⟨by unfold zEa;rw[d.out,decide_eq_true C,decide_eq_true HS.out];rfl,(HT.out _ q.out).1⟩
end Go.Proofs.YteedihhdcbepmaaGreat
