/- What the document's test of a node returns .. -/
import Derived.Test.YteedihhdcbepmaaGreatTsZ
import Derived.Test.YteedihhdcbepmaaGreatTs12
set_option maxRecDepth 100000
set_option maxHeartbeats 6400000
set_option linter.all false
open Go.Value renaming slice→vS,int→vI,string→vT
open Go.IntKind renaming i64→i6
open Go.Proofs.Tryz renaming prog→tP
namespace Go.Proofs.YteedihhdcbepmaaGreat
open Go Go.RowKit
theorem zO8 (k:Nat) (v:Vl) (cs:List Value) (w:World) (h:VS k w w.heap.size v cs) (hkd:zAn v=9):Calls tP 120 #[.agg cs.toArray] w fun e w'=>e=.returned (.bool (nodeV v))/\bW w w':=by
 cases k with
 | zero=>exact h.elim
 | succ k=>
 obtain⟨Q,o,N,C,D,s,J⟩:=v;have bw:=xI hkd;clear hkd;obtain⟨uk,uy,ue,ul,rfl,bD,bC,bh,hk,a5,he,a6⟩:=h;obtain⟨A,cA,rfl,bn⟩:=hk.form;obtain⟨Y,cY,rfl,bj⟩:=a5.form;obtain⟨E,cE,rfl,bo⟩:=he.form;obtain⟨L,cL,rfl,aP⟩:=a6.form;have bR:=xI hk;have bS:=xI a5;have bf:=xI he;have bv:=xI a6;have aK:=xI (aN bh (aN bn (aN bj (aN bo aP))));clear hk a5 he a6 bD bC bh bn bj bo aP;have HR:Hid (nodeV (.mk Q o N C D s J)=(zAj J&&usesB Q o N C D s&&kindB Q o N C D s)):=xI rfl;generalize nodeV (.mk Q o N C D s J)=y at HR ⊢;obtain⟨W,hW⟩:∃ W,W=w.alloc (oV Q o ⟨N.toArray⟩ A C.length cA Y D.length cY E s.length cE L J.length cL):=⟨_,rfl⟩;have bq:bW w W:=by rw[hW];exact yR.alloc lR _
 have d0:W.cell? (aH w 0)=some (vI i6 Q):=by rw[hW];simp
 have d1:W.cell? (aH w 1)=some (vI i6 o):=by rw[hW];simp
 have d2:W.cell? (aH w 2)=some (vT ⟨N.toArray⟩):=by rw[hW];simp
 have d3:W.cell? (aH w 3)=some (vS A C.length cA):=by rw[hW];simp
 have d4:W.cell? (aH w 4)=some (vS Y D.length cY):=by rw[hW];simp
 have d5:W.cell? (aH w 5)=some (vS E s.length cE):=by rw[hW];simp
 have d6:W.cell? (aH w 6)=some (vS L J.length cL):=by rw[hW];simp
 have am:w.heap.size<W.heap.size:=by rw[hW];simp
 have HB:=xI bq;clear bq;go_enter Tryz.func120,Tryz.ntmps120;go_wp2_with fail;rw[<-hW];clear hW;generalize hnl:J.length=nl at *;have aY:=xI hnl;clear hnl
 go_loopw [3] (fun i wr=>∃ j:Nat,i=vI i6 j/\j<=nl/\zAj (J.take j)=true/\bW W wr) (fun i _=>nl-(intOf i).toNat)
 case atStart=>exact⟨0,rfl,by omega,by simp[zAj,AscC],Bw _ _⟩
 case round=>
  obtain⟨j,rfl,hj,ah,hb⟩:=hrel;have M:=xI ah;clear ah;have e6:wr.cell? (aH w 6)=some (vS L nl cL):=(hb.cell (p:=(aH w 6)) am).trans d6;by_cases hjn:j<nl
  ·have al:bW w wr:=HB.out.trans (hb.mono HB.out.size);obtain⟨b,l,ba,x0,hu,a9,⟨x,hx,bk,bG⟩,c0⟩:=(bv.out.on al (fun _ _ h=>h)).at1 (j:=j) (by have:=aY.out;omega);injection hu with hA hNN hcc;subst hA hcc;clear hNN;simp only[Bb,and_true]at bk;subst bk;have aI:=zA2 ⟨x.toArray⟩ wr.drew (by simpa [ByteArray.size] using bG);rw[show (⟨x.toArray⟩:ByteArray).data.toList=x from rfl]at aI;have HX:=xI hx;have HV:=xI hb;have P:=xI al;have kn:(j:Int)<(nl:Int):=by omega
   have k0:(0:Int)<=(j:Int):=by omega
   have bK:Hid (varB x=varB x):=xI rfl;generalize hvx:varB x=z at aI;have bc:=xI hvx;clear hx hb al hvx bK;cases z
   ·have HU:Hid (y=false):=xI (by rw[HR.out,zCd HX.out (.inl bc.out)];rfl);go_wp2_with fail;refine Be (S:=fun V=>V.cell? (aH w 6)=some (vS (some (aD b l)) nl cL)/\V.cell? (aD b (l+j))=some (vT ⟨x.toArray⟩)) (by kernel_rfl) ⟨e6,c0⟩ (fun hHeld=>?_);refine oT 0 hHeld ?_
    refine oT 1 hHeld ?_;refine oT 2 hHeld ?_;refine oT 3 hHeld ?_;refine oT 4 hHeld ?_
    refine oO 5 fun K hK=>?_;go_simp;refine aI.mono ?_;rintro e w2 ⟨rfl,hw2⟩;subst hw2;refine hK _ _ hHeld (oP ?_);refine oT 6 hHeld ?_;refine oT 7 hHeld ?_;refine oU 8 hHeld ?_
    refine oU 9 hHeld ?_;refine oU 10 hHeld ?_;refine oU 11 hHeld ?_;refine oU 12 hHeld ?_;refine oU 13 hHeld ?_;refine oU 14 hHeld ?_;refine oU 15 hHeld ?_;refine oU 16 hHeld ?_;refine oU 17 hHeld ?_;refine oU 18 hHeld ?_;refine oU 19 hHeld ?_;refine oU 20 hHeld ?_;refine oU 21 hHeld ?_;refine oU 22 hHeld ?_;refine oU 23 hHeld ?_
    refine oT 24 hHeld ?_;refine wD ?_;go_wp2;go_ret;exact⟨zAb HU.out.symm,P.out.drew⟩
   ·by_cases hj0:j=0
    ·subst hj0;have ai:=xI (zBp HX.out M.out bc.out (.inl rfl));have q0:decide ((0:Int)<((0:Nat):Int))=false:=rfl;go_wp2_with fail;refine Be (S:=fun V=>V.cell? (aH w 6)=some (vS (some (aD b l)) nl cL)/\V.cell? (aD b l)=some (vT ⟨x.toArray⟩)) (by kernel_rfl) ⟨e6,by simpa using c0⟩ (fun hHeld=>?_);refine oT 0 hHeld ?_
     refine oT 1 hHeld ?_;refine oT 2 hHeld ?_;refine oT 3 hHeld ?_;refine oT 4 hHeld ?_
     refine oO 5 fun K hK=>?_;go_simp;refine aI.mono ?_;rintro e w2 ⟨rfl,hw2⟩;subst hw2;refine hK _ _ hHeld (oP ?_);refine oT 6 hHeld ?_
     refine oT 7 hHeld ?_;refine oT 8 hHeld ?_;refine oT 9 hHeld ?_;refine oT 10 hHeld ?_
     refine oU 11 hHeld ?_
     refine oU 12 hHeld ?_;refine oU 13 hHeld ?_;refine oU 14 hHeld ?_;refine oU 15 hHeld ?_;refine oU 16 hHeld ?_;refine oU 17 hHeld ?_;refine oU 18 hHeld ?_;refine oU 19 hHeld ?_;refine oU 20 hHeld ?_;refine oU 21 hHeld ?_;refine oU 22 hHeld ?_
     refine oT 23 hHeld ?_;refine oT 24 hHeld ?_;refine wD ?_;go_wp2_with fail
     go_roundw
     case rel=>exact⟨0+1,by go_num,by omega,ai.out,HV.out.drew⟩
     case measure=>simp[intOf];omega
    ·obtain⟨m,hm⟩:∃ m,j=m+1:=⟨j-1,by omega⟩;obtain⟨b',aM,aR,x1,hu,_,⟨p,hp,bm,bQ⟩,c1⟩:=(bv.out.on P.out (fun _ _ h=>h)).at1 (j:=m) (by have:=aY.out;omega);injection hu with hA hNN hcc;injection hA with hA;injection hA with g1 g2;subst g1 g2;clear hNN hcc;simp only[Bb,and_true]at bm;subst bm;have HP:Hid (J[j-1]?=some p):=xI (by rw[hm,Eu];exact hp);have aZ:Hid (0<j):=xI (by omega);have q0:decide (0<j)=true:=by rw[Bf];omega
     have qm:IntKind.i64.wrap ((j:Int)-1)=(m:Int):=by rw[Br _ (by have:=aK.out.2.2.2.2;have:=aY.out;unfold maxLen at *;omega)];omega
     have km:(m:Int)<(nl:Int):=by omega
     have bi:(0:Int)<=(m:Int):=by omega
     have a7:=zF1 p x;generalize hgz:Op.bytesLess p x=g at a7;have bz:=xI a7;clear hp hm a7 hj0;cases g
     ·have HU:Hid (y=false):=xI (by rw[HR.out,zCd HX.out (.inr ⟨aZ.out,p,HP.out,by have:=bz.out;simpa using this.symm⟩)];rfl);go_wp2_with fail;refine Be (S:=fun V=>V.cell? (aH w 6)=some (vS (some (aD b l)) nl cL)/\V.cell? (aD b (l+j))=some (vT ⟨x.toArray⟩)/\V.cell? (aD b (l+m))=some (vT ⟨p.toArray⟩)) (by kernel_rfl) ⟨e6,c0,c1⟩ (fun hHeld=>?_);refine oT 0 hHeld ?_
      refine oT 1 hHeld ?_;refine oT 2 hHeld ?_;refine oT 3 hHeld ?_;refine oT 4 hHeld ?_
      refine oO 5 fun K hK=>?_;go_simp;refine aI.mono ?_;rintro e w2 ⟨rfl,hw2⟩;subst hw2;refine hK _ _ hHeld (oP ?_);refine oT 6 hHeld ?_
      refine oT 7 hHeld ?_;refine oT 8 hHeld ?_;refine oT 9 hHeld ?_;refine oT 10 hHeld ?_;refine oT 11 hHeld ?_;refine oT 12 hHeld ?_;refine oT 13 hHeld ?_;refine oT 14 hHeld ?_;refine oT 15 hHeld ?_;refine oT 16 hHeld ?_;refine oT 17 hHeld ?_;refine oT 18 hHeld ?_;refine oT 19 hHeld ?_;refine oT 20 hHeld ?_;refine oT 21 hHeld ?_;refine oT 22 hHeld ?_;refine oT 23 hHeld ?_;refine oT 24 hHeld ?_
      refine wD ?_;go_wp2;go_ret;exact⟨zAb HU.out.symm,P.out.drew⟩
     ·have ai:=xI (zBp HX.out M.out bc.out (.inr ⟨p,HP.out,by have:=bz.out;simpa using this.symm⟩));have qj:IntKind.i64.wrap ((j:Int)+1)=(j:Int)+1:=Br _ (by have:=aK.out.2.2.2.2;have:=aY.out;unfold maxLen at *;omega);go_wp2_with fail;refine Be (S:=fun V=>V.cell? (aH w 6)=some (vS (some (aD b l)) nl cL)/\V.cell? (aD b (l+j))=some (vT ⟨x.toArray⟩)/\V.cell? (aD b (l+m))=some (vT ⟨p.toArray⟩)) (by kernel_rfl) ⟨e6,c0,c1⟩ (fun hHeld=>?_);refine oT 0 hHeld ?_
      refine oT 1 hHeld ?_;refine oT 2 hHeld ?_;refine oT 3 hHeld ?_;refine oT 4 hHeld ?_
      refine oO 5 fun K hK=>?_;go_simp;refine aI.mono ?_;rintro e w2 ⟨rfl,hw2⟩;subst hw2;refine hK _ _ hHeld (oP ?_);refine oT 6 hHeld ?_
      refine oT 7 hHeld ?_;refine oT 8 hHeld ?_;refine oT 9 hHeld ?_;refine oT 10 hHeld ?_;refine oT 11 hHeld ?_;refine oT 12 hHeld ?_;refine oT 13 hHeld ?_;refine oT 14 hHeld ?_;refine oT 15 hHeld ?_;refine oT 16 hHeld ?_;refine oT 17 hHeld ?_;refine oT 18 hHeld ?_;refine oT 19 hHeld ?_;refine oT 20 hHeld ?_;refine oT 21 hHeld ?_;refine oT 22 hHeld ?_;refine oT 23 hHeld ?_;refine oT 24 hHeld ?_
      refine wD ?_;go_wp2_with fail
      go_roundw
      case rel=>exact⟨j+1,by go_num,by omega,ai.out,HV.out.drew⟩
      case measure=>simp[intOf];omega
  ·have bL:Hid (zAj J=true):=xI (by
    have a8:J.take j=J:=B8 (by have:=aY.out;omega);rw[<-a8];exact M.out)
   have P:=xI (HB.out.trans (hb.mono HB.out.size));have aG:=xI (Bj am hb.size);have e0:wr.cell? (aH w 0)=some (vI i6 Q):=(hb.cell (p:=(aH w 0)) am).trans d0;have e1:wr.cell? (aH w 1)=some (vI i6 o):=(hb.cell (p:=(aH w 1)) am).trans d1;have e2:wr.cell? (aH w 2)=some (vT ⟨N.toArray⟩):=(hb.cell (p:=(aH w 2)) am).trans d2;have e3:wr.cell? (aH w 3)=some (vS A C.length cA):=(hb.cell (p:=(aH w 3)) am).trans d3;have e4:wr.cell? (aH w 4)=some (vS Y D.length cY):=(hb.cell (p:=(aH w 4)) am).trans d4;have e5:wr.cell? (aH w 5)=some (vS E s.length cE):=(hb.cell (p:=(aH w 5)) am).trans d5;clear d0 d1 d2 d3 d4 d5 d6 hb am hj M;have jf:decide ((j:Int)<(nl:Int))=false:=by simp;omega
   have bI:Q=9:=bw.out;clear bw;subst bI;have aX:Hid (y=(usesN 9 o N C.length D.length s.length&&kindB 9 o N C D s)):=xI (by rw[HR.out,bL.out,zCr];rfl);clear HR;by_cases hc:N=[]
   case neg=>
    have HU:Hid (y=false):=xI (by rw[aX.out];simp[usesN,hc]);have ft:=hc;clear hc;go_wp2;go_ret;exact⟨zAb HU.out.symm,P.out⟩
   have aS:=xI hc;have ft:=hc;clear hc;by_cases hc:C.length=0
   case neg=>
    have HU:Hid (y=false):=xI (by rw[aX.out];simp[usesN,hc]);have au:0<C.length:=by omega
    have aq:decide ((0:Int)<(C.length:Int))=true:=by rw[Bf];omega
    clear hc;go_wp2;go_ret;exact⟨zAb HU.out.symm,P.out⟩
   have aT:=xI hc;have au:¬ 0<C.length:=by omega
   have aq:decide ((0:Int)<(C.length:Int))=false:=by rw[Cu];omega
   clear hc;by_cases hc:D.length=0
   case neg=>
    have HU:Hid (y=false):=xI (by rw[aX.out];simp[usesN,hc]);have av:0<D.length:=by omega
    have ar:decide ((0:Int)<(D.length:Int))=true:=by rw[Bf];omega
    clear hc;go_wp2;go_ret;exact⟨zAb HU.out.symm,P.out⟩
   have aU:=xI hc;have av:¬ 0<D.length:=by omega
   have ar:decide ((0:Int)<(D.length:Int))=false:=by rw[Cu];omega
   clear hc;have an:Hid (y=(decide (0<=o/\o<=4)&&zA5 (entB o) cmpE s)):=xI (by rw[aX.out];simp[usesN,kindB,zA5,aS.out,aT.out,aU.out,Bool.and_assoc]);clear aX;by_cases hi0:o<0
   ·have HU:Hid (y=false):=xI (by rw[an.out,Ci (by omega)];rfl);have bu:decide (o<0)=true:=by rw[Bf];exact hi0
    clear hi0;go_wp2;go_ret;exact⟨zAb HU.out.symm,P.out⟩
   have bu:decide (o<0)=false:=by rw[Cu];exact hi0
   by_cases hi4:4<o
   ·have HU:Hid (y=false):=xI (by rw[an.out,Ci (by omega)];rfl);have bt:decide (4<o)=true:=by rw[Bf];exact hi4
    clear hi0 hi4;go_wp2;go_ret;exact⟨zAb HU.out.symm,P.out⟩
   have bt:decide (4<o)=false:=by rw[Cu];exact hi4
   replace an:Hid (y=zA5 (entB o) cmpE s):=xI (by rw[an.out,C8 (by omega)];rfl);clear hi0 hi4;generalize hne:s.length=ne at *;have aw:=xI hne;clear hne;go_wp2_with fail;clear bu bt ft au aq av ar jf hjn e6;rename World=>X
   go_loopw [8] (fun i w2=>∃ q:Nat,i=vI i6 q/\q<=ne/\zA5 (entB o) cmpE (s.take q)=true/\bW X w2) (fun i _=>ne-(intOf i).toNat)
   case atStart=>exact⟨0,rfl,by omega,by simp[zA5,AscC],Bw _ _⟩
   case round=>
    obtain⟨q,rfl,hq,ah,hb⟩:=hrel;have M:=xI ah;clear ah;have g5:wr.cell? (aH w 5)=some (vS E ne cE):=(hb.cell (p:=(aH w 5)) aG.out).trans e5;have g1:wr.cell? (aH w 1)=some (vI i6 o):=(hb.cell (p:=(aH w 1)) aG.out).trans e1;have al:bW w wr:=P.out.trans (hb.mono P.out.size);by_cases hqn:q<ne
    ·obtain⟨b,l,ba,ya,yb,x0,x1,x2,x3,x4,x5,x6,hu,a9,⟨I,B,f,hx,ua,rs,bp,ha,hr⟩,c0,c1,c2,c3,c4,c5,c6,c7,c8⟩:=(bf.out.on al (fun _ _ h=>h)).at9 (j:=q) (by have:=aw.out;omega);injection hu with hA hNN hcc;subst hA hcc;clear hNN;simp only[Bb]at bp;obtain⟨rfl,rfl,rfl⟩:=bp;obtain⟨A2,H,rfl,bJ⟩:=ha.form;obtain⟨a,i,st,A3,n3,s3,A4,n4,s4,A5,n5,s5,A6,n6,s6,ap⟩:=hr.form7;simp only[Bb,and_true]at ap;obtain⟨rfl,rfl,rfl,rfl,rfl,rfl,rfl⟩:=ap;obtain⟨k',rfl⟩:∃ k',k=k'+1:=by
      cases k with
      | zero=>exact hr.elim
      | succ k'=>exact⟨k',rfl⟩
     have kn:(q:Int)<(ne:Int):=by omega
     have k0:(0:Int)<=(q:Int):=by omega
     have HX:=xI hx;have a4:=xI al;have aV:=xI hb;have aO:w.heap.size<wr.heap.size:=Bj aG.out hb.size;have br:b<wr.heap.size:=Bj a9 al.size;have bg:=xI (aN ha hr);generalize hla:I.length=la at *;have bd:=xI hla;have bN:=xI g1;have a2:=xI (aN aO br);clear hx al hb a9 bJ hla ha hr e0 e1 e2 e3 e4 e5 g1 aO br;go_wp2_with fail;rename World=>U;obtain⟨W2,bs,aJ,kU,bP⟩:=aW U (.cells #[vS A2 la H,.bool B,vI i6 a,vI i6 i,vT st,vS A3 n3 s3,vS A4 n4 s4,vS A5 n5 s5,vS A6 n6 s6] 68)
     rw[<-bs];clear bs;have u:=xI aJ;have T:Hid (bW w W2):=xI (a4.out.trans (aJ.mono a4.out.size));have Z:Hid (bW X W2):=xI (aV.out.trans (aJ.mono aV.out.size));have t:Hid (b<U.heap.size):=xI a2.out.2;have F:Hid (bW W2 W2):=xI yR;have ao:Hid (W2.cell? (aH w 1)=some (vI i6 o)/\W2.cell? (aH w 5)=some (vS (some (aD b l)) ne cE)):=xI ⟨(aJ.cell (p:=(aH w 1)) a2.out.1).trans bN.out,(aJ.cell (p:=(aH w 5)) a2.out.1).trans g5⟩;have ae:Hid (w.heap.size<W2.heap.size/\U.heap.size<W2.heap.size/\b<W2.heap.size):=xI (by have:=a2.out;omega);have aL:=xI kU;have aj:Hid (∀ V,bW W2 V->ES (k'+1) V V.heap.size (.mk I B f) [vS A2 la H,.bool B,vI i6 a,vI i6 i,vT st,vS A3 n3 s3,vS A4 n4 s4,vS A5 n5 s5,vS A6 n6 s6]):=xI fun V hV=>by
      have R:=T.out.trans (hV.mono T.out.size);have af:=R.size;refine⟨I,B,f,rfl,_,_,rfl,?_,?_⟩
      ·rw[bd.out];exact (bg.out.1.on R fun _ _ ⟨x,h1,h2⟩=>⟨x,h1,VS.up af lR (VS.on R h2)⟩).mono af fun _ _ h=>h
      ·exact VS.up af lR (VS.on R bg.out.2)
     clear aJ kU g5 c0 c1 c2 c3 c4 c5 c6 c7 c8;generalize U.heap.size=bx at *;by_cases hlen:(la:Int)=o
     ·have bH:((la:Int) != o)=false:=by simpa using hlen
      have a3:Hid (entB o (.mk I B f)=(!B||isZ f)):=xI (by
       show (decide ((I.length:Int)=o)&&(!B||isZ f))=_;rw[bd.out,C8 hlen,Et])
      clear hlen;cases B
      ·have a0:Hid (entB o (.mk I false f)=true):=xI (by rw[a3.out];rfl);have HD:Hid (W2.cell? (aH w 1)=some (vI i6 o)/\W2.cell? (aH w 5)=some (vS (some (aD b l)) ne cE)/\W2.heap[bx]?=some (.cells #[vS A2 la H,.bool false,vI i6 a,vI i6 i,vT st,vS A3 n3 s3,vS A4 n4 s4,vS A5 n5 s5,vS A6 n6 s6] 68 (0,0))):=xI ⟨ao.out.1,ao.out.2,aL.out⟩;have d:=ae;have be:=aj;clear ao aL ae aj;by_cases hj0:q=0
       ·subst hj0;have ai:=xI (zA1 totE (p:=entB o) HX.out M.out a0.out (.inl rfl));have q0:decide ((0:Int)<((0:Nat):Int))=false:=rfl;have HS:Hid (∀ V,bW W2 V->V.cell? (aH w 1)=some (vI i6 o)/\V.cell? (aH w 5)=some (vS (some (aD b l)) ne cE)/\V.cell? (aD bx 0)=some (vS A2 la H)/\V.cell? (aD bx 1)=some (.bool false)/\V.cell? (aD bx 2)=some (vI i6 a)/\V.cell? (aD bx 3)=some (vI i6 i)/\V.cell? (aD bx 4)=some (vT st)/\V.cell? (aD bx 5)=some (vS A3 n3 s3)/\V.cell? (aD bx 6)=some (vS A4 n4 s4)/\V.cell? (aD bx 7)=some (vS A5 n5 s5)/\V.cell? (aD bx 8)=some (vS A6 n6 s6)):=xI fun V hV=>by
         have hz:W2.heap.size<=V.heap.size:=hV.size;exact⟨(hV.cell (p:=(aH w 1)) d.out.1).trans HD.out.1,(hV.cell (p:=(aH w 5)) d.out.1).trans HD.out.2.1,(Bv ((hV.block _ d.out.2.1).trans HD.out.2.2) 0).trans rfl,(Bv ((hV.block _ d.out.2.1).trans HD.out.2.2) 1).trans rfl,(Bv ((hV.block _ d.out.2.1).trans HD.out.2.2) 2).trans rfl,(Bv ((hV.block _ d.out.2.1).trans HD.out.2.2) 3).trans rfl,(Bv ((hV.block _ d.out.2.1).trans HD.out.2.2) 4).trans rfl,(Bv ((hV.block _ d.out.2.1).trans HD.out.2.2) 5).trans rfl,(Bv ((hV.block _ d.out.2.1).trans HD.out.2.2) 6).trans rfl,(Bv ((hV.block _ d.out.2.1).trans HD.out.2.2) 7).trans rfl,(Bv ((hV.block _ d.out.2.1).trans HD.out.2.2) 8).trans rfl⟩
        go_wp2_with fail;refine wR HS (by kernel_rfl) (HS.out _ F.out.drew) (fun hHeld=>?_);refine oT 0 hHeld ?_
        refine oT 1 hHeld ?_;refine oT 2 hHeld ?_;refine oT 3 hHeld ?_;refine oT 4 hHeld ?_;refine oT 5 hHeld ?_;refine oT 6 hHeld ?_;refine oT 7 hHeld ?_;refine oT 8 hHeld ?_;refine oT 9 hHeld ?_
        refine oU 10 hHeld ?_
        refine oU 11 hHeld ?_;refine oU 12 hHeld ?_
        refine zAu 13 (by kernel_rfl) rfl (by rfl) hHeld (oP ?_);refine oU 14 hHeld ?_;refine oT 15 hHeld ?_
        refine oT 16 hHeld ?_;refine oT 17 hHeld ?_;refine oT 18 hHeld ?_;refine oT 19 hHeld ?_;refine oT 20 hHeld ?_
        refine oU 21 hHeld ?_
        refine oU 22 hHeld ?_;refine oU 23 hHeld ?_;refine oU 24 hHeld ?_;refine oU 25 hHeld ?_;refine oU 26 hHeld ?_;refine oU 27 hHeld ?_
        refine zAu 28 (by kernel_rfl) rfl (by rfl) hHeld (oP ?_);refine oU 29 hHeld ?_;refine oT 30 hHeld ?_;refine oT 31 hHeld ?_;refine wD ?_;have bb:=xI F.out.drew;go_wp2_with fail
        go_roundw
        case rel=>exact⟨0+1,by go_num,by omega,ai.out,Z.out.trans (bb.out.mono Z.out.size)⟩
        case measure=>simp[intOf];omega
       ·obtain⟨m,hm⟩:∃ m,q=m+1:=⟨q-1,by omega⟩;obtain⟨b',aM,aR,bB,bA,y0,y1,y2,y3,y4,y5,y6,hu,_,⟨r,gf,n,hp,bE,bF,ag,aA,ay⟩,d0,d1,d2,d3,d4,d5,d6,d7,d8⟩:=(bf.out.on a4.out (fun _ _ h=>h)).at9 (j:=m) (by have:=aw.out;omega);injection hu with hA hNN hcc;injection hA with hA;injection hA with g1 g2;subst g1 g2;clear hNN hcc;simp only[Bb]at ag;obtain⟨rfl,rfl,rfl⟩:=ag;obtain⟨B2,ab,rfl,_⟩:=aA.form;obtain⟨a',i',ax,B3,m3,aF,B4,m4,aE,B5,m5,aC,B6,m6,aB,ap⟩:=ay.form7;simp only[Bb,and_true]at ap;obtain⟨rfl,rfl,rfl,rfl,rfl,rfl,rfl⟩:=ap;have HP:Hid (s[q-1]?=some (.mk r gf n)):=xI (by rw[hm,Eu];exact hp);have aZ:Hid (0<q):=xI (by omega);have az:Hid (∀ V,bW W2 V->Calls tP 155 #[.agg #[vS B2 r.length ab,.bool gf,vI i6 a',vI i6 i',vT ax,vS B3 m3 aF,vS B4 m4 aE,vS B5 m5 aC,vS B6 m6 aB],.agg #[vS A2 la H,.bool false,vI i6 a,vI i6 i,vT st,vS A3 n3 s3,vS A4 n4 s4,vS A5 n5 s5,vS A6 n6 s6]] V fun e w'=>e=.returned (vI i6 (cmpE (.mk r gf n) (.mk I false f)))/\bW V w'):=xI fun V hV=>by
         have R:=T.out.trans (hV.mono T.out.size);have af:=R.size;refine zC3 (k'+1) (xI (zCk (k'+1))) _ _ _ _ V ?_ ?_
         ·exact⟨r,gf,n,rfl,_,_,rfl,(aA.on R fun _ _ ⟨x,h1,h2⟩=>⟨x,h1,VS.up af lR (VS.on R h2)⟩).mono af fun _ _ h=>h,VS.up af lR (VS.on R ay)⟩
         ·exact be.out V hV
        have q0:decide (0<q)=true:=by rw[Bf];omega
        have qm:IntKind.i64.wrap ((q:Int)-1)=(m:Int):=by rw[Br _ (by have:=aK.out.2.2.2.1;have:=aw.out;unfold maxLen at *;omega)];omega
        have km:(m:Int)<(ne:Int):=by omega
        have bi:(0:Int)<=(m:Int):=by omega
        have qj:IntKind.i64.wrap ((q:Int)+1)=(q:Int)+1:=Br _ (by have:=aK.out.2.2.2.1;have:=aw.out;unfold maxLen at *;omega);generalize r.length=lb at *;have O:Hid (W2.cell? (aD b (l+m*9))=some (vS B2 lb ab)/\W2.cell? (aD b (l+m*9+1))=some (.bool gf)/\W2.cell? (aD b (l+m*9+2))=some (vI i6 a')/\W2.cell? (aD b (l+m*9+3))=some (vI i6 i')/\W2.cell? (aD b (l+m*9+4))=some (vT ax)/\W2.cell? (aD b (l+m*9+5))=some (vS B3 m3 aF)/\W2.cell? (aD b (l+m*9+6))=some (vS B4 m4 aE)/\W2.cell? (aD b (l+m*9+7))=some (vS B5 m5 aC)/\W2.cell? (aD b (l+m*9+8))=some (vS B6 m6 aB)):=xI (by exact⟨(u.out.cell (p:=(aD b _)) t.out).trans d0,(u.out.cell (p:=(aD b _)) t.out).trans d1,(u.out.cell (p:=(aD b _)) t.out).trans d2,(u.out.cell (p:=(aD b _)) t.out).trans d3,(u.out.cell (p:=(aD b _)) t.out).trans d4,(u.out.cell (p:=(aD b _)) t.out).trans d5,(u.out.cell (p:=(aD b _)) t.out).trans d6,(u.out.cell (p:=(aD b _)) t.out).trans d7,(u.out.cell (p:=(aD b _)) t.out).trans d8⟩);generalize hcz:cmpE (.mk r gf n) (.mk I false f)=cz at az;have a1:=xI hcz;clear hcz hp aA ay hj0 hm d0 d1 d2 d3 d4 d5 d6 d7 d8;have HS:Hid (∀ V,bW W2 V->V.cell? (aH w 1)=some (vI i6 o)/\V.cell? (aH w 5)=some (vS (some (aD b l)) ne cE)/\V.cell? (aD bx 0)=some (vS A2 la H)/\V.cell? (aD bx 1)=some (.bool false)/\V.cell? (aD bx 2)=some (vI i6 a)/\V.cell? (aD bx 3)=some (vI i6 i)/\V.cell? (aD bx 4)=some (vT st)/\V.cell? (aD bx 5)=some (vS A3 n3 s3)/\V.cell? (aD bx 6)=some (vS A4 n4 s4)/\V.cell? (aD bx 7)=some (vS A5 n5 s5)/\V.cell? (aD bx 8)=some (vS A6 n6 s6)/\V.cell? (aD b (l+m*9))=some (vS B2 lb ab)/\V.cell? (aD b (l+m*9+1))=some (.bool gf)/\V.cell? (aD b (l+m*9+2))=some (vI i6 a')/\V.cell? (aD b (l+m*9+3))=some (vI i6 i')/\V.cell? (aD b (l+m*9+4))=some (vT ax)/\V.cell? (aD b (l+m*9+5))=some (vS B3 m3 aF)/\V.cell? (aD b (l+m*9+6))=some (vS B4 m4 aE)/\V.cell? (aD b (l+m*9+7))=some (vS B5 m5 aC)/\V.cell? (aD b (l+m*9+8))=some (vS B6 m6 aB)):=xI fun V hV=>by
         have hz:W2.heap.size<=V.heap.size:=hV.size;exact⟨(hV.cell (p:=(aH w 1)) d.out.1).trans HD.out.1,(hV.cell (p:=(aH w 5)) d.out.1).trans HD.out.2.1,(Bv ((hV.block _ d.out.2.1).trans HD.out.2.2) 0).trans rfl,(Bv ((hV.block _ d.out.2.1).trans HD.out.2.2) 1).trans rfl,(Bv ((hV.block _ d.out.2.1).trans HD.out.2.2) 2).trans rfl,(Bv ((hV.block _ d.out.2.1).trans HD.out.2.2) 3).trans rfl,(Bv ((hV.block _ d.out.2.1).trans HD.out.2.2) 4).trans rfl,(Bv ((hV.block _ d.out.2.1).trans HD.out.2.2) 5).trans rfl,(Bv ((hV.block _ d.out.2.1).trans HD.out.2.2) 6).trans rfl,(Bv ((hV.block _ d.out.2.1).trans HD.out.2.2) 7).trans rfl,(Bv ((hV.block _ d.out.2.1).trans HD.out.2.2) 8).trans rfl,(hV.cell (p:=(aD b _)) d.out.2.2).trans O.out.1,(hV.cell (p:=(aD b _)) d.out.2.2).trans O.out.2.1,(hV.cell (p:=(aD b _)) d.out.2.2).trans O.out.2.2.1,(hV.cell (p:=(aD b _)) d.out.2.2).trans O.out.2.2.2.1,(hV.cell (p:=(aD b _)) d.out.2.2).trans O.out.2.2.2.2.1,(hV.cell (p:=(aD b _)) d.out.2.2).trans O.out.2.2.2.2.2.1,(hV.cell (p:=(aD b _)) d.out.2.2).trans O.out.2.2.2.2.2.2.1,(hV.cell (p:=(aD b _)) d.out.2.2).trans O.out.2.2.2.2.2.2.2.1,(hV.cell (p:=(aD b _)) d.out.2.2).trans O.out.2.2.2.2.2.2.2.2⟩
        by_cases hcg:cz<0
        ·have qg:decide ((0:Int)<=cz)=false:=by rw[Cu];omega
         have ai:=xI (zA1 totE (p:=entB o) HX.out M.out a0.out (.inr ⟨_,HP.out,by rw[a1.out];exact hcg⟩));clear hcg;go_wp2_with fail;refine wR HS (by kernel_rfl) (HS.out _ F.out.drew) (fun hHeld=>?_);refine oT 0 hHeld ?_
         refine oT 1 hHeld ?_;refine oT 2 hHeld ?_;refine oT 3 hHeld ?_;refine oT 4 hHeld ?_;refine oT 5 hHeld ?_;refine oT 6 hHeld ?_;refine oT 7 hHeld ?_;refine oT 8 hHeld ?_;refine oT 9 hHeld ?_
         refine oU 10 hHeld ?_
         refine oU 11 hHeld ?_;refine oU 12 hHeld ?_
         refine zAu 13 (by kernel_rfl) rfl (by rfl) hHeld (oP ?_);refine oU 14 hHeld ?_;refine oT 15 hHeld ?_
         refine oT 16 hHeld ?_;refine oT 17 hHeld ?_;refine oT 18 hHeld ?_;refine oT 19 hHeld ?_;refine oT 20 hHeld ?_;refine oT 21 hHeld ?_;refine oT 22 hHeld ?_;refine oT 23 hHeld ?_;refine oT 24 hHeld ?_;refine oT 25 hHeld ?_;refine oT 26 hHeld ?_;refine oT 27 hHeld ?_
         refine oO 28 fun K hK=>?_;go_simp;refine (az.out _ F.out.drew).mono ?_;rintro e w3 ⟨rfl,hb3⟩;have ak:=xI (F.out.drew.trans (hb3.mono F.out.drew.size));have aa:=HS.out w3 ak.out;refine hK _ _ aa (oP ?_);refine oT 29 aa ?_
         refine oT 30 aa ?_;refine oT 31 aa ?_
         refine wD ?_;go_wp2_with fail
         go_roundw
         case rel=>exact⟨q+1,by go_num,by omega,ai.out,Z.out.trans (ak.out.mono Z.out.size)⟩
         case measure=>simp[intOf];omega
        ·have qg:decide ((0:Int)<=cz)=true:=by rw[Bf];omega
         have HU:Hid (y=false):=xI (by rw[an.out,zBl (p:=entB o) (c:=cmpE) HX.out (.inr ⟨aZ.out,_,HP.out,by rw[a1.out];exact hcg⟩)]);clear hcg;go_wp2_with fail;refine wR HS (by kernel_rfl) (HS.out _ F.out.drew) (fun hHeld=>?_);refine oT 0 hHeld ?_
         refine oT 1 hHeld ?_;refine oT 2 hHeld ?_;refine oT 3 hHeld ?_;refine oT 4 hHeld ?_;refine oT 5 hHeld ?_;refine oT 6 hHeld ?_;refine oT 7 hHeld ?_;refine oT 8 hHeld ?_;refine oT 9 hHeld ?_
         refine oU 10 hHeld ?_
         refine oU 11 hHeld ?_;refine oU 12 hHeld ?_
         refine zAu 13 (by kernel_rfl) rfl (by rfl) hHeld (oP ?_);refine oU 14 hHeld ?_;refine oT 15 hHeld ?_
         refine oT 16 hHeld ?_;refine oT 17 hHeld ?_;refine oT 18 hHeld ?_;refine oT 19 hHeld ?_;refine oT 20 hHeld ?_;refine oT 21 hHeld ?_;refine oT 22 hHeld ?_;refine oT 23 hHeld ?_;refine oT 24 hHeld ?_;refine oT 25 hHeld ?_;refine oT 26 hHeld ?_;refine oT 27 hHeld ?_
         refine oO 28 fun K hK=>?_;go_simp;refine (az.out _ F.out.drew).mono ?_;rintro e w3 ⟨rfl,hb3⟩;have ak:=xI (F.out.drew.trans (hb3.mono F.out.drew.size));have aa:=HS.out w3 ak.out;refine hK _ _ aa (oP ?_);refine oT 29 aa ?_
         refine oT 30 aa ?_;refine oT 31 aa ?_
         refine wD ?_;go_wp2;go_ret;exact⟨zAb HU.out.symm,P.out.trans ((Z.out.trans (ak.out.mono Z.out.size)).mono P.out.size)⟩
      ·have aQ:Hid (∀ V,bW W2 V->Calls tP 145 #[.agg #[vI i6 a,vI i6 i,vT st,vS A3 n3 s3,vS A4 n4 s4,vS A5 n5 s5,vS A6 n6 s6],.agg nV] V fun e w'=>e=.returned (.bool (isZ f))/\bW V w'):=xI fun V hV=>by
        have R:=T.out.trans (hV.mono T.out.size);exact zE4 (k'+1) f zeroV _ _ V (VS.up R.size lR (VS.on R bg.out.2)) (zKb k' V _)
       generalize hz:isZ f=zr at aQ a3;clear hz;have HD:Hid (W2.cell? (aH w 1)=some (vI i6 o)/\W2.cell? (aH w 5)=some (vS (some (aD b l)) ne cE)/\W2.heap[bx]?=some (.cells #[vS A2 la H,.bool true,vI i6 a,vI i6 i,vT st,vS A3 n3 s3,vS A4 n4 s4,vS A5 n5 s5,vS A6 n6 s6] 68 (0,0))):=xI ⟨ao.out.1,ao.out.2,aL.out⟩;have d:=ae;have be:=aj;clear ao aL ae aj;cases zr
       ·have HU:Hid (y=false):=xI (by rw[an.out,zBl (p:=entB o) (c:=cmpE) HX.out (.inl (by rw[a3.out];rfl))]);have HS:Hid (∀ V,bW W2 V->V.cell? (aH w 1)=some (vI i6 o)/\V.cell? (aH w 5)=some (vS (some (aD b l)) ne cE)/\V.cell? (aD bx 0)=some (vS A2 la H)/\V.cell? (aD bx 1)=some (.bool true)/\V.cell? (aD bx 2)=some (vI i6 a)/\V.cell? (aD bx 3)=some (vI i6 i)/\V.cell? (aD bx 4)=some (vT st)/\V.cell? (aD bx 5)=some (vS A3 n3 s3)/\V.cell? (aD bx 6)=some (vS A4 n4 s4)/\V.cell? (aD bx 7)=some (vS A5 n5 s5)/\V.cell? (aD bx 8)=some (vS A6 n6 s6)):=xI fun V hV=>by
         have hz:W2.heap.size<=V.heap.size:=hV.size;exact⟨(hV.cell (p:=(aH w 1)) d.out.1).trans HD.out.1,(hV.cell (p:=(aH w 5)) d.out.1).trans HD.out.2.1,(Bv ((hV.block _ d.out.2.1).trans HD.out.2.2) 0).trans rfl,(Bv ((hV.block _ d.out.2.1).trans HD.out.2.2) 1).trans rfl,(Bv ((hV.block _ d.out.2.1).trans HD.out.2.2) 2).trans rfl,(Bv ((hV.block _ d.out.2.1).trans HD.out.2.2) 3).trans rfl,(Bv ((hV.block _ d.out.2.1).trans HD.out.2.2) 4).trans rfl,(Bv ((hV.block _ d.out.2.1).trans HD.out.2.2) 5).trans rfl,(Bv ((hV.block _ d.out.2.1).trans HD.out.2.2) 6).trans rfl,(Bv ((hV.block _ d.out.2.1).trans HD.out.2.2) 7).trans rfl,(Bv ((hV.block _ d.out.2.1).trans HD.out.2.2) 8).trans rfl⟩
        go_wp2_with fail;refine wR HS (by kernel_rfl) (HS.out _ F.out.drew) (fun hHeld=>?_);refine oT 0 hHeld ?_
        refine oT 1 hHeld ?_;refine oT 2 hHeld ?_;refine oT 3 hHeld ?_;refine oT 4 hHeld ?_;refine oT 5 hHeld ?_;refine oT 6 hHeld ?_;refine oT 7 hHeld ?_;refine oT 8 hHeld ?_;refine oT 9 hHeld ?_;refine oT 10 hHeld ?_;refine oT 11 hHeld ?_;refine oT 12 hHeld ?_
        refine oO 13 fun K hK=>?_;go_simp;refine (aQ.out _ F.out.drew).mono ?_;rintro e w2 ⟨rfl,hb2⟩;have ad:=xI (F.out.drew.trans (hb2.mono F.out.drew.size));have G:=HS.out w2 ad.out;refine hK _ _ G (oP ?_);refine oT 14 G ?_
        refine oT 15 G ?_;refine oT 16 G ?_;refine oT 17 G ?_
        refine oU 18 G ?_
        refine oU 19 G ?_;refine oU 20 G ?_;refine oU 21 G ?_;refine oU 22 G ?_;refine oU 23 G ?_;refine oU 24 G ?_;refine oU 25 G ?_;refine oU 26 G ?_;refine oU 27 G ?_
        refine zAu 28 (by kernel_rfl) rfl (by rfl) G (oP ?_);refine oU 29 G ?_;refine oU 30 G ?_;refine oT 31 G ?_;refine wD ?_;go_wp2;go_ret;exact⟨zAb HU.out.symm,P.out.trans ((Z.out.trans (ad.out.mono Z.out.size)).mono P.out.size)⟩
       ·have a0:Hid (entB o (.mk I true f)=true):=xI (by rw[a3.out];rfl);by_cases hj0:q=0
        ·subst hj0;have ai:=xI (zA1 totE (p:=entB o) HX.out M.out a0.out (.inl rfl));have q0:decide ((0:Int)<((0:Nat):Int))=false:=rfl;have HS:Hid (∀ V,bW W2 V->V.cell? (aH w 1)=some (vI i6 o)/\V.cell? (aH w 5)=some (vS (some (aD b l)) ne cE)/\V.cell? (aD bx 0)=some (vS A2 la H)/\V.cell? (aD bx 1)=some (.bool true)/\V.cell? (aD bx 2)=some (vI i6 a)/\V.cell? (aD bx 3)=some (vI i6 i)/\V.cell? (aD bx 4)=some (vT st)/\V.cell? (aD bx 5)=some (vS A3 n3 s3)/\V.cell? (aD bx 6)=some (vS A4 n4 s4)/\V.cell? (aD bx 7)=some (vS A5 n5 s5)/\V.cell? (aD bx 8)=some (vS A6 n6 s6)):=xI fun V hV=>by
          have hz:W2.heap.size<=V.heap.size:=hV.size;exact⟨(hV.cell (p:=(aH w 1)) d.out.1).trans HD.out.1,(hV.cell (p:=(aH w 5)) d.out.1).trans HD.out.2.1,(Bv ((hV.block _ d.out.2.1).trans HD.out.2.2) 0).trans rfl,(Bv ((hV.block _ d.out.2.1).trans HD.out.2.2) 1).trans rfl,(Bv ((hV.block _ d.out.2.1).trans HD.out.2.2) 2).trans rfl,(Bv ((hV.block _ d.out.2.1).trans HD.out.2.2) 3).trans rfl,(Bv ((hV.block _ d.out.2.1).trans HD.out.2.2) 4).trans rfl,(Bv ((hV.block _ d.out.2.1).trans HD.out.2.2) 5).trans rfl,(Bv ((hV.block _ d.out.2.1).trans HD.out.2.2) 6).trans rfl,(Bv ((hV.block _ d.out.2.1).trans HD.out.2.2) 7).trans rfl,(Bv ((hV.block _ d.out.2.1).trans HD.out.2.2) 8).trans rfl⟩
         go_wp2_with fail;refine wR HS (by kernel_rfl) (HS.out _ F.out.drew) (fun hHeld=>?_);refine oT 0 hHeld ?_
         refine oT 1 hHeld ?_;refine oT 2 hHeld ?_;refine oT 3 hHeld ?_;refine oT 4 hHeld ?_;refine oT 5 hHeld ?_;refine oT 6 hHeld ?_;refine oT 7 hHeld ?_;refine oT 8 hHeld ?_;refine oT 9 hHeld ?_;refine oT 10 hHeld ?_;refine oT 11 hHeld ?_;refine oT 12 hHeld ?_
         refine oO 13 fun K hK=>?_;go_simp;refine (aQ.out _ F.out.drew).mono ?_;rintro e w2 ⟨rfl,hb2⟩;have ad:=xI (F.out.drew.trans (hb2.mono F.out.drew.size));have G:=HS.out w2 ad.out;refine hK _ _ G (oP ?_);refine oT 14 G ?_
         refine oT 15 G ?_;refine oT 16 G ?_;refine oT 17 G ?_;refine oT 18 G ?_;refine oT 19 G ?_;refine oT 20 G ?_
         refine oU 21 G ?_
         refine oU 22 G ?_;refine oU 23 G ?_;refine oU 24 G ?_;refine oU 25 G ?_;refine oU 26 G ?_;refine oU 27 G ?_
         refine zAu 28 (by kernel_rfl) rfl (by rfl) G (oP ?_);refine oU 29 G ?_;refine oT 30 G ?_;refine oT 31 G ?_;refine wD ?_;go_wp2_with fail
         go_roundw
         case rel=>exact⟨0+1,by go_num,by omega,ai.out,Z.out.trans (ad.out.mono Z.out.size)⟩
         case measure=>simp[intOf];omega
        ·obtain⟨m,hm⟩:∃ m,q=m+1:=⟨q-1,by omega⟩;obtain⟨b',aM,aR,bB,bA,y0,y1,y2,y3,y4,y5,y6,hu,_,⟨r,gf,n,hp,bE,bF,ag,aA,ay⟩,d0,d1,d2,d3,d4,d5,d6,d7,d8⟩:=(bf.out.on a4.out (fun _ _ h=>h)).at9 (j:=m) (by have:=aw.out;omega);injection hu with hA hNN hcc;injection hA with hA;injection hA with g1 g2;subst g1 g2;clear hNN hcc;simp only[Bb]at ag;obtain⟨rfl,rfl,rfl⟩:=ag;obtain⟨B2,ab,rfl,_⟩:=aA.form;obtain⟨a',i',ax,B3,m3,aF,B4,m4,aE,B5,m5,aC,B6,m6,aB,ap⟩:=ay.form7;simp only[Bb,and_true]at ap;obtain⟨rfl,rfl,rfl,rfl,rfl,rfl,rfl⟩:=ap;have HP:Hid (s[q-1]?=some (.mk r gf n)):=xI (by rw[hm,Eu];exact hp);have aZ:Hid (0<q):=xI (by omega);have az:Hid (∀ V,bW W2 V->Calls tP 155 #[.agg #[vS B2 r.length ab,.bool gf,vI i6 a',vI i6 i',vT ax,vS B3 m3 aF,vS B4 m4 aE,vS B5 m5 aC,vS B6 m6 aB],.agg #[vS A2 la H,.bool true,vI i6 a,vI i6 i,vT st,vS A3 n3 s3,vS A4 n4 s4,vS A5 n5 s5,vS A6 n6 s6]] V fun e w'=>e=.returned (vI i6 (cmpE (.mk r gf n) (.mk I true f)))/\bW V w'):=xI fun V hV=>by
          have R:=T.out.trans (hV.mono T.out.size);have af:=R.size;refine zC3 (k'+1) (xI (zCk (k'+1))) _ _ _ _ V ?_ ?_
          ·exact⟨r,gf,n,rfl,_,_,rfl,(aA.on R fun _ _ ⟨x,h1,h2⟩=>⟨x,h1,VS.up af lR (VS.on R h2)⟩).mono af fun _ _ h=>h,VS.up af lR (VS.on R ay)⟩
          ·exact be.out V hV
         have q0:decide (0<q)=true:=by rw[Bf];omega
         have qm:IntKind.i64.wrap ((q:Int)-1)=(m:Int):=by rw[Br _ (by have:=aK.out.2.2.2.1;have:=aw.out;unfold maxLen at *;omega)];omega
         have km:(m:Int)<(ne:Int):=by omega
         have bi:(0:Int)<=(m:Int):=by omega
         have qj:IntKind.i64.wrap ((q:Int)+1)=(q:Int)+1:=Br _ (by have:=aK.out.2.2.2.1;have:=aw.out;unfold maxLen at *;omega);generalize r.length=lb at *;have O:Hid (W2.cell? (aD b (l+m*9))=some (vS B2 lb ab)/\W2.cell? (aD b (l+m*9+1))=some (.bool gf)/\W2.cell? (aD b (l+m*9+2))=some (vI i6 a')/\W2.cell? (aD b (l+m*9+3))=some (vI i6 i')/\W2.cell? (aD b (l+m*9+4))=some (vT ax)/\W2.cell? (aD b (l+m*9+5))=some (vS B3 m3 aF)/\W2.cell? (aD b (l+m*9+6))=some (vS B4 m4 aE)/\W2.cell? (aD b (l+m*9+7))=some (vS B5 m5 aC)/\W2.cell? (aD b (l+m*9+8))=some (vS B6 m6 aB)):=xI (by exact⟨(u.out.cell (p:=(aD b _)) t.out).trans d0,(u.out.cell (p:=(aD b _)) t.out).trans d1,(u.out.cell (p:=(aD b _)) t.out).trans d2,(u.out.cell (p:=(aD b _)) t.out).trans d3,(u.out.cell (p:=(aD b _)) t.out).trans d4,(u.out.cell (p:=(aD b _)) t.out).trans d5,(u.out.cell (p:=(aD b _)) t.out).trans d6,(u.out.cell (p:=(aD b _)) t.out).trans d7,(u.out.cell (p:=(aD b _)) t.out).trans d8⟩);generalize hcz:cmpE (.mk r gf n) (.mk I true f)=cz at az;have a1:=xI hcz;clear hcz hp aA ay hj0 hm d0 d1 d2 d3 d4 d5 d6 d7 d8;have HS:Hid (∀ V,bW W2 V->V.cell? (aH w 1)=some (vI i6 o)/\V.cell? (aH w 5)=some (vS (some (aD b l)) ne cE)/\V.cell? (aD bx 0)=some (vS A2 la H)/\V.cell? (aD bx 1)=some (.bool true)/\V.cell? (aD bx 2)=some (vI i6 a)/\V.cell? (aD bx 3)=some (vI i6 i)/\V.cell? (aD bx 4)=some (vT st)/\V.cell? (aD bx 5)=some (vS A3 n3 s3)/\V.cell? (aD bx 6)=some (vS A4 n4 s4)/\V.cell? (aD bx 7)=some (vS A5 n5 s5)/\V.cell? (aD bx 8)=some (vS A6 n6 s6)/\V.cell? (aD b (l+m*9))=some (vS B2 lb ab)/\V.cell? (aD b (l+m*9+1))=some (.bool gf)/\V.cell? (aD b (l+m*9+2))=some (vI i6 a')/\V.cell? (aD b (l+m*9+3))=some (vI i6 i')/\V.cell? (aD b (l+m*9+4))=some (vT ax)/\V.cell? (aD b (l+m*9+5))=some (vS B3 m3 aF)/\V.cell? (aD b (l+m*9+6))=some (vS B4 m4 aE)/\V.cell? (aD b (l+m*9+7))=some (vS B5 m5 aC)/\V.cell? (aD b (l+m*9+8))=some (vS B6 m6 aB)):=xI fun V hV=>by
          have hz:W2.heap.size<=V.heap.size:=hV.size;exact⟨(hV.cell (p:=(aH w 1)) d.out.1).trans HD.out.1,(hV.cell (p:=(aH w 5)) d.out.1).trans HD.out.2.1,(Bv ((hV.block _ d.out.2.1).trans HD.out.2.2) 0).trans rfl,(Bv ((hV.block _ d.out.2.1).trans HD.out.2.2) 1).trans rfl,(Bv ((hV.block _ d.out.2.1).trans HD.out.2.2) 2).trans rfl,(Bv ((hV.block _ d.out.2.1).trans HD.out.2.2) 3).trans rfl,(Bv ((hV.block _ d.out.2.1).trans HD.out.2.2) 4).trans rfl,(Bv ((hV.block _ d.out.2.1).trans HD.out.2.2) 5).trans rfl,(Bv ((hV.block _ d.out.2.1).trans HD.out.2.2) 6).trans rfl,(Bv ((hV.block _ d.out.2.1).trans HD.out.2.2) 7).trans rfl,(Bv ((hV.block _ d.out.2.1).trans HD.out.2.2) 8).trans rfl,(hV.cell (p:=(aD b _)) d.out.2.2).trans O.out.1,(hV.cell (p:=(aD b _)) d.out.2.2).trans O.out.2.1,(hV.cell (p:=(aD b _)) d.out.2.2).trans O.out.2.2.1,(hV.cell (p:=(aD b _)) d.out.2.2).trans O.out.2.2.2.1,(hV.cell (p:=(aD b _)) d.out.2.2).trans O.out.2.2.2.2.1,(hV.cell (p:=(aD b _)) d.out.2.2).trans O.out.2.2.2.2.2.1,(hV.cell (p:=(aD b _)) d.out.2.2).trans O.out.2.2.2.2.2.2.1,(hV.cell (p:=(aD b _)) d.out.2.2).trans O.out.2.2.2.2.2.2.2.1,(hV.cell (p:=(aD b _)) d.out.2.2).trans O.out.2.2.2.2.2.2.2.2⟩
         by_cases hcg:cz<0
         ·have qg:decide ((0:Int)<=cz)=false:=by rw[Cu];omega
          have ai:=xI (zA1 totE (p:=entB o) HX.out M.out a0.out (.inr ⟨_,HP.out,by rw[a1.out];exact hcg⟩));clear hcg;go_wp2_with fail;refine wR HS (by kernel_rfl) (HS.out _ F.out.drew) (fun hHeld=>?_);refine oT 0 hHeld ?_
          refine oT 1 hHeld ?_;refine oT 2 hHeld ?_;refine oT 3 hHeld ?_;refine oT 4 hHeld ?_;refine oT 5 hHeld ?_;refine oT 6 hHeld ?_;refine oT 7 hHeld ?_;refine oT 8 hHeld ?_;refine oT 9 hHeld ?_;refine oT 10 hHeld ?_;refine oT 11 hHeld ?_;refine oT 12 hHeld ?_
          refine oO 13 fun K hK=>?_;go_simp;refine (aQ.out _ F.out.drew).mono ?_;rintro e w2 ⟨rfl,hb2⟩;have ad:=xI (F.out.drew.trans (hb2.mono F.out.drew.size));have G:=HS.out w2 ad.out;refine hK _ _ G (oP ?_);refine oT 14 G ?_
          refine oT 15 G ?_;refine oT 16 G ?_;refine oT 17 G ?_;refine oT 18 G ?_;refine oT 19 G ?_;refine oT 20 G ?_;refine oT 21 G ?_;refine oT 22 G ?_;refine oT 23 G ?_;refine oT 24 G ?_;refine oT 25 G ?_;refine oT 26 G ?_;refine oT 27 G ?_
          refine oO 28 fun K hK=>?_;go_simp;refine (az.out w2 ad.out).mono ?_;rintro e w3 ⟨rfl,hb3⟩;have ak:=xI (ad.out.trans (hb3.mono ad.out.size));have aa:=HS.out w3 ak.out;refine hK _ _ aa (oP ?_);refine oT 29 aa ?_
          refine oT 30 aa ?_;refine oT 31 aa ?_
          refine wD ?_;go_wp2_with fail
          go_roundw
          case rel=>exact⟨q+1,by go_num,by omega,ai.out,Z.out.trans (ak.out.mono Z.out.size)⟩
          case measure=>simp[intOf];omega
         ·have qg:decide ((0:Int)<=cz)=true:=by rw[Bf];omega
          have HU:Hid (y=false):=xI (by rw[an.out,zBl (p:=entB o) (c:=cmpE) HX.out (.inr ⟨aZ.out,_,HP.out,by rw[a1.out];exact hcg⟩)]);clear hcg;go_wp2_with fail;refine wR HS (by kernel_rfl) (HS.out _ F.out.drew) (fun hHeld=>?_);refine oT 0 hHeld ?_
          refine oT 1 hHeld ?_;refine oT 2 hHeld ?_;refine oT 3 hHeld ?_;refine oT 4 hHeld ?_;refine oT 5 hHeld ?_;refine oT 6 hHeld ?_;refine oT 7 hHeld ?_;refine oT 8 hHeld ?_;refine oT 9 hHeld ?_;refine oT 10 hHeld ?_;refine oT 11 hHeld ?_;refine oT 12 hHeld ?_
          refine oO 13 fun K hK=>?_;go_simp;refine (aQ.out _ F.out.drew).mono ?_;rintro e w2 ⟨rfl,hb2⟩;have ad:=xI (F.out.drew.trans (hb2.mono F.out.drew.size));have G:=HS.out w2 ad.out;refine hK _ _ G (oP ?_);refine oT 14 G ?_
          refine oT 15 G ?_;refine oT 16 G ?_;refine oT 17 G ?_;refine oT 18 G ?_;refine oT 19 G ?_;refine oT 20 G ?_;refine oT 21 G ?_;refine oT 22 G ?_;refine oT 23 G ?_;refine oT 24 G ?_;refine oT 25 G ?_;refine oT 26 G ?_;refine oT 27 G ?_
          refine oO 28 fun K hK=>?_;go_simp;refine (az.out w2 ad.out).mono ?_;rintro e w3 ⟨rfl,hb3⟩;have ak:=xI (ad.out.trans (hb3.mono ad.out.size));have aa:=HS.out w3 ak.out;refine hK _ _ aa (oP ?_);refine oT 29 aa ?_
          refine oT 30 aa ?_;refine oT 31 aa ?_
          refine wD ?_;go_wp2;go_ret;exact⟨zAb HU.out.symm,P.out.trans ((Z.out.trans (ak.out.mono Z.out.size)).mono P.out.size)⟩
     ·have bH:((la:Int) != o)=true:=by simpa using hlen
      have HU:Hid (y=false):=xI (by rw[an.out,zBl (p:=entB o) (c:=cmpE) HX.out (.inl (by show (decide ((I.length:Int)=o)&&(!B||isZ f))=_;rw[bd.out,Ci hlen,Bool.false_and]))]);clear hlen;have HD:Hid (W2.cell? (aH w 1)=some (vI i6 o)/\W2.cell? (aH w 5)=some (vS (some (aD b l)) ne cE)/\W2.heap[bx]?=some (.cells #[vS A2 la H,.bool B,vI i6 a,vI i6 i,vT st,vS A3 n3 s3,vS A4 n4 s4,vS A5 n5 s5,vS A6 n6 s6] 68 (0,0))):=xI ⟨ao.out.1,ao.out.2,aL.out⟩;have d:=ae;clear ao aL ae aj;have HS:Hid (∀ V,bW W2 V->V.cell? (aH w 1)=some (vI i6 o)/\V.cell? (aH w 5)=some (vS (some (aD b l)) ne cE)/\V.cell? (aD bx 0)=some (vS A2 la H)/\V.cell? (aD bx 1)=some (.bool B)/\V.cell? (aD bx 2)=some (vI i6 a)/\V.cell? (aD bx 3)=some (vI i6 i)/\V.cell? (aD bx 4)=some (vT st)/\V.cell? (aD bx 5)=some (vS A3 n3 s3)/\V.cell? (aD bx 6)=some (vS A4 n4 s4)/\V.cell? (aD bx 7)=some (vS A5 n5 s5)/\V.cell? (aD bx 8)=some (vS A6 n6 s6)):=xI fun V hV=>by
       have hz:W2.heap.size<=V.heap.size:=hV.size;exact⟨(hV.cell (p:=(aH w 1)) d.out.1).trans HD.out.1,(hV.cell (p:=(aH w 5)) d.out.1).trans HD.out.2.1,(Bv ((hV.block _ d.out.2.1).trans HD.out.2.2) 0).trans rfl,(Bv ((hV.block _ d.out.2.1).trans HD.out.2.2) 1).trans rfl,(Bv ((hV.block _ d.out.2.1).trans HD.out.2.2) 2).trans rfl,(Bv ((hV.block _ d.out.2.1).trans HD.out.2.2) 3).trans rfl,(Bv ((hV.block _ d.out.2.1).trans HD.out.2.2) 4).trans rfl,(Bv ((hV.block _ d.out.2.1).trans HD.out.2.2) 5).trans rfl,(Bv ((hV.block _ d.out.2.1).trans HD.out.2.2) 6).trans rfl,(Bv ((hV.block _ d.out.2.1).trans HD.out.2.2) 7).trans rfl,(Bv ((hV.block _ d.out.2.1).trans HD.out.2.2) 8).trans rfl⟩
      go_wp2_with fail;refine wR HS (by kernel_rfl) (HS.out _ F.out.drew) (fun hHeld=>?_);refine oT 0 hHeld ?_
      refine oT 1 hHeld ?_;refine oT 2 hHeld ?_;refine oT 3 hHeld ?_;refine oT 4 hHeld ?_;refine oT 5 hHeld ?_;refine oT 6 hHeld ?_
      refine oU 7 hHeld ?_
      refine oU 8 hHeld ?_;refine oU 9 hHeld ?_;refine oU 10 hHeld ?_;refine oU 11 hHeld ?_;refine oU 12 hHeld ?_
      refine zAu 13 (by kernel_rfl) rfl (by rfl) hHeld (oP ?_);refine oU 14 hHeld ?_;refine oU 15 hHeld ?_;refine oT 16 hHeld ?_;refine oT 17 hHeld ?_;refine oU 18 hHeld ?_
      refine oU 19 hHeld ?_;refine oU 20 hHeld ?_;refine oU 21 hHeld ?_;refine oU 22 hHeld ?_;refine oU 23 hHeld ?_;refine oU 24 hHeld ?_;refine oU 25 hHeld ?_;refine oU 26 hHeld ?_;refine oU 27 hHeld ?_
      refine zAu 28 (by kernel_rfl) rfl (by rfl) hHeld (oP ?_);refine oU 29 hHeld ?_;refine oU 30 hHeld ?_;refine oT 31 hHeld ?_;refine wD ?_;have bb:=xI F.out.drew;go_wp2;go_ret;exact⟨zAb HU.out.symm,P.out.trans ((Z.out.trans (bb.out.mono Z.out.size)).mono P.out.size)⟩
    ·have bM:Hid (zA5 (entB o) cmpE s=true):=xI (by
      have a8:s.take q=s:=B8 (by have:=aw.out;omega);rw[<-a8];exact M.out)
     have HU:Hid (y=true):=xI (by rw[an.out,bM.out]);have bO:=xI al;clear hb al e0 e1 e2 e3 e4 e5 g1 M;go_wp2;go_ret;exact⟨zAb HU.out.symm,bO.out⟩
end Go.Proofs.YteedihhdcbepmaaGreat
