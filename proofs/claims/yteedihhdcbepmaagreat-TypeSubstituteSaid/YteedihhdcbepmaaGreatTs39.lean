/- What the document's test of a node returns: .. -/
import Derived.Test.YteedihhdcbepmaaGreatTsZ
import Derived.Test.YteedihhdcbepmaaGreatTs22
import Derived.Test.YteedihhdcbepmaaGreatTs38
set_option maxRecDepth 100000
set_option maxHeartbeats 6400000
set_option linter.all false
open Go.Value renaming slice→vS,int→vI,string→vT
open Go.IntKind renaming i64→i6
open Go.Proofs.Tryz renaming prog→tP
namespace Go.Proofs.YteedihhdcbepmaaGreat
open Go Go.RowKit
theorem zO7 (k:Nat) (v:Vl) (cs:List Value) (w:World) (h:VS k w w.heap.size v cs) (hkd:zAn v≠8/\zAn v≠9):Calls tP 120 #[.agg cs.toArray] w fun e w'=>e=.returned (.bool (nodeV v))/\bW w w':=by
 cases k with
 | zero=>exact h.elim
 | succ k=>
 obtain⟨l,F,n,f,c,d,N⟩:=v;have am:=xI hkd;clear hkd;obtain⟨uk,uy,ue,ul,rfl,aB,aA,an,hk,ad,he,ae⟩:=h;obtain⟨A,cA,rfl,ar⟩:=hk.form;obtain⟨Y,cY,rfl,ao⟩:=ad.form;obtain⟨E,cE,rfl,au⟩:=he.form;obtain⟨L,cL,rfl,U⟩:=ae.form;have aK:=xI hk;have a2:=xI ad;have a3:=xI he;have ay:=xI ae;have al:=xI (aN an (aN ar (aN ao (aN au U))));clear hk ad he ae aB aA an ar ao au U;have HR:Hid (nodeV (.mk l F n f c d N)=(zAj N&&usesB l F n f c d&&kindB l F n f c d)):=xI rfl;generalize nodeV (.mk l F n f c d N)=y at HR ⊢;obtain⟨W,hW⟩:∃ W,W=w.alloc (oV l F ⟨n.toArray⟩ A f.length cA Y c.length cY E d.length cE L N.length cL):=⟨_,rfl⟩;have aw:bW w W:=by rw[hW];exact yR.alloc lR _
 have d0:W.cell? (aH w 0)=some (vI i6 l):=by rw[hW];simp
 have d1:W.cell? (aH w 1)=some (vI i6 F):=by rw[hW];simp
 have d2:W.cell? (aH w 2)=some (vT ⟨n.toArray⟩):=by rw[hW];simp
 have d3:W.cell? (aH w 3)=some (vS A f.length cA):=by rw[hW];simp
 have d4:W.cell? (aH w 4)=some (vS Y c.length cY):=by rw[hW];simp
 have d5:W.cell? (aH w 5)=some (vS E d.length cE):=by rw[hW];simp
 have d6:W.cell? (aH w 6)=some (vS L N.length cL):=by rw[hW];simp
 have P:w.heap.size<W.heap.size:=by rw[hW];simp
 have HB:=xI aw;clear aw;go_enter Tryz.func120,Tryz.ntmps120;go_wp2_with fail;rw[<-hW];clear hW;generalize hnl:N.length=nl at *;have ab:=xI hnl;clear hnl
 go_loopw [3] (fun i wr=>∃ j:Nat,i=vI i6 j/\j<=nl/\zAj (N.take j)=true/\bW W wr) (fun i _=>nl-(intOf i).toNat)
 case atStart=>exact⟨0,rfl,by omega,by simp[zAj,AscC],Bw _ _⟩
 case round=>
  obtain⟨j,rfl,hj,aa,hb⟩:=hrel;have Q:=xI aa;clear aa;have e6:wr.cell? (aH w 6)=some (vS L nl cL):=(hb.cell (p:=(aH w 6)) P).trans d6;by_cases hjn:j<nl
  ·have ag:bW w wr:=HB.out.trans (hb.mono HB.out.size);obtain⟨b,O,ai,x0,hu,ax,⟨x,hx,ap,aE⟩,c0⟩:=(ay.out.on ag (fun _ _ h=>h)).at1 (j:=j) (by have:=ab.out;omega);injection hu with hA hNN hcc;subst hA hcc;clear hNN;simp only[Bb,and_true]at ap;subst ap;have T:=zA2 ⟨x.toArray⟩ wr.drew (by simpa [ByteArray.size] using aE);rw[show (⟨x.toArray⟩:ByteArray).data.toList=x from rfl]at T;have HX:=xI hx;have HV:=xI hb;have s:=xI ag;have kn:(j:Int)<(nl:Int):=by omega
   have k0:(0:Int)<=(j:Int):=by omega
   have aI:Hid (varB x=varB x):=xI rfl;generalize hvx:varB x=z at T;have aj:=xI hvx;clear hx hb ag hvx aI;cases z
   ·have HU:Hid (y=false):=xI (by rw[HR.out,zCd HX.out (.inl aj.out)];rfl);go_wp2_with fail;refine Be (S:=fun V=>V.cell? (aH w 6)=some (vS (some (aD b O)) nl cL)/\V.cell? (aD b (O+j))=some (vT ⟨x.toArray⟩)) (by kernel_rfl) ⟨e6,c0⟩ (fun hHeld=>?_);refine oT 0 hHeld ?_
    (iterate 4 refine oY hHeld ?_)
    refine oO 5 fun K hK=>?_;go_simp;refine T.mono ?_;rintro e w2 ⟨rfl,hw2⟩;subst hw2;refine hK _ _ hHeld (oP ?_);refine oT 6 hHeld ?_;refine oT 7 hHeld ?_;refine oU 8 hHeld ?_
    (iterate 15 refine oZ hHeld ?_)
    refine oT 24 hHeld ?_;refine wD ?_;go_wp2;go_ret;exact⟨zAb HU.out.symm,s.out.drew⟩
   ·by_cases hj0:j=0
    ·subst hj0;have ak:=xI (zBp HX.out Q.out aj.out (.inl rfl));have q0:decide ((0:Int)<((0:Nat):Int))=false:=rfl;go_wp2_with fail;refine Be (S:=fun V=>V.cell? (aH w 6)=some (vS (some (aD b O)) nl cL)/\V.cell? (aD b O)=some (vT ⟨x.toArray⟩)) (by kernel_rfl) ⟨e6,by simpa using c0⟩ (fun hHeld=>?_);refine oT 0 hHeld ?_
     (iterate 4 refine oY hHeld ?_)
     refine oO 5 fun K hK=>?_;go_simp;refine T.mono ?_;rintro e w2 ⟨rfl,hw2⟩;subst hw2;refine hK _ _ hHeld (oP ?_);refine oT 6 hHeld ?_
     (iterate 4 refine oY hHeld ?_)
     refine oU 11 hHeld ?_
     (iterate 11 refine oZ hHeld ?_)
     refine oT 23 hHeld ?_;refine oT 24 hHeld ?_;refine wD ?_;go_wp2_with fail
     go_roundw
     case rel=>exact⟨0+1,by go_num,by omega,ak.out,HV.out.drew⟩
     case measure=>simp[intOf];omega
    ·obtain⟨m,hm⟩:∃ m,j=m+1:=⟨j-1,by omega⟩;obtain⟨b',aC,aG,x1,hu,_,⟨p,hp,aq,aP⟩,c1⟩:=(ay.out.on s.out (fun _ _ h=>h)).at1 (j:=m) (by have:=ab.out;omega);injection hu with hA hNN hcc;injection hA with hA;injection hA with g1 g2;subst g1 g2;clear hNN hcc;simp only[Bb,and_true]at aq;subst aq;have HP:Hid (N[j-1]?=some p):=xI (by rw[hm,Eu];exact hp);have aL:Hid (0<j):=xI (by omega);have q0:decide (0<j)=true:=by rw[Bf];omega
     have qm:IntKind.i64.wrap ((j:Int)-1)=(m:Int):=by rw[Br _ (by have:=al.out.2.2.2.2;have:=ab.out;unfold maxLen at *;omega)];omega
     have km:(m:Int)<(nl:Int):=by omega
     have aM:(0:Int)<=(m:Int):=by omega
     have af:=zF1 p x;generalize hgz:Op.bytesLess p x=g at af;have az:=xI af;clear hp hm af hj0;cases g
     ·have HU:Hid (y=false):=xI (by rw[HR.out,zCd HX.out (.inr ⟨aL.out,p,HP.out,by have:=az.out;simpa using this.symm⟩)];rfl);go_wp2_with fail;refine Be (S:=fun V=>V.cell? (aH w 6)=some (vS (some (aD b O)) nl cL)/\V.cell? (aD b (O+j))=some (vT ⟨x.toArray⟩)/\V.cell? (aD b (O+m))=some (vT ⟨p.toArray⟩)) (by kernel_rfl) ⟨e6,c0,c1⟩ (fun hHeld=>?_);refine oT 0 hHeld ?_
      (iterate 4 refine oY hHeld ?_)
      refine oO 5 fun K hK=>?_;go_simp;refine T.mono ?_;rintro e w2 ⟨rfl,hw2⟩;subst hw2;refine hK _ _ hHeld (oP ?_);refine oT 6 hHeld ?_
      (iterate 18 refine oY hHeld ?_)
      refine wD ?_;go_wp2;go_ret;exact⟨zAb HU.out.symm,s.out.drew⟩
     ·have ak:=xI (zBp HX.out Q.out aj.out (.inr ⟨p,HP.out,by have:=az.out;simpa using this.symm⟩));have qj:IntKind.i64.wrap ((j:Int)+1)=(j:Int)+1:=Br _ (by have:=al.out.2.2.2.2;have:=ab.out;unfold maxLen at *;omega);go_wp2_with fail;refine Be (S:=fun V=>V.cell? (aH w 6)=some (vS (some (aD b O)) nl cL)/\V.cell? (aD b (O+j))=some (vT ⟨x.toArray⟩)/\V.cell? (aD b (O+m))=some (vT ⟨p.toArray⟩)) (by kernel_rfl) ⟨e6,c0,c1⟩ (fun hHeld=>?_);refine oT 0 hHeld ?_
      (iterate 4 refine oY hHeld ?_)
      refine oO 5 fun K hK=>?_;go_simp;refine T.mono ?_;rintro e w2 ⟨rfl,hw2⟩;subst hw2;refine hK _ _ hHeld (oP ?_);refine oT 6 hHeld ?_
      (iterate 18 refine oY hHeld ?_)
      refine wD ?_;go_wp2_with fail
      go_roundw
      case rel=>exact⟨j+1,by go_num,by omega,ak.out,HV.out.drew⟩
      case measure=>simp[intOf];omega
  ·have R:Hid (zAj N=true):=xI (by
    have aF:N.take j=N:=B8 (by have:=ab.out;omega);rw[<-aF];exact Q.out)
   have s:=xI (HB.out.trans (hb.mono HB.out.size));have aJ:=xI (Bj P hb.size);have e0:wr.cell? (aH w 0)=some (vI i6 l):=(hb.cell (p:=(aH w 0)) P).trans d0;have e1:wr.cell? (aH w 1)=some (vI i6 F):=(hb.cell (p:=(aH w 1)) P).trans d1;have e2:wr.cell? (aH w 2)=some (vT ⟨n.toArray⟩):=(hb.cell (p:=(aH w 2)) P).trans d2;have e3:wr.cell? (aH w 3)=some (vS A f.length cA):=(hb.cell (p:=(aH w 3)) P).trans d3;have e4:wr.cell? (aH w 4)=some (vS Y c.length cY):=(hb.cell (p:=(aH w 4)) P).trans d4;have e5:wr.cell? (aH w 5)=some (vS E d.length cE):=(hb.cell (p:=(aH w 5)) P).trans d5;clear d0 d1 d2 d3 d4 d5 d6 hb P hj Q;have jf:decide ((j:Int)<(nl:Int))=false:=by simp;omega
   have Z:l≠8:=am.out.1;have X:l≠9:=am.out.2;clear am;by_cases hk1:l=1
   ·subst hk1;have D:Hid (y=(usesN 1 F n f.length c.length d.length&&kindB 1 F n f c d)):=xI (by rw[HR.out,R.out,zCr];rfl);clear HR;by_cases hc:n=[]
    case neg=>
     have HU:Hid (y=false):=xI (by rw[D.out];simp[usesN,hc]);have ft:=hc;clear hc;go_wp2;go_ret;exact⟨zAb HU.out.symm,s.out⟩
    have G:=xI hc;have ft:=hc;clear hc;by_cases hc:f.length=0
    case neg=>
     have HU:Hid (y=false):=xI (by rw[D.out];simp[usesN,hc]);have I:0<f.length:=by omega
     have H:decide ((0:Int)<(f.length:Int))=true:=by rw[Bf];omega
     clear hc;go_wp2;go_ret;exact⟨zAb HU.out.symm,s.out⟩
    have J:=xI hc;have I:¬ 0<f.length:=by omega
    have H:decide ((0:Int)<(f.length:Int))=false:=by rw[Cu];omega
    clear hc;by_cases hc:c.length=0
    case neg=>
     have HU:Hid (y=false):=xI (by rw[D.out];simp[usesN,hc]);have B:0<c.length:=by omega
     have t:decide ((0:Int)<(c.length:Int))=true:=by rw[Bf];omega
     clear hc;go_wp2;go_ret;exact⟨zAb HU.out.symm,s.out⟩
    have o:=xI hc;have B:¬ 0<c.length:=by omega
    have t:decide ((0:Int)<(c.length:Int))=false:=by rw[Cu];omega
    clear hc;by_cases hc:d.length=0
    case neg=>
     have HU:Hid (y=false):=xI (by rw[D.out];simp[usesN,hc]);have C:0<d.length:=by omega
     have u:decide ((0:Int)<(d.length:Int))=true:=by rw[Bf];omega
     clear hc;go_wp2;go_ret;exact⟨zAb HU.out.symm,s.out⟩
    have r:=xI hc;have C:¬ 0<d.length:=by omega
    have u:decide ((0:Int)<(d.length:Int))=false:=by rw[Cu];omega
    clear hc;have HU:Hid (y=true):=xI (by rw[D.out];simp[usesN,kindB,G.out,J.out,o.out,r.out]);go_wp2;go_ret;exact⟨zAb HU.out.symm,s.out⟩
   ·by_cases hk2:l=2
    ·subst hk2;have D:Hid (y=(usesN 2 F n f.length c.length d.length&&kindB 2 F n f c d)):=xI (by rw[HR.out,R.out,zCr];rfl);clear HR;by_cases hc:F=0
     case neg=>
      have HU:Hid (y=false):=xI (by rw[D.out];simp[usesN,hc]);have fi:(F != 0)=true:=by simpa using hc
      clear hc;go_wp2;go_ret;exact⟨zAb HU.out.symm,s.out⟩
     have M:=xI hc;have fi:(F != 0)=false:=by simpa using hc
     clear hc;by_cases hc:f.length=0
     case neg=>
      have HU:Hid (y=false):=xI (by rw[D.out];simp[usesN,hc]);have I:0<f.length:=by omega
      have H:decide ((0:Int)<(f.length:Int))=true:=by rw[Bf];omega
      clear hc;go_wp2;go_ret;exact⟨zAb HU.out.symm,s.out⟩
     have J:=xI hc;have I:¬ 0<f.length:=by omega
     have H:decide ((0:Int)<(f.length:Int))=false:=by rw[Cu];omega
     clear hc;by_cases hc:c.length=0
     case neg=>
      have HU:Hid (y=false):=xI (by rw[D.out];simp[usesN,hc]);have B:0<c.length:=by omega
      have t:decide ((0:Int)<(c.length:Int))=true:=by rw[Bf];omega
      clear hc;go_wp2;go_ret;exact⟨zAb HU.out.symm,s.out⟩
     have o:=xI hc;have B:¬ 0<c.length:=by omega
     have t:decide ((0:Int)<(c.length:Int))=false:=by rw[Cu];omega
     clear hc;by_cases hc:d.length=0
     case neg=>
      have HU:Hid (y=false):=xI (by rw[D.out];simp[usesN,hc]);have C:0<d.length:=by omega
      have u:decide ((0:Int)<(d.length:Int))=true:=by rw[Bf];omega
      clear hc;go_wp2;go_ret;exact⟨zAb HU.out.symm,s.out⟩
     have r:=xI hc;have C:¬ 0<d.length:=by omega
     have u:decide ((0:Int)<(d.length:Int))=false:=by rw[Cu];omega
     clear hc;by_cases hf:n.length<=64
     ·have HU:Hid (y=true):=xI (by rw[D.out];simp[usesN,kindB,M.out,J.out,o.out,r.out,hf]);have ff:decide ((n.length:Int)<=64)=true:=by rw[Bf];omega
      clear hf;go_wp2;go_ret;exact⟨zAb HU.out.symm,s.out⟩
     ·have HU:Hid (y=false):=xI (by rw[D.out];simp[usesN,kindB,M.out,J.out,o.out,r.out,hf]);have ff:decide ((n.length:Int)<=64)=false:=by rw[Cu];omega
      clear hf;go_wp2;go_ret;exact⟨zAb HU.out.symm,s.out⟩
    ·by_cases hk3:l=3
     ·subst hk3;have D:Hid (y=(usesN 3 F n f.length c.length d.length&&kindB 3 F n f c d)):=xI (by rw[HR.out,R.out,zCr];rfl);clear HR;by_cases hc:F=0
      case neg=>
       have HU:Hid (y=false):=xI (by rw[D.out];simp[usesN,hc]);have fi:(F != 0)=true:=by simpa using hc
       clear hc;go_wp2;go_ret;exact⟨zAb HU.out.symm,s.out⟩
      have M:=xI hc;have fi:(F != 0)=false:=by simpa using hc
      clear hc;by_cases hc:f.length=0
      case neg=>
       have HU:Hid (y=false):=xI (by rw[D.out];simp[usesN,hc]);have I:0<f.length:=by omega
       have H:decide ((0:Int)<(f.length:Int))=true:=by rw[Bf];omega
       clear hc;go_wp2;go_ret;exact⟨zAb HU.out.symm,s.out⟩
      have J:=xI hc;have I:¬ 0<f.length:=by omega
      have H:decide ((0:Int)<(f.length:Int))=false:=by rw[Cu];omega
      clear hc;by_cases hc:c.length=0
      case neg=>
       have HU:Hid (y=false):=xI (by rw[D.out];simp[usesN,hc]);have B:0<c.length:=by omega
       have t:decide ((0:Int)<(c.length:Int))=true:=by rw[Bf];omega
       clear hc;go_wp2;go_ret;exact⟨zAb HU.out.symm,s.out⟩
      have o:=xI hc;have B:¬ 0<c.length:=by omega
      have t:decide ((0:Int)<(c.length:Int))=false:=by rw[Cu];omega
      clear hc;by_cases hc:d.length=0
      case neg=>
       have HU:Hid (y=false):=xI (by rw[D.out];simp[usesN,hc]);have C:0<d.length:=by omega
       have u:decide ((0:Int)<(d.length:Int))=true:=by rw[Bf];omega
       clear hc;go_wp2;go_ret;exact⟨zAb HU.out.symm,s.out⟩
      have r:=xI hc;have C:¬ 0<d.length:=by omega
      have u:decide ((0:Int)<(d.length:Int))=false:=by rw[Cu];omega
      clear hc;have HU:Hid (y=atomB n):=xI (by rw[D.out];simp[usesN,kindB,M.out,J.out,o.out,r.out]);have ah:=zCy ⟨n.toArray⟩ wr al.out.1;rw[show (⟨n.toArray⟩:ByteArray).data.toList=n from rfl]at ah;generalize atomB n=bt at ah HU;go_wp2_with (go_at_call 115;refine ah.mono ?_;rintro e w2 ⟨rfl,hw2⟩;refine Hid.out ?_);refine xI ?_;subst hw2;go_wp2;go_ret;exact⟨zAb HU.out.symm,s.out⟩
     ·by_cases hk4:l=4
      ·subst hk4;have D:Hid (y=(usesN 4 F n f.length c.length d.length&&kindB 4 F n f c d)):=xI (by rw[HR.out,R.out,zCr];rfl);clear HR;by_cases hc:n=[]
       case neg=>
        have HU:Hid (y=false):=xI (by rw[D.out];simp[usesN,hc]);have ft:=hc;clear hc;go_wp2;go_ret;exact⟨zAb HU.out.symm,s.out⟩
       have G:=xI hc;have ft:=hc;clear hc;by_cases hc:f.length=0
       case neg=>
        have HU:Hid (y=false):=xI (by rw[D.out];simp[usesN,hc]);have I:0<f.length:=by omega
        have H:decide ((0:Int)<(f.length:Int))=true:=by rw[Bf];omega
        clear hc;go_wp2;go_ret;exact⟨zAb HU.out.symm,s.out⟩
       have J:=xI hc;have I:¬ 0<f.length:=by omega
       have H:decide ((0:Int)<(f.length:Int))=false:=by rw[Cu];omega
       clear hc;by_cases hc:c.length=0
       case neg=>
        have HU:Hid (y=false):=xI (by rw[D.out];simp[usesN,hc]);have B:0<c.length:=by omega
        have t:decide ((0:Int)<(c.length:Int))=true:=by rw[Bf];omega
        clear hc;go_wp2;go_ret;exact⟨zAb HU.out.symm,s.out⟩
       have o:=xI hc;have B:¬ 0<c.length:=by omega
       have t:decide ((0:Int)<(c.length:Int))=false:=by rw[Cu];omega
       clear hc;by_cases hc:d.length=0
       case neg=>
        have HU:Hid (y=false):=xI (by rw[D.out];simp[usesN,hc]);have C:0<d.length:=by omega
        have u:decide ((0:Int)<(d.length:Int))=true:=by rw[Bf];omega
        clear hc;go_wp2;go_ret;exact⟨zAb HU.out.symm,s.out⟩
       have r:=xI hc;have C:¬ 0<d.length:=by omega
       have u:decide ((0:Int)<(d.length:Int))=false:=by rw[Cu];omega
       clear hc;by_cases hf:0<=F
       ·have HU:Hid (y=true):=xI (by rw[D.out];simp[usesN,kindB,G.out,J.out,o.out,r.out,hf]);have ff:decide (0<=F)=true:=by rw[Bf];omega
        clear hf;go_wp2;go_ret;exact⟨zAb HU.out.symm,s.out⟩
       ·have HU:Hid (y=false):=xI (by rw[D.out];simp[usesN,kindB,G.out,J.out,o.out,r.out,hf]);have ff:decide (0<=F)=false:=by rw[Cu];omega
        clear hf;go_wp2;go_ret;exact⟨zAb HU.out.symm,s.out⟩
      ·by_cases hk5:l=5
       ·subst hk5;have D:Hid (y=(usesN 5 F n f.length c.length d.length&&kindB 5 F n f c d)):=xI (by rw[HR.out,R.out,zCr];rfl);clear HR;by_cases hc:F=0
        case neg=>
         have HU:Hid (y=false):=xI (by rw[D.out];simp[usesN,hc]);have fi:(F != 0)=true:=by simpa using hc
         clear hc;go_wp2;go_ret;exact⟨zAb HU.out.symm,s.out⟩
        have M:=xI hc;have fi:(F != 0)=false:=by simpa using hc
        clear hc;by_cases hc:n=[]
        case neg=>
         have HU:Hid (y=false):=xI (by rw[D.out];simp[usesN,hc]);have ft:=hc;clear hc;go_wp2;go_ret;exact⟨zAb HU.out.symm,s.out⟩
        have G:=xI hc;have ft:=hc;clear hc;by_cases hc:f.length=0
        case neg=>
         have HU:Hid (y=false):=xI (by rw[D.out];simp[usesN,hc]);have I:0<f.length:=by omega
         have H:decide ((0:Int)<(f.length:Int))=true:=by rw[Bf];omega
         clear hc;go_wp2;go_ret;exact⟨zAb HU.out.symm,s.out⟩
        have J:=xI hc;have I:¬ 0<f.length:=by omega
        have H:decide ((0:Int)<(f.length:Int))=false:=by rw[Cu];omega
        clear hc;by_cases hc:c.length=0
        case neg=>
         have HU:Hid (y=false):=xI (by rw[D.out];simp[usesN,hc]);have B:0<c.length:=by omega
         have t:decide ((0:Int)<(c.length:Int))=true:=by rw[Bf];omega
         clear hc;go_wp2;go_ret;exact⟨zAb HU.out.symm,s.out⟩
        have o:=xI hc;have B:¬ 0<c.length:=by omega
        have t:decide ((0:Int)<(c.length:Int))=false:=by rw[Cu];omega
        clear hc;by_cases hc:d.length=0
        case neg=>
         have HU:Hid (y=false):=xI (by rw[D.out];simp[usesN,hc]);have C:0<d.length:=by omega
         have u:decide ((0:Int)<(d.length:Int))=true:=by rw[Bf];omega
         clear hc;go_wp2;go_ret;exact⟨zAb HU.out.symm,s.out⟩
        have r:=xI hc;have C:¬ 0<d.length:=by omega
        have u:decide ((0:Int)<(d.length:Int))=false:=by rw[Cu];omega
        clear hc;have HU:Hid (y=true):=xI (by rw[D.out];simp[usesN,kindB,M.out,G.out,J.out,o.out,r.out]);go_wp2;go_ret;exact⟨zAb HU.out.symm,s.out⟩
       ·by_cases hk6:l=6
        ·subst hk6;have D:Hid (y=(usesN 6 F n f.length c.length d.length&&kindB 6 F n f c d)):=xI (by rw[HR.out,R.out,zCr];rfl);clear HR;by_cases hc:F=0
         case neg=>
          have HU:Hid (y=false):=xI (by rw[D.out];simp[usesN,hc]);have fi:(F != 0)=true:=by simpa using hc
          clear hc;go_wp2;go_ret;exact⟨zAb HU.out.symm,s.out⟩
         have M:=xI hc;have fi:(F != 0)=false:=by simpa using hc
         clear hc;by_cases hc:n=[]
         case neg=>
          have HU:Hid (y=false):=xI (by rw[D.out];simp[usesN,hc]);have ft:=hc;clear hc;go_wp2;go_ret;exact⟨zAb HU.out.symm,s.out⟩
         have G:=xI hc;have ft:=hc;clear hc;by_cases hc:c.length=0
         case neg=>
          have HU:Hid (y=false):=xI (by rw[D.out];simp[usesN,hc]);have B:0<c.length:=by omega
          have t:decide ((0:Int)<(c.length:Int))=true:=by rw[Bf];omega
          clear hc;go_wp2;go_ret;exact⟨zAb HU.out.symm,s.out⟩
         have o:=xI hc;have B:¬ 0<c.length:=by omega
         have t:decide ((0:Int)<(c.length:Int))=false:=by rw[Cu];omega
         clear hc;by_cases hc:d.length=0
         case neg=>
          have HU:Hid (y=false):=xI (by rw[D.out];simp[usesN,hc]);have C:0<d.length:=by omega
          have u:decide ((0:Int)<(d.length:Int))=true:=by rw[Bf];omega
          clear hc;go_wp2;go_ret;exact⟨zAb HU.out.symm,s.out⟩
         have r:=xI hc;have C:¬ 0<d.length:=by omega
         have u:decide ((0:Int)<(d.length:Int))=false:=by rw[Cu];omega
         clear hc;by_cases hf:f.length<=4
         ·have HU:Hid (y=true):=xI (by rw[D.out];simp[usesN,kindB,M.out,G.out,o.out,r.out,hf]);have ff:decide ((f.length:Int)<=4)=true:=by rw[Bf];omega
          clear hf;go_wp2;go_ret;exact⟨zAb HU.out.symm,s.out⟩
         ·have HU:Hid (y=false):=xI (by rw[D.out];simp[usesN,kindB,M.out,G.out,o.out,r.out,hf]);have ff:decide ((f.length:Int)<=4)=false:=by rw[Cu];omega
          clear hf;go_wp2;go_ret;exact⟨zAb HU.out.symm,s.out⟩
        ·by_cases hk7:l=7
         ·subst hk7;have D:Hid (y=(usesN 7 F n f.length c.length d.length&&kindB 7 F n f c d)):=xI (by rw[HR.out,R.out,zCr];rfl);clear HR;by_cases hc:F=0
          case neg=>
           have HU:Hid (y=false):=xI (by rw[D.out];simp[usesN,hc]);have fi:(F != 0)=true:=by simpa using hc
           clear hc;go_wp2;go_ret;exact⟨zAb HU.out.symm,s.out⟩
          have M:=xI hc;have fi:(F != 0)=false:=by simpa using hc
          clear hc;by_cases hc:n=[]
          case neg=>
           have HU:Hid (y=false):=xI (by rw[D.out];simp[usesN,hc]);have ft:=hc;clear hc;go_wp2;go_ret;exact⟨zAb HU.out.symm,s.out⟩
          have G:=xI hc;have ft:=hc;clear hc;by_cases hc:c.length=0
          case neg=>
           have HU:Hid (y=false):=xI (by rw[D.out];simp[usesN,hc]);have B:0<c.length:=by omega
           have t:decide ((0:Int)<(c.length:Int))=true:=by rw[Bf];omega
           clear hc;go_wp2;go_ret;exact⟨zAb HU.out.symm,s.out⟩
          have o:=xI hc;have B:¬ 0<c.length:=by omega
          have t:decide ((0:Int)<(c.length:Int))=false:=by rw[Cu];omega
          clear hc;by_cases hc:d.length=0
          case neg=>
           have HU:Hid (y=false):=xI (by rw[D.out];simp[usesN,hc]);have C:0<d.length:=by omega
           have u:decide ((0:Int)<(d.length:Int))=true:=by rw[Bf];omega
           clear hc;go_wp2;go_ret;exact⟨zAb HU.out.symm,s.out⟩
          have r:=xI hc;have C:¬ 0<d.length:=by omega
          have u:decide ((0:Int)<(d.length:Int))=false:=by rw[Cu];omega
          clear hc;by_cases hl:f.length=2
          case neg=>
           have av:consB f=false:=by
            match f,hl with
            | [],_=>rfl
            | [_],_=>rfl
            | [_,_],h=>exact absurd rfl h
            | _::_::_::_,_=>rfl
           have HU:Hid (y=false):=xI (by rw[D.out];simp[usesN,kindB,M.out,G.out,o.out,r.out,av]);have fl:((f.length:Int)==2)=false:=by rw[Cm];omega
           clear hl av;go_wp2;go_ret;exact⟨zAb HU.out.symm,s.out⟩
          obtain⟨b,O,ai,x0,x1,x2,x3,x4,x5,x6,hu,ax,⟨x',hx,hv⟩,c0,-,-,-,-,-,-⟩:=(aK.out.on s.out (fun _ _ h=>h)).at7 (j:=1) (by omega);injection hu with hA hNN hcc;subst hA hcc;clear hNN;have hkd:=zNi hv;simp only[D0,Cq]at hkd;subst hkd;have g0:wr.cell? (aD b (O+7))=some (vI i6 (zAn x')):=by simpa using c0
          have hQ:consB f=(decide (zAn x'=5)||decide (zAn x'=7)):=by
           match f,hl,hx with
           | [a,b],_,hx=>
            have:b=x':=by simpa using hx
            rw[this];rfl
          have HQ:=xI hQ;generalize zAn x'=q at g0 HQ;clear hQ hx hv c0 ax;by_cases h5:q=5
          ·subst h5;have hq:=HQ.out;have HU:Hid (y=true):=xI (by rw[D.out];simp[usesN,kindB,M.out,G.out,o.out,r.out,hq]);clear hq;go_wp2;go_ret;exact⟨zAb HU.out.symm,s.out⟩
          ·have aO:(q==5)=false:=by rw[Cm];exact h5
           have hq:=HQ.out;have HU:Hid (y=(q==7)):=xI (by rw[D.out];by_cases h7:q=7<;>simp[usesN,kindB,M.out,G.out,o.out,r.out,hq,h5,h7]);clear hq h5;go_wp2;go_ret;exact⟨zAb HU.out.symm,s.out⟩
         ·have a1:=xI (show l≠1/\l≠2/\l≠3/\l≠4/\l≠5/\l≠6/\l≠7/\l≠8/\l≠9 from⟨hk1,hk2,hk3,hk4,hk5,hk6,hk7,Z,X⟩);have a0:(l==1)=false:=by simpa using hk1
          have aZ:(l==2)=false:=by simpa using hk2
          have aY:(l==3)=false:=by simpa using hk3
          have aX:(l==4)=false:=by simpa using hk4
          have aW:(l==5)=false:=by simpa using hk5
          have aV:(l==6)=false:=by simpa using hk6
          have aU:(l==7)=false:=by simpa using hk7
          have aT:(l==8)=false:=by simpa using Z
          have aS:(l==9)=false:=by simpa using X
          have aR:(l != 8)=true:=by simpa using Z
          have aQ:(l != 9)=true:=by simpa using X
          have HU:Hid (y=false):=xI (by rw[HR.out];simp[kindB,hk1,hk2,hk3,hk4,hk5,hk6,hk7,Z,X]);clear HR hk1 hk2 hk3 hk4 hk5 hk6 hk7 Z X;by_cases hc:F=0
          case neg=>
           have fi:(F != 0)=true:=by simpa using hc
           clear hc;go_wp2;go_ret;exact⟨zAb HU.out.symm,s.out⟩
          have fi:(F != 0)=false:=by simpa using hc
          clear hc;by_cases hc:n=[]
          case neg=>
           have ft:=hc;clear hc;go_wp2;go_ret;exact⟨zAb HU.out.symm,s.out⟩
          have ft:=hc;clear hc;by_cases hc:f.length=0
          case neg=>
           have I:0<f.length:=by omega
           have H:decide ((0:Int)<(f.length:Int))=true:=by rw[Bf];omega
           clear hc;go_wp2;go_ret;exact⟨zAb HU.out.symm,s.out⟩
          have I:¬ 0<f.length:=by omega
          have H:decide ((0:Int)<(f.length:Int))=false:=by rw[Cu];omega
          clear hc;by_cases hc:c.length=0
          case neg=>
           have B:0<c.length:=by omega
           have t:decide ((0:Int)<(c.length:Int))=true:=by rw[Bf];omega
           clear hc;go_wp2;go_ret;exact⟨zAb HU.out.symm,s.out⟩
          have B:¬ 0<c.length:=by omega
          have t:decide ((0:Int)<(c.length:Int))=false:=by rw[Cu];omega
          clear hc;by_cases hc:d.length=0
          case neg=>
           have C:0<d.length:=by omega
           have u:decide ((0:Int)<(d.length:Int))=true:=by rw[Bf];omega
           clear hc;go_wp2;go_ret;exact⟨zAb HU.out.symm,s.out⟩
          have C:¬ 0<d.length:=by omega
          have u:decide ((0:Int)<(d.length:Int))=false:=by rw[Cu];omega
          clear hc;go_wp2;go_ret;exact⟨zAb HU.out.symm,s.out⟩
theorem zFt:zDg:=fun k v cs w h=>by
 by_cases h8:zAn v=8
 ·exact zO9 k v cs w h h8
 ·by_cases h9:zAn v=9
  ·exact zO8 k v cs w h h9
  ·exact zO7 k v cs w h ⟨h8,h9⟩
end Go.Proofs.YteedihhdcbepmaaGreat
