/- What the document's Valid returns, given .. -/
import Derived.Test.YteedihhdcbepmaaGreatTsZ
import Derived.Test.YteedihhdcbepmaaGreatTs11
set_option maxRecDepth 100000
set_option maxHeartbeats 25600000
set_option linter.all false
open Go.Value renaming slice→vS,int→vI,string→vT
open Go.IntKind renaming i64→i6
open Go.Proofs.Tryz renaming prog→tP
namespace Go.Proofs.YteedihhdcbepmaaGreat
open Go Go.RowKit
def nodeV:Vl->Bool
 | .mk k i t v y e l=>zAj l&&usesB k i t v y e&&kindB k i t v y e
def zDg:Prop:=∀ (k:Nat) (v:Vl) (cs:List Value) (w:World),VS k w w.heap.size v cs->Calls tP 120 #[.agg cs.toArray] w fun e w'=>e=.returned (.bool (nodeV v))/\bW w w'
theorem zEs {α:Type}{p:α->Bool}{l:List α}{j:Nat}{x:α}(h:l[j]?=some x):(l.take (j+1)).all p=((l.take j).all p&&p x):=by
 rw[Cr,h,List.all_append];simp
theorem zDf {α:Type}{p:α->Bool}{l:List α}{j:Nat}{x:α}(h:l[j]?=some x) (hx:p x=false):l.all p=false:=by
 rw[Dy];exact⟨x,Bh h,by simp[hx]⟩
theorem zE3 (hN:Hid zDg):∀ (k:Nat) (v:Vl) (cs:List Value) (w:World),VS k w w.heap.size v cs ->
  Calls tP 82 #[.agg cs.toArray] w fun e w'=>e=.returned (.bool (okV v))/\bW w w':=by
 intro k
 induction k with
 | zero=>intro v cs w h;exact h.elim
 | succ k ih=>
  intro v cs w h;have af:=fun V (hV:bW w V)=>hN.out (k+1) v cs V (VS.up hV.size lR (VS.on hV h));obtain⟨u,L,t,d,D,c,m⟩:=v;obtain⟨uk,uy,ue,ul,rfl,_,_,_,hk,ay,he,az⟩:=h;obtain⟨A,cap,rfl,aA⟩:=hk.form;obtain⟨A',B,rfl,aB⟩:=he.form;unfold maxLen at aA aB;have aG:=xI hk;have aJ:=xI he;clear hk he ay az;have IH:=xI ih;clear ih;have HR:Hid (okV (.mk u L t d D c m)=(nodeV (.mk u L t d D c m)&&d.all okV&&c.all okE)):=xI (by rw[okV,zCa,zFf];rfl);generalize okV (.mk u L t d D c m)=y at HR ⊢;generalize nodeV (.mk u L t d D c m)=z1 at af HR;obtain⟨W,hW⟩:∃ W,W=w.alloc (.cells #[vI i6 u,vI i6 L,vT ⟨t.toArray⟩,vS A d.length cap,uy,vS A' c.length B,ul] 33):=⟨_,rfl⟩;have ae:bW w W:=by rw[hW];exact yR.alloc lR _
  have d0:W.cell? (aH w 0)=some (vI i6 u):=by rw[hW];simp
  have d1:W.cell? (aH w 1)=some (vI i6 L):=by rw[hW];simp
  have d2:W.cell? (aH w 2)=some (vT ⟨t.toArray⟩):=by rw[hW];simp
  have d3:W.cell? (aH w 3)=some (vS A d.length cap):=by rw[hW];simp
  have d4:W.cell? (aH w 4)=some uy:=by rw[hW];simp
  have d5:W.cell? (aH w 5)=some (vS A' c.length B):=by rw[hW];simp
  have d6:W.cell? (aH w 6)=some ul:=by rw[hW];simp
  have Y:w.heap.size<W.heap.size:=by rw[hW];simp
  have h1:=af W ae;have HB:=xI ae;clear ae af;go_enter Tryz.func82,Tryz.ntmps82;go_wp2_with fail;rw[<-hW];clear hW;go_wp2_with (go_at_call 120;refine h1.mono ?_;rintro e w1 ⟨rfl,hb1⟩;refine Hid.out ?_);refine xI ?_;clear h1;cases z1
  ·have HU:Hid (y=false):=xI (by rw[HR.out];rfl);go_wp2;go_ret;exact⟨zAb HU.out.symm,HB.out.trans (hb1.mono HB.out.size)⟩
  have am:w1.cell? (aH w 3)=some (vS A d.length cap):=(hb1.cell (p:=(aH w 3)) Y).trans d3;have al:w1.cell? (aH w 5)=some (vS A' c.length B):=(hb1.cell (p:=(aH w 5)) Y).trans d5;have E:w.heap.size<w1.heap.size:=Bj Y hb1.size;replace HB:Hid (bW w w1):=xI (HB.out.trans (hb1.mono HB.out.size));clear d0 d1 d2 d3 d4 d5 d6 Y hb1;go_wp2_with fail
  go_loopw [3] (fun i wr=>∃ j:Nat,i=vI i6 j/\j<=d.length/\(d.take j).all okV=true/\bW w1 wr) (fun i _=>d.length-(intOf i).toNat)
  case atStart=>exact⟨0,rfl,by omega,by simp,Bw _ _⟩
  case round=>
   obtain⟨j,rfl,hj,o,hb⟩:=hrel;have s:=xI o;clear o;have e3:wr.cell? (aH w 3)=some (vS A d.length cap):=(hb.cell (p:=(aH w 3)) E).trans am;have e5:wr.cell? (aH w 5)=some (vS A' c.length B):=(hb.cell (p:=(aH w 5)) E).trans al;by_cases hjn:j<d.length
   ·have r:bW w wr:=HB.out.trans (hb.mono HB.out.size);obtain⟨b,ax,ag,x0,x1,x2,x3,x4,x5,x6,hu,ak,⟨x,hx,hv⟩,c0,c1,c2,c3,c4,c5,c6⟩:=(aG.out.on r (fun _ _ h=>h)).at7 hjn;injection hu with hA _ hcap;subst hA hcap;have M:=xI (zEs (p:=okV) hx);have N:=xI (fun h=>zDf (p:=okV) hx h);have hc:=IH.out x _ wr (VS.up r.size lR (VS.on r hv));have kn:(j:Int)<(d.length:Int):=by omega
    have k0:(0:Int)<=(j:Int):=by omega
    have HV:=xI hb;have J:=xI r;clear hx hv hb r;generalize okV x=z at hc M N;go_wp2_with (go_at_call 82;refine hc.mono ?_;rintro e w2 ⟨rfl,F⟩;refine Hid.out ?_);refine xI ?_;clear hc;cases z
    ·have HU:Hid (y=false):=xI (by rw[HR.out,N.out rfl];simp);have K:=xI (J.out.trans (F.mono J.out.size));clear F;go_wp2;go_ret;exact⟨zAb HU.out.symm,K.out⟩
    ·have Q:=xI (HV.out.trans (F.mono HV.out.size));clear F;go_wp2
     go_roundw
     case rel=>exact⟨j+1,by go_num,by omega,by rw[M.out,s.out];rfl,Q.out⟩
     case measure=>simp[intOf];omega
   ·have aI:Hid (d.all okV=true):=xI (by
     have O:d.take j=d:=B8 (by omega);rw[<-O];exact s.out)
    go_wp2_with fail;rename World=>V;have J:=xI (HB.out.trans (hb.mono HB.out.size));have ab:w.heap.size<V.heap.size:=Bj E hb.size;clear am al e3 hb hj hjn E s
    go_loopw [4] (fun i w2=>∃ j:Nat,i=vI i6 j/\j<=c.length/\(c.take j).all okE=true/\bW V w2) (fun i _=>c.length-(intOf i).toNat)
    case atStart=>exact⟨0,rfl,by omega,by simp,Bw _ _⟩
    case round=>
     obtain⟨j,rfl,hj,o,hb⟩:=hrel;have s:=xI o;clear o;have f5:wr.cell? (aH w 5)=some (vS A' c.length B):=(hb.cell (p:=(aH w 5)) ab).trans e5;by_cases hjn:j<c.length
     ·have r:bW w wr:=J.out.trans (hb.mono J.out.size);obtain⟨b,ax,ag,ya,yb,x0,x1,x2,x3,x4,x5,x6,hu,ak,⟨f,l,g,hx,ua,rs,aj,ha,hr⟩,c0,c1,c2,c3,c4,c5,c6,c7,c8⟩:=(aJ.out.on r (fun _ _ h=>h)).at9 hjn;injection hu with hA _ hcap;subst hA hcap;simp only[Bb]at aj;obtain⟨rfl,rfl,rfl⟩:=aj;obtain⟨A2,I,rfl,aD⟩:=ha.form;unfold maxLen at aD;obtain⟨a,i,st,A3,n3,aq,A4,n4,ap,A5,n5,ao,A6,n6,an,ai⟩:=hr.form7;simp only[Bb,and_true]at ai;obtain⟨rfl,rfl,rfl,rfl,rfl,rfl,rfl⟩:=ai;have M:=xI (zEs (p:=okE) hx);have N:=xI (fun h=>zDf (p:=okE) hx h);have HE:Hid (okE (.mk f l g)=(f.all okV&&(l||okV g))):=xI (by rw[okE,zCa]);generalize okE (.mk f l g)=zE at M N HE;have kn:(j:Int)<(c.length:Int):=by omega
      have k0:(0:Int)<=(j:Int):=by omega
      have HV:=xI hb;have aK:=xI ha;have aF:=xI hr;have X:=xI r;have Z:=xI hjn;clear hx ha hr r hb hj hjn;go_wp2_with fail;rename World=>U;refine nW fun W2 H=>?_;have F:bW U W2:=by rw[H];exact yR.alloc lR _
      have q0:W2.cell? (aH U 0)=some (vS A2 f.length I):=by rw[H];simp
      have q1:W2.cell? (aH U 1)=some (.bool l):=by rw[H];simp
      have HQ:Hid (W2.cell? (aH U 2)=some (vI i6 a)/\W2.cell? (aH U 3)=some (vI i6 i)/\W2.cell? (aH U 4)=some (vT st)/\W2.cell? (aH U 5)=some (vS A3 n3 aq)/\W2.cell? (aH U 6)=some (vS A4 n4 ap)/\W2.cell? (aH U 7)=some (vS A5 n5 ao)/\W2.cell? (aH U 8)=some (vS A6 n6 an)):=xI (by rw[H];simp);have n:U.heap.size<W2.heap.size:=by rw[H];simp
      clear H;have aL:=xI F;have aa:=xI (X.out.trans (F.mono X.out.size));have ar:=xI (HV.out.trans (F.mono HV.out.size));clear F c0 c1 c2 c3 c4 c5 c6 c7 c8 f5;rename ((j:Int)<(c.length:Int))=>kj;rename ((0:Int)<=(j:Int))=>kj0
      go_loopw [6] (fun i w3=>∃ q:Nat,i=vI i6 q/\q<=f.length/\(f.take q).all okV=true/\bW W2 w3) (fun i _=>f.length-(intOf i).toNat)
      case atStart=>exact⟨0,rfl,by omega,by simp,Bw _ _⟩
      case round=>
       obtain⟨q,rfl,hq,o,hb⟩:=hrel;have G:=xI o;clear o;have r0:wr.cell? (aH U 0)=some (vS A2 f.length I):=(hb.cell (p:=(aH U 0)) n).trans q0;by_cases hqn:q<f.length
       ·have r:bW w wr:=aa.out.trans (hb.mono aa.out.size);obtain⟨b2,aw,aE,x0,x1,x2,x3,x4,x5,x6,hu,ak,⟨x,hx,hv⟩,c0,c1,c2,c3,c4,c5,c6⟩:=(aK.out.on r (fun _ _ h=>h)).at7 hqn;injection hu with hA _ hcap;subst hA hcap;have P:=xI (zEs (p:=okV) hx);have R:=xI (fun h=>zDf (p:=okV) hx h);have hc:=IH.out x _ wr (VS.up r.size lR (VS.on r hv));have kn:(q:Int)<(f.length:Int):=by omega
        have k0:(0:Int)<=(q:Int):=by omega
        have au:=xI hb;have T:=xI r;clear hx hv hb r;generalize okV x=z at hc P R;go_wp2_with (go_at_call 82;refine hc.mono ?_;rintro e w4 ⟨rfl,hb4⟩;refine Hid.out ?_);refine xI ?_;clear hc;cases z
        ·have HU:Hid (y=false):=xI (by rw[HR.out,N.out (by rw[HE.out,R.out rfl];rfl)];simp);have K:=xI (T.out.trans (hb4.mono T.out.size));clear hb4;go_wp2;go_ret;exact⟨zAb HU.out.symm,K.out⟩
        ·have Q:=xI (au.out.trans (hb4.mono au.out.size));clear hb4;go_wp2
         go_roundw
         case rel=>exact⟨q+1,by go_num,by omega,by rw[P.out,G.out];rfl,Q.out⟩
         case measure=>simp[intOf];omega
       ·have av:Hid (f.all okV=true):=xI (by
         have O:f.take q=f:=B8 (by omega);rw[<-O];exact G.out)
        have r1:wr.cell? (aH U 1)=some (.bool l):=(hb.cell (p:=(aH U 1)) n).trans q1;have ah:=xI (ar.out.trans (hb.mono ar.out.size));have C:=xI (aa.out.trans (hb.mono aa.out.size));cases l
        ·obtain⟨s2,s3,s4,s5,s6,s7,s8⟩:=HQ.out;have r2:=(hb.cell (p:=(aH U 2)) n).trans s2;have r3:=(hb.cell (p:=(aH U 3)) n).trans s3;have r4:=(hb.cell (p:=(aH U 4)) n).trans s4;have r5:=(hb.cell (p:=(aH U 5)) n).trans s5;have r6:=(hb.cell (p:=(aH U 6)) n).trans s6;have r7:=(hb.cell (p:=(aH U 7)) n).trans s7;have r8:=(hb.cell (p:=(aH U 8)) n).trans s8;have aC:=C.out.mono lR;have ad:=IH.out g _ wr (VS.up C.out.size lR (VS.on C.out aF.out));have S:Hid (zE=okV g):=xI (by rw[HE.out,av.out];rfl);clear s2 s3 s4 s5 s6 s7 s8 hb aC;generalize okV g=z at ad S;go_wp2_with (go_at_call 82;refine ad.mono ?_;rintro e w5 ⟨rfl,hb5⟩;refine Hid.out ?_);refine xI ?_;clear ad;cases z
         ·have HU:Hid (y=false):=xI (by rw[HR.out,N.out S.out];simp);have K:=xI (C.out.trans (hb5.mono C.out.size));clear hb5;go_wp2;go_ret;exact⟨zAb HU.out.symm,K.out⟩
         ·have Q:=xI (ah.out.trans (hb5.mono ah.out.size));clear hb5;go_wp2
          go_roundw
          case rel=>exact⟨j+1,by go_num,by have:=Z.out;omega,by rw[M.out,s.out,S.out];rfl,Q.out⟩
          case measure=>have:=Z.out;simp[intOf];omega
        ·have S:Hid (zE=true):=xI (by rw[HE.out,av.out];rfl);clear hb;go_wp2
         go_roundw
         case rel=>exact⟨j+1,by go_num,by have:=Z.out;omega,by rw[M.out,s.out,S.out];rfl,ah.out⟩
         case measure=>have:=Z.out;simp[intOf];omega
     ·have HU:Hid (y=true):=xI (by
       have O:c.take j=c:=B8 (by omega);rw[HR.out,aI.out,<-O,s.out];rfl)
      have K:=xI (J.out.trans (hb.mono J.out.size));clear hb;go_wp2;go_ret;exact⟨zAb HU.out.symm,K.out⟩
theorem zF1 (a b:List UInt8):Op.bytesLess a b=decide (cmpT a b<0):=by
 have h:=zDr a b;have hr:=zE0 (a:=a) (b:=b);cases hl:Op.bytesLess a b
 ·by_cases he:a=b
  ·subst he;have:=(zBu (a:=a) (b:=a)).2 rfl;simp;omega
  ·have h1:=zE1 hl he;have h2:Lib.compareBytes a b=cmpT a b:=h;rw[h1]at h2;simp;omega
 ·have h1:=hr hl;have h2:Lib.compareBytes a b=cmpT a b:=h;rw[h1]at h2;symm;simp;omega
theorem zBp {l:List (List UInt8)}{j:Nat}{x:List UInt8}(hx:l[j]?=some x) (h:zAj (l.take j)=true) (h2:varB x=true) (h3:j=0\/∃ p,l[j-1]?=some p/\cmpT p x<0):zAj (l.take (j+1))=true:=by
 unfold zAj at h ⊢;rw[Cy,Bf]at h ⊢;have d:=(Bx.1 hx).1;refine⟨by rw[zEs hx,h.1,h2];rfl,zKa totT fun r a b ha hb=>?_⟩;have c:=(Bx.1 hb).1;rw[Bg]at c;rw[Co (by omega)]at ha hb;by_cases hr:r+1=j
 ·subst hr;rw[hb]at hx;injection hx with hx;subst hx;rcases h3 with h3|⟨p,hp,hc⟩
  ·omega
  ·rw[Eu,ha]at hp;injection hp with hp;subst hp;exact hc
 ·exact zH8 h.2 (i:=r) (j:=r+1) (by rw[Co (by omega)];exact ha) (by rw[Co (by omega)];exact hb) (by omega)
theorem zCd {l:List (List UInt8)}{j:Nat}{x:List UInt8}(hx:l[j]?=some x) (h:varB x=false\/0<j/\∃ p,l[j-1]?=some p/\¬ cmpT p x<0):zAj l=false:=by
 unfold zAj;rcases h with h|⟨h0,p,hp,hc⟩
 ·rw[zDf hx h];rfl
 ·rw[Bool.and_eq_false_iff];exact .inr (Ci fun h=>hc (zH8 h hp hx (by omega)))
def zA5 {α:Type}(p:α->Bool) (c:α->α->Int) (l:List α):Bool:=l.all p&&decide (AscC c l)
theorem zHd {α:Type}(p:α->Bool) (c:α->α->Int):zA5 p c []=true:=by simp[zA5,AscC]
theorem zA1 {α:Type}{p:α->Bool}{c:α->α->Int}(T:Tot c){l:List α}{j:Nat}{x:α}(hx:l[j]?=some x) (h:zA5 p c (l.take j)=true) (h2:p x=true) (h3:j=0\/∃ q,l[j-1]?=some q/\c q x<0):zA5 p c (l.take (j+1))=true:=by
 unfold zA5 at h ⊢;rw[Cy,Bf]at h ⊢;have e:=(Bx.1 hx).1;refine⟨by rw[zEs hx,h.1,h2];rfl,zKa T fun r a b ha hb=>?_⟩;have d:=(Bx.1 hb).1;rw[Bg]at d;rw[Co (by omega)]at ha hb;by_cases hr:r+1=j
 ·subst hr;rw[hb]at hx;injection hx with hx;subst hx;rcases h3 with h3|⟨q,hp,hc⟩
  ·omega
  ·rw[Eu,ha]at hp;injection hp with hp;subst hp;exact hc
 ·exact zH8 h.2 (i:=r) (j:=r+1) (by rw[Co (by omega)];exact ha) (by rw[Co (by omega)];exact hb) (by omega)
theorem zBl {α:Type}{p:α->Bool}{c:α->α->Int}{l:List α}{j:Nat}{x:α}(hx:l[j]?=some x) (h:p x=false\/0<j/\∃ q,l[j-1]?=some q/\¬ c q x<0):zA5 p c l=false:=by
 unfold zA5;rcases h with h|⟨h0,q,hp,hc⟩
 ·rw[zDf hx h];rfl
 ·rw[Bool.and_eq_false_iff];exact .inr (Ci fun h=>hc (zH8 h hp hx (by omega)))
theorem zAf {w:World}{g:Nat}{e:TypeId}{z0 z1:Value}(h:w.heap[g]?=some (.cells #[z0,z1] e (0,0))):j2 w g z0 z1:=⟨cH h 0,cH h 1⟩
theorem zMm {n:Nat}{ks:List Int}{fds:List Fd}{r0 r1:Int}:tnB n ⟨13,0,0,[],ks,fds,r0,r1⟩=(ks.all (idxB n)&&(fds.map Fd.node).all (idxB n)&&zA5 (fun x=>keyB x.1 x.2) cmpK (fds.map Fd.key)&&decide (ks.length=0)&&idxB n r0&&idxB n r1):=by
 have h:fds.all (fun f=>keyB f.key.1 f.key.2)=(fds.map Fd.key).all (fun x=>keyB x.1 x.2):=by rw[List.all_map];rfl
 simp[tnB,useB,formB,zNx,zDw,zA5,h]
 ac_rfl
theorem zD1 {n:Nat}{ks:List Int}{fds:List Fd}{r0 r1:Int}(h:(∃ j:Nat,∃ f,fds[j]?=some f/\idxB n f.node=false)\/zA5 (fun x=>keyB x.1 x.2) cmpK (fds.map Fd.key)=false):tnB n ⟨13,0,0,[],ks,fds,r0,r1⟩=false:=by
 rw[zMm];rcases h with⟨j,f,h1,h2⟩|h
 ·have:(fds.map Fd.node).all (idxB n)=false:=by
   rw[Dy];exact⟨f.node,Ep (Bh h1),by rw[h2];decide⟩
  rw[this];simp
 ·rw[h];simp
theorem zRh (ns:List Tn) (root:Int) (A:Option Addr) (c:Nat) (kd lo hi:Int) (tx:List UInt8) (ks:List Int) (fds:List Fd) (r0 r1:Int) (Ak:Option Addr) (ck:Nat) (Af:Option Addr) (cf:Nat) (w:World)
  (hT:TyP w w.heap.size ns root [vS A ns.length c,vI i6 root]) (hN:TnP w w.heap.size ⟨kd,lo,hi,tx,ks,fds,r0,r1⟩ [vI i6 kd,vI i6 lo,vI i6 hi,vT ⟨tx.toArray⟩,vS Ak ks.length ck,vS Af fds.length cf,vI i6 r0,vI i6 r1])
  (hkids:ks.all (idxB ns.length)=true) (hkd:kd=13) :
  Calls tP 75 #[.agg #[vS A ns.length c,vI i6 root],.agg #[vI i6 kd,vI i6 lo,vI i6 hi,vT ⟨tx.toArray⟩,vS Ak ks.length ck,vS Af fds.length cf,vI i6 r0,vI i6 r1]] w fun e w'=>e=.returned (.bool (tnB ns.length ⟨kd,lo,hi,tx,ks,fds,r0,r1⟩))/\bW w w':=by
 have aL:=xI hkd;clear hkd;obtain⟨uk,uf,au,ai,J,z⟩:=hN;simp only[Bb,and_true]at au;obtain⟨_,_,_,_,rfl,rfl,_,_⟩:=au;obtain⟨bk,ok,R,al⟩:=zD6 J;have R:0<ks.length->Ak=some (aD bk ok)/\bk<w.heap.size:=R;have I:ks.length<=maxLen:=by obtain⟨_,_,h,h',_⟩:=J;exact h'.1
 have hF:=WF.start w (oE A ns.length c root) (oX kd lo hi ⟨tx.toArray⟩ Ak ks.length ck Af fds.length cf r0 r1);obtain⟨W,hW⟩:∃ W,W=((w.alloc (oE A ns.length c root)).alloc (oX kd lo hi ⟨tx.toArray⟩ Ak ks.length ck Af fds.length cf r0 r1)):=⟨_,rfl⟩;rw[<-hW]at hF;have HQ:Hid (∀ wq,bW W wq->((jT wq w.heap.size A ns.length c root)/\wq.cell? (aE w 4)=some (vS Ak ks.length ck)/\∀ j k,ks[j]?=some k->wq.cell? (aD bk (ok+j))=some (vI i6 k))):=xI fun wq hb=>by
  have F:=hF.next hb
  refine⟨⟨cH F.t 0,cH F.t 1⟩,cH F.n 4,fun j k hj=>(F.bel.cell (p:=(aD bk (ok+j))) (R (by have:=(Bx.1 hj).1;omega)).2).trans (al j k hj).1⟩
 have HT:Hid (∀ wq,bW W wq->TyP wq w.heap.size ns root [vS A ns.length c,vI i6 root]):=xI fun wq hb=>hT.on (hF.next hb).bel
 have HF:=xI hF;have HK:=xI (aN I (aN R (aN z ai)));clear hF hT al J R z ai;unfold maxLen at I;go_enter Tryz.func75,Tryz.ntmps75;go_wp2_with fail;rw[<-hW];clear hW
 go_loopw [5] (fun iv wr=>∃ j:Nat,iv=vI i6 j/\j<=ks.length/\(∀ m k,m<j->ks[m]?=some k->idxB ns.length k=true)/\bW W wr) (fun i _=>((ks.length:Int)-intOf i).toNat)
 case atStart=>exact⟨0,rfl,by omega,fun m k hm=>absurd hm (by omega),Bw _ _⟩
 case round=>
  obtain⟨j,rfl,hj,L,B⟩:=hrel;have aj:=(HQ.out wr B).2.1;by_cases hjn:j<ks.length
  ·have mp:(j:Int)<(ks.length:Int):=by omega
   have m0:(0:Int)<=(j:Int):=by omega
   have aC:IntKind.i64.wrap ((j:Int)+1)=(j:Int)+1:=Br _ (by omega);have y:=By hjn;generalize ks[j]=kj at y;obtain⟨rfl,aZ⟩:=HK.out.2.1 (by omega);have hd:bW W wr.drew:=B.drew;have hq:=HQ.out _ hd;have HA:=xI (aN hj (aN L B));have hc:=zAy kj wr.drew (HT.out _ hd);have D:Hid (∀ wq,Below wr.drew.heap.size wr.drew wq->((jT wq w.heap.size A ns.length c root)/\wq.cell? (aE w 4)=some (vS (some (aD bk ok)) ks.length ck)/\wq.cell? (aD bk (ok+j))=some (vI i6 kj))):=xI fun wq hb=>by
    have h:=HQ.out wq (hd.trans (hb.mono hd.size));exact⟨h.1,h.2.1,h.2.2 j kj y⟩
   clear L B hq;generalize hkn:ks.length=kl at mp aj D;have aJ:=xI hkn;clear hkn;go_wp2_with fail;clear aj;refine ub 7 (fun wq=>((jT wq w.heap.size A ns.length c root)/\wq.cell? (aE w 4)=some (vS (some (aD bk ok)) kl ck)/\wq.cell? (aD bk (ok+j))=some (vI i6 kj))) (fun _=>True) ?_;refine oM 0 ⟨D.out _ yR,trivial⟩ ?_;refine oM 1 ⟨D.out _ yR,trivial⟩ ?_;refine oM 2 ⟨D.out _ yR,trivial⟩ ?_;refine oM 3 ⟨D.out _ yR,trivial⟩ ?_;refine oM 4 ⟨D.out _ yR,trivial⟩ ?_;refine oM 5 ⟨D.out _ yR,trivial⟩ ?_;refine uo 6 (fun K hK=>?_);go_simp;refine hc.mono ?_;rintro e w5 ⟨rfl,hb5⟩;clear hc;refine hK _ _ ⟨D.out _ hb5,fun _=>trivial⟩ (oQ ?_);clear hK K;refine uo 7 (fun K hK=>?_);go_simp;refine hK _ _ ⟨D.out _ hb5,fun _=>trivial⟩ (oQ ?_);clear hK K;refine (ud ?_) _;cases hix:idxB ns.length kj with
   | false=>
    rw[Cz]at hkids;rw[hkids kj (Bh y)]at hix;exact absurd hix (by decide)
   | true=>
    go_wp2_with fail
    go_roundw
    case rel=>
     refine⟨j+1,by go_num,by omega,fun m k hm hk=>?_,hd.trans (hb5.mono hd.size)⟩;by_cases hmj:m=j
     ·subst hmj;rw[y]at hk;injection hk with hk;rw[<-hk];exact hix
     ·exact HA.out.2.1 m k (by omega) hk
    case measure=>have:=aJ.out;simp[intOf];omega
  ·have mp:¬ (j:Int)<(ks.length:Int):=by omega
   have F:=HF.out.next B
   obtain⟨n0,n1,n2,n3,n4,n5,n6,n7⟩:=zAe F.n;have z:=HK.out.2.2.1;have HB:=xI F.bel;have aA:=xI F;have ak:fds.length<=maxLen:=by obtain⟨_,_,_,h,_⟩:=z;exact h.1
   have HZ:=xI F.siz;have T:Hid (∀ U U',bW wr U->bW U U'->TyP U' w.heap.size ns root [vS A ns.length c,vI i6 root]):=xI fun U U' h1 h2=>HT.out U' ((B.trans (h1.mono B.size)).trans (h2.mono (Ba B.size h1.size)));clear HT L B F I HQ;rename World=>wB;have aK:=xI hkids;clear hkids;obtain rfl:=aL.out;by_cases q0:lo=0
   case neg=>
    clear HK z;go_wp2;go_ret;exact⟨by simp[tnB,useB,formB,q0],HB.out⟩
   by_cases q1:hi=0
   case neg=>
    clear HK z;subst q0;go_wp2;go_ret;exact⟨by simp[tnB,useB,formB,q1],HB.out⟩
   by_cases q2:tx=[]
   case neg=>
    clear HK z;subst q0 q1;have q3:tx.isEmpty=false:=by simpa using q2
    go_wp2;go_ret;exact⟨by simp[tnB,useB,formB,q2],HB.out⟩
   subst q0 q1 q2;clear HK;have aM:=xI z;clear z;generalize hkn:ks.length=nk at *;generalize hfn:fds.length=nf at *;have HN:=xI (aN hkn hfn);clear hkn hfn;go_wp2_with fail
   go_loopw [9] (fun iv wr=>∃ j:Nat,iv=vI i6 j/\j<=nf/\(∀ m f,m<j->fds[m]?=some f->idxB ns.length f.node=true)/\zA5 (fun x=>keyB x.1 x.2) cmpK ((fds.map Fd.key).take j)=true/\bW wB wr) (fun i _=>((nf:Int)-intOf i).toNat)
   case atStart=>exact⟨0,rfl,by omega,fun m f hm=>absurd hm (by omega),by rw[List.take_zero];exact zHd _ _,Bw _ _⟩
   case round=>
    obtain⟨j,rfl,hj,G,Q,af⟩:=hrel;have F2:=aA.out.next af
    obtain⟨n0,n1,n2,n3,n4,n5,n6,n7⟩:=zAe F2.n;have N:=xI G;have M:=xI Q;have ah:=xI af;have E:=xI F2;clear G Q af F2;by_cases hjn:j<nf
    ·have aB:(j:Int)<(nf:Int):=by omega
     have m0:(0:Int)<=(j:Int):=by omega
     have aC:IntKind.i64.wrap ((j:Int)+1)=(j:Int)+1:=Br _ (by unfold maxLen at ak;omega);have an:j<fds.length:=by have:=HN.out.2;omega
     have y:=By an;generalize fds[j]=f at y;have H:RowP w w.heap.size 4 (vS Af nf cf) fds.length (fdR fds):=by have:=aM.out;rw[HN.out.2];exact this
     obtain⟨bf,of,rfl,P,aq,f0,f1,f2,f3⟩:=fd_at H y;obtain⟨⟨k1,k2⟩,fn,fo⟩:=f;have I:k2.length<=maxLen:=aq.2.1;have Y:(fds.map Fd.key)[j]?=some (k1,k2):=by rw[Ch,y];rfl
     have aY:=HZ.out;obtain⟨X,hX,ab,kX,_⟩:=aW wr (.cells #[vI i6 k1,vT ⟨k2.toArray⟩,vI i6 fn,.bool fo] 150 (0,0))
     have V:wr.heap.size<X.heap.size:=by rw[hX];simp
     have hd:bW X X.drew:=yR.drew;have s:bW wB X:=ah.out.trans (ab.mono ah.out.size);have O:Hid (∀ U,bW X U->bW w U/\bW wB U):=xI fun U hU=>by
      have h1:=s.trans (hU.mono s.size);exact⟨HB.out.trans (h1.mono HB.out.size),h1⟩
     have aS:=E.out.siz;have az:Hid (∀ wq,bW X wq->∀ q (v:Value),w.cell? (aD bf q)=some v->wq.cell? (aD bf q)=some v):=xI fun wq h q v hv=>((O.out wq h).1.cell (p:=(aD bf q)) P).trans hv;have l0:=(E.out.bel.cell (p:=(aD bf (of+j*4))) P).trans f0;have l1:=(E.out.bel.cell (p:=(aD bf (of+j*4+1))) P).trans f1;have l2:=(E.out.bel.cell (p:=(aD bf (of+j*4+2))) P).trans f2;have l3:=(E.out.bel.cell (p:=(aD bf (of+j*4+3))) P).trans f3;have HQ:Hid (∀ wq,bW X wq->((jT wq w.heap.size A ns.length c root)/\wq.cell? (aE w 5)=some (vS (some (aD bf of)) nf cf)/\wq.cell? (aH wr 0)=some (vI i6 k1)/\wq.cell? (aH wr 1)=some (vT ⟨k2.toArray⟩)/\wq.cell? (aH wr 2)=some (vI i6 fn))):=xI fun wq h=>by
      have aT:=ab.trans (h.mono (Du V));have F3:=aA.out.next (s.trans (h.mono s.size))
      have kq:=(h.block _ V).trans kX;exact⟨zAf F3.t,(zAe F3.n).2.2.2.2.2.1,cH kq 0,cH kq 1,cH kq 2⟩
     have a1:=xI (aN ab (aN kX V));have aI:=xI H;clear f0 f1 f2 f3 H ab kX V aq an;cases hix:idxB ns.length fn
     case false=>
      have r:=zAy fn X.drew (T.out X X.drew s hd);rw[hix]at r;go_wp2_with fail;rw[<-hX];clear hX;refine wR HQ (by kernel_rfl) (HQ.out _ hd) (fun _=>?_);refine oT 0 (HQ.out _ hd) ?_
      (iterate 2 refine oY (HQ.out _ hd) ?_)
      refine oO 3 fun K hK=>?_;go_simp;refine r.mono ?_;rintro e w2 ⟨rfl,hb2⟩;have l:=hd.trans (hb2.mono hd.size);clear r;refine hK _ _ (HQ.out _ l) (oP ?_);clear hK K;refine oT 4 (HQ.out _ l) ?_;refine oT 5 (HQ.out _ l) ?_;refine oU 6 (HQ.out _ l) ?_;refine oU 7 (HQ.out _ l) ?_;refine zAu 8 (by kernel_rfl) rfl (by rfl) (HQ.out _ l) (oP ?_);refine oU 9 (HQ.out _ l) ?_;refine oT 10 (HQ.out _ l) ?_;refine oT 11 (HQ.out _ l) ?_;refine oU 12 (HQ.out _ l) ?_
      (iterate 11 refine oZ (HQ.out _ l) ?_)
      refine zAu 24 (by kernel_rfl) rfl (by rfl) (HQ.out _ l) (oP ?_);refine oU 25 (HQ.out _ l) ?_;refine oU 26 (HQ.out _ l) ?_;refine oT 27 (HQ.out _ l) ?_;refine wD ?_;go_wp2_with fail;go_ret;exact⟨by rw[zD1 (.inl ⟨_,_,y,hix⟩)];rfl,(O.out _ l).1⟩
     case true=>
      cases hkv:keyB k1 k2
      case false=>
       have r:=zAy fn X.drew (T.out X X.drew s hd);rw[hix]at r;have u:∀ U,Calls tP 116 #[.agg #[vI i6 k1,vT ⟨k2.toArray⟩]] U fun e w'=>e=.returned (.bool (keyB k1 k2))/\bW U w':=fun U=>zBf k1 ⟨k2.toArray⟩ U (by simpa [ByteArray.size] using I);rw[hkv]at u;go_wp2_with fail;rw[<-hX];clear hX;refine wR HQ (by kernel_rfl) (HQ.out _ hd) (fun _=>?_);refine oT 0 (HQ.out _ hd) ?_
       (iterate 2 refine oY (HQ.out _ hd) ?_)
       refine oO 3 fun K hK=>?_;go_simp;refine r.mono ?_;rintro e w2 ⟨rfl,hb2⟩;have l:=hd.trans (hb2.mono hd.size);clear r;refine hK _ _ (HQ.out _ l) (oP ?_);clear hK K;refine oT 4 (HQ.out _ l) ?_
       (iterate 3 refine oY (HQ.out _ l) ?_)
       refine oO 8 fun K hK=>?_;go_simp;refine (u _).mono ?_;rintro e w3 ⟨rfl,hb3⟩;have o:=l.trans (hb3.mono l.size);clear u;refine hK _ _ (HQ.out _ o) (oP ?_);clear hK K;refine oT 9 (HQ.out _ o) ?_
       (iterate 2 refine oY (HQ.out _ o) ?_)
       refine oU 12 (HQ.out _ o) ?_
       (iterate 11 refine oZ (HQ.out _ o) ?_)
       refine zAu 24 (by kernel_rfl) rfl (by rfl) (HQ.out _ o) (oP ?_);refine oU 25 (HQ.out _ o) ?_;refine oU 26 (HQ.out _ o) ?_;refine oT 27 (HQ.out _ o) ?_;refine wD ?_;go_wp2_with fail;go_ret;exact⟨by rw[zD1 (.inr (zBl (x:=(k1,k2)) Y (.inl hkv)))];rfl,(O.out _ o).1⟩
      case true=>
       by_cases hj0:j=0
       case pos=>
        subst hj0;have q0:decide ((0:Int)<((0:Nat):Int))=false:=rfl;simp only[Nat.zero_mul,Ds]at l0 l1 l2 l3;have r:=zAy fn X.drew (T.out X X.drew s hd);rw[hix]at r;have u:∀ U,Calls tP 116 #[.agg #[vI i6 k1,vT ⟨k2.toArray⟩]] U fun e w'=>e=.returned (.bool (keyB k1 k2))/\bW U w':=fun U=>zBf k1 ⟨k2.toArray⟩ U (by simpa [ByteArray.size] using I);rw[hkv]at u;go_wp2_with fail;rw[<-hX];clear hX;refine wR HQ (by kernel_rfl) (HQ.out _ hd) (fun _=>?_);refine oT 0 (HQ.out _ hd) ?_
        (iterate 2 refine oY (HQ.out _ hd) ?_)
        refine oO 3 fun K hK=>?_;go_simp;refine r.mono ?_;rintro e w2 ⟨rfl,hb2⟩;have l:=hd.trans (hb2.mono hd.size);clear r;refine hK _ _ (HQ.out _ l) (oP ?_);clear hK K;refine oT 4 (HQ.out _ l) ?_
        (iterate 3 refine oY (HQ.out _ l) ?_)
        refine oO 8 fun K hK=>?_;go_simp;refine (u _).mono ?_;rintro e w3 ⟨rfl,hb3⟩;have o:=l.trans (hb3.mono l.size);clear u;refine hK _ _ (HQ.out _ o) (oP ?_);clear hK K;refine oT 9 (HQ.out _ o) ?_
        (iterate 5 refine oY (HQ.out _ o) ?_)
        refine oU 15 (HQ.out _ o) ?_
        (iterate 8 refine oZ (HQ.out _ o) ?_)
        refine zAu 24 (by kernel_rfl) rfl (by rfl) (HQ.out _ o) (oP ?_);refine oU 25 (HQ.out _ o) ?_;refine oT 26 (HQ.out _ o) ?_;refine oT 27 (HQ.out _ o) ?_;refine wD ?_;go_wp2_with fail
        go_roundw
        case rel=>exact⟨0+1,by go_num,by omega,fun m f hm hf=>by
          by_cases hmj:m=0
          ·subst hmj;rw[y]at hf;injection hf with hf;rw[<-hf];exact hix
          ·exact N.out m f (by omega) hf,zA1 totK Y M.out hkv (.inl rfl),(O.out _ o).2⟩
        case measure=>simp[intOf];try omega
       case neg=>
        have ao:j-1<fds.length:=by have:=HN.out.2;omega
        have Z:=By ao;generalize fds[j-1]=g at Z;obtain⟨bg,og,ag,a0,aF,ay,ax,_,_⟩:=fd_at aI.out Z;injection ag with ag;injection ag with e1 e2 _;subst e1 e2;obtain⟨⟨g1,g2⟩,gn,go⟩:=g;have ap:(fds.map Fd.key)[j-1]?=some (g1,g2):=by rw[Ch,Z];rfl
        have aU:IntKind.i64.wrap ((j:Int)-1)=((j-1:Nat):Int):=by rw[Br _ (by unfold maxLen at ak;omega)];omega
        have p0:(0:Int)<(j:Int):=by omega
        have q0:decide (0<j)=true:=C8 (by omega);have q9:decide ((0:Int)<(j:Int))=true:=C8 (by omega);have p1:(0:Int)<=((j-1:Nat):Int):=by omega
        have p2:((j-1:Nat):Int)<(nf:Int):=by omega
        replace HQ:Hid (∀ wq,bW X wq->((jT wq w.heap.size A ns.length c root)/\wq.cell? (aE w 5)=some (vS (some (aD bf of)) nf cf)/\wq.cell? (aH wr 0)=some (vI i6 k1)/\wq.cell? (aH wr 1)=some (vT ⟨k2.toArray⟩)/\wq.cell? (aH wr 2)=some (vI i6 fn)/\wq.cell? (aD bf (of+(j-1)*4))=some (vI i6 g1)/\wq.cell? (aD bf (of+(j-1)*4+1))=some (vT ⟨g2.toArray⟩))):=xI fun wq h=>by
         obtain⟨a,b,c',d,e⟩:=HQ.out wq h;exact⟨a,b,c',d,e,az.out wq h _ _ ay,az.out wq h _ _ ax⟩
        clear aF ay ax ao Z;have r:=zAy fn X.drew (T.out X X.drew s hd);rw[hix]at r;have u:∀ U,Calls tP 116 #[.agg #[vI i6 k1,vT ⟨k2.toArray⟩]] U fun e w'=>e=.returned (.bool (keyB k1 k2))/\bW U w':=fun U=>zBf k1 ⟨k2.toArray⟩ U (by simpa [ByteArray.size] using I);rw[hkv]at u;have aa:∀ U,Calls tP 117 #[.agg #[vI i6 g1,vT ⟨g2.toArray⟩],.agg #[vI i6 k1,vT ⟨k2.toArray⟩]] U fun e w'=>e=.returned (vI i6 (cmpK (g1,g2) (k1,k2)))/\bW U w':=fun U=>zCx (g1,g2) (k1,k2) U;generalize hcc:cmpK (g1,g2) (k1,k2)=cc at *;by_cases hc0:0<=cc
        ·go_wp2_with fail;rw[<-hX];clear hX;refine Be (S:=fun wq=>((jT wq w.heap.size A ns.length c root)/\wq.cell? (aE w 5)=some (vS (some (aD bf of)) nf cf)/\wq.cell? (aH wr 0)=some (vI i6 k1)/\wq.cell? (aH wr 1)=some (vT ⟨k2.toArray⟩)/\wq.cell? (aH wr 2)=some (vI i6 fn)/\wq.cell? (aD bf (of+(j-1)*4))=some (vI i6 g1)/\wq.cell? (aD bf (of+(j-1)*4+1))=some (vT ⟨g2.toArray⟩))) (by kernel_rfl) (HQ.out _ hd) (fun _=>?_);refine oT 0 (HQ.out _ hd) ?_
         (iterate 2 refine oY (HQ.out _ hd) ?_)
         refine oO 3 fun K hK=>?_;go_simp;refine r.mono ?_;rintro e w2 ⟨rfl,hb2⟩;have l:=hd.trans (hb2.mono hd.size);clear r;refine hK _ _ (HQ.out _ l) (oP ?_);clear hK K;refine oT 4 (HQ.out _ l) ?_
         (iterate 3 refine oY (HQ.out _ l) ?_)
         refine oO 8 fun K hK=>?_;go_simp;refine (u _).mono ?_;rintro e w3 ⟨rfl,hb3⟩;have o:=l.trans (hb3.mono l.size);clear u;refine hK _ _ (HQ.out _ o) (oP ?_);clear hK K;refine oT 9 (HQ.out _ o) ?_
         (iterate 14 refine oY (HQ.out _ o) ?_)
         refine oO 24 fun K hK=>?_;go_simp;refine (aa _).mono ?_;rintro e w4 ⟨rfl,hb4⟩;have C:=o.trans (hb4.mono o.size);clear aa;refine hK _ _ (HQ.out _ C) (oP ?_);clear hK K;refine oT 25 (HQ.out _ C) ?_
         (iterate 2 refine oY (HQ.out _ C) ?_)
         refine wD ?_;go_wp2_with fail;go_ret;exact⟨by rw[zD1 (.inr (zBl (x:=(k1,k2)) Y (.inr ⟨by omega,(g1,g2),ap,by rw[hcc];omega⟩)))];rfl,(O.out _ C).1⟩
        ·have aX:¬ 0<=cc:=hc0;go_wp2_with fail;rw[<-hX];clear hX;refine Be (S:=fun wq=>((jT wq w.heap.size A ns.length c root)/\wq.cell? (aE w 5)=some (vS (some (aD bf of)) nf cf)/\wq.cell? (aH wr 0)=some (vI i6 k1)/\wq.cell? (aH wr 1)=some (vT ⟨k2.toArray⟩)/\wq.cell? (aH wr 2)=some (vI i6 fn)/\wq.cell? (aD bf (of+(j-1)*4))=some (vI i6 g1)/\wq.cell? (aD bf (of+(j-1)*4+1))=some (vT ⟨g2.toArray⟩))) (by kernel_rfl) (HQ.out _ hd) (fun _=>?_);refine oT 0 (HQ.out _ hd) ?_
         (iterate 2 refine oY (HQ.out _ hd) ?_)
         refine oO 3 fun K hK=>?_;go_simp;refine r.mono ?_;rintro e w2 ⟨rfl,hb2⟩;have l:=hd.trans (hb2.mono hd.size);clear r;refine hK _ _ (HQ.out _ l) (oP ?_);clear hK K;refine oT 4 (HQ.out _ l) ?_
         (iterate 3 refine oY (HQ.out _ l) ?_)
         refine oO 8 fun K hK=>?_;go_simp;refine (u _).mono ?_;rintro e w3 ⟨rfl,hb3⟩;have o:=l.trans (hb3.mono l.size);clear u;refine hK _ _ (HQ.out _ o) (oP ?_);clear hK K;refine oT 9 (HQ.out _ o) ?_
         (iterate 14 refine oY (HQ.out _ o) ?_)
         refine oO 24 fun K hK=>?_;go_simp;refine (aa _).mono ?_;rintro e w4 ⟨rfl,hb4⟩;have C:=o.trans (hb4.mono o.size);clear aa;refine hK _ _ (HQ.out _ C) (oP ?_);clear hK K;refine oT 25 (HQ.out _ C) ?_
         (iterate 2 refine oY (HQ.out _ C) ?_)
         refine wD ?_;go_wp2_with fail
         go_roundw
         case rel=>exact⟨j+1,by go_num,by omega,fun m f hm hf=>by
           by_cases hmj:m=j
           ·subst hmj;rw[y]at hf;injection hf with hf;rw[<-hf];exact hix
           ·exact N.out m f (by omega) hf,zA1 totK Y M.out hkv (.inr ⟨(g1,g2),ap,by rw[hcc];omega⟩),(O.out _ C).2⟩
         case measure=>simp[intOf];try omega
    ·have aB:¬ (j:Int)<(nf:Int):=by omega
     have ae:j=fds.length:=by have:=HN.out.2;omega
     have ar:(fds.map Fd.node).all (idxB ns.length)=true:=by
      rw[Cz];intro x hx;obtain⟨f,hf,rfl⟩:=Cd.1 hx;obtain⟨m,hm⟩:=D4.1 hf;exact N.out m f (by rw[ae];exact (Bx.1 hm).1) hm
     have am:zA5 (fun x=>keyB x.1 x.2) cmpK (fds.map Fd.key)=true:=by
      have h:=M.out;rw[B8 (by rw[Bk,ae];exact Bc _)]at h;exact h
     have HR:=xI (zMm (n:=ns.length) (ks:=ks) (fds:=fds) (r0:=r0) (r1:=r1));rw[aK.out,ar,am,HN.out.1]at HR;obtain⟨t0,t1⟩:=zAf E.out.t;have av:bW w wr:=E.out.bel;have aO:=xI av;have ad:Hid (∀ U,bW wr U->TyP U w.heap.size ns root [vS A ns.length c,vI i6 root]/\U.cell? (aH w 0)=some (vS A ns.length c)/\U.cell? (aH w 1)=some (vI i6 root)/\U.cell? (aE w 7)=some (vI i6 r1)/\bW w U):=xI fun U hU=>by
      have hz:=E.out.siz;have F3:=E.out.next hU
      exact⟨T.out wr U ah.out hU,(zAf F3.t).1,(zAf F3.t).2,(zAe F3.n).2.2.2.2.2.2.2,F3.bel⟩
     clear ar am ae av;by_cases hk0:nk=0
     case neg=>
      have aV:((nk:Int)==0)=false:=by simpa using hk0
      go_wp2;go_ret;exact⟨by rw[HR.out];simp[hk0],aO.out⟩
     case pos=>
      subst hk0;have hc:=zAy r0 wr (ad.out wr yR).1;cases hi0:idxB ns.length r0
      case false=>
       rw[hi0]at hc;go_wp2_with fail;refine hc.mono ?_;rintro e w5 ⟨rfl,hb5⟩;go_wp2;go_ret;exact⟨by rw[HR.out];simp[hi0],(ad.out _ hb5).2.2.2.2⟩
      case true=>
       rw[hi0]at hc;go_wp2_with fail;refine hc.mono ?_;rintro e w5 ⟨rfl,hb5⟩;obtain⟨aw,aQ,aP,aR,_⟩:=ad.out _ hb5;have aG:=zAy r1 w5 aw;clear hc aw t0 t1;go_wp2_with fail;refine aG.mono ?_;rintro e w6 ⟨rfl,hb6⟩;go_wp2;go_ret;exact⟨by rw[HR.out,hi0];simp,(ad.out _ (hb5.trans (hb6.mono hb5.size))).2.2.2.2⟩
end Go.Proofs.YteedihhdcbepmaaGreat
