/- TypeBoolean, given that the sanity check .. -/
import Derived.Test.YteedihhdcbepmaaGreatTb37
set_option maxRecDepth 100000
set_option maxHeartbeats 12800000
open Go.Value renaming slice→vS,int→vI,string→vT
open Go.IntKind renaming i64→i6
open Go.Proofs.Tryz
open Go.Proofs.Tryz renaming prog→tP
namespace Go.Proofs.YteedihhdcbepmaaGreat
open Go Go.RowKit
theorem IntsP.later {w U:World}{A:Option Addr}{n c:Nat}(h:IntsP w A n c) (hb:bW w U):IntsP U A n c:=(RowB.on h hb fun _ _ h=>h).sub (fun b hb2=>by have:=hb.size;omega) fun _ _ h=>h
structure B3 (w w3:World) (S b1 b2:Nat) (s t r:Ty) (As At Ar:Option Addr) (cs ct cr:Nat) (v1 v2:Vl) (xs1 xs2:List Value):Prop where
 hs:TyAt w3 s.1 s.2 As cs
 ht:TyAt w3 t.1 t.2 At ct
 hr:TyAt w3 r.1 r.2 Ar cr
 y1:VS 5 w3 w3.heap.size v1 xs1
 y2:VS 5 w3 w3.heap.size v2 xs2
 o1:okV v1=true
 o2:okV v2=true
 kR:w3.heap[S]?=some (oE Ar r.1.length cr r.2)
 kS:w3.heap[b1]?=some (oE As s.1.length cs s.2)
 kV:w3.heap[b1+1]?=some (.cells xs1.toArray 33 (0,0))
 kT:w3.heap[b2]?=some (oE At t.1.length ct t.2)
 kU:w3.heap[b2+1]?=some (.cells xs2.toArray 33 (0,0))
 lt:S<b1/\b1+1<b2/\b2+1<w3.heap.size
 bel:bW w w3
 s7:SmT 1000 s
 t7:SmT 1000 t
 r7:SmT 1000 r
theorem B3.later {w w3 U:World}{S b1 b2:Nat}{s t r:Ty}{As At Ar:Option Addr}{cs ct cr:Nat}{v1 v2:Vl}{xs1 xs2:List Value}(h:B3 w w3 S b1 b2 s t r As At Ar cs ct cr v1 v2 xs1 xs2) (hb:bW w3 U):B3 w U S b1 b2 s t r As At Ar cs ct cr v1 v2 xs1 xs2:=
 have hl:=h.lt
 ⟨h.hs.later hb,h.ht.later hb,h.hr.later hb,h.y1.later hb,h.y2.later hb,h.o1,h.o2,(hb.block _ (by omega)).trans h.kR,(hb.block _ (by omega)).trans h.kS,(hb.block _ (by omega)).trans h.kV,(hb.block _ (by omega)).trans h.kT,(hb.block _ (by omega)).trans h.kU,⟨hl.1,hl.2.1,by have:=hb.size;omega⟩,h.bel.trans (hb.mono h.bel.size),h.s7,h.t7,h.r7⟩
theorem GenT.smT {ns:List Tn}(h:GenT ns) (hl:ns.length<=7):SmT 1000 (ns,0):=⟨by show ns.length<=1000;omega,h.kid⟩
theorem zOr {ns:List Tn}{r:Int}(h:zEa ns=true):SmT 1000 (ns,r):=⟨by
 unfold zEa at h;simp only[Bool.and_eq_true,decide_eq_true_eq]at h;have:=h.1;show ns.length<=1000;omega,(zK5 (r:=r) h).2⟩
theorem zJr (hA:Hid zOc) (hN:Hid zC3) (A1 A2 A3:Option Addr) (n1 c1 n2 c2 n3 c3:Nat) (rs:List Tn) (rr:Int) (Ar:Option Addr) (cr:Nat) (w:World) (hR1:IntsP w A1 n1 c1) (hn1:n1<=maxLen) (hR2:IntsP w A2 n2 c2) (hn2:n2<=maxLen) (hR3:IntsP w A3 n3 c3) (hn3:n3<=maxLen)
  (hT:TyAt w rs rr Ar cr) (hz:∀ x∈rs,szN x<=2 ^ 60) :
  Calls tP 6 #[vS A1 n1 c1,vS A2 n2 c2,vS A3 n3 c3,.agg #[vS Ar rs.length cr,vI i6 rr]] w fun e w'=>e=.returned (.bool true)/\bW w w':=by
 obtain⟨W0,s,d,aq,q⟩:=aW w (oE Ar rs.length cr rr)
 by_cases h1:(80:Int)<(n1:Int)
 ·have T:=hA.out W0;rw[s]at T;have HB:=xI d;clear hR1 hR2 hR3 hn1 hn2 hn3 d aq q;go_enter func6,ntmps6;go_wp2_with (go_at_call 10;refine T.mono ?_;rintro e w5 ⟨rfl,hb5⟩;replace hb5:=xI hb5);rw[<-s]at hb5;go_ret;exact⟨by first|rfl|simp,HB.out.trans (hb5.out.mono HB.out.size)⟩
 by_cases h2:(80:Int)<(n2:Int)
 ·have T:=hA.out W0;rw[s]at T;have HB:=xI d;clear hR1 hR2 hR3 hn1 hn2 hn3 d aq q;go_enter func6,ntmps6;go_wp2_with (go_at_call 10;refine T.mono ?_;rintro e w5 ⟨rfl,hb5⟩;replace hb5:=xI hb5);rw[<-s]at hb5;go_ret;exact⟨by first|rfl|simp,HB.out.trans (hb5.out.mono HB.out.size)⟩
 by_cases h3:(80:Int)<(n3:Int)
 ·have T:=hA.out W0;rw[s]at T;have HB:=xI d;clear hR1 hR2 hR3 hn1 hn2 hn3 d aq q;go_enter func6,ntmps6;go_wp2_with (go_at_call 10;refine T.mono ?_;rintro e w5 ⟨rfl,hb5⟩;replace hb5:=xI hb5);rw[<-s]at hb5;go_ret;exact⟨by first|rfl|simp,HB.out.trans (hb5.out.mono HB.out.size)⟩
 have a8:=hT.later d;have au:=zMl W0 a8 hz;have HI:=xI (aN hR1 (aN hn1 (aN hR2 (aN hn2 (aN hR3 hn3)))));have H0:=xI (aN a8 (aN d (aN aq q)));obtain⟨x0,x1⟩:=zAg aq;rw[s]at x0 x1;clear hR1 hR2 hR3 hn1 hn2 hn3 d aq q a8 hT hz;cases hsm:zEa rs with
 | false=>
  rw[hsm]at au;go_enter func6,ntmps6;go_wp2_with fail;rw[<-s];clear s x0 x1;refine au.mono ?_;rintro e w0 ⟨rfl,hb0⟩;have Y:=xI hb0;clear au hb0;go_wp2_with (go_at_call 10;refine (hA.out w0).mono ?_;rintro e w5 ⟨rfl,hb5⟩;replace hb5:=xI hb5);go_ret;exact⟨by first|rfl|simp,(H0.out.2.1.trans (Y.out.mono H0.out.2.1.size)).trans (hb5.out.mono (Nat.le_trans H0.out.2.1.size Y.out.size))⟩
 | true=>
 rw[hsm]at au;go_enter func6,ntmps6;go_wp2_with fail;rw[<-s];clear s x0 x1 h1 h2 h3;refine au.mono ?_;rintro e w0 ⟨rfl,hb0⟩;clear au;have P:=H0.out.2.1.trans (hb0.mono H0.out.2.1.size);have hi:=HI.out;have bm:=zHb hN A1 n1 c1 A2 n2 c2 w0 (hi.1.later P) hi.2.1 (hi.2.2.1.later P) hi.2.2.2.1;have Y:=xI (aN hb0 P);clear hb0 P hi;go_wp2_with fail;refine bm.mono ?_;rintro e w1 ⟨ns,csT,v1,csV,rfl,hG1,aB,hl7,hT1,hV1,N,hlb1,hb1⟩;clear bm hlb1;obtain⟨u,rfl,_,r⟩:=id hT1;obtain⟨As,cs,rfl,_⟩:=r.form;obtain⟨k1,i1,x1,M,J,S,L,ak,ag,aj,af,al,ah,am,ai,rfl,rfl⟩:=vb_mk hV1;obtain⟨W1,aw⟩:∃ W1,W1=(w1.alloc (oE As ns.length cs 0)).alloc (oV k1 i1 ⟨x1.toArray⟩ ak M.length ag aj J.length af al S.length ah am L.length ai):=⟨_,rfl⟩;have R:bW w1 W1:=by rw[aw];exact (yR.alloc lR _).alloc (by simp) _
 have kS:W1.heap[w1.heap.size]?=some (oE As ns.length cs 0):=by rw[aw,Below.heap_alloc _ _ _ (by simp)];exact heap_alloc_new w1 _
 have kV:W1.heap[w1.heap.size+1]?=some (oV k1 i1 ⟨x1.toArray⟩ ak M.length ag aj J.length af al S.length ah am L.length ai):=by rw[aw];exact zAf _ (by simp)
 have Z:W1.heap.size=w1.heap.size+2:=by rw[aw];simp
 have ad:bW w0 W1:=hb1.trans (R.mono hb1.size);have m:bW w W1:=Y.out.2.trans (ad.mono Y.out.2.size);have aT:TyAt W1 ns 0 As cs:=(hT1.keep (Same.of_below R fun b hb=>hb.2)).sub fun b hb=>(show b<W1.heap.size by have:=hb.2;omega);have aS:VS 5 W1 W1.heap.size (.mk k1 i1 x1 M J S L) [vI i6 k1,vI i6 i1,vT ⟨x1.toArray⟩,vS ak M.length ag,vS aj J.length af,vS al S.length ah,vS am L.length ai]:=VB.sub (fun b hb=>(show b<W1.heap.size by have:=hb.2;omega)) lR (VB.keep (Same.of_below R fun b hb=>hb.2) hV1);have av:w.heap.size<w1.heap.size/\bW W0 W1:=by
  have h0:=Y.out.1.size;have h1:=hb1.size;have h2:=H0.out.2.2.2;exact⟨by omega,Y.out.1.trans (ad.mono h0)⟩
 have hi:=HI.out;have bk:=zHb hN A3 n3 c3 A2 n2 c2 W1 (hi.2.2.2.2.1.later m) hi.2.2.2.2.2 (hi.2.2.1.later m) hi.2.2.2.1;have aP:=hG1.smT hl7;have H1:=xI (aN aT (aN aS (aN N (aN kS (aN kV (aN m (aN Z (aN av (aN aP (aN hG1 aB))))))))));clear aB hl7 hT1 hV1 N hb1 r R kS kV m aT aS Z ad av hi aP hG1;go_wp2_with fail;rw[<-aw];clear aw;refine bk.mono ?_;rintro e w2 ⟨ms,csT,v2,csV,rfl,hG2,aQ,hl27,hT2,hV2,hok2,hlb2,hb2⟩;clear bk hlb2;obtain⟨u,rfl,_,r⟩:=id hT2;obtain⟨At,ct,rfl,_⟩:=r.form;obtain⟨k2,i2,x2,ap,an,ax,ao,aL,aG,aK,aF,aM,aI,aO,aJ,rfl,rfl⟩:=vb_mk hV2;obtain⟨W2,ae⟩:∃ W2,W2=(w2.alloc (oE At ms.length ct 0)).alloc (oV k2 i2 ⟨x2.toArray⟩ aL ap.length aG aK an.length aF aM ax.length aI aO ao.length aJ):=⟨_,rfl⟩;have Q:bW w2 W2:=by rw[ae];exact (yR.alloc lR _).alloc (by simp) _
 have kT:W2.heap[w2.heap.size]?=some (oE At ms.length ct 0):=by rw[ae,Below.heap_alloc _ _ _ (by simp)];exact heap_alloc_new w2 _
 have kU:W2.heap[w2.heap.size+1]?=some (oV k2 i2 ⟨x2.toArray⟩ aL ap.length aG aK an.length aF aM ax.length aI aO ao.length aJ):=by rw[ae];exact zAf _ (by simp)
 have aV:W2.heap.size=w2.heap.size+2:=by rw[ae];simp
 have k:bW W1 W2:=hb2.trans (Q.mono hb2.size);have aD:B3 w W2 w.heap.size w1.heap.size w2.heap.size (ns,0) (ms,0) (rs,rr) As At Ar cs ct cr (.mk k1 i1 x1 M J S L) (.mk k2 i2 x2 ap an ax ao) [vI i6 k1,vI i6 i1,vT ⟨x1.toArray⟩,vS ak M.length ag,vS aj J.length af,vS al S.length ah,vS am L.length ai] [vI i6 k2,vI i6 i2,vT ⟨x2.toArray⟩,vS aL ap.length aG,vS aK an.length aF,vS aM ax.length aI,vS aO ao.length aJ]:=by
  obtain⟨aT,aS,N,kS,kV,m,Z,av,aP,_⟩:=H1.out;have h2:=hb2.size;exact⟨TyAt.later aT k,(hT2.keep (Same.of_below Q fun b hb=>hb.2)).sub fun b hb=>(show b<W2.heap.size by have:=hb.2;omega),TyAt.later (TyAt.later H0.out.1 av.2) k,aS.later k,
   VB.sub (fun b hb=>(show b<W2.heap.size by have:=hb.2;omega)) lR (VB.keep (Same.of_below Q fun b hb=>hb.2) hV2),N,hok2,(k.block _ (by omega)).trans ((av.2.block _ (by have:=H0.out.2.2.2;omega)).trans H0.out.2.2.1),(k.block _ (by omega)).trans kS,(k.block _ (by omega)).trans kV,kT,kU,⟨av.1,by omega,by omega⟩,m.trans (k.mono m.size),aP,hG2.smT hl27,zOr hsm⟩
 have bD:Hid (WfT (ns,0)/\WfT (ms,0)):=xI ⟨WfT.mk H1.out.2.2.2.2.2.2.2.2.2.1.wf (Int.le_refl 0) (by have:=H1.out.2.2.2.2.2.2.2.2.2.2;show (0:Int)<(ns.length:Int);omega),WfT.mk hG2.wf (Int.le_refl 0) (by show (0:Int)<(ms.length:Int);omega)⟩;have ar:=zMb W2 aD.hr (Nat.le_trans aD.r7.1 (by decide));obtain⟨r0,r1⟩:=zAg aD.kR;rw[ae]at r0 r1;have H3:=xI aD;clear aQ hl27 hT2 hV2 hok2 hb2 r Q kT kU aV k aD hG2 Y HI H0 H1;go_wp2_with fail;rw[<-ae];clear ae r0 r1;refine ar.mono ?_;rintro e w3 ⟨rfl,hb3⟩;clear ar;have bA:=xI (H3.out.later hb3);clear hb3 H3;generalize hzz:wfC rs rr=z at *;have HZ:=xI hzz;clear hzz;go_wp2_with fail;obtain⟨bd,aC⟩:∃ bd,bd=(z != 0):=⟨_,rfl⟩;rw[<-aC];have bz:Hid (bd=true->∀ v,memT v (rs,rr)=false):=xI fun h v=>by
  unfold memT;rw[show decide (wfC (rs,rr).1 (rs,rr).2=0)=false from decide_eq_false (fun h0=>by
   have h1:z=0:=HZ.out.symm.trans h0;rw[aC,h1]at h;cases h)]
  rfl
 clear aC HZ
 go_loopw [14] (fun iv wr=>∃ i:Nat,iv=vI i6 i/\i<=2/\bW w3 wr) (fun i _=>((2:Int)-intOf i).toNat)
 case atStart=>exact⟨0,rfl,by omega,Below.refl _ _⟩
 case round=>
  obtain⟨i,rfl,hi,aZ⟩:=hrel;have X:=xI (bA.out.later aZ);have aU:=xI aZ;clear aZ;by_cases hin:i<2
  ·obtain⟨a0,a1,a2,a3,a4,a5,a6⟩:=zAc X.out.kV;obtain⟨X1,a7,ab,bf,_⟩:=aW wr (oV k1 i1 ⟨x1.toArray⟩ ak M.length ag aj J.length af al S.length ah am L.length ai)
   obtain⟨b0,b1,b2,b3,b4,b5,b6⟩:=zAc ((ab.block _ X.out.lt.2.2).trans X.out.kU);rw[a7]at b0 b1 b2 b3 b4 b5 b6;have bt:=xI (aN a7 (aN ab bf));clear a7 ab bf;have p:=X.out;rcases (show i=0\/i=1 by omega)with rfl|rfl
   case' inl=>
    go_wp2_with fail;obtain⟨k0,i0,x0,j,f,l,g,E,A,D,y,F,B,G,C,hv,hw⟩:∃ k0 i0 x0 j f l g E A D y F B G C,(VS 5 wr wr.heap.size (.mk k0 i0 x0 j f l g) [vI i6 k0,vI i6 i0,vT ⟨x0.toArray⟩,vS E j.length A,vS D f.length y,vS F l.length B,vS G g.length C]/\okV (.mk k0 i0 x0 j f l g)=true)/\wr.alloc (oV k1 i1 ⟨x1.toArray⟩ ak M.length ag aj J.length af al S.length ah am L.length ai)=wr.alloc (oV k0 i0 ⟨x0.toArray⟩ E j.length A D f.length y F l.length B G g.length C):=⟨k1,i1,x1,M,J,S,L,ak,ag,aj,af,al,ah,am,ai,⟨p.y1,p.o1⟩,rfl⟩;rw[hw];clear hw a0 a1 a2 a3 a4 a5 a6 b0 b1 b2 b3 b4 b5 b6 bt p
   case' inr=>
    go_wp2_with fail;obtain⟨k0,i0,x0,j,f,l,g,E,A,D,y,F,B,G,C,hv,hw⟩:∃ k0 i0 x0 j f l g E A D y F B G C,(VS 5 wr wr.heap.size (.mk k0 i0 x0 j f l g) [vI i6 k0,vI i6 i0,vT ⟨x0.toArray⟩,vS E j.length A,vS D f.length y,vS F l.length B,vS G g.length C]/\okV (.mk k0 i0 x0 j f l g)=true)/\wr.alloc (oV k2 i2 ⟨x2.toArray⟩ aL ap.length aG aK an.length aF aM ax.length aI aO ao.length aJ)=wr.alloc (oV k0 i0 ⟨x0.toArray⟩ E j.length A D f.length y F l.length B G g.length C):=⟨k2,i2,x2,ap,an,ax,ao,aL,aG,aK,aF,aM,aI,aO,aJ,⟨p.y2,p.o2⟩,rfl⟩;rw[hw];clear hw a0 a1 a2 a3 a4 a5 a6 b0 b1 b2 b3 b4 b5 b6 bt p
   all_goals (
    obtain⟨X0,bn,aR,kX,_⟩:=aW wr (oV k0 i0 ⟨x0.toArray⟩ E j.length A D f.length y F l.length B G g.length C);rw[<-bn]
    have bh:wr.heap.size<X0.heap.size:=(Array.getElem?_eq_some_iff.1 kX).1;have c:=X.out.later aR;have I:=hv.2;have H:=VS.later hv.1 aR;have V:=xI (aU.out.trans (aR.mono aU.out.size));clear hv bn aR X aU;have HQ:Hid (∀ wq,bW X0 wq->(jV wq wr.heap.size k0 i0 ⟨x0.toArray⟩ E j.length A D f.length y F l.length B G g.length C)/\(jT wq w1.heap.size As ns.length cs 0)/\(jT wq w2.heap.size At ms.length ct 0)/\(jT wq w.heap.size Ar rs.length cr rr)):=xI fun wq h=>⟨zAc ((h.block _ bh).trans kX),zAg ((h.block _ (by have:=c.lt;omega)).trans c.kS),zAg ((h.block _ (by have:=c.lt;omega)).trans c.kT),zAg ((h.block _ (by have:=c.lt;omega)).trans c.kR)⟩;obtain⟨a,ha⟩:∃ a,a=memT (.mk k0 i0 x0 j f l g) (ns,0):=⟨_,rfl⟩;obtain⟨b,hb⟩:∃ b,b=memT (.mk k0 i0 x0 j f l g) (ms,0):=⟨_,rfl⟩;have aB:ns.length<=1000000:=Nat.le_trans c.s7.1 (by decide);have aQ:ms.length<=1000000:=Nat.le_trans c.t7.1 (by decide);have aa:∀ t∈([(ns,0),(ms,0)]:List Ty),SmT 10000 t:=fun t ht=>by
     simp at ht;rcases ht with rfl|rfl
     ·exact c.s7.mono (by decide)
     ·exact c.t7.mono (by decide)
    have az:=aa;have ay:∀ t∈([(ns,0),(rs,rr)]:List Ty),SmT 10000 t:=fun t ht=>by
     simp at ht;rcases ht with rfl|rfl
     ·exact c.s7.mono (by decide)
     ·exact c.r7.mono (by decide)
    have aY:∀ t:Ty,SmT 1000 t->SmT 10000 (compT 18 [accT t]):=fun t h=>(zGn (n:=1000) (fun u hu=>by
     rw[List.mem_singleton.1 hu];exact⟨zBy t,zC2 h (by decide)⟩) (by simp)).mono (by simp)
    have bi:(compT 18 [accT (ns,0)]).1.length<=1000000:=Nat.le_trans (aY _ c.s7).1 (by decide);have aA:∀ t∈([(ns,0),compT 18 [accT (ms,0)]]:List Ty),SmT 10000 t:=fun t ht=>by
     rcases List.mem_cons.1 ht with rfl|ht
     ·exact c.s7.mono (by decide)
     ·rw[List.mem_singleton.1 ht];exact aY _ c.t7
    have bx:Hid (∀ U,bW X0 U->Calls tP 26 #[.agg #[vI i6 k0,vI i6 i0,vT ⟨x0.toArray⟩,vS E j.length A,vS D f.length y,vS F l.length B,vS G g.length C],.agg #[vS As ns.length cs,vI i6 0]] U fun e w'=>e=.returned (.bool a)/\bW X0 w'):=xI fun U hU=>by rw[ha];exact zM4 hN (ns,0) X0 U hU (c.hs.later hU) H I aB
    have bw:Hid (∀ U,bW X0 U->Calls tP 26 #[.agg #[vI i6 k0,vI i6 i0,vT ⟨x0.toArray⟩,vS E j.length A,vS D f.length y,vS F l.length B,vS G g.length C],.agg #[vS At ms.length ct,vI i6 0]] U fun e w'=>e=.returned (.bool b)/\bW X0 w'):=xI fun U hU=>by rw[hb];exact zM4 hN (ms,0) X0 U hU (c.ht.later hU) H I aQ
    have hU:=xI (fun U (hU:bW X0 U)=>un2 hU c.hs c.ht c.s7 c.t7);have hI:=xI (fun U (hU:bW X0 U)=>in2 hU c.hs c.ht c.s7 c.t7);have hC:=xI (fun U (hU:bW X0 U)=>cm1 hU c.hs c.s7);have hD:=xI (fun U (hU:bW X0 U)=>df2 hU c.hs c.ht c.s7 c.t7);have bs:=xI (fun U (hU:bW X0 U)=>in0 hU);have hE:=xI (fun U (hU:bW X0 U)=>un0 hU);have hR:=xI (fun U (hU:bW X0 U)=>un2 hU c.hs c.hr c.s7 c.r7);have a9:Hid (McT X0 _ (conT 16 noneT [(ns,0),(ms,0)]) (a||b)):=xI (mcT hN H I (zGl (by simp) (by simp) aa) (by rw[conU.2,ha,hb];simp));have ba:Hid (McT X0 _ (conT 17 anyTy [(ns,0),(ms,0)]) (a&&b)):=xI (mcT hN H I (zGl (by simp) (by simp) az) (by rw[conI.2,ha,hb];simp));have bc:Hid (McT X0 _ (compT 18 [accT (ns,0)]) (!a)):=xI (mcT hN H I bi (by rw[(conC _).2,ha]));have bb:Hid (McT X0 _ (conT 17 anyTy [(ns,0),compT 18 [accT (ms,0)]]) (a&&!b)):=xI (mcT hN H I (zGl (by simp) (by simp) aA) (by rw[conI.2,ha,hb];simp[(conC _).2]));have bq:Hid (McT X0 _ (conT 17 anyTy []) true):=xI (mcT hN H I (by decide) (by rw[conI.2];rfl));have bp:Hid (McT X0 _ (conT 16 noneT []) false):=xI (mcT hN H I (by decide) (by rw[conU.2];rfl));have bo:Hid (bd=true->McT X0 _ (conT 16 noneT [(ns,0),(rs,rr)]) a):=xI (fun aC=>mcT hN H I (zGl (by simp) (by simp) ay) (by rw[conU.2,ha];simp[bz.out aC]));generalize conT 16 noneT [(ns,0),(ms,0)]=TU at hU a9;generalize conT 17 anyTy [(ns,0),(ms,0)]=TI at hI ba;generalize compT 18 [accT (ns,0)]=TC at hC bc;generalize conT 17 anyTy [(ns,0),compT 18 [accT (ms,0)]]=TD at hD bb;generalize conT 17 anyTy []=TA at bs bq;generalize conT 16 noneT []=TE at hE bp;generalize conT 16 noneT [(ns,0),(rs,rr)]=TR at hR bo;clear aa az ay aA aY bi aB aQ ha hb c I H kX bh;have bC:(b != b)=false:=by simp
    have bB:((!b) != (!b))=false:=by simp
    have hd:bW X0 X0.drew:=yR.drew;refine wR HQ (by kernel_rfl) (HQ.out _ hd) (fun _=>?_);refine oT 0 (HQ.out _ hd) ?_ (hy:=oF);refine oT 1 (HQ.out _ hd) ?_ (hy:=oF);refine oT 3 (HQ.out _ hd) ?_ (hy:=oF);refine oT 4 (HQ.out _ hd) ?_ (hy:=oF);refine oO 2 fun K hK=>?_;go_simp;refine (bx.out _ hd).mono ?_;rintro e w5 ⟨rfl,hB5⟩;refine hK _ _ (HQ.out _ hB5) (oP ?_);clear hK K;refine oO 5 fun K hK=>?_;go_simp;refine (bw.out _ hB5).mono ?_;rintro e w6 ⟨rfl,hB6⟩;refine hK _ _ (HQ.out _ hB6) (oP ?_);clear hK K;refine oT 6 (HQ.out _ hB6) ?_ (hy:=oA);refine oT 7 (HQ.out _ hB6) ?_ (hy:=oA);refine wD ?_;clear hd hB5;have O:=hB6.drew;cases a
    all_goals (
     simp only[Bool.false_or,Bool.false_and,Bool.not_false,Bool.true_or,Bool.true_and,Bool.not_true]at a9 ba bc bb;go_wp2_with fail;refine wR HQ (by kernel_rfl) (HQ.out _ O) (fun _=>?_);refine oT 0 (HQ.out _ O) ?_ (hy:=oF);refine oT 1 (HQ.out _ O) ?_ (hy:=oF);refine oT 2 (HQ.out _ O) ?_ (hy:=oF);refine oT 6 (HQ.out _ O) ?_ (hy:=oA);refine oO 3 fun K hK=>?_;go_simp;have br:=fun o=>Below.trans O (yR.alloc O.size o);refine hK _ _ (HQ.out _ (br _)) (oP ?_);clear hK K;have hc:Calls tP 33 #[vS (some (aH w6 0)) 2 2] (w6.alloc (.cells #[vS As ns.length cs,vI i6 0,vS At ms.length ct,vI i6 0] 24 (0,0))).drew (OutT X0 TU):=hU.out _ O;refine oO 4 fun K hK=>?_;go_simp;refine (hc).mono ?_;rintro e w8 ⟨Au,cu,rfl,hTu,hB8⟩;refine hK _ _ (HQ.out _ hB8) (oP ?_);clear hK K;clear hc;refine oO 5 fun K hK=>?_;go_simp;refine (a9.out _ _ _ hB8 hTu).mono ?_;rintro e w9 ⟨rfl,hB9⟩;clear hTu;refine hK _ _ (HQ.out _ hB9) (oP ?_);clear hK K;refine oT 7 (HQ.out _ hB9) ?_ (hy:=oA)
     first|refine tk 8 (HQ.out _ hB9) ?_ (hy:=oA)|refine tu 8 (HQ.out _ hB9) ?_
     (try simp only[pK])
     refine oT 9 (HQ.out _ hB9) ?_ (hy:=oA);refine oT 10 (HQ.out _ hB9) ?_ (hy:=oA);refine oT 11 (HQ.out _ hB9) ?_ (hy:=oA);refine oT 12 (HQ.out _ hB9) ?_ (hy:=oF);refine oT 13 (HQ.out _ hB9) ?_ (hy:=oF);refine oT 14 (HQ.out _ hB9) ?_ (hy:=oF);refine oT 18 (HQ.out _ hB9) ?_ (hy:=oA);refine oO 15 fun K hK=>?_;go_simp;have aE:=fun o=>Below.trans hB9 (yR.alloc hB9.size o);refine hK _ _ (HQ.out _ (aE _)) (oP ?_);clear hK K;refine oO 16 fun K hK=>?_;go_simp;refine (hI.out _ hB9).mono ?_;rintro e w11 ⟨Ai,ci,rfl,hTi,hB11⟩;refine hK _ _ (HQ.out _ hB11) (oP ?_);clear hK K;refine oO 17 fun K hK=>?_;go_simp;refine (ba.out _ _ _ hB11 hTi).mono ?_;rintro e w12 ⟨rfl,hB12⟩;clear hTi;refine hK _ _ (HQ.out _ hB12) (oP ?_);clear hK K;refine oT 19 (HQ.out _ hB12) ?_ (hy:=oA)
     first|refine tk 20 (HQ.out _ hB12) ?_ (hy:=oA)|refine tu 20 (HQ.out _ hB12) ?_
     (try simp only[pK])
     refine oT 21 (HQ.out _ hB12) ?_ (hy:=oA);refine oT 22 (HQ.out _ hB12) ?_ (hy:=oA);refine oT 23 (HQ.out _ hB12) ?_ (hy:=oA);refine oT 24 (HQ.out _ hB12) ?_ (hy:=oA);refine oT 25 (HQ.out _ hB12) ?_ (hy:=oF);refine oT 26 (HQ.out _ hB12) ?_ (hy:=oF);refine oT 29 (HQ.out _ hB12) ?_ (hy:=oA);refine oO 27 fun K hK=>?_;go_simp;refine (hC.out _ hB12).mono ?_;rintro e w13 ⟨Ac,cc,rfl,hTc,hB13⟩;refine hK _ _ (HQ.out _ hB13) (oP ?_);clear hK K;refine oO 28 fun K hK=>?_;go_simp;refine (bc.out _ _ _ hB13 hTc).mono ?_;rintro e w14 ⟨rfl,hB14⟩;clear hTc;refine hK _ _ (HQ.out _ hB14) (oP ?_);clear hK K;refine oT 30 (HQ.out _ hB14) ?_ (hy:=oA);refine oT 31 (HQ.out _ hB14) ?_ (hy:=oA);refine oT 32 (HQ.out _ hB14) ?_ (hy:=oA);refine oT 33 (HQ.out _ hB14) ?_ (hy:=oF);refine oT 34 (HQ.out _ hB14) ?_ (hy:=oF);refine oT 35 (HQ.out _ hB14) ?_ (hy:=oF);refine oT 38 (HQ.out _ hB14) ?_ (hy:=oA);refine oO 36 fun K hK=>?_;go_simp;refine (hD.out _ hB14).mono ?_;rintro e w15 ⟨Ad,cd,rfl,hTd,hB15⟩;refine hK _ _ (HQ.out _ hB15) (oP ?_);clear hK K;refine oO 37 fun K hK=>?_;go_simp;refine (bb.out _ _ _ hB15 hTd).mono ?_;rintro e w16 ⟨rfl,hB16⟩;clear hTd;refine hK _ _ (HQ.out _ hB16) (oP ?_);clear hK K;refine oT 39 (HQ.out _ hB16) ?_ (hy:=oA)
     first|refine tk 40 (HQ.out _ hB16) ?_ (hy:=oA)|refine tu 40 (HQ.out _ hB16) ?_
     (try simp only[pK])
     first|refine tk 41 (HQ.out _ hB16) ?_ (hy:=oA)|refine tu 41 (HQ.out _ hB16) ?_
     (try simp only[pK])
     refine oT 42 (HQ.out _ hB16) ?_ (hy:=oA);refine oT 43 (HQ.out _ hB16) ?_ (hy:=oA);refine oT 44 (HQ.out _ hB16) ?_ (hy:=oA);refine wD ?_;clear hB6 O br hB8 hB9 aE hB11 hB12 hB13 hB14 hB15;have aX:=hB16.drew;go_wp2_with fail;refine wR HQ (by kernel_rfl) (HQ.out _ aX) (fun _=>?_);refine oT 0 (HQ.out _ aX) ?_ (hy:=oF);refine oO 1 fun K hK=>?_;go_simp;refine (bs.out _ aX).mono ?_;rintro e w17 ⟨Aa,ca,rfl,hTa,hB17⟩;refine hK _ _ (HQ.out _ hB17) (oP ?_);clear hK K;refine oO 2 fun K hK=>?_;go_simp;refine (bq.out _ _ _ hB17 hTa).mono ?_;rintro e w18 ⟨rfl,hB18⟩;clear hTa;refine hK _ _ (HQ.out _ hB18) (oP ?_);clear hK K;refine oT 3 (HQ.out _ hB18) ?_ (hy:=oA);refine oT 4 (HQ.out _ hB18) ?_ (hy:=oA);refine oT 5 (HQ.out _ hB18) ?_ (hy:=oF);refine oO 6 fun K hK=>?_;go_simp;refine (hE.out _ hB18).mono ?_;rintro e w19 ⟨Ae,ce,rfl,hTe,hB19⟩;refine hK _ _ (HQ.out _ hB19) (oP ?_);clear hK K;refine oO 7 fun K hK=>?_;go_simp;refine (bp.out _ _ _ hB19 hTe).mono ?_;rintro e w20 ⟨rfl,hB20⟩;clear hTe;refine hK _ _ (HQ.out _ hB20) (oP ?_);clear hK K;refine oT 8 (HQ.out _ hB20) ?_ (hy:=oA);refine oT 9 (HQ.out _ hB20) ?_ (hy:=oA);refine oT 10 (HQ.out _ hB20) ?_ (hy:=oA);refine oT 11 (HQ.out _ hB20) ?_ (hy:=oA);cases bd with
     | false=>
      refine oU 12 (HQ.out _ hB20) ?_
      (iterate 2 refine oZ (HQ.out _ hB20) ?_)
      refine oU 18 (HQ.out _ hB20) ?_;refine zAr 15 (by kernel_rfl) rfl (by rfl) (HQ.out _ hB20) (oP ?_);refine zAr 16 (by kernel_rfl) rfl (by rfl) (HQ.out _ hB20) (oP ?_);refine zAr 17 (by kernel_rfl) rfl (by rfl) (HQ.out _ hB20) (oP ?_);refine oU 19 (HQ.out _ hB20) ?_;refine oT 20 (HQ.out _ hB20) ?_ (hy:=oA);refine oT 21 (HQ.out _ hB20) ?_ (hy:=oA);refine wD ?_;go_wp2
      go_roundw
      case rel=>first|exact⟨0+1,by go_num,by omega,V.out.trans (hB20.mono V.out.size)⟩|exact⟨1+1,by go_num,by omega,V.out.trans (hB20.mono V.out.size)⟩
      case measure=>simp[intOf]
     | true=>
      refine oT 12 (HQ.out _ hB20) ?_ (hy:=oF);refine oT 13 (HQ.out _ hB20) ?_ (hy:=oF);refine oT 14 (HQ.out _ hB20) ?_ (hy:=oF);refine oT 18 (HQ.out _ hB20) ?_ (hy:=oA);refine oO 15 fun K hK=>?_;go_simp;have be:=fun o=>Below.trans hB20 (yR.alloc hB20.size o);refine hK _ _ (HQ.out _ (be _)) (oP ?_);clear hK K;refine oO 16 fun K hK=>?_;go_simp;refine (hR.out _ hB20).mono ?_;rintro e w22 ⟨Ar2,cr2,rfl,hTr,hB22⟩;refine hK _ _ (HQ.out _ hB22) (oP ?_);clear hK K;refine oO 17 fun K hK=>?_;go_simp;refine ((bo.out rfl) _ _ _ hB22 hTr).mono ?_;rintro e w23 ⟨rfl,hB23⟩;clear hTr;refine hK _ _ (HQ.out _ hB23) (oP ?_);clear hK K;refine oT 19 (HQ.out _ hB23) ?_ (hy:=oA);refine oT 20 (HQ.out _ hB23) ?_ (hy:=oA);refine oT 21 (HQ.out _ hB23) ?_ (hy:=oA);refine wD ?_;go_wp2
      go_roundw
      case rel=>first|exact⟨0+1,by go_num,by omega,V.out.trans (hB23.mono V.out.size)⟩|exact⟨1+1,by go_num,by omega,V.out.trans (hB23.mono V.out.size)⟩
      case measure=>simp[intOf]
     )
   )
  ·obtain rfl:i=2:=by omega
   have hb:=X.out;obtain⟨s0,s1⟩:=zAg hb.kS;obtain⟨t0,t1⟩:=zAg hb.kT;obtain⟨r0,r1⟩:=zAg hb.kR;have hc:=un3 (W:=wr) (U:=wr) yR hb.hs hb.ht hb.hr hb.s7 hb.t7 hb.r7;have bj:(conT 16 noneT [(ns,0),(ms,0),(rs,rr)]).1.length<=1000000:=zGl (by simp) (by simp) fun t ht=>by
    simp at ht;rcases ht with rfl|rfl|rfl
    ·exact hb.s7.mono (by decide)
    ·exact hb.t7.mono (by decide)
    ·exact hb.r7.mono (by decide)
   have bg:WfT (conT 16 noneT [(ns,0),(ms,0),(rs,rr)]):=conU.1;generalize conT 16 noneT [(ns,0),(ms,0),(rs,rr)]=TX at *;have HW:=xI hb.bel;clear hb X aU;go_wp2_with fail;clear s0 s1 t0 t1 r0 r1;refine hc.mono ?_;rintro e w5 ⟨A5,c5,rfl,hT5,hB5⟩;clear hc;have ar:=zMb w5 hT5 bj;rw[show wfC TX.1 TX.2=0 from bg]at ar;have bv:=xI (HW.out.trans (hB5.mono HW.out.size));clear hT5 hB5 bj bg;go_wp2_with fail;refine ar.mono ?_;rintro e w6 ⟨rfl,hb6⟩;clear ar;have bu:=xI (bv.out.trans (hb6.mono bv.out.size));clear hb6;go_wp2_with (go_at_call 10;refine (hA.out w6).mono ?_;rintro e w7 ⟨rfl,hb5⟩;replace hb5:=xI hb5);go_ret;exact⟨by first|rfl|simp,bu.out.trans (hb5.out.mono bu.out.size)⟩
end Go.Proofs.YteedihhdcbepmaaGreat
