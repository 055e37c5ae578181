/- What the source makes near a node: .. -/
import Derived.Test.YteedihhdcbepmaaGreatTsZ
import Derived.Test.YteedihhdcbepmaaGreatTs23
import Derived.Test.YteedihhdcbepmaaGreatTs34
import Derived.Test.YteedihhdcbepmaaGreatTs35
set_option maxRecDepth 100000
set_option maxHeartbeats 12800000
set_option linter.all false
open Go.Value renaming slice→vS,int→vI,string→vT
open Go.IntKind renaming i64→i6
open Go.Proofs.Tryz renaming prog→tP
namespace Go.Proofs.YteedihhdcbepmaaGreat
open Go Go.RowKit
structure IntL (h p q:Nat) (w:World) (T N:Obj) (L:Nat) (x:Vl) (cs:List Value) (wr:World):Prop where
 t:wr.heap[w.heap.size]?=some T
 r:wr.heap[w.heap.size+1]?=some zV
 n:wr.heap[w.heap.size+2]?=some N
 v:wr.heap[w.heap.size+3]?=some (.cells cs.toArray 33 (0,0))
 vb:VB (q+1) wr (Btw (w.heap.size+4) wr.heap.size) x cs
 lab:(zB2 x).length<=L
 src:SrcOk h p wr
 eff:Eff p w wr
 siz:w.heap.size+4<=wr.heap.size
theorem IntL.fin {h p q M:Nat}{w wr V:World}{T N:Obj}{L:Nat}{x:Vl}{cs:List Value}(hL:IntL h p q w T N L x cs wr) (hlp:p<w.heap.size) (h1:V.heap.size=wr.heap.size) (h2:∀ b,b≠w.heap.size+1->V.heap[b]?=wr.heap[b]?) (h3:∀ B,B<=w.heap.size+1->Below B wr V) (hle:L<=M):NearR M q h p w (.returned (.agg cs.toArray)) V:=
 ⟨⟨x,cs,rfl,VB.sub (fun b hb=>⟨by have:=hb.1;omega,by have:=hb.2;omega⟩) lR (VB.keep ⟨by omega,fun b j hb _=>Bi (h2 b (by have:=hb.1;omega))⟩ hL.vb),Ba hL.lab hle⟩,hL.src.below3 (h3 w.heap.size (Cg _)) hlp,hL.eff.grow (h3 w.heap.size (Cg _)) hlp⟩
theorem IntL.next {h p q L M:Nat}{w wr V:World}{T N:Obj}{x:Vl}{cs:List Value}(hL:IntL h p q w T N L x cs wr) (hE:Eff p wr V) (hlp:p<w.heap.size) (hs:SrcOk h p V) (hle:L<=M):IntL h p q w T N M x cs V:=by
 have hz:=hL.siz;have a:=hE.size;exact⟨(hE.other _ (by omega) (by omega)).trans hL.t,(hE.other _ (by omega) (by omega)).trans hL.r,(hE.other _ (by omega) (by omega)).trans hL.n,(hE.other _ (by omega) (by omega)).trans hL.v,VB.sub (fun b hb=>⟨hb.1,by have:=hb.2;omega⟩) lR (VB.keep ⟨by omega,fun b j hb hl=>Bi (hE.other b (by have:=hb.1;omega) hl)⟩ hL.vb),Ba hL.lab hle,hs,hL.eff.trans hE,by omega⟩
theorem zQf {k:Nat}{w:World}{B:Nat->Prop}{v:Vl}{a i s u1 u2 u3 u4:Value}(h:VB k w B v [a,i,s,u1,u2,u3,u4]):RowB w B 1 u4 (zB2 v).length (fun j cs=>∃ x,(zB2 v)[j]?=some x/\cs=[vT ⟨x.toArray⟩]/\x.length<=maxLen):=by
 cases k with
 | zero=>exact h.elim
 | succ k=>
  obtain⟨kd,it,tx,b,c,d,l⟩:=v;obtain⟨uk,uy,ue,e,h1,_,_,_,_,_,_,h8⟩:=h;simp only[Bb,and_true]at h1;obtain⟨rfl,rfl,rfl,rfl,rfl,rfl,rfl⟩:=h1;exact h8
theorem zQe {w:World}{B:Nat->Prop}{A:Option Addr}{n c H:Nat}{l:List (List UInt8)}(h:RowB w B 1 (vS A n c) l.length (fun j cs=>∃ x,l[j]?=some x/\cs=[vT ⟨x.toArray⟩]/\x.length<=maxLen)) (hB:∀ b,B b->b<H):NmS w H A n l:=by
 obtain⟨A',c',h1,_,h3⟩:=h;injection h1 with e1 e2 e3;subst e1 e2 e3;refine⟨rfl,fun s hs=>?_,fun h0=>?_⟩
 ·obtain⟨j,hj,rfl⟩:=List.mem_iff_getElem.1 hs;obtain⟨b,a,_,_,_,h7⟩:=h3 (by omega);obtain⟨cs,_,_,x,hx,_,d⟩:=h7 j hj;rw[By hj]at hx;injection hx with hx;rw[hx];exact d
 ·obtain⟨b,a,hA,hb,_,h7⟩:=h3 h0;refine⟨b,a,hA,hB b hb,fun j s hj=>?_⟩;obtain⟨cs,_,h9,x,hx,rfl,_⟩:=h7 j (Bx.1 hj).1;rw[hj]at hx;injection hx with hx;subst hx;simpa using h9 0 (by omega)
theorem IntL.store {h p q:Nat}{w:World}{T N:Obj}{L:Nat}{x:Vl}{v0 v1 u1 u2 u3 u4:Value}{sx:Value}{wr w9 V:World}{LA:Option Addr}{lc:Nat}{ls:List (List UInt8)}(hL:IntL h p q w T N L x [v0,v1,sx,u1,u2,u3,u4] wr) (hlp:p<w.heap.size) (hE:Eff p wr w9) (hS:SrcOk h p w9)
  (ho:OwnN w9 wr.heap.size (vS LA ls.length lc) ls) (hs:Short ls) (hn:ls.length<=L+1) (hL':L<1000) (hV:V=w9.setCell ⟨w.heap.size+1+1+1,6,none⟩ (vS LA ls.length lc)) :
  IntL h p q w T N (L+1) (withL ls x) [v0,v1,sx,u1,u2,u3,vS LA ls.length lc] V:=by
 have hz:=hL.siz;have o:=hE.size;have m:V.heap.size=w9.heap.size:=by rw[hV];simp
 have k9:w9.heap[w.heap.size+1+1+1]?=some (.cells #[v0,v1,sx,u1,u2,u3,u4] 33 (0,0)):=(hE.other _ (by omega) (by omega)).trans hL.v;have c:∀ g,g≠w.heap.size+1+1+1->V.heap[g]?=w9.heap[g]?:=fun g hg=>by rw[hV];exact Bq _ _ _ _ hg
 have d:Below w.heap.size w9 V:=by rw[hV];exact yR.setCell (p:=(aD (w.heap.size+1+1+1) 6)) (by show w.heap.size<=w.heap.size+1+1+1;omega) _
 have a:∀ g,g≠w.heap.size+1+1+1->g≠p->g<wr.heap.size->V.heap[g]?=wr.heap[g]?:=fun g h1 h2 h3=>(c g h1).trans (hE.other g h2 h3);have b:=RowB.sub (B':=Btw (w.heap.size+4) V.heap.size) (RowB.keep (zFs ho hs (by unfold maxLen;omega)) (w':=V) ⟨by omega,fun g j hg _=>Bi (c g (by have:=hg.1;omega))⟩ (fun _ _ h=>h)) (fun g hg=>⟨by have:=hg.1;omega,by have:=hg.2;omega⟩) (fun _ _ h=>h);have i:=VB.sub (B':=Btw (w.heap.size+4) V.heap.size) (fun g hg=>⟨hg.1,by have:=hg.2;omega⟩) lR (VB.keep (w':=V) ⟨by omega,fun g j hg hl=>Bi (a g (by have:=hg.1;omega) (by have:=hg.1;omega) hl)⟩ hL.vb);refine⟨(a _ (by omega) (by omega) (by omega)).trans hL.t,(a _ (by omega) (by omega) (by omega)).trans hL.r,(a _ (by omega) (by omega) (by omega)).trans hL.n,?_,zCc i b,?_,hS.below3 d hlp,(hL.eff.trans hE).grow d hlp,by omega⟩
 ·rw[hV];exact Bm w9 _ 6 _ _ _ k9
 ·obtain⟨kd,it,tx,e,f,k,l⟩:=x;exact hn
theorem zPw (h p q i:Nat) (ns:List Tn) (A:Option Addr) (c:Nat) (w:World) (hS:SrcOk h p w) (hR:zAl ns p A c w) (hG:GenT ns) (hq:1<=q) (hq4:q<=4) (lo hi:Int) (tx:List UInt8) (ks:List Int) (fds:List Fd) (r0 r1:Int) (hx:ns[i]?=some ⟨17,lo,hi,tx,ks,fds,r0,r1⟩) (hI:Hid (∀ (k:Nat) (W:World),i<k->k<ns.length->SrcOk h p W->zAl ns p A c W->Calls tP 88 #[.pointer (some (aD p 0)),.agg #[vS A ns.length c,vI i6 0],vI i6 k,vI i6 q] W (NearR (2+3*(ns.length-k)) q h p W))) :
  Calls tP 88 #[.pointer (some (aD p 0)),.agg #[vS A ns.length c,vI i6 0],vI i6 i,vI i6 q] w (NearR (2+3*(ns.length-i)) q h p w):=by
 have M:=hS.lt;have aj:=hG.2 _ _ hx;have bM:=(Bx.1 hx).1;have bK:=hG.1;obtain⟨b,a,cap,Ak,ck,Af,cf,hu,bN,aQ,ai,aV,d0,d1,d2,d3,d4,d5,d6,d7⟩:=TyB.at8 hR hx;injection hu with hA _ hc;subst hA hc;obtain⟨hF,aX⟩:=NF.start (oE (some (aD b a)) ns.length c 0) (oX 17 lo hi ⟨tx.toArray⟩ Ak ks.length ck Af fds.length cf r0 r1) hS;have ab:bW w ((w.alloc (oE (some (aD b a)) ns.length c 0)).alloc zV):=(yR.alloc lR _).alloc (by simp) _;have bp:b<w.heap.size:=by omega
 have K8:=kC8 ab bp d0 d1 d2 d3 d4 d5 d6 d7;clear d0 d1 d2 d3 d4 d5 d6 d7;obtain⟨d0,d1,d2,d3,d4,d5,d6,d7⟩:=K8;have u0:¬ (q:Int)<=0:=by omega
 have u1:(0:Int)<=(i:Int):=by omega
 have u2:(i:Int)<(ns.length:Int):=by omega
 have HR:=xI hR;have HG:=xI hG;have HX:=xI (aN hx (aN aj aQ));have HK:=xI (aN ai aV);have HF:=xI hF;have a9:=xI aX;clear hR hG hx aj aQ ai aV hF aX ab hS;obtain⟨W,hW⟩:∃ W,W=((((w.alloc (oE (some (aD b a)) ns.length c 0)).alloc zV).alloc (oX 17 lo hi ⟨tx.toArray⟩ Ak ks.length ck Af fds.length cf r0 r1)).alloc zV):=⟨_,rfl⟩;rw[<-hW]at HF a9;go_enter Tryz.func88,Tryz.ntmps88;go_wp2_with fail;have bj:=zKs HX.out.2.1 (.inr (.inl rfl));have aT:=zEm HX.out.2.1;have ah:=HX.out.2.1.lat rfl;have bh:ks.length<=3:=HX.out.2.1.nk;obtain⟨bk,ok,bt,br,az⟩:=zDo HK.out.1 bj;subst bt;have a8:∀ wq,Eff p W wq->(jT wq w.heap.size (some (aD b a)) ns.length c 0)/\wq.cell? (aF w 4)=some (vS (some (aD bk ok)) ks.length ck)/\∀ j k,ks[j]?=some k->wq.cell? (aD bk (ok+j))=some (vI i6 k):=by
  intro wq hE;have F:=HF.out.next hE M
  exact⟨zB7 F.t,(zAe F.n).2.2.2.2.1,fun j k hj=>(Bi (F.eff.other bk (by omega) (by omega))).trans (az j k hj).1⟩
 have HQ:=xI a8;have hd:Eff p W W.drew:=Eff.of_below yR.drew (by have:=HF.out.siz;omega);have aW:=a9.out.below yR.drew;have aY:=(HR.out.eff HF.out.eff).eff hd;have hc:=zAh h p ks.length W.drew aW (by omega) (by omega);have aw:=xI (aN aT (aN ah (aN az br)));clear a8 az aT ah;rw[<-hW];clear hW;generalize hkl:ks.length=kl at HQ hc ⊢;have av:=xI hkl;clear hkl d0 d1 d2 d3 d4 d5 d6 d7;refine ub 13 (fun _=>True) (fun wq=>(jT wq w.heap.size (some (aD b a)) ns.length c 0)/\wq.cell? (aF w 4)=some (vS (some (aD bk ok)) kl ck)/\∀ j k,ks[j]?=some k->wq.cell? (aD bk (ok+j))=some (vI i6 k)) ?_;refine oM 0 ⟨trivial,HQ.out _ hd⟩ ?_ (hy:=oA);refine oK 1 ⟨trivial,HQ.out _ hd⟩ ?_ (hy:=Or.inl ⟨by rfl,(by intro w hSw;obtain⟨⟨a1,a2⟩,a3,a4⟩:=hSw;clear a4;go_simp;try with_reducible rfl)⟩)
 refine oM 2 ⟨trivial,HQ.out _ hd⟩ ?_ (hy:=oA);refine oK 3 ⟨trivial,HQ.out _ hd⟩ ?_ (hy:=Or.inl ⟨by rfl,(by intro w hSw;obtain⟨⟨a1,a2⟩,a3,a4⟩:=hSw;clear a4;go_simp;try with_reducible rfl)⟩)
 refine oM 4 ⟨trivial,HQ.out _ hd⟩ ?_ (hy:=oA);refine oM 5 ⟨trivial,HQ.out _ hd⟩ ?_ (hy:=oA);refine oK 6 ⟨trivial,HQ.out _ hd⟩ ?_ (hy:=Or.inl ⟨by rfl,(by intro w hSw;obtain⟨⟨a1,a2⟩,a3,a4⟩:=hSw;clear a4;go_simp;try with_reducible rfl)⟩)
 refine oM 7 ⟨trivial,HQ.out _ hd⟩ ?_ (hy:=oA);refine oM 11 ⟨trivial,HQ.out _ hd⟩ ?_ (hy:=oA);refine uo 8 (fun K hK=>?_);go_simp;refine hc.mono ?_;rintro e w5 ⟨j,rfl,j0,j1,hS5,hE5⟩;clear hc;have z:=hd.trans hE5;obtain⟨j,rfl⟩:∃ m:Nat,j=(m:Int):=⟨j.toNat,by omega⟩;have aA:j<ks.length:=by have:=av.out;omega
 have aa:=By aA;have X:=Cx aA;generalize ks[j]=kj at aa X;have ab:=aw.out.1 kj X;have bs:=aw.out.2.1 kj X;obtain⟨kj,rfl⟩:∃ m:Nat,kj=(m:Int):=⟨kj.toNat,by omega⟩;have hc:=hI.out kj w5 (by omega) (by omega) hS5 (aY.eff hE5);refine hK _ _ ⟨trivial,fun _=>HQ.out _ z⟩ (oQ ?_);clear hK K;refine oM 9 ⟨trivial,HQ.out _ z⟩ ?_ (hy:=oA);refine oK 10 ⟨trivial,HQ.out _ z⟩ ?_ (hy:=Or.inl ⟨by rfl,(by intro w hSw;have a5:=hSw.2.2 _ _ aa;clear hSw;go_simp;try with_reducible rfl)⟩)
 refine uo 12 (fun K hK=>?_);go_simp;refine hc.mono ?_;rintro e w9 ⟨⟨v,cs,rfl,hv,hl⟩,hS9,hE9⟩;clear hc;have o:=z.trans hE9;have hF:=HF.out.next o M
 have bJ:=z.size;have hz:=HF.out.siz;obtain⟨a1,i1,s1,A1,n1,c1,A2,n2,c2,A3,n3,c3,A4,n4,c4,rfl⟩:=hv.form7;obtain⟨e0,e1,e2,e3,e4,e5,e6⟩:=zAc hF.v;obtain⟨z0,z1,z2,z3,z4,z5,z6⟩:=zAd hF.v;refine hK _ _ ⟨trivial,fun _=>HQ.out _ o⟩ (oQ ?_);clear hK K;refine uo 13 (fun K hK=>?_);go_simp;obtain⟨V0,aG⟩:∃ V0,V0=(((((((w9.setCell (aD (w.heap.size+1+1+1) 0) (vI i6 a1)).setCell (aD (w.heap.size+1+1+1) 1) (vI i6 i1)).setCell (aD (w.heap.size+1+1+1) 2) (vT s1)).setCell (aD (w.heap.size+1+1+1) 3) (vS A1 n1 c1)).setCell (aD (w.heap.size+1+1+1) 4) (vS A2 n2 c2)).setCell (aD (w.heap.size+1+1+1) 5) (vS A3 n3 c3)).setCell (aD (w.heap.size+1+1+1) 6) (vS A4 n4 c4)):=⟨_,rfl⟩;rw[<-aG];obtain⟨y1,y2,y3,y4⟩:=box7 (show w9.heap[w.heap.size+1+1+1]?=_ from hF.v) _ _ _ _ _ _ _ V0 aG;have D:=y4 w.heap.size (by omega);have aR:=VB.sub (B':=Btw (w.heap.size+4) V0.heap.size) (fun g hg=>⟨by have:=hg.1;omega,by have:=hg.2;omega⟩) lR (VB.keep (B:=Btw w5.heap.size w9.heap.size) (w':=V0) ⟨by omega,fun g m hg _=>Bi (y3 g (by have:=hg.1;omega))⟩ hv);have a7:IntL h p q w (oE (some (aD b a)) ns.length c 0) (oX 17 lo hi ⟨tx.toArray⟩ (some (aD bk ok)) kl ck Af fds.length cf r0 r1) (2+3*(ns.length-i)-3+0) v [vI i6 a1,vI i6 i1,vT s1,vS A1 n1 c1,vS A2 n2 c2,vS A3 n3 c3,vS A4 n4 c4] V0:=
  ⟨(y3 _ (by omega)).trans hF.t,(y3 _ (by omega)).trans hF.r,(y3 _ (by omega)).trans (by rw[<-av.out];exact hF.n),y1,aR,by omega,hS9.below3 D M,hF.eff.grow D M,by have:=hF.siz;omega⟩
 have bb:=xI a7;clear a7 aG y1 y2 y3 y4 D hv hl hE9 hE5 hF e0 e1 e2 e3 e4 e5 e6 z0 z1 z2 z3 z4 z5 z6;refine hK _ _ ⟨trivial,ug⟩ (oQ ?_);clear hK K;refine (ud ?_) _;clear aR hd z o aW aY hS5 hS9 ab bs;go_wp2_with fail
 go_loopw [12] (fun iv wr=>∃ (j:Nat) (x:Vl) (cs:List Value),iv=vI i6 j/\j<=kl/\IntL h p q w (oE (some (aD b a)) ns.length c 0) (oX 17 lo hi ⟨tx.toArray⟩ (some (aD bk ok)) kl ck Af fds.length cf r0 r1) (2+3*(ns.length-i)-3+j) x cs wr) (fun iv _=>((kl:Int)-intOf iv).toNat)
 case atStart=>exact⟨0,v,_,rfl,Bt _,bb.out⟩
 case round=>
  obtain⟨j,x,cs,rfl,aA,hL⟩:=hrel;have bG:=hL.siz;have aZ:∀ wq,Eff p wr wq->(wq.cell? (aH w 0)=some (vS (some (aD b a)) ns.length c))/\wq.cell? (aF w 4)=some (vS (some (aD bk ok)) kl ck):=fun wq hE=>⟨(Bv ((hE.other _ (by omega) (by omega)).trans hL.t) 0).trans rfl,(Bv ((hE.other _ (by omega) (by omega)).trans hL.n) 4).trans rfl⟩;have l:Eff p wr wr.drew:=Eff.of_below yR.drew (by omega);have ba:=xI aZ;have HL:=xI hL;have bn:kl<=3:=by rw[<-av.out];exact bh
  clear aZ hL bb;have m0:(0:Int)<=(j:Int):=by omega
  by_cases hj:j<kl
  ·have mp:(j:Int)<(kl:Int):=by omega
   have bI:IntKind.i64.wrap ((j:Int)+1)=(j:Int)+1:=Br _ (by omega);have Y:j<ks.length:=by have:=av.out;omega
   have aa:=By Y;have X:=Cx Y;generalize ks[j]=kj at aa X;have ab:=aw.out.1 kj X;obtain⟨kj,rfl⟩:∃ m:Nat,kj=(m:Int):=⟨kj.toNat,by omega⟩;have bm:kj<ns.length:=by omega
   obtain⟨⟨kd,l1,l2,d,bF,fk,bE,bD⟩,aP⟩:∃ x,ns[kj]?=some x:=⟨_,By bm⟩;obtain⟨b2,bc,bu,bR,bO,bS,bP,bf,bq,ad,_,_,g0,_,_,g3,_⟩:=TyB.at8 HR.out aP;injection bf with e1 e2 e3;clear e2 e3;injection e1 with e1;injection e1 with e4 e5;subst e4 e5;have aS:d.length<=maxLen:=ad.2.2.2.1;have al:Hid (∀ wq,Eff p wr wq->((wq.cell? (aH w 0)=some (vS (some (aD b a)) ns.length c))/\wq.cell? (aF w 4)=some (vS (some (aD bk ok)) kl ck))/\wq.cell? (aD bk (ok+j))=some (vI i6 kj)/\wq.cell? (aD b (a+kj*8))=some (vI i6 kd)/\wq.cell? (aD b (a+kj*8+3))=some (vT ⟨d.toArray⟩)):=xI fun wq hE=>⟨ba.out wq hE,(Bi ((HL.out.eff.trans hE).other bk (by omega) (by omega))).trans (aw.out.2.2.1 j _ aa).1,(Bi ((HL.out.eff.trans hE).other b (by omega) (by omega))).trans g0,(Bi ((HL.out.eff.trans hE).other b (by omega) (by omega))).trans g3⟩;have aq:=xI aS;have k0:(0:Int)<=(kj:Int):=by omega
   have k1:(kj:Int)<(ns.length:Int):=by omega
   clear aS ad g0 g3 aP ab aa X Y;obtain⟨⟨f0,f1⟩,f2,f3,f4⟩:=al.out _ (Eff.refl _ _);go_wp2_with fail;refine Be (S:=fun wq=>((wq.cell? (aH w 0)=some (vS (some (aD b a)) ns.length c))/\wq.cell? (aF w 4)=some (vS (some (aD bk ok)) kl ck))/\wq.cell? (aD bk (ok+j))=some (vI i6 kj)/\wq.cell? (aD b (a+kj*8))=some (vI i6 kd)/\wq.cell? (aD b (a+kj*8+3))=some (vT ⟨d.toArray⟩)) (by kernel_rfl) (al.out _ l) (fun _=>?_);refine oT 0 (al.out _ l) ?_
   (iterate 10 refine oY (al.out _ l) ?_)
   refine wD ?_;have ar:SrcOk h p wr.drew:=HL.out.src.below yR.drew;generalize hw3:wr.drew=w3 at *;have bH:=l.size;clear hw3 f0 f1 f2 f3 f4;by_cases hk19:kd=19
   ·subst hk19;go_wp2_with fail;obtain⟨ya,yi,ys,Y1,bz,bC,Y2,bx,bB,Y3,bw,bA,Y4,y,am,rfl⟩:=HL.out.vb.form7;have u:Eff p wr w3.drew:=l.trans (Eff.of_below yR.drew (by omega));have HF:Hid (∀ wq,Eff p wr wq->True/\(wq.cell? (aD (w.heap.size+1+1+1) 6)=some (vS Y4 y am))/\((wq.cell? (aH w 0)=some (vS (some (aD b a)) ns.length c))/\wq.cell? (aF w 4)=some (vS (some (aD bk ok)) kl ck))/\wq.cell? (aD bk (ok+j))=some (vI i6 kj)/\wq.cell? (aD b (a+kj*8))=some (vI i6 19)/\wq.cell? (aD b (a+kj*8+3))=some (vT ⟨d.toArray⟩)):=xI fun wq hE=>⟨trivial,(Bv ((hE.other _ (by omega) (by omega)).trans HL.out.v) 6).trans rfl,al.out wq hE⟩;have hN:=zQe (zQf (HL.out.next u M (ar.below yR.drew) lR).vb) (H:=w3.heap.size) (fun g hg=>hg.2)
    have U:=HL.out.lab;obtain⟨LS,aI⟩:∃ LS,LS=zB2 x:=⟨_,rfl⟩;rw[<-aI]at hN U;have G:=xI hN.1;have bQ:=xI aI;have f:=xI U;have au:=xI hN;clear aI U hN;have a6:2+3*(ns.length-i)-3+j<1000:=by have:=HG.out.1;omega
    refine ub 17 (fun _=>True) (fun wq=>(wq.cell? (aD (w.heap.size+1+1+1) 6)=some (vS Y4 y am))/\((wq.cell? (aH w 0)=some (vS (some (aD b a)) ns.length c))/\wq.cell? (aF w 4)=some (vS (some (aD bk ok)) kl ck))/\wq.cell? (aD bk (ok+j))=some (vI i6 kj)/\wq.cell? (aD b (a+kj*8))=some (vI i6 19)/\wq.cell? (aD b (a+kj*8+3))=some (vT ⟨d.toArray⟩)) ?_;refine oM 0 (HF.out _ u) ?_ (hy:=oA);refine oK 1 (HF.out _ u) ?_ (hy:=Or.inl ⟨by rfl,(by intro w hSw;obtain⟨a0,⟨a1,a2⟩,a3,a4,a5⟩:=hSw;go_simp;try with_reducible rfl)⟩)
    refine oM 3 (HF.out _ u) ?_ (hy:=oA);refine oK 4 (HF.out _ u) ?_ (hy:=Or.inl ⟨by rfl,(by intro w hSw;obtain⟨a0,⟨a1,a2⟩,a3,a4,a5⟩:=hSw;go_simp;try with_reducible rfl)⟩)
    refine oM 5 (HF.out _ u) ?_ (hy:=oA);refine oK 6 (HF.out _ u) ?_ (hy:=Or.inl ⟨by rfl,(by intro w hSw;obtain⟨a0,⟨a1,a2⟩,a3,a4,a5⟩:=hSw;go_simp;try with_reducible rfl)⟩)
    refine oM 7 (HF.out _ u) ?_ (hy:=oA);refine oM 8 (HF.out _ u) ?_ (hy:=oA);refine oK 9 (HF.out _ u) ?_ (hy:=Or.inl ⟨by rfl,(by intro w hSw;obtain⟨a0,⟨a1,a2⟩,a3,a4,a5⟩:=hSw;go_simp;try with_reducible rfl)⟩)
    refine oM 10 (HF.out _ u) ?_ (hy:=oA);refine oM 11 (HF.out _ u) ?_ (hy:=oA);refine oK 12 (HF.out _ u) ?_ (hy:=Or.inl ⟨by rfl,(by intro w hSw;obtain⟨a0,⟨a1,a2⟩,a3,a4,a5⟩:=hSw;go_simp;try with_reducible rfl)⟩)
    refine ua [2,13] fun jj hjj=>?_;have bo:jj=2\/jj=13:=by simpa using hjj
    clear hjj;rcases bo with rfl|rfl
    ·obtain⟨v5,w5,af,bg,aU⟩:=zAs (w:=w3.drew) (B:=w3.heap.size) (OwnN.nil _ _) lR Y4 y am LS au.out (by have:=G.out;have:=f.out;simp only[Cl];omega) 31;have Q:bW w3 w5:=yR.drew.grown aU lR (fun m hm=>((OwnN.nil w3.drew w3.heap.size).lt m hm).1);have z:=l.trans (Eff.of_below Q (by omega));have an:=Q.size;clear aU;refine zAi rfl (by rfl) (fun K hK=>?_);refine Lib.wp_append_run _ _ _ _ _ rfl _ _ rfl rfl v5 w5 af ?_;refine hK _ _ ⟨⟨(HF.out _ z).1,fun _=>(HF.out _ z).2⟩,oQ ?_⟩;clear hK K af;obtain⟨w6,ao⟩:∃ w6,w6=w5.alloc (.cells #[vT ⟨d.toArray⟩] 9):=⟨_,rfl⟩;have O:OwnN w6 w5.heap.size (vS (some (aH w5 0)) 1 1) [d]:=by rw[ao];exact OwnN.lit w5 w5.heap.size lR [d] _ 1 rfl rfl (by unfold maxLen;simp)
     have E:bW w5 w6:=by rw[ao];exact yR.alloc lR _
     have Z:bW w3 w6:=Q.trans (E.mono an);have aE:=l.trans (Eff.of_below Z (by omega));have be:=Z.size;have ag:=bg.old E;have ay:=O.rng (fun s hs=>by rw[Ct.1 hs];exact aq.out);refine uo 13 (fun K hK=>?_);go_simp;rw[<-ao];unfold aH at ay;generalize hlg:w5.heap.size=lg at *;refine hK _ _ ⟨trivial,fun _=>(HF.out _ aE).2⟩ (oQ ?_);clear hK K;clear ao hlg;obtain⟨v7,w7,R,J,ak⟩:=zAs ag (by omega) (some (aD lg 0)) 1 1 [d] ay (by have:=G.out;have:=f.out;simp only[Cn];omega) 31;have P:bW w3 w7:=Z.grown ak (by omega) (fun m hm=>(ag.lt m hm).1);have aC:=l.trans (Eff.of_below P (by omega));have ax:=P.size;obtain⟨A7,c7,rfl⟩:=J.form;have I:Short ([]++LS++[d]):=by
      intro s hs;rcases B7.1 hs with h1|h1
      ·exact au.out.2.1 s (by simpa using h1)
      ·rw[Ct.1 h1];exact aq.out
     have T:([]++LS++[d]).length=y+1:=by have:=G.out;simp;omega
     have L:=J.rng I;obtain⟨ss,ae⟩:∃ ss,ss=[]++LS++[d]:=⟨_,rfl⟩;rw[<-ae]at I T L J R;rw[T]at R L;have hc:=zBo A7 (y+1) c7 ss w7 L (by have:=G.out;have:=f.out;omega);have N:=zB4 ss;have aO:=xI (show (srt ss).length<=y+1 by omega);have aJ:=xI (zFp I);have aL:=ar.below P;clear T L ae N I J ak;refine uo 14 (fun K hK=>?_);refine Lib.wp_append_run _ _ _ _ _ rfl _ _ rfl rfl _ w7 R ?_;refine hK _ _ ⟨trivial,fun _=>(HF.out _ aC).2⟩ (oQ ?_);clear hK K;refine uo 15 (fun K hK=>?_);go_simp;refine hc.mono ?_;rintro e w9 ⟨A9,c9,rfl,ho9,D⟩;clear hc;have C:bW w3 w9:=P.trans (D.mono ax);have o:=l.trans (Eff.of_below C (by omega));have bd:=C.size;have aK:=aL.below D;obtain⟨V,hV⟩:∃ V,V=w9.setCell (aD (w.heap.size+1+1+1) 6) (vS A9 (srt ss).length c9):=⟨_,rfl⟩;have aM:=xI (HL.out.store M o aK (ho9.mono (by omega)) aJ.out (by have:=aO.out;have:=G.out;have:=f.out;omega) a6 hV);have kv:=(o.other _ (by omega) (by omega)).trans HL.out.v;have e6:=(Bv (show w9.heap[w.heap.size+1+1+1]?=_ from kv) 6);have z6:=(Bz (show w9.heap[w.heap.size+1+1+1]?=_ from kv) 6);clear kv ho9 D;generalize N:(srt ss).length=ln at *;have bv:=xI N;clear N;refine hK _ _ ⟨trivial,fun _=>(HF.out _ o).2⟩ (oQ ?_);clear hK K;refine oM 16 (HF.out _ o) ?_ (hy:=oA);refine uo 17 (fun K hK=>?_);go_simp;rw[<-hV];refine hK _ _ ⟨trivial,ug⟩ (oQ ?_);clear hK K hV;refine (ud ?_) _;go_wp2_with fail
     go_roundw
     case rel=>exact⟨j+1,_,_,by go_num,by omega,aM.out⟩
     case measure=>simp[intOf];try omega
    ·refine zAi rfl (by rfl) (fun K hK=>?_);go_simp;obtain⟨w5,ap⟩:∃ w5,w5=(w3.alloc (.cells #[vT ⟨d.toArray⟩] 9)).drew:=⟨_,rfl⟩;have Q:bW w3 w5:=by rw[ap];exact (yR.alloc lR _).drew
     have z:=l.trans (Eff.of_below Q (by omega));have an:=Q.size;have O:OwnN w5 w3.heap.size (vS (some (aH w3 0)) 1 1) [d]:=by rw[ap];exact (OwnN.lit w3 w3.heap.size lR [d] _ 1 rfl rfl (by unfold maxLen;simp)).old yR.drew
     rw[<-ap];refine hK _ _ ⟨⟨trivial,fun _=>(HF.out _ z).2⟩,oQ ?_⟩;clear hK K ap;obtain⟨v5,w6,af,ag,aB⟩:=zAs (w:=w5) (B:=w3.heap.size) (OwnN.nil _ _) an Y4 y am LS ((show NmS w3 w3.heap.size Y4 y LS from au.out).below Q) (by have:=G.out;have:=f.out;simp only[Cl];omega) 31;have Z:bW w3 w6:=Q.grown aB an (fun m hm=>((OwnN.nil w5 w3.heap.size).lt m hm).1);have E:bW w5 w6:=yR.grown aB lR (fun m hm=>((OwnN.nil w5 w5.heap.size).lt m hm).1);have aE:=l.trans (Eff.of_below Z (by omega));have be:=Z.size;have ay:=(O.rng (fun s hs=>by rw[Ct.1 hs];exact aq.out)).on E;clear aB O E;refine uo 2 (fun K hK=>?_);refine Lib.wp_append_run _ _ _ _ _ rfl _ _ rfl rfl v5 w6 af ?_;refine hK _ _ ⟨trivial,fun _=>(HF.out _ aE).2⟩ (oQ ?_);clear hK K;clear af;obtain⟨v7,w7,R,J,ak⟩:=zAs ag (by omega) (some (aH w3 0)) 1 1 [d] ay (by have:=G.out;have:=f.out;simp only[Cn];omega) 31;have P:bW w3 w7:=Z.grown ak (by omega) (fun m hm=>(ag.lt m hm).1);have aC:=l.trans (Eff.of_below P (by omega));have ax:=P.size;obtain⟨A7,c7,rfl⟩:=J.form;have I:Short ([]++LS++[d]):=by
      intro s hs;rcases B7.1 hs with h1|h1
      ·exact au.out.2.1 s (by simpa using h1)
      ·rw[Ct.1 h1];exact aq.out
     have T:([]++LS++[d]).length=y+1:=by have:=G.out;simp;omega
     have L:=J.rng I;obtain⟨ss,ae⟩:∃ ss,ss=[]++LS++[d]:=⟨_,rfl⟩;rw[<-ae]at I T L J R;rw[T]at R L;have hc:=zBo A7 (y+1) c7 ss w7 L (by have:=G.out;have:=f.out;omega);have N:=zB4 ss;have aO:=xI (show (srt ss).length<=y+1 by omega);have aJ:=xI (zFp I);have aL:=ar.below P;clear T L ae N I J ak;refine uo 14 (fun K hK=>?_);refine Lib.wp_append_run _ _ _ _ _ rfl _ _ rfl rfl _ w7 R ?_;refine hK _ _ ⟨trivial,fun _=>(HF.out _ aC).2⟩ (oQ ?_);clear hK K;refine uo 15 (fun K hK=>?_);go_simp;refine hc.mono ?_;rintro e w9 ⟨A9,c9,rfl,ho9,D⟩;clear hc;have C:bW w3 w9:=P.trans (D.mono ax);have o:=l.trans (Eff.of_below C (by omega));have bd:=C.size;have aK:=aL.below D;obtain⟨V,hV⟩:∃ V,V=w9.setCell (aD (w.heap.size+1+1+1) 6) (vS A9 (srt ss).length c9):=⟨_,rfl⟩;have aM:=xI (HL.out.store M o aK (ho9.mono (by omega)) aJ.out (by have:=aO.out;have:=G.out;have:=f.out;omega) a6 hV);have kv:=(o.other _ (by omega) (by omega)).trans HL.out.v;have e6:=(Bv (show w9.heap[w.heap.size+1+1+1]?=_ from kv) 6);have z6:=(Bz (show w9.heap[w.heap.size+1+1+1]?=_ from kv) 6);clear kv ho9 D;generalize N:(srt ss).length=ln at *;have bv:=xI N;clear N;refine hK _ _ ⟨trivial,fun _=>(HF.out _ o).2⟩ (oQ ?_);clear hK K;refine oM 16 (HF.out _ o) ?_ (hy:=oA);refine uo 17 (fun K hK=>?_);go_simp;rw[<-hV];refine hK _ _ ⟨trivial,ug⟩ (oQ ?_);clear hK K hV;refine (ud ?_) _;go_wp2_with fail
     go_roundw
     case rel=>exact⟨j+1,_,_,by go_num,by omega,aM.out⟩
     case measure=>simp[intOf];try omega
   ·go_wp2_with fail
    go_roundw
    case rel=>exact⟨j+1,x,cs,by go_num,by omega,HL.out.next l M ar (by omega)⟩
    case measure=>simp[intOf];try omega
  ·have mp:¬ (j:Int)<(kl:Int):=by omega
   obtain⟨f0,f1⟩:=ba.out _ (Eff.refl _ _);obtain⟨a1,i1,s1,A1,n1,c1,A2,n2,c2,A3,n3,c3,A4,n4,c4,rfl⟩:=HL.out.vb.form7;obtain⟨e0,e1,e2,e3,e4,e5,e6⟩:=zAc (show wr.heap[w.heap.size+1+1+1]?=_ from HL.out.v);obtain⟨q0,q1,q2,q3,q4,q5,q6⟩:=zAc (show wr.heap[w.heap.size+1]?=_ from HL.out.r);obtain⟨z0,z1,z2,z3,z4,z5,z6⟩:=zAd (show wr.heap[w.heap.size+1]?=_ from HL.out.r);have bL:¬ w.heap.size+1+1+1=w.heap.size+1:=by omega
   have bi:¬ w.heap.size+1=w.heap.size+1+1+1:=by omega
   go_wp2;exact ret7 HL.out.r rfl rfl rfl fun V x1 x2 x3=>HL.out.fin M x1 x2 x3 (by omega)
theorem NearR.up {L L' q h p:Nat}{w w':World}{e:Ending}(h1:NearR L q h p w e w') (hL:L<=L'):NearR L' q h p w e w':=by
 obtain⟨⟨v,cs,h2,h3,h4⟩,h5⟩:=h1;exact⟨⟨v,cs,h2,h3,by omega⟩,h5⟩
theorem NearV.up {L L' q h p:Nat}{w w':World}{e:Ending}(h1:NearV L q h p w e w') (hL:L<=L'):NearV L' q h p w e w':=by
 obtain⟨⟨v,cs,h2,h3,h4,h6⟩,h5⟩:=h1;exact⟨⟨v,cs,h2,h3,h4,by omega⟩,h5⟩
theorem zP2 (hN0:Hid zDg) (h p:Nat) (ns:List Tn) (hG:GenT ns) (A:Option Addr) (c:Nat):∀ (q:Nat),q<=4->∀ (d i:Nat),ns.length-i=d->i<ns.length->∀ W,SrcOk h p W->zAl ns p A c W ->
  Calls tP 88 #[.pointer (some (aD p 0)),.agg #[vS A ns.length c,vI i6 0],vI i6 i,vI i6 q] W (NearR (2+3*(ns.length-i)) q h p W):=by
 intro q
 induction q with
 | zero=>intro _ d i _ hi W hS _;exact (zM9 h p i ns.length A c W hS).mono fun _ _ h=>h.up (Bt _)
 | succ q ih=>
  intro hq d
  induction d using Nat.strongRecOn with
  | _ d ihd=>
  intro i hd hi W hS hR;have hT:Hid (∀ (k:Nat) (W:World),k<ns.length->SrcOk h p W->zAl ns p A c W->Calls tP 46 #[.pointer (some (aD p 0)),.agg #[vS A ns.length c,vI i6 0],vI i6 k,vI i6 ((q+1-1:Nat):Int)] W (NearV (2+3*ns.length) (q+1-1) h p W)):=xI fun k W hk hS hR=>
   zKn hN0 (2+3*ns.length) h p q k ns A c W hS hR (xI fun W hS hR=>(ih (by omega) _ k rfl hk W hS hR).mono fun _ _ h=>h.up (by omega))
  have hK:Hid (∀ (k:Nat) (W:World),i<k->k<ns.length->SrcOk h p W->zAl ns p A c W->Calls tP 88 #[.pointer (some (aD p 0)),.agg #[vS A ns.length c,vI i6 0],vI i6 k,vI i6 ((q+1:Nat):Int)] W (NearR (2+3*(ns.length-k)) (q+1) h p W)):=xI fun k W hik hk hS hR=>ihd (ns.length-k) (by omega) k rfl hk W hS hR;have hx:=By hi;generalize ns[i]=x at hx;have b:=hG.2 _ _ hx;have f:=b.ok;obtain⟨kd,lo,j,tx,ks,l,r0,r1⟩:=x;have h1:1<=q+1:=by omega
  have a:∀ {e w'},NearR 2 (q+1) h p W e w'->NearR (2+3*(ns.length-i)) (q+1) h p W e w':=fun h=>h.up (by omega);have g:kd=1\/kd=2\/kd=3\/kd=4\/kd=5\/kd=6\/kd=7\/kd=8\/kd=9\/kd=10\/kd=11\/kd=12\/kd=13\/kd=14\/kd=15\/kd=16\/kd=17\/kd=18\/kd=19:=by
   simp only[tnB,Cy]at f;have h2:=f.2;unfold formB at h2;dsimp only at h2;by_cases e:kd=1\/kd=2\/kd=3\/kd=4\/kd=5\/kd=6\/kd=7\/kd=8\/kd=9\/kd=10\/kd=11\/kd=12\/kd=13\/kd=14\/kd=15\/kd=16\/kd=17\/kd=18\/kd=19
   ·exact e
   ·simp only[not_or]at e;simp[e]at h2
  rcases g with rfl|rfl|rfl|rfl|rfl|rfl|rfl|rfl|rfl|rfl|rfl|rfl|rfl|rfl|rfl|rfl|rfl|rfl|rfl
  ·exact (zPs h p (q+1) i ns A c W hS hR hG h1 hq _ _ _ _ _ _ _ hx).mono fun _ _=>a
  ·exact (zP1 h p (q+1) i ns A c W hS hR hG h1 hq _ _ _ _ _ _ _ hx).mono fun _ _=>a
  ·exact (zPx h p (q+1) i ns A c W hS hR hG h1 hq _ _ _ _ _ _ _ hx).mono fun _ _=>a
  ·exact (zPp h p (q+1) i ns A c W hS hR hG h1 hq _ _ _ _ _ _ _ hx).mono fun _ _=>a
  ·exact (zPk h p (q+1) i ns A c W hS hR hG h1 hq _ _ _ _ _ _ _ hx).mono fun _ _=>a
  ·exact (zP0 h p (q+1) i ns A c W hS hR hG h1 hq _ _ _ _ _ _ _ hx).mono fun _ _=>a
  ·exact (zPu h p (q+1) i ns A c W hS hR hG h1 hq _ _ _ _ _ _ _ hx).mono fun _ _=>a
  ·exact (zPq h p (q+1) i ns A c W hS hR hG h1 hq _ _ _ _ _ _ _ hx).mono fun _ _=>a
  ·exact (zPt h p (q+1) i ns A c W hS hR hG h1 hq _ _ _ _ _ _ _ hx).mono fun _ _=>a
  ·exact (zPn h p (q+1) i ns A c W hS hR hG h1 hq _ _ _ _ _ _ _ hx hT).mono fun _ _=>a
  ·exact (zPo h p (q+1) i ns A c W hS hR hG h1 hq _ _ _ _ _ _ _ hx).mono fun _ _=>a
  ·exact (zNa h p (q+1) i ns A c W hS hR hG h1 hq _ _ _ _ _ _ _ hx hT).mono fun _ _=>a
  ·exact (zPv h p (q+1) i ns A c W hS hR hG h1 hq _ _ _ _ _ _ _ hx (xI fun Ak ck Af cf W hS hR hN=>zJo h p (q+1) i ns A c W hS hR hG.1 h1 hq _ _ _ _ _ _ _ Ak ck Af cf hN b hT)).mono fun _ _=>a
  ·exact (zPy h p (q+1) i ns A c W hS hR hG h1 hq _ _ _ _ _ _ _ hx (xI fun Ak ck Af cf W hS hR hN=>zE7 h p (q+1) i ns A c W hS hR hG.1 h1 hq _ _ _ _ _ _ _ Ak ck Af cf hN b hT)).mono fun _ _=>a
  ·exact (zPz h p (q+1) i ns A c W hS hR hG h1 hq _ _ _ _ _ _ _ hx).mono fun _ _=>a
  ·exact zPm h p (q+1) i ns A c W hS hR hG h1 hq _ _ _ _ _ _ _ hx hK
  ·exact zPw h p (q+1) i ns A c W hS hR hG h1 hq _ _ _ _ _ _ _ hx hK
  ·exact (zPr h p (q+1) i ns A c W hS hR hG h1 hq _ _ _ _ _ _ _ hx).mono fun _ _=>a
  ·exact (zPl h p (q+1) i ns A c W hS hR hG h1 hq _ _ _ _ _ _ _ hx).mono fun _ _=>a
theorem zJn (hN0:Hid zDg) (h p:Nat) (ns:List Tn) (hG:GenT ns) (A:Option Addr) (c:Nat) (q:Nat) (hq:q<=4) (i:Nat) (hi:i<ns.length) (W:World) (hS:SrcOk h p W) (hR:zAl ns p A c W) :
  Calls tP 46 #[.pointer (some (aD p 0)),.agg #[vS A ns.length c,vI i6 0],vI i6 i,vI i6 q] W (NearV (2+3*ns.length) q h p W):=
 zKn hN0 (2+3*ns.length) h p q i ns A c W hS hR (xI fun W hS hR=>(zP2 hN0 h p ns hG A c q hq _ i rfl hi W hS hR).mono fun _ _ h=>h.up (by omega))
abbrev IntsP (w:World) (A:Option Addr) (n c:Nat):Prop:=RowP w w.heap.size 1 (vS A n c) n (fun _ cs=>∃ x,cs=[vI i6 x]/\(Lit.int .i64 x).wf=true)
theorem GenT.wf {ns:List Tn}(h:GenT ns):Wf ns:=
 ⟨fun x hx=>by
  obtain⟨i,hi⟩:=D4.1 hx;exact (h.2 i x hi).ok,zN6 fun i x hx hc k hk=>(h.2 i x hx).lat hc k hk⟩
def zS1 (w:World) (e:Ending) (w':World):Prop:=
 ∃ ns csT v csV,e=.returned (.tuple #[.agg csT.toArray,.agg csV.toArray])/\GenT ns/\1<=ns.length/\ns.length<=7/\TyB w' (Btw w.heap.size w'.heap.size) ns 0 csT/\VB 5 w' (Btw w.heap.size w'.heap.size) v csV/\okV v=true/\(zB2 v).length<=23/\bW w w'
theorem zG8 (hN0:Hid zDg) (A:Option Addr) (n c:Nat) (A2:Option Addr) (n2 c2:Nat) (w:World) (hR:IntsP w A n c) (hn:n<=maxLen) (hR2:IntsP w A2 n2 c2) (hn2:n2<=maxLen) :
  Calls tP 11 #[vS A n c,vS A2 n2 c2] w (zS1 w):=by
 obtain⟨w0,g⟩:∃ w0,w0=((w.alloc (oE none 0 0 0)).alloc zV).alloc (.cells #[vS A n c,vI i6 0] 49):=⟨_,rfl⟩;have H:bW w w0:=by rw[g];exact ((yR.alloc lR _).alloc (by simp) _).alloc (by simp;omega) _
 have s:w0.heap.size=w.heap.size+3:=by rw[g];simp
 have kt:w0.heap[w.heap.size]?=some (oE none 0 0 0):=by rw[g,Bp _ _ _ (by simp;omega),Bp _ _ _ (by simp)];exact Bl w _
 have kv:w0.heap[w.heap.size+1]?=some zV:=by rw[g,Bp _ _ _ (by simp)];exact zAg _ (by simp)
 have ks:w0.heap[w.heap.size+2]?=some (.cells #[vS A n c,vI i6 0] 49 (0,0)):=by rw[g];exact zAg _ (by simp)
 have S:SrcOk w.heap.size (w.heap.size+2) w0:=⟨A,n,c,0,ks,by omega,Bt _,hn,hR.on H fun _ _ h=>h⟩;have hc:=zAh w.heap.size (w.heap.size+2) 7 w0 S (by omega) (by omega);have H0:=xI (aN H (aN s (aN kt kv)));have am:=xI hR2;clear hR hR2 ks S H s kt kv;go_enter Tryz.func11,Tryz.ntmps11;go_wp2_with fail;rw[<-g];clear g;refine hc.mono ?_;rintro e w1 ⟨x,rfl,x0,x1,hS1,hE1⟩;clear hc;obtain⟨m,rfl⟩:∃ m:Nat,x=(m:Int):=⟨x.toNat,by omega⟩;have aj:IntKind.i64.wrap (1+(m:Int))=((m+1:Nat):Int):=by rw[Br _ (by omega)];omega
 have hc:=zOx w.heap.size (w.heap.size+2) (m+1) w1 hS1 (by omega) (by omega);have W:=xI hE1;clear hS1 hE1;go_wp2_with fail;refine hc.mono ?_;rintro e w2 ⟨⟨ns,cs,rfl,hlen,hgen,hT⟩,hS2,hE2⟩;clear hc aj;obtain⟨u,rfl,_,k⟩:=hT;obtain⟨At,ct,rfl,_⟩:=k.form;have hG:GenT ns:=⟨by omega,fun j x hx=>by rw[hlen];exact hgen j x hx⟩;have Q:=W.out.size;have P:=hE2.size;have s:=H0.out.2.1;have d:=W.out.trans hE2;obtain⟨w4,o⟩:∃ w4,w4=(w2.alloc (oE At ns.length ct 0)).alloc (.cells #[vS A2 n2 c2,vI i6 0] 49 (0,0)):=⟨_,rfl⟩;have z:bW w2 w4:=by rw[o];exact (yR.alloc lR _).alloc (by simp) _
 have O:w4.heap.size=w2.heap.size+2:=by rw[o];simp
 have M:w4.heap[w2.heap.size]?=some (oE At ns.length ct 0):=by rw[o,Bp _ _ _ (by simp)];exact Bl w2 _
 have J:w4.heap[w2.heap.size+1]?=some (.cells #[vS A2 n2 c2,vI i6 0] 49 (0,0)):=by rw[o];exact zAg _ (by simp)
 have C:bW w w2:=H0.out.1.trans (d.below.mono (by omega));have l:=C.trans (z.mono (by omega));have R:SrcOk w.heap.size (w2.heap.size+1) w4:=⟨A2,n2,c2,0,J,by omega,Bt _,hn2,RowB.on am.out l fun _ _ h=>h⟩;have I:TyB w4 (Btw w1.heap.size w2.heap.size) ns 0 [vS At ns.length ct,vI i6 0]:=TyB.keep (.of_below z fun _ h=>h.2) ⟨_,rfl,by show i64B 0;decide,k⟩;have T:zAl ns (w2.heap.size+1) At ct w4:=by
  obtain⟨u,hu,_,h⟩:=I;injection hu with hu _;subst hu;exact RowB.sub h (fun b hb=>by have:=hb.2;omega) fun _ _ ⟨x,hx,h⟩=>⟨x,hx,h.sub fun b hb=>by have:=hb.2;omega⟩
 have hd:Eff (w2.heap.size+1) w4 w4.drew:=Eff.of_below yR.drew (by omega);have hc:=zJn hN0 w.heap.size (w2.heap.size+1) ns hG At ct 4 (by omega) 0 (by omega) w4.drew (R.below yR.drew) (T.eff hd);rw[show ((0:Nat):Int)=0 from rfl,show ((4:Nat):Int)=4 from rfl]at hc;have HQ:Hid (∀ wq:World,wq.heap[w2.heap.size]?=w4.heap[w2.heap.size]?->jT wq w2.heap.size At ns.length ct 0):=xI fun wq h=>zB7 (h.trans M);have k4:w4.heap[w.heap.size]?=some (oE none 0 0 0):=(z.block _ (by omega)).trans ((d.other _ (by omega) (by omega)).trans H0.out.2.2.1);have v4:w4.heap[w.heap.size+1]?=some zV:=(z.block _ (by omega)).trans ((d.other _ (by omega) (by omega)).trans H0.out.2.2.2);have HL:=xI hlen;have H4:=xI (aN I (aN hG (aN l (aN k4 v4))));have HS:=xI (aN Q (aN P (aN s O)));have ap:w.heap.size+3<=w2.heap.size:=by omega
 clear k hgen hS2 hE2 d z M J C l R I T hG k4 v4 Q P s O;generalize F:ns.length=nl at *;have U:=xI F;clear F hlen;go_wp2_with fail;rw[<-o];clear o;refine ub 7 (fun wq:World=>jT wq w2.heap.size At nl ct 0) (fun _=>True) ?_;refine oM 0 ⟨HQ.out _ rfl,trivial⟩ ?_;refine oM 1 ⟨HQ.out _ rfl,trivial⟩ ?_;refine oM 2 ⟨HQ.out _ rfl,trivial⟩ ?_;refine oM 3 ⟨HQ.out _ rfl,trivial⟩ ?_;refine oM 4 ⟨HQ.out _ rfl,trivial⟩ ?_;refine uo 5 (fun K hK=>?_);go_simp;refine hc.mono ?_;rintro e w5 ⟨⟨v,cs,rfl,hv,hok,hl5⟩,hS5,hE5⟩;clear hc;obtain⟨a1,i1,s1,B1,n1,g1,B2,n3,g2,B3,n4,g3,B4,n5,g4,rfl⟩:=hv.form7;have a:=hd.trans hE5;have ah:=a.size;have ai:=HS.out.2.2.2;have r:=(a.other w.heap.size (by omega) (by omega)).trans H4.out.2.2.2.1;have D:=(a.other (w.heap.size+1) (by omega) (by omega)).trans H4.out.2.2.2.2;have L:=a.other w2.heap.size (by omega) (by omega);obtain⟨c0,c1⟩:=zB7 r;have z0:=Bz r 0;have z1:=Bz r 1;obtain⟨e0,e1,e2,e3,e4,e5,e6⟩:=zAc D;obtain⟨f0,f1,f2,f3,f4,f5,f6⟩:=zAd D;have HV:=xI (aN hv (aN hok (aN hl5 (aN a (aN r (aN D L))))));clear hv hok hl5 hS5 hE5 a r D L ah ai;refine hK _ _ ⟨HQ.out _ HV.out.2.2.2.2.2.2,fun _=>trivial⟩ (oQ ?_);clear hK K;refine uo 6 (fun K hK=>?_);go_simp;refine hK _ _ ⟨HQ.out _ ?_,fun _=>trivial⟩ ?_
 ·rw[Bq _ _ _ _ (by dsimp only;omega),Bq _ _ _ _ (by dsimp only;omega)];exact HV.out.2.2.2.2.2.2
 (try simp only[pK])
 clear hK K;refine uo 7 (fun K hK=>?_);go_simp;refine hK _ _ ⟨HQ.out _ ?_,fun _=>trivial⟩ ?_
 ·iterate 9 rw[Bq _ _ _ _ (by dsimp only;omega)]
  exact HV.out.2.2.2.2.2.2
 (try simp only[pK])
 clear hK K;refine (ud ?_) _;clear c0 c1 z0 z1 e0 e1 e2 e3 e4 e5 e6 f0 f1 f2 f3 f4 f5 f6;obtain⟨V1,q⟩:∃ V1,V1=(w5.setCell (aH w 0) (vS At nl ct)).setCell (aH w 1) (vI i6 0):=⟨_,rfl⟩;rw[<-q];have E:V1.heap[w.heap.size]?=some (oE At nl ct 0):=by
  rw[q];simpa using Bm _ w.heap.size 1 _ _ (vI i6 0) (Bm w5 w.heap.size 0 _ _ (vS At nl ct) HV.out.2.2.2.2.1)
 have f:∀ b,b≠w.heap.size->V1.heap[b]?=w5.heap[b]?:=fun b hb=>by rw[q,Bq _ _ _ _ hb,Bq _ _ _ _ hb]
 have y:Below w.heap.size w5 V1:=by rw[q];exact ((Bw w.heap.size w5).setCell (p:=(aH w 0)) lR _).setCell (p:=(aH w 1)) lR _
 have ao:V1.heap.size=w5.heap.size:=by rw[q];simp
 clear q;obtain⟨V,hV⟩:∃ V,V=(((((((V1.setCell (aE w 0) (vI i6 a1)).setCell (aE w 1) (vI i6 i1)).setCell (aE w 2) (vT s1)).setCell (aE w 3) (vS B1 n1 g1)).setCell (aE w 4) (vS B2 n3 g2)).setCell (aE w 5) (vS B3 n4 g3)).setCell (aE w 6) (vS B4 n5 g4)):=⟨_,rfl⟩;rw[<-hV];obtain⟨ak,hz,t,G⟩:=box7 ((f (w.heap.size+1) (by omega)).trans HV.out.2.2.2.2.2.1) _ _ _ _ _ _ _ V hV;clear hV;obtain⟨ag,af,ae,ad,ab,aa,Z⟩:=zAc ak;obtain⟨Y,X⟩:=zB7 ((t w.heap.size (by omega)).trans E);go_wp2_with fail;refine Cw (v:=.tuple #[.agg #[vS At nl ct,vI i6 0],.agg #[vI i6 a1,vI i6 i1,vT s1,vS B1 n1 g1,vS B2 n3 g2,vS B3 n4 g3,vS B4 n5 g4]]) (by simp[results,Tryz.results11,go_sem,Y,X,ag,af,ae,ad,ab,aa,Z]) rfl ?_;have hs:=HS.out;have hl:=HL.out;have a:=HV.out.2.2.2.1;have an:=a.size;have N:Same (Btw (w.heap.size+2) w5.heap.size) w5 V:=⟨by omega,fun b i hb _=>Bi ((t b (by have:=hb.1;omega)).trans (f b (by have:=hb.1;omega)))⟩;have al:TyB w5 (Btw (w.heap.size+2) w5.heap.size) ns 0 [vS At nl ct,vI i6 0]:=by
  have h:=TyB.keep (a.same fun b hb=>by have:=hb.2;omega) H4.out.1;exact h.sub fun b hb=>⟨by have:=hb.1;omega,by have:=hb.2;omega⟩
 have F:=U.out;refine⟨ns,_,v,_,rfl,H4.out.2.1,by omega,by omega,(TyB.keep N al).sub fun b hb=>⟨by have:=hb.1;omega,by have:=hb.2;omega⟩,VB.sub (B:=Btw (w.heap.size+2) w5.heap.size) (fun b hb=>⟨by have:=hb.1;omega,by have:=hb.2;omega⟩) lR (VB.keep N (VB.sub (fun b hb=>⟨by have:=hb.1;have hd:w4.drew.heap.size=w4.heap.size:=rfl;omega,hb.2⟩) lR HV.out.1)),HV.out.2.1,by have:=HV.out.2.2.1;have:=U.out;omega,?_⟩;exact H4.out.2.2.1.trans (((a.below.mono (by omega)).trans y).trans (G _ (by omega)))
def zOm:Prop:=∀ w,Calls tP 10 #[] w fun e w'=>e=.returned (.bool true)/\bW w w'
theorem vb_mk {k:Nat}{w:World}{B:Nat->Prop}{v:Vl}{cs:List Value}(h:VB (k+1) w B v cs):∃ kd it tx ks ys es ls Av cv Ay cy Ae ce Ab cb,v=.mk kd it tx ks ys es ls/\cs=[vI i6 kd,vI i6 it,vT ⟨tx.toArray⟩,vS Av ks.length cv,vS Ay ys.length cy,vS Ae es.length ce,vS Ab ls.length cb]:=by
 obtain⟨kd,it,tx,ks,ys,es,ls⟩:=v;obtain⟨uk,uy,ue,ul,h1,_,_,_,h5,h6,h7,h8⟩:=h;obtain⟨P1,g1,rfl,_⟩:=h5.form;obtain⟨P2,g2,rfl,_⟩:=h6.form;obtain⟨P3,g3,rfl,_⟩:=h7.form;obtain⟨P4,g4,rfl,_⟩:=h8.form;exact⟨_,_,_,_,_,_,_,_,_,_,_,_,_,_,_,rfl,h1⟩
theorem GenT.kid {ns:List Tn}(h:GenT ns):∀ x∈ns,kidOk x:=fun x hx=>by
 obtain⟨i,hi⟩:=D4.1 hx;have h1:=(h.2 i x hi).nk;have h2:=(h.2 i x hi).nf;exact⟨by omega,by omega⟩
def OutT (W:World) (T:Ty) (e:Ending) (w':World):Prop:=∃ A c,e=.returned (.agg #[vS A T.1.length c,vI i6 T.2])/\TyAt w' T.1 T.2 A c/\bW W w'
theorem outT {W U w':World}{T:Ty}{e:Ending}(hb:bW W U) (h:TyOut 0 U T e w'):OutT W T e w':=by
 obtain⟨⟨A,c,he,hT⟩,hB⟩:=h;exact⟨A,c,he,hT.sub fun b hb=>by rcases hb with h|h<;>omega,hb.trans (hB.mono hb.size)⟩
theorem TyAt.later {W U:World}{ns:List Tn}{r:Int}{A:Option Addr}{c:Nat}(h:TyAt W ns r A c) (hb:bW W U):TyAt U ns r A c:=(TyB.on h hb).up hb.size
theorem zSm {T:Ty}{v:Vl}(hok:okV v=true):memO T.1 T.2 v T.2=memT v T:=by
 unfold memO memT;rw[hok];by_cases h:wfC T.1 T.2=0
 ·have h1:=(Wf.of_zero h).2;rw[C8 h,show idxB T.1.length T.2=true by simp[idxB,h1.1,h1.2]];rfl
 ·rw[Ci h];rfl
theorem zNb (hN:Hid zDg) (T:Ty){A:Option Addr}{c:Nat}{v:Vl}{xs:List Value}(W U:World) (hb:bW W U) (hT:TyAt U T.1 T.2 A c) (hv:VS 5 W W.heap.size v xs) (hok:okV v=true) (hn:T.1.length<=1000000) :
  Calls tP 26 #[.agg xs.toArray,.agg #[vS A T.1.length c,vI i6 T.2]] U fun e w'=>e=.returned (.bool (memT v T))/\bW W w':=by
 have a:=VS.up hb.size lR (VS.on hb hv);obtain⟨k1,i1,x1,g,b,h,f,n,j,m,i,o,k,p,l,rfl,rfl⟩:=vb_mk a;refine (zEx hN T.1 T.2 A c 4 k1 i1 x1 g b h f n m o p j i k l U hT a hn).mono ?_;rintro e w' ⟨rfl,hB⟩;exact⟨by rw[zSm hok],hb.trans (hB.mono hb.size)⟩
section
variable {s t r:Ty}{A C E:Option Addr}{c d e:Nat}
end
theorem zNh {M:Nat}:∀ {ns:List Tn}(v:List Bool),(∀ x∈ns,szN x<=M)->left ns v<=ns.length*(M+3)
 | [],v,_=>by simp[left]
 | x::ns,[],_=>by simp[left]
 | x::ns,b::v,h=>by
  have h1:=zNh (M:=M) v (fun y hy=>h y (C0 _ hy));have h2:(edg x).length<=M+2:=by
   have h3:=h x (Ca ..);unfold szN at h3;unfold edg;rw[Bd,Bd,Bk];split
   ·simp only[Cj,Cl];omega
   ·simp only[Cl];omega
  unfold left at h1 ⊢;rw[List.zip_cons_cons,Dm,List.sum_cons,Cj,Nat.succ_mul];cases b<;>simp<;>omega
end Go.Proofs.YteedihhdcbepmaaGreat
