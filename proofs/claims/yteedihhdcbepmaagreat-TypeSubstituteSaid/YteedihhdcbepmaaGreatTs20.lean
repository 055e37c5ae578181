/- What the source returns of nodes of types: .. -/
import Derived.Test.YteedihhdcbepmaaGreatTsZ
import Derived.Test.YteedihhdcbepmaaGreatTs19
set_option maxRecDepth 100000
set_option maxHeartbeats 12800000
set_option linter.all false
open Go.Value renaming slice→vS,int→vI,string→vT
open Go.IntKind renaming i64→i6
open Go.Proofs.Tryz renaming prog→tP
namespace Go.Proofs.YteedihhdcbepmaaGreat
open Go Go.RowKit
theorem zPh (h p i n:Nat) (w:World) (hS:SrcOk h p w) (hi:i<n) (hn:n<=100):Calls tP 87 #[.pointer (some (aD p 0)),vI i6 i,vI i6 n] w (NodeR h p n i w):=by
 have r:=hS.lt;obtain⟨W,hW⟩:∃ W,W=w.alloc (zT 40):=⟨_,rfl⟩;have J:bW w W:=by rw[hW];exact yR.alloc lR _
 have P:w.heap.size<W.heap.size:=by rw[hW];simp
 have K0:W.heap[w.heap.size]?=some oH:=by rw[hW];exact Bl w _
 have X:Eff p w W:=Eff.of_below J (Du r);have M:=fun (m:Int) (h1:1<=m) (h2:m<=100)=>zAh h p m W (hS.below J) h1 h2;have Y:IntKind.i64.wrap ((n:Int)-1)=(n:Int)-1:=Br _ (by omega);obtain⟨b,hb⟩:∃ b:Bool,((i:Int)==(n:Int)-1)=b:=⟨_,rfl⟩;have N:b=false->i+1<n:=by
  rintro rfl;have:=Cm.1 hb;omega
 have F:=xI N;clear hS J N;go_enter Tryz.func87,Tryz.ntmps87;cases b
 all_goals
  go_wp2_with fail;rw[<-hW];clear hW;refine (M _ (by decide) (by decide)).mono ?_;rintro e w1 ⟨j,rfl,j0,j1,hS1,hE1⟩;clear M;have K1:w1.heap[w.heap.size]?=some oH:=(hE1.other _ (by omega) (by omega)).trans K0;have z:=X.trans hE1;have v:w.heap.size<w1.heap.size:=Bj P hE1.size;have hj:j=0\/j=1\/j=2\/j=3\/j=4\/j=5\/j=6\/j=7\/j=8\/j=9\/j=10\/j=11\/j=12\/j=13\/j=14\/j=15\/j=16\/j=17:=by omega
  rcases hj with rfl|rfl|rfl|rfl|rfl|rfl|rfl|rfl|rfl|rfl|rfl|rfl|rfl|rfl|rfl|rfl|rfl|rfl
  ·obtain⟨w2,B⟩:∃ w2,w2=w1.alloc (.cells #[vI i6 (-9223372036854775808),vI i6 (0),vI i6 (1),vI i6 (2),vI i6 (9223372036854775807)] 2):=⟨_,rfl⟩;have kb:w2.heap[w1.heap.size]?=some (.cells #[vI i6 (-9223372036854775808),vI i6 (0),vI i6 (1),vI i6 (2),vI i6 (9223372036854775807)] 2 (0,0)):=by rw[B];exact Bl _ _
   have hb:bW w1 w2:=by rw[B];exact yR.alloc lR _
   have g:=hS1.below hb;have d:Eff p w1 w2:=Eff.of_below hb (by omega);clear hb;have K2:w2.heap[w.heap.size]?=some oH:=(d.other _ (by omega) (by omega)).trans K1;have o:=z.trans d;have f:w.heap.size<w2.heap.size:=Bj v d.size;have hc:=zAh h p 5 w2 g (by omega) (by omega);go_wp2_with fail;rw[<-B];clear B;refine hc.mono ?_;rintro e w3 ⟨lo,rfl,l0,l1,hS3,hE3⟩;clear hc;have K3:w3.heap[w.heap.size]?=some oH:=(hE3.other _ (by omega) (by omega)).trans K2;have u:=o.trans hE3;have t:w.heap.size<w3.heap.size:=Bj f hE3.size;have C:=(hE3.other _ (by omega) (Cv.1 kb).1).trans kb;have R:w1.heap.size<w3.heap.size:=Bj (Cv.1 kb).1 hE3.size;have HK:Hid (∀ wq:World,wq.heap[w1.heap.size]?=w3.heap[w1.heap.size]?->∀ a x,nums5[a]?=some x->wq.cell? (aH w1 a)=some (vI i6 x)):=xI fun wq hq a x hx=>zPf (hq.trans C) hx;have S:Eff p w3 w3.drew:=Eff.of_below yR.drew (by omega);have T:=hS3.below yR.drew;obtain⟨lo,rfl⟩:∃ q:Nat,lo=(q:Int):=⟨lo.toNat,by omega⟩;obtain⟨x,hx⟩:∃ x,nums5[lo]?=some x:=⟨_,By (show lo<nums5.length by show lo<5;omega)⟩;have u0:(0:Int)<=(lo:Int):=by omega
   have u1:(lo:Int)<5:=by omega
   have v1:IntKind.i64.wrap (5-(lo:Int))=5-(lo:Int):=Br _ (by omega);have hc:=zAh h p (5-(lo:Int)) w3.drew T (by omega) (by omega);clear kb C l0 l1;go_wp2_with fail;refine ub 14 (fun wq=>∀ a x,nums5[a]?=some x->wq.cell? (aH w1 a)=some (vI i6 x)) (fun _=>True) ?_;refine oM 0 ⟨HK.out w3.drew rfl,trivial⟩ ?_ (hy:=oA);refine oM 1 ⟨HK.out w3.drew rfl,trivial⟩ ?_ (hy:=oA);refine oM 2 ⟨HK.out w3.drew rfl,trivial⟩ ?_ (hy:=oA);refine oM 3 ⟨HK.out w3.drew rfl,trivial⟩ ?_ (hy:=Or.inl ⟨by rfl,(by intro w hSw;have h3:=hSw _ _ hx;go_simp;try with_reducible rfl)⟩)
   refine oM 4 ⟨HK.out w3.drew rfl,trivial⟩ ?_ (hy:=oA);refine oM 5 ⟨HK.out w3.drew rfl,trivial⟩ ?_ (hy:=oA);refine oM 6 ⟨HK.out w3.drew rfl,trivial⟩ ?_ (hy:=oA);refine oM 7 ⟨HK.out w3.drew rfl,trivial⟩ ?_ (hy:=oA);refine oM 8 ⟨HK.out w3.drew rfl,trivial⟩ ?_ (hy:=oA);refine uo 9 (fun K hK=>?_);go_simp;refine hc.mono ?_;rintro e w4 ⟨q,rfl,q0,q1,hS4,hE9⟩;clear hc;have E:=S.trans hE9;have K4:w4.heap[w.heap.size]?=some oH:=(E.other _ (by omega) (by omega)).trans K3;have U:=u.trans E;have O:w.heap.size<w4.heap.size:=Bj t E.size;have D:=E.other w1.heap.size (by omega) R;obtain⟨q,rfl⟩:∃ k:Nat,q=(k:Int):=⟨q.toNat,by omega⟩;obtain⟨x',y,L,hy,Q,wx,wy⟩:=zPe (Nat.le_add_right lo q) (by omega);obtain rfl:x=x':=by rw[hx]at L;injection L
   refine hK _ _ ⟨HK.out w4 D,fun _=>trivial⟩ (oQ ?_);clear hK K;have v2:IntKind.i64.wrap ((lo:Int)+(q:Int))=((lo+q:Nat):Int):=by rw[Br _ (by omega)];omega
   have u2:(0:Int)<=((lo+q:Nat):Int):=by omega
   have u3:((lo+q:Nat):Int)<5:=by omega
   obtain⟨e0,e1,e2,e3,e4,e5,e6,e7⟩:=zAe K4;obtain⟨z0,z1,z2,z3,z4,z5,z6,z7⟩:=zA3 K4;generalize lo+q=s at v2 u2 u3 hy;refine oM 10 ⟨HK.out w4 D,trivial⟩ ?_ (hy:=oA);refine oM 11 ⟨HK.out w4 D,trivial⟩ ?_ (hy:=oA);refine oM 12 ⟨HK.out w4 D,trivial⟩ ?_ (hy:=Or.inl ⟨by rfl,(by intro w hSw;have h3:=hSw _ _ hy;go_simp;try with_reducible rfl)⟩)
   refine oM 13 ⟨HK.out w4 D,trivial⟩ ?_ (hy:=oA);refine uo 14 (fun K hK=>?_);go_simp;refine hK _ _ ⟨HK.out _ (((box8 K4 _ _ _ _ _ _ _ _ _ rfl).2.2.1 _ (by omega)).trans D),ug⟩ (oQ ?_);clear hK K;refine (ud ?_) _;go_wp2;exact ret8 K4 rfl rfl rfl fun V x1 x2 x3=>zAr r O hS4 U (leafT 3 x y [] (by decide) wx wy (by simp)) (zSv Q) x1 x2 x3
  ·have hc:=zCm h p w1 hS1;go_wp2_with fail;refine hc.mono ?_;rintro e w2 ⟨⟨s,rfl,hs⟩,g,d⟩;clear hc;have K2:w2.heap[w.heap.size]?=some oH:=(d.other _ (by omega) (by omega)).trans K1;have o:=z.trans d;have f:w.heap.size<w2.heap.size:=Bj v d.size;obtain⟨e0,e1,e2,e3,e4,e5,e6,e7⟩:=zAe K2;obtain⟨z0,z1,z2,z3,z4,z5,z6,z7⟩:=zA3 K2;go_wp2;exact ret8 K2 rfl rfl rfl fun V x1 x2 x3=>zAr r f g o (leafT 6 0 0 s (by decide) (by decide) (by decide) (by have:=hs.len;unfold maxLen;omega)) (zR6 hs) x1 x2 x3
  ·obtain⟨e0,e1,e2,e3,e4,e5,e6,e7⟩:=zAe K1;obtain⟨z0,z1,z2,z3,z4,z5,z6,z7⟩:=zA3 K1;go_wp2;exact ret8 K1 rfl rfl rfl fun V x1 x2 x3=>zAr r v hS1 z (leafT 7 0 0 [] (by decide) (by decide) (by decide) (by simp)) (zDb rfl) x1 x2 x3
  ·have hc:=zFa h p w1 hS1;go_wp2_with fail;refine hc.mono ?_;rintro e w2 ⟨⟨s,rfl,hs⟩,g,d⟩;clear hc;have K2:w2.heap[w.heap.size]?=some oH:=(d.other _ (by omega) (by omega)).trans K1;have o:=z.trans d;have f:w.heap.size<w2.heap.size:=Bj v d.size;obtain⟨e0,e1,e2,e3,e4,e5,e6,e7⟩:=zAe K2;obtain⟨z0,z1,z2,z3,z4,z5,z6,z7⟩:=zA3 K2;go_wp2;exact ret8 K2 rfl rfl rfl fun V x1 x2 x3=>zAr r f g o (leafT 4 0 0 s (by decide) (by decide) (by decide) (by have:=hs.len64;unfold maxLen;omega)) (zR5 hs) x1 x2 x3
  ·obtain⟨w2,B⟩:∃ w2,w2=w1.alloc (.cells #[vI i6 5,vI i6 8,vI i6 11,vI i6 15] 3):=⟨_,rfl⟩;have kb:w2.heap[w1.heap.size]?=some (.cells #[vI i6 5,vI i6 8,vI i6 11,vI i6 15] 3 (0,0)):=by rw[B];exact Bl _ _
   have hb:bW w1 w2:=by rw[B];exact yR.alloc lR _
   have g:=hS1.below hb;have d:Eff p w1 w2:=Eff.of_below hb (by omega);clear hb;have K2:w2.heap[w.heap.size]?=some oH:=(d.other _ (by omega) (by omega)).trans K1;have o:=z.trans d;have f:w.heap.size<w2.heap.size:=Bj v d.size;have hc:=zAh h p 4 w2 g (by omega) (by omega);go_wp2_with fail;rw[<-B];clear B;refine hc.mono ?_;rintro e w3 ⟨q,rfl,q0,q1,hS3,hE3⟩;clear hc;have K3:w3.heap[w.heap.size]?=some oH:=(hE3.other _ (by omega) (by omega)).trans K2;have u:=o.trans hE3;have t:w.heap.size<w3.heap.size:=Bj f hE3.size;have C:=(hE3.other _ (by omega) (Cv.1 kb).1).trans kb;have c0:w3.cell? (aH w1 0)=some (vI i6 5):=cH C 0;have c1:w3.cell? (aH w1 1)=some (vI i6 8):=cH C 1;have c2:w3.cell? (aH w1 2)=some (vI i6 11):=cH C 2;have c3:w3.cell? (aH w1 3)=some (vI i6 15):=cH C 3;obtain⟨e0,e1,e2,e3,e4,e5,e6,e7⟩:=zAe K3;obtain⟨z0,z1,z2,z3,z4,z5,z6,z7⟩:=zA3 K3;have hq:q=0\/q=1\/q=2\/q=3:=by omega
   rcases hq with rfl|rfl|rfl|rfl
   ·go_wp2;exact ret8 K3 rfl rfl rfl fun V x1 x2 x3=>zAr r t hS3 u (leafT 5 0 0 [] (by decide) (by decide) (by decide) (by simp)) (zDb rfl) x1 x2 x3
   ·go_wp2;exact ret8 K3 rfl rfl rfl fun V x1 x2 x3=>zAr r t hS3 u (leafT 8 0 0 [] (by decide) (by decide) (by decide) (by simp)) (zDb rfl) x1 x2 x3
   ·go_wp2;exact ret8 K3 rfl rfl rfl fun V x1 x2 x3=>zAr r t hS3 u (leafT 11 0 0 [] (by decide) (by decide) (by decide) (by simp)) (zDb rfl) x1 x2 x3
   ·go_wp2;exact ret8 K3 rfl rfl rfl fun V x1 x2 x3=>zAr r t hS3 u (leafT 15 0 0 [] (by decide) (by decide) (by decide) (by simp)) (zDb rfl) x1 x2 x3
  ·obtain⟨e0,e1,e2,e3,e4,e5,e6,e7⟩:=zAe K1;obtain⟨z0,z1,z2,z3,z4,z5,z6,z7⟩:=zA3 K1;go_wp2;exact ret8 K1 rfl rfl rfl fun V x1 x2 x3=>zAr r v hS1 z (leafT 9 0 0 [] (by decide) (by decide) (by decide) (by simp)) (zDb rfl) x1 x2 x3
  ·obtain⟨w2,B⟩:∃ w2,w2=w1.alloc (.cells #[vI i6 2,vI i6 1] 3):=⟨_,rfl⟩;have kb:w2.heap[w1.heap.size]?=some (.cells #[vI i6 2,vI i6 1] 3 (0,0)):=by rw[B];exact Bl _ _
   have hb:bW w1 w2:=by rw[B];exact yR.alloc lR _
   have g:=hS1.below hb;have d:Eff p w1 w2:=Eff.of_below hb (by omega);clear hb;have K2:w2.heap[w.heap.size]?=some oH:=(d.other _ (by omega) (by omega)).trans K1;have o:=z.trans d;have f:w.heap.size<w2.heap.size:=Bj v d.size;have hc:=zAh h p 2 w2 g (by omega) (by omega);go_wp2_with fail;rw[<-B];clear B;refine hc.mono ?_;rintro e w3 ⟨q,rfl,q0,q1,hS3,hE3⟩;clear hc;have K3:w3.heap[w.heap.size]?=some oH:=(hE3.other _ (by omega) (by omega)).trans K2;have u:=o.trans hE3;have t:w.heap.size<w3.heap.size:=Bj f hE3.size;have C:=(hE3.other _ (by omega) (Cv.1 kb).1).trans kb;have c0:w3.cell? (aH w1 0)=some (vI i6 2):=cH C 0;have c1:w3.cell? (aH w1 1)=some (vI i6 1):=cH C 1;obtain⟨e0,e1,e2,e3,e4,e5,e6,e7⟩:=zAe K3;obtain⟨z0,z1,z2,z3,z4,z5,z6,z7⟩:=zA3 K3;have hq:q=0\/q=1:=by omega
   rcases hq with rfl|rfl
   ·go_wp2;exact ret8 K3 rfl rfl rfl fun V x1 x2 x3=>zAr r t hS3 u (leafT 2 0 0 [] (by decide) (by decide) (by decide) (by simp)) (zDb rfl) x1 x2 x3
   ·go_wp2;exact ret8 K3 rfl rfl rfl fun V x1 x2 x3=>zAr r t hS3 u (leafT 1 0 0 [] (by decide) (by decide) (by decide) (by simp)) (zDb rfl) x1 x2 x3
  ·have hc:=zF2 h p w1 hS1;go_wp2_with fail;refine hc.mono ?_;rintro e w2 ⟨⟨s,rfl,hs⟩,g,d⟩;clear hc;have K2:w2.heap[w.heap.size]?=some oH:=(d.other _ (by omega) (by omega)).trans K1;have o:=z.trans d;have f:w.heap.size<w2.heap.size:=Bj v d.size;obtain⟨e0,e1,e2,e3,e4,e5,e6,e7⟩:=zAe K2;obtain⟨z0,z1,z2,z3,z4,z5,z6,z7⟩:=zA3 K2;go_wp2;exact ret8 K2 rfl rfl rfl fun V x1 x2 x3=>zAr r f g o (leafT 19 0 0 s (by decide) (by decide) (by decide) (by have:=hs.len;unfold maxLen;omega)) (zSu hs) x1 x2 x3
  ·have hc:=zAh h p 3 w1 hS1 (by omega) (by omega);go_wp2_with fail;refine hc.mono ?_;rintro e w2 ⟨q9,rfl,q90,q91,g,d⟩;clear hc;have K2:w2.heap[w.heap.size]?=some oH:=(d.other _ (by omega) (by omega)).trans K1;have o:=z.trans d;have f:w.heap.size<w2.heap.size:=Bj v d.size;obtain⟨q,rfl⟩:∃ q:Nat,q9=(q:Int):=⟨q9.toNat,by omega⟩;have hc:=zA6 h p (q) (0) n w2 g (by omega) (by omega) (by omega) (by omega);go_wp2_with fail;refine hc.mono ?_;rintro e w3 ⟨⟨A,c,l,rfl,hl,hk,ho⟩,hS3,hE3⟩;clear hc;have K3:w3.heap[w.heap.size]?=some oH:=(hE3.other _ (by omega) (by omega)).trans K2;have u:=o.trans hE3;have t:w.heap.size<w3.heap.size:=Bj f hE3.size;obtain⟨e0,e1,e2,e3,e4,e5,e6,e7⟩:=zAe K3;obtain⟨z0,z1,z2,z3,z4,z5,z6,z7⟩:=zA3 K3;go_wp2;exact ret8 K3 rfl rfl rfl fun V x1 x2 x3=>zAr r t hS3 u (kidT 10 (by decide) ho hl (by omega) (by omega)) (zC1 hl (by omega) (by omega) hk (.inl ⟨rfl,by omega⟩)) x1 x2 x3
  ·have hc:=zAh h p 3 w1 hS1 (by omega) (by omega);go_wp2_with fail;refine hc.mono ?_;rintro e w2 ⟨q9,rfl,q90,q91,g,d⟩;clear hc;have K2:w2.heap[w.heap.size]?=some oH:=(d.other _ (by omega) (by omega)).trans K1;have o:=z.trans d;have f:w.heap.size<w2.heap.size:=Bj v d.size;obtain⟨q,rfl⟩:∃ q:Nat,q9=(q:Int):=⟨q9.toNat,by omega⟩;have hc:=zA6 h p (q) (0) n w2 g (by omega) (by omega) (by omega) (by omega);go_wp2_with fail;refine hc.mono ?_;rintro e w3 ⟨⟨A,c,l,rfl,hl,hk,ho⟩,hS3,hE3⟩;clear hc;have K3:w3.heap[w.heap.size]?=some oH:=(hE3.other _ (by omega) (by omega)).trans K2;have u:=o.trans hE3;have t:w.heap.size<w3.heap.size:=Bj f hE3.size;obtain⟨e0,e1,e2,e3,e4,e5,e6,e7⟩:=zAe K3;obtain⟨z0,z1,z2,z3,z4,z5,z6,z7⟩:=zA3 K3;go_wp2;exact ret8 K3 rfl rfl rfl fun V x1 x2 x3=>zAr r t hS3 u (kidT 10 (by decide) ho hl (by omega) (by omega)) (zC1 hl (by omega) (by omega) hk (.inl ⟨rfl,by omega⟩)) x1 x2 x3
  ·have hc:=zA6 h p (2) (0) n w1 hS1 (by omega) (by omega) (by omega) (by omega);go_wp2_with fail;refine hc.mono ?_;rintro e w2 ⟨⟨A,c,l,rfl,hl,hk,ho⟩,g,d⟩;clear hc;have K2:w2.heap[w.heap.size]?=some oH:=(d.other _ (by omega) (by omega)).trans K1;have o:=z.trans d;have f:w.heap.size<w2.heap.size:=Bj v d.size;obtain⟨e0,e1,e2,e3,e4,e5,e6,e7⟩:=zAe K2;obtain⟨z0,z1,z2,z3,z4,z5,z6,z7⟩:=zA3 K2;go_wp2;exact ret8 K2 rfl rfl rfl fun V x1 x2 x3=>zAr r f g o (kidT 12 (by decide) ho hl (by omega) (by omega)) (zC1 hl (by omega) (by omega) hk (.inr (.inl ⟨rfl,rfl⟩))) x1 x2 x3
  ·have hc:=zJq h p n w1 hS1 (by omega) (by omega);go_wp2_with fail;refine hc.mono ?_;rintro e w2 ⟨⟨x,cs,rfl,hT,hG⟩,g,d⟩;clear hc;have K2:w2.heap[w.heap.size]?=some oH:=(d.other _ (by omega) (by omega)).trans K1;have o:=z.trans d;have f:w.heap.size<w2.heap.size:=Bj v d.size;obtain⟨A1,n1,d1,A2,n2,d2,rfl⟩:=TnB.form8 hT;have HT:=xI hT;clear hT;obtain⟨e0,e1,e2,e3,e4,e5,e6,e7⟩:=zAe K2;obtain⟨z0,z1,z2,z3,z4,z5,z6,z7⟩:=zA3 K2;go_wp2;exact ret8 K2 rfl rfl rfl fun V x1 x2 x3=>zAr r f g o (HT.out.sub fun b hb=>⟨by have:=hb.1;omega,hb.2⟩) (hG i) x1 x2 x3
  ·have hc:=zAh h p 3 w1 hS1 (by omega) (by omega);go_wp2_with fail;refine hc.mono ?_;rintro e w2 ⟨q9,rfl,q90,q91,g,d⟩;clear hc;have K2:w2.heap[w.heap.size]?=some oH:=(d.other _ (by omega) (by omega)).trans K1;have o:=z.trans d;have f:w.heap.size<w2.heap.size:=Bj v d.size;obtain⟨q,rfl⟩:∃ q:Nat,q9=(q:Int):=⟨q9.toNat,by omega⟩;have G:IntKind.i64.wrap (1+(q:Int))=((q+1:Nat):Int):=by rw[Br _ (by omega)];omega
   have hc:=zA6 h p (q+1) (0) n w2 g (by omega) (by omega) (by omega) (by omega);go_wp2_with fail;refine hc.mono ?_;rintro e w3 ⟨⟨A,c,l,rfl,hl,hk,ho⟩,hS3,hE3⟩;clear hc;have K3:w3.heap[w.heap.size]?=some oH:=(hE3.other _ (by omega) (by omega)).trans K2;have u:=o.trans hE3;have t:w.heap.size<w3.heap.size:=Bj f hE3.size;obtain⟨e0,e1,e2,e3,e4,e5,e6,e7⟩:=zAe K3;obtain⟨z0,z1,z2,z3,z4,z5,z6,z7⟩:=zA3 K3;go_wp2;exact ret8 K3 rfl rfl rfl fun V x1 x2 x3=>zAr r t hS3 u (kidT 14 (by decide) ho hl (by omega) (by omega)) (zC1 hl (by omega) (by omega) hk (.inr (.inr (.inl ⟨rfl,by omega⟩)))) x1 x2 x3
  ·have hc:=zAh h p 3 w1 hS1 (by omega) (by omega);go_wp2_with fail;refine hc.mono ?_;rintro e w2 ⟨q9,rfl,q90,q91,g,d⟩;clear hc;have K2:w2.heap[w.heap.size]?=some oH:=(d.other _ (by omega) (by omega)).trans K1;have o:=z.trans d;have f:w.heap.size<w2.heap.size:=Bj v d.size;obtain⟨q,rfl⟩:∃ q:Nat,q9=(q:Int):=⟨q9.toNat,by omega⟩;have G:IntKind.i64.wrap (1+(q:Int))=((q+1:Nat):Int):=by rw[Br _ (by omega)];omega
   have hc:=zA6 h p (q+1) (0) n w2 g (by omega) (by omega) (by omega) (by omega);go_wp2_with fail;refine hc.mono ?_;rintro e w3 ⟨⟨A,c,l,rfl,hl,hk,ho⟩,hS3,hE3⟩;clear hc;have K3:w3.heap[w.heap.size]?=some oH:=(hE3.other _ (by omega) (by omega)).trans K2;have u:=o.trans hE3;have t:w.heap.size<w3.heap.size:=Bj f hE3.size;obtain⟨e0,e1,e2,e3,e4,e5,e6,e7⟩:=zAe K3;obtain⟨z0,z1,z2,z3,z4,z5,z6,z7⟩:=zA3 K3;go_wp2;exact ret8 K3 rfl rfl rfl fun V x1 x2 x3=>zAr r t hS3 u (kidT 14 (by decide) ho hl (by omega) (by omega)) (zC1 hl (by omega) (by omega) hk (.inr (.inr (.inl ⟨rfl,by omega⟩)))) x1 x2 x3
  ·first
   | (exfalso;omega)
   | (
     have I:=F.out trivial;have H:IntKind.i64.wrap ((i:Int)+1)=(i:Int)+1:=Br _ (by omega);have hc:=zA6 h p (1) ((i:Int)+1) n w1 hS1 (by omega) (by omega) (by omega) (by omega);go_wp2_with fail;refine hc.mono ?_;rintro e w2 ⟨⟨A,c,l,rfl,hl,hk,ho⟩,g,d⟩;clear hc;have K2:w2.heap[w.heap.size]?=some oH:=(d.other _ (by omega) (by omega)).trans K1;have o:=z.trans d;have f:w.heap.size<w2.heap.size:=Bj v d.size;obtain⟨e0,e1,e2,e3,e4,e5,e6,e7⟩:=zAe K2;obtain⟨z0,z1,z2,z3,z4,z5,z6,z7⟩:=zA3 K2;go_wp2;exact ret8 K2 rfl rfl rfl fun V x1 x2 x3=>zAr r f g o (kidT 18 (by decide) ho hl (by omega) (by omega)) (zC1 hl (by omega) (by omega) hk (.inr (.inr (.inr (.inl ⟨rfl,rfl,by omega⟩))))) x1 x2 x3)
  ·first
   | (exfalso;omega)
   | (
     have I:=F.out trivial;have H:IntKind.i64.wrap ((i:Int)+1)=(i:Int)+1:=Br _ (by omega);have hc:=zA6 h p (2) ((i:Int)+1) n w1 hS1 (by omega) (by omega) (by omega) (by omega);go_wp2_with fail;refine hc.mono ?_;rintro e w2 ⟨⟨A,c,l,rfl,hl,hk,ho⟩,g,d⟩;clear hc;have K2:w2.heap[w.heap.size]?=some oH:=(d.other _ (by omega) (by omega)).trans K1;have o:=z.trans d;have f:w.heap.size<w2.heap.size:=Bj v d.size;obtain⟨e0,e1,e2,e3,e4,e5,e6,e7⟩:=zAe K2;obtain⟨z0,z1,z2,z3,z4,z5,z6,z7⟩:=zA3 K2;go_wp2;exact ret8 K2 rfl rfl rfl fun V x1 x2 x3=>zAr r f g o (kidT 17 (by decide) ho hl (by omega) (by omega)) (zC1 hl (by omega) (by omega) hk (.inr (.inr (.inr (.inr (.inl ⟨rfl,by omega,by omega⟩)))))) x1 x2 x3)
  ·first
   | (exfalso;omega)
   | (
     have I:=F.out trivial;have H:IntKind.i64.wrap ((i:Int)+1)=(i:Int)+1:=Br _ (by omega);have hc:=zAh h p 2 w1 hS1 (by omega) (by omega);go_wp2_with fail;refine hc.mono ?_;rintro e w2 ⟨q9,rfl,q90,q91,g,d⟩;clear hc;have K2:w2.heap[w.heap.size]?=some oH:=(d.other _ (by omega) (by omega)).trans K1;have o:=z.trans d;have f:w.heap.size<w2.heap.size:=Bj v d.size;obtain⟨q,rfl⟩:∃ q:Nat,q9=(q:Int):=⟨q9.toNat,by omega⟩;have G:IntKind.i64.wrap (2+(q:Int))=((q+2:Nat):Int):=by rw[Br _ (by omega)];omega
     have hc:=zA6 h p (q+2) ((i:Int)+1) n w2 g (by omega) (by omega) (by omega) (by omega);go_wp2_with fail;refine hc.mono ?_;rintro e w3 ⟨⟨A,c,l,rfl,hl,hk,ho⟩,hS3,hE3⟩;clear hc;have K3:w3.heap[w.heap.size]?=some oH:=(hE3.other _ (by omega) (by omega)).trans K2;have u:=o.trans hE3;have t:w.heap.size<w3.heap.size:=Bj f hE3.size;obtain⟨e0,e1,e2,e3,e4,e5,e6,e7⟩:=zAe K3;obtain⟨z0,z1,z2,z3,z4,z5,z6,z7⟩:=zA3 K3;go_wp2;exact ret8 K3 rfl rfl rfl fun V x1 x2 x3=>zAr r t hS3 u (kidT 16 (by decide) ho hl (by omega) (by omega)) (zC1 hl (by omega) (by omega) hk (.inr (.inr (.inr (.inr (.inr ⟨rfl,by omega,by omega⟩)))))) x1 x2 x3)
  ·first
   | (exfalso;omega)
   | (
     have I:=F.out trivial;have H:IntKind.i64.wrap ((i:Int)+1)=(i:Int)+1:=Br _ (by omega);have hc:=zAh h p 2 w1 hS1 (by omega) (by omega);go_wp2_with fail;refine hc.mono ?_;rintro e w2 ⟨q9,rfl,q90,q91,g,d⟩;clear hc;have K2:w2.heap[w.heap.size]?=some oH:=(d.other _ (by omega) (by omega)).trans K1;have o:=z.trans d;have f:w.heap.size<w2.heap.size:=Bj v d.size;obtain⟨q,rfl⟩:∃ q:Nat,q9=(q:Int):=⟨q9.toNat,by omega⟩;have G:IntKind.i64.wrap (2+(q:Int))=((q+2:Nat):Int):=by rw[Br _ (by omega)];omega
     have hc:=zA6 h p (q+2) ((i:Int)+1) n w2 g (by omega) (by omega) (by omega) (by omega);go_wp2_with fail;refine hc.mono ?_;rintro e w3 ⟨⟨A,c,l,rfl,hl,hk,ho⟩,hS3,hE3⟩;clear hc;have K3:w3.heap[w.heap.size]?=some oH:=(hE3.other _ (by omega) (by omega)).trans K2;have u:=o.trans hE3;have t:w.heap.size<w3.heap.size:=Bj f hE3.size;obtain⟨e0,e1,e2,e3,e4,e5,e6,e7⟩:=zAe K3;obtain⟨z0,z1,z2,z3,z4,z5,z6,z7⟩:=zA3 K3;go_wp2;exact ret8 K3 rfl rfl rfl fun V x1 x2 x3=>zAr r t hS3 u (kidT 16 (by decide) ho hl (by omega) (by omega)) (zC1 hl (by omega) (by omega) hk (.inr (.inr (.inr (.inr (.inr ⟨rfl,by omega,by omega⟩)))))) x1 x2 x3)
structure TypL (h p n m:Nat) (w:World) (i:Nat) (A:Option Addr) (c:Nat) (l:List Tn) (wr:World):Prop where
 le:i<=n
 len:l.length=i
 gen:∀ j x,l[j]?=some x->GenN n j x
 res:wr.heap[m]?=some (oE none 0 0 0)
 box:wr.heap[m+1]?=some (oE A l.length c 0)
 own:OwnT wr (m+2) (vS A l.length c) l
 src:SrcOk h p wr
 eff:Eff p w wr
 siz:m+2<=wr.heap.size
theorem zB7 {w:World}{g:Nat}{e:TypeId}{z0 z1:Value}(h:w.heap[g]?=some (.cells #[z0,z1] e (0,0))):j2 w g z0 z1:=⟨cH h 0,cH h 1⟩
def TypeR (h p n:Nat) (w:World) (e:Ending) (w':World):Prop:=(∃ ns cs,e=.returned (.agg cs.toArray)/\ns.length=n/\(∀ j x,ns[j]?=some x->GenN n j x)/\TyB w' (Btw w.heap.size w'.heap.size) ns 0 cs)/\SrcOk h p w'/\Eff p w w'
theorem zOx (h p n:Nat) (w:World) (hS:SrcOk h p w) (hn:1<=n) (hn2:n<=100):Calls tP 44 #[.pointer (some (aD p 0)),vI i6 n] w (TypeR h p n w):=by
 have B:=hS.lt;obtain⟨W,hW⟩:∃ W,W=(w.alloc (oE none 0 0 0)).alloc (oE none 0 0 0):=⟨_,rfl⟩;have hb:bW w W:=by rw[hW];exact (yR.alloc lR _).alloc (by simp) _
 have hL:TypL h p n w.heap.size w 0 none 0 [] W:=⟨by omega,rfl,by simp,by rw[hW,Bp _ _ _ (by simp)];exact Bl w _,by rw[hW];exact zAg _ (by simp),OwnE.nil _ _ _ _ _,hS.below hb,Eff.of_below hb (by omega),by rw[hW];simp⟩;have G:max (n:Int) 1=n:=by omega
 clear hS hb;go_enter Tryz.func44,Tryz.ntmps44;go_wp2_with fail;rw[<-hW];clear hW
 try simp only[G]
 clear G
 go_loopw [6] (fun iv wr=>∃ (i:Nat) (A:Option Addr) (c:Nat) (l:List Tn),iv=vI i6 i/\TypL h p n w.heap.size w i A c l wr) (fun i _=>((n:Int)-intOf i).toNat)
 case atStart=>exact⟨0,none,0,[],rfl,hL⟩
 case round=>
  obtain⟨i,A,c,l,rfl,hL⟩:=hrel;by_cases hi:i<n
  ·have mp:(i:Int)<(n:Int):=by omega
   have R:IntKind.i64.wrap ((i:Int)+1)=(i:Int)+1:=Br _ (by omega);have hz:=hL.siz;have hd:Eff p wr wr.drew:=Eff.of_below yR.drew (by have:=hL.eff.size;omega);have S:=hL.eff.size;have HQ:Hid (∀ wq,Eff p wr wq->wq.cell? (aE w 0)=some (vS A l.length c)):=xI fun wq hE=>(zB7 ((hE.other _ (by omega) (by omega)).trans hL.box)).1;have hc:=zPh h p i n wr.drew (hL.src.below yR.drew) hi hn2;have HL:=xI hL;generalize a:l.length=la at HQ;have f:=xI a;clear hL a;go_wp2_with fail;refine ub 7 (fun _=>True) (fun wq=>wq.cell? (aE w 0)=some (vS A la c)) ?_;refine oM 0 ⟨trivial,HQ.out _ hd⟩ ?_;refine oK 1 ⟨trivial,HQ.out _ hd⟩ ?_;refine oM 2 ⟨trivial,HQ.out _ hd⟩ ?_;refine oM 3 ⟨trivial,HQ.out _ hd⟩ ?_;refine oM 4 ⟨trivial,HQ.out _ hd⟩ ?_;refine uo 5 (fun K hK=>?_);go_simp;refine hc.mono ?_;rintro e w5 ⟨⟨x,cs,rfl,hT,hG⟩,hS5,hE5⟩;clear hc;have hT:TnB w5 (Btw wr.heap.size w5.heap.size) x cs:=hT;obtain⟨A1,n1,d1,A2,n2,d2,rfl⟩:=TnB.form8 hT;have d:=hd.trans hE5;have hL:=HL.out;have L:wr.heap.size<=w5.heap.size:=d.size;have m:=hL.own.blk;obtain⟨g,cap,w7,u,D,t,N,_⟩:=appG elT namT 22 w5 (w.heap.size+2) _ l (hL.own.eff d (by omega)) x _ (hT.sub fun b hb=>⟨by have:=hb.1;omega,hb.2,fun e=>by have:=m b e.symm;have:=hb.1;omega⟩) rfl (zR8 hT) (by have:=hL.len;omega) (by omega) _ rfl 1;rw[f.out]at u D;have s:=((d.other _ (by omega) (by omega)).trans hL.box);have k:=(t.block _ (by omega)).trans s;rw[f.out]at k;have J:=(zB7 k).1;have I:=Bz k 0;have H:TypL h p n w.heap.size w (i+1) (some (aD g 0)) cap (l++[x]) (w7.setCell (aE w 0) (vS (some (aD g 0)) (la+1) cap)):=by
    have r:(l++[x]).length=la+1:=by rw[Bd,f.out];rfl
    have s:=Bm w7 (w.heap.size+1) 0 _ _ (vS (some (aD g 0)) (la+1) cap) k;have C:Below (w.heap.size+1) w5 (w7.setCell (aE w 0) (vS (some (aD g 0)) (la+1) cap)):=(t.mono (show w.heap.size+1<=w.heap.size+2 by omega)).setCell (p:=(aE w 0)) (Bc (w.heap.size+1)) _;refine⟨hi,by rw[r];have:=hL.len;have:=f.out;omega,fun j y hy=>?_,(C.block _ (by omega)).trans ((d.other _ (by omega) (by omega)).trans hL.res),by rw[r];simpa using s,by rw[r];exact OwnE.low D (by omega),hS5.below3 C (by omega),(hL.eff.trans d).grow (C.mono (by omega)) B,by simp;have:=t.size;omega⟩;by_cases hj:j<l.length
    ·rw[Dt hj]at hy;exact hL.gen j y hy
    ·have O:j=l.length:=by have:=(Bx.1 hy).1;rw[r]at this;have:=f.out;omega
     subst O;rw[Dw lR,Nat.sub_self]at hy;simp only[D0,Cq]at hy;rw[<-hy,hL.len];exact hG
   have HR:=xI H;have F:=HQ.out w5 d;have E:=fun o=>HQ.out (w5.alloc o) (d.grow ((Bw wr.heap.size w5).alloc L o) (by omega));clear H k D t N hL s m hT hG hS5 hE5;refine hK _ _ ⟨trivial,fun _=>F⟩ (oQ ?_);clear hK K;refine uo 6 (fun K hK=>?_);go_simp;refine hK _ _ ⟨trivial,fun _=>E _⟩ (oQ ?_);clear hK K;refine uo 7 (fun K hK=>?_);refine Lib.wp_append_run _ _ _ _ _ rfl _ _ rfl rfl _ w7 u ?_;refine hK _ _ ⟨trivial,ug⟩ (oQ ?_);clear hK K;refine oN 8 trivial ?_;refine uo 9 (fun K hK=>?_);go_simp;refine hK _ _ ⟨trivial,ug⟩ (oQ ?_);clear hK K;refine (ud ?_) _;clear J I u E F;go_wp2_with fail
   go_roundw
   case rel=>exact⟨i+1,_,_,_,by go_num,HR.out⟩
   case measure=>simp[intOf];try omega
  ·have mp:¬ (i:Int)<(n:Int):=by omega
   have P:i=n:=by have:=hL.le;omega
   obtain⟨c0,c1⟩:=zB7 hL.box;obtain⟨e0,e1⟩:=zB7 hL.res;have z0:=Bz hL.res 0;have z1:=Bz hL.res 1;have HL:=xI hL;generalize a:l.length=la at c0;have f:=xI a;clear hL a;go_wp2;refine nW fun V hV=>?_;have M:V.heap[w.heap.size]?=some (oE A la c 0):=by
    rw[hV];simpa using Bm _ w.heap.size 1 _ _ (vI i6 0) (Bm wr w.heap.size 0 _ _ (vS A la c) HL.out.res)
   have z:∀ b,b≠w.heap.size->V.heap[b]?=wr.heap[b]?:=fun b hb=>by rw[hV,Bq _ _ _ _ hb,Bq _ _ _ _ hb]
   have q:Below w.heap.size wr V:=by rw[hV];exact ((Bw w.heap.size wr).setCell (p:=(aH w 0)) lR _).setCell (p:=(aH w 1)) lR _
   have Q:V.heap.size=wr.heap.size:=by rw[hV];simp
   clear hV c0 c1 e0 e1 z0 z1;obtain⟨c0,c1⟩:=zB7 M;refine Cw (v:=.agg #[vS A la c,vI i6 0]) (by simp[results,Tryz.results44,go_sem,c0,c1]) rfl ?_;have hL:=HL.out;have a:=f.out;subst a;refine⟨⟨l,_,rfl,by rw[hL.len,P],hL.gen,_,rfl,by show i64B 0;decide,?_⟩,hL.src.below3 q B,hL.eff.grow q B⟩;exact OwnE.rowB (hL.own.kept (by omega) fun b h1 _=>z b (by omega)) (by decide) (by have:=hL.len;unfold maxLen;omega) (by omega)
theorem zDx {α:Type}{l:List α}{p:α->Bool}{k:Nat}{x:α}(h:l[k]?=some x):(l.take (k+1)).any p=((l.take k).any p||p x):=by
 rw[Cr,h,List.any_append];simp
theorem zP4 (ns:List Tn) (root:Int) (A:Option Addr) (c:Nat) (hw:Wf ns) (k:Nat) (K lo hi:Int) (tn:List UInt8) (ks:List Int) (fds:List Fd) (r0 r1:Int) (hx:ns[k]?=some ⟨K,lo,hi,tn,ks,fds,r0,r1⟩) (hK:K=16)
  (q:Nat) (kd it:Int) (tx:List UInt8) (kids:List Vl) (keys:List (Int×List UInt8)) (ents:List En) (labs:List (List UInt8)) (Av Ay Ae Ab:Option Addr) (cv cy ce cb:Nat) (w:World) (hT:TyAt w ns root A c) (hv:VS (q+1) w w.heap.size (.mk kd it tx kids keys ents labs) [vI i6 kd,vI i6 it,vT ⟨tx.toArray⟩,vS Av kids.length cv,vS Ay keys.length cy,vS Ae ents.length ce,vS Ab labs.length cb]) (hok:okV (.mk kd it tx kids keys ents labs)=true) (hI:Hid (∀ v' k',k'<ns.length->fu ns v' k'<fu ns (.mk kd it tx kids keys ents labs) k->MemC ns root A c v' k')) :
  Calls tP 83 #[.agg #[vI i6 kd,vI i6 it,vT ⟨tx.toArray⟩,vS Av kids.length cv,vS Ay keys.length cy,vS Ae ents.length ce,vS Ab labs.length cb],.agg #[vS A ns.length c,vI i6 root],vI i6 k] w fun e w'=>e=.returned (.bool (memB ns (.mk kd it tx kids keys ents labs) k))/\bW w w':=by
 have r:=(Bx.1 hx).1;have g:RowP w w.heap.size 8 (vS A ns.length c) ns.length (tnR w (fun b=>b<w.heap.size) ns):=by
  obtain⟨u,hu,_,h⟩:=hT;injection hu with hu _;rw[hu];exact h
 obtain⟨bn,on,P,Ak,ck,Af,cf,hu,O,B,j,D,d0,d1,d2,d3,d4,d5,d6,d7⟩:=TyB.at8 g hx;injection hu with hA hmm hcc;clear hmm;subst hA hcc;have I:=xI (aN B (aN j D));clear g B j D;have HM:=xI (zBn hw hx (.mk kd it tx kids keys ents labs));have f:=xI (aN hw hx);generalize memB ns (.mk kd it tx kids keys ents labs) k=res at *;obtain⟨W,hW⟩:∃ W,W=(((w.alloc (oV kd it ⟨tx.toArray⟩ Av kids.length cv Ay keys.length cy Ae ents.length ce Ab labs.length cb)).alloc (oE (some (aD bn on)) ns.length c root)).alloc (oX K lo hi ⟨tn.toArray⟩ Ak ks.length ck Af fds.length cf r0 r1)):=⟨_,rfl⟩;have m:bW w W:=by rw[hW];exact ((yR.alloc lR _).alloc (by simp) _).alloc (by simp;omega) _
 have t:bW w ((w.alloc (oV kd it ⟨tx.toArray⟩ Av kids.length cv Ay keys.length cy Ae ents.length ce Ab labs.length cb)).alloc (oE (some (aD bn on)) ns.length c root)):=(yR.alloc lR _).alloc (by simp) _;have kv:W.heap[w.heap.size]?=some (oV kd it ⟨tx.toArray⟩ Av kids.length cv Ay keys.length cy Ae ents.length ce Ab labs.length cb):=by rw[hW,Bp _ _ _ (by simp;omega),Bp _ _ _ (by simp)];exact Bl w _
 have kt:W.heap[w.heap.size+1]?=some (oE (some (aD bn on)) ns.length c root):=by rw[hW,Bp _ _ _ (by simp)];exact zAg _ (by simp)
 have kn:W.heap[w.heap.size+1+1]?=some (oX K lo hi ⟨tn.toArray⟩ Ak ks.length ck Af fds.length cf r0 r1):=by rw[hW];exact zAg _ (by simp)
 have M:W.heap.size=w.heap.size+3:=by rw[hW];simp
 have HT:Hid (∀ wq,bW W wq->TyAt wq ns root (some (aD bn on)) c/\bW w wq/\(jV wq w.heap.size kd it ⟨tx.toArray⟩ Av kids.length cv Ay keys.length cy Ae ents.length ce Ab labs.length cb)/\(jT wq (w.heap.size+1) (some (aD bn on)) ns.length c root)/\(jN wq (w.heap.size+1+1) K lo hi ⟨tn.toArray⟩ Ak ks.length ck Af fds.length cf r0 r1)):=xI fun U hU=>by
  have hb:=m.trans (hU.mono (by omega));exact⟨hT.on hb,hb,zAc ((hU.block _ (by omega)).trans kv),zAf ((hU.block _ (by omega)).trans kt),zAe ((hU.block _ (by omega)).trans kn)⟩
 have K8:=kC8 t O d0 d1 d2 d3 d4 d5 d6 d7;clear d0 d1 d2 d3 d4 d5 d6 d7;obtain⟨d0,d1,d2,d3,d4,d5,d6,d7⟩:=K8;have hE:=(HT.out W yR).2.2;have u1:(0:Int)<=(k:Int):=by omega
 have u2:(k:Int)<(ns.length:Int):=by omega
 have HV:=xI hv;clear t m kv kt kn M hx hw r hT hv;rw[hW]at hE;obtain⟨⟨v0,v1,v2,v3,v4,v5,v6⟩,⟨t0,t1⟩,⟨n0,n1,n2,n3,n4,n5,n6,n7⟩⟩:=hE;have l:=f.out.1.edg _ (Bh f.out.2);have N:=f.out.1.node _ (Bh f.out.2);have a:zAj labs=true/\kindB kd it tx kids keys ents=true/\okVs kids=true/\okEs ents=true:=by
  have h:=hok;unfold okV at h;simp only[Cy]at h;exact⟨h.1.1.1.1,h.1.1.2,h.1.2,h.2⟩
 have m:=(HT.out W yR).2.1;have G:=HV.out.later m;have R:Hid (∀ y∈ks,fu ns (.mk kd it tx kids keys ents labs) y.toNat<fu ns (.mk kd it tx kids keys ents labs) k):=xI fun y hy=>by
  have:=zIl (i:=y) f.out.1.ctr f.out.2 (by simp[conn,hK]) hy;unfold fu;omega
 have L:Hid (∀ y∈ks,0<=y/\y<ns.length):=xI fun y hy=>l y (zB1 hy);have H:=xI (aN G hok);subst hK;have C:Hid (memS (memB ns) ⟨16,lo,hi,tn,ks,fds,r0,r1⟩ (.mk kd it tx kids keys ents labs)=ks.any (fun y=>memB ns (.mk kd it tx kids keys ents labs) y.toNat)):=xI rfl;rw[C.out]at HM;have r:ks.length<=maxLen:=by obtain⟨_,_,_,h,_⟩:=I.out.2.1;exact h.1
 have Q:=xI r;clear r l N a hok C m G;go_enter Tryz.func83,Tryz.ntmps83;go_wp2_with fail;rw[<-hW];clear hW v0 v1 v2 v3 v4 v5 v6 t0 t1 n0 n1 n2 n3 n4 n5 n6 n7 d0 d1 d2 d3 d4 d5 d6 d7
 go_loopw [8] (fun iv wr=>∃ i:Nat,iv=vI i6 i/\i<=ks.length/\(ks.take i).any (fun y=>memB ns (.mk kd it tx kids keys ents labs) y.toNat)=false/\bW W wr) (fun i _=>((ks.length:Int)-intOf i).toNat)
 case atStart=>exact⟨0,rfl,by omega,by simp,Bw _ _⟩
 case round=>
  obtain⟨i,rfl,T,n,E⟩:=hrel;have o:=xI n;have z:=xI E;clear n E;have g4:=(HT.out wr z.out).2.2.2.2.2.2.2.2.1;by_cases him:i<ks.length
  ·have mp:(i:Int)<(ks.length:Int):=by omega
   have m0:(0:Int)<=(i:Int):=by omega
   have S:IntKind.i64.wrap ((i:Int)+1)=(i:Int)+1:=Br _ (by have:=Q.out;unfold maxLen at this;omega);have s:=By him;have d:=Cx him;generalize ks[i]=kj at s d;obtain⟨bk,ok,rfl,F,f0,_⟩:=zDa I.out.2.1 s;obtain⟨kn,rfl⟩:∃ kn:Nat,kj=(kn:Int):=⟨kj.toNat,by have:=(L.out kj d).1;omega⟩;have hd:bW W wr.drew:=z.out.drew;have HQ:Hid (∀ wq,bW W wq->((jV wq w.heap.size kd it ⟨tx.toArray⟩ Av kids.length cv Ay keys.length cy Ae ents.length ce Ab labs.length cb)/\(jT wq (w.heap.size+1) (some (aD bn on)) ns.length c root)/\wq.cell? (aF w 4)=some (vS (some (aD bk ok)) ks.length ck)/\wq.cell? (aD bk (ok+i))=some (vI i6 kn))):=xI fun wq h=>by
    obtain⟨_,hb,q0,q1,q2⟩:=HT.out wq h;exact⟨q0,q1,q2.2.2.2.2.1,(hb.cell (p:=(aD bk _)) F).trans f0⟩
   have hc:Calls tP 83 #[.agg #[vI i6 kd,vI i6 it,vT ⟨tx.toArray⟩,vS Av kids.length cv,vS Ay keys.length cy,vS Ae ents.length ce,vS Ab labs.length cb],.agg #[vS (some (aD bn on)) ns.length c,vI i6 root],vI i6 (kn:Int)] wr.drew fun e w'=>e=.returned (.bool (memB ns (.mk kd it tx kids keys ents labs) kn))/\Below wr.drew.heap.size wr.drew w':=by
    have h:=hI.out (.mk kd it tx kids keys ents labs) (kn:Int).toNat (by have:=L.out _ d;omega) (R.out (kn:Int) d) (q+1) _ wr.drew (H.out.1.later hd) H.out.2 (HT.out _ hd).1;rw[Cb]at h;exact h
   have J:=xI (aN s d);clear s d f0 F;go_wp2_with fail;refine wR HQ (by kernel_rfl) (HQ.out _ hd) (fun _=>?_);refine oT 0 (HQ.out _ hd) ?_
   (iterate 6 refine oY (HQ.out _ hd) ?_)
   refine oO 7 fun K hK=>?_;go_simp;refine (hc).mono ?_;rintro e w2 ⟨rfl,t⟩;have v:=hd.trans (t.mono hd.size);clear hc;refine hK _ _ (HQ.out _ v) (oP ?_);clear hK K;refine wD ?_;cases hmx:memB ns (.mk kd it tx kids keys ents labs) kn with
   | true=>
    have x:=xI hmx;clear hmx;go_wp2;go_ret;refine⟨?_,(HT.out _ v).2.1⟩;rw[HM.out,(List.any_eq_true.2 ⟨_,J.out.2,by simpa using x.out⟩:ks.any (fun y=>memB ns (.mk kd it tx kids keys ents labs) y.toNat)=true)]
    first|rfl|simp
   | false=>
    have x:=xI hmx;clear hmx;go_wp2_with fail
    go_roundw
    case rel=>exact⟨i+1,by go_num,by omega,by rw[zDx J.out.1,o.out];simp[x.out],v⟩
    case measure=>simp[intOf];try omega
  ·have mp:¬ (i:Int)<(ks.length:Int):=by omega
   go_wp2;go_ret;refine⟨?_,(HT.out _ z.out).2.1⟩;have h:=o.out;rw[B8 (by omega)]at h;rw[HM.out,h]
   first|rfl|simp
end Go.Proofs.YteedihhdcbepmaaGreat
