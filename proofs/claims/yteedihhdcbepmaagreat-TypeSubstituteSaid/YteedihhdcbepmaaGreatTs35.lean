/- What the source makes near a node: leaves. -/
import Derived.Test.YteedihhdcbepmaaGreatTsZ
import Derived.Test.YteedihhdcbepmaaGreatTs30
set_option maxRecDepth 100000
set_option maxHeartbeats 12800000
set_option linter.all false
open Go.Value renaming slice→vS,int→vI,string→vT
open Go.IntKind renaming i64→i6
open Go.Proofs.Tryz
open Go.Proofs.Tryz renaming prog→tP
namespace Go.Proofs.YteedihhdcbepmaaGreat
open Go Go.RowKit
theorem zPp (h p q i:Nat) (ns:List Tn) (A:Option Addr) (c:Nat) (w:World) (hS:SrcOk h p w) (hR:zAl ns p A c w) (hG:GenT ns) (hq:1<=q) (hq4:q<=4) (lo hi:Int) (tx:List UInt8) (ks:List Int) (fds:List Fd) (r0 r1:Int) (hx:ns[i]?=some ⟨4,lo,hi,tx,ks,fds,r0,r1⟩) :
  Calls tP 88 #[.pointer (some (aD p 0)),.agg #[vS A ns.length c,vI i6 0],vI i6 i,vI i6 q] w (NearR (2) q h p w):=by
 have j:=hS.lt;have d:=hG.2 _ _ hx;have u:=(Bx.1 hx).1;have t:=hG.1;obtain⟨b,f,cap,Ak,ck,Af,cf,hu,v,g,a,k,d0,d1,d2,d3,d4,d5,d6,d7⟩:=TyB.at8 hR hx;injection hu with hA _ hc;subst hA hc;obtain⟨hF,m⟩:=NF.start (oE (some (aD b f)) ns.length c 0) (oX 4 lo hi ⟨tx.toArray⟩ Ak ks.length ck Af fds.length cf r0 r1) hS;have l:bW w ((w.alloc (oE (some (aD b f)) ns.length c 0)).alloc zV):=(yR.alloc lR _).alloc (by simp) _;have o:b<w.heap.size:=by omega
 have K8:=kC8 l o d0 d1 d2 d3 d4 d5 d6 d7;clear d0 d1 d2 d3 d4 d5 d6 d7;obtain⟨d0,d1,d2,d3,d4,d5,d6,d7⟩:=K8;have u0:¬ (q:Int)<=0:=by omega
 have u1:(0:Int)<=(i:Int):=by omega
 have u2:(i:Int)<(ns.length:Int):=by omega
 have HR:=xI hR;have HG:=xI hG;have HX:=xI (aN hx (aN d g));have HK:=xI (aN a k);have HF:=xI hF;have n:=xI m;clear hR hG hx d g a k hF m l hS;obtain⟨W,hW⟩:∃ W,W=((((w.alloc (oE (some (aD b f)) ns.length c 0)).alloc zV).alloc (oX 4 lo hi ⟨tx.toArray⟩ Ak ks.length ck Af fds.length cf r0 r1)).alloc zV):=⟨_,rfl⟩;rw[<-hW]at HF n;go_enter func88,ntmps88;go_wp2_with fail;have hc:=zCw tx W;rw[<-hW];clear hW;refine hc.mono ?_;rintro e w9 ⟨rfl,hb9⟩;have hF:=HF.out.next (Eff.of_below hb9 (by have:=HF.out.siz;omega)) j
 have s:=n.out.below hb9;clear hc hb9;obtain⟨e0,e1,e2,e3,e4,e5,e6⟩:=zAc hF.r;obtain⟨z0,z1,z2,z3,z4,z5,z6⟩:=zAd hF.r;have HF:=xI hF;clear hF;go_wp2;exact ret7 HF.out.r rfl rfl rfl fun V x1 x2 x3=>zAw j HF.out s (lfVB (by decide) (by decide) (by have:=HX.out.2.2;exact this.2.2.2.1) q _ _) (by show 0<=_;omega) x1 x2 x3
theorem zP0 (h p q i:Nat) (ns:List Tn) (A:Option Addr) (c:Nat) (w:World) (hS:SrcOk h p w) (hR:zAl ns p A c w) (hG:GenT ns) (hq:1<=q) (hq4:q<=4) (lo hi:Int) (tx:List UInt8) (ks:List Int) (fds:List Fd) (r0 r1:Int) (hx:ns[i]?=some ⟨6,lo,hi,tx,ks,fds,r0,r1⟩) :
  Calls tP 88 #[.pointer (some (aD p 0)),.agg #[vS A ns.length c,vI i6 0],vI i6 i,vI i6 q] w (NearR (2) q h p w):=by
 have j:=hS.lt;have d:=hG.2 _ _ hx;have u:=(Bx.1 hx).1;have t:=hG.1;obtain⟨b,f,cap,Ak,ck,Af,cf,hu,v,g,a,k,d0,d1,d2,d3,d4,d5,d6,d7⟩:=TyB.at8 hR hx;injection hu with hA _ hc;subst hA hc;obtain⟨hF,m⟩:=NF.start (oE (some (aD b f)) ns.length c 0) (oX 6 lo hi ⟨tx.toArray⟩ Ak ks.length ck Af fds.length cf r0 r1) hS;have l:bW w ((w.alloc (oE (some (aD b f)) ns.length c 0)).alloc zV):=(yR.alloc lR _).alloc (by simp) _;have o:b<w.heap.size:=by omega
 have K8:=kC8 l o d0 d1 d2 d3 d4 d5 d6 d7;clear d0 d1 d2 d3 d4 d5 d6 d7;obtain⟨d0,d1,d2,d3,d4,d5,d6,d7⟩:=K8;have u0:¬ (q:Int)<=0:=by omega
 have u1:(0:Int)<=(i:Int):=by omega
 have u2:(i:Int)<(ns.length:Int):=by omega
 have HR:=xI hR;have HG:=xI hG;have HX:=xI (aN hx (aN d g));have HK:=xI (aN a k);have HF:=xI hF;have n:=xI m;clear hR hG hx d g a k hF m l hS;obtain⟨W,hW⟩:∃ W,W=((((w.alloc (oE (some (aD b f)) ns.length c 0)).alloc zV).alloc (oX 6 lo hi ⟨tx.toArray⟩ Ak ks.length ck Af fds.length cf r0 r1)).alloc zV):=⟨_,rfl⟩;rw[<-hW]at HF n;go_enter func88,ntmps88;go_wp2_with fail;have hc:=zD3 tx W;rw[<-hW];clear hW;refine hc.mono ?_;rintro e w9 ⟨rfl,hb9⟩;have hF:=HF.out.next (Eff.of_below hb9 (by have:=HF.out.siz;omega)) j
 have s:=n.out.below hb9;clear hc hb9;obtain⟨e0,e1,e2,e3,e4,e5,e6⟩:=zAc hF.r;obtain⟨z0,z1,z2,z3,z4,z5,z6⟩:=zAd hF.r;have HF:=xI hF;clear hF;go_wp2;exact ret7 HF.out.r rfl rfl rfl fun V x1 x2 x3=>zAw j HF.out s (lfVB (by decide) (by decide) (by have:=HX.out.2.2;exact this.2.2.2.1) q _ _) (by show 0<=_;omega) x1 x2 x3
theorem zPt (h p q i:Nat) (ns:List Tn) (A:Option Addr) (c:Nat) (w:World) (hS:SrcOk h p w) (hR:zAl ns p A c w) (hG:GenT ns) (hq:1<=q) (hq4:q<=4) (lo hi:Int) (tx:List UInt8) (ks:List Int) (fds:List Fd) (r0 r1:Int) (hx:ns[i]?=some ⟨9,lo,hi,tx,ks,fds,r0,r1⟩) :
  Calls tP 88 #[.pointer (some (aD p 0)),.agg #[vS A ns.length c,vI i6 0],vI i6 i,vI i6 q] w (NearR (2) q h p w):=by
 have j:=hS.lt;have d:=hG.2 _ _ hx;have u:=(Bx.1 hx).1;have t:=hG.1;obtain⟨b,f,cap,Ak,ck,Af,cf,hu,v,g,a,k,d0,d1,d2,d3,d4,d5,d6,d7⟩:=TyB.at8 hR hx;injection hu with hA _ hc;subst hA hc;obtain⟨hF,m⟩:=NF.start (oE (some (aD b f)) ns.length c 0) (oX 9 lo hi ⟨tx.toArray⟩ Ak ks.length ck Af fds.length cf r0 r1) hS;have l:bW w ((w.alloc (oE (some (aD b f)) ns.length c 0)).alloc zV):=(yR.alloc lR _).alloc (by simp) _;have o:b<w.heap.size:=by omega
 have K8:=kC8 l o d0 d1 d2 d3 d4 d5 d6 d7;clear d0 d1 d2 d3 d4 d5 d6 d7;obtain⟨d0,d1,d2,d3,d4,d5,d6,d7⟩:=K8;have u0:¬ (q:Int)<=0:=by omega
 have u1:(0:Int)<=(i:Int):=by omega
 have u2:(i:Int)<(ns.length:Int):=by omega
 have HR:=xI hR;have HG:=xI hG;have HX:=xI (aN hx (aN d g));have HK:=xI (aN a k);have HF:=xI hF;have n:=xI m;clear hR hG hx d g a k hF m l hS;obtain⟨W,hW⟩:∃ W,W=((((w.alloc (oE (some (aD b f)) ns.length c 0)).alloc zV).alloc (oX 9 lo hi ⟨tx.toArray⟩ Ak ks.length ck Af fds.length cf r0 r1)).alloc zV):=⟨_,rfl⟩;rw[<-hW]at HF n;go_enter func88,ntmps88;go_wp2_with fail;have hc:=zBj W;rw[<-hW];clear hW;refine hc.mono ?_;rintro e w9 ⟨rfl,hb9⟩;have hF:=HF.out.next (Eff.of_below hb9 (by have:=HF.out.siz;omega)) j
 have s:=n.out.below hb9;clear hc hb9;obtain⟨e0,e1,e2,e3,e4,e5,e6⟩:=zAc hF.r;obtain⟨z0,z1,z2,z3,z4,z5,z6⟩:=zAd hF.r;have HF:=xI hF;clear hF;go_wp2;exact ret7 HF.out.r rfl rfl rfl fun V x1 x2 x3=>zAw j HF.out s (lfVB (by decide) (by decide) (by simp) q _ _) (by show 0<=_;omega) x1 x2 x3
theorem zPk (h p q i:Nat) (ns:List Tn) (A:Option Addr) (c:Nat) (w:World) (hS:SrcOk h p w) (hR:zAl ns p A c w) (hG:GenT ns) (hq:1<=q) (hq4:q<=4) (lo hi:Int) (tx:List UInt8) (ks:List Int) (fds:List Fd) (r0 r1:Int) (hx:ns[i]?=some ⟨5,lo,hi,tx,ks,fds,r0,r1⟩) :
  Calls tP 88 #[.pointer (some (aD p 0)),.agg #[vS A ns.length c,vI i6 0],vI i6 i,vI i6 q] w (NearR (2) q h p w):=by
 have g:=hS.lt;have d:=hG.2 _ _ hx;have z:=(Bx.1 hx).1;have y:=hG.1;obtain⟨b,f,cap,Ak,ck,Af,cf,hu,B,k,a,l,d0,d1,d2,d3,d4,d5,d6,d7⟩:=TyB.at8 hR hx;injection hu with hA _ hc;subst hA hc;obtain⟨hF,n⟩:=NF.start (oE (some (aD b f)) ns.length c 0) (oX 5 lo hi ⟨tx.toArray⟩ Ak ks.length ck Af fds.length cf r0 r1) hS;have m:bW w ((w.alloc (oE (some (aD b f)) ns.length c 0)).alloc zV):=(yR.alloc lR _).alloc (by simp) _;have u:b<w.heap.size:=by omega
 have K8:=kC8 m u d0 d1 d2 d3 d4 d5 d6 d7;clear d0 d1 d2 d3 d4 d5 d6 d7;obtain⟨d0,d1,d2,d3,d4,d5,d6,d7⟩:=K8;have u0:¬ (q:Int)<=0:=by omega
 have u1:(0:Int)<=(i:Int):=by omega
 have u2:(i:Int)<(ns.length:Int):=by omega
 have HR:=xI hR;have HG:=xI hG;have HX:=xI (aN hx (aN d k));have HK:=xI (aN a l);have HF:=xI hF;have o:=xI n;clear hR hG hx d k a l hF n m hS;obtain⟨W,hW⟩:∃ W,W=((((w.alloc (oE (some (aD b f)) ns.length c 0)).alloc zV).alloc (oX 5 lo hi ⟨tx.toArray⟩ Ak ks.length ck Af fds.length cf r0 r1)).alloc zV):=⟨_,rfl⟩;rw[<-hW]at HF o;go_enter func88,ntmps88;go_wp2_with fail;have hc:=zFa h p W o.out;rw[<-hW];clear hW;refine hc.mono ?_;rintro e w5 ⟨⟨s,rfl,hs⟩,hS5,hE5⟩;clear hc;have j:=HF.out.next hE5 g
 have x:=j.siz;have t:=xI (aN j hS5);clear j hS5 hE5;have hc:=zCw s w5;go_wp2_with fail;refine hc.mono ?_;rintro e w9 ⟨rfl,hb9⟩;have hF:=t.out.1.next (Eff.of_below hb9 (by omega)) g
 have v:=t.out.2.below hb9;clear hc hb9;obtain⟨e0,e1,e2,e3,e4,e5,e6⟩:=zAc hF.r;obtain⟨z0,z1,z2,z3,z4,z5,z6⟩:=zAd hF.r;have HF:=xI hF;clear hF;go_wp2;exact ret7 HF.out.r rfl rfl rfl fun V x1 x2 x3=>zAw g HF.out v (lfVB (by decide) (by decide) (by have:=hs.len64;unfold maxLen;omega) q _ _) (by show 0<=_;omega) x1 x2 x3
theorem zPu (h p q i:Nat) (ns:List Tn) (A:Option Addr) (c:Nat) (w:World) (hS:SrcOk h p w) (hR:zAl ns p A c w) (hG:GenT ns) (hq:1<=q) (hq4:q<=4) (lo hi:Int) (tx:List UInt8) (ks:List Int) (fds:List Fd) (r0 r1:Int) (hx:ns[i]?=some ⟨7,lo,hi,tx,ks,fds,r0,r1⟩) :
  Calls tP 88 #[.pointer (some (aD p 0)),.agg #[vS A ns.length c,vI i6 0],vI i6 i,vI i6 q] w (NearR (2) q h p w):=by
 have g:=hS.lt;have d:=hG.2 _ _ hx;have z:=(Bx.1 hx).1;have y:=hG.1;obtain⟨b,f,cap,Ak,ck,Af,cf,hu,B,k,a,l,d0,d1,d2,d3,d4,d5,d6,d7⟩:=TyB.at8 hR hx;injection hu with hA _ hc;subst hA hc;obtain⟨hF,n⟩:=NF.start (oE (some (aD b f)) ns.length c 0) (oX 7 lo hi ⟨tx.toArray⟩ Ak ks.length ck Af fds.length cf r0 r1) hS;have m:bW w ((w.alloc (oE (some (aD b f)) ns.length c 0)).alloc zV):=(yR.alloc lR _).alloc (by simp) _;have u:b<w.heap.size:=by omega
 have K8:=kC8 m u d0 d1 d2 d3 d4 d5 d6 d7;clear d0 d1 d2 d3 d4 d5 d6 d7;obtain⟨d0,d1,d2,d3,d4,d5,d6,d7⟩:=K8;have u0:¬ (q:Int)<=0:=by omega
 have u1:(0:Int)<=(i:Int):=by omega
 have u2:(i:Int)<(ns.length:Int):=by omega
 have HR:=xI hR;have HG:=xI hG;have HX:=xI (aN hx (aN d k));have HK:=xI (aN a l);have HF:=xI hF;have o:=xI n;clear hR hG hx d k a l hF n m hS;obtain⟨W,hW⟩:∃ W,W=((((w.alloc (oE (some (aD b f)) ns.length c 0)).alloc zV).alloc (oX 7 lo hi ⟨tx.toArray⟩ Ak ks.length ck Af fds.length cf r0 r1)).alloc zV):=⟨_,rfl⟩;rw[<-hW]at HF o;go_enter func88,ntmps88;go_wp2_with fail;have hc:=zCm h p W o.out;rw[<-hW];clear hW;refine hc.mono ?_;rintro e w5 ⟨⟨s,rfl,hs⟩,hS5,hE5⟩;clear hc;have j:=HF.out.next hE5 g
 have x:=j.siz;have t:=xI (aN j hS5);clear j hS5 hE5;have hc:=zD3 s w5;go_wp2_with fail;refine hc.mono ?_;rintro e w9 ⟨rfl,hb9⟩;have hF:=t.out.1.next (Eff.of_below hb9 (by omega)) g
 have v:=t.out.2.below hb9;clear hc hb9;obtain⟨e0,e1,e2,e3,e4,e5,e6⟩:=zAc hF.r;obtain⟨z0,z1,z2,z3,z4,z5,z6⟩:=zAd hF.r;have HF:=xI hF;clear hF;go_wp2;exact ret7 HF.out.r rfl rfl rfl fun V x1 x2 x3=>zAw g HF.out v (lfVB (by decide) (by decide) (by have:=hs.len;unfold maxLen;omega) q _ _) (by show 0<=_;omega) x1 x2 x3
theorem zPq (h p q i:Nat) (ns:List Tn) (A:Option Addr) (c:Nat) (w:World) (hS:SrcOk h p w) (hR:zAl ns p A c w) (hG:GenT ns) (hq:1<=q) (hq4:q<=4) (lo hi:Int) (tx:List UInt8) (ks:List Int) (fds:List Fd) (r0 r1:Int) (hx:ns[i]?=some ⟨8,lo,hi,tx,ks,fds,r0,r1⟩) :
  Calls tP 88 #[.pointer (some (aD p 0)),.agg #[vS A ns.length c,vI i6 0],vI i6 i,vI i6 q] w (NearR (2) q h p w):=by
 have g:=hS.lt;have d:=hG.2 _ _ hx;have z:=(Bx.1 hx).1;have y:=hG.1;obtain⟨b,f,cap,Ak,ck,Af,cf,hu,B,l,a,m,d0,d1,d2,d3,d4,d5,d6,d7⟩:=TyB.at8 hR hx;injection hu with hA _ hc;subst hA hc;obtain⟨hF,o⟩:=NF.start (oE (some (aD b f)) ns.length c 0) (oX 8 lo hi ⟨tx.toArray⟩ Ak ks.length ck Af fds.length cf r0 r1) hS;have n:bW w ((w.alloc (oE (some (aD b f)) ns.length c 0)).alloc zV):=(yR.alloc lR _).alloc (by simp) _;have u:b<w.heap.size:=by omega
 have K8:=kC8 n u d0 d1 d2 d3 d4 d5 d6 d7;clear d0 d1 d2 d3 d4 d5 d6 d7;obtain⟨d0,d1,d2,d3,d4,d5,d6,d7⟩:=K8;have u0:¬ (q:Int)<=0:=by omega
 have u1:(0:Int)<=(i:Int):=by omega
 have u2:(i:Int)<(ns.length:Int):=by omega
 have HR:=xI hR;have HG:=xI hG;have HX:=xI (aN hx (aN d l));have HK:=xI (aN a m);have HF:=xI hF;have s:=xI o;clear hR hG hx d l a m hF o n hS;obtain⟨W,hW⟩:∃ W,W=((((w.alloc (oE (some (aD b f)) ns.length c 0)).alloc zV).alloc (oX 8 lo hi ⟨tx.toArray⟩ Ak ks.length ck Af fds.length cf r0 r1)).alloc zV):=⟨_,rfl⟩;rw[<-hW]at HF s;go_enter func88,ntmps88;go_wp2_with fail;have hc:=zAh h p 2 W s.out (by decide) (by decide);rw[<-hW];clear hW;refine hc.mono ?_;rintro e w5 ⟨j,rfl,j0,j1,hS5,hE5⟩;clear hc;have k:=HF.out.next hE5 g
 have x:=k.siz;have t:=xI (aN k hS5);clear k hS5 hE5;have hc:=zGu j w5;go_wp2_with fail;refine hc.mono ?_;rintro e w9 ⟨rfl,hb9⟩;have hF:=t.out.1.next (Eff.of_below hb9 (by omega)) g
 have v:=t.out.2.below hb9;clear hc hb9;obtain⟨e0,e1,e2,e3,e4,e5,e6⟩:=zAc hF.r;obtain⟨z0,z1,z2,z3,z4,z5,z6⟩:=zAd hF.r;have HF:=xI hF;clear hF;go_wp2;exact ret7 HF.out.r rfl rfl rfl fun V x1 x2 x3=>zAw g HF.out v (lfVB (by decide) (zB3 (by omega) (by omega)) (by simp) q _ _) (by show 0<=_;omega) x1 x2 x3
theorem zPs (h p q i:Nat) (ns:List Tn) (A:Option Addr) (c:Nat) (w:World) (hS:SrcOk h p w) (hR:zAl ns p A c w) (hG:GenT ns) (hq:1<=q) (hq4:q<=4) (lo hi:Int) (tx:List UInt8) (ks:List Int) (fds:List Fd) (r0 r1:Int) (hx:ns[i]?=some ⟨1,lo,hi,tx,ks,fds,r0,r1⟩) :
  Calls tP 88 #[.pointer (some (aD p 0)),.agg #[vS A ns.length c,vI i6 0],vI i6 i,vI i6 q] w (NearR (2) q h p w):=by
 have j:=hS.lt;have d:=hG.2 _ _ hx;have t:=(Bx.1 hx).1;have s:=hG.1;obtain⟨b,f,cap,Ak,ck,Af,cf,hu,u,g,a,k,d0,d1,d2,d3,d4,d5,d6,d7⟩:=TyB.at8 hR hx;injection hu with hA _ hc;subst hA hc;obtain⟨hF,m⟩:=NF.start (oE (some (aD b f)) ns.length c 0) (oX 1 lo hi ⟨tx.toArray⟩ Ak ks.length ck Af fds.length cf r0 r1) hS;have l:bW w ((w.alloc (oE (some (aD b f)) ns.length c 0)).alloc zV):=(yR.alloc lR _).alloc (by simp) _;have o:b<w.heap.size:=by omega
 have K8:=kC8 l o d0 d1 d2 d3 d4 d5 d6 d7;clear d0 d1 d2 d3 d4 d5 d6 d7;obtain⟨d0,d1,d2,d3,d4,d5,d6,d7⟩:=K8;have u0:¬ (q:Int)<=0:=by omega
 have u1:(0:Int)<=(i:Int):=by omega
 have u2:(i:Int)<(ns.length:Int):=by omega
 have HR:=xI hR;have HG:=xI hG;have HX:=xI (aN hx (aN d g));have HK:=xI (aN a k);have HF:=xI hF;have n:=xI m;clear hR hG hx d g a k hF m l hS;obtain⟨W,hW⟩:∃ W,W=((((w.alloc (oE (some (aD b f)) ns.length c 0)).alloc zV).alloc (oX 1 lo hi ⟨tx.toArray⟩ Ak ks.length ck Af fds.length cf r0 r1)).alloc zV):=⟨_,rfl⟩;rw[<-hW]at HF n;go_enter func88,ntmps88;go_wp2_with fail;have hc:=zD0 2 (by decide) (by decide) h p W n.out;rw[<-hW];clear hW;refine hc.mono ?_;rintro e w9 ⟨⟨v,cs,rfl,hv,_,hs⟩,hS9,hE9⟩;clear hc;have hF:=HF.out.next hE9 j
 have hz:=HF.out.siz;obtain⟨a1,i1,s1,A1,n1,c1,A2,n2,c2,A3,n3,c3,A4,n4,c4,rfl⟩:=hv.form7;have hl:(zB2 v).length<=2:=by
  obtain⟨_,_,_,_,_,_,_⟩:=v;exact hs.2.2.2.1
 have HV:=xI (aN hv hl);clear hv hl hE9;obtain⟨e0,e1,e2,e3,e4,e5,e6⟩:=zAc hF.r;obtain⟨z0,z1,z2,z3,z4,z5,z6⟩:=zAd hF.r;have HF:=xI hF;clear hF;go_wp2;exact ret7 HF.out.r rfl rfl rfl fun V x1 x2 x3=>zAw j HF.out hS9 (VB.sub (fun b hb=>⟨by have:=hb.1;omega,hb.2⟩) (by omega) HV.out.1) (HV.out.2) x1 x2 x3
theorem zP1 (h p q i:Nat) (ns:List Tn) (A:Option Addr) (c:Nat) (w:World) (hS:SrcOk h p w) (hR:zAl ns p A c w) (hG:GenT ns) (hq:1<=q) (hq4:q<=4) (lo hi:Int) (tx:List UInt8) (ks:List Int) (fds:List Fd) (r0 r1:Int) (hx:ns[i]?=some ⟨2,lo,hi,tx,ks,fds,r0,r1⟩) :
  Calls tP 88 #[.pointer (some (aD p 0)),.agg #[vS A ns.length c,vI i6 0],vI i6 i,vI i6 q] w (NearR (2) q h p w):=by
 have j:=hS.lt;have d:=hG.2 _ _ hx;have t:=(Bx.1 hx).1;have s:=hG.1;obtain⟨b,f,cap,Ak,ck,Af,cf,hu,u,g,a,k,d0,d1,d2,d3,d4,d5,d6,d7⟩:=TyB.at8 hR hx;injection hu with hA _ hc;subst hA hc;obtain⟨hF,m⟩:=NF.start (oE (some (aD b f)) ns.length c 0) (oX 2 lo hi ⟨tx.toArray⟩ Ak ks.length ck Af fds.length cf r0 r1) hS;have l:bW w ((w.alloc (oE (some (aD b f)) ns.length c 0)).alloc zV):=(yR.alloc lR _).alloc (by simp) _;have o:b<w.heap.size:=by omega
 have K8:=kC8 l o d0 d1 d2 d3 d4 d5 d6 d7;clear d0 d1 d2 d3 d4 d5 d6 d7;obtain⟨d0,d1,d2,d3,d4,d5,d6,d7⟩:=K8;have u0:¬ (q:Int)<=0:=by omega
 have u1:(0:Int)<=(i:Int):=by omega
 have u2:(i:Int)<(ns.length:Int):=by omega
 have HR:=xI hR;have HG:=xI hG;have HX:=xI (aN hx (aN d g));have HK:=xI (aN a k);have HF:=xI hF;have n:=xI m;clear hR hG hx d g a k hF m l hS;obtain⟨W,hW⟩:∃ W,W=((((w.alloc (oE (some (aD b f)) ns.length c 0)).alloc zV).alloc (oX 2 lo hi ⟨tx.toArray⟩ Ak ks.length ck Af fds.length cf r0 r1)).alloc zV):=⟨_,rfl⟩;rw[<-hW]at HF n;go_enter func88,ntmps88;go_wp2_with fail;have hc:=zD0 2 (by decide) (by decide) h p W n.out;rw[<-hW];clear hW;refine hc.mono ?_;rintro e w9 ⟨⟨v,cs,rfl,hv,_,hs⟩,hS9,hE9⟩;clear hc;have hF:=HF.out.next hE9 j
 have hz:=HF.out.siz;obtain⟨a1,i1,s1,A1,n1,c1,A2,n2,c2,A3,n3,c3,A4,n4,c4,rfl⟩:=hv.form7;have hl:(zB2 v).length<=2:=by
  obtain⟨_,_,_,_,_,_,_⟩:=v;exact hs.2.2.2.1
 have HV:=xI (aN hv hl);clear hv hl hE9;obtain⟨e0,e1,e2,e3,e4,e5,e6⟩:=zAc hF.r;obtain⟨z0,z1,z2,z3,z4,z5,z6⟩:=zAd hF.r;have HF:=xI hF;clear hF;go_wp2;exact ret7 HF.out.r rfl rfl rfl fun V x1 x2 x3=>zAw j HF.out hS9 (VB.sub (fun b hb=>⟨by have:=hb.1;omega,hb.2⟩) (by omega) HV.out.1) (HV.out.2) x1 x2 x3
theorem zPo (h p q i:Nat) (ns:List Tn) (A:Option Addr) (c:Nat) (w:World) (hS:SrcOk h p w) (hR:zAl ns p A c w) (hG:GenT ns) (hq:1<=q) (hq4:q<=4) (lo hi:Int) (tx:List UInt8) (ks:List Int) (fds:List Fd) (r0 r1:Int) (hx:ns[i]?=some ⟨11,lo,hi,tx,ks,fds,r0,r1⟩) :
  Calls tP 88 #[.pointer (some (aD p 0)),.agg #[vS A ns.length c,vI i6 0],vI i6 i,vI i6 q] w (NearR (2) q h p w):=by
 have j:=hS.lt;have d:=hG.2 _ _ hx;have t:=(Bx.1 hx).1;have s:=hG.1;obtain⟨b,f,cap,Ak,ck,Af,cf,hu,u,g,a,k,d0,d1,d2,d3,d4,d5,d6,d7⟩:=TyB.at8 hR hx;injection hu with hA _ hc;subst hA hc;obtain⟨hF,m⟩:=NF.start (oE (some (aD b f)) ns.length c 0) (oX 11 lo hi ⟨tx.toArray⟩ Ak ks.length ck Af fds.length cf r0 r1) hS;have l:bW w ((w.alloc (oE (some (aD b f)) ns.length c 0)).alloc zV):=(yR.alloc lR _).alloc (by simp) _;have o:b<w.heap.size:=by omega
 have K8:=kC8 l o d0 d1 d2 d3 d4 d5 d6 d7;clear d0 d1 d2 d3 d4 d5 d6 d7;obtain⟨d0,d1,d2,d3,d4,d5,d6,d7⟩:=K8;have u0:¬ (q:Int)<=0:=by omega
 have u1:(0:Int)<=(i:Int):=by omega
 have u2:(i:Int)<(ns.length:Int):=by omega
 have HR:=xI hR;have HG:=xI hG;have HX:=xI (aN hx (aN d g));have HK:=xI (aN a k);have HF:=xI hF;have n:=xI m;clear hR hG hx d g a k hF m l hS;obtain⟨W,hW⟩:∃ W,W=((((w.alloc (oE (some (aD b f)) ns.length c 0)).alloc zV).alloc (oX 11 lo hi ⟨tx.toArray⟩ Ak ks.length ck Af fds.length cf r0 r1)).alloc zV):=⟨_,rfl⟩;rw[<-hW]at HF n;go_enter func88,ntmps88;go_wp2_with fail;have hc:=zD0 2 (by decide) (by decide) h p W n.out;rw[<-hW];clear hW;refine hc.mono ?_;rintro e w9 ⟨⟨v,cs,rfl,hv,_,hs⟩,hS9,hE9⟩;clear hc;have hF:=HF.out.next hE9 j
 have hz:=HF.out.siz;obtain⟨a1,i1,s1,A1,n1,c1,A2,n2,c2,A3,n3,c3,A4,n4,c4,rfl⟩:=hv.form7;have hl:(zB2 v).length<=2:=by
  obtain⟨_,_,_,_,_,_,_⟩:=v;exact hs.2.2.2.1
 have HV:=xI (aN hv hl);clear hv hl hE9;obtain⟨e0,e1,e2,e3,e4,e5,e6⟩:=zAc hF.r;obtain⟨z0,z1,z2,z3,z4,z5,z6⟩:=zAd hF.r;have HF:=xI hF;clear hF;go_wp2;exact ret7 HF.out.r rfl rfl rfl fun V x1 x2 x3=>zAw j HF.out hS9 (VB.sub (fun b hb=>⟨by have:=hb.1;omega,hb.2⟩) (by omega) HV.out.1) (HV.out.2) x1 x2 x3
theorem zPz (h p q i:Nat) (ns:List Tn) (A:Option Addr) (c:Nat) (w:World) (hS:SrcOk h p w) (hR:zAl ns p A c w) (hG:GenT ns) (hq:1<=q) (hq4:q<=4) (lo hi:Int) (tx:List UInt8) (ks:List Int) (fds:List Fd) (r0 r1:Int) (hx:ns[i]?=some ⟨15,lo,hi,tx,ks,fds,r0,r1⟩) :
  Calls tP 88 #[.pointer (some (aD p 0)),.agg #[vS A ns.length c,vI i6 0],vI i6 i,vI i6 q] w (NearR (2) q h p w):=by
 have j:=hS.lt;have d:=hG.2 _ _ hx;have t:=(Bx.1 hx).1;have s:=hG.1;obtain⟨b,f,cap,Ak,ck,Af,cf,hu,u,g,a,k,d0,d1,d2,d3,d4,d5,d6,d7⟩:=TyB.at8 hR hx;injection hu with hA _ hc;subst hA hc;obtain⟨hF,m⟩:=NF.start (oE (some (aD b f)) ns.length c 0) (oX 15 lo hi ⟨tx.toArray⟩ Ak ks.length ck Af fds.length cf r0 r1) hS;have l:bW w ((w.alloc (oE (some (aD b f)) ns.length c 0)).alloc zV):=(yR.alloc lR _).alloc (by simp) _;have o:b<w.heap.size:=by omega
 have K8:=kC8 l o d0 d1 d2 d3 d4 d5 d6 d7;clear d0 d1 d2 d3 d4 d5 d6 d7;obtain⟨d0,d1,d2,d3,d4,d5,d6,d7⟩:=K8;have u0:¬ (q:Int)<=0:=by omega
 have u1:(0:Int)<=(i:Int):=by omega
 have u2:(i:Int)<(ns.length:Int):=by omega
 have HR:=xI hR;have HG:=xI hG;have HX:=xI (aN hx (aN d g));have HK:=xI (aN a k);have HF:=xI hF;have n:=xI m;clear hR hG hx d g a k hF m l hS;obtain⟨W,hW⟩:∃ W,W=((((w.alloc (oE (some (aD b f)) ns.length c 0)).alloc zV).alloc (oX 15 lo hi ⟨tx.toArray⟩ Ak ks.length ck Af fds.length cf r0 r1)).alloc zV):=⟨_,rfl⟩;rw[<-hW]at HF n;go_enter func88,ntmps88;go_wp2_with fail;have hc:=zD0 2 (by decide) (by decide) h p W n.out;rw[<-hW];clear hW;refine hc.mono ?_;rintro e w9 ⟨⟨v,cs,rfl,hv,_,hs⟩,hS9,hE9⟩;clear hc;have hF:=HF.out.next hE9 j
 have hz:=HF.out.siz;obtain⟨a1,i1,s1,A1,n1,c1,A2,n2,c2,A3,n3,c3,A4,n4,c4,rfl⟩:=hv.form7;have hl:(zB2 v).length<=2:=by
  obtain⟨_,_,_,_,_,_,_⟩:=v;exact hs.2.2.2.1
 have HV:=xI (aN hv hl);clear hv hl hE9;obtain⟨e0,e1,e2,e3,e4,e5,e6⟩:=zAc hF.r;obtain⟨z0,z1,z2,z3,z4,z5,z6⟩:=zAd hF.r;have HF:=xI hF;clear hF;go_wp2;exact ret7 HF.out.r rfl rfl rfl fun V x1 x2 x3=>zAw j HF.out hS9 (VB.sub (fun b hb=>⟨by have:=hb.1;omega,hb.2⟩) (by omega) HV.out.1) (HV.out.2) x1 x2 x3
theorem zPr (h p q i:Nat) (ns:List Tn) (A:Option Addr) (c:Nat) (w:World) (hS:SrcOk h p w) (hR:zAl ns p A c w) (hG:GenT ns) (hq:1<=q) (hq4:q<=4) (lo hi:Int) (tx:List UInt8) (ks:List Int) (fds:List Fd) (r0 r1:Int) (hx:ns[i]?=some ⟨18,lo,hi,tx,ks,fds,r0,r1⟩) :
  Calls tP 88 #[.pointer (some (aD p 0)),.agg #[vS A ns.length c,vI i6 0],vI i6 i,vI i6 q] w (NearR (2) q h p w):=by
 have j:=hS.lt;have d:=hG.2 _ _ hx;have t:=(Bx.1 hx).1;have s:=hG.1;obtain⟨b,f,cap,Ak,ck,Af,cf,hu,u,g,a,k,d0,d1,d2,d3,d4,d5,d6,d7⟩:=TyB.at8 hR hx;injection hu with hA _ hc;subst hA hc;obtain⟨hF,m⟩:=NF.start (oE (some (aD b f)) ns.length c 0) (oX 18 lo hi ⟨tx.toArray⟩ Ak ks.length ck Af fds.length cf r0 r1) hS;have l:bW w ((w.alloc (oE (some (aD b f)) ns.length c 0)).alloc zV):=(yR.alloc lR _).alloc (by simp) _;have o:b<w.heap.size:=by omega
 have K8:=kC8 l o d0 d1 d2 d3 d4 d5 d6 d7;clear d0 d1 d2 d3 d4 d5 d6 d7;obtain⟨d0,d1,d2,d3,d4,d5,d6,d7⟩:=K8;have u0:¬ (q:Int)<=0:=by omega
 have u1:(0:Int)<=(i:Int):=by omega
 have u2:(i:Int)<(ns.length:Int):=by omega
 have HR:=xI hR;have HG:=xI hG;have HX:=xI (aN hx (aN d g));have HK:=xI (aN a k);have HF:=xI hF;have n:=xI m;clear hR hG hx d g a k hF m l hS;obtain⟨W,hW⟩:∃ W,W=((((w.alloc (oE (some (aD b f)) ns.length c 0)).alloc zV).alloc (oX 18 lo hi ⟨tx.toArray⟩ Ak ks.length ck Af fds.length cf r0 r1)).alloc zV):=⟨_,rfl⟩;rw[<-hW]at HF n;go_enter func88,ntmps88;go_wp2_with fail;have hc:=zD0 2 (by decide) (by decide) h p W n.out;rw[<-hW];clear hW;refine hc.mono ?_;rintro e w9 ⟨⟨v,cs,rfl,hv,_,hs⟩,hS9,hE9⟩;clear hc;have hF:=HF.out.next hE9 j
 have hz:=HF.out.siz;obtain⟨a1,i1,s1,A1,n1,c1,A2,n2,c2,A3,n3,c3,A4,n4,c4,rfl⟩:=hv.form7;have hl:(zB2 v).length<=2:=by
  obtain⟨_,_,_,_,_,_,_⟩:=v;exact hs.2.2.2.1
 have HV:=xI (aN hv hl);clear hv hl hE9;obtain⟨e0,e1,e2,e3,e4,e5,e6⟩:=zAc hF.r;obtain⟨z0,z1,z2,z3,z4,z5,z6⟩:=zAd hF.r;have HF:=xI hF;clear hF;go_wp2;exact ret7 HF.out.r rfl rfl rfl fun V x1 x2 x3=>zAw j HF.out hS9 (VB.sub (fun b hb=>⟨by have:=hb.1;omega,hb.2⟩) (by omega) HV.out.1) (HV.out.2) x1 x2 x3
theorem zKn (hN0:Hid zDg) (L h p q i:Nat) (ns:List Tn) (A:Option Addr) (c:Nat) (w:World) (hS:SrcOk h p w) (hR:zAl ns p A c w)
  (hI:Hid (∀ W,SrcOk h p W->zAl ns p A c W->Calls tP 88 #[.pointer (some (aD p 0)),.agg #[vS A ns.length c,vI i6 0],vI i6 i,vI i6 q] W (NearR L q h p W))) :
  Calls tP 46 #[.pointer (some (aD p 0)),.agg #[vS A ns.length c,vI i6 0],vI i6 i,vI i6 q] w (NearV L q h p w):=by
 have b:=hS.lt;obtain⟨W,hW⟩:∃ W,W=(w.alloc (oE A ns.length c 0)).alloc zV:=⟨_,rfl⟩;have hb:bW w W:=by rw[hW];exact (yR.alloc lR _).alloc (by simp) _
 have n:W.heap.size=w.heap.size+2:=by rw[hW];simp
 have hr:W.heap[w.heap.size+1]?=some zV:=by rw[hW];exact zAg _ (by simp)
 have l:Eff p w W:=Eff.of_below hb (by omega);have hc:=hI.out W (hS.below hb) (hR.eff l);have HB:=xI (aN l (aN n hr));clear hb n hr hS hR l;go_enter func46,ntmps46;go_wp2_with fail;rw[<-hW];clear hW;refine hc.mono ?_;rintro e w5 ⟨⟨v,cs,rfl,hv,hl⟩,hS5,hE5⟩;clear hc;obtain⟨a1,i1,s1,A1,n1,c1,A2,n2,c2,A3,n3,c3,A4,n4,c4,rfl⟩:=hv.form7;have hz:=HB.out.2.1;have M:=hE5.size;have s:w5.heap[w.heap.size+1]?=some zV:=(hE5.other _ (by omega) (by omega)).trans HB.out.2.2;have HE:=xI (HB.out.1.trans hE5);have E:=xI hS5;have HV:=xI (aN hv hl);have H:=xI s;clear hv hl hS5 hE5 s;go_wp2_with fail;obtain⟨w6,o,f,k6,K⟩:=aW w5 (oV a1 i1 s1 A1 n1 c1 A2 n2 c2 A3 n3 c3 A4 n4 c4)
 rw[<-o];clear o;have r:VS (q+1) w6 w6.heap.size v _:=VB.sub (fun g hg=>by have:=hg.2;omega) lR (VB.keep (Same.of_below f (B:=Btw W.heap.size w5.heap.size) (fun _ hg=>hg.2)) HV.out.1);refine (zE3 hN0 (q+1) v _ w6 r).mono ?_;rintro e w7 ⟨rfl,hb7⟩;have a:bW w5 w7:=f.trans (hb7.mono (by omega));have J:=hb7.size;have k7:w7.heap[w5.heap.size]?=some (oV a1 i1 s1 A1 n1 c1 A2 n2 c2 A3 n3 c3 A4 n4 c4):=(hb7.block _ (by omega)).trans k6;have r7:w7.heap[w.heap.size+1]?=some zV:=(a.block _ (by omega)).trans H.out;have x:=xI (HE.out.grow (a.mono (by omega)) b);have u:=xI (E.out.below a);have C:=xI (VB.keep (Same.of_below a (B:=Btw W.heap.size w5.heap.size) (fun _ hg=>hg.2)) HV.out.1);have G:=xI r7;have z:=xI (show w5.heap.size<=w7.heap.size by omega);clear r f hb7 a k6;cases hok:okV v with
 | true=>
  obtain⟨e0,e1,e2,e3,e4,e5,e6⟩:=zAc r7;obtain⟨z0,z1,z2,z3,z4,z5,z6⟩:=zAd r7;obtain⟨d0,d1,d2,d3,d4,d5,d6⟩:=zAc k7;have N:¬ w5.heap.size=w.heap.size+1:=by omega
  have y:¬ w.heap.size+1=w5.heap.size:=by omega
  have I:=xI hok;clear hok;go_wp2;exact ret7 G.out rfl rfl rfl fun V x1 x2 x3=>⟨⟨v,_,rfl,VB.sub (fun g hg=>⟨by have:=hg.1;omega,by have:=hg.2;have:=z.out;omega⟩) lR (VB.keep (w':=V) ⟨by omega,fun g m hg _=>Bi (x2 g (by have:=hg.1;omega))⟩ C.out),I.out,HV.out.2⟩,u.out.below3 (x3 w.heap.size (Cg _)) b,x.out.grow (x3 w.heap.size (Cg _)) b⟩
 | false=>
  go_wp2_with fail;refine (zB0 h p w7 u.out).mono ?_;rintro e w9 ⟨⟨k,j,t,rfl,hlf⟩,hS9,hE9⟩;have r9:w9.heap[w.heap.size+1]?=some zV:=(hE9.other _ (by omega) (by omega)).trans r7;have HE:=xI (x.out.trans hE9);have D:=xI hS9;have d:=xI (LeafN.all hlf);have F:=xI r9;obtain⟨e0,e1,e2,e3,e4,e5,e6⟩:=zAc r9;obtain⟨z0,z1,z2,z3,z4,z5,z6⟩:=zAd r9;clear hlf hS9 hE9 hok k7 r7;simp only[lfC];go_wp2;exact ret7 F.out rfl rfl rfl fun V x1 x2 x3=>⟨⟨lfV k j t,lfC k j t,rfl,lfVB d.out.2.2.1 d.out.2.2.2.1 d.out.2.2.2.2 q _ _,d.out.1,Bt _⟩,D.out.below3 (x3 w.heap.size (Cg _)) b,HE.out.grow (x3 w.heap.size (Cg _)) b⟩
end Go.Proofs.YteedihhdcbepmaaGreat
