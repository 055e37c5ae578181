/- TypeWellFormed, given that the sanity check .. -/
import Derived.Test.YteedihhdcbepmaaGreatTwZ
import Derived.Test.YteedihhdcbepmaaGreatTw37
set_option maxRecDepth 100000
set_option maxHeartbeats 12800000
set_option linter.all false
open Go.Value renaming slice→vS,int→vI,string→vT
open Go.IntKind renaming i64→i6
open Go.Proofs.Tryz renaming prog→tP
namespace Go.Proofs.YteedihhdcbepmaaGreat
open Go Go.RowKit
structure C4 (w V:World) (S P G g cap:Nat) (css:List (List Value)) (ns rs:List Tn) (As Ar:Option Addr) (cs cr:Nat) (rr:Int):Prop where
 hs:TyP V G ns 0 [vS As ns.length cs,vI i6 0]
 hr:TyP V G rs rr [vS Ar rs.length cr,vI i6 rr]
 kR:V.heap[w.heap.size]?=some (oE Ar rs.length cr rr)
 kS:V.heap[S]?=some (oE As ns.length cs 0)
 kP:V.heap[P]?=some (oE (some (aD g 0)) ns.length cap 0)
 own:OwnQ V 0 (vS (some (aD g 0)) ns.length cap) css
 nds:NdsB V (fun b=>b<G) css ns
 lt:w.heap.size<S/\S<G/\G<=P/\G<=g/\g≠P/\P<V.heap.size/\g<V.heap.size
 bel:bW w V
theorem C4.later {w V U:World}{S P G g cap:Nat}{css:List (List Value)}{ns rs:List Tn}{As Ar:Option Addr}{cs cr:Nat}{rr:Int}(h:C4 w V S P G g cap css ns rs As Ar cs cr rr) (hb:bW V U):C4 w U S P G g cap css ns rs As Ar cs cr rr:=
 have hl:=h.lt;have hG:Below G V U:=hb.mono (by omega)
 ⟨h.hs.on hG,h.hr.on hG,(hb.block _ (by omega)).trans h.kR,(hb.block _ (by omega)).trans h.kS,(hb.block _ (by omega)).trans h.kP,h.own.kept hb.size fun b _ hb2=>hb.block _ hb2,h.nds.keep (Same.of_below hG fun b hb=>hb),⟨hl.1,hl.2.1,hl.2.2.1,hl.2.2.2.1,hl.2.2.2.2.1,by have:=hb.size;omega,by have:=hb.size;omega⟩,h.bel.trans (hb.mono h.bel.size)⟩
theorem C4.made {w W1 w2 V:World}{S P g cap:Nat}{css:List (List Value)}{ns rs:List Tn}{As Ar:Option Addr}{cs cr:Nat}{rr:Int}(hs:TyAt W1 ns 0 As cs) (hr:TyAt W1 rs rr Ar cr) (kR:W1.heap[w.heap.size]?=some (oE Ar rs.length cr rr)) (kS:W1.heap[S]?=some (oE As ns.length cs 0))
  (hS:w.heap.size<S/\S<W1.heap.size) (hbw:bW w W1) (hq:OwnQ w2 0 (vS (some (aD g 0)) ns.length cap) css) (hn:NdsB w2 (fun b=>b<W1.heap.size) css ns) (hb:bW W1 w2) (hg:W1.heap.size<=g/\g<w2.heap.size) (hP:W1.heap.size<=P/\g≠P)
  (kP:V.heap[P]?=some (oE (some (aD g 0)) ns.length cap 0)) (hsz:w2.heap.size<=V.heap.size) (hV:∀ b,b<w2.heap.size->b≠P->V.heap[b]?=w2.heap[b]?) (hVb:Below W1.heap.size w2 V):C4 w V S P W1.heap.size g cap css ns rs As Ar cs cr rr:=
 have a:bW W1 V:=hb.trans hVb
 ⟨TyB.on hs a,TyB.on hr a,(a.block _ (by omega)).trans kR,(a.block _ (by omega)).trans kS,kP,OwnE.stay zBr hq fun g' hg' hl=>hV _ hl (by
  have:g'=g:=by simpa [Value.ownBlock] using hg'.symm
  omega),hn.keep (Same.of_below hVb fun b hb=>hb),⟨hS.1,hS.2,hP.1,hg.1,hP.2,(Cr.1 kP).1,by omega⟩,hbw.trans (a.mono hbw.size)⟩
theorem C4.low {w V U:World}{S P G g cap N:Nat}{css:List (List Value)}{ns rs:List Tn}{As Ar:Option Addr}{cs cr:Nat}{rr:Int}(h:C4 w V S P G g cap css ns rs As Ar cs cr rr) (hN:P<N/\g<N) (hb:Below N V U) (hz:V.heap.size<=U.heap.size):C4 w U S P G g cap css ns rs As Ar cs cr rr:=
 have hl:=h.lt;have hG:Below G V U:=hb.mono (by omega)
 ⟨h.hs.on hG,h.hr.on hG,(hb.block _ (by omega)).trans h.kR,(hb.block _ (by omega)).trans h.kS,(hb.block _ (by omega)).trans h.kP,OwnE.stay zBr h.own fun g' hg' _=>hb.block _ (by
  have:g'=g:=by simpa [Value.ownBlock] using hg'.symm
  omega),h.nds.keep (Same.of_below hG fun b hb=>hb),⟨hl.1,hl.2.1,hl.2.2.1,hl.2.2.2.1,hl.2.2.2.2.1,by omega,by omega⟩,h.bel.trans (hb.mono (by have:=hl;omega))⟩
structure E14 (w U:World) (S P G g cap Bx:Nat) (css:List (List Value)) (ns rs:List Tn) (As Ar A1 Af:Option Addr) (cs cr c1 cf:Nat) (rr kd1:Int) (x:Tn) (kl1:List Int):Prop where
 c4:C4 w U S P G g cap css ns rs As Ar cs cr rr
 kB:U.heap[Bx]?=some (oX kd1 x.lo x.hi ⟨x.text.toArray⟩ A1 kl1.length c1 Af x.fds.length cf x.r0 x.r1)
 hx:TnB U (fun b=>b≠g/\b<U.heap.size) { x with kind:=kd1,kids:=kl1 } [vI i6 kd1,vI i6 x.lo,vI i6 x.hi,vT ⟨x.text.toArray⟩,vS A1 kl1.length c1,vS Af x.fds.length cf,vI i6 x.r0,vI i6 x.r1]
 hB:P<Bx/\g<Bx
 ko:kidOk { x with kind:=kd1,kids:=kl1 }
theorem E14.of {w V U:World}{S P G g cap Bx base:Nat}{css:List (List Value)}{ns rs:List Tn}{As Ar A1 Ak Af:Option Addr}{cs cr c1 ck cf:Nat}{rr kd1:Int}{x:Tn}{kl1:List Int}(hC:C4 w U S P G g cap css ns rs As Ar cs cr rr) (hx:TnB V (fun b=>b<G) x [vI i6 x.kind,vI i6 x.lo,vI i6 x.hi,vT ⟨x.text.toArray⟩,vS Ak x.kids.length ck,vS Af x.fds.length cf,vI i6 x.r0,vI i6 x.r1]) (hb:Below G V U)
  (hk:OwnI U base (vS A1 kl1.length c1) kl1) (hbs:g<base) (hkd:i64B kd1) (hl:kl1.length<=1048576) (hko:kidOk x) (hB:P<Bx/\g<Bx) (kB:U.heap[Bx]?=some (oX kd1 x.lo x.hi ⟨x.text.toArray⟩ A1 kl1.length c1 Af x.fds.length cf x.r0 x.r1)):E14 w U S P G g cap Bx css ns rs As Ar A1 Af cs cr c1 cf rr kd1 x kl1:=by
 refine⟨hC,kB,?_,hB,⟨hl,hko.2⟩⟩;obtain⟨uk,uf,a,c,_,e⟩:=hx;simp only[Bb,and_true,true_and]at a;obtain⟨rfl,rfl⟩:=a;have f:=hC.lt;have d:Same (fun b=>b<G) V U:=Same.of_below hb fun b hb=>hb;refine⟨_,_,rfl,⟨hkd,c.2⟩,((OwnE.row hk (by decide) (Ba hl (by decide))).sub (fun b hb=>(⟨by have:=hb.1;omega,hb.2⟩:b≠g/\b<U.heap.size)) fun _ _ h=>h),(e.keep d fun _ _ h=>h).sub (fun b (hb:b<G)=>(⟨by omega,by omega⟩:b≠g/\b<U.heap.size)) fun _ _ h=>h⟩
theorem zKt {ns:List Tn}(hl:ns.length<=7) (hk:∀ x∈ns,kidOk x):left ns (List.replicate ns.length false)<=100000000:=by
 have h:=zJq (M:=2097152) (ns:=ns) (List.replicate ns.length false) fun x hx=>by
  have:=hk x hx;unfold szN;have h1:=this.1;have h2:=this.2;omega
 have h2:=Di (2097152+3) hl;omega
theorem zLb {ns:List Tn}(h:zC8 ns=true):left ns (List.replicate ns.length false)<=100000000:=by
 unfold zC8 at h;simp only[Cz,Be]at h;have h1:=zJq (M:=400) (ns:=ns) (List.replicate ns.length false) fun x hx=>Ba (zHp hx) h.2;have h2:=Di (400+3) h.1;omega
theorem at14 {P:Program}{ops:Array Oper}{Q:Exit->Act->World->Prop}{o:Op}{t:TypeId}{pos:String}{af:Array Edge}{gd:Option (Nat×Bool)}{rest:List Oper}{a:Act}{w:World}(h:Hid (wpList P ops Q (⟨some 81,o,t,pos,af,gd⟩::rest) a w)):wpList P ops Q (⟨some 81,o,t,pos,af,gd⟩::rest) a w:=h.out
theorem at86 {P:Program}{ops:Array Oper}{Q:Exit->Act->World->Prop}{o:Op}{t:TypeId}{pos:String}{af:Array Edge}{gd:Option (Nat×Bool)}{rest:List Oper}{a:Act}{w:World}(h:Hid (wpList P ops Q (⟨some 86,o,t,pos,af,gd⟩::rest) a w)):wpList P ops Q (⟨some 86,o,t,pos,af,gd⟩::rest) a w:=h.out
theorem zNe (hA:Hid zOj) (hN:Hid zDx) (A:Option Addr) (n c:Nat) (at0 to0 kd:Int) (rs:List Tn) (rr:Int) (Ar:Option Addr) (cr:Nat) (w:World) (hR:IntsP w A n c) (hn:n<=maxLen) (hto:i64B to0) (hkd:i64B kd)
  (hT:TyAt w rs rr Ar cr) (hz:∀ x∈rs,szN x<=2 ^ 60) :
  Calls tP 3 #[.agg #[vS Ar rs.length cr,vI i6 rr],vS A n c,vI i6 at0,vI i6 to0,vI i6 kd] w fun e w'=>e=.returned (.bool true)/\bW w w':=by
 obtain⟨W0,az,aw,a7,aJ⟩:=aW w (oE Ar rs.length cr rr)
 have bi:=hT.later aw;have an:=zMs W0 bi hz;have HI:=xI (aN hR hn);have H0:=xI (aN bi (aN aw (aN a7 aJ)));have HW:=xI (aN hto hkd);obtain⟨x0,x1⟩:=zAf a7;rw[az]at x0 x1;clear hR hn aw a7 aJ bi hT hz hto hkd;cases hsm:zC8 rs with
 | false=>
  rw[hsm]at an;go_enter Tryz.func3,Tryz.ntmps3;go_wp2_with fail;rw[<-az];clear az x0 x1;refine an.mono ?_;rintro e w0 ⟨rfl,hb0⟩;have M:=xI hb0;clear an hb0;go_wp2_with (go_at_call 10;refine (hA.out w0).mono ?_;rintro e w5 ⟨rfl,hb5⟩;replace hb5:=xI hb5);go_ret;exact⟨by first|rfl|simp,(H0.out.2.1.trans (M.out.mono H0.out.2.1.size)).trans (hb5.out.mono (Ba H0.out.2.1.size M.out.size))⟩
 | true=>
 rw[hsm]at an;by_cases h1:(80:Int)<(n:Int)
 ·go_enter Tryz.func3,Tryz.ntmps3;go_wp2_with fail;rw[<-az];clear az x0 x1;refine an.mono ?_;rintro e w0 ⟨rfl,hb0⟩;have M:=xI hb0;clear an hb0;go_wp2_with (go_at_call 10;refine (hA.out w0).mono ?_;rintro e w5 ⟨rfl,hb5⟩;replace hb5:=xI hb5);go_ret;exact⟨by first|rfl|simp,(H0.out.2.1.trans (M.out.mono H0.out.2.1.size)).trans (hb5.out.mono (Ba H0.out.2.1.size M.out.size))⟩
 go_enter Tryz.func3,Tryz.ntmps3;go_wp2_with fail;rw[<-az];clear az x0 x1;refine an.mono ?_;rintro e w0 ⟨rfl,hb0⟩;clear an;have au:=H0.out.2.1.trans (hb0.mono H0.out.2.1.size);have hi:=HI.out;have bA:=zL0 hN A n c none 0 0 w0 (hi.1.later au) hi.2 (RowB.nil ..) (Bl _);have M:=xI (aN hb0 au);clear hb0 au hi;go_wp2_with fail;clear h1;refine bA.mono ?_;rintro e w1 ⟨ns,csT,v1,csV,rfl,hG1,hl1,hl7,hT1,hV1,hok1,hlb1,hb1⟩;clear bA hlb1;obtain⟨u,rfl,_,aL⟩:=id hT1;obtain⟨As,cs,rfl,_⟩:=aL.form;obtain⟨k1,i1,x1,bI,bG,bV,bH,cb,bY,ca,bX,cd,bZ,ce,b8,rfl,rfl⟩:=vb_mk hV1;obtain⟨W1,aY⟩:∃ W1,W1=(w1.alloc (oE As ns.length cs 0)).alloc (oV k1 i1 ⟨x1.toArray⟩ cb bI.length bY ca bG.length bX cd bV.length bZ ce bH.length b8):=⟨_,rfl⟩;have av:bW w1 W1:=by rw[aY];exact (yR.alloc lR _).alloc (by simp) _
 have kS:W1.heap[w1.heap.size]?=some (oE As ns.length cs 0):=by rw[aY,Bm _ _ _ (by simp)];exact Bj w1 _
 have a8:W1.heap.size=w1.heap.size+2:=by rw[aY];simp
 have ay:bW w0 W1:=hb1.trans (av.mono hb1.size);have aV:bW w W1:=M.out.2.trans (ay.mono M.out.2.size);have bB:TyAt W1 ns 0 As cs:=(hT1.keep (Same.of_below av fun b hb=>hb.2)).sub fun b hb=>(show b<W1.heap.size by have:=hb.2;omega);have a5:w.heap.size<w1.heap.size/\bW W0 W1:=by
  have h0:=M.out.1.size;have h1:=hb1.size;have h2:=H0.out.2.2.2;exact⟨by omega,M.out.1.trans (ay.mono h0)⟩
 have bC:TyAt W1 rs rr Ar cr:=TyAt.later H0.out.1 a5.2;have bn:W1.heap[w.heap.size]?=some (oE Ar rs.length cr rr):=(a5.2.block _ (by have:=H0.out.2.2.2;omega)).trans H0.out.2.2.1;have H1:=xI (aN bB (aN bC (aN bn (aN kS (aN (show w.heap.size<w1.heap.size/\w1.heap.size<W1.heap.size from⟨a5.1,by omega⟩) aV)))));have HG:=xI (aN hG1 (aN hl1 hl7));clear hT1 hV1 hok1 hb1 aL av bn a8 ay a5 bC hG1 bB aV;go_wp2_with fail;rw[<-aY];clear aY;have HQ:Hid (∀ wq,bW W1 wq->jT wq w1.heap.size As ns.length cs 0):=xI fun wq h=>zAf ((h.block _ (by have:=H1.out.2.2.2.2.1;omega)).trans kS);have hd:bW W1 W1.drew:=yR.drew;clear kS;refine wR HQ (by kernel_rfl) (HQ.out _ hd) (fun _=>?_);refine oT 0 (HQ.out _ hd) ?_ (hy:=Or.inl ⟨by rfl,(by intro w hSw;obtain⟨a0,a1⟩:=hSw;go_simp;try with_reducible rfl)⟩)
 refine oT 1 (HQ.out _ hd) ?_ (hy:=Or.inl ⟨by rfl,(by intro w hSw;obtain⟨a0,a1⟩:=hSw;go_simp;try with_reducible rfl)⟩)
 refine oT 3 (HQ.out _ hd) ?_ (hy:=Or.inl ⟨by rfl,(by intro w hSw;obtain⟨a0,a1⟩:=hSw;go_simp;try with_reducible rfl)⟩)
 refine oT 4 (HQ.out _ hd) ?_ (hy:=Or.inl ⟨by rfl,(by intro w hSw;obtain⟨a0,a1⟩:=hSw;go_simp;try with_reducible rfl)⟩)
 refine C0 (rs:=[2,6]) (by kernel_rfl) (by simp) fun j hj=>?_;have bO:j=2\/j=6:=by simpa using hj
 clear hj;rcases bO with rfl|rfl
 case' inl=>
  obtain⟨g,cap,w2,T,aM,ak,f,s,I,Q⟩:=zGz W1.drew lR (TyAt.later H1.out.1 hd) HG.out.2.1 (by have:=HG.out.2.2;omega) 22;have q:bW W1 w2:=hd.trans s;refine zAi rfl (by rfl) (fun K hK=>?_);refine Lib.wp_append_run _ _ _ _ _ rfl _ _ rfl rfl _ w2 aM ?_;refine hK _ _ ⟨HQ.out _ q,?_⟩;clear hK K
  (try simp only[pK])
  refine oT 5 (HQ.out _ q) ?_ (hy:=oA);refine oO 6 fun K hK=>?_;go_simp;refine hK _ _ (HQ.out _ (q.alloc q.size _)) ?_;clear hK K
  (try simp only[pK])
  refine oO 7 fun K hK=>?_;go_simp;refine hK _ _ (HQ.out _ (q.alloc q.size _)) ?_;clear hK K
  (try simp only[pK])
  refine wD ?_;obtain⟨V,hV⟩:∃ V,V=w2.alloc (oE (some (aD g 0)) ns.length cap 0):=⟨_,rfl⟩;rw[<-hV];obtain⟨G,hG⟩:∃ G,G=W1.heap.size:=⟨_,rfl⟩;have aA:C4 w V w1.heap.size w2.heap.size G g cap T ns rs As Ar cs cr rr:=by
   rw[hG];have h1:=H1.out;have bR:W1.heap.size<=g:=I;refine C4.made h1.1 h1.2.1 h1.2.2.1 h1.2.2.2.1 h1.2.2.2.2.1 h1.2.2.2.2.2 ak (f.sub fun b hb=>?_) q ⟨I,Q⟩ ?_ ?_ ?_ ?_ ?_
   ·exact hb
   ·exact⟨by have:=q.size;omega,by omega⟩
   ·rw[hV];exact Bj w2 _
   ·rw[hV];simp
   ·intro b hb _;rw[hV,Bm _ _ _ hb]
   ·rw[hV];exact yR.alloc (by have:=q.size;omega) _
  obtain⟨P,hP⟩:∃ P,P=w2.heap.size:=⟨_,rfl⟩;rw[<-hP]at aA;rw[<-hP];have HC:=xI aA;clear hG aA hV hP ak f s I Q aM q hd HQ H1 H0 M HI
 case' inr=>
  have aS:bW W1 (W1.drew.alloc (oE none 0 0 0)):=hd.alloc lR _;obtain⟨g,cap,w2,T,aM,ak,f,s,I,Q⟩:=zGz (W1.drew.alloc (oE none 0 0 0)) (H:=W1.heap.size) aS.size (TyB.on H1.out.1 aS) HG.out.2.1 (by have:=HG.out.2.2;omega) 22;have bq:(W1.drew.alloc (oE none 0 0 0)).heap.size=W1.heap.size+1:=by simp
  have aI:(W1.drew.alloc (oE none 0 0 0)).heap[W1.heap.size]?=some (oE none 0 0 0):=Bj W1.drew _;have q:bW W1 w2:=aS.trans (s.mono (by omega));have ai:w2.heap[W1.heap.size]?=some (oE none 0 0 0):=(s.block _ (by omega)).trans aI;have aK:=s.size;rw[bq]at I aK;have H6:=xI (aN I (aN Q (aN aK (aN ak (aN f (aN s ai))))));clear aI bq I Q aK ak f s ai;refine zAi rfl (by rfl) (fun K hK=>?_);go_simp;refine hK _ _ ⟨HQ.out _ aS,?_⟩;clear hK K
  (try simp only[pK])
  refine oO 2 fun K hK=>?_;refine Lib.wp_append_run _ _ _ _ _ rfl _ _ rfl rfl _ w2 aM ?_;refine hK _ _ (HQ.out _ q) ?_;clear hK K
  (try simp only[pK])
  refine oO 5 fun K hK=>?_;go_simp;refine hK _ _ (HQ.out _ q) ?_;clear hK K
  (try simp only[pK])
  refine oO 7 fun K hK=>?_;have ai:=H6.out.2.2.2.2.2.2;obtain⟨p0,p1⟩:=zAf ai;have z0:=Bz ai 0;have z1:=Bz ai 1;go_simp;clear p0 p1 z0 z1;refine hK _ _ (HQ.out _ ((q.setCell (p:=(aH W1 0)) lR _).setCell (p:=(aH W1 1)) lR _)) ?_;clear hK K
  (try simp only[pK])
  refine wD ?_;obtain⟨I,Q,aK,ak,f,s,_⟩:=H6.out;clear H6 aS;have bQ:g≠W1.heap.size:=by omega
  replace I:W1.heap.size<=g:=by omega
  obtain⟨V,hV⟩:∃ V,V=(w2.setCell (aH W1 0) (vS (some (aD g 0)) ns.length cap)).setCell (aH W1 1) (vI i6 0):=⟨_,rfl⟩;rw[<-hV];obtain⟨G,hG⟩:∃ G,G=W1.heap.size:=⟨_,rfl⟩;have aA:C4 w V w1.heap.size W1.heap.size G g cap T ns rs As Ar cs cr rr:=by
   rw[hG];have h1:=H1.out;have bR:W1.heap.size<=g:=I;refine C4.made h1.1 h1.2.1 h1.2.2.1 h1.2.2.2.1 h1.2.2.2.2.1 h1.2.2.2.2.2 ak (f.sub fun b hb=>?_) q ⟨I,Q⟩ ?_ ?_ ?_ ?_ ?_
   ·exact hb
   ·exact⟨B7 _,by omega⟩
   ·have q0:=Bp w2 W1.heap.size 0 _ _ (vS (some (aD g 0)) ns.length cap) ai;have q1:=Bp _ W1.heap.size 1 _ _ (vI i6 0) q0;rw[hV];simpa using q1
   ·rw[hV];simp
   ·intro b _ hb;rw[hV,Bu _ _ _ _ hb,Bu _ _ _ _ hb]
   ·rw[hV];exact (yR.setCell (p:=(aH W1 0)) lR _).setCell (p:=(aH W1 1)) lR _
  obtain⟨P,hP⟩:∃ P,P=W1.heap.size:=⟨_,rfl⟩;rw[<-hP]at aA;rw[<-hP];have HC:=xI aA;clear aK ai bQ hG aA hV hP ak f s I Q aM q hd HQ H1 H0 M HI
 all_goals (
  obtain⟨k,hk,bw⟩:=remU7 at0 ns.length (by have:=HG.out.2;omega) (by have:=HG.out.2;omega);have bb:wrap64 (Int.tmod (IntKind.u64.wrap at0) (IntKind.u64.wrap (ns.length:Int)))=(k:Int):=(IntWalk.i64_left _).symm.trans bw.out;have a9:¬ IntKind.u64.wrap (ns.length:Int)=0:=by
   have:=HG.out.2;rw[IntKind.wrap_u64];omega
  have hx:=By (l:=ns) hk;generalize ns[k]'hk=x at hx;have be:k<T.length:=by rw[HC.out.nds.1];exact hk
  have aT:=By (l:=T) be;generalize T[k]'be=cc at aT;have bj:=HC.out.nds.2 k _ x aT hx;obtain⟨uk,uf,rfl,aj,a2,bz⟩:=id bj;obtain⟨Ak,ck,rfl,am⟩:=a2.form;obtain⟨Af,cf,rfl,_⟩:=bz.form;obtain⟨-,-,-,d,-,-,-⟩:=HC.out.own.at8N aT;have e0:V.cell? (aD g (k*8))=some (vI i6 x.kind):=d 0 (by decide);have e1:V.cell? (aD g (k*8+1))=some (vI i6 x.lo):=d 1 (by decide);have e2:V.cell? (aD g (k*8+2))=some (vI i6 x.hi):=d 2 (by decide);have e3:V.cell? (aD g (k*8+3))=some (vT ⟨x.text.toArray⟩):=d 3 (by decide);have e4:V.cell? (aD g (k*8+4))=some (vS Ak x.kids.length ck):=d 4 (by decide);have e5:V.cell? (aD g (k*8+5))=some (vS Af x.fds.length cf):=d 5 (by decide);have e6:V.cell? (aD g (k*8+6))=some (vI i6 x.r0):=d 6 (by decide);have e7:V.cell? (aD g (k*8+7))=some (vI i6 x.r1):=d 7 (by decide);obtain⟨p0,p1⟩:=zAf HC.out.kP;have HX:=xI (aN hx (aN bj (aN aT hk)));have br:x.kids.length<=1048576:=(HG.out.1.kid x (Bh hx)).1;have m0:(0:Int)<=(k:Int):=by omega
  have mp:(k:Int)<(ns.length:Int):=by omega
  clear d hx bj aT be aj bz bw hl1 hl7;obtain⟨X,hX,bf,_,bp⟩:=aW V (oX x.kind x.lo x.hi ⟨x.text.toArray⟩ Ak x.kids.length ck Af x.fds.length cf x.r0 x.r1);obtain⟨kl,bd⟩:∃ kl,kl=x.kids:=⟨_,rfl⟩;rw[<-bd]at hX a2 am br e4;obtain⟨kn,a3⟩:∃ kn,kn=kl.length:=⟨_,rfl⟩
  have kX:X.heap[V.heap.size]?=some (oX x.kind x.lo x.hi ⟨x.text.toArray⟩ Ak kl.length ck Af x.fds.length cf x.r0 x.r1):=by rw[hX];exact Bj V _
  have a4:RowB X (fun b=>b<G) 1 (vS Ak kl.length ck) kl.length (fun j cs=>∃ y,kl[j]?=some y/\elI.E y X (fun b=>X.heap.size<=b/\b<X.heap.size/\some b≠(vS none 0 0).ownBlock) cs):=a2.on (bf.mono (by have:=HC.out.lt;omega)) fun _ _ h=>h;rw[<-a3]at a4 hX kX am br e4;have o:=a3.symm;have aO:∀ (y:Int) (w:World) (B:Nat->Prop) (cs:List Value),elI.E y w B cs->∀ u∈cs,u.oneCell'=true:=fun _ _ _ _ h=>zEz h;have aq:OwnI X X.heap.size (vS none 0 0) []:=OwnE.nil _ _ _ _ _;have bv:([]:List Int).length+kn<=300000000:=by simp;omega
  obtain⟨x0,x1,x2,x3,x4,x5,x6,x7⟩:=zAd kX;have HK:=xI (aN bf (aN kX (aN bp (aN bd a3))));clear bf kX bp a2 bd a3;rw[hX]at x0 x1 x2 x3 x4 x5 x6 x7;rw[hX]at a4 aq;obtain⟨bs,bS⟩:∃ bs,bs=X.heap.size:=⟨_,rfl⟩;go_wp2_with (at_builtin;refine zHh elI namI aO rfl _ _ rfl _ _ [] rfl aq Ak kn ck kl o _ rfl a4 bv lR ?_;intro v2 w3 ho1 hb1 _ _;refine Hid.out ?_);refine xI ?_;rw[<-hX]at ho1 hb1;clear a4 aq aO bv x0 x1 x2 x3 x4 x5 x6 x7 e0 e1 e2 e3 e4 e5 e6 e7 p0 p1 m0 mp bS bs bb a9 hX;rw[Cm]at ho1;obtain⟨A2,c2,rfl⟩:=ho1.form;rw[o]at ho1;have ax:bW V w3:=HK.out.1.trans (hb1.mono (by have:=HK.out.2.2.1;omega));have aC:=(hb1.block _ (by have:=HK.out.2.2.1;omega)).trans HK.out.2.1;have aZ:=HC.out.later ax;obtain⟨x0,x1,x2,x3,x4,x5,x6,x7⟩:=zAd aC;obtain⟨p0,p1⟩:=zAf aZ.kP;obtain⟨-,-,-,d,zg,-,-⟩:=aZ.own.at8N HX.out.2.2.1;have e0:w3.cell? (aD g (k*8))=some (vI i6 x.kind):=d 0 (by decide);have e1:w3.cell? (aD g (k*8+1))=some (vI i6 x.lo):=d 1 (by decide);have e2:w3.cell? (aD g (k*8+2))=some (vI i6 x.hi):=d 2 (by decide);have e3:w3.cell? (aD g (k*8+3))=some (vT ⟨x.text.toArray⟩):=d 3 (by decide);have e4:w3.cell? (aD g (k*8+4))=some (vS Ak x.kids.length ck):=d 4 (by decide);have e5:w3.cell? (aD g (k*8+5))=some (vS Af x.fds.length cf):=d 5 (by decide);have e6:w3.cell? (aD g (k*8+6))=some (vI i6 x.r0):=d 6 (by decide);have e7:w3.cell? (aD g (k*8+7))=some (vI i6 x.r1):=d 7 (by decide);clear d;have y0:=zg (k*8);have y1:=zg (k*8+1);have y2:=zg (k*8+2);have y3:=zg (k*8+3);have y4:=zg (k*8+4);have y5:=zg (k*8+5);have y6:=zg (k*8+6);have y7:=zg (k*8+7);have z0:=Bz aC 0;have z4:=Bz aC 4;have O:P≠V.heap.size:=by have:=HC.out.lt;omega
  have ag:g≠V.heap.size:=by have:=HC.out.lt;omega
  have af:V.heap.size≠P:=by omega
  have ae:V.heap.size≠g:=by omega
  have m0:(0:Int)<=(k:Int):=by omega
  have mp:(k:Int)<(ns.length:Int):=by have:=HX.out.2.2.2;omega
  have HO:=xI (aN ho1 (aN hb1 (aN ax (aN aZ aC))));rw[o];rcases C7 kn with h0|h0
  case' inl=>
   subst h0;have bP:¬ (0:Int)<((0:Nat):Int):=by omega
   clear ho1 hb1 ax aZ zg aC e0 e1 e2 e3 e4 e5 e6 e7 y0 y1 y2 y3 y4 y5 y6 y7 p0 p1;go_wp2_with (with_reducible refine at14 ?_)
   case' _=>
    obtain⟨U,hU⟩:∃ U,U=(w3.setCell (aH V 4) (vS A2 0 c2)).setCell (aH V 0) (vI i6 (bits BinOp.and IntKind.i64 kd 31)):=⟨_,rfl⟩;rw[<-hU];have ah:=Bp w3 V.heap.size 4 _ _ (vS A2 0 c2) HO.out.2.2.2.2;have F:=Bp _ V.heap.size 0 _ _ (vI i6 (bits BinOp.and IntKind.i64 kd 31)) ah;have kB:U.heap[V.heap.size]?=some (oX (bits BinOp.and IntKind.i64 kd 31) x.lo x.hi ⟨x.text.toArray⟩ A2 0 c2 Af x.fds.length cf x.r0 x.r1):=by rw[hU];simpa using F
    have J:U.heap.size=w3.heap.size:=by rw[hU];simp
    have L:∀ H,H<=V.heap.size->Below H w3 U:=fun H hH=>by rw[hU];exact ((Bv H w3).setCell (p:=(aH V 4)) hH _).setCell (p:=(aH V 0)) hH _
    have al:OwnI U X.heap.size (vS A2 0 c2) kl:=OwnE.stay zAj HO.out.1 fun g' hg' _=>by
     have h:=(OwnE.ltB HO.out.1 hg').1;have aX:=HK.out.2.2.1;rw[hU];rw[Bu _ _ _ _ (show g'≠V.heap.size by omega),Bu _ _ _ _ (show g'≠V.heap.size by omega)]
    have HU:=xI (aN kB (aN al (aN J L)));clear ah F kB J L al hU x0 x1 x2 x3 x4 x5 x6 x7 z0 z4 O ag af ae;have HE:Hid (∃ A1 c1 v t,E14 w U w1.heap.size P G g cap V.heap.size T ns rs As Ar A1 Af cs cr c1 cf rr v x t):=xI (by
     obtain⟨q1,q2,q4,q5⟩:=HU.out;have hl:=HC.out.lt;have aX:=HK.out.2.2.1;have a:(kl).length=0:=by exact o
     have ao:w3.heap.size<=U.heap.size:=by omega
     obtain⟨_,_,_,aj,_⟩:=id HX.out.2.1;exact⟨A2,c2,bits BinOp.and IntKind.i64 kd 31,kl,E14.of (HO.out.2.2.2.1.low (N:=V.heap.size) ⟨by omega,by omega⟩ (q5 _ lR) ao) HX.out.2.1 ((HO.out.2.2.1.mono (by omega)).trans (q5 _ (by omega))) (by rw[a];exact q2) (show g<X.heap.size by omega) (wf_bits _ _ _ _) (by rw[a];omega) (HG.out.1.kid x (Bh HX.out.1)) ⟨by omega,by omega⟩ (by rw[a];exact q1)⟩)
    clear HU
   rotate_left
   case' _=>
    obtain⟨U,hU⟩:∃ U,U=w3.setCell (aH V 4) (vS A2 0 c2):=⟨_,rfl⟩;rw[<-hU];have ah:=Bp w3 V.heap.size 4 _ _ (vS A2 0 c2) HO.out.2.2.2.2;have F:=ah;have kB:U.heap[V.heap.size]?=some (oX x.kind x.lo x.hi ⟨x.text.toArray⟩ A2 0 c2 Af x.fds.length cf x.r0 x.r1):=by rw[hU];simpa using F
    have J:U.heap.size=w3.heap.size:=by rw[hU];simp
    have L:∀ H,H<=V.heap.size->Below H w3 U:=fun H hH=>by rw[hU];exact (Bv H w3).setCell (p:=(aH V 4)) hH _
    have al:OwnI U X.heap.size (vS A2 0 c2) kl:=OwnE.stay zAj HO.out.1 fun g' hg' _=>by
     have h:=(OwnE.ltB HO.out.1 hg').1;have aX:=HK.out.2.2.1;rw[hU];rw[Bu _ _ _ _ (show g'≠V.heap.size by omega)]
    have HU:=xI (aN kB (aN al (aN J L)));clear ah F kB J L al hU x0 x1 x2 x3 x4 x5 x6 x7 z0 z4 O ag af ae;have HE:Hid (∃ A1 c1 v t,E14 w U w1.heap.size P G g cap V.heap.size T ns rs As Ar A1 Af cs cr c1 cf rr v x t):=xI (by
     obtain⟨q1,q2,q4,q5⟩:=HU.out;have hl:=HC.out.lt;have aX:=HK.out.2.2.1;have a:(kl).length=0:=by exact o
     have ao:w3.heap.size<=U.heap.size:=by omega
     obtain⟨_,_,_,aj,_⟩:=id HX.out.2.1;exact⟨A2,c2,x.kind,kl,E14.of (HO.out.2.2.2.1.low (N:=V.heap.size) ⟨by omega,by omega⟩ (q5 _ lR) ao) HX.out.2.1 ((HO.out.2.2.1.mono (by omega)).trans (q5 _ (by omega))) (by rw[a];exact q2) (show g<X.heap.size by omega) aj.1 (by rw[a];omega) (HG.out.1.kid x (Bh HX.out.1)) ⟨by omega,by omega⟩ (by rw[a];exact q1)⟩)
    clear HU
  case' inr=>
   have bP:(0:Int)<(kn:Int):=by omega
   obtain⟨g2,c3,bK,Q,aQ,-⟩:=ho1.formN o h0;injection bK with hA2 hn2 hc2;clear hn2;subst hA2 hc2;obtain⟨y,hy⟩:∃ y,kl[0]?=some y:=⟨_,By (by omega)⟩;obtain⟨g4,c4,yc,ap,-,-,W,aU,aR,Z⟩:=OwnE.setc zAj ho1 hy (by decide);injection ap with hA4 hn4 hc4b;clear hn4 hc4b;injection hA4 with hA4;injection hA4 with hA4 _ _;subst hA4;have q0:w3.cell? (aD g2 0)=some (vI i6 y):=by
    have:=aU 0 (by decide);rw[W.1]at this;exact this
   have qz:=aR 0;have ad:g2≠V.heap.size:=by have:=HK.out.2.2.1;omega
   have ab:V.heap.size≠g2:=by omega
   have aF:=xI (aN Z (aN Q aQ));have HY:=xI hy;clear aU aR Z W hy Q aQ;clear ho1 hb1 ax aZ zg aC e0 e1 e2 e3 e4 e5 e6 e7 y0 y1 y2 y3 y4 y5 y6 y7 p0 p1;obtain⟨m,hm,bc⟩:=remU7 to0 ns.length (by have:=HG.out.2;omega) (by have:=HG.out.2;omega);have bb:wrap64 (Int.tmod (IntKind.u64.wrap to0) (IntKind.u64.wrap (ns.length:Int)))=(m:Int):=(IntWalk.i64_left _).symm.trans bc.out;have a9:¬ IntKind.u64.wrap (ns.length:Int)=0:=by
    have:=HG.out.2;rw[IntKind.wrap_u64];omega
   have b9:=bc;clear bc;obtain⟨W5,R⟩:∃ W5,W5=(w3.setCell (aH V 4) (vS (some (aD g2 0)) kn c2)).setCell (aD g2 0) (vI i6 to0):=⟨_,rfl⟩;have ah:=Bp w3 V.heap.size 4 _ _ (vS (some (aD g2 0)) kn c2) HO.out.2.2.2.2;have F:W5.heap[V.heap.size]?=some (oX x.kind x.lo x.hi ⟨x.text.toArray⟩ (some (aD g2 0)) kn c2 Af x.fds.length cf x.r0 x.r1):=by
    rw[R,Bu _ _ _ _ ab];simpa using ah
   have bo:W5.heap[P]?=some (oE (some (aD g 0)) ns.length cap 0):=by
    rw[R,Bu _ _ _ _ (show P≠g2 by have:=aF.out.2.1;have:=HC.out.lt;have:=HK.out.2.2.1;omega),Bu _ _ _ _ O];exact HO.out.2.2.2.1.kP
   have H5:=xI (aN F bo);clear ah F bo;go_wp2_with (with_reducible refine at14 ?_)
   case' _=>
    rw[<-R];have aP:OwnI (w3.setCell (aH V 4) (vS (some (aD g2 0)) kn c2)) X.heap.size (vS (some (aD g2 0)) kn c2) kl:=OwnE.stay zAj HO.out.1 fun g' hg' _=>Bu _ _ _ _ (by
     have h:g'=g2:=by simpa [Value.ownBlock] using hg'.symm
     rw[h];exact ad)
    have aE:OwnI W5 X.heap.size (vS (some (aD g2 0)) kn c2) (kl.set 0 to0):=by
     obtain⟨g4,c4,yc,ap,-,-,W,-,-,Z⟩:=OwnE.setc zAj aP HY.out (by decide);injection ap with hA4 _ _;injection hA4 with hA4;injection hA4 with hA4 _ _;subst hA4;have h:=Z 0 (vI i6 to0) to0 (by decide) (by rw[W.1];exact⟨rfl,HW.out.1⟩);rw[R];exact h
    obtain⟨g4,c4,yc,ap,-,-,W,aU,aR,Z⟩:=OwnE.setc zAj aE (D6 (by omega)) (by decide);injection ap with hA4 hn4 hc4b;clear hn4 hc4b;injection hA4 with hA4;injection hA4 with hA4 _ _;subst hA4;have q5:W5.cell? (aD g2 0)=some (vI i6 to0):=by
     have:=aU 0 (by decide);rw[W.1]at this;exact this
    have z5:=aR 0;have bt:=Z 0 (vI i6 m) m (by decide) (by rw[W.1];exact⟨rfl,zB3 (by omega) (by have:=HG.out.2;omega)⟩);have bD:=xI bt;have a6:=xI R;clear R;clear Z bt aU aR W aP aE q0 qz x0 x1 x2 x3 x4 x5 x6 x7 z0 z4;have z:Hid (∀ wq,bW W5 wq->wq.cell? (aH V 4)=some (vS (some (aD g2 0)) kn c2)/\wq.cell? (aD P 0)=some (vS (some (aD g 0)) ns.length cap)):=xI fun wq h=>⟨(zAd ((h.block _ (Cr.1 H5.out.1).1).trans H5.out.1)).2.2.2.2.1,(zAf ((h.block _ (Cr.1 H5.out.2).1).trans H5.out.2)).1⟩;have C:bW W5 W5.drew:=yR.drew;refine wR z (by kernel_rfl) (z.out _ C) (fun _=>?_);refine oT 0 (z.out _ C) ?_ (hy:=Or.inl ⟨by rfl,(by intro w hSw;obtain⟨a0,a1⟩:=hSw;go_simp;try with_reducible rfl)⟩)
    refine oT 1 (z.out _ C) ?_ (hy:=Or.inl ⟨by rfl,(by intro w hSw;obtain⟨a0,a1⟩:=hSw;go_simp;try with_reducible rfl)⟩)
    refine oT 2 (z.out _ C) ?_ (hy:=Or.inl ⟨by rfl,(by intro w hSw;obtain⟨a0,a1⟩:=hSw;go_simp;try with_reducible rfl)⟩)
    refine oT 3 (z.out _ C) ?_ (hy:=Or.inl ⟨by rfl,(by intro w hSw;obtain⟨a0,a1⟩:=hSw;go_simp;try with_reducible rfl)⟩)
    refine oT 4 (z.out _ C) ?_ (hy:=Or.inl ⟨by rfl,(by intro w hSw;obtain⟨a0,a1⟩:=hSw;go_simp;try with_reducible rfl)⟩)
    refine oT 5 (z.out _ C) ?_ (hy:=Or.inl ⟨by rfl,(by intro w hSw;obtain⟨a0,a1⟩:=hSw;go_simp;try with_reducible rfl)⟩)
    refine oT 6 (z.out _ C) ?_ (hy:=Or.inl ⟨by rfl,(by intro w hSw;obtain⟨a0,a1⟩:=hSw;go_simp;try with_reducible rfl)⟩)
    refine oT 7 (z.out _ C) ?_ (hy:=Or.inl ⟨by rfl,(by intro w hSw;obtain⟨a0,a1⟩:=hSw;go_simp;try with_reducible rfl)⟩)
    refine oT 8 (z.out _ C) ?_ (hy:=Or.inl ⟨by rfl,(by intro w hSw;obtain⟨a0,a1⟩:=hSw;go_simp;try with_reducible rfl)⟩)
    refine oT 9 (z.out _ C) ?_ (hy:=Or.inl ⟨by rfl,(by intro w hSw;obtain⟨a0,a1⟩:=hSw;go_simp;try with_reducible rfl)⟩)
    refine oT 10 (z.out _ C) ?_ (hy:=Or.inl ⟨by rfl,(by intro w hSw;obtain⟨a0,a1⟩:=hSw;go_simp;try with_reducible rfl)⟩)
    refine oO 11 fun K hK=>?_;go_simp;rw[b9.out];obtain⟨U,hU⟩:∃ U,U=(W5.setCell (aD g2 0) (vI i6 (m:Int))).drew:=⟨_,rfl⟩;rw[<-hU];have kB:U.heap[V.heap.size]?=some (oX x.kind x.lo x.hi ⟨x.text.toArray⟩ (some (aD g2 0)) kn c2 Af x.fds.length cf x.r0 x.r1):=by
     rw[hU];exact (Bu _ _ _ _ ab).trans H5.out.1
    have aI:U.heap[P]?=some (oE (some (aD g 0)) ns.length cap 0):=by
     rw[hU];exact (Bu _ _ _ _ (show P≠g2 by have:=aF.out.2.1;have:=HC.out.lt;have:=HK.out.2.2.1;omega)).trans H5.out.2
    have al:OwnI U X.heap.size (vS (some (aD g2 0)) kn c2) ((kl.set 0 to0).set 0 (m:Int)):=OwnE.stay zAj bD.out fun _ _ _=>by rw[hU];rfl
    have bU:∀ b,b<X.heap.size->b≠V.heap.size->U.heap[b]?=w3.heap[b]?:=fun b hb s=>by
     rw[hU];refine (Bu _ _ _ _ (show b≠g2 by have:=aF.out.2.1;omega)).trans ?_;rw[a6.out,Bu _ _ _ _ (show b≠g2 by have:=aF.out.2.1;omega),Bu _ _ _ _ s]
    have J:U.heap.size=w3.heap.size:=by rw[hU,a6.out];simp
    have L:∀ H,H<=V.heap.size->Below H w3 U:=fun H hH=>by
     have h2:H<=g2:=by have:=aF.out.2.1;have:=HK.out.2.2.1;omega
     rw[hU,a6.out];exact ((((Bv H w3).setCell (p:=(aH V 4)) hH _).setCell (p:=(aD g2 0)) h2 _).setCell (p:=(aD g2 0)) h2 _).drew
    refine hK _ _ ⟨(zAd kB).2.2.2.2.1,(zAf aI).1⟩ ?_;clear hK K
    (try simp only[pK])
    refine wD ?_;have HU:=xI (aN kB (aN al (aN J L)));clear kB aI al bU J L hU a6 O ag af ae ad ab;have HE:Hid (∃ A1 c1 v t,E14 w U w1.heap.size P G g cap V.heap.size T ns rs As Ar A1 Af cs cr c1 cf rr v x t):=xI (by
     obtain⟨q1,q2,q4,q5⟩:=HU.out;have hl:=HC.out.lt;have aX:=HK.out.2.2.1;have a:((kl.set 0 to0).set 0 (m:Int)).length=kn:=by rw[Cn,Cn];exact o
     have ao:w3.heap.size<=U.heap.size:=by omega
     obtain⟨_,_,_,aj,_⟩:=id HX.out.2.1;exact⟨(some (aD g2 0)),c2,x.kind,(kl.set 0 to0).set 0 (m:Int),E14.of (HO.out.2.2.2.1.low (N:=V.heap.size) ⟨by omega,by omega⟩ (q5 _ lR) ao) HX.out.2.1 ((HO.out.2.2.1.mono (by omega)).trans (q5 _ (by omega))) (by rw[a];exact q2) (show g<X.heap.size by omega) aj.1 (by rw[a];omega) (HG.out.1.kid x (Bh HX.out.1)) ⟨by omega,by omega⟩ (by rw[a];exact q1)⟩)
    go_wp2_with (with_reducible refine at14 ?_)
    clear z C H5 bD HU
   rotate_left
   case' _=>
    rw[<-R];have aP:OwnI (w3.setCell (aH V 4) (vS (some (aD g2 0)) kn c2)) X.heap.size (vS (some (aD g2 0)) kn c2) kl:=OwnE.stay zAj HO.out.1 fun g' hg' _=>Bu _ _ _ _ (by
     have h:g'=g2:=by simpa [Value.ownBlock] using hg'.symm
     rw[h];exact ad)
    have aE:OwnI W5 X.heap.size (vS (some (aD g2 0)) kn c2) (kl.set 0 to0):=by
     obtain⟨g4,c4,yc,ap,-,-,W,-,-,Z⟩:=OwnE.setc zAj aP HY.out (by decide);injection ap with hA4 _ _;injection hA4 with hA4;injection hA4 with hA4 _ _;subst hA4;have h:=Z 0 (vI i6 to0) to0 (by decide) (by rw[W.1];exact⟨rfl,HW.out.1⟩);rw[R];exact h
    have J:W5.heap.size=w3.heap.size:=by rw[R];simp
    have L:∀ H,H<=V.heap.size->Below H w3 W5:=fun H hH=>by
     have h2:H<=g2:=by have:=aF.out.2.1;have:=HK.out.2.2.1;omega
     rw[R];exact ((Bv H w3).setCell (p:=(aH V 4)) hH _).setCell (p:=(aD g2 0)) h2 _
    have F:=H5.out.1;obtain⟨U,hU⟩:∃ U,U=W5:=⟨_,rfl⟩;rw[<-hU]at F aE J L ⊢;have HU:=xI (aN F (aN aE (aN J L)));clear F aP aE J L hU R bb a9 q0 qz x0 x1 x2 x3 x4 x5 x6 x7 z0 z4 O ag af ae ad ab;have HE:Hid (∃ A1 c1 v t,E14 w U w1.heap.size P G g cap V.heap.size T ns rs As Ar A1 Af cs cr c1 cf rr v x t):=xI (by
     obtain⟨q1,q2,q4,q5⟩:=HU.out;have hl:=HC.out.lt;have aX:=HK.out.2.2.1;have a:(kl.set 0 to0).length=kn:=by rw[Cn];exact o
     have ao:w3.heap.size<=U.heap.size:=by omega
     obtain⟨_,_,_,aj,_⟩:=id HX.out.2.1;exact⟨(some (aD g2 0)),c2,x.kind,kl.set 0 to0,E14.of (HO.out.2.2.2.1.low (N:=V.heap.size) ⟨by omega,by omega⟩ (q5 _ lR) ao) HX.out.2.1 ((HO.out.2.2.1.mono (by omega)).trans (q5 _ (by omega))) (by rw[a];exact q2) (show g<X.heap.size by omega) aj.1 (by rw[a];omega) (HG.out.1.kid x (Bh HX.out.1)) ⟨by omega,by omega⟩ (by rw[a];exact q1)⟩)
    clear H5 HU
  all_goals (
   clear HO;obtain⟨A1,c1,v,t,hE⟩:=HE.out;obtain⟨p0,p1⟩:=zAf hE.c4.kP;obtain⟨b0,b1,b2,b3,b4,b5,b6,b7⟩:=zAd hE.kB;obtain⟨-,-,-,d,zg,-,-⟩:=hE.c4.own.at8N HX.out.2.2.1;have e0:U.cell? (aD g (k*8))=some (vI i6 x.kind):=d 0 (by decide);have e1:U.cell? (aD g (k*8+1))=some (vI i6 x.lo):=d 1 (by decide);have e2:U.cell? (aD g (k*8+2))=some (vI i6 x.hi):=d 2 (by decide);have e3:U.cell? (aD g (k*8+3))=some (vT ⟨x.text.toArray⟩):=d 3 (by decide);have e4:U.cell? (aD g (k*8+4))=some (vS Ak x.kids.length ck):=d 4 (by decide);have e5:U.cell? (aD g (k*8+5))=some (vS Af x.fds.length cf):=d 5 (by decide);have e6:U.cell? (aD g (k*8+6))=some (vI i6 x.r0):=d 6 (by decide);have e7:U.cell? (aD g (k*8+7))=some (vI i6 x.r1):=d 7 (by decide);have y0:=zg (k*8);have y1:=zg (k*8+1);have y2:=zg (k*8+2);have y3:=zg (k*8+3);have y4:=zg (k*8+4);have y5:=zg (k*8+5);have y6:=zg (k*8+6);have y7:=zg (k*8+7);have m0:(0:Int)<=(k:Int):=by omega
   have mp:(k:Int)<(ns.length:Int):=by have:=HX.out.2.2.2;omega
   obtain⟨V9,bg⟩:∃ V9,V9=((((((((U.setCell (aD g (k*8)) (vI i6 v)).setCell (aD g (k*8+1)) (vI i6 x.lo)).setCell (aD g (k*8+2)) (vI i6 x.hi)).setCell (aD g (k*8+3)) (vT ⟨x.text.toArray⟩)).setCell (aD g (k*8+4)) (vS A1 t.length c1)).setCell (aD g (k*8+5)) (vS Af x.fds.length cf)).setCell (aD g (k*8+6)) (vI i6 x.r0)).setCell (aD g (k*8+7)) (vI i6 x.r1)):=⟨_,rfl⟩;obtain⟨s1,s2,s3,s4⟩:=hE.c4.own.put8 (j:=k) (by rw[hE.c4.nds.1];exact HX.out.2.2.2) (vI i6 v) (vI i6 x.lo) (vI i6 x.hi) (vT ⟨x.text.toArray⟩) (vS A1 t.length c1) (vS Af x.fds.length cf) (vI i6 x.r0) (vI i6 x.r1) rfl rfl rfl rfl rfl rfl rfl rfl V9 bg;have hl:=hE.c4.lt;have bJ:V9.heap.size=U.heap.size:=s2;have bT:Below g U V9:=s4 g lR;have ba:Same (fun b=>b≠g/\b<U.heap.size) U V9:=⟨by omega,fun b i hb _=>by have:=s3 b hb.1;simp only[World.cell?,this]⟩;have bh:TyP V9 V9.heap.size (ns.set k { x with kind:=v,kids:=t }) 0 [vS (some (aD g 0)) ns.length cap,vI i6 0]:=by
    have bN:NdsB V9 (fun b=>b≠g/\b<U.heap.size) (T.set k [vI i6 v,vI i6 x.lo,vI i6 x.hi,vT ⟨x.text.toArray⟩,vS A1 t.length c1,vS Af x.fds.length cf,vI i6 x.r0,vI i6 x.r1]) (ns.set k { x with kind:=v,kids:=t }):=((hE.c4.nds.sub fun b (hb:b<G)=>(⟨by omega,by omega⟩:b≠g/\b<U.heap.size)).keep ba).set k (hE.hx.keep ba);have hr:=OwnE.nodes (B':=fun b=>b<V9.heap.size) s1 bN (by rw[Cn];have:=HG.out.2.2;exact Ba (show ns.length<=7 by omega) (by decide)) (fun b hb=>by have:=hb.2;omega) (fun b _ hb=>hb);rw[Cn]at hr;exact⟨_,rfl,by decide,by rw[Cn];exact hr⟩
   obtain⟨aB,aa⟩:∃ aB,aB=ns.set k { x with kind:=v,kids:=t }:=⟨_,rfl⟩;have bu:aB.length=ns.length:=by rw[aa,Cn]
   have bx:∀ y∈aB,kidOk y:=fun y hy=>by
    rw[aa]at hy;rcases List.mem_or_eq_of_mem_set hy with h|rfl
    ·exact HG.out.1.kid y h
    ·exact hE.ko
   rw[<-aa]at bh;have ar:bW w V9:=hE.c4.bel.trans ((s4 G (by omega)).mono (by omega));have aG:Hid (∀ Y,bW V9 Y->(jT Y w1.heap.size As ns.length cs 0)/\(jT Y w.heap.size Ar rs.length cr rr)/\(jT Y P (some (aD g 0)) ns.length cap 0) /\
     TyAt Y ns 0 As cs/\TyAt Y rs rr Ar cr/\TyP Y Y.heap.size aB 0 [vS (some (aD g 0)) ns.length cap,vI i6 0]/\bW w Y):=by
    have h1:=hE.c4;have hS:V9.heap[w1.heap.size]?=_:=(s3 _ (by omega)).trans h1.kS;have hR:V9.heap[w.heap.size]?=_:=(s3 _ (by omega)).trans h1.kR;have hP:V9.heap[P]?=_:=(s3 _ (by omega)).trans h1.kP;have bL:=(h1.hs.on (s4 G (by omega))).up (H':=V9.heap.size) (by omega);have bM:=(h1.hr.on (s4 G (by omega))).up (H':=V9.heap.size) (by omega);exact xI fun Y hY=>⟨zAf ((hY.block _ (by omega)).trans hS),zAf ((hY.block _ (by omega)).trans hR),zAf ((hY.block _ (by omega)).trans hP),(bL.on hY).up hY.size,(bM.on hY).up hY.size,(bh.on hY).up hY.size,ar.trans (hY.mono ar.size)⟩
   have H9:=xI (aN bu bx);clear d zg s1 s2 s3 s4 bh hE hl bJ bT ba aa bu bx ar;refine xI ?_;go_wp2_with (with_reducible refine at86 ?_)
   rw[<-bg];refine xI ?_;clear bg p0 p1 b0 b1 b2 b3 b4 b5 b6 b7 e0 e1 e2 e3 e4 e5 e6 e7 y0 y1 y2 y3 y4 y5 y6 y7;have hq:=aG.out V9 yR;obtain⟨⟨a0,a1⟩,-,-,S,-,-,-⟩:=hq;have D:=zFn V9 S (by have:=HG.out.2.2;omega);rw[show wfC ns 0=0 from (show WfT (ns,0)from WfT.mk HG.out.1.wf (Int.le_refl 0) (by have:=HG.out.2;show (0:Int)<(ns.length:Int);omega))]at D;clear S;go_wp2_with fail;clear a0 a1;refine D.mono ?_;rintro e Y1 ⟨rfl,hb1⟩;clear D;obtain⟨-,⟨a0,a1⟩,-,-,S,-,-⟩:=aG.out Y1 hb1;have D:=zEw Y1 S (Ba (zKh (r:=rr) hsm).1 (by decide)) (zKh (r:=rr) hsm).2 (zLb hsm);have bF:=xI hb1;clear S hb1;go_wp2_with fail;clear a0 a1;refine D.mono ?_;rintro e Y2 ⟨rfl,s⟩;clear D;have bm:=xI (bF.out.trans (s.mono bF.out.size));clear s;obtain⟨⟨a0,a1⟩,-,-,S,-,-,-⟩:=aG.out Y2 bm.out;have D:=zEw Y2 S (by have:=HG.out.2.2;omega) HG.out.1.kid (zKt HG.out.2.2 HG.out.1.kid);clear S;go_wp2_with fail;clear a0 a1;refine D.mono ?_;rintro e Y3 ⟨rfl,ax⟩;clear D;have bk:=xI (bm.out.trans (ax.mono bm.out.size));clear ax;obtain⟨-,-,⟨a0,a1⟩,-,-,S,-⟩:=aG.out Y3 bk.out;have D:=zEw (ns:=aB) (A:=some (aD g 0)) (c:=cap) Y3 (by rw[H9.out.1];exact S) (by have:=HG.out.2.2;rw[H9.out.1];omega) H9.out.2 (zKt (by rw[H9.out.1];exact HG.out.2.2) H9.out.2);rw[H9.out.1]at D;clear S;go_wp2_with fail;clear a0 a1;refine D.mono ?_;rintro e Y4 ⟨rfl,hb4⟩;clear D;have bE:=xI (bk.out.trans (hb4.mono bk.out.size));clear hb4;go_wp2_with (go_at_call 10;refine (hA.out Y4).mono ?_;rintro e w5 ⟨rfl,hb5⟩;replace hb5:=xI hb5);go_ret;exact⟨by first|rfl|simp,(aG.out Y4 bE.out).2.2.2.2.2.2.trans (hb5.out.mono (aG.out Y4 bE.out).2.2.2.2.2.2.size)⟩
   )
  )
end Go.Proofs.YteedihhdcbepmaaGreat
