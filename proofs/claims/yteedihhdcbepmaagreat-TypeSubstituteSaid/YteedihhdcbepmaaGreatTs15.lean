/- The program's graft where no variable is .. -/
import Derived.Test.YteedihhdcbepmaaGreatTsZ
import Derived.Test.YteedihhdcbepmaaGreatTs14
set_option maxRecDepth 100000
set_option maxHeartbeats 12800000
set_option linter.all false
open Go.Value renaming slice→vS,int→vI,string→vT
open Go.IntKind renaming i64→i6
open Go.Proofs.Tryz
open Go.Proofs.Tryz renaming prog→tP
namespace Go.Proofs.YteedihhdcbepmaaGreat
open Go Go.RowKit
def zCq:(G1:Prop) ×' (G2:Prop) ×' (G1->G2->∀ (f:List UInt8->Option Int) (mB:Nat->Prop) (ns:List Tn) (root:Int) (A:Option Addr) (c H Z bb base:Nat) (v im:Value) (css:List (List Value)) (bs:List Tn) (w:World) (hT:TyP w H ns root [vS A ns.length c,vI i6 root]) (hn:ns.length<=1000000) (hks:∀ x∈ns,x.kids.length<=1048576/\x.fds.length<=1048576) (hHb:H<=bb/\bb<w.heap.size/\H<=base/\base<=w.heap.size) (hno:Hid (v.ownBlock≠some bb)) (hZ:Z<=w.heap.size) (hbox:w.heap[bb]?=some (.cells #[v] 101 (0,0))) (hown:OwnQ w base v css) (hnd:NdsB w (GD 0 Z bb v w) css bs) (hcl:css.length<=100000000) (hf:Hid ((∀ s p,f s=some p->0<=p/\p<(bs.length:Int))/\∀ b,mB b->b<w.heap.size/\b≠bb/\v.ownBlock≠some b)) (hm:Hid (∀ (s:List UInt8) (U:World),s.length<=maxLen->(∀ b,mB b->U.heap[b]?=w.heap[b]?)->(Instr.lookup 114 im (vT ⟨s.toArray⟩) true).run tP U=.ok (.tuple #[vI i6 ((f s).getD 0),.bool (f s).isSome]) U)),Calls tP 65 #[.pointer (some ⟨bb,0,none⟩),.agg #[vS A ns.length c,vI i6 root],im] w fun e w'=>e=.returned (vI i6 (gr f (accT (ns,root)) bs).2)/\∃ v' css',w'.heap[bb]?=some (.cells #[v'] 101 (0,0))/\OwnQ w' base v' css'/\NdsB w' (GD 0 Z bb v' w') css' (gr f (accT (ns,root)) bs).1/\VK bb bb v.ownBlock w w'/\∀ g,v'.ownBlock=some g->v.ownBlock=some g\/w.heap.size<=g):=⟨_,_,by
 intro g1 g2 f mB ns root A c H Z bb base v im css bs w hT hn hks hHb hno hZ hbox hown hnd hcl hf hm;have HG1:=xI g1;have HG2:=xI g2;clear g1 g2;obtain⟨Av0,cv0,hvf⟩:=hown.form;subst hvf;obtain⟨W0,hW0,hb0,kt0,hz0⟩:=aW w (oE A ns.length c root)
 have hcA:=zHe (H:=H) W0 (by omega) (hT.on (hb0.mono (by omega))) hn;have hsm:=zL6 (root:=root) hn hks;have hwt:=zCi (ns,root);obtain⟨q0,q1⟩:=zAf kt0;rw[hW0]at q0 q1;have HP:=xI (aN hHb (aN hbox (aN hown (aN hnd (aN hcl (aN (show ∀ s p,f s=some p->0<=p/\p<(bs.length:Int)from hf.out.1) (aN hb0 (aN kt0 hz0))))))));generalize hta:accT (ns,root)=ta at *;obtain⟨ms,r⟩:=ta;clear hta hn hks hT hbox hown hnd hcl hb0 kt0 hz0;dsimp only at hcA hsm hwt ⊢;go_enter func65,ntmps65;go_wp2_with fail;rw[<-hW0];refine hcA.mono ?_;rintro e w1 ⟨⟨A1,c1,rfl,hT1⟩,hb1⟩;clear hcA q0 q1;have k1:=(hb1.block w.heap.size (by have:=HP.out.2.2.2.2.2.2.2.2;omega)).trans HP.out.2.2.2.2.2.2.2.1;obtain⟨q0,q1⟩:=zAf k1;have f0:=Bz k1 0;have f1:=Bz k1 1;obtain⟨V1,hV1⟩:∃ V1,V1=(w1.setCell ⟨w.heap.size,0,none⟩ (vS A1 ms.length c1)).setCell ⟨w.heap.size,1,none⟩ (vI i6 r):=⟨_,rfl⟩;obtain⟨p1,p2,p3,p4⟩:=box2x k1 _ _ V1 hV1;have hbV:Below w.heap.size w V1:=(HP.out.2.2.2.2.2.2.1.trans (hb1.mono (by have:=HP.out.2.2.2.2.2.2.2.2;omega))).trans (p4 _ lR);have hV1z:w.heap.size<V1.heap.size:=by have:=hb1.size;have:=HP.out.2.2.2.2.2.2.2.2;omega
 have hTV:TyB V1 (fun b=>b<V1.heap.size/\b≠bb/\(vS Av0 css.length cv0).ownBlock≠some b/\b≠w.heap.size/\(b<H\/Z<=b)) ms r [vS A1 ms.length c1,vI i6 r]:=by
  have hz0:=HP.out.2.2.2.2.2.2.2.2;have hs1:=hb1.size;have hHb:=HP.out.1;have hne:∀ b,Bo H W0 w1 b->b≠w.heap.size:=fun b hb=>by rcases hb with h|h<;>omega
  refine (hT1.keep (w':=V1) ⟨by omega,fun b i hb _=>Bi (p3 b (hne b hb))⟩).sub fun b hb=>⟨?_,?_,?_,hne b hb,?_⟩
  ·rcases hb with h|h<;>omega
  ·rcases hb with h|h<;>omega
  ·intro e;have:=OwnE.ltB HP.out.2.2.1 e;rcases hb with h|h<;>omega
  ·rcases hb with h|h
   ·exact .inl h
   ·exact .inr (by omega)
 have HT:=xI (aN hsm.1 (aN hsm.2 (aN hwt (aN hTV (aN p1 (aN hbV hV1z))))));have HW1:=xI hV1;clear p1 p2 p3 p4 hbV hTV hT1 hsm hwt hV1z hb1 hV1;go_wp2_with fail;rw[<-HW1.out];clear HW1 q0 q1 f0 f1 hW0 k1;rename_i KK hKK;have hD0:bW V1 V1.drew:=yR.drew;have HQ:Hid (∀ wq,bW V1 wq->jT wq w.heap.size A1 ms.length c1 r):=xI fun U hU=>zAf ((hU.block _ HT.out.2.2.2.2.2.2).trans HT.out.2.2.2.2.1);have hcR:Hid (∀ U,bW V1 U->Calls tP 93 #[.agg #[vS A1 ms.length c1,vI i6 r]] U fun e w'=>∃ v,e=.returned v/\OwnI w' U.heap.size v (visR ms r.toNat)/\bW U w'):=xI fun U hU=>
  zFv (H:=U.heap.size) U lR ((HT.out.2.2.2.1.keep (Same.of_below hU fun b hb=>hb.1)).sub fun b hb=>Bj hb.1 hU.size) HT.out.2.2.1 HT.out.1
 have fin:∀ (Ao:Option Addr) (co pg pbx:Nat) (U:World),Hid (JRow U pg (List.replicate ms.length 0)/\U.heap[pbx]?=some (.cells #[vS (some (aD pg 0)) ms.length ms.length] 25 (0,0))/\OwnI U V1.heap.size (vS Ao (visR ms r.toNat).length co) (visR ms r.toNat)/\bW V1 U/\(V1.heap.size<=pg/\V1.heap.size<=pbx/\pg≠pbx)/\∀ g,(vS Ao (visR ms r.toNat).length co).ownBlock=some g->V1.heap.size<=g/\g≠pg/\g≠pbx)->KK { tmps:=#[.pointer (some (aD bb 0)),.agg #[vS A ns.length c,vI i6 root],im,undef,.pointer (some (aH w 0)),undef,vI i6 0,vS Ao (visR ms r.toNat).length co,.pointer (some (aD pbx 0)),undef,undef,undef,undef,undef,undef,undef,undef,.agg #[vS A ns.length c,vI i6 root],.agg #[vS A1 ms.length c1,vI i6 r],.agg #[vS A1 ms.length c1,vI i6 r],vS Ao (visR ms r.toNat).length co,.pointer (some (aH w 0)),vS A1 ms.length c1,vI i6 ms.length,vS (some (aD pg 0)) ms.length ms.length,undef,undef,undef,undef,undef,undef,undef,undef,undef,undef,undef,undef,undef,undef,undef,undef,undef,undef,undef,undef,undef,undef,undef,undef,undef,undef,undef,undef,undef,undef,undef,undef,undef,undef,undef,undef,undef,undef,undef,undef,undef,undef,undef,undef,undef,undef,undef,undef,undef,undef,undef,undef,undef,undef,undef,undef,undef,undef,undef,undef,undef,undef,undef,undef,undef,undef,undef,undef,undef,undef,undef,undef,undef,undef,undef,undef,undef,undef,undef,undef,undef],defers:=[] } U:=by
  intro Ao co pg pbx U HU;refine hKK _ _ ?_;clear hKK hD0 hcR KK;have hor:∃ ord,ord=visR ms r.toNat:=⟨_,rfl⟩;obtain⟨ord,hord⟩:=hor;rw[<-hord]at HU;have HOR:Hid ((ord=visR ms r.toNat)/\ord.Nodup/\(∀ i∈ord,0<=i/\i.toNat<ms.length)/\ord.length<=ms.length):=xI (by
   have hv:=zBz (t:=(ms,r)) HT.out.2.2.1;have hrt:=HT.out.2.2.1.rt;have h1:∀ i∈ord,0<=i/\i.toNat<ms.length:=fun i hi=>by
    rw[hord]at hi;have h:=(hv i).1 hi;exact⟨h.1,h.2.lt HT.out.2.2.1.wf.edg (by simp only at hrt ⊢;omega)⟩
   have h2:ord.Nodup:=by rw[hord];exact zEu (t:=(ms,r)) HT.out.2.2.1
   exact⟨hord,h2,h1,zHt _ _ h2 fun k hk=>⟨(h1 k hk).1,by have:=h1 k hk;omega⟩⟩)
  rw[<-hord];clear hord;generalize hn0:css.length=n0 at *;have HN0:=xI hn0;clear hn0;have hown0:∀ g,(vS Av0 n0 cv0).ownBlock=some g->base<=g/\g<w.heap.size:=fun g hg=>OwnE.ltB HP.out.2.2.1 hg;have hbU:bW w U:=HT.out.2.2.2.2.2.1.trans (HU.out.2.2.2.1.mono (by have:=HT.out.2.2.2.2.2.2;omega));have hUbb:U.heap[bb]?=some (.cells #[vS Av0 n0 cv0] 101 (0,0)):=(hbU.block bb (by omega)).trans HP.out.2.1;have hUown:OwnQ U base (vS Av0 n0 cv0) css:=OwnE.stay zBs HP.out.2.2.1 fun g hg hl=>hbU.block g hl;have hUnd:NdsB U (fun b=>b<V1.heap.size/\b≠bb/\(vS Av0 n0 cv0).ownBlock≠some b/\(b<H\/Z<=b)) css bs:=(HP.out.2.2.2.1.keep (Same.of_below hbU fun b hb=>hb.1)).sub fun b hb=>⟨by have:=hb.1;have:=HT.out.2.2.2.2.2.2;omega,hb.2.1,hb.2.2.1,by
   rcases hb.2.2.2 with h|h
   ·omega
   ·exact .inr h⟩
  have hUpre:NdsB U (fun b=>b<V1.heap.size/\b≠bb/\(vS Av0 n0 cv0).ownBlock≠some b/\(b<0\/Z<=b)) (css.take bs.length) bs:=by
   rw[B8 (by have:=HP.out.2.2.2.1.1;omega)];exact (HP.out.2.2.2.1.keep (Same.of_below hbU fun b hb=>hb.1)).sub fun b hb=>⟨by have:=hb.1;have:=HT.out.2.2.2.2.2.2;omega,hb.2.1,hb.2.2.1,hb.2.2.2⟩
  -- what stays in the first loop
  have HS:Hid (∀ wr,VK bb pg (vS Av0 n0 cv0).ownBlock U wr->VK bb bb (vS Av0 n0 cv0).ownBlock w wr/\wr.cell? (aH w 0)=some (vS A1 ms.length c1)/\wr.cell? (aH w 1)=some (vI i6 r)/\wr.cell? (aD pbx 0)=some (vS (some (aD pg 0)) ms.length ms.length)/\OwnI wr V1.heap.size (vS Ao ord.length co) ord/\RowB wr (fun b=>b<V1.heap.size/\b≠bb/\(vS Av0 n0 cv0).ownBlock≠some b/\b≠w.heap.size/\(b<H\/Z<=b)) 8 (vS A1 ms.length c1) ms.length (tnR wr (fun b=>b<V1.heap.size/\b≠bb/\(vS Av0 n0 cv0).ownBlock≠some b/\b≠w.heap.size/\(b<H\/Z<=b)) ms)/\Same (fun b=>b<V1.heap.size/\b≠bb/\(vS Av0 n0 cv0).ownBlock≠some b/\(b<H\/Z<=b)) U wr):=xI fun wr hk=>by
   obtain⟨u1,u2,u3,u4,u5,u6⟩:=HU.out;have hV:=HT.out.2.2.2.2.2.2;have hUs:=u4.size;have hwV:∀ b,b<V1.heap.size->b≠bb->(vS Av0 n0 cv0).ownBlock≠some b->wr.heap[b]?=V1.heap[b]?:=fun b hb h1 h2=>(hk.blk b (by omega) h1 (by omega) h2).trans (u4.block b hb);have htb:wr.heap[w.heap.size]?=some (oE A1 ms.length c1 r):=(hwV _ (by omega) (by omega) (fun e=>by have:=hown0 _ e;omega)).trans HT.out.2.2.2.2.1;have hpl:pbx<U.heap.size:=(Cv.1 u2).1;have hpb:wr.heap[pbx]?=some (.cells #[vS (some (aD pg 0)) ms.length ms.length] 25 (0,0)):=(hk.blk pbx hpl (by omega) (fun e=>u5.2.2 e.symm) (fun e=>by have:=hown0 _ e;omega)).trans u2;obtain⟨uu,huu,_,hrow⟩:=HT.out.2.2.2.1;injection huu with huu _;subst huu;have hsm:Same (fun b=>b<V1.heap.size/\b≠bb/\(vS Av0 n0 cv0).ownBlock≠some b/\b≠w.heap.size/\(b<H\/Z<=b)) V1 wr:=⟨by have:=hk.low.size;omega,fun b i hb _=>Bi (hwV b hb.1 hb.2.1 hb.2.2.1)⟩;refine⟨⟨(hbU.mono (Bt _)).trans hk.low,fun b hb h1 _ h3=>(hk.blk b (by have:=hbU.size;omega) h1 (by omega) h3).trans (hbU.block b hb)⟩,(zAf htb).1,(zAf htb).2,cH hpb 0,OwnE.stay zAp u3 fun g hg hl=>hk.blk g hl ?_ ?_ ?_,hrow.keep hsm fun _ _ ⟨y,hy,h⟩=>⟨y,hy,h.keep hsm⟩,⟨hk.low.size,fun b i hb hl=>Bi (hk.blk b hl hb.2.1 (by omega) hb.2.2.1)⟩⟩
   ·have:=u6 g hg;omega
   ·exact (u6 g hg).2.1
   ·intro e;have:=u6 g hg;have:=hown0 g e;omega
  have e3:U.cell? (aD bb 0)=some (vS Av0 n0 cv0):=cH hUbb 0;have HUU:=xI (aN hUbb (aN hUown (aN hUnd (aN hUpre hbU))));have HO0:=xI hown0;clear hUbb hUown hUnd hUpre hbU hown0 hHb;have HNUM:Hid (bb<w.heap.size/\w.heap.size<V1.heap.size/\V1.heap.size<=pg/\V1.heap.size<=pbx/\pg≠pbx/\H<=base/\base<=w.heap.size/\V1.heap.size<=U.heap.size/\pg<U.heap.size/\pbx<U.heap.size/\H<=bb):=xI (by
   have h1:=HP.out.1;have h2:=HT.out.2.2.2.2.2.2;have h3:=HU.out.2.2.2.2.1;have h4:=HU.out.2.2.2.1.size;have h5:=HU.out.1.lt;have h6:pbx<U.heap.size:=(Cv.1 HU.out.2.1).1;exact⟨h1.2.1,h2,h3.1,h3.2.1,h3.2.2,h1.2.2.1,h1.2.2.2,h4,h5,h6,h1.1⟩)
  have LN:Hid (LNum bb pg base (vS Av0 n0 cv0).ownBlock (fun b=>b<V1.heap.size/\b≠bb/\(vS Av0 n0 cv0).ownBlock≠some b/\(b<H\/Z<=b)) (fun b=>b<V1.heap.size/\b≠bb/\(vS Av0 n0 cv0).ownBlock≠some b/\(b<0\/Z<=b)) U):=xI (by
   have n1:=HNUM.out;refine⟨by omega,by omega,by omega,hno.out,fun e=>?_,fun b hb=>⟨?_,hb.2.1,?_,hb.2.2.1⟩,fun b hb=>⟨hb.1,hb.2.1,hb.2.2.1,by rcases hb.2.2.2 with h|h;exact absurd h (by omega);exact .inr h⟩⟩
   ·have:=HO0.out _ e;omega
   ·have:=hb.1;omega
   ·have:=hb.1;omega)
  go_wp2_with fail;clear e3
  go_loopw [32] (fun i wr=>∃ (j:Nat) (vj:Value) (cj:List (List Value)),i=vI i6 j/\j<=ord.length/\L1S bb pg base (vS Av0 n0 cv0).ownBlock (fun b=>b<V1.heap.size/\b≠bb/\(vS Av0 n0 cv0).ownBlock≠some b/\(b<H\/Z<=b)) (fun b=>b<V1.heap.size/\b≠bb/\(vS Av0 n0 cv0).ownBlock≠some b/\(b<0\/Z<=b)) bs U wr vj cj (bs++(keptL ms f (ord.take j)).map (nd ms)) (plF ms f (ord.take j) bs.length (List.replicate ms.length 0))) (fun i _=>((ord.length:Int)-intOf i).toNat)
  case atStart=>
   refine⟨0,vS Av0 n0 cv0,css,rfl,Bt _,HUU.out.1,HUU.out.2.1,?_,HUU.out.2.2.2.1,HU.out.1,VK.of_below yR,fun g h=>.inl h⟩;rw[List.take_zero];show NdsB U _ css (bs++[]);rw[Do];exact HUU.out.2.2.1
  case round=>
   obtain⟨j,vj,cj,rfl,hj,hrel⟩:=hrel;obtain⟨Avj,cvj,rfl⟩:=hrel.own.form;have HR1:=xI hrel;clear hrel;by_cases hlt:j<ord.length
   ·rename_i Q0 K0 hK0;revert f mB ns root A c H Z bb base im css bs w Av0 cv0 W0 ms r Q0 w1 A1 c1 V1 Ao co pg pbx U ord n0 K0 wr u11 u12 u13 u14 u33 u34 u35 u36 u37 u38 u39 u40 u41 u42 u43 u44 u45 u46 u47 u48 u49 u50 u51 u52 u53 u54 u55 u56 u57 u58 u59 u60 u61 u62 u63 u64 u65 u66 u67 u68 u69 u70 u71 u72 u73 u74 u75 u76 j cj Avj cvj;exact HG1.out
   ·rename_i Q0 K0 hK0;revert f mB ns root A c H Z bb base im css bs w Av0 cv0 W0 ms r Q0 w1 A1 c1 V1 Ao co pg pbx U ord n0 K0 wr u11 u12 u13 u14 u33 u34 u35 u36 u37 u38 u39 u40 u41 u42 u43 u44 u45 u46 u47 u48 u49 u50 u51 u52 u53 u54 u55 u56 u57 u58 u59 u60 u61 u62 u63 u64 u65 u66 u67 u68 u69 u70 u71 u72 u73 u74 u75 u76 j cj Avj cvj;exact HG2.out
 refine ub 8 (fun wq=>jT wq w.heap.size A1 ms.length c1 r) (fun _=>True) ?_;refine oM 0 ⟨HQ.out _ hD0,trivial⟩ ?_ (hy:=oB);refine oM 2 ⟨HQ.out _ hD0,trivial⟩ ?_ (hy:=oB);refine oM 3 ⟨HQ.out _ hD0,trivial⟩ ?_ (hy:=oB);refine oM 4 ⟨HQ.out _ hD0,trivial⟩ ?_ (hy:=oB);refine ua [1,5,6] fun j hj=>?_;have hj2:j=1\/j=5\/j=6:=by simpa using hj
 clear hj;rcases hj2 with rfl|rfl|rfl
 ·refine zAi rfl (by rfl) (fun K9 hK=>?_);go_simp;refine (hcR.out _ hD0).mono ?_;rintro e y01 ⟨lv,rfl,hlo,hby01⟩;obtain⟨Ao,co,rfl⟩:=hlo.form;have hlb:∀ g,(vS Ao (visR ms r.toNat).length co).ownBlock=some g->V1.heap.size<=g/\g<y01.heap.size:=fun g hg=>OwnE.ltB hlo hg;have hy01:bW V1 y01:=hD0.trans (hby01.mono hD0.size);have hsy01:V1.heap.size<=y01.heap.size:=hby01.size;replace hlo:=OwnE.mono hlo (show V1.heap.size<=V1.heap.size from hD0.size);refine hK _ _ ⟨⟨HQ.out _ hy01,fun _=>trivial⟩,oQ ?_⟩;clear hK K9;refine ua [5,6] fun j hj=>?_;have hj2:j=5\/j=6:=by simpa using hj
  clear hj;rcases hj2 with rfl|rfl
  ·obtain⟨y115,hmk,hjr,hby115,hz5⟩:=zDm y01 ms.length HT.out.1;obtain⟨pg,hpg⟩:∃ pg,pg=y01.heap.size:=⟨_,rfl⟩;rw[<-hpg]at hmk hjr;have hy115:bW V1 y115:=hy01.trans (hby115.mono hy01.size);have hsy115:y01.heap.size<=pg/\pg<y115.heap.size:=by rw[hpg];exact⟨Bc _,by rw[<-hpg];exact hjr.lt⟩
   clear hpg hz5;refine zAi rfl (by rfl) (fun K9 hK=>?_);go_simp;replace hlo:=OwnE.stay zAp hlo fun g hg hl=>hby115.block g hl;have hqy115:=hby115.size;refine hK _ _ ⟨⟨HQ.out _ hy115,fun _=>trivial⟩,oQ ?_⟩;clear hK K9;clear hmk;obtain⟨y2156,hwN⟩:∃ q,q=y115.alloc (.cells #[vS none 0 0] 25 (0,0)):=⟨_,rfl⟩;obtain⟨pbx,hpx⟩:∃ q,q=y115.heap.size:=⟨_,rfl⟩;have hby2156:bW y115 y2156:=by rw[hwN];exact yR.alloc lR _
   have hy2156:bW V1 y2156:=hy115.trans (hby2156.mono hy115.size);have hpb:y2156.heap[pbx]?=some (.cells #[vS none 0 0] 25 (0,0)):=by rw[hwN,hpx];exact Bl y115 _
   have hsy2156:y115.heap.size<=pbx/\pbx<y2156.heap.size:=by rw[hpx,hwN];exact⟨Bc _,by simp⟩
   refine uo 6 (fun K9 hK=>?_);go_simp;rw[<-hwN,<-hpx];clear hwN hpx;have hjr2:=hjr.on (hby2156.block pg (by omega));replace hjr:=hjr2;clear hjr2;replace hlo:=OwnE.stay zAp hlo fun g hg hl=>hby2156.block g hl;have hqy2156:=hby2156.size;refine hK _ _ ⟨HQ.out _ hy2156,fun _=>trivial⟩ (oQ ?_);clear hK K9;refine oM 7 ⟨HQ.out _ hy2156,trivial⟩ ?_ (hy:=oB);have f8:=Bz hpb 0;have z8:=cH hpb 0;have hcs8:=hy2156.size;obtain⟨U,hU⟩:∃ U,U=y2156.setCell (aD pbx 0) (vS (some (aD pg 0)) ms.length ms.length):=⟨_,rfl⟩;have ho8:∀ b,b≠pbx->U.heap[b]?=y2156.heap[b]?:=fun b hb=>by rw[hU];exact Bq _ (aD pbx 0) b _ hb
   have hz8:U.heap.size=y2156.heap.size:=by rw[hU];simp
   have hpb8:U.heap[pbx]?=some (.cells #[vS (some (aD pg 0)) ms.length ms.length] 25 (0,0)):=by rw[hU];exact (Bm y2156 pbx 0 _ _ _ hpb).trans rfl
   have hj8:JRow U pg (List.replicate ms.length 0):=hjr.on (ho8 pg (by omega));have hl8:OwnI U V1.heap.size (vS Ao (visR ms r.toNat).length co) (visR ms r.toNat):=OwnE.stay zAp hlo fun g hg _=>ho8 g (by have:=hlb g hg;omega);have h8:bW V1 U:=by rw[hU];exact hy2156.setCell (p:=(aD pbx 0)) (by show V1.heap.size<=pbx;omega) _
   refine uo 8 (fun K9 hK=>?_);go_simp;rw[<-hU];refine hK _ _ ⟨HQ.out _ h8,ug⟩ (oQ ?_);clear hK K9;refine (ud ?_) _;exact fin Ao co pg pbx U (xI ⟨hj8,hpb8,hl8,h8,⟨by omega,by omega,by omega⟩,fun g hg=>by have:=hlb g hg;omega⟩)
  ·obtain⟨y116,hwN⟩:∃ q,q=y01.alloc (.cells #[vS none 0 0] 25 (0,0)):=⟨_,rfl⟩;obtain⟨pbx,hpx⟩:∃ q,q=y01.heap.size:=⟨_,rfl⟩;have hby116:bW y01 y116:=by rw[hwN];exact yR.alloc lR _
   have hy116:bW V1 y116:=hy01.trans (hby116.mono hy01.size);have hpb:y116.heap[pbx]?=some (.cells #[vS none 0 0] 25 (0,0)):=by rw[hwN,hpx];exact Bl y01 _
   have hsy116:y01.heap.size<=pbx/\pbx<y116.heap.size:=by rw[hpx,hwN];exact⟨Bc _,by simp⟩
   refine zAi rfl (by rfl) (fun K9 hK=>?_);go_simp;rw[<-hwN,<-hpx];clear hwN hpx;replace hlo:=OwnE.stay zAp hlo fun g hg hl=>hby116.block g hl;have hqy116:=hby116.size;refine hK _ _ ⟨⟨HQ.out _ hy116,fun _=>trivial⟩,oQ ?_⟩;clear hK K9;refine oM 7 ⟨HQ.out _ hy116,trivial⟩ ?_ (hy:=oB);obtain⟨y2165,hmk,hjr,hby2165,hz5⟩:=zDm y116 ms.length HT.out.1;obtain⟨pg,hpg⟩:∃ pg,pg=y116.heap.size:=⟨_,rfl⟩;rw[<-hpg]at hmk hjr;have hy2165:bW V1 y2165:=hy116.trans (hby2165.mono hy116.size);have hsy2165:y116.heap.size<=pg/\pg<y2165.heap.size:=by rw[hpg];exact⟨Bc _,by rw[<-hpg];exact hjr.lt⟩
   clear hpg hz5;refine uo 5 (fun K9 hK=>?_);go_simp;have hpb2:=(hby2165.block pbx (by omega)).trans hpb;replace hpb:=hpb2;clear hpb2;replace hlo:=OwnE.stay zAp hlo fun g hg hl=>hby2165.block g hl;have hqy2165:=hby2165.size;refine hK _ _ ⟨HQ.out _ hy2165,fun _=>trivial⟩ (oQ ?_);clear hK K9;clear hmk;have f8:=Bz hpb 0;have z8:=cH hpb 0;have hcs8:=hy2165.size;obtain⟨U,hU⟩:∃ U,U=y2165.setCell (aD pbx 0) (vS (some (aD pg 0)) ms.length ms.length):=⟨_,rfl⟩;have ho8:∀ b,b≠pbx->U.heap[b]?=y2165.heap[b]?:=fun b hb=>by rw[hU];exact Bq _ (aD pbx 0) b _ hb
   have hz8:U.heap.size=y2165.heap.size:=by rw[hU];simp
   have hpb8:U.heap[pbx]?=some (.cells #[vS (some (aD pg 0)) ms.length ms.length] 25 (0,0)):=by rw[hU];exact (Bm y2165 pbx 0 _ _ _ hpb).trans rfl
   have hj8:JRow U pg (List.replicate ms.length 0):=hjr.on (ho8 pg (by omega));have hl8:OwnI U V1.heap.size (vS Ao (visR ms r.toNat).length co) (visR ms r.toNat):=OwnE.stay zAp hlo fun g hg _=>ho8 g (by have:=hlb g hg;omega);have h8:bW V1 U:=by rw[hU];exact hy2165.setCell (p:=(aD pbx 0)) (by show V1.heap.size<=pbx;omega) _
   refine uo 8 (fun K9 hK=>?_);go_simp;rw[<-hU];refine hK _ _ ⟨HQ.out _ h8,ug⟩ (oQ ?_);clear hK K9;refine (ud ?_) _;exact fin Ao co pg pbx U (xI ⟨hj8,hpb8,hl8,h8,⟨by omega,by omega,by omega⟩,fun g hg=>by have:=hlb g hg;omega⟩)
 ·obtain⟨y05,hmk,hjr,hby05,hz5⟩:=zDm V1.drew ms.length HT.out.1;obtain⟨pg,hpg⟩:∃ pg,pg=V1.drew.heap.size:=⟨_,rfl⟩;rw[<-hpg]at hmk hjr;have hy05:bW V1 y05:=hD0.trans (hby05.mono hD0.size);have hsy05:V1.heap.size<=pg/\pg<y05.heap.size:=by rw[hpg];exact⟨Bc _,by rw[<-hpg];exact hjr.lt⟩
  clear hpg hz5;refine zAi rfl (by rfl) (fun K9 hK=>?_);go_simp;have hqy05:=hby05.size;refine hK _ _ ⟨⟨HQ.out _ hy05,fun _=>trivial⟩,oQ ?_⟩;clear hK K9;clear hmk;refine ua [1,6] fun j hj=>?_;have hj2:j=1\/j=6:=by simpa using hj
  clear hj;rcases hj2 with rfl|rfl
  ·refine zAi rfl (by rfl) (fun K9 hK=>?_);go_simp;refine (hcR.out _ hy05).mono ?_;rintro e y151 ⟨lv,rfl,hlo,hby151⟩;obtain⟨Ao,co,rfl⟩:=hlo.form;have hlb:∀ g,(vS Ao (visR ms r.toNat).length co).ownBlock=some g->y05.heap.size<=g/\g<y151.heap.size:=fun g hg=>OwnE.ltB hlo hg;have hy151:bW V1 y151:=hy05.trans (hby151.mono hy05.size);have hsy151:y05.heap.size<=y151.heap.size:=hby151.size;replace hlo:=OwnE.mono hlo (show V1.heap.size<=y05.heap.size from hy05.size);have hjr2:=hjr.on (hby151.block pg (by omega));replace hjr:=hjr2;clear hjr2;refine hK _ _ ⟨⟨HQ.out _ hy151,fun _=>trivial⟩,oQ ?_⟩;clear hK K9;obtain⟨y2516,hwN⟩:∃ q,q=y151.alloc (.cells #[vS none 0 0] 25 (0,0)):=⟨_,rfl⟩;obtain⟨pbx,hpx⟩:∃ q,q=y151.heap.size:=⟨_,rfl⟩;have hby2516:bW y151 y2516:=by rw[hwN];exact yR.alloc lR _
   have hy2516:bW V1 y2516:=hy151.trans (hby2516.mono hy151.size);have hpb:y2516.heap[pbx]?=some (.cells #[vS none 0 0] 25 (0,0)):=by rw[hwN,hpx];exact Bl y151 _
   have hsy2516:y151.heap.size<=pbx/\pbx<y2516.heap.size:=by rw[hpx,hwN];exact⟨Bc _,by simp⟩
   refine uo 6 (fun K9 hK=>?_);go_simp;rw[<-hwN,<-hpx];clear hwN hpx;have hjr2:=hjr.on (hby2516.block pg (by omega));replace hjr:=hjr2;clear hjr2;replace hlo:=OwnE.stay zAp hlo fun g hg hl=>hby2516.block g hl;have hqy2516:=hby2516.size;refine hK _ _ ⟨HQ.out _ hy2516,fun _=>trivial⟩ (oQ ?_);clear hK K9;refine oM 7 ⟨HQ.out _ hy2516,trivial⟩ ?_ (hy:=oB);have f8:=Bz hpb 0;have z8:=cH hpb 0;have hcs8:=hy2516.size;obtain⟨U,hU⟩:∃ U,U=y2516.setCell (aD pbx 0) (vS (some (aD pg 0)) ms.length ms.length):=⟨_,rfl⟩;have ho8:∀ b,b≠pbx->U.heap[b]?=y2516.heap[b]?:=fun b hb=>by rw[hU];exact Bq _ (aD pbx 0) b _ hb
   have hz8:U.heap.size=y2516.heap.size:=by rw[hU];simp
   have hpb8:U.heap[pbx]?=some (.cells #[vS (some (aD pg 0)) ms.length ms.length] 25 (0,0)):=by rw[hU];exact (Bm y2516 pbx 0 _ _ _ hpb).trans rfl
   have hj8:JRow U pg (List.replicate ms.length 0):=hjr.on (ho8 pg (by omega));have hl8:OwnI U V1.heap.size (vS Ao (visR ms r.toNat).length co) (visR ms r.toNat):=OwnE.stay zAp hlo fun g hg _=>ho8 g (by have:=hlb g hg;omega);have h8:bW V1 U:=by rw[hU];exact hy2516.setCell (p:=(aD pbx 0)) (by show V1.heap.size<=pbx;omega) _
   refine uo 8 (fun K9 hK=>?_);go_simp;rw[<-hU];refine hK _ _ ⟨HQ.out _ h8,ug⟩ (oQ ?_);clear hK K9;refine (ud ?_) _;exact fin Ao co pg pbx U (xI ⟨hj8,hpb8,hl8,h8,⟨by omega,by omega,by omega⟩,fun g hg=>by have:=hlb g hg;omega⟩)
  ·obtain⟨y156,hwN⟩:∃ q,q=y05.alloc (.cells #[vS none 0 0] 25 (0,0)):=⟨_,rfl⟩;obtain⟨pbx,hpx⟩:∃ q,q=y05.heap.size:=⟨_,rfl⟩;have hby156:bW y05 y156:=by rw[hwN];exact yR.alloc lR _
   have hy156:bW V1 y156:=hy05.trans (hby156.mono hy05.size);have hpb:y156.heap[pbx]?=some (.cells #[vS none 0 0] 25 (0,0)):=by rw[hwN,hpx];exact Bl y05 _
   have hsy156:y05.heap.size<=pbx/\pbx<y156.heap.size:=by rw[hpx,hwN];exact⟨Bc _,by simp⟩
   refine zAi rfl (by rfl) (fun K9 hK=>?_);go_simp;rw[<-hwN,<-hpx];clear hwN hpx;have hjr2:=hjr.on (hby156.block pg (by omega));replace hjr:=hjr2;clear hjr2;have hqy156:=hby156.size;refine hK _ _ ⟨⟨HQ.out _ hy156,fun _=>trivial⟩,oQ ?_⟩;clear hK K9;refine uo 1 (fun K9 hK=>?_);go_simp;refine (hcR.out _ hy156).mono ?_;rintro e y2561 ⟨lv,rfl,hlo,hby2561⟩;obtain⟨Ao,co,rfl⟩:=hlo.form;have hlb:∀ g,(vS Ao (visR ms r.toNat).length co).ownBlock=some g->y156.heap.size<=g/\g<y2561.heap.size:=fun g hg=>OwnE.ltB hlo hg;have hy2561:bW V1 y2561:=hy156.trans (hby2561.mono hy156.size);have hsy2561:y156.heap.size<=y2561.heap.size:=hby2561.size;replace hlo:=OwnE.mono hlo (show V1.heap.size<=y156.heap.size from hy156.size);have hjr2:=hjr.on (hby2561.block pg (by omega));replace hjr:=hjr2;clear hjr2;have hpb2:=(hby2561.block pbx (by omega)).trans hpb;replace hpb:=hpb2;clear hpb2;refine hK _ _ ⟨HQ.out _ hy2561,fun _=>trivial⟩ (oQ ?_);clear hK K9;refine oM 7 ⟨HQ.out _ hy2561,trivial⟩ ?_ (hy:=oB);have f8:=Bz hpb 0;have z8:=cH hpb 0;have hcs8:=hy2561.size;obtain⟨U,hU⟩:∃ U,U=y2561.setCell (aD pbx 0) (vS (some (aD pg 0)) ms.length ms.length):=⟨_,rfl⟩;have ho8:∀ b,b≠pbx->U.heap[b]?=y2561.heap[b]?:=fun b hb=>by rw[hU];exact Bq _ (aD pbx 0) b _ hb
   have hz8:U.heap.size=y2561.heap.size:=by rw[hU];simp
   have hpb8:U.heap[pbx]?=some (.cells #[vS (some (aD pg 0)) ms.length ms.length] 25 (0,0)):=by rw[hU];exact (Bm y2561 pbx 0 _ _ _ hpb).trans rfl
   have hj8:JRow U pg (List.replicate ms.length 0):=hjr.on (ho8 pg (by omega));have hl8:OwnI U V1.heap.size (vS Ao (visR ms r.toNat).length co) (visR ms r.toNat):=OwnE.stay zAp hlo fun g hg _=>ho8 g (by have:=hlb g hg;omega);have h8:bW V1 U:=by rw[hU];exact hy2561.setCell (p:=(aD pbx 0)) (by show V1.heap.size<=pbx;omega) _
   refine uo 8 (fun K9 hK=>?_);go_simp;rw[<-hU];refine hK _ _ ⟨HQ.out _ h8,ug⟩ (oQ ?_);clear hK K9;refine (ud ?_) _;exact fin Ao co pg pbx U (xI ⟨hj8,hpb8,hl8,h8,⟨by omega,by omega,by omega⟩,fun g hg=>by have:=hlb g hg;omega⟩)
 ·obtain⟨y06,hwN⟩:∃ q,q=(V1.alloc (.cells #[vS none 0 0] 25 (0,0))).drew:=⟨_,rfl⟩;obtain⟨pbx,hpx⟩:∃ q,q=V1.heap.size:=⟨_,rfl⟩;have hby06:bW V1 y06:=by rw[hwN];exact ((Bw _ V1).alloc lR _).drew
  have hy06:bW V1 y06:=hby06;have hpb:y06.heap[pbx]?=some (.cells #[vS none 0 0] 25 (0,0)):=by rw[hwN,hpx];exact Bl V1 _
  have hsy06:V1.heap.size<=pbx/\pbx<y06.heap.size:=by rw[hpx,hwN];exact⟨Bc _,by simp⟩
  refine zAi rfl (by rfl) (fun K9 hK=>?_);go_simp;rw[<-hwN,<-hpx];clear hwN hpx;have hqy06:=hby06.size;refine hK _ _ ⟨⟨HQ.out _ hy06,fun _=>trivial⟩,oQ ?_⟩;clear hK K9;refine ua [1,5] fun j hj=>?_;have hj2:j=1\/j=5:=by simpa using hj
  clear hj;rcases hj2 with rfl|rfl
  ·refine zAi rfl (by rfl) (fun K9 hK=>?_);go_simp;refine (hcR.out _ hy06).mono ?_;rintro e y161 ⟨lv,rfl,hlo,hby161⟩;obtain⟨Ao,co,rfl⟩:=hlo.form;have hlb:∀ g,(vS Ao (visR ms r.toNat).length co).ownBlock=some g->y06.heap.size<=g/\g<y161.heap.size:=fun g hg=>OwnE.ltB hlo hg;have hy161:bW V1 y161:=hy06.trans (hby161.mono hy06.size);have hsy161:y06.heap.size<=y161.heap.size:=hby161.size;replace hlo:=OwnE.mono hlo (show V1.heap.size<=y06.heap.size from hy06.size);have hpb2:=(hby161.block pbx (by omega)).trans hpb;replace hpb:=hpb2;clear hpb2;refine hK _ _ ⟨⟨HQ.out _ hy161,fun _=>trivial⟩,oQ ?_⟩;clear hK K9;refine oM 7 ⟨HQ.out _ hy161,trivial⟩ ?_ (hy:=oB);obtain⟨y2615,hmk,hjr,hby2615,hz5⟩:=zDm y161 ms.length HT.out.1;obtain⟨pg,hpg⟩:∃ pg,pg=y161.heap.size:=⟨_,rfl⟩;rw[<-hpg]at hmk hjr;have hy2615:bW V1 y2615:=hy161.trans (hby2615.mono hy161.size);have hsy2615:y161.heap.size<=pg/\pg<y2615.heap.size:=by rw[hpg];exact⟨Bc _,by rw[<-hpg];exact hjr.lt⟩
   clear hpg hz5;refine uo 5 (fun K9 hK=>?_);go_simp;have hpb2:=(hby2615.block pbx (by omega)).trans hpb;replace hpb:=hpb2;clear hpb2;replace hlo:=OwnE.stay zAp hlo fun g hg hl=>hby2615.block g hl;have hqy2615:=hby2615.size;refine hK _ _ ⟨HQ.out _ hy2615,fun _=>trivial⟩ (oQ ?_);clear hK K9;clear hmk;have f8:=Bz hpb 0;have z8:=cH hpb 0;have hcs8:=hy2615.size;obtain⟨U,hU⟩:∃ U,U=y2615.setCell (aD pbx 0) (vS (some (aD pg 0)) ms.length ms.length):=⟨_,rfl⟩;have ho8:∀ b,b≠pbx->U.heap[b]?=y2615.heap[b]?:=fun b hb=>by rw[hU];exact Bq _ (aD pbx 0) b _ hb
   have hz8:U.heap.size=y2615.heap.size:=by rw[hU];simp
   have hpb8:U.heap[pbx]?=some (.cells #[vS (some (aD pg 0)) ms.length ms.length] 25 (0,0)):=by rw[hU];exact (Bm y2615 pbx 0 _ _ _ hpb).trans rfl
   have hj8:JRow U pg (List.replicate ms.length 0):=hjr.on (ho8 pg (by omega));have hl8:OwnI U V1.heap.size (vS Ao (visR ms r.toNat).length co) (visR ms r.toNat):=OwnE.stay zAp hlo fun g hg _=>ho8 g (by have:=hlb g hg;omega);have h8:bW V1 U:=by rw[hU];exact hy2615.setCell (p:=(aD pbx 0)) (by show V1.heap.size<=pbx;omega) _
   refine uo 8 (fun K9 hK=>?_);go_simp;rw[<-hU];refine hK _ _ ⟨HQ.out _ h8,ug⟩ (oQ ?_);clear hK K9;refine (ud ?_) _;exact fin Ao co pg pbx U (xI ⟨hj8,hpb8,hl8,h8,⟨by omega,by omega,by omega⟩,fun g hg=>by have:=hlb g hg;omega⟩)
  ·obtain⟨y165,hmk,hjr,hby165,hz5⟩:=zDm y06 ms.length HT.out.1;obtain⟨pg,hpg⟩:∃ pg,pg=y06.heap.size:=⟨_,rfl⟩;rw[<-hpg]at hmk hjr;have hy165:bW V1 y165:=hy06.trans (hby165.mono hy06.size);have hsy165:y06.heap.size<=pg/\pg<y165.heap.size:=by rw[hpg];exact⟨Bc _,by rw[<-hpg];exact hjr.lt⟩
   clear hpg hz5;refine zAi rfl (by rfl) (fun K9 hK=>?_);go_simp;have hpb2:=(hby165.block pbx (by omega)).trans hpb;replace hpb:=hpb2;clear hpb2;have hqy165:=hby165.size;refine hK _ _ ⟨⟨HQ.out _ hy165,fun _=>trivial⟩,oQ ?_⟩;clear hK K9;clear hmk;refine uo 1 (fun K9 hK=>?_);go_simp;refine (hcR.out _ hy165).mono ?_;rintro e y2651 ⟨lv,rfl,hlo,hby2651⟩;obtain⟨Ao,co,rfl⟩:=hlo.form;have hlb:∀ g,(vS Ao (visR ms r.toNat).length co).ownBlock=some g->y165.heap.size<=g/\g<y2651.heap.size:=fun g hg=>OwnE.ltB hlo hg;have hy2651:bW V1 y2651:=hy165.trans (hby2651.mono hy165.size);have hsy2651:y165.heap.size<=y2651.heap.size:=hby2651.size;replace hlo:=OwnE.mono hlo (show V1.heap.size<=y165.heap.size from hy165.size);have hjr2:=hjr.on (hby2651.block pg (by omega));replace hjr:=hjr2;clear hjr2;have hpb2:=(hby2651.block pbx (by omega)).trans hpb;replace hpb:=hpb2;clear hpb2;refine hK _ _ ⟨HQ.out _ hy2651,fun _=>trivial⟩ (oQ ?_);clear hK K9;refine oM 7 ⟨HQ.out _ hy2651,trivial⟩ ?_ (hy:=oB);have f8:=Bz hpb 0;have z8:=cH hpb 0;have hcs8:=hy2651.size;obtain⟨U,hU⟩:∃ U,U=y2651.setCell (aD pbx 0) (vS (some (aD pg 0)) ms.length ms.length):=⟨_,rfl⟩;have ho8:∀ b,b≠pbx->U.heap[b]?=y2651.heap[b]?:=fun b hb=>by rw[hU];exact Bq _ (aD pbx 0) b _ hb
   have hz8:U.heap.size=y2651.heap.size:=by rw[hU];simp
   have hpb8:U.heap[pbx]?=some (.cells #[vS (some (aD pg 0)) ms.length ms.length] 25 (0,0)):=by rw[hU];exact (Bm y2651 pbx 0 _ _ _ hpb).trans rfl
   have hj8:JRow U pg (List.replicate ms.length 0):=hjr.on (ho8 pg (by omega));have hl8:OwnI U V1.heap.size (vS Ao (visR ms r.toNat).length co) (visR ms r.toNat):=OwnE.stay zAp hlo fun g hg _=>ho8 g (by have:=hlb g hg;omega);have h8:bW V1 U:=by rw[hU];exact hy2651.setCell (p:=(aD pbx 0)) (by show V1.heap.size<=pbx;omega) _
   refine uo 8 (fun K9 hK=>?_);go_simp;rw[<-hU];refine hK _ _ ⟨HQ.out _ h8,ug⟩ (oQ ?_);clear hK K9;refine (ud ?_) _;exact fin Ao co pg pbx U (xI ⟨hj8,hpb8,hl8,h8,⟨by omega,by omega,by omega⟩,fun g hg=>by have:=hlb g hg;omega⟩)⟩
end Go.Proofs.YteedihhdcbepmaaGreat
namespace Go.Proofs.YteedihhdcbepmaaGreat.Iv
abbrev Rg:=Int×Int
def LO:Int:=-9223372036854775808
def HI:Int:=9223372036854775807
def inR (r:Rg) (n:Int):Prop:=r.1<=n/\n<=r.2
def hasI (l:List Rg) (n:Int):Prop:=∃ r∈l,inR r n
def Fit1 (r:Rg):Prop:=LO<=r.1/\r.1<=HI/\LO<=r.2/\r.2<=HI
def Fit (l:List Rg):Prop:=∀ r∈l,Fit1 r
def Nf (l:List Rg):Prop:=(∀ r∈l,r.1<=r.2)/\l.Pairwise (fun a b=>a.2+1<b.1)
theorem zKq (n:Int):¬ hasI [] n:=by simp[hasI]
theorem zAz (r:Rg) (l:List Rg) (n:Int):hasI (r::l) n↔inR r n\/hasI l n:=by simp[hasI]
theorem zJw (a b:List Rg) (n:Int):hasI (a++b) n↔hasI a n\/hasI b n:=by
 simp only[hasI,B7];constructor
 ·rintro⟨r,h|h,hr⟩
  ·exact .inl ⟨r,h,hr⟩
  ·exact .inr ⟨r,h,hr⟩
 ·rintro (⟨r,h,hr⟩|⟨r,h,hr⟩)
  ·exact⟨r,.inl h,hr⟩
  ·exact⟨r,.inr h,hr⟩
theorem zSl:Nf []:=⟨by simp,.nil⟩
theorem zD4 {r:Rg}{l:List Rg}:Nf (r::l)↔r.1<=r.2/\(∀ x∈l,r.2+1<x.1)/\Nf l:=by
 simp only[Nf,Cs,Dv];constructor
 ·rintro⟨h1,h2,h3⟩;exact⟨h1 r (.inl rfl),h2,fun x hx=>h1 x (.inr hx),h3⟩
 ·rintro⟨h1,h2,h3,h4⟩;refine⟨?_,h2,h4⟩;rintro x (rfl|hx)
  ·exact h1
  ·exact h3 x hx
theorem zDj {r:Rg}{l:List Rg}(h:Nf (r::l)){n:Int}(hn:hasI l n):r.2+1<n:=by
 obtain⟨x,hx,h1,h2⟩:=hn;have:=(zD4.1 h).2.1 x hx;omega
theorem zIv:∀ (a b:List Rg),Nf a->Nf b->(∀ n,hasI a n↔hasI b n)->a=b
 | [],[],_,_,_=>rfl
 | [],r::b,_,hb,h=>by
  have h1:=(zD4.1 hb).1;exact absurd ((h r.1).2 ((zAz _ _ _).2 (.inl ⟨Int.le_refl _,h1⟩))) (zKq _)
 | r::a,[],ha,_,h=>by
  have h1:=(zD4.1 ha).1;exact absurd ((h r.1).1 ((zAz _ _ _).2 (.inl ⟨Int.le_refl _,h1⟩))) (zKq _)
 | r::a,s::b,ha,hb,h=>by
  have ra:=(zD4.1 ha).1;have sb:=(zD4.1 hb).1;have e1:r.1=s.1:=by
   have p:s.1<=r.1:=by
    rcases (zAz _ _ _).1 ((h r.1).1 ((zAz _ _ _).2 (.inl ⟨Int.le_refl _,ra⟩)))with hx|hx
    ·exact hx.1
    ·have:=zDj hb hx;omega
   have q:r.1<=s.1:=by
    rcases (zAz _ _ _).1 ((h s.1).2 ((zAz _ _ _).2 (.inl ⟨Int.le_refl _,sb⟩)))with hx|hx
    ·exact hx.1
    ·have:=zDj ha hx;omega
   omega
  have e2:r.2=s.2:=by
   by_cases hlt:r.2<s.2
   ·have:hasI (r::a) (r.2+1):=(h _).2 ((zAz _ _ _).2 (.inl ⟨by omega,by omega⟩));rcases (zAz _ _ _).1 this with hx|hx
    ·have:=hx.2;omega
    ·have:=zDj ha hx;omega
   ·by_cases hgt:s.2<r.2
    ·have:hasI (s::b) (s.2+1):=(h _).1 ((zAz _ _ _).2 (.inl ⟨by omega,by omega⟩));rcases (zAz _ _ _).1 this with hx|hx
     ·have:=hx.2;omega
     ·have:=zDj hb hx;omega
    ·omega
  have e:r=s:=Prod.ext e1 e2;subst e;congr 1;refine zIv a b (zD4.1 ha).2.2 (zD4.1 hb).2.2 fun n=>?_;constructor
  ·intro hn;have h1:=zDj ha hn;rcases (zAz _ _ _).1 ((h n).1 ((zAz _ _ _).2 (.inr hn)))with hx|hx
   ·have:=hx.2;omega
   ·exact hx
  ·intro hn;have h1:=zDj hb hn;rcases (zAz _ _ _).1 ((h n).2 ((zAz _ _ _).2 (.inr hn)))with hx|hx
   ·have:=hx.2;omega
   ·exact hx
open Classical in
noncomputable def nfOf (P:Int->Prop):List Rg:=if h:∃ m,Nf m/\∀ n,hasI m n↔P n then h.choose else []
theorem zRq {m:List Rg}{P:Int->Prop}(h1:Nf m) (h2:∀ n,hasI m n↔P n):m=nfOf P:=by
 have h:∃ m,Nf m/\∀ n,hasI m n↔P n:=⟨m,h1,h2⟩;unfold nfOf;rw[dif_pos h];exact zIv _ _ h1 h.choose_spec.1 fun n=>(h2 n).trans (h.choose_spec.2 n).symm
theorem zM8 {m:List Rg}{r:Rg}(h:Nf m) (hr:r.1<=r.2) (hg:∀ x∈m,x.2+1<r.1):Nf (m++[r]):=by
 refine⟨?_,?_⟩
 ·intro x hx;rcases B7.1 hx with hx|hx
  ·exact h.1 x hx
  ·rw[Ct.1 hx];exact hr
 ·rw[List.pairwise_append];refine⟨h.2,by simp,?_⟩;intro x hx y hy;rw[Ct.1 hy];exact hg x hx
theorem zFy {m:List Rg}{r:Rg}(h:Nf (m++[r])):Nf m/\r.1<=r.2/\∀ x∈m,x.2+1<r.1:=by
 have h2:=List.pairwise_append.1 h.2;exact⟨⟨fun x hx=>h.1 x (List.mem_append_left _ hx),h2.1⟩,h.1 r (by simp),fun x hx=>h2.2.2 x hx r (by simp)⟩
theorem zEk (m:List Rg) (r:Rg) (n:Int):hasI (m++[r]) n↔hasI m n\/inR r n:=by
 rw[zJw];simp[hasI]
theorem zPj {m:List Rg}{x r:Rg}(h:Nf (m++[x])) (h1:x.1<=r.1) (h2:r.1<=x.2+1) (h3:r.1<=r.2) :
  Nf (m++[(x.1,max x.2 r.2)])/\∀ n,hasI (m++[(x.1,max x.2 r.2)]) n↔hasI (m++[x]) n\/inR r n:=by
 obtain⟨a,b,c⟩:=zFy h;refine⟨zM8 a (by simp only;omega) c,fun n=>?_⟩;rw[zEk,zEk];simp only[inR];constructor
 ·rintro (q|q)
  ·exact .inl (.inl q)
  ·by_cases hn:n<=x.2
   ·exact .inl (.inr ⟨q.1,hn⟩)
   ·exact .inr ⟨by omega,by omega⟩
 ·rintro ((q|q)|q)
  ·exact .inl q
  ·exact .inr ⟨q.1,by omega⟩
  ·exact .inr ⟨by omega,by omega⟩
instance (l:List Rg):Decidable (Nf l):=by unfold Nf;infer_instance
end Go.Proofs.YteedihhdcbepmaaGreat.Iv
namespace Go.Proofs.YteedihhdcbepmaaGreat.Iv
open Go.RowKit
theorem zAb {a b:Bool}(h:a=b):Ending.returned (.bool a)=.returned (.bool b):=by rw[h]
theorem zMy {k:IntKind}{a b:Int}(h:a=b):Ending.returned (.int k a)=.returned (.int k b):=by rw[h]
theorem Tryz.infoR:(tP.info? 83).map (fun i=>(i.zero,i.size,i.bytes))=some (some (.agg #[vI i6 0,vI i6 0]),2,16):=by kernel_rfl
def zCl (r:Rg):List Value:=[vI i6 r.1,vI i6 r.2]
def flatR (l:List Rg):List Value:=l.flatMap zCl
theorem zI4 (a b:List Rg):flatR (a++b)=flatR a++flatR b:=by simp[flatR]
theorem zAx (r:Rg) (b:List Rg):flatR (r::b)=vI i6 r.1::vI i6 r.2::flatR b:=by simp[flatR,zCl]
theorem zAm:∀ (l:List Rg),(flatR l).length=l.length*2
 | []=>rfl
 | r::l=>by rw[zAx];simp[zAm l];omega
theorem zEp:∀ (l:List Rg),∀ u∈flatR l,u.oneCell'=true
 | [],u,h=>by simp[flatR]at h
 | r::l,u,h=>by
  rw[zAx]at h;rcases Cs.1 h with rfl|h
  ·rfl
  ·rcases Cs.1 h with rfl|h
   ·rfl
   ·exact zEp l u h
theorem zC2:∀ (l:List Rg) (j:Nat) (r:Rg),l[j]?=some r->(flatR l)[j*2]?=some (vI i6 r.1)
 | [],j,r,h=>by simp at h
 | x::l,0,r,h=>by simp at h;subst h;rw[zAx];rfl
 | x::l,j+1,r,h=>by
  rw[zAx,show (j+1)*2=j*2+1+1 by omega,D1,D1];exact zC2 l j r (by simpa using h)
theorem zDp:∀ (l:List Rg) (j:Nat) (r:Rg),l[j]?=some r->(flatR l)[j*2+1]?=some (vI i6 r.2)
 | [],j,r,h=>by simp at h
 | x::l,0,r,h=>by simp at h;subst h;rw[zAx];rfl
 | x::l,j+1,r,h=>by
  rw[zAx,show (j+1)*2+1=(j*2+1)+1+1 by omega,D1,D1];exact zDp l j r (by simpa using h)
def RngS (w:World) (B:Nat) (A:Option Addr) (n:Nat) (rs:List Rg):Prop:=
 n=rs.length/\Fit rs/\(0<n->∃ b off,A=some (aD b off)/\b<B/\∀ j r,rs[j]?=some r->w.cell? (aD b (off+j*2))=some (vI i6 r.1)/\w.cell? (aD b (off+j*2+1))=some (vI i6 r.2))
theorem RngS.below {w w':World}{B:Nat}{A:Option Addr}{n:Nat}{rs:List Rg}(h:RngS w B A n rs) (hb:Below B w w'):RngS w' B A n rs:=
 ⟨h.1,h.2.1,fun hn=>by
  obtain⟨b,a,hA,c,hc⟩:=h.2.2 hn;exact⟨b,a,hA,c,fun j k hk=>⟨(hb.cell (p:=(aD b (a+j*2))) c).trans (hc j k hk).1,(hb.cell (p:=(aD b (a+j*2+1))) c).trans (hc j k hk).2⟩⟩⟩
theorem RngS.mono {w:World}{B B':Nat}{A:Option Addr}{n:Nat}{rs:List Rg}(h:RngS w B A n rs) (hB:B<=B'):RngS w B' A n rs:=
 ⟨h.1,h.2.1,fun hn=>by
  obtain⟨b,a,hA,c,hc⟩:=h.2.2 hn;exact⟨b,a,hA,by omega,hc⟩⟩
theorem RngS.nil (w:World) (B:Nat) (A:Option Addr):RngS w B A 0 []:=⟨rfl,by simp[Fit],fun h=>by omega⟩
theorem RngS.kept {w w':World}{B:Nat}{A:Option Addr}{n:Nat}{rs:List Rg}(h:RngS w B A n rs) (hb:Below B w w') (hB:B<=w'.heap.size):RngS w' w'.heap.size A n rs:=(h.below hb).mono hB
theorem RngS.at {w:World}{B:Nat}{A:Option Addr}{n:Nat}{rs:List Rg}(h:RngS w B A n rs){k:Nat}(hk:k<n) :
  ∃ b off r1 r2,A=some (aD b off)/\b<B/\rs[k]?=some (r1,r2)/\Fit1 (r1,r2)/\w.cell? (aD b (off+k*2))=some (vI i6 r1)/\w.cell? (aD b (off+k*2+1))=some (vI i6 r2):=by
 obtain⟨b,off,hA,hb,hc⟩:=h.2.2 (by omega);have hx:rs[k]?=some (rs[k]'(by have:=h.1;omega)):=By _;have:=hc k _ hx;exact⟨b,off,_,_,hA,hb,hx,h.2.1 _ (Bh hx),this.1,this.2⟩
def OwnR (w:World) (B:Nat) (v:Value) (rs:List Rg):Prop:=w.ownsRow B 83 2 v rs.length (flatR rs)
theorem OwnR.nil (w:World) (B:Nat):OwnR w B (vS none 0 0) []:=World.ownsRow_nil _ _ _ _
theorem OwnR.form {w:World}{B:Nat}{v:Value}{rs:List Rg}(h:OwnR w B v rs):∃ A c,v=vS A rs.length c:=by
 rcases h.2 with⟨rfl,h0⟩|⟨g,cap,a,rfl,_⟩
 ·rw[h0];exact⟨_,_,rfl⟩
 ·exact⟨_,_,rfl⟩
theorem OwnR.rng {w:World}{B:Nat}{A:Option Addr}{n c:Nat}{rs:List Rg}(h:OwnR w B (vS A n c) rs) (hf:Fit rs):RngS w w.heap.size A n rs:=by
 have hl:=h.lt;have d:∀ g,(vS A n c).ownBlock=some g->∀ j u,(flatR rs)[j]?=some u->w.cell? (((aD g 0):Addr).add j)=some u:=fun g hg=>World.ownsRow.cells h hg;rcases h.2 with⟨hv,h0⟩|⟨g,cap,l,hv,hB,hg,f,k,i,e⟩
 ·injection hv with e1 e2 e3;subst e1 e2;exact⟨h0.symm,hf,fun h=>by omega⟩
 ·injection hv with e1 e2 e3;subst e1 e2;refine⟨rfl,hf,fun _=>⟨g,0,rfl,(hl g rfl).2,fun j r hj=>?_⟩⟩;have az:∀ q:Nat,((aD g 0):Addr).add q=(aD g (0+q)):=by
   intro q;unfold Addr.add;rcases Dz q with h|h
   ·subst h;simp
   ·simp[Nat.ne_of_gt h]
  have a:=d g rfl (j*2) _ (zC2 rs j r hj);have b:=d g rfl (j*2+1) _ (zDp rs j r hj);rw[az]at a b;exact⟨a,by rw[Da];exact b⟩
theorem OwnR.old {w w':World}{B:Nat}{v:Value}{rs:List Rg}(h:OwnR w B v rs) (hb:bW w w'):OwnR w' B v rs:=by
 have hl:=h.lt;refine⟨h.1,?_⟩;rcases h.2 with hn|⟨g,cap,cur,rfl,hB,hg,rest⟩
 ·exact .inl hn
 ·exact .inr ⟨g,cap,cur,rfl,hB,by rw[hb.block g (hl g rfl).2];exact hg,rest⟩
theorem OwnR.drewN {w:World}{B:Nat}{v:Value}{rs:List Rg}(h:OwnR w B v rs) (n:Nat):OwnR (w.drewN n) B v rs:=h
theorem zA0 {B:Nat}{a w:World}(h:Below B a w) (n:Nat):Below B a (w.drewN n):=⟨h.os,h.tape,h.output,h.size,h.block⟩
theorem OwnR.mono {w:World}{B B':Nat}{v:Value}{rs:List Rg}(h:OwnR w B v rs) (hB:B'<=B):OwnR w B' v rs:=by
 refine⟨h.1,?_⟩;rcases h.2 with hn|⟨g,cap,cur,hv,hg,rest⟩
 ·exact .inl hn
 ·exact .inr ⟨g,cap,cur,hv,by omega,rest⟩
theorem OwnR.below {w0 w1:World}{B:Nat}{v:Value}{rs:List Rg}{o:Obj}(h:OwnR w0 B v rs) (hb:B<=w0.heap.size) (hg:(w0.alloc o).grownBy w1 v.ownBlock):Below B w0 w1:=
 ((Bw B w0).alloc hb o).grown hg (by simp;omega) (fun j hj=>(h.lt j hj).1)
theorem OwnR.lit (w:World) (B:Nat) (hB:B<=w.heap.size) (rs:List Rg) (cells:Array Value) (n:Nat) (hn:rs.length=n) (hc:cells.toList=flatR rs) (hl:rs.length<=maxLen) :
  OwnR (w.alloc (.cells cells 83)) B (vS (some (aD w.heap.size 0)) n n) rs:=by
 subst hn;have a:cells.size=rs.length*2:=by rw[<-Array.length_toList,hc,zAm]
 exact⟨zAm rs,.inr ⟨w.heap.size,rs.length,cells,rfl,hB,Bl w _,Bc _,hl,a,by rw[hc];rw[B8];rw[zAm];exact Bc _⟩⟩
theorem zOp {ops:Array Oper}{rest:List Oper}{o:Oper}{a:Act}{Q:Exit->Act->World->Prop}{w0:World}(hgd:o.guard=none) (s x:Operand)
  (ho:o.op=.call { callee:=.builtin .append,args:=#[s,x],argTypes:=#[44,44] }) (B:Nat) (v:Value) (l:List Rg) (hs:a.eval s=v) (hown:OwnR w0 B v l)
  (l':List Rg) (m c:Nat) (hm:l'.length=m) (cells:Array Value) (hc:cells.toList=flatR l') (hx:a.eval x=vS (some (aD w0.heap.size 0)) m c)
  (hbytes:l.length+m<=1000000000) (hbase:B<=w0.heap.size)
  (h:∀ v' w',OwnR w' B v' (l++l')->Below B w0 w'->wpList tP ops Q rest (a.put o.dst v') w') :
  wpList tP ops Q (o::rest) a (w0.alloc (.cells cells 83)):=by
 obtain⟨i0,hi,e,d,b⟩:=Cp Tryz.infoR;subst hm;refine wpList_append_own _ hgd s x 44 ho B 83 i0 (.agg #[vI i6 0,vI i6 0]) 2 16 underlying44 hi e d b rfl (by decide) v l.length (flatR l) hs (World.ownsRow.alloc hown _)
  (aH w0 0) l'.length c (flatR l') hx (zAm l') ?_ (zEp l') (by unfold maxLen;omega) (by omega) (by simp;omega) ?_
 ·rw[<-hc];exact World.news_of_block (Bl w0 _)
 ·intro v' w' h1 h2 _;exact h v' w' (by unfold OwnR;rw[Bd,zI4];exact h1) (hown.below hbase h2)
theorem zIa {ops:Array Oper}{rest:List Oper}{o:Oper}{a:Act}{Q:Exit->Act->World->Prop}{w0:World}(hgd:o.guard=none) (s x:Operand)
  (ho:o.op=.call { callee:=.builtin .append,args:=#[s,x],argTypes:=#[44,44] }) (B:Nat) (v:Value) (l:List Rg) (hs:a.eval s=v) (hown:OwnR w0 B v l)
  (l':List Rg) (m c:Nat) (hm:l'.length=m) (cells:Array Value) (hc:cells.toList=flatR l') (H:Nat) (hH:w0.heap.size=H) (hx:a.eval x=vS (some (aD H 0)) m c)
  (hbytes:l.length+m<=1000000000) (hbase:B<=w0.heap.size)
  (h:∀ v' w',OwnR w' B v' (l++l')->Below B w0 w'->wpList tP ops Q rest (a.put o.dst v') w') :
  wpList tP ops Q (o::rest) a (w0.alloc (.cells cells 83)):=by
 subst hH;exact zOp hgd s x ho B v l hs hown l' m c hm cells hc hx hbytes hbase h
def RetR (rs:List Rg) (w:World) (e:Ending) (w':World):Prop:=∃ A n c,e=.returned (vS A n c)/\RngS w' w'.heap.size A n rs/\bW w w'
def zBb (r:Rg):Bool:=decide (r.2<r.1)
def gapB (x r:Rg):Bool:=decide (x.2+1<r.1)
theorem zD8 (a b:Int) (w:World) :
  Calls tP 103 #[.agg #[vI i6 a,vI i6 b]] w fun e w'=>e=.returned (.bool (zBb (a,b)))/\bW w w':=by
 go_enter func103,ntmps103;go_wp2
 all_goals go_ret
 all_goals exact⟨zAb (by unfold zBb;simp),yR.alloc lR _⟩
theorem zNn (a b c d:Int) (w:World) (h:Fit1 (a,b)) (h':Fit1 (c,d)) :
  Calls tP 107 #[.agg #[vI i6 a,vI i6 b],.agg #[vI i6 c,vI i6 d]] w fun e w'=>e=.returned (.bool (gapB (a,b) (c,d)))/\bW w w':=by
 unfold Fit1 LO HI at h h';obtain⟨h1,h2,h3,h4⟩:=h;obtain⟨k1,k2,k3,k4⟩:=h';simp only at h1 h2 h3 h4 k1 k2 k3 k4;by_cases hlt:b<c
 ·have q:decide (b<c)=true:=by simpa using hlt
  go_enter func107,ntmps107;go_wp2
  all_goals go_ret
  all_goals exact⟨zAb (by unfold gapB;simp;omega),(yR.alloc lR _).alloc (by simp) _⟩
 ·have q:decide (b<c)=false:=by simpa using hlt
  go_enter func107,ntmps107;go_wp2
  all_goals go_ret
  all_goals exact⟨zAb (by unfold gapB;simp;omega),(yR.alloc lR _).alloc (by simp) _⟩
def cmpI (a b:Int):Int:=if a<b then -1 else if b<a then 1 else 0
theorem zJt (a:Int) (w:World) :
  Calls tP 149 #[vI i6 a] w fun e w'=>e=.returned (.bool false)/\w=w':=by
 go_enter func149,ntmps149;go_wp2
 all_goals go_ret
 all_goals exact⟨zAb (by simp),rfl⟩
theorem zOc (a b:Int) (w:World) :
  Calls tP 106 #[vI i6 a,vI i6 b] w fun e w'=>e=.returned (vI i6 (cmpI a b))/\w=w':=by
 go_enter func106,ntmps106;go_wp2_with (first|(go_at_call 149;refine (zJt _ _).mono ?_;rintro e w' ⟨rfl,rfl⟩))
 all_goals go_ret
 all_goals exact⟨zMy (by unfold cmpI;split<;>simp_all<;>omega),rfl⟩
end Go.Proofs.YteedihhdcbepmaaGreat.Iv
namespace Go.Proofs.YteedihhdcbepmaaGreat
open Go Go.RowKit
def szN (x:Tn):Nat:=x.kids.length+x.fds.length
end Go.Proofs.YteedihhdcbepmaaGreat
