/- graft's state in its first loop: the .. -/
import Derived.Test.YteedihhdcbepmaaGreatTfZ
import Derived.Test.YteedihhdcbepmaaGreatTf14
import Derived.Test.YteedihhdcbepmaaGreatTfShelfS
set_option maxRecDepth 100000
set_option maxHeartbeats 12800000
set_option linter.all false
open Go.Value renaming slice→vS,int→vI,string→vT
open Go.IntKind renaming i64→i6
open Go.Proofs.Tryz renaming prog→tP
namespace Go.Proofs.YteedihhdcbepmaaGreat
open Go Go.RowKit
abbrev GD (H Z bb:Nat) (v:Value) (w:World):Nat->Prop:=fun b=>b<w.heap.size/\b≠bb/\v.ownBlock≠some b/\(b<H\/Z<=b)
structure L1S (bb pg base:Nat) (o:Option Nat) (D D2:Nat->Prop) (ys:List Tn) (U wr:World) (vj:Value) (cj:List (List Value)) (xs:List Tn) (ps:List Int):Prop where
 box:wr.heap[bb]?=some (.cells #[vj] 101 (0,0))
 own:OwnQ wr base vj cj
 nds:NdsB wr D cj xs
 pre:NdsB wr D2 (cj.take ys.length) ys
 row:JRow wr pg ps
 vk:VK bb pg o U wr
 ob:∀ g,vj.ownBlock=some g->o=some g\/U.heap.size<=g
structure LNum (bb pg base:Nat) (o:Option Nat) (D D2:Nat->Prop) (U:World):Prop where
 bl:bb<U.heap.size
 pl:pg<U.heap.size
 bp:bb≠pg
 bo:o≠some bb
 po:o≠some pg
 dd:∀ b,D b->b<U.heap.size/\b≠bb/\b≠pg/\o≠some b
 d2:∀ b,D2 b->D b
section
variable {bb pg base:Nat}{o:Option Nat}{D D2:Nat->Prop}{ys:List Tn}{U wr:World}{vj:Value}{cj:List (List Value)}{xs:List Tn}{ps:List Int}
theorem L1S.below (h:L1S bb pg base o D D2 ys U wr vj cj xs ps) (hn:LNum bb pg base o D D2 U){X:World}(hb:bW wr X):L1S bb pg base o D D2 ys U X vj cj xs ps:=by
 have hz:=h.vk.low.size;have h1:=hn.bl;have h2:=hn.pl;exact⟨(hb.block bb (by omega)).trans h.box,OwnE.stay zB8 h.own fun g _ hl=>hb.block g hl,h.nds.keep (Same.of_below hb fun b hd=>by have:=(hn.dd b hd).1;omega),h.pre.keep (Same.of_below hb fun b hd=>by have:=(hn.dd b (hn.d2 b hd)).1;omega),h.row.on (hb.block pg (by omega)),
  ⟨h.vk.low.trans (hb.mono (Bq _)),fun b hb' h1 h2 h3=>(hb.block b (by omega)).trans (h.vk.blk b hb' h1 h2 h3)⟩,h.ob⟩
theorem L1S.ne (h:L1S bb pg base o D D2 ys U wr vj cj xs ps) (hn:LNum bb pg base o D D2 U):vj.ownBlock≠some pg/\vj.ownBlock≠some bb/\∀ b,D b->vj.ownBlock≠some b:=by
 refine⟨fun e=>?_,fun e=>?_,fun b hd e=>?_⟩
 ·rcases h.ob _ e with h1|h1
  ·exact hn.po h1
  ·have:=hn.pl;omega
 ·rcases h.ob _ e with h1|h1
  ·exact hn.bo h1
  ·have:=hn.bl;omega
 ·rcases h.ob _ e with h1|h1
  ·exact (hn.dd b hd).2.2.2 h1
  ·have:=(hn.dd b hd).1;omega
theorem L1S.put (h:L1S bb pg base o D D2 ys U wr vj cj xs ps) (hn:LNum bb pg base o D D2 U){X:World}{ps':List Int}(hb:Below 0 wr X) (ho:∀ b,b≠pg->X.heap[b]?=wr.heap[b]?) (hr:JRow X pg ps'):L1S bb pg base o D D2 ys U X vj cj xs ps':=
 ⟨(ho bb hn.bp).trans h.box,OwnE.stay zB8 h.own fun g hg _=>ho g fun e=>(h.ne hn).1 (by rw[hg,e]),h.nds.keep ⟨hb.size,fun b i hd _=>Bg (ho b (hn.dd b hd).2.2.1)⟩,h.pre.keep ⟨hb.size,fun b i hd _=>Bg (ho b (hn.dd b (hn.d2 b hd)).2.2.1)⟩,hr,
  ⟨h.vk.low.trans hb,fun b hb' h1 h2 h3=>(ho b h2).trans (h.vk.blk b hb' h1 h2 h3)⟩,h.ob⟩
theorem L1S.push (h:L1S bb pg base o D D2 ys U wr vj cj xs ps) (hn:LNum bb pg base o D D2 U){w4 Y:World}{v':Value}{x:Tn}{cs:List Value}(hx:TnB wr D x cs) (ho4:OwnQ w4 base v' (cj++[cs])) (hb4:Below base wr w4) (hk4:∀ b,b<wr.heap.size->some b≠vj.ownBlock->w4.heap[b]?=wr.heap[b]?) (hg4:∀ g,v'.ownBlock=some g->vj.ownBlock=some g\/wr.heap.size<=g)
  (hY:Y=w4.setCell ⟨bb,0,none⟩ v'):L1S bb pg base o D D2 ys U Y v' (cj++[cs]) (xs++[x]) ps:=by
 have hz:=h.vk.low.size;have h1:=hn.bl;have h2:=hn.pl;have k:=hb4.size;have a:=h.ne hn;have f:∀ b,b≠bb->Y.heap[b]?=w4.heap[b]?:=fun b hb=>by rw[hY];exact Bp _ (aD bb 0) b _ hb
 have l:Y.heap.size=w4.heap.size:=by rw[hY];simp
 have c:∀ b,b<wr.heap.size->b≠bb->vj.ownBlock≠some b->Y.heap[b]?=wr.heap[b]?:=fun b hl hb hv=>(f b hb).trans (hk4 b hl fun e=>hv e.symm);have d:=(hk4 bb (by omega) fun e=>a.2.1 e.symm).trans h.box;refine⟨?_,OwnE.stay zB8 ho4 fun g hg _=>f g (fun e=>by
  rcases hg4 g hg with h3|h3
  ·exact a.2.1 (by rw[h3,e])
  ·omega),(h.nds.snoc hx).keep ⟨by omega,fun b i hd _=>Bg ?_⟩,?_,h.row.on (c pg (by omega) (fun e=>hn.bp e.symm) a.1),⟨?_,fun b hb' q1 q2 q3=>?_⟩,fun g hg=>?_⟩
 ·rw[hY];exact (Bm w4 bb 0 _ _ _ d).trans rfl
 ·exact c b (by have:=(hn.dd b hd).1;omega) (hn.dd b hd).2.1 (a.2.2 b hd)
 ·have j:ys.length<=cj.length:=by have h9:=h.pre.1;rw[Bh]at h9;omega
  rw[Fp j];exact h.pre.keep ⟨by omega,fun b i hd _=>Bg (c b (by have:=(hn.dd b (hn.d2 b hd)).1;omega) (hn.dd b (hn.d2 b hd)).2.1 (a.2.2 b (hn.d2 b hd)))⟩
 ·rw[hY];exact (h.vk.low.trans (hb4.mono (Bq _))).setCell (p:=(aD bb 0)) (Bq _) _
 ·refine (c b (by omega) q1 fun e=>?_).trans (h.vk.blk b hb' q1 q2 q3);rcases h.ob b e with h3|h3
  ·exact q3 h3
  ·omega
 ·rcases hg4 g hg with h3|h3
  ·exact h.ob g h3
  ·exact .inr (by omega)
end
theorem OwnE.formA {α:Type}{K:ElK α}{e:TypeId}{c:Nat}{w:World}{base n cap:Nat}{A:Option Addr}{l:List α}(h:OwnE K e c w base (vS A n cap) l):n<=cap/\(A=none->n=0)/\∀ a,A=some a->∃ g,a=(aD g 0):=by
 obtain⟨xs,⟨_,h2⟩,_⟩:=h;rcases h2 with⟨h2,_⟩|⟨g,d,f,h2,_,_,h3,_⟩
 ·injection h2 with a b c;subst a b c;exact⟨Bb _,fun _=>rfl,fun a h=>(by cases h)⟩
 ·injection h2 with a b c;subst a b c;exact⟨h3,fun h=>(by cases h),fun a h=>(by injection h with h;exact⟨g,h.symm⟩)⟩
theorem zG8 {α:Type}:∀ (l:List α) (i:Nat) (a:α),i<l.length->(l.set i a).take (i+1)=l.take i++[a]
 | [],_,_,h=>by simp at h
 | x::l,0,a,_=>by simp
 | x::l,i+1,a,h=>by
  rw[Da,List.take_succ_cons,List.take_succ_cons,zG8 l i a (by simpa using h)];rfl
theorem zM2 {w:World}:bW w w.drew:=yR.drew
def zC7:(G1:Prop) ×' (G2:Prop) ×' (G1->G2->∀ (f:List UInt8->Option Int) (ns:List Tn) (root:Int) (A:Option Addr) (c H Z bb base:Nat) (v im:Value) (css:List (List Value)) (bs:List Tn) (w:World) (hT:TyP w H ns root [vS A ns.length c,vI i6 root]) (hn:ns.length<=1000000) (hks:∀ x∈ns,x.kids.length<=1048576/\x.fds.length<=1048576) (hHb:H<=bb/\bb<w.heap.size/\H<=base/\base<=w.heap.size) (hno:Hid (v.ownBlock≠some bb)) (hZ:Z<=w.heap.size) (hbox:w.heap[bb]?=some (.cells #[v] 101 (0,0))) (hown:OwnQ w base v css) (hnd:NdsB w (GD 0 Z bb v w) css bs) (hcl:css.length<=100000000) (hf:Hid (∀ s,f s=none)) (hm:Hid (∀ (s:ByteArray) (U:World),(Instr.lookup 114 im (vT s) true).run tP U=.ok (.tuple #[vI i6 0,.bool false]) U)),Calls tP 65 #[.pointer (some ⟨bb,0,none⟩),.agg #[vS A ns.length c,vI i6 root],im] w fun e w'=>e=.returned (vI i6 (gr f (accT (ns,root)) bs).2)/\∃ v' css',w'.heap[bb]?=some (.cells #[v'] 101 (0,0))/\OwnQ w' base v' css'/\NdsB w' (GD 0 Z bb v' w') css' (gr f (accT (ns,root)) bs).1/\VK bb bb v.ownBlock w w'/\∀ g,v'.ownBlock=some g->v.ownBlock=some g\/w.heap.size<=g):=⟨_,_,by
 intro g1 g2 f ns root A c H Z bb base v im css bs w hT hn hks hHb hno hZ hbox hown hnd hcl hf hm;have HG1:=xI g1;have HG2:=xI g2;clear g1 g2;obtain⟨Av0,cv0,hvf⟩:=hown.form;subst hvf;obtain⟨W0,hW0,hb0,kt0,hz0⟩:=aW w (oE A ns.length c root)
 have hcA:=zGz (H:=H) W0 (by omega) (hT.on (hb0.mono (by omega))) hn;have hsm:=zLl (root:=root) hn hks;have hwt:=zD5 (ns,root);obtain⟨q0,q1⟩:=zAh kt0;rw[hW0]at q0 q1;have HP:=xI (aN hHb (aN hbox (aN hown (aN hnd (aN hcl (aN (show ∀ s p,f s=some p->0<=p/\p<(bs.length:Int)from fun s p h=>by rw[hf.out s]at h;cases h) (aN hb0 (aN kt0 hz0))))))));generalize hta:accT (ns,root)=ta at *;obtain⟨ms,r⟩:=ta;clear hta hn hks hT hbox hown hnd hcl hb0 kt0 hz0;dsimp only at hcA hsm hwt ⊢;go_enter Tryz.func65,Tryz.ntmps65;go_wp2_with fail;rw[<-hW0];refine hcA.mono ?_;rintro e w1 ⟨⟨A1,c1,rfl,hT1⟩,hb1⟩;clear hcA q0 q1;have k1:=(hb1.block w.heap.size (by have:=HP.out.2.2.2.2.2.2.2.2;omega)).trans HP.out.2.2.2.2.2.2.2.1;obtain⟨q0,q1⟩:=zAh k1;have f0:=Bz k1 0;have f1:=Bz k1 1;obtain⟨V1,hV1⟩:∃ V1,V1=(w1.setCell ⟨w.heap.size,0,none⟩ (vS A1 ms.length c1)).setCell ⟨w.heap.size,1,none⟩ (vI i6 r):=⟨_,rfl⟩;obtain⟨p1,p2,p3,p4⟩:=box2x k1 _ _ V1 hV1;have hbV:Below w.heap.size w V1:=(HP.out.2.2.2.2.2.2.1.trans (hb1.mono (by have:=HP.out.2.2.2.2.2.2.2.2;omega))).trans (p4 _ lR);have hV1z:w.heap.size<V1.heap.size:=by have:=hb1.size;have:=HP.out.2.2.2.2.2.2.2.2;omega
 have hTV:TyB V1 (fun b=>b<V1.heap.size/\b≠bb/\(vS Av0 css.length cv0).ownBlock≠some b/\b≠w.heap.size/\(b<H\/Z<=b)) ms r [vS A1 ms.length c1,vI i6 r]:=by
  have hz0:=HP.out.2.2.2.2.2.2.2.2;have hs1:=hb1.size;have hHb:=HP.out.1;have hne:∀ b,Bo H W0 w1 b->b≠w.heap.size:=fun b hb=>by rcases hb with h|h<;>omega
  refine (hT1.keep (w':=V1) ⟨by omega,fun b i hb _=>Bg (p3 b (hne b hb))⟩).sub fun b hb=>⟨?_,?_,?_,hne b hb,?_⟩
  ·rcases hb with h|h<;>omega
  ·rcases hb with h|h<;>omega
  ·intro e;have:=OwnE.ltB HP.out.2.2.1 e;rcases hb with h|h<;>omega
  ·rcases hb with h|h
   ·exact .inl h
   ·exact .inr (by omega)
 have HT:=xI (aN hsm.1 (aN hsm.2 (aN hwt (aN hTV (aN p1 (aN hbV hV1z))))));have HW1:=xI hV1;clear p1 p2 p3 p4 hbV hTV hT1 hsm hwt hV1z hb1 hV1;go_wp2_with fail;rw[<-HW1.out];clear HW1 q0 q1 f0 f1 hW0 k1;rename_i KK hKK;have hD0:bW V1 V1.drew:=yR.drew;have HQ:Hid (∀ wq,bW V1 wq->jT wq w.heap.size A1 ms.length c1 r):=xI fun U hU=>zAh ((hU.block _ HT.out.2.2.2.2.2.2).trans HT.out.2.2.2.2.1);have hcR:Hid (∀ U,bW V1 U->Calls tP 93 #[.agg #[vS A1 ms.length c1,vI i6 r]] U fun e w'=>∃ v,e=.returned v/\OwnI w' U.heap.size v (visR ms r.toNat)/\bW U w'):=xI fun U hU=>
  zFl (H:=U.heap.size) U lR ((HT.out.2.2.2.1.keep (Same.of_below hU fun b hb=>hb.1)).sub fun b hb=>Bl hb.1 hU.size) HT.out.2.2.1 HT.out.1
 have fin:∀ (Ao:Option Addr) (co pg pbx:Nat) (U:World),Hid (JRow U pg (List.replicate ms.length 0)/\U.heap[pbx]?=some (.cells #[vS (some (aD pg 0)) ms.length ms.length] 25 (0,0))/\OwnI U V1.heap.size (vS Ao (visR ms r.toNat).length co) (visR ms r.toNat)/\bW V1 U/\(V1.heap.size<=pg/\V1.heap.size<=pbx/\pg≠pbx)/\∀ g,(vS Ao (visR ms r.toNat).length co).ownBlock=some g->V1.heap.size<=g/\g≠pg/\g≠pbx)->KK { tmps:=#[.pointer (some (aD bb 0)),.agg #[vS A ns.length c,vI i6 root],im,undef,.pointer (some (aH w 0)),undef,vI i6 0,vS Ao (visR ms r.toNat).length co,.pointer (some (aD pbx 0)),undef,undef,undef,undef,undef,undef,undef,undef,.agg #[vS A ns.length c,vI i6 root],.agg #[vS A1 ms.length c1,vI i6 r],.agg #[vS A1 ms.length c1,vI i6 r],vS Ao (visR ms r.toNat).length co,.pointer (some (aH w 0)),vS A1 ms.length c1,vI i6 ms.length,vS (some (aD pg 0)) ms.length ms.length,undef,undef,undef,undef,undef,undef,undef,undef,undef,undef,undef,undef,undef,undef,undef,undef,undef,undef,undef,undef,undef,undef,undef,undef,undef,undef,undef,undef,undef,undef,undef,undef,undef,undef,undef,undef,undef,undef,undef,undef,undef,undef,undef,undef,undef,undef,undef,undef,undef,undef,undef,undef,undef,undef,undef,undef,undef,undef,undef,undef,undef,undef,undef,undef,undef,undef,undef,undef,undef,undef,undef,undef,undef,undef,undef,undef,undef,undef,undef,undef,undef],defers:=[] } U:=by
  intro Ao co pg pbx U HU;refine hKK _ _ ?_;clear hKK hD0 hcR KK;have hor:∃ ord,ord=visR ms r.toNat:=⟨_,rfl⟩;obtain⟨ord,hord⟩:=hor;rw[<-hord]at HU;have HOR:Hid ((ord=visR ms r.toNat)/\ord.Nodup/\(∀ i∈ord,0<=i/\i.toNat<ms.length)/\ord.length<=ms.length):=xI (by
   have hv:=zCd (t:=(ms,r)) HT.out.2.2.1;have hrt:=HT.out.2.2.1.rt;have h1:∀ i∈ord,0<=i/\i.toNat<ms.length:=fun i hi=>by
    rw[hord]at hi;have h:=(hv i).1 hi;exact⟨h.1,h.2.lt HT.out.2.2.1.wf.edg (by simp only at hrt ⊢;omega)⟩
   have h2:ord.Nodup:=by rw[hord];exact zEl (t:=(ms,r)) HT.out.2.2.1
   exact⟨hord,h2,h1,zHg _ _ h2 fun k hk=>⟨(h1 k hk).1,by have:=h1 k hk;omega⟩⟩)
  rw[<-hord];clear hord;generalize hn0:css.length=n0 at *;have HN0:=xI hn0;clear hn0;have hown0:∀ g,(vS Av0 n0 cv0).ownBlock=some g->base<=g/\g<w.heap.size:=fun g hg=>OwnE.ltB HP.out.2.2.1 hg;have hbU:bW w U:=HT.out.2.2.2.2.2.1.trans (HU.out.2.2.2.1.mono (by have:=HT.out.2.2.2.2.2.2;omega));have hUbb:U.heap[bb]?=some (.cells #[vS Av0 n0 cv0] 101 (0,0)):=(hbU.block bb (by omega)).trans HP.out.2.1;have hUown:OwnQ U base (vS Av0 n0 cv0) css:=OwnE.stay zB8 HP.out.2.2.1 fun g hg hl=>hbU.block g hl;have hUnd:NdsB U (fun b=>b<V1.heap.size/\b≠bb/\(vS Av0 n0 cv0).ownBlock≠some b/\(b<H\/Z<=b)) css bs:=(HP.out.2.2.2.1.keep (Same.of_below hbU fun b hb=>hb.1)).sub fun b hb=>⟨by have:=hb.1;have:=HT.out.2.2.2.2.2.2;omega,hb.2.1,hb.2.2.1,by
   rcases hb.2.2.2 with h|h
   ·omega
   ·exact .inr h⟩
  have hUpre:NdsB U (fun b=>b<V1.heap.size/\b≠bb/\(vS Av0 n0 cv0).ownBlock≠some b/\(b<0\/Z<=b)) (css.take bs.length) bs:=by
   rw[Cz (by have:=HP.out.2.2.2.1.1;omega)];exact (HP.out.2.2.2.1.keep (Same.of_below hbU fun b hb=>hb.1)).sub fun b hb=>⟨by have:=hb.1;have:=HT.out.2.2.2.2.2.2;omega,hb.2.1,hb.2.2.1,hb.2.2.2⟩
  -- what stays in the first loop
  have HS:Hid (∀ wr,VK bb pg (vS Av0 n0 cv0).ownBlock U wr->VK bb bb (vS Av0 n0 cv0).ownBlock w wr/\wr.cell? (aH w 0)=some (vS A1 ms.length c1)/\wr.cell? (aH w 1)=some (vI i6 r)/\wr.cell? (aD pbx 0)=some (vS (some (aD pg 0)) ms.length ms.length)/\OwnI wr V1.heap.size (vS Ao ord.length co) ord/\RowB wr (fun b=>b<V1.heap.size/\b≠bb/\(vS Av0 n0 cv0).ownBlock≠some b/\b≠w.heap.size/\(b<H\/Z<=b)) 8 (vS A1 ms.length c1) ms.length (tnR wr (fun b=>b<V1.heap.size/\b≠bb/\(vS Av0 n0 cv0).ownBlock≠some b/\b≠w.heap.size/\(b<H\/Z<=b)) ms)/\Same (fun b=>b<V1.heap.size/\b≠bb/\(vS Av0 n0 cv0).ownBlock≠some b/\(b<H\/Z<=b)) U wr):=xI fun wr hk=>by
   obtain⟨u1,u2,u3,u4,u5,u6⟩:=HU.out;have hV:=HT.out.2.2.2.2.2.2;have hUs:=u4.size;have hwV:∀ b,b<V1.heap.size->b≠bb->(vS Av0 n0 cv0).ownBlock≠some b->wr.heap[b]?=V1.heap[b]?:=fun b hb h1 h2=>(hk.blk b (by omega) h1 (by omega) h2).trans (u4.block b hb);have htb:wr.heap[w.heap.size]?=some (oE A1 ms.length c1 r):=(hwV _ (by omega) (by omega) (fun e=>by have:=hown0 _ e;omega)).trans HT.out.2.2.2.2.1;have hpl:pbx<U.heap.size:=(Cp.1 u2).1;have hpb:wr.heap[pbx]?=some (.cells #[vS (some (aD pg 0)) ms.length ms.length] 25 (0,0)):=(hk.blk pbx hpl (by omega) (fun e=>u5.2.2 e.symm) (fun e=>by have:=hown0 _ e;omega)).trans u2;obtain⟨uu,huu,_,hrow⟩:=HT.out.2.2.2.1;injection huu with huu _;subst huu;have hsm:Same (fun b=>b<V1.heap.size/\b≠bb/\(vS Av0 n0 cv0).ownBlock≠some b/\b≠w.heap.size/\(b<H\/Z<=b)) V1 wr:=⟨by have:=hk.low.size;omega,fun b i hb _=>Bg (hwV b hb.1 hb.2.1 hb.2.2.1)⟩;refine⟨⟨(hbU.mono (Bq _)).trans hk.low,fun b hb h1 _ h3=>(hk.blk b (by have:=hbU.size;omega) h1 (by omega) h3).trans (hbU.block b hb)⟩,(zAh htb).1,(zAh htb).2,cH hpb 0,OwnE.stay zAp u3 fun g hg hl=>hk.blk g hl ?_ ?_ ?_,hrow.keep hsm fun _ _ ⟨y,hy,h⟩=>⟨y,hy,h.keep hsm⟩,⟨hk.low.size,fun b i hb hl=>Bg (hk.blk b hl hb.2.1 (by omega) hb.2.2.1)⟩⟩
   ·have:=u6 g hg;omega
   ·exact (u6 g hg).2.1
   ·intro e;have:=u6 g hg;have:=hown0 g e;omega
  have e3:U.cell? (aD bb 0)=some (vS Av0 n0 cv0):=cH hUbb 0;have HUU:=xI (aN hUbb (aN hUown (aN hUnd (aN hUpre hbU))));have HO0:=xI hown0;clear hUbb hUown hUnd hUpre hbU hown0 hHb;have HNUM:Hid (bb<w.heap.size/\w.heap.size<V1.heap.size/\V1.heap.size<=pg/\V1.heap.size<=pbx/\pg≠pbx/\H<=base/\base<=w.heap.size/\V1.heap.size<=U.heap.size/\pg<U.heap.size/\pbx<U.heap.size/\H<=bb):=xI (by
   have h1:=HP.out.1;have h2:=HT.out.2.2.2.2.2.2;have h3:=HU.out.2.2.2.2.1;have h4:=HU.out.2.2.2.1.size;have h5:=HU.out.1.lt;have h6:pbx<U.heap.size:=(Cp.1 HU.out.2.1).1;exact⟨h1.2.1,h2,h3.1,h3.2.1,h3.2.2,h1.2.2.1,h1.2.2.2,h4,h5,h6,h1.1⟩)
  have LN:Hid (LNum bb pg base (vS Av0 n0 cv0).ownBlock (fun b=>b<V1.heap.size/\b≠bb/\(vS Av0 n0 cv0).ownBlock≠some b/\(b<H\/Z<=b)) (fun b=>b<V1.heap.size/\b≠bb/\(vS Av0 n0 cv0).ownBlock≠some b/\(b<0\/Z<=b)) U):=xI (by
   have n1:=HNUM.out;refine⟨by omega,by omega,by omega,hno.out,fun e=>?_,fun b hb=>⟨?_,hb.2.1,?_,hb.2.2.1⟩,fun b hb=>⟨hb.1,hb.2.1,hb.2.2.1,by rcases hb.2.2.2 with h|h;exact absurd h (by omega);exact .inr h⟩⟩
   ·have:=HO0.out _ e;omega
   ·have:=hb.1;omega
   ·have:=hb.1;omega)
  go_wp2_with fail;clear e3
  go_loopw [32] (fun i wr=>∃ (j:Nat) (vj:Value) (cj:List (List Value)),i=vI i6 j/\j<=ord.length/\L1S bb pg base (vS Av0 n0 cv0).ownBlock (fun b=>b<V1.heap.size/\b≠bb/\(vS Av0 n0 cv0).ownBlock≠some b/\(b<H\/Z<=b)) (fun b=>b<V1.heap.size/\b≠bb/\(vS Av0 n0 cv0).ownBlock≠some b/\(b<0\/Z<=b)) bs U wr vj cj (bs++(keptL ms f (ord.take j)).map (nd ms)) (plF ms f (ord.take j) bs.length (List.replicate ms.length 0))) (fun i _=>((ord.length:Int)-intOf i).toNat)
  case atStart=>
   refine⟨0,vS Av0 n0 cv0,css,rfl,Bq _,HUU.out.1,HUU.out.2.1,?_,HUU.out.2.2.2.1,HU.out.1,VK.of_below yR,fun g h=>.inl h⟩;rw[List.take_zero];show NdsB U _ css (bs++[]);rw[Dk];exact HUU.out.2.2.1
  case round=>
   obtain⟨j,vj,cj,rfl,hj,hrel⟩:=hrel;obtain⟨Avj,cvj,rfl⟩:=hrel.own.form;have HR1:=xI hrel;clear hrel;by_cases hlt:j<ord.length
   ·rename_i Q0 K0 hK0;revert f ns root A c H Z bb base im css bs w Av0 cv0 W0 ms r Q0 w1 A1 c1 V1 Ao co pg pbx U ord n0 K0 wr u11 u12 u13 u14 u33 u34 u35 u36 u37 u38 u39 u40 u41 u42 u43 u44 u45 u46 u47 u48 u49 u50 u51 u52 u53 u54 u55 u56 u57 u58 u59 u60 u61 u62 u63 u64 u65 u66 u67 u68 u69 u70 u71 u72 u73 u74 u75 u76 j cj Avj cvj;exact HG1.out
   ·rename_i Q0 K0 hK0;revert f ns root A c H Z bb base im css bs w Av0 cv0 W0 ms r Q0 w1 A1 c1 V1 Ao co pg pbx U ord n0 K0 wr u11 u12 u13 u14 u33 u34 u35 u36 u37 u38 u39 u40 u41 u42 u43 u44 u45 u46 u47 u48 u49 u50 u51 u52 u53 u54 u55 u56 u57 u58 u59 u60 u61 u62 u63 u64 u65 u66 u67 u68 u69 u70 u71 u72 u73 u74 u75 u76 j cj Avj cvj;exact HG2.out
 refine ub 8 (fun wq=>jT wq w.heap.size A1 ms.length c1 r) (fun _=>True) ?_;refine oM 0 ⟨HQ.out _ hD0,trivial⟩ ?_ (hy:=oB);refine oM 2 ⟨HQ.out _ hD0,trivial⟩ ?_ (hy:=oB);refine oM 3 ⟨HQ.out _ hD0,trivial⟩ ?_ (hy:=oB);refine oM 4 ⟨HQ.out _ hD0,trivial⟩ ?_ (hy:=oB);refine ua [1,5,6] fun j hj=>?_;have hj2:j=1\/j=5\/j=6:=by simpa using hj
 clear hj;rcases hj2 with rfl|rfl|rfl
 ·refine zAi rfl (by rfl) (fun K9 hK=>?_);go_simp;refine (hcR.out _ hD0).mono ?_;rintro e y01 ⟨lv,rfl,hlo,hby01⟩;obtain⟨Ao,co,rfl⟩:=hlo.form;have hlb:∀ g,(vS Ao (visR ms r.toNat).length co).ownBlock=some g->V1.heap.size<=g/\g<y01.heap.size:=fun g hg=>OwnE.ltB hlo hg;have hy01:bW V1 y01:=hD0.trans (hby01.mono hD0.size);have hsy01:V1.heap.size<=y01.heap.size:=hby01.size;replace hlo:=OwnE.mono hlo (show V1.heap.size<=V1.heap.size from hD0.size);refine hK _ _ ⟨⟨HQ.out _ hy01,fun _=>trivial⟩,oQ ?_⟩;clear hK K9;refine ua [5,6] fun j hj=>?_;have hj2:j=5\/j=6:=by simpa using hj
  clear hj;rcases hj2 with rfl|rfl
  ·obtain⟨y115,hmk,hjr,hby115,hz5⟩:=zDj y01 ms.length HT.out.1;obtain⟨pg,hpg⟩:∃ pg,pg=y01.heap.size:=⟨_,rfl⟩;rw[<-hpg]at hmk hjr;have hy115:bW V1 y115:=hy01.trans (hby115.mono hy01.size);have hsy115:y01.heap.size<=pg/\pg<y115.heap.size:=by rw[hpg];exact⟨Bb _,by rw[<-hpg];exact hjr.lt⟩
   clear hpg hz5;refine zAi rfl (by rfl) (fun K9 hK=>?_);go_simp;replace hlo:=OwnE.stay zAp hlo fun g hg hl=>hby115.block g hl;have hqy115:=hby115.size;refine hK _ _ ⟨⟨HQ.out _ hy115,fun _=>trivial⟩,oQ ?_⟩;clear hK K9;clear hmk;obtain⟨y2156,hwN⟩:∃ q,q=y115.alloc (.cells #[vS none 0 0] 25 (0,0)):=⟨_,rfl⟩;obtain⟨pbx,hpx⟩:∃ q,q=y115.heap.size:=⟨_,rfl⟩;have hby2156:bW y115 y2156:=by rw[hwN];exact yR.alloc lR _
   have hy2156:bW V1 y2156:=hy115.trans (hby2156.mono hy115.size);have hpb:y2156.heap[pbx]?=some (.cells #[vS none 0 0] 25 (0,0)):=by rw[hwN,hpx];exact Bk y115 _
   have hsy2156:y115.heap.size<=pbx/\pbx<y2156.heap.size:=by rw[hpx,hwN];exact⟨Bb _,by simp⟩
   refine uo 6 (fun K9 hK=>?_);go_simp;rw[<-hwN,<-hpx];clear hwN hpx;have hjr2:=hjr.on (hby2156.block pg (by omega));replace hjr:=hjr2;clear hjr2;replace hlo:=OwnE.stay zAp hlo fun g hg hl=>hby2156.block g hl;have hqy2156:=hby2156.size;refine hK _ _ ⟨HQ.out _ hy2156,fun _=>trivial⟩ (oQ ?_);clear hK K9;refine oM 7 ⟨HQ.out _ hy2156,trivial⟩ ?_ (hy:=oB);have f8:=Bz hpb 0;have z8:=cH hpb 0;have hcs8:=hy2156.size;obtain⟨U,hU⟩:∃ U,U=y2156.setCell (aD pbx 0) (vS (some (aD pg 0)) ms.length ms.length):=⟨_,rfl⟩;have ho8:∀ b,b≠pbx->U.heap[b]?=y2156.heap[b]?:=fun b hb=>by rw[hU];exact Bp _ (aD pbx 0) b _ hb
   have hz8:U.heap.size=y2156.heap.size:=by rw[hU];simp
   have hpb8:U.heap[pbx]?=some (.cells #[vS (some (aD pg 0)) ms.length ms.length] 25 (0,0)):=by rw[hU];exact (Bm y2156 pbx 0 _ _ _ hpb).trans rfl
   have hj8:JRow U pg (List.replicate ms.length 0):=hjr.on (ho8 pg (by omega));have hl8:OwnI U V1.heap.size (vS Ao (visR ms r.toNat).length co) (visR ms r.toNat):=OwnE.stay zAp hlo fun g hg _=>ho8 g (by have:=hlb g hg;omega);have h8:bW V1 U:=by rw[hU];exact hy2156.setCell (p:=(aD pbx 0)) (by show V1.heap.size<=pbx;omega) _
   refine uo 8 (fun K9 hK=>?_);go_simp;rw[<-hU];refine hK _ _ ⟨HQ.out _ h8,ug⟩ (oQ ?_);clear hK K9;refine (ud ?_) _;exact fin Ao co pg pbx U (xI ⟨hj8,hpb8,hl8,h8,⟨by omega,by omega,by omega⟩,fun g hg=>by have:=hlb g hg;omega⟩)
  ·obtain⟨y116,hwN⟩:∃ q,q=y01.alloc (.cells #[vS none 0 0] 25 (0,0)):=⟨_,rfl⟩;obtain⟨pbx,hpx⟩:∃ q,q=y01.heap.size:=⟨_,rfl⟩;have hby116:bW y01 y116:=by rw[hwN];exact yR.alloc lR _
   have hy116:bW V1 y116:=hy01.trans (hby116.mono hy01.size);have hpb:y116.heap[pbx]?=some (.cells #[vS none 0 0] 25 (0,0)):=by rw[hwN,hpx];exact Bk y01 _
   have hsy116:y01.heap.size<=pbx/\pbx<y116.heap.size:=by rw[hpx,hwN];exact⟨Bb _,by simp⟩
   refine zAi rfl (by rfl) (fun K9 hK=>?_);go_simp;rw[<-hwN,<-hpx];clear hwN hpx;replace hlo:=OwnE.stay zAp hlo fun g hg hl=>hby116.block g hl;have hqy116:=hby116.size;refine hK _ _ ⟨⟨HQ.out _ hy116,fun _=>trivial⟩,oQ ?_⟩;clear hK K9;refine oM 7 ⟨HQ.out _ hy116,trivial⟩ ?_ (hy:=oB);obtain⟨y2165,hmk,hjr,hby2165,hz5⟩:=zDj y116 ms.length HT.out.1;obtain⟨pg,hpg⟩:∃ pg,pg=y116.heap.size:=⟨_,rfl⟩;rw[<-hpg]at hmk hjr;have hy2165:bW V1 y2165:=hy116.trans (hby2165.mono hy116.size);have hsy2165:y116.heap.size<=pg/\pg<y2165.heap.size:=by rw[hpg];exact⟨Bb _,by rw[<-hpg];exact hjr.lt⟩
   clear hpg hz5;refine uo 5 (fun K9 hK=>?_);go_simp;have hpb2:=(hby2165.block pbx (by omega)).trans hpb;replace hpb:=hpb2;clear hpb2;replace hlo:=OwnE.stay zAp hlo fun g hg hl=>hby2165.block g hl;have hqy2165:=hby2165.size;refine hK _ _ ⟨HQ.out _ hy2165,fun _=>trivial⟩ (oQ ?_);clear hK K9;clear hmk;have f8:=Bz hpb 0;have z8:=cH hpb 0;have hcs8:=hy2165.size;obtain⟨U,hU⟩:∃ U,U=y2165.setCell (aD pbx 0) (vS (some (aD pg 0)) ms.length ms.length):=⟨_,rfl⟩;have ho8:∀ b,b≠pbx->U.heap[b]?=y2165.heap[b]?:=fun b hb=>by rw[hU];exact Bp _ (aD pbx 0) b _ hb
   have hz8:U.heap.size=y2165.heap.size:=by rw[hU];simp
   have hpb8:U.heap[pbx]?=some (.cells #[vS (some (aD pg 0)) ms.length ms.length] 25 (0,0)):=by rw[hU];exact (Bm y2165 pbx 0 _ _ _ hpb).trans rfl
   have hj8:JRow U pg (List.replicate ms.length 0):=hjr.on (ho8 pg (by omega));have hl8:OwnI U V1.heap.size (vS Ao (visR ms r.toNat).length co) (visR ms r.toNat):=OwnE.stay zAp hlo fun g hg _=>ho8 g (by have:=hlb g hg;omega);have h8:bW V1 U:=by rw[hU];exact hy2165.setCell (p:=(aD pbx 0)) (by show V1.heap.size<=pbx;omega) _
   refine uo 8 (fun K9 hK=>?_);go_simp;rw[<-hU];refine hK _ _ ⟨HQ.out _ h8,ug⟩ (oQ ?_);clear hK K9;refine (ud ?_) _;exact fin Ao co pg pbx U (xI ⟨hj8,hpb8,hl8,h8,⟨by omega,by omega,by omega⟩,fun g hg=>by have:=hlb g hg;omega⟩)
 ·obtain⟨y05,hmk,hjr,hby05,hz5⟩:=zDj V1.drew ms.length HT.out.1;obtain⟨pg,hpg⟩:∃ pg,pg=V1.drew.heap.size:=⟨_,rfl⟩;rw[<-hpg]at hmk hjr;have hy05:bW V1 y05:=hD0.trans (hby05.mono hD0.size);have hsy05:V1.heap.size<=pg/\pg<y05.heap.size:=by rw[hpg];exact⟨Bb _,by rw[<-hpg];exact hjr.lt⟩
  clear hpg hz5;refine zAi rfl (by rfl) (fun K9 hK=>?_);go_simp;have hqy05:=hby05.size;refine hK _ _ ⟨⟨HQ.out _ hy05,fun _=>trivial⟩,oQ ?_⟩;clear hK K9;clear hmk;refine ua [1,6] fun j hj=>?_;have hj2:j=1\/j=6:=by simpa using hj
  clear hj;rcases hj2 with rfl|rfl
  ·refine zAi rfl (by rfl) (fun K9 hK=>?_);go_simp;refine (hcR.out _ hy05).mono ?_;rintro e y151 ⟨lv,rfl,hlo,hby151⟩;obtain⟨Ao,co,rfl⟩:=hlo.form;have hlb:∀ g,(vS Ao (visR ms r.toNat).length co).ownBlock=some g->y05.heap.size<=g/\g<y151.heap.size:=fun g hg=>OwnE.ltB hlo hg;have hy151:bW V1 y151:=hy05.trans (hby151.mono hy05.size);have hsy151:y05.heap.size<=y151.heap.size:=hby151.size;replace hlo:=OwnE.mono hlo (show V1.heap.size<=y05.heap.size from hy05.size);have hjr2:=hjr.on (hby151.block pg (by omega));replace hjr:=hjr2;clear hjr2;refine hK _ _ ⟨⟨HQ.out _ hy151,fun _=>trivial⟩,oQ ?_⟩;clear hK K9;obtain⟨y2516,hwN⟩:∃ q,q=y151.alloc (.cells #[vS none 0 0] 25 (0,0)):=⟨_,rfl⟩;obtain⟨pbx,hpx⟩:∃ q,q=y151.heap.size:=⟨_,rfl⟩;have hby2516:bW y151 y2516:=by rw[hwN];exact yR.alloc lR _
   have hy2516:bW V1 y2516:=hy151.trans (hby2516.mono hy151.size);have hpb:y2516.heap[pbx]?=some (.cells #[vS none 0 0] 25 (0,0)):=by rw[hwN,hpx];exact Bk y151 _
   have hsy2516:y151.heap.size<=pbx/\pbx<y2516.heap.size:=by rw[hpx,hwN];exact⟨Bb _,by simp⟩
   refine uo 6 (fun K9 hK=>?_);go_simp;rw[<-hwN,<-hpx];clear hwN hpx;have hjr2:=hjr.on (hby2516.block pg (by omega));replace hjr:=hjr2;clear hjr2;replace hlo:=OwnE.stay zAp hlo fun g hg hl=>hby2516.block g hl;have hqy2516:=hby2516.size;refine hK _ _ ⟨HQ.out _ hy2516,fun _=>trivial⟩ (oQ ?_);clear hK K9;refine oM 7 ⟨HQ.out _ hy2516,trivial⟩ ?_ (hy:=oB);have f8:=Bz hpb 0;have z8:=cH hpb 0;have hcs8:=hy2516.size;obtain⟨U,hU⟩:∃ U,U=y2516.setCell (aD pbx 0) (vS (some (aD pg 0)) ms.length ms.length):=⟨_,rfl⟩;have ho8:∀ b,b≠pbx->U.heap[b]?=y2516.heap[b]?:=fun b hb=>by rw[hU];exact Bp _ (aD pbx 0) b _ hb
   have hz8:U.heap.size=y2516.heap.size:=by rw[hU];simp
   have hpb8:U.heap[pbx]?=some (.cells #[vS (some (aD pg 0)) ms.length ms.length] 25 (0,0)):=by rw[hU];exact (Bm y2516 pbx 0 _ _ _ hpb).trans rfl
   have hj8:JRow U pg (List.replicate ms.length 0):=hjr.on (ho8 pg (by omega));have hl8:OwnI U V1.heap.size (vS Ao (visR ms r.toNat).length co) (visR ms r.toNat):=OwnE.stay zAp hlo fun g hg _=>ho8 g (by have:=hlb g hg;omega);have h8:bW V1 U:=by rw[hU];exact hy2516.setCell (p:=(aD pbx 0)) (by show V1.heap.size<=pbx;omega) _
   refine uo 8 (fun K9 hK=>?_);go_simp;rw[<-hU];refine hK _ _ ⟨HQ.out _ h8,ug⟩ (oQ ?_);clear hK K9;refine (ud ?_) _;exact fin Ao co pg pbx U (xI ⟨hj8,hpb8,hl8,h8,⟨by omega,by omega,by omega⟩,fun g hg=>by have:=hlb g hg;omega⟩)
  ·obtain⟨y156,hwN⟩:∃ q,q=y05.alloc (.cells #[vS none 0 0] 25 (0,0)):=⟨_,rfl⟩;obtain⟨pbx,hpx⟩:∃ q,q=y05.heap.size:=⟨_,rfl⟩;have hby156:bW y05 y156:=by rw[hwN];exact yR.alloc lR _
   have hy156:bW V1 y156:=hy05.trans (hby156.mono hy05.size);have hpb:y156.heap[pbx]?=some (.cells #[vS none 0 0] 25 (0,0)):=by rw[hwN,hpx];exact Bk y05 _
   have hsy156:y05.heap.size<=pbx/\pbx<y156.heap.size:=by rw[hpx,hwN];exact⟨Bb _,by simp⟩
   refine zAi rfl (by rfl) (fun K9 hK=>?_);go_simp;rw[<-hwN,<-hpx];clear hwN hpx;have hjr2:=hjr.on (hby156.block pg (by omega));replace hjr:=hjr2;clear hjr2;have hqy156:=hby156.size;refine hK _ _ ⟨⟨HQ.out _ hy156,fun _=>trivial⟩,oQ ?_⟩;clear hK K9;refine uo 1 (fun K9 hK=>?_);go_simp;refine (hcR.out _ hy156).mono ?_;rintro e y2561 ⟨lv,rfl,hlo,hby2561⟩;obtain⟨Ao,co,rfl⟩:=hlo.form;have hlb:∀ g,(vS Ao (visR ms r.toNat).length co).ownBlock=some g->y156.heap.size<=g/\g<y2561.heap.size:=fun g hg=>OwnE.ltB hlo hg;have hy2561:bW V1 y2561:=hy156.trans (hby2561.mono hy156.size);have hsy2561:y156.heap.size<=y2561.heap.size:=hby2561.size;replace hlo:=OwnE.mono hlo (show V1.heap.size<=y156.heap.size from hy156.size);have hjr2:=hjr.on (hby2561.block pg (by omega));replace hjr:=hjr2;clear hjr2;have hpb2:=(hby2561.block pbx (by omega)).trans hpb;replace hpb:=hpb2;clear hpb2;refine hK _ _ ⟨HQ.out _ hy2561,fun _=>trivial⟩ (oQ ?_);clear hK K9;refine oM 7 ⟨HQ.out _ hy2561,trivial⟩ ?_ (hy:=oB);have f8:=Bz hpb 0;have z8:=cH hpb 0;have hcs8:=hy2561.size;obtain⟨U,hU⟩:∃ U,U=y2561.setCell (aD pbx 0) (vS (some (aD pg 0)) ms.length ms.length):=⟨_,rfl⟩;have ho8:∀ b,b≠pbx->U.heap[b]?=y2561.heap[b]?:=fun b hb=>by rw[hU];exact Bp _ (aD pbx 0) b _ hb
   have hz8:U.heap.size=y2561.heap.size:=by rw[hU];simp
   have hpb8:U.heap[pbx]?=some (.cells #[vS (some (aD pg 0)) ms.length ms.length] 25 (0,0)):=by rw[hU];exact (Bm y2561 pbx 0 _ _ _ hpb).trans rfl
   have hj8:JRow U pg (List.replicate ms.length 0):=hjr.on (ho8 pg (by omega));have hl8:OwnI U V1.heap.size (vS Ao (visR ms r.toNat).length co) (visR ms r.toNat):=OwnE.stay zAp hlo fun g hg _=>ho8 g (by have:=hlb g hg;omega);have h8:bW V1 U:=by rw[hU];exact hy2561.setCell (p:=(aD pbx 0)) (by show V1.heap.size<=pbx;omega) _
   refine uo 8 (fun K9 hK=>?_);go_simp;rw[<-hU];refine hK _ _ ⟨HQ.out _ h8,ug⟩ (oQ ?_);clear hK K9;refine (ud ?_) _;exact fin Ao co pg pbx U (xI ⟨hj8,hpb8,hl8,h8,⟨by omega,by omega,by omega⟩,fun g hg=>by have:=hlb g hg;omega⟩)
 ·obtain⟨y06,hwN⟩:∃ q,q=(V1.alloc (.cells #[vS none 0 0] 25 (0,0))).drew:=⟨_,rfl⟩;obtain⟨pbx,hpx⟩:∃ q,q=V1.heap.size:=⟨_,rfl⟩;have hby06:bW V1 y06:=by rw[hwN];exact ((By _ V1).alloc lR _).drew
  have hy06:bW V1 y06:=hby06;have hpb:y06.heap[pbx]?=some (.cells #[vS none 0 0] 25 (0,0)):=by rw[hwN,hpx];exact Bk V1 _
  have hsy06:V1.heap.size<=pbx/\pbx<y06.heap.size:=by rw[hpx,hwN];exact⟨Bb _,by simp⟩
  refine zAi rfl (by rfl) (fun K9 hK=>?_);go_simp;rw[<-hwN,<-hpx];clear hwN hpx;have hqy06:=hby06.size;refine hK _ _ ⟨⟨HQ.out _ hy06,fun _=>trivial⟩,oQ ?_⟩;clear hK K9;refine ua [1,5] fun j hj=>?_;have hj2:j=1\/j=5:=by simpa using hj
  clear hj;rcases hj2 with rfl|rfl
  ·refine zAi rfl (by rfl) (fun K9 hK=>?_);go_simp;refine (hcR.out _ hy06).mono ?_;rintro e y161 ⟨lv,rfl,hlo,hby161⟩;obtain⟨Ao,co,rfl⟩:=hlo.form;have hlb:∀ g,(vS Ao (visR ms r.toNat).length co).ownBlock=some g->y06.heap.size<=g/\g<y161.heap.size:=fun g hg=>OwnE.ltB hlo hg;have hy161:bW V1 y161:=hy06.trans (hby161.mono hy06.size);have hsy161:y06.heap.size<=y161.heap.size:=hby161.size;replace hlo:=OwnE.mono hlo (show V1.heap.size<=y06.heap.size from hy06.size);have hpb2:=(hby161.block pbx (by omega)).trans hpb;replace hpb:=hpb2;clear hpb2;refine hK _ _ ⟨⟨HQ.out _ hy161,fun _=>trivial⟩,oQ ?_⟩;clear hK K9;refine oM 7 ⟨HQ.out _ hy161,trivial⟩ ?_ (hy:=oB);obtain⟨y2615,hmk,hjr,hby2615,hz5⟩:=zDj y161 ms.length HT.out.1;obtain⟨pg,hpg⟩:∃ pg,pg=y161.heap.size:=⟨_,rfl⟩;rw[<-hpg]at hmk hjr;have hy2615:bW V1 y2615:=hy161.trans (hby2615.mono hy161.size);have hsy2615:y161.heap.size<=pg/\pg<y2615.heap.size:=by rw[hpg];exact⟨Bb _,by rw[<-hpg];exact hjr.lt⟩
   clear hpg hz5;refine uo 5 (fun K9 hK=>?_);go_simp;have hpb2:=(hby2615.block pbx (by omega)).trans hpb;replace hpb:=hpb2;clear hpb2;replace hlo:=OwnE.stay zAp hlo fun g hg hl=>hby2615.block g hl;have hqy2615:=hby2615.size;refine hK _ _ ⟨HQ.out _ hy2615,fun _=>trivial⟩ (oQ ?_);clear hK K9;clear hmk;have f8:=Bz hpb 0;have z8:=cH hpb 0;have hcs8:=hy2615.size;obtain⟨U,hU⟩:∃ U,U=y2615.setCell (aD pbx 0) (vS (some (aD pg 0)) ms.length ms.length):=⟨_,rfl⟩;have ho8:∀ b,b≠pbx->U.heap[b]?=y2615.heap[b]?:=fun b hb=>by rw[hU];exact Bp _ (aD pbx 0) b _ hb
   have hz8:U.heap.size=y2615.heap.size:=by rw[hU];simp
   have hpb8:U.heap[pbx]?=some (.cells #[vS (some (aD pg 0)) ms.length ms.length] 25 (0,0)):=by rw[hU];exact (Bm y2615 pbx 0 _ _ _ hpb).trans rfl
   have hj8:JRow U pg (List.replicate ms.length 0):=hjr.on (ho8 pg (by omega));have hl8:OwnI U V1.heap.size (vS Ao (visR ms r.toNat).length co) (visR ms r.toNat):=OwnE.stay zAp hlo fun g hg _=>ho8 g (by have:=hlb g hg;omega);have h8:bW V1 U:=by rw[hU];exact hy2615.setCell (p:=(aD pbx 0)) (by show V1.heap.size<=pbx;omega) _
   refine uo 8 (fun K9 hK=>?_);go_simp;rw[<-hU];refine hK _ _ ⟨HQ.out _ h8,ug⟩ (oQ ?_);clear hK K9;refine (ud ?_) _;exact fin Ao co pg pbx U (xI ⟨hj8,hpb8,hl8,h8,⟨by omega,by omega,by omega⟩,fun g hg=>by have:=hlb g hg;omega⟩)
  ·obtain⟨y165,hmk,hjr,hby165,hz5⟩:=zDj y06 ms.length HT.out.1;obtain⟨pg,hpg⟩:∃ pg,pg=y06.heap.size:=⟨_,rfl⟩;rw[<-hpg]at hmk hjr;have hy165:bW V1 y165:=hy06.trans (hby165.mono hy06.size);have hsy165:y06.heap.size<=pg/\pg<y165.heap.size:=by rw[hpg];exact⟨Bb _,by rw[<-hpg];exact hjr.lt⟩
   clear hpg hz5;refine zAi rfl (by rfl) (fun K9 hK=>?_);go_simp;have hpb2:=(hby165.block pbx (by omega)).trans hpb;replace hpb:=hpb2;clear hpb2;have hqy165:=hby165.size;refine hK _ _ ⟨⟨HQ.out _ hy165,fun _=>trivial⟩,oQ ?_⟩;clear hK K9;clear hmk;refine uo 1 (fun K9 hK=>?_);go_simp;refine (hcR.out _ hy165).mono ?_;rintro e y2651 ⟨lv,rfl,hlo,hby2651⟩;obtain⟨Ao,co,rfl⟩:=hlo.form;have hlb:∀ g,(vS Ao (visR ms r.toNat).length co).ownBlock=some g->y165.heap.size<=g/\g<y2651.heap.size:=fun g hg=>OwnE.ltB hlo hg;have hy2651:bW V1 y2651:=hy165.trans (hby2651.mono hy165.size);have hsy2651:y165.heap.size<=y2651.heap.size:=hby2651.size;replace hlo:=OwnE.mono hlo (show V1.heap.size<=y165.heap.size from hy165.size);have hjr2:=hjr.on (hby2651.block pg (by omega));replace hjr:=hjr2;clear hjr2;have hpb2:=(hby2651.block pbx (by omega)).trans hpb;replace hpb:=hpb2;clear hpb2;refine hK _ _ ⟨HQ.out _ hy2651,fun _=>trivial⟩ (oQ ?_);clear hK K9;refine oM 7 ⟨HQ.out _ hy2651,trivial⟩ ?_ (hy:=oB);have f8:=Bz hpb 0;have z8:=cH hpb 0;have hcs8:=hy2651.size;obtain⟨U,hU⟩:∃ U,U=y2651.setCell (aD pbx 0) (vS (some (aD pg 0)) ms.length ms.length):=⟨_,rfl⟩;have ho8:∀ b,b≠pbx->U.heap[b]?=y2651.heap[b]?:=fun b hb=>by rw[hU];exact Bp _ (aD pbx 0) b _ hb
   have hz8:U.heap.size=y2651.heap.size:=by rw[hU];simp
   have hpb8:U.heap[pbx]?=some (.cells #[vS (some (aD pg 0)) ms.length ms.length] 25 (0,0)):=by rw[hU];exact (Bm y2651 pbx 0 _ _ _ hpb).trans rfl
   have hj8:JRow U pg (List.replicate ms.length 0):=hjr.on (ho8 pg (by omega));have hl8:OwnI U V1.heap.size (vS Ao (visR ms r.toNat).length co) (visR ms r.toNat):=OwnE.stay zAp hlo fun g hg _=>ho8 g (by have:=hlb g hg;omega);have h8:bW V1 U:=by rw[hU];exact hy2651.setCell (p:=(aD pbx 0)) (by show V1.heap.size<=pbx;omega) _
   refine uo 8 (fun K9 hK=>?_);go_simp;rw[<-hU];refine hK _ _ ⟨HQ.out _ h8,ug⟩ (oQ ?_);clear hK K9;refine (ud ?_) _;exact fin Ao co pg pbx U (xI ⟨hj8,hpb8,hl8,h8,⟨by omega,by omega,by omega⟩,fun g hg=>by have:=hlb g hg;omega⟩)⟩
end Go.Proofs.YteedihhdcbepmaaGreat
namespace Go.Proofs.YteedihhdcbepmaaGreat.Iv
abbrev Rg:=Int×Int
def LO:Int:=-9223372036854775808
def HI:Int:=9223372036854775807
def inR (r:Rg) (n:Int):Prop:=r.1<=n/\n<=r.2
def hasI (l:List Rg) (n:Int):Prop:=∃ r∈l,inR r n
def Fit1 (r:Rg):Prop:=LO<=r.1/\r.1<=HI/\LO<=r.2/\r.2<=HI
def Fit (l:List Rg):Prop:=∀ r∈l,Fit1 r
def Nf (l:List Rg):Prop:=(∀ r∈l,r.1<=r.2)/\l.Pairwise (fun a b=>a.2+1<b.1)
theorem zJ4 (n:Int):¬ hasI [] n:=by simp[hasI]
theorem zAz (r:Rg) (l:List Rg) (n:Int):hasI (r::l) n↔inR r n\/hasI l n:=by simp[hasI]
theorem zJf (a b:List Rg) (n:Int):hasI (a++b) n↔hasI a n\/hasI b n:=by
 simp only[hasI,Cy];constructor
 ·rintro⟨r,h|h,hr⟩
  ·exact .inl ⟨r,h,hr⟩
  ·exact .inr ⟨r,h,hr⟩
 ·rintro (⟨r,h,hr⟩|⟨r,h,hr⟩)
  ·exact⟨r,.inl h,hr⟩
  ·exact⟨r,.inr h,hr⟩
theorem zRm:Nf []:=⟨by simp,.nil⟩
theorem zDx {r:Rg}{l:List Rg}:Nf (r::l)↔r.1<=r.2/\(∀ x∈l,r.2+1<x.1)/\Nf l:=by
 simp only[Nf,Cs,Dj];constructor
 ·rintro⟨h1,h2,h3⟩;exact⟨h1 r (.inl rfl),h2,fun x hx=>h1 x (.inr hx),h3⟩
 ·rintro⟨h1,h2,h3,h4⟩;refine⟨?_,h2,h4⟩;rintro x (rfl|hx)
  ·exact h1
  ·exact h3 x hx
theorem zDg {r:Rg}{l:List Rg}(h:Nf (r::l)){n:Int}(hn:hasI l n):r.2+1<n:=by
 obtain⟨x,hx,h1,h2⟩:=hn;have:=(zDx.1 h).2.1 x hx;omega
theorem zId:∀ (a b:List Rg),Nf a->Nf b->(∀ n,hasI a n↔hasI b n)->a=b
 | [],[],_,_,_=>rfl
 | [],r::b,_,hb,h=>by
  have h1:=(zDx.1 hb).1;exact absurd ((h r.1).2 ((zAz _ _ _).2 (.inl ⟨Int.le_refl _,h1⟩))) (zJ4 _)
 | r::a,[],ha,_,h=>by
  have h1:=(zDx.1 ha).1;exact absurd ((h r.1).1 ((zAz _ _ _).2 (.inl ⟨Int.le_refl _,h1⟩))) (zJ4 _)
 | r::a,s::b,ha,hb,h=>by
  have ra:=(zDx.1 ha).1;have sb:=(zDx.1 hb).1;have e1:r.1=s.1:=by
   have p:s.1<=r.1:=by
    rcases (zAz _ _ _).1 ((h r.1).1 ((zAz _ _ _).2 (.inl ⟨Int.le_refl _,ra⟩)))with hx|hx
    ·exact hx.1
    ·have:=zDg hb hx;omega
   have q:r.1<=s.1:=by
    rcases (zAz _ _ _).1 ((h s.1).2 ((zAz _ _ _).2 (.inl ⟨Int.le_refl _,sb⟩)))with hx|hx
    ·exact hx.1
    ·have:=zDg ha hx;omega
   omega
  have e2:r.2=s.2:=by
   by_cases hlt:r.2<s.2
   ·have:hasI (r::a) (r.2+1):=(h _).2 ((zAz _ _ _).2 (.inl ⟨by omega,by omega⟩));rcases (zAz _ _ _).1 this with hx|hx
    ·have:=hx.2;omega
    ·have:=zDg ha hx;omega
   ·by_cases hgt:s.2<r.2
    ·have:hasI (s::b) (s.2+1):=(h _).1 ((zAz _ _ _).2 (.inl ⟨by omega,by omega⟩));rcases (zAz _ _ _).1 this with hx|hx
     ·have:=hx.2;omega
     ·have:=zDg hb hx;omega
    ·omega
  have e:r=s:=Prod.ext e1 e2;subst e;congr 1;refine zId a b (zDx.1 ha).2.2 (zDx.1 hb).2.2 fun n=>?_;constructor
  ·intro hn;have h1:=zDg ha hn;rcases (zAz _ _ _).1 ((h n).1 ((zAz _ _ _).2 (.inr hn)))with hx|hx
   ·have:=hx.2;omega
   ·exact hx
  ·intro hn;have h1:=zDg hb hn;rcases (zAz _ _ _).1 ((h n).2 ((zAz _ _ _).2 (.inr hn)))with hx|hx
   ·have:=hx.2;omega
   ·exact hx
open Classical in
noncomputable def nfOf (P:Int->Prop):List Rg:=if h:∃ m,Nf m/\∀ n,hasI m n↔P n then h.choose else []
theorem zQs {m:List Rg}{P:Int->Prop}(h1:Nf m) (h2:∀ n,hasI m n↔P n):m=nfOf P:=by
 have h:∃ m,Nf m/\∀ n,hasI m n↔P n:=⟨m,h1,h2⟩;unfold nfOf;rw[dif_pos h];exact zId _ _ h1 h.choose_spec.1 fun n=>(h2 n).trans (h.choose_spec.2 n).symm
theorem zMd {m:List Rg}{r:Rg}(h:Nf m) (hr:r.1<=r.2) (hg:∀ x∈m,x.2+1<r.1):Nf (m++[r]):=by
 refine⟨?_,?_⟩
 ·intro x hx;rcases Cy.1 hx with hx|hx
  ·exact h.1 x hx
  ·rw[Cq.1 hx];exact hr
 ·rw[List.pairwise_append];refine⟨h.2,by simp,?_⟩;intro x hx y hy;rw[Cq.1 hy];exact hg x hx
theorem zFo {m:List Rg}{r:Rg}(h:Nf (m++[r])):Nf m/\r.1<=r.2/\∀ x∈m,x.2+1<r.1:=by
 have h2:=List.pairwise_append.1 h.2;exact⟨⟨fun x hx=>h.1 x (List.mem_append_left _ hx),h2.1⟩,h.1 r (by simp),fun x hx=>h2.2.2 x hx r (by simp)⟩
theorem zEd (m:List Rg) (r:Rg) (n:Int):hasI (m++[r]) n↔hasI m n\/inR r n:=by
 rw[zJf];simp[hasI]
theorem zOe {m:List Rg}{x r:Rg}(h:Nf (m++[x])) (h1:x.1<=r.1) (h2:r.1<=x.2+1) (h3:r.1<=r.2) :
  Nf (m++[(x.1,max x.2 r.2)])/\∀ n,hasI (m++[(x.1,max x.2 r.2)]) n↔hasI (m++[x]) n\/inR r n:=by
 obtain⟨a,b,c⟩:=zFo h;refine⟨zMd a (by simp only;omega) c,fun n=>?_⟩;rw[zEd,zEd];simp only[inR];constructor
 ·rintro (q|q)
  ·exact .inl (.inl q)
  ·by_cases hn:n<=x.2
   ·exact .inl (.inr ⟨q.1,hn⟩)
   ·exact .inr ⟨by omega,by omega⟩
 ·rintro ((q|q)|q)
  ·exact .inl q
  ·exact .inr ⟨q.1,by omega⟩
  ·exact .inr ⟨by omega,by omega⟩
instance (l:List Rg):Decidable (Nf l):=by unfold Nf;infer_instance
end Go.Proofs.YteedihhdcbepmaaGreat.Iv
namespace Go.Proofs.YteedihhdcbepmaaGreat
open Go Go.RowKit Go.Sort Go.Shelf Go.Proofs
theorem Tryz.sortS_string (blk off cap:Nat) (ss:List Strg) (w:World) (hH:Holds encStr w blk off ss.toArray) (hblk:blk<w.heap.size) (hsz:ss.length<4611686018427387904) :
  Calls tP 94 #[vS (some (aD blk off)) ss.length cap] w fun e w'=>e=.returned (.tuple #[])/\∃ n os,w'=grow (putRow encStr (Sort.ahead w n) blk off (ss.mergeSort fun x y=>decide (x<=y)).toArray) os:=
 Any.slices_Sort_string Tryz.laysSortS blk off cap ss w hH hblk hsz
theorem Tryz.sortS_none (p:Option Addr) (cap:Nat) (w:World) :
  Calls tP 94 #[vS p 0 cap] w fun e w'=>e=.returned (.tuple #[])/\w'=w:=
 calls_of_every_depth fun D=>AnyS.slices_Sort_string_none_in Tryz.laysSortS D p cap w
theorem zGo {w:World}{B g n cap q m:Nat}{ss:List Strg}{d:Array Strg}{os:Array Obj}(h:OwnN w B (vS (some (aD g 0)) n cap) ss) (hn:ss.length=n) (hd:d.size=n) (hm:m<=n) :
  OwnN (grow (putRow encStr (Sort.ahead w q) g 0 d) os) B (vS (some (aD g 0)) m cap) (d.toList.take m)/\w.grownBy (grow (putRow encStr (Sort.ahead w q) g 0 d) os) (some g):=by
 subst hn;rcases h.2 with⟨h',_⟩|⟨g',o,b,h',hb,hg,p,l,i,a⟩
 ·simp at h'
 ·simp only[Value.slice.injEq,Cu,Addr.mk.injEq,and_true,true_and]at h';obtain⟨rfl,rfl⟩:=h';have c:g<w.heap.size:=(Cp.1 hg).1;have hh:(grow (putRow encStr (Sort.ahead w q) g 0 d) os).heap[g]?=some (.cells (putCells encStr 0 d b) 9 (0,0)):=by
   rw[heap_grow_old _ _ (by simpa [putRow,mapBlock,Sort.ahead] using c)];simp[putRow,mapBlock,Sort.ahead,Array.getElem?_modify,hg,onCells]
  have hl:(d.toList.take m).length=m:=by rw[Bh,Array.length_toList];omega
  refine⟨⟨by simp,.inr ⟨g,cap,_,by rw[hl],hb,hh,by rw[hl];omega,l,by simp[putCells,i],?_⟩⟩,rfl,rfl,rfl,?_,fun k hk hne=>?_⟩
  ·rw[hl];apply Dr;intro j;by_cases hj:j<m
   ·rw[Cm (by omega),Ej,Cg,Cm hj,Ej];have hc:j<b.size:=by omega
    have f:j<d.size:=by omega
    simp[putCells,hc,f]
   ·rw[List.getElem?_take_eq_none (by omega),Ce (by rw[Bj,hl];omega)]
  ·simp[putRow,mapBlock,Sort.ahead,grow]
  ·rw[heap_grow_old _ _ (by simpa [putRow,mapBlock,Sort.ahead] using hk)];have:g≠k:=fun e=>hne (by rw[e]);simp[putRow,mapBlock,Sort.ahead,Array.getElem?_modify,this]
theorem zLz (v:Value) (ss:List Strg) (w:World) (B:Nat) (hO:OwnN w B v ss) (hB:B<=w.heap.size) (hn:ss.length<=1000000000) :
  Calls tP 94 #[v] w fun e w'=>e=.returned (.tuple #[])/\OwnN w' B v (ss.mergeSort fun x y=>decide (x<=y))/\Below B w w':=by
 rcases C7 ss.length with h0|h0
 ·have hr:ss=[]:=Cd h0;subst hr;obtain⟨A,c,rfl⟩:=hO.form;exact (Tryz.sortS_none A c w).mono fun e w' ⟨he,hw⟩=>⟨he,by rw[hw,List.mergeSort_nil];exact hO,by rw[hw];exact By _ _⟩
 ·obtain⟨g,c,rfl,f,a,b⟩:=hO.formG h0;refine (Tryz.sortS_string g 0 c ss w (hO.holds rfl) a (by omega)).mono fun e w' ⟨he,q,os,hw⟩=>?_;have hl:(ss.mergeSort fun x y=>decide (x<=y)).length=ss.length:=List.length_mergeSort _;have:=zGo (q:=q) (os:=os) (m:=ss.length) (d:=(ss.mergeSort fun x y=>decide (x<=y)).toArray) hO rfl (by simp) lR;rw[<-hw]at this;refine⟨he,?_,yR.grown this.2 hB (fun k hk=>by injection hk with hk;omega)⟩;have h1:=this.1;rw[Cz (by simp)]at h1;simpa using h1
theorem zIp (v:Value) (ss:List Strg) (w:World) (B:Nat) (hO:OwnN w B v ss) (hB:B<=w.heap.size) (hn:ss.length<=1000000000) :
  Calls tP 95 #[v] w fun e w'=>∃ v',e=.returned v'/\OwnN w' B v' (Lib.compact ss)/\Below B w w':=by
 rcases C7 ss.length with h0|h0
 ·have hr:ss=[]:=Cd h0;subst hr;obtain⟨A,c,rfl⟩:=hO.form;exact (Tryz.slices_Compact_string_empty A c w).mono fun e w' ⟨he,hw⟩=>⟨_,he,by rw[hw];exact hO,by rw[hw];exact By _ _⟩
 ·obtain⟨g,c,rfl,h,f,a⟩:=hO.formG h0;have b:(Lib.compact ss).length<=ss.length:=by
   unfold Lib.compact Lib.compactUpTo;rw[Bj];simpa using E2 (Lib.keeps ss.toArray) (List.range ss.length)
  refine (Tryz.slices_Compact_string g 0 c ss w (hO.holds rfl) (by omega) a).mono fun e w' ⟨he,q,hw⟩=>?_;have:=zGo (q:=q) (os:=#[]) (m:=(Lib.compact ss).length) (d:=(Lib.compact ss++List.replicate (ss.length-(Lib.compact ss).length) []).toArray) hO rfl (by simp;omega) b;rw[grow_empty,<-hw]at this;refine⟨_,he,?_,yR.grown this.2 hB (fun k hk=>by injection hk with hk;omega)⟩;have h1:=this.1;rw[List.toList_toArray,List.take_left]at h1;exact h1
end Go.Proofs.YteedihhdcbepmaaGreat
