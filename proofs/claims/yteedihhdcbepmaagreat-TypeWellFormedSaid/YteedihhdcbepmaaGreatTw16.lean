/- graft: its second loop and its end. -/
import Derived.Test.YteedihhdcbepmaaGreatTwZ
import Derived.Test.YteedihhdcbepmaaGreatTw15
set_option maxRecDepth 100000
set_option maxHeartbeats 12800000
set_option linter.all false
open Go.Value renaming slice→vS,int→vI,string→vT
open Go.IntKind renaming i64→i6
open Go.Proofs.Tryz renaming prog→tP
namespace Go.Proofs.YteedihhdcbepmaaGreat
open Go Go.RowKit
theorem zLw:zDb.2.1:=by
 unfold zDb;intro f ns root A c H Z bb base im css bs w hZ hf hm Av0 cv0 W0 ms r Q0 w1 A1 c1 V1 HQ Ao co pg pbx U ord HU HOR n0 hno HP HT HN0 HS HUU HO0 HNUM LN K0 hK0 wo u11 u12 u13 u14 u33 u34 u35 u36 u37 u38 u39 u40 u41 u42 u43 u44 u45 u46 u47 u48 u49 u50 u51 u52 u53 u54 u55 u56 u57 u58 u59 u60 u61 u62 u63 u64 u65 u66 u67 u68 u69 u70 u71 u72 u73 u74 u75 u76 j cj hj Avj cvj HR1 hlt;obtain rfl:j=ord.length:=by omega
 have mp:¬ ((ord.length:Nat):Int)<(ord.length:Int):=by omega
 rw[List.take_length]at HR1;obtain⟨aP,aS,aR⟩:=OwnE.formA HR1.out.own;obtain⟨n1,Y⟩:∃ n1,n1=((keptL ms f ord).map (nd ms)):=⟨_,rfl⟩;rw[<-Y]at HR1;have K:cj.length=bs.length+n1.length:=by have:=HR1.out.nds.1;rwa [Bc]at this
 have W:n0=bs.length:=by have:=HP.out.2.2.2.1.1;have:=HN0.out;omega
 have J:n1.length<=ms.length:=by rw[Y,Bi];exact Ba (zEg _ _ _) HOR.out.2.2.2
 obtain⟨A8,c8,aE,ad⟩:=zLd Avj cj.length cvj n0 aS (by omega) aP aR;have ag:∀ V,(Instr.slice 22 (vS Avj cj.length cvj) (some (vI i6 (n0:Int))) none none).run tP V=.ok (vS A8 n1.length c8) V:=fun V=>by rw[aE V];congr 2;omega
 have e3:wo.cell? (aD bb 0)=some (vS Avj cj.length cvj):=cH HR1.out.box 0;have I:∀ g,(vS Avj cj.length cvj).ownBlock=some g->g≠pg/\g≠pbx/\g≠w.heap.size/\g<wo.heap.size/\g≠bb/\((vS Av0 n0 cv0).ownBlock=some g\/w.heap.size<=g):=fun g hg=>by
  have n1:=HNUM.out;have h2:=OwnE.ltB HR1.out.own hg;rcases HR1.out.ob g hg with h|h
  ·have:=HO0.out g h;exact⟨by omega,by omega,by omega,by omega,fun e=>hno.out (by rw[h,e]),.inl h⟩
  ·exact⟨by omega,by omega,by omega,by omega,by omega,.inr (by omega)⟩
 have T:=HS.out wo HR1.out.vk;have aT:Hid (∀ Z,VK bb bb (vS Avj cj.length cvj).ownBlock wo Z->Z.cell? (aD pbx 0)=some (vS (some (aD pg 0)) ms.length ms.length)/\JRow Z pg (plF ms f ord bs.length (List.replicate ms.length 0))/\Z.cell? (aH w 1)=some (vI i6 r)):=xI fun Z hk=>by
  have n1:=HNUM.out;have hz:=HR1.out.vk.low.size;have af:∀ b,b<wo.heap.size->b≠bb->(∀ g,(vS Avj cj.length cvj).ownBlock=some g->g≠b)->Z.heap[b]?=wo.heap[b]?:=fun b hl hb hg=>hk.blk b hl hb hb fun e=>hg b e rfl;exact⟨(Bf (af pbx (by omega) (by omega) fun g hg=>(I g hg).2.1)).trans T.2.2.2.1,HR1.out.row.on (af pg (by omega) (by omega) fun g hg=>(I g hg).1),(Bf (af w.heap.size (by omega) (by omega) fun g hg=>(I g hg).2.2.1)).trans T.2.2.1⟩
 have az:Hid (VK bb bb (vS Av0 n0 cv0).ownBlock w wo):=xI T.1;have HJ:=xI I;have bg:=xI ad;have p:=xI (aN Y (aN K (aN W J)));clear aP aS aR K W J aE ad I T Y;go_wp2_with fail;clear ag e3
 go_loopw [84] (fun i wr=>∃ (q:Nat) (cq:List (List Value)),i=vI i6 q/\q<=n1.length/\wr.heap[bb]?=some (.cells #[vS Avj cj.length cvj] 101 (0,0))/\OwnQ wr base (vS Avj cj.length cvj) cq/\NdsB wr (GD H Z bb (vS Avj cj.length cvj) wr) cq (bs++part (mvd (plc ms f ord bs.length)) n1 q)/\NdsB wr (GD 0 Z bb (vS Avj cj.length cvj) wr) (List.take (n0+q) cq) (List.take (n0+q) (bs++part (mvd (plc ms f ord bs.length)) n1 q))/\VK bb bb (vS Avj cj.length cvj).ownBlock wo wr) (fun i _=>((n1.length:Int)-intOf i).toNat)
 case atStart=>
  refine⟨0,cj,rfl,Bl _,HR1.out.box,HR1.out.own,?_,?_,VK.of_below yR⟩
  ·rw[zEb];refine HR1.out.nds.sub fun b hb=>⟨?_,hb.2.1,(HR1.out.ne LN.out).2.2 b hb,hb.2.2.2⟩;have n1:=HNUM.out;have:=HR1.out.vk.low.size;have:=hb.1;omega
  ·have W:=p.out.2.2.1;rw[zEb,Dr,W,List.take_left' rfl];refine HR1.out.pre.sub fun b hb=>⟨?_,hb.2.1,(HR1.out.ne LN.out).2.2 b (LN.out.d2 b hb),hb.2.2.2⟩;have n1:=HNUM.out;have:=HR1.out.vk.low.size;have:=hb.1;omega
 case round=>
  obtain⟨q,cq,rfl,hq,hrel⟩:=hrel;have o:=xI hrel;clear hrel;by_cases hlt:q<n1.length
  ·have mp:(q:Int)<(n1.length:Int):=by omega
   have m0:(0:Int)<=(q:Int):=by omega
   have a6:cj.length<=200000000/\n0+q<cj.length:=by
    have h1:=p.out;have h3:=HP.out.2.2.2.2.1;have h4:=HT.out.1;exact⟨by omega,by omega⟩
   have bj:IntKind.i64.wrap ((q:Int)+1)=(q:Int)+1:=Bq _ (by omega);have bi:IntKind.i64.wrap ((n0:Int)+(q:Int))=(n0:Int)+(q:Int):=Bq _ (by omega);have a7:((n0:Int)+(q:Int)).toNat=n0+q:=by omega
   have u1:(0:Int)<=(n0:Int)+(q:Int):=by omega
   have u2:(n0:Int)+(q:Int)<(cj.length:Int):=by omega
   obtain⟨g1,bf,ad⟩:=bg.out (by have:=p.out;omega);subst bf ad;have hx:=By hlt;generalize n1[q]=x at hx;have a0:∃ k:Nat,(k:Int)∈ord/\ms[k]?=some x:=by
    have h:=hx;rw[p.out.1,Cj]at h;cases hk:(keptL ms f ord)[q]? with
    | none=>rw[hk]at h;cases h
    | some n=>
     rw[hk]at h;have aI:n∈ord:=(Dj.1 (Bh hk)).1;have bd:=HOR.out.2.2.1 n aI;refine⟨n.toNat,by rw[show ((n.toNat:Nat):Int)=n by omega];exact aI,?_⟩;have h2:nd ms n=x:=by simpa using h
     have h3:=By bd.2;rw[h3,<-h2,nd_at h3]
   obtain⟨kx,aJ,ao⟩:=a0;have S:x∈ms:=Bh ao;have aM:(bs++part (mvd (plc ms f ord bs.length)) n1 q)[n0+q]?=some x:=by
    rw[Dy (by have:=p.out;omega),show n0+q-bs.length=q by have:=p.out;omega];exact zHs _ hx
   have P:cq.length=cj.length:=by
    have h1:=o.out.2.2.1.1;rw[Bc,zFe]at h1;have:=p.out;omega
   have O:=By (l:=cq) (i:=n0+q) (by omega);generalize cq[n0+q]'(by omega)=cs at O;have be:=o.out.2.2.1.2 (n0+q) cs x O aM;obtain⟨uk,uf,ar,aC,ap,aq⟩:=be;obtain⟨Ak,ck,rfl,_⟩:=ap.form;obtain⟨Af,cf,rfl,_⟩:=aq.form;subst ar;obtain⟨ak,aa,aK,a,d,al,am⟩:=o.out.2.1.at8N O;clear ak al am;have d0:=a 0 (by decide);have d1:=a 1 (by decide);have d2:=a 2 (by decide);have d3:=a 3 (by decide);have d4:=a 4 (by decide);have d5:=a 5 (by decide);have d6:=a 6 (by decide);have d7:=a 7 (by decide);have C:(n0+q)*8=n0*8+q*8:=by omega
   rw[C]at d0 d1 d2 d3 d4 d5 d6 d7;simp only[Dr,D3,D4]at d0 d1 d2 d3 d4 d5 d6 d7;obtain⟨X,hX,au,kX,aB⟩:=aW wr (oX x.kind x.lo x.hi ⟨x.text.toArray⟩ Ak x.kids.length ck Af x.fds.length cf x.r0 x.r1)
   have aO:bW X X.drew:=zN0;have z:bW wr X.drew:=au.trans (aO.mono (by omega));have aA:X.drew.heap.size=X.heap.size:=rfl;have an:=aT.out wr o.out.2.2.2.2;have F:bb<wr.heap.size:=by have n1:=HNUM.out;have:=o.out.2.2.2.2.low.size;have:=HR1.out.vk.low.size;omega
   have u:pbx<wr.heap.size/\pg<wr.heap.size:=by have n1:=HNUM.out;have:=o.out.2.2.2.2.low.size;have:=HR1.out.vk.low.size;omega
   have hc:Calls tP 111 #[.agg #[vI i6 x.kind,vI i6 x.lo,vI i6 x.hi,vT ⟨x.text.toArray⟩,vS Ak x.kids.length ck,vS Af x.fds.length cf,vI i6 x.r0,vI i6 x.r1],.func (.func 112) #[] #[.pointer (some (aD pbx 0))]] X.drew fun e w'=>(∃ cs,e=.returned (.agg cs.toArray)/\TnB w' (Btw X.drew.heap.size w'.heap.size) ((mvd (plc ms f ord bs.length)) x) cs)/\Below X.drew.heap.size X.drew w':=by
    have aF:Same (GD H Z bb (vS (some (aD g1 0)) cj.length cvj) wr) wr X.drew:=Same.of_below z fun b hb=>hb.1;have a9:=HT.out.2.2.1.wf.edg;have ae:=zBy (t:=(ms,r)) HT.out.2.2.1;rw[<-HOR.out.1]at ae;have ba:∀ k∈edg x,k∈ord:=fun k hk=>(ae k).2 ⟨(a9 x S k hk).1,.more ((ae _).1 aJ).2 ao hk⟩;obtain⟨xk,aU,aX,xt,aV,aY,x0,x1⟩:=x;exact zM9 xk aU aX xt aV aY x0 x1 Ak Af ck cf X.drew.heap.size 112 (.pointer (some (aD pbx 0))) (plc ms f ord bs.length) X.drew lR ⟨_,_,rfl,aC,(ap.keep aF fun _ _ h=>h).sub (fun b hb=>by have:=hb.1;omega) fun _ _ h=>h,(aq.keep aF fun _ _ h=>h).sub (fun b hb=>by have:=hb.1;omega) fun _ _ h=>h⟩ (HT.out.2.1 _ S).1 (HT.out.2.1 _ S).2 (enters_of Tryz.func112 (by kernel_rfl) rfl)
     (fun k hk=>by
      have:=zMz (ns:=ms) (order:=ord) (n:=k) HP.out.2.2.2.2.2.1;have h3:=HP.out.2.2.2.2.1;have h4:=HT.out.1;have h5:=HOR.out.2.2.2;have h6:=p.out;exact zB3 (by omega) (by omega))
     (xI fun k hk U9 hU9=>by
      have L:=ba k hk;have M:=HOR.out.2.2.1 k L;have R:=zQx ms f ord bs.length (List.replicate ms.length 0) HOR.out.2.1 (fun n hn=>⟨(HOR.out.2.2.1 n hn).1,by rw[Eo];exact (HOR.out.2.2.1 n hn).2⟩) k L;have Q:bW wr U9:=z.trans (hU9.mono (by omega));have h:=zLh k.toNat (plc ms f ord bs.length k) pbx pg ms.length ms.length U9 M.2 ((Bf (Q.block pbx u.1)).trans an.1) ((an.2.1.on (Q.block pg u.2)).cell R);rw[show ((k.toNat:Nat):Int)=k by omega]at h;exact h)
   have M:X.heap[bb]?=some (.cells #[vS (some (aD g1 0)) cj.length cvj] 101 (0,0)):=(au.block bb F).trans o.out.1;have m:X.drew.cell? (aD bb 0)=some (vS (some (aD g1 0)) cj.length cvj)/\X.drew.cell? (aH wr 0)=some (vI i6 x.kind)/\X.drew.cell? (aH wr 1)=some (vI i6 x.lo)/\X.drew.cell? (aH wr 2)=some (vI i6 x.hi)/\X.drew.cell? (aH wr 3)=some (vT ⟨x.text.toArray⟩)/\X.drew.cell? (aH wr 4)=some (vS Ak x.kids.length ck)/\X.drew.cell? (aH wr 5)=some (vS Af x.fds.length cf)/\X.drew.cell? (aH wr 6)=some (vI i6 x.r0)/\X.drew.cell? (aH wr 7)=some (vI i6 x.r1):=⟨cH M 0,zAd kX⟩;have s:=xI (aN M (aN kX (aN z (aN aB (aN aA (aN O (aN hx (aN P (aN aa (aN aK (aN F u)))))))))));obtain⟨x0,x1,x2,x3,x4,x5,x6,x7⟩:=zAd kX;rw[hX]at x0 x1 x2 x3 x4 x5 x6 x7;clear M kX z au aO aB aA O hx P aa aK F u an a d C aC ap aq aM S ao aJ hlt;go_wp2_with fail;rw[<-hX];clear d0 d1 d2 d3 d4 d5 d6 d7 x0 x1 x2 x3 x4 x5 x6 x7 hX;refine ub 11 (fun wq=>wq.cell? (aD bb 0)=some (vS (some (aD g1 0)) cj.length cvj)/\jN wq wr.heap.size x.kind x.lo x.hi ⟨x.text.toArray⟩ Ak x.kids.length ck Af x.fds.length cf x.r0 x.r1) (fun _=>True) ?_;refine oM 0 ⟨m,trivial⟩ ?_ (hy:=oD);refine oM 1 ⟨m,trivial⟩ ?_ (hy:=oD);refine oM 2 ⟨m,trivial⟩ ?_ (hy:=oD);refine oM 3 ⟨m,trivial⟩ ?_ (hy:=oD);refine oM 4 ⟨m,trivial⟩ ?_ (hy:=oD);refine oM 5 ⟨m,trivial⟩ ?_ (hy:=oD);refine oM 6 ⟨m,trivial⟩ ?_ (hy:=oD);refine oM 7 ⟨m,trivial⟩ ?_ (hy:=oD);refine oM 8 ⟨m,trivial⟩ ?_ (hy:=oD);refine uo 9 (fun K9 hK=>?_);go_simp;refine hc.mono ?_;rintro e w5 ⟨⟨cs5,rfl,hcs5⟩,hb5⟩;clear hc;have ay:w5.heap[bb]?=some (.cells #[vS (some (aD g1 0)) cj.length cvj] 101 (0,0)):=(hb5.block bb (by have:=s.out;omega)).trans s.out.1;have ax:w5.heap[wr.heap.size]?=some (oX x.kind x.lo x.hi ⟨x.text.toArray⟩ Ak x.kids.length ck Af x.fds.length cf x.r0 x.r1):=(hb5.block wr.heap.size (by have:=s.out;omega)).trans s.out.2.1;have aj:w5.cell? (aD bb 0)=some (vS (some (aD g1 0)) cj.length cvj)/\jN w5 wr.heap.size x.kind x.lo x.hi ⟨x.text.toArray⟩ Ak x.kids.length ck Af x.fds.length cf x.r0 x.r1:=⟨cH ay 0,zAd ax⟩;refine hK _ _ ⟨aj,fun _=>trivial⟩ (oQ ?_);clear hK K9 m;refine oM 10 ⟨aj,trivial⟩ ?_ (hy:=oD);obtain⟨y,hy⟩:∃ y,y=(mvd (plc ms f ord bs.length)) x:=⟨_,rfl⟩;rw[<-hy]at hcs5;have N:=hcs5;obtain⟨B1,m1,b1,B2,m2,b2,rfl⟩:=N.form8;clear N;have G:bW wr w5:=s.out.2.2.1.trans (hb5.mono (by have:=s.out;omega));have aw:OwnQ w5 base (vS (some (aD g1 0)) cj.length cvj) cq:=OwnE.stay zBr o.out.2.1 fun g _ hl=>G.block g hl;obtain⟨ak,al,am,a,d,a2,a3⟩:=aw.at8N s.out.2.2.2.2.2.1;clear ak al am a2 a3;have z0:=a 0 (by decide);have z1:=a 1 (by decide);have z2:=a 2 (by decide);have z3:=a 3 (by decide);have z4:=a 4 (by decide);have z5:=a 5 (by decide);have z6:=a 6 (by decide);have z7:=a 7 (by decide);simp only[Dr,D3,D4]at z0 z1 z2 z3 z4 z5 z6 z7;have f0:=d ((n0+q)*8);have f1:=d ((n0+q)*8+1);have f2:=d ((n0+q)*8+2);have f3:=d ((n0+q)*8+3);have f4:=d ((n0+q)*8+4);have f5:=d ((n0+q)*8+5);have f6:=d ((n0+q)*8+6);have f7:=d ((n0+q)*8+7);obtain⟨V,hV⟩:∃ V,V=((((((((w5.setCell (aD g1 ((n0+q)*8)) (vI i6 y.kind)).setCell (aD g1 ((n0+q)*8+1)) (vI i6 y.lo)).setCell (aD g1 ((n0+q)*8+2)) (vI i6 y.hi)).setCell (aD g1 ((n0+q)*8+3)) (vT ⟨y.text.toArray⟩)).setCell (aD g1 ((n0+q)*8+4)) (vS B1 m1 b1)).setCell (aD g1 ((n0+q)*8+5)) (vS B2 m2 b2)).setCell (aD g1 ((n0+q)*8+6)) (vI i6 y.r0)).setCell (aD g1 ((n0+q)*8+7)) (vI i6 y.r1)):=⟨_,rfl⟩;obtain⟨p1,p2,p3,p4⟩:=aw.put8 (j:=n0+q) (by have:=s.out.2.2.2.2.2.2.2.1;omega) (vI i6 y.kind) (vI i6 y.lo) (vI i6 y.hi) (vT ⟨y.text.toArray⟩) (vS B1 m1 b1) (vS B2 m2 b2) (vI i6 y.r0) (vI i6 y.r1) rfl rfl rfl rfl rfl rfl rfl rfl V hV;have aL:=(HJ.out g1 rfl).2.2.2.2.1;have av:V.heap[bb]?=some (.cells #[vS (some (aD g1 0)) cj.length cvj] 101 (0,0)):=(p3 bb (fun e=>aL e.symm)).trans ay;have aQ:V.heap[wr.heap.size]?=some (oX x.kind x.lo x.hi ⟨x.text.toArray⟩ Ak x.kids.length ck Af x.fds.length cf x.r0 x.r1):=(p3 _ (by have:=s.out;omega)).trans ax;have aG:V.cell? (aD bb 0)=some (vS (some (aD g1 0)) cj.length cvj)/\jN V wr.heap.size x.kind x.lo x.hi ⟨x.text.toArray⟩ Ak x.kids.length ck Af x.fds.length cf x.r0 x.r1:=⟨cH av 0,zAd aQ⟩;have HV:Hid (V.heap[bb]?=some (.cells #[vS (some (aD g1 0)) cj.length cvj] 101 (0,0))/\OwnQ V base (vS (some (aD g1 0)) cj.length cvj) (cq.set (n0+q) [vI i6 y.kind,vI i6 y.lo,vI i6 y.hi,vT ⟨y.text.toArray⟩,vS B1 m1 b1,vS B2 m2 b2,vI i6 y.r0,vI i6 y.r1])/\NdsB V (GD H Z bb (vS (some (aD g1 0)) cj.length cvj) V) (cq.set (n0+q) [vI i6 y.kind,vI i6 y.lo,vI i6 y.hi,vT ⟨y.text.toArray⟩,vS B1 m1 b1,vS B2 m2 b2,vI i6 y.r0,vI i6 y.r1]) (bs++part (mvd (plc ms f ord bs.length)) n1 (q+1))/\NdsB V (GD 0 Z bb (vS (some (aD g1 0)) cj.length cvj) V) (List.take (n0+(q+1)) (cq.set (n0+q) [vI i6 y.kind,vI i6 y.lo,vI i6 y.hi,vT ⟨y.text.toArray⟩,vS B1 m1 b1,vS B2 m2 b2,vI i6 y.r0,vI i6 y.r1])) (List.take (n0+(q+1)) (bs++part (mvd (plc ms f ord bs.length)) n1 (q+1)))/\VK bb bb (vS (some (aD g1 0)) cj.length cvj).ownBlock wo V):=xI (by
    have ab:=s.out;have bh:=hb5.size;refine⟨av,p1,?_,?_,o.out.2.2.2.2.low.trans ((G.mono (Bl _)).trans (p4 0 (Bl _))),fun b hb h1 h2 h3=>?_⟩
    ·have D:bs++part (mvd (plc ms f ord bs.length)) n1 (q+1)=(bs++part (mvd (plc ms f ord bs.length)) n1 q).set (n0+q) y:=by
      rw[List.set_append_right _ _ (by have:=p.out;omega),show n0+q-bs.length=q by have:=p.out;omega,hy];exact congrArg (bs++·) (zFd _ ab.2.2.2.2.2.2.1).symm
     rw[D];have E:NdsB w5 (GD H Z bb (vS (some (aD g1 0)) cj.length cvj) wr) cq (bs++part (mvd (plc ms f ord bs.length)) n1 q):=o.out.2.2.1.keep (Same.of_below G fun b hb=>hb.1);have ah:Same (fun b=>b<w5.heap.size/\b≠bb/\(vS (some (aD g1 0)) cj.length cvj).ownBlock≠some b/\(b<H\/Z<=b)) w5 V:=⟨by omega,fun b i hb _=>Bf (p3 b fun e=>hb.2.2.1 (by rw[e];rfl))⟩;refine (((E.sub fun b hb=>?_).set (n0+q) (hcs5.sub fun b hb=>?_)).keep ah).sub fun b hb=>⟨by have:=hb.1;omega,hb.2.1,hb.2.2⟩
     ·exact⟨by have:=hb.1;omega,hb.2.1,hb.2.2⟩
     ·have aZ:Z<=wr.heap.size:=Ba hZ (Ba az.out.low.size o.out.2.2.2.2.low.size);refine⟨hb.2,by have:=hb.1;omega,fun e=>?_,.inr (by have:=hb.1;omega)⟩;simp only[Value.ownBlock,Cs]at e;have:=hb.1;omega
    ·have D:(bs++part (mvd (plc ms f ord bs.length)) n1 (q+1)).take (n0+(q+1))=(bs++part (mvd (plc ms f ord bs.length)) n1 q).take (n0+q)++[y]:=by
      have h0:bs++part (mvd (plc ms f ord bs.length)) n1 (q+1)=(bs++part (mvd (plc ms f ord bs.length)) n1 q).set (n0+q) y:=by
       rw[List.set_append_right _ _ (by have:=p.out;omega),show n0+q-bs.length=q by have:=p.out;omega,hy];exact congrArg (bs++·) (zFd _ ab.2.2.2.2.2.2.1).symm
      rw[h0,<-Ex];exact zHo _ _ _ (by rw[Bc,zFe];have:=p.out;have:=(Bw.1 ab.2.2.2.2.2.2.1).1;omega)
     rw[D,<-Ex,zHo _ _ _ (by have:=ab.2.2.2.2.2.2.2.1;omega)];have E:NdsB w5 (GD 0 Z bb (vS (some (aD g1 0)) cj.length cvj) wr) (cq.take (n0+q)) ((bs++part (mvd (plc ms f ord bs.length)) n1 q).take (n0+q)):=o.out.2.2.2.1.keep (Same.of_below G fun b hb=>hb.1);have ah:Same (fun b=>b<w5.heap.size/\b≠bb/\(vS (some (aD g1 0)) cj.length cvj).ownBlock≠some b/\(b<0\/Z<=b)) w5 V:=⟨by omega,fun b i hb _=>Bf (p3 b fun e=>hb.2.2.1 (by rw[e];rfl))⟩;refine (((E.sub fun b hb=>?_).snoc (hcs5.sub fun b hb=>?_)).keep ah).sub fun b hb=>⟨by have:=hb.1;omega,hb.2.1,hb.2.2⟩
     ·exact⟨by have:=hb.1;omega,hb.2.1,hb.2.2⟩
     ·have aZ:Z<=wr.heap.size:=Ba hZ (Ba az.out.low.size o.out.2.2.2.2.low.size);refine⟨hb.2,by have:=hb.1;omega,fun e=>?_,.inr (by have:=hb.1;omega)⟩;simp only[Value.ownBlock,Cs]at e;have:=hb.1;omega
    ·have aa:b≠g1:=fun e=>h3 (by rw[e];rfl);exact (p3 b aa).trans ((G.block b (Bk hb o.out.2.2.2.2.low.size)).trans (o.out.2.2.2.2.blk b hb h1 h2 h3)))
   clear p1 p2 p3 p4 av aQ ay ax G aw a d hcs5 hb5 aL hy;refine uo 11 (fun K9 hK=>?_);go_simp;rw[<-hV];clear hV z0 z1 z2 z3 z4 z5 z6 z7 f0 f1 f2 f3 f4 f5 f6 f7 aj;refine hK _ _ ⟨aG,ug⟩ (oQ ?_);clear hK K9 aG;refine (ud ?_) _;go_wp2_with fail
   go_roundw
   case rel=>exact⟨q+1,_,by go_num,by omega,HV.out⟩
   case measure=>simp[intOf];omega
  ·have mq:¬ (q:Int)<(n1.length:Int):=by omega
   obtain rfl:q=n1.length:=by omega
   obtain⟨s1,s2,s3⟩:=aT.out wr o.out.2.2.2.2;have ai:=HT.out.2.2.1.rt;obtain⟨rn,rfl⟩:∃ rn:Nat,r=(rn:Int):=⟨r.toNat,by simp only at ai;omega⟩;have u1:(0:Int)<=(rn:Int):=by omega
   have u2:(rn:Int)<(ms.length:Int):=by simp only at ai;omega
   have a1:(rn:Int)∈ord:=by rw[HOR.out.1];exact zHr (t:=(ms,(rn:Int))) HT.out.2.2.1
   have R:=zQx ms f ord bs.length (List.replicate ms.length 0) HOR.out.2.1 (fun n hn=>⟨(HOR.out.2.2.1 n hn).1,by rw[Eo];exact (HOR.out.2.2.1 n hn).2⟩) _ a1;rw[Ca]at R;have s4:=s2.cell R;clear s2 R ai;go_wp2;have a4:=zHt (mvd (plc ms f ord bs.length)) n1;have a5:=HOR.out.1;have a8:=p.out.1;have bc:gr f (ms,(rn:Int)) bs=(bs++n1.map (mvd (plc ms f ord bs.length)),plc ms f ord bs.length (rn:Int)):=by
    unfold gr;simp only;rw[<-a5,a8,List.map_map];rfl
   refine Cv (v:=vI i6 (plc ms f ord bs.length (rn:Int))) (by simp[results,Tryz.f65,go_sem]) rfl ?_;rw[bc,HN0.out];refine⟨rfl,_,o.out.1,cq,o.out.2.1,?_,az.out.trans o.out.2.2.2.2 fun g hg=>(HJ.out g hg).2.2.2.2.2,fun g hg=>(HJ.out g hg).2.2.2.2.2⟩;rw[<-a4];have B:=o.out.2.2.2.1;rw[Cx (by have h1:=o.out.2.2.1.1;rw[Bc,zFe]at h1;have:=p.out;omega),Cx (by rw[Bc,zFe];have:=p.out;omega)]at B;exact B
structure GrS (Z bb base:Nat) (w:World) (o:Option Nat) (bs:List Tn) (w':World) (v':Value) (css':List (List Value)):Prop where
 box:w'.heap[bb]?=some (.cells #[v'] 101 (0,0))
 own:OwnQ w' base v' css'
 nds:NdsB w' (GD 0 Z bb v' w') css' bs
 vk:VK bb bb o w w'
 ob:∀ g,v'.ownBlock=some g->o=some g\/w.heap.size<=g
theorem zLm (s:ByteArray) (U:World):(Instr.lookup 114 (.map none) (vT s) true).run tP U=.ok (.tuple #[vI i6 0,.bool false]) U:=by
 kernel_rfl
theorem zGb {ns:List Tn}{root:Int}{A:Option Addr}{c H Z bb base:Nat}{v:Value}{css:List (List Value)}{bs:List Tn}(w:World) (hT:TyP w H ns root [vS A ns.length c,vI i6 root]) (hn:ns.length<=1000000) (hks:∀ x∈ns,x.kids.length<=1048576/\x.fds.length<=1048576) (hHb:H<=bb/\bb<w.heap.size/\H<=base/\base<=w.heap.size) (hno:v.ownBlock≠some bb)
  (hZ:Z<=w.heap.size) (hbox:w.heap[bb]?=some (.cells #[v] 101 (0,0))) (hown:OwnQ w base v css) (hnd:NdsB w (GD 0 Z bb v w) css bs) (hcl:css.length<=100000000) :
  Calls tP 65 #[.pointer (some (aD bb 0)),.agg #[vS A ns.length c,vI i6 root],.map none] w fun e w'=>e=.returned (vI i6 (gr (fun _=>none) (accT (ns,root)) bs).2)/\∃ v' css',GrS Z bb base w v.ownBlock (gr (fun _=>none) (accT (ns,root)) bs).1 w' v' css':=by
 refine (zDb.2.2 zLx zLw (fun _=>none) ns root A c H Z bb base v (.map none) css bs w hT hn hks hHb (xI hno) hZ hbox hown hnd hcl (xI fun _=>rfl) (xI zLm)).mono ?_;rintro e w' ⟨h1,v',css',a,b,c,d,e⟩;exact⟨h1,v',css',a,b,c,d,e⟩
theorem GrS.type {Z bb base:Nat}{w w':World}{o:Option Nat}{xs:List Tn}{v':Value}{css':List (List Value)}(h:GrS Z bb base w o xs w' v' css') (hb:Z<=base) (hx:xs.length<=maxLen){r:Int}(hr:i64B r):∃ A c,v'=vS A xs.length c/\TyB w' (fun b=>b<w'.heap.size/\Z<=b) xs r [vS A xs.length c,vI i6 r]:=by
 obtain⟨A,c,rfl⟩:=h.own.form;rw[h.nds.1];have hn:=h.own.nodes (B':=fun b=>b<w'.heap.size/\Z<=b) h.nds hx (fun b hb=>⟨hb.1,by rcases hb.2.2.2 with h|h<;>omega⟩) fun b h1 h2=>⟨h2,by omega⟩;rw[h.nds.1]at hn;exact⟨A,c,rfl,_,rfl,hr,hn⟩
theorem zMy {t:Ty}{A:Option Addr}{c H:Nat}(w:World) (hH:H<=w.heap.size) (hT:TyP w H t.1 t.2 [vS A t.1.length c,vI i6 t.2]) (hs:SmT 1000000 t) :
  Calls tP 118 #[.agg #[vS A t.1.length c,vI i6 t.2]] w (TyOut 0 w (pruT t)):=by
 obtain⟨ns,a⟩:=t;dsimp only at hT ⊢;obtain⟨W,hW⟩:∃ W,W=((w.alloc (oE A ns.length c a)).alloc (oE none 0 0 0)).alloc (.cells #[vS none 0 0] 101 (0,0)):=⟨_,rfl⟩;have hb:bW w W:=by rw[hW];exact ((yR.alloc lR _).alloc (by simp) _).alloc (by simp;omega) _
 have k0:W.heap[w.heap.size]?=some (oE A ns.length c a):=by rw[hW,Bm _ _ _ (by simp;omega),Bm _ _ _ (by simp)];exact Bj w _
 have kW:W.heap[w.heap.size+1]?=some (oE none 0 0 0):=by rw[hW,Bm _ _ _ (by simp)];exact zAg _ (by simp)
 have kB:W.heap[w.heap.size+1+1]?=some (.cells #[vS none 0 0] 101 (0,0)):=by rw[hW];exact zAg _ (by simp)
 have d:W.heap.size=w.heap.size+3:=by rw[hW];simp
 have hc:=zGb (H:=H) (Z:=w.heap.size+2) (bb:=w.heap.size+1+1) (base:=w.heap.size+3) (bs:=[]) W (hT.on (hb.mono hH)) hs.1 hs.2 ⟨by omega,by omega,by omega,by omega⟩ (by simp[Value.ownBlock]) (by omega) kB (OwnE.nil _ _ _ _ _) (NdsB.nil _ _) (by simp);have m:=zRg (ns,a);have n:=zO3 hs (by decide);have f:pruT (ns,a)=gr (fun _=>none) (accT (ns,a)) []:=rfl;rw[<-f]at hc;generalize pruT (ns,a)=p at *;obtain⟨e0,e1⟩:=zAf k0;rw[hW]at e0 e1;have HP:=xI (aN m.1 (aN n (aN hb (aN kW d))));clear m n hb kW kB d f hT hs k0;go_enter Tryz.func118,Tryz.ntmps118;go_wp2_with fail;rw[<-hW];clear hW e0 e1;refine hc.mono ?_;rintro e w1 ⟨rfl,v1,css1,hG⟩;clear hc;have s:p.1.length<=1000000:=HP.out.2.1.1;have f:=HP.out.1.rt;obtain⟨A1,c1,rfl,q⟩:=hG.type (by omega) (by unfold maxLen;omega) (r:=p.2) (zB3 (by omega) (by omega));have o:=zEs A1 p.1.length c1 (w.heap.size+1+1) p.2 w1 (cH hG.box 0);have j:Below (w.heap.size+1+1) W w1:=hG.vk.below lR lR (fun g h=>by simp[Value.ownBlock]at h) (by have:=HP.out.2.2.2.2;omega);have k:=(j.block (w.heap.size+1) (by omega)).trans HP.out.2.2.2.1;have HT:=xI (aN q (aN j k));clear hG q s f j k;go_wp2_with fail;refine o.mono ?_;rintro e w2 ⟨rfl,hb2⟩;clear o;have d:=HP.out.2.2.2.2;have l:=HT.out.2.1.size;have kz:=(hb2.block (w.heap.size+1) (by omega)).trans HT.out.2.2;have f0:=Bz kz 0;have f1:=Bz kz 1;have c0:=cH kz 0;have c1:=cH kz 1;have HB:=xI (aN hb2 (aN d l));clear hb2 d l;go_wp2;refine ret2s kz rfl rfl rfl fun V hz hbb hl=>⟨⟨_,_,rfl,?_⟩,?_⟩
 ·refine (HT.out.1.keep (w':=V) ⟨by have:=HB.out.1.size;omega,fun b i hb2 hl2=>Bf ((hbb b (by have:=hb2.2;omega)).trans (HB.out.1.block b hl2))⟩).sub fun b hb2=>?_;exact .inr ⟨by have:=hb2.2;omega,by have:=HB.out.1.size;have:=hb2.1;omega⟩
 ·exact ((HP.out.2.2.1.trans (HT.out.2.1.mono (by omega))).trans (HB.out.1.mono (by have:=HB.out.2;omega))).trans (hl _ (by omega))
def tyR (w:World) (B:Nat->Prop) (l:List Ty) (j:Nat) (cs:List Value):Prop:=∃ t,l[j]?=some t/\TyB w B t.1 t.2 cs
theorem tyR.at {w:World}{P B:Nat->Prop}{l:List Ty}{u:Value}{j:Nat}{t:Ty}(h:RowB w P 2 u l.length (tyR w B l)) (ht:l[j]?=some t) :
  ∃ b off cap A c,u=vS (some (aD b off)) l.length cap/\w.cell? (aD b (off+j*2))=some (vS A t.1.length c)/\w.cell? (aD b (off+j*2+1))=some (vI i6 t.2)/\TyB w B t.1 t.2 [vS A t.1.length c,vI i6 t.2]:=by
 have hj:=(Bw.1 ht).1;obtain⟨A',cap,h1,_,h3⟩:=h;obtain⟨b,off,rfl,_,_,h7⟩:=h3 (by omega);obtain⟨cs,_,h9,t',a,hT⟩:=h7 j hj;rw[ht]at a;injection a with a;subst a;have e:=hT;obtain⟨uu,rfl,_,d⟩:=e;obtain⟨A,c,rfl,_⟩:=d.form;exact⟨b,off,cap,A,c,h1,h9 0 (by omega),h9 1 (by omega),hT⟩
theorem tyR.keep {w w':World}{P B:Nat->Prop}{l:List Ty}{u:Value}(h:RowB w P 2 u l.length (tyR w B l)) (hs:Same P w w') (hB:∀ b,B b->P b):RowB w' P 2 u l.length (tyR w' B l):=RowB.keep h hs fun _ _ ⟨t,ht,hT⟩=>⟨t,ht,hT.keep ⟨hs.size,fun b i hb hl=>hs.cell b i (hB b hb) hl⟩⟩
theorem JRow.row {w:World}{B:Nat->Prop}{g n:Nat}{s:List Int}(h:JRow w g s) (hn:s.length=n) (hs:∀ x∈s,i64B x) (hm:n<=maxLen) (hB:B g):RowB w B 1 (vS (some (aD g 0)) n n) s.length (kidR s):=by
 subst hn;refine⟨_,_,rfl,⟨hm,B7 _⟩,fun _=>⟨g,0,rfl,hB,h.lt,fun j hj=>?_⟩⟩;have hx:=By hj;refine⟨[vI i6 s[j]],rfl,fun i hi=>?_,s[j],hx,rfl,hs _ (Cw hj)⟩;obtain rfl:i=0:=by omega
 have:=h.cell hx;simpa using this
theorem zG5 (t:Ty):∀ (l:List Ty) (bs:List Tn),grAll (l++[t]) bs=((gr (fun _=>none) t (grAll l bs).1).1,(grAll l bs).2++[(gr (fun _=>none) t (grAll l bs).1).2]):=by
 intro l
 induction l with
 | nil=>intro bs;rfl
 | cons s l ih=>
  intro bs;rw[Dx];unfold grAll;rw[ih];rfl
theorem zLy {x:Tn}:∀ (l:List Ty) (bs:List Tn),bs[0]?=some x->(grAll l bs).1[0]?=some x:=by
 intro l
 induction l with
 | nil=>intro bs h;exact h
 | cons t l ih=>intro bs h;exact ih _ (zI2 h)
theorem zNo {n:Nat}:∀ (l:List Ty) (bs:List Tn) (m:Nat),(∀ t∈l,WfT t/\SmT n t)->bs.length<=m->(∀ x∈bs,kidOk x)->(grAll l bs).1.length<=m+l.length*n/\(∀ x∈(grAll l bs).1,kidOk x)/\(grAll l bs).2.length=l.length/\∀ k∈(grAll l bs).2,0<=k/\k<=((m+l.length*n:Nat):Int):=by
 intro l
 induction l with
 | nil=>intro bs m _ hb hk;exact⟨by simpa [grAll] using hb,hk,rfl,fun k hk=>by simp[grAll]at hk⟩
 | cons t l ih=>
  intro bs m hl hb hk;have ht:=hl t (Dz ..);have h1:=zNm (f:=fun _=>none) ht.1 ht.2 hb hk;have h2:=zNn (f:=fun _=>none) (bs:=bs) ht.1 (fun s p h=>by cases h);have h3:=ih (gr (fun _=>none) t bs).1 (m+n) (fun t ht=>hl t (Dw _ ht)) h1.1 h1.2;have h4:=ht.2.1;unfold grAll;simp only[Ci,Dv,Nat.one_mul];refine⟨by omega,h3.2.1,by rw[h3.2.2.1],fun k hk=>?_⟩;rcases Ct.1 hk with rfl|hk
  ·omega
  ·have:=h3.2.2.2 k hk;omega
def kn0 (kind:Int):Tn:=⟨kind,0,0,[],[],[],0,0⟩
theorem zN5 (kind:Int) (l:List Ty):compT kind l=((grAll l [kn0 kind]).1.set 0 ⟨kind,0,0,[],(grAll l [kn0 kind]).2,[],0,0⟩,0):=rfl
theorem zJ4 {l:List Ty}{Al:Option Addr}{cl H:Nat}(kind:Int) (w:World) (hH:H<=w.heap.size) (hl:RowB w (fun b=>b<w.heap.size) 2 (vS Al l.length cl) l.length (tyR w (fun b=>b<H) l)) (hs:∀ t∈l,SmT 1000000 t) (hn:l.length<=50) (hkd:i64B kind) :
  Calls tP 64 #[vI i6 kind,vS Al l.length cl] w (TyOut 0 w (compT kind (l.map accT))):=by
 obtain⟨la,L⟩:∃ la,la=l.map accT:=⟨_,rfl⟩;rw[<-L];have S:Hid (la=l.map accT/\la.length=l.length/\∀ t∈la,WfT t/\SmT 1000000 t):=xI ⟨L,by rw[L,Bi],fun t ht=>by
  rw[L]at ht;obtain⟨s,aM,rfl⟩:=Cd.1 ht;exact⟨zD9 s,zFk (hs s aM) (by decide)⟩⟩
 clear L;obtain⟨Wa,z⟩:∃ Wa,Wa=((w.alloc (oE none 0 0 0)).alloc (oX kind 0 0 ⟨#[]⟩ none 0 0 none 0 0 0 0)).alloc (.cells #[vS (some (aE w 0)) 1 1] 101 (0,0)):=⟨_,rfl⟩;have ax:bW w Wa:=by rw[z];exact ((yR.alloc lR _).alloc (by simp) _).alloc (by simp;omega) _
 have kR:Wa.heap[w.heap.size]?=some (oE none 0 0 0):=by rw[z,Bm _ _ _ (by simp;omega),Bm _ _ _ (by simp)];exact Bj w _
 have kN:Wa.heap[w.heap.size+1]?=some (oX kind 0 0 ⟨#[]⟩ none 0 0 none 0 0 0 0):=by rw[z,Bm _ _ _ (by simp)];exact zAg _ (by simp)
 have kB:Wa.heap[w.heap.size+1+1]?=some (.cells #[vS (some (aE w 0)) 1 1] 101 (0,0)):=by rw[z];exact zAg _ (by simp)
 have am:Wa.heap.size=w.heap.size+3:=by rw[z];simp
 obtain⟨W0,ap,ak,Q,B⟩:=zDl Wa l.length (by omega);rw[am]at ap ak B;have ay:bW w W0:=ax.trans (Q.mono (by omega));have k0:=(Q.block w.heap.size (by omega)).trans kR;have k1:=(Q.block (w.heap.size+1) (by omega)).trans kN;have k2:=(Q.block (w.heap.size+1+1) (by omega)).trans kB;have f:OwnQ W0 (w.heap.size+1) (vS (some (aE w 0)) 1 1) [[vI i6 kind,vI i6 0,vI i6 0,vT ⟨#[]⟩,vS none 0 0,vS none 0 0,vI i6 0,vI i6 0]]:=by
  refine⟨[vI i6 kind,vI i6 0,vI i6 0,vT ⟨#[]⟩,vS none 0 0,vS none 0 0,vI i6 0,vI i6 0],⟨rfl,.inr ⟨w.heap.size+1,1,_,rfl,B7 _,k1,B7 _,by unfold maxLen;decide,rfl,rfl⟩⟩,fun j x hj=>?_⟩;cases j with
  | zero=>
   simp at hj;subst hj;exact⟨rfl,rfl,fun u hu=>by simp at hu;rcases hu with rfl|rfl|rfl|rfl|rfl|rfl|rfl|rfl<;>rfl⟩
  | succ j=>simp at hj
 have J:NdsB W0 (GD 0 (w.heap.size+4) (w.heap.size+1+1) (vS (some (aE w 0)) 1 1) W0) [[vI i6 kind,vI i6 0,vI i6 0,vT ⟨#[]⟩,vS none 0 0,vS none 0 0,vI i6 0,vI i6 0]] [kn0 kind]:=by
  refine⟨rfl,fun j cs x h1 h2=>?_⟩;cases j with
  | zero=>
   simp at h1 h2;subst h1 h2;exact⟨_,_,rfl,⟨hkd,by show i64B 0;decide,by show i64B 0;decide,by simp[kn0],by show i64B 0;decide,by show i64B 0;decide⟩,RowB.nil ..,RowB.nil ..⟩
  | succ j=>simp at h1
 have HW:Hid (W0.heap[w.heap.size+1+1]?=some (.cells #[(vS (some (aE w 0)) 1 1)] 101 (0,0))/\OwnQ W0 (w.heap.size+1) (vS (some (aE w 0)) 1 1) [[vI i6 kind,vI i6 0,vI i6 0,vT ⟨#[]⟩,vS none 0 0,vS none 0 0,vI i6 0,vI i6 0]]/\NdsB W0 (GD 0 (w.heap.size+4) (w.heap.size+1+1) (vS (some (aE w 0)) 1 1) W0) [[vI i6 kind,vI i6 0,vI i6 0,vT ⟨#[]⟩,vS none 0 0,vS none 0 0,vI i6 0,vI i6 0]] (grAll (la.take 0) [kn0 kind]).1/\JRow W0 (w.heap.size+3) ((grAll (la.take 0) [kn0 kind]).2++List.replicate (l.length-0) 0)/\VK (w.heap.size+1+1) (w.heap.size+3) (some (w.heap.size+1)) W0 W0/\∀ g,Value.ownBlock (vS (some (aE w 0)) 1 1)=some g->g=w.heap.size+1\/W0.heap.size<=g):=xI ⟨k2,f,J,ak,VK.of_below yR,fun g h=>.inl (by simpa [Value.ownBlock] using h.symm)⟩;have HP:=xI (aN hl (aN hs (aN hn (aN ay (aN k0 (aN B hkd))))));rw[z]at ap;clear ax kR kN kB am ak Q ay k0 k1 k2 f J hl hs hkd B z;go_enter Tryz.func64,Tryz.ntmps64;go_wp2_with fail
 go_loopw [18] (fun i wr=>∃ (j:Nat) (v:Value) (css:List (List Value)),i=vI i6 j/\j<=l.length/\wr.heap[w.heap.size+1+1]?=some (.cells #[v] 101 (0,0))/\OwnQ wr (w.heap.size+1) v css/\NdsB wr (GD 0 (w.heap.size+4) (w.heap.size+1+1) v wr) css (grAll (la.take j) [kn0 kind]).1/\JRow wr (w.heap.size+3) ((grAll (la.take j) [kn0 kind]).2++List.replicate (l.length-j) 0)/\VK (w.heap.size+1+1) (w.heap.size+3) (some (w.heap.size+1)) W0 wr/\∀ g,Value.ownBlock v=some g->g=w.heap.size+1\/W0.heap.size<=g) (fun i _=>((l.length:Int)-intOf i).toNat)
 case atStart=>exact⟨0,_,_,rfl,Bl _,HW.out⟩
 case round=>
  obtain⟨j,v,css,rfl,hj,hrel⟩:=hrel;have HR:=xI hrel;have o:=zNo (n:=1000000) (la.take j) [kn0 kind] 1 (fun t ht=>S.out.2.2 t (Ej ht)) (by simp) (fun x hx=>by simp at hx;subst hx;exact⟨by simp[kn0],by simp[kn0]⟩);have aa:(la.take j).length=j:=by rw[Bg];have:=S.out.2.1;omega
  rw[aa]at o;have K:=HP.out.2.2.1;have B:=HP.out.2.2.2.2.2.1;have HS:=xI o;have ao:∀ g,v.ownBlock=some g->g≠w.heap.size+1+1/\g≠w.heap.size+3/\w.heap.size<g/\g<wr.heap.size:=fun g hg=>by
   have h1:=(OwnE.ltB hrel.2.1 hg);rcases hrel.2.2.2.2.2 g hg with h|h<;>exact⟨by omega,by omega,by omega,h1.2⟩
  have E:=hrel.2.2.2.2.1.low.size;have ag:∀ b,b<W0.heap.size->b<w.heap.size+1->wr.heap[b]?=W0.heap[b]?:=fun b hb hb2=>hrel.2.2.2.2.1.blk b hb (by omega) (by omega) (fun e=>by injection e with e;omega);have ae:Same (fun b=>b<w.heap.size) w wr:=⟨by have:=HP.out.2.2.2.1.size;omega,fun b i hb _=>Bf ((ag b (by omega) (by omega)).trans (HP.out.2.2.2.1.block b (by omega)))⟩;have HO:=xI (aN ao (aN E (aN ag (aN B (aN K aa)))));clear hrel o ao E ag K B aa;by_cases hlt:j<l.length
  ·have mp:(j:Int)<(l.length:Int):=by omega
   have m0:(0:Int)<=(j:Int):=by omega
   have a0:IntKind.i64.wrap ((j:Int)+1)=(j:Int)+1:=Bq _ (by have:=HO.out.2.2.2.2.1;omega);have ht:=By hlt;have G:=Cw hlt;generalize l[j]=t at ht G;obtain⟨ta,ad⟩:∃ ta,ta=accT t:=⟨_,rfl⟩;have R:la.take (j+1)=la.take j++[ta]:=by rw[Cp,S.out.1,Cj,ht,ad];rfl
   have aI:=xI R;obtain⟨bl,ol,aY,A,c,hu,e0,e1,aB⟩:=tyR.at (tyR.keep HP.out.1 ae fun b hb=>by omega) ht;injection hu with hA hq1 hq2;clear hq1;subst hA hq2;obtain⟨X,hX,C,kX,an⟩:=aW wr (oE A t.1.length c t.2)
   have hO:=HO.out;have hR:=HR.out;have hc:=zGb (ns:=t.1) (root:=t.2) (H:=H) (Z:=w.heap.size+4) (bb:=w.heap.size+1+1) (base:=w.heap.size+1) (v:=v) (css:=css) (bs:=(grAll (la.take j) [kn0 kind]).1) X (aB.keep (Same.of_below C fun b hb=>by omega)) (HP.out.2.1 t G).1 (HP.out.2.1 t G).2 ⟨by omega,by omega,by omega,by omega⟩ (fun e=>(hO.1 _ e).1 rfl) (by omega) ((C.block _ (by omega)).trans hR.1) (OwnE.stay zBr hR.2.1 fun g _ hl=>C.block g hl) ((hR.2.2.1.keep (Same.of_below C fun b hb=>hb.1)).sub fun b hb=>⟨by have:=hb.1;omega,hb.2⟩) (by
    have h1:=hR.2.2.1.1;have h2:=HS.out.1;omega)
   rw[show accT (t.1,t.2)=ta from ad.symm]at hc;obtain⟨x0,x1⟩:=zAf kX;rw[hX]at x0 x1;have HX:=xI (aN C (aN an G));clear C kX an G ht ad R aB hO hR ae;go_wp2_with fail;rw[<-hX];clear hX x0 x1 e0 e1;refine hc.mono ?_;rintro e w5 ⟨rfl,v5,css5,hG⟩;clear hc;have hO:=HO.out;have hR:=HR.out;have W:JRow w5 (w.heap.size+3) ((grAll (la.take j) [kn0 kind]).2++List.replicate (l.length-j) 0):=hR.2.2.2.1.on ((hG.vk.blk _ (by have:=HX.out;omega) (by omega) (by omega) (fun e=>(hO.1 _ e).2.1 rfl)).trans (HX.out.1.block _ (by omega)));have M:=HS.out.2.2.1;obtain⟨pv,aP⟩:=W.has (k:=j) (by rw[Bc,Eo];omega);have aQ:=W.froz j;obtain⟨V,hV⟩:∃ V,V=w5.setCell (aD (w.heap.size+3) j) (vI i6 (gr (fun _=>none) ta (grAll (la.take j) [kn0 kind]).1).2):=⟨_,rfl⟩;have d:∀ b,b≠w.heap.size+3->V.heap[b]?=w5.heap[b]?:=fun b hb=>by rw[hV];exact Bu _ (aD _ j) b _ hb
   have U:V.heap.size=w5.heap.size:=by rw[hV];simp
   have aA:Below 0 w5 V:=by rw[hV];exact (Bv 0 w5).setCell (p:=(aD _ j)) (Bl _) _
   have aJ:=hG.vk.low.size;have r:∀ g,v5.ownBlock=some g->g=w.heap.size+1\/W0.heap.size<=g:=fun g hg=>by
    rcases hG.ob g hg with h|h
    ·exact hR.2.2.2.2.2 g h
    ·have:=HX.out;exact .inr (by omega)
   have HV:Hid (V.heap[w.heap.size+1+1]?=some (.cells #[v5] 101 (0,0))/\OwnQ V (w.heap.size+1) v5 css5/\NdsB V (GD 0 (w.heap.size+4) (w.heap.size+1+1) v5 V) css5 (grAll (la.take (j+1)) [kn0 kind]).1/\JRow V (w.heap.size+3) ((grAll (la.take (j+1)) [kn0 kind]).2++List.replicate (l.length-(j+1)) 0)/\VK (w.heap.size+1+1) (w.heap.size+3) (some (w.heap.size+1)) W0 V/\∀ g,Value.ownBlock v5=some g->g=w.heap.size+1\/W0.heap.size<=g):=xI (by
    have az:=HX.out;refine⟨(d _ (by omega)).trans hG.box,OwnE.stay zBr hG.own fun g hg _=>d g (by have:=r g hg;omega),?_,?_,hR.2.2.2.2.1.trans (o':=v.ownBlock) ⟨(az.1.mono (Bl _)).trans (hG.vk.low.trans aA),fun b hb h1 h2 h3=>(d b h2).trans ((hG.vk.blk b (by omega) h1 h1 h3).trans (az.1.block b hb))⟩ fun g hg=>?_,r⟩
    ·rw[aI.out,zG5];exact (hG.nds.keep ⟨by omega,fun b i hb _=>Bf (d b (by have:=hb.2.2.2;omega))⟩).sub fun b hb=>⟨by have:=hb.1;omega,hb.2⟩
    ·rw[aI.out,zG5];have hs:=W.set j (gr (fun _=>none) ta (grAll (la.take j) [kn0 kind]).1).2;rw[<-hV,List.set_append_right _ _ (by omega),M,Nat.sub_self,show l.length-j=(l.length-(j+1))+1 by omega,List.replicate_succ,List.set_cons_zero]at hs;simpa using hs
    ·rcases hR.2.2.2.2.2 g hg with h|h
     ·exact .inl (by rw[h])
     ·exact .inr h)
   clear hG W M d U aA aJ r hO hR;go_wp2_with fail;rw[<-hV];clear hV aP aQ
   go_roundw
   case rel=>exact⟨j+1,v5,css5,by go_num,by omega,HV.out⟩
   case measure=>simp[intOf];omega
  ·obtain rfl:j=l.length:=by omega
   have mp:¬ ((l.length:Nat):Int)<(l.length:Int):=by omega
   have hR:=HR.out;have hO:=HO.out;have hS:=HS.out;have ab:la.take l.length=la:=Cx (by have:=S.out.2.1;omega);rw[ab]at hR hS;obtain⟨q1,q2,q3,q4,q5,q6⟩:=hR;rw[Nat.sub_self,List.replicate_zero,Dn]at q4;generalize hxs:(grAll la [kn0 kind]).1=xs at *;generalize hks:(grAll la [kn0 kind]).2=ks at *;have Y:xs[0]?=some (kn0 kind):=by rw[<-hxs];exact zLy la _ rfl
   have aj:=q3.1;have aK:0<xs.length:=(Bw.1 Y).1;obtain⟨g,cp,rfl,aU,aR,aT⟩:=OwnE.formG q2 (by omega);have T:=By (l:=css) (i:=0) (by omega);generalize css[0]'(by omega)=cs at T;obtain⟨uk,uf,aS,F,ar,ai⟩:=q3.2 0 cs _ T Y;obtain⟨Ak,ck,aV,_⟩:=ar.form;obtain⟨Af,cf,aX,_⟩:=ai.form;subst aV aX aS;obtain⟨aO,_,_,m,N,_,I⟩:=q2.at8N T;have d4:=m 4 (by decide);have f4:=N 4;simp only[Nat.zero_mul,Du,D3,D4]at d4;have e3:wr.cell? (aF w 0)=some (vS (some (aD g 0)) css.length cp):=cH q1 0;have au:=hO.1 g rfl;obtain⟨V1,D⟩:∃ V1,V1=wr.setCell (aD g 4) (vS (some (aD (w.heap.size+3) 0)) l.length l.length):=⟨_,rfl⟩;have d:∀ b,b≠g->V1.heap[b]?=wr.heap[b]?:=fun b hb=>by rw[D];exact Bu _ (aD g 4) b _ hb
   have U:V1.heap.size=wr.heap.size:=by rw[D];simp
   have a:=I 4 (vS (some (aD (w.heap.size+3) 0)) l.length l.length) (by decide) rfl;rw[show 0*8+4=4 by rfl,<-D]at a;have aH:JRow V1 (w.heap.size+3) ks:=q4.on (d _ (by omega));have aq:=hS.2.2.1;have aG:RowB V1 (fun b=>b<V1.heap.size/\(b<0\/w.heap.size+1<=b)) 1 (vS (some (aD (w.heap.size+3) 0)) l.length l.length) ks.length (kidR ks):=aH.row aq (fun x hx=>by have:=hS.2.2.2 x hx;have:=hO.2.2.2.2.1;have:=S.out.2.1;exact zB3 (by omega) (by omega)) (by have:=hO.2.2.2.2.1;unfold maxLen;omega) ⟨by omega,.inr (by omega)⟩;have ah:Same (GD 0 (w.heap.size+4) (w.heap.size+1+1) (vS (some (aD g 0)) css.length cp) wr) wr V1:=⟨by omega,fun b i hb _=>Bf (d b fun e=>hb.2.2.1 (by rw[e];rfl))⟩;have af:∀ b,GD 0 (w.heap.size+4) (w.heap.size+1+1) (vS (some (aD g 0)) css.length cp) wr b->b<V1.heap.size/\(b<0\/w.heap.size+1<=b):=fun b hb=>⟨by have:=hb.1;omega,by
    rcases hb.2.2.2 with h|h
    ·exact .inl h
    ·exact .inr (by omega)⟩
   have aC:TnB V1 (fun b=>b<V1.heap.size/\(b<0\/w.heap.size+1<=b)) ⟨kind,0,0,[],ks,[],0,0⟩ [vI i6 kind,vI i6 0,vI i6 0,vT ⟨#[]⟩,vS (some (aD (w.heap.size+3) 0)) l.length l.length,vS Af 0 cf,vI i6 0,vI i6 0]:=⟨_,_,rfl,⟨F.1,F.2.1,F.2.2.1,by simp,F.2.2.2.2⟩,aG,(ai.keep ah fun _ _ h=>h).sub af fun _ _ h=>h⟩;have y:=((q3.keep ah).sub af).set 0 aC;have q:=OwnE.nodes a (B':=fun b=>b<V1.heap.size/\(b<0\/w.heap.size+1<=b)) y (by have h1:=y.1;rw[Cn]at h1;rw[<-h1];have:=hS.1;have:=hO.2.2.2.2.1;unfold maxLen;omega) (fun b hb=>hb) fun b h1 h2=>⟨h2,.inr (by omega)⟩;rw[Cn,<-aj]at q;have O:compT kind la=(xs.set 0 ⟨kind,0,0,[],ks,[],0,0⟩,0):=by rw[zN5,hxs,hks]
   have P:=(d _ (fun e=>au.1 e.symm)).trans q1;have av:=zEs (some (aD g 0)) css.length cp (w.heap.size+1+1) 0 V1 (cH P 0);have al:=(d w.heap.size (by omega)).trans ((hO.2.2.1 w.heap.size (by omega) (by omega)).trans HP.out.2.2.2.2.1);have aw:bW w V1:=by
    have h1:=q5.below (H:=w.heap.size) (by omega) (by omega) (fun g h=>by injection h with h;omega) (by omega);have h2:=HP.out.2.2.2.1.trans h1;rw[D];exact h2.setCell (p:=(aD g 4)) (by show w.heap.size<=g;omega) _
   have HF:=xI (aN q (aN O (aN al (aN aw (aN U (aN hO.2.1 (aN hO.2.2.2.1 aj)))))));have aZ:Hid (0<css.length):=xI (by omega);have u9:(0:Int)<(css.length:Int):=by have:=aZ.out;omega
   clear q O al aw U q1 q2 q3 q4 q5 q6 P a aH aq aG y aC ah af m N I aO F ar ai T Y aK aj aU aR aT au d hO hS hxs hks ae HS HR HO HW;go_wp2_with fail;rw[<-D];clear D d4 f4 e3;refine av.mono ?_;rintro e w2 ⟨rfl,hb2⟩;clear av;have h9:=HF.out.2.2.2.2;have kz:=(hb2.block w.heap.size (by omega)).trans HF.out.2.2.1;have f0:=Bz kz 0;have f1:=Bz kz 1;have c0:=cH kz 0;have c1:=cH kz 1;have HB:=xI hb2;have H9:=xI h9;clear hb2 h9;go_wp2;have h9:=H9.out;have a1:=HB.out.size;refine ret2s kz rfl rfl rfl fun V hz hbb hl=>⟨⟨some (aD g 0),cp,?_,?_⟩,?_⟩
   ·rw[HF.out.2.1,h9.2.2.2];simp
   ·have aL:TyB V1 (fun b=>b<V1.heap.size/\(b<0\/w.heap.size+1<=b)) (xs.set 0 ⟨kind,0,0,[],ks,[],0,0⟩) 0 [vS (some (aD g 0)) css.length cp,vI i6 0]:=⟨_,rfl,by show i64B 0;decide,by rw[Cn,<-h9.2.2.2];exact HF.out.1⟩;rw[HF.out.2.1];simp only[Cn];rw[<-h9.2.2.2];refine (aL.keep (w':=V) ⟨by omega,fun b i hb2 hl2=>Bf ((hbb b (by rcases hb2.2 with h|h<;>omega)).trans (HB.out.block b hl2))⟩).sub fun b hb2=>?_;rcases hb2.2 with h|h
    ·exact .inl h
    ·exact .inr ⟨by omega,by have:=hb2.1;omega⟩
   ·exact (HF.out.2.2.2.1.trans (HB.out.mono (by omega))).trans (hl _ lR)
end Go.Proofs.YteedihhdcbepmaaGreat
