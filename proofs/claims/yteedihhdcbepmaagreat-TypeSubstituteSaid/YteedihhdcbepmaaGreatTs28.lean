/- Map of the document: a key at the end is .. -/
import Derived.Test.YteedihhdcbepmaaGreatTsZ
import Derived.Test.YteedihhdcbepmaaGreatTs27
set_option maxRecDepth 100000
set_option maxHeartbeats 20000000
set_option linter.all false
open Go.Value renaming slice→vS,int→vI,string→vT
open Go.IntKind renaming i64→i6
open Go.Proofs.Tryz renaming prog→tP
namespace Go.Proofs.YteedihhdcbepmaaGreat
open Go Go.RowKit
theorem zJh:zBy.2.2.1:=by
 unfold zBy;intro k lo c keys c' l w hlo W0 hba hz0 k0 n hn HN ix0 wr ix1 u18 u19 u20 u21 u22 u23 u24 u25 u26 u27 u28 u29 u30 ix2 ix3 hjn HKB ix4 ix5 ix6 W1 hbw1 kr bx hz1 kb hbx wo u5 u9 u10 u11 u32 u33 u34 u35 u36 u37 ix7 ix8 ix9 ix10 ix11 ix12 ix13 ix14 ix15 ix16 ix17 ix18 ix19 ix20 ix21 ix22 ix23 ix24 ix25 ix26 u58 u59 u60 u61 u62 u63 u64 u65 u66 u67 u68 u69 u70 u71 u72 u73 u74 u75 u76 u77 u78 u79 u80 u81 u82 u83 u84 u85 u86 u87 u88 u89 u90 u91 u92 u93 u94 u95 u96 u97 u98 u99 u100 u101 u102 u103 u104 u105 u106 u107 u108 u109 u110 u111 j m c1 c2 ps hj hb hzo HPS HM hmn hjn2 bs offs cp1 hbs HK bv ov cp2 t0 t1 t2 t3 t4 t5 t6 hbv y HL ix27 ix28 x1 x2 HX HKY HVY HC kn kp hbz he g1 hBg1 hgs1 g2 hBg2 hgs2 ix29 HO1 hlc1 ix30 HO2 HBX HS34 hlc2 ix31 ix32 ix33 ix34 ix35 wq u38 u39 u40 u41 u42 u43 u44 u45 u46 u47 u48 u49 u50 u51 u52 u53 u54 u55 u56 u57 p hp hbq HLO hbW hpc1 hcz1 hpc2 hcz2 hpl;have pl:decide ((p:Int)<(m:Int))=false:=by simpa using hpl
 obtain rfl:p=m:=by omega
 have aV:Hid (∀ z,ps[p]?=some z->0<=cK z ((x1,x2),y)/\cK z ((x1,x2),y)≠0):=xI (fun z hz=>by rw[Ce (by have:=HM.out.1;omega)]at hz;cases hz);go_wp2_with fail;refine Be (S:=fun V=>V.cell? (aD bx 4)=some (vS (some (aD g1 0)) p c1)) (by kernel_rfl) (HS34.out _ hbq.drew).1 (fun hHeld=>?_);refine oT 0 hHeld ?_
 (iterate 5 refine oY hHeld ?_)
 refine oU 6 hHeld ?_
 (iterate 8 refine oZ hHeld ?_)
 refine zAu 15 (by kernel_rfl) rfl (by rfl) hHeld (oP ?_);refine oU 16 hHeld ?_;refine oT 17 hHeld ?_;refine wD ?_;go_wp2_with fail;refine Be (S:=fun V=>V.cell? (aD bx 4)=some (vS (some (aD g1 0)) p c1)) (by kernel_rfl) (HS34.out _ hbq.drew.drew).1 (fun hHeld2=>?_);refine oT 0 hHeld2 ?_
 (iterate 5 refine oY hHeld2 ?_)
 refine oU 6 hHeld2 ?_
 (iterate 9 refine oZ hHeld2 ?_)
 refine oT 16 hHeld2 ?_;refine wD ?_;generalize hw9:wq.drew.drew=w9;have aq:bW wo w9:=by rw[<-hw9];exact hbq.drew.drew
 clear hw9;obtain⟨i1,aA,E,D,C⟩:=Cp Tryz.infoK;obtain⟨i2,aP,ae,ad,ab⟩:=Cp Tryz.infoV;have M:(ps).length=p:=HM.out.1;obtain⟨u1,w1,aG,ay,aB,_,_⟩:=zBh (elC kyC) 29 29 131 i1 (.agg #[.int .i64 0,.string ⟨#[]⟩]) 2 24 Tryz.underlying29 aA E D C rfl (by decide) (by decide) (fun x w' B cs h=>zB5 h) w9.drew wo.heap.size (.slice none 0 0) [] (OwnE.nil _ _ _ _ _) (some (aD g1 0)) (p) (c1) ((ps.map Prod.fst).take p) (by rw[Bg,Bk];omega) (_) (RowB.sub (RowB.take ((HO1.out.old aq.drew).rowN (m:=p) (by omega) (by rw[Bk,HM.out.1];unfold maxLen;omega) (by rw[Bk];exact HM.out.1)) (show p<=p by omega) _) (fun _ h=>h) (fun q cs ⟨hq,z,hz,hv⟩=>⟨z,by rw[Co hq];exact hz,hv⟩)) (by simp only[Cl];omega) aq.drew.size;have ai:bW wo w1:=aq.drew.trans aB;have aT:=zD9 k w (Btw lo w.heap.size) (_) (some (aD g2 0)) (c2) ((ps.map Prod.snd).take p) w1 p (by rw[Bg,Bk];omega) (RowB.sub (RowB.take ((HO2.out.old ai).rowN (m:=p) (by omega) (by rw[Bk,HM.out.1];unfold maxLen;omega) (by rw[Bk];exact HM.out.1)) (show p<=p by omega) _) (fun _ h=>h) (fun q cs ⟨hq,z,hz,hv⟩=>⟨z,by rw[Co hq];exact hz,hv⟩)) (by omega);go_wp2_with fail;refine Be (S:=fun V=>(V.cell? (aD bx 4)=some (.slice (some (aD g1 0)) p c1))/\V.cell? (aD bx 3)=some (.slice (some (aD g2 0)) p c2)) (by kernel_rfl) (HS34.out _ aq.drew) (fun hHeld7=>?_);refine oT 0 hHeld7 ?_
 (iterate 3 refine oY hHeld7 ?_)
 refine oT 5 hHeld7 ?_
 (iterate 3 refine oY hHeld7 ?_)
 refine oO 4 fun K hK=>?_;refine Lib.wp_append_run _ _ _ _ _ rfl _ _ rfl rfl _ w1 aG ?_;refine hK _ _ (HS34.out _ ai) (oP ?_);refine oO 9 fun K hK=>?_;go_simp;refine aT.mono ?_;rintro e w2 ⟨A4,c4,rfl,ho2,hb2'⟩;have o:bW wo w2:=ai.trans (hb2'.mono ai.size);refine hK _ _ (HS34.out _ o) (oP ?_);refine oT 10 (HS34.out _ o) ?_;refine oT 11 (HS34.out _ o) ?_;refine wD ?_;have X:=ay.old hb2';have f:=ay.blk;have a:=ho2.blk;obtain⟨g3,aC,w3,L,aI,u,aO,O⟩:=zBi (elC kyC) 29 29 131 i1 (.agg #[vI i6 0,vT ⟨#[]⟩]) 2 24 Tryz.underlying29 aA E D C rfl (by decide) (by decide) w2.drew wo.heap.size u1 ([]++(ps.map Prod.fst).take p) (X.old yR.drew) (x1,x2) [vI i6 x1,vT ⟨x2.toArray⟩] HKY.out rfl (zB5 HKY.out) (by rw[Cn,Bg];omega) o.drew.size _ rfl 1;have ar:bW wo w3:=o.drew.trans u;rw[show w2.drew.alloc (.cells [vI i6 x1,vT ⟨x2.toArray⟩].toArray 131)=(w2.alloc (.cells #[vI i6 x1,vT ⟨x2.toArray⟩] 131)).drew from rfl,show w2.drew.heap.size=w2.heap.size from rfl]at L;obtain⟨u5,w5,T,v,ag,aM,af⟩:=zBh (elC kyC) 29 29 131 i1 (.agg #[vI i6 0,vT ⟨#[]⟩]) 2 24 Tryz.underlying29 aA E D C rfl (by decide) (by decide) (fun x w' B cs h=>zB5 h) w3 wo.heap.size _ _ aI (if c1=p then some (aD g1 0) else some (aD g1 (p*2))) (0) (c1-p) (([]:List (Int×List UInt8))) (by first|rfl|(rw[Cc,Bk,M])) (fun _=>True) (⟨_,_,rfl,⟨Bt _,Bt _⟩,fun h=>absurd h (by omega)⟩) (by rw[Bd,Dg,Cn,Bg];omega) ar.size
 have ah:bW wo w5:=ar.trans ag;have H:=xI (zF4 (c:=cK) (l:=ps) (p:=p) (x:=((x1,x2),y)) (by omega) HLO.out (fun z hz=>⟨Int.not_lt.2 (aV.out z hz).1,(aV.out z hz).2⟩));have aS:((([]++(ps.map Prod.fst).take p)++[(x1,x2)])++([]:List (Int×List UInt8)))=(ins cK ((x1,x2),y) (ps)).map Prod.fst:=by rw[H.out];simp[Dl,List.map_take,List.map_drop]<;>omega
 have N:(ins cK ((x1,x2),y) (ps)).length=p+1:=by rw[H.out,Bd,Cj,Bg,Cc,M];omega
 rw[aS]at v;obtain⟨A5,c5,aF⟩:=v.form;rw[Bk,N]at aF;subst aF;have Z:([]++(ps.map Prod.fst).take p).length=p:=by rw[Cn,Bg,Bk];omega
 have aU:=xI N;have d:=v.blk;have aK:∀ g,(vS A4 (p) c4).ownBlock=some g->w5.heap[g]?=w2.heap[g]?:=by
  intro g hg;have hq:=a g hg;have n1:some g≠u1.ownBlock:=fun e=>by have:=f g e.symm;omega
  have e3:=aO g hq.2 n1;have a5:=u.size;have n3:some g≠(vS (some (aD g3 0)) (([]++(ps.map Prod.fst).take p).length+1) aC).ownBlock:=by
   simp only[Value.ownBlock,ne_eq,Cq];intro e;rcases O with h|h
   ·exact n1 (by rw[h,e])
   ·have:w2.heap.size<=g3:=h;omega
  exact (aM g (by have:w2.drew.heap.size=w2.heap.size:=rfl;omega) n3).trans e3
 have i:=OwnC.kept ho2 aK;have I:=HBX.out _ ah;have s:Below bx W1 w5:=hb.trans (ah.mono hbz);have au:Below bx W1 w2:=hb.trans (o.mono hbz);have ak:Below bx W1 w3:=hb.trans (ar.mono hbz);have ap:Below bx W1 (w2.drew.alloc (.cells #[vI i6 x1,vT ⟨x2.toArray⟩] 131)):=au.drew.alloc (by have:=o.size;show bx<=w2.heap.size;omega) _;have ka:w2.drew.cell? (aD bx 4)=some (vS (some (aD g1 0)) p c1):=(HS34.out _ o.drew).1;have av:(w2.alloc (.cells #[vI i6 x1,vT ⟨x2.toArray⟩] 131)).cell? (aD bx 4)=some (vS (some (aD g1 0)) p c1):=(Bv ((Bp _ _ _ (by have:=o.size;omega)).trans (HBX.out _ o)) 4).trans rfl;have kc:w3.cell? (aD bx 4)=some (vS (some (aD g1 0)) p c1):=(HS34.out _ ar).1;have kd:w5.cell? (aD bx 4)=some (vS (some (aD g1 0)) p c1):=(HS34.out _ ah).1;have kf:=Bz I 4;have HH:=xI (aN i (aN v (aN I (aN f (aN a (aN O (aN af d)))))));rw[Z]at L T;clear ay X ho2 i aI v I f a O af d aK aO aM hHeld7 aS Z M N;go_wp2_with fail;apply share
 case h=>
  intro hfin;refine Be (S:=fun V=>V.cell? (aD bs (offs+j*2))=some (vI i6 x1)/\V.cell? (aD bs (offs+j*2+1))=some (vT ⟨x2.toArray⟩)) (by kernel_rfl) (HC.out _ au.drew).1 (fun hHeld=>?_);refine oT 0 hHeld ?_
  (iterate 4 refine oY hHeld ?_)
  refine oT 7 hHeld ?_;refine oT 9 hHeld ?_;refine C5 (rs:=[5,8]) (by kernel_rfl) (by simp) fun j hj=>?_;have A:j=5\/j=8:=by simpa using hj
  clear hj;rcases A with rfl|rfl
  ·refine zAi rfl (by rfl) (fun K hK=>?_);go_simp;refine hK _ _ ⟨(HC.out _ ap).1,oP ?_⟩;refine C5 (rs:=[6,8]) (by kernel_rfl) (by simp) fun j hj=>?_;have A:j=6\/j=8:=by simpa using hj
   clear hj;rcases A with rfl|rfl
   ·refine zAi rfl (by rfl) (fun K hK=>?_);refine Lib.wp_append_run _ _ _ _ _ rfl _ _ rfl rfl _ w3 L ?_;refine hK _ _ ⟨(HC.out _ ak).1,oP ?_⟩;refine oO 8 fun K hK=>?_;go_simp;refine hK _ _ (HC.out _ ak).1 (oP ?_);refine oT 10 (HC.out _ ak).1 ?_;refine oO 11 fun K hK=>?_;refine Lib.wp_append_run _ _ _ _ _ rfl _ _ rfl rfl _ w5 T ?_;refine hK _ _ (HC.out _ s).1 (oP ?_);refine oT 12 (HC.out _ s).1 ?_;refine oO 13 fun K hK=>?_;go_simp;refine hK _ _ (HC.out _ (Bu s (p:=(aD bx 4)) lR _)).1 (oP ?_);refine wD ?_;exact hfin
   ·refine zAi rfl (by rfl) (fun K hK=>?_);go_simp;refine hK _ _ ⟨(HC.out _ ap).1,oP ?_⟩;refine oT 10 (HC.out _ ap).1 ?_;refine oO 6 fun K hK=>?_;refine Lib.wp_append_run _ _ _ _ _ rfl _ _ rfl rfl _ w3 L ?_;refine hK _ _ (HC.out _ ak).1 (oP ?_);refine oO 11 fun K hK=>?_;refine Lib.wp_append_run _ _ _ _ _ rfl _ _ rfl rfl _ w5 T ?_;refine hK _ _ (HC.out _ s).1 (oP ?_);refine oT 12 (HC.out _ s).1 ?_;refine oO 13 fun K hK=>?_;go_simp;refine hK _ _ (HC.out _ (Bu s (p:=(aD bx 4)) lR _)).1 (oP ?_);refine wD ?_;exact hfin
  ·refine zAi rfl (by rfl) (fun K hK=>?_);go_simp;refine hK _ _ ⟨(HC.out _ au.drew).1,oP ?_⟩;refine oT 10 (HC.out _ au.drew).1 ?_;refine oO 5 fun K hK=>?_;go_simp;refine hK _ _ (HC.out _ ap).1 (oP ?_);refine oO 6 fun K hK=>?_;refine Lib.wp_append_run _ _ _ _ _ rfl _ _ rfl rfl _ w3 L ?_;refine hK _ _ (HC.out _ ak).1 (oP ?_);refine oO 11 fun K hK=>?_;refine Lib.wp_append_run _ _ _ _ _ rfl _ _ rfl rfl _ w5 T ?_;refine hK _ _ (HC.out _ s).1 (oP ?_);refine oT 12 (HC.out _ s).1 ?_;refine oO 13 fun K hK=>?_;go_simp;refine hK _ _ (HC.out _ (Bu s (p:=(aD bx 4)) lR _)).1 (oP ?_);refine wD ?_;exact hfin
 case hF=>
  obtain⟨i,v,I,f,a,O,af,d⟩:=HH.out;have M:(ps).length=p:=HM.out.1;have N:=aU.out;generalize hw6:w5.setCell (aD bx 4) (vS A5 (p+1) c5)=w6;have a2:w6.heap.size<=w5.heap.size:=by rw[<-hw6];simp
  have aW:w5.heap.size<=w6.heap.size:=by rw[<-hw6];simp
  have ao:∀ b,b≠bx->w6.heap[b]?=w5.heap[b]?:=fun b hb=>by rw[<-hw6];exact Bq _ _ _ _ hb
  have am:w6.heap[bx]?=some (oV 8 0 ⟨#[]⟩ (some (aD g2 0)) p c2 A5 (p+1) c5 none 0 0 none 0 0):=by rw[<-hw6];simpa using Bm w5 bx 4 _ _ (vS A5 (p+1) c5) I
  have aj:Below bx W1 w6:=by rw[<-hw6];exact Bu s (p:=(aD bx 4)) lR _
  clear hw6 ka av kc kd kf;have a4:=ah.size;have aY:=ai.size;have a6:w2.heap.size<=w5.heap.size:=Ba u.size ag.size;have aX:=hb2'.size;have W:OwnX7 k w (Btw lo w.heap.size) w6 w1.heap.size (vS A4 (p) c4) ((ps.map Prod.snd).take p):=OwnC.kept i fun g hg=>ao g (by have:=a g hg;omega);have U:OwnY w6 wo.heap.size (vS A5 (p+1) c5) ((ins cK ((x1,x2),y) (ps)).map Prod.fst):=OwnC.kept v fun g hg=>ao g (by have:=d g hg;omega);have Q:OwnX7 k w (Btw lo w.heap.size) w6 (bx+1) (vS (some (aD g2 0)) p c2) (ps.map Prod.snd):=OwnC.kept HO2.out fun g hg=>by
   simp only[Value.ownBlock,Cq]at hg;subst hg;exact (ao g2 (by omega)).trans (ah.block _ (by omega))
  obtain⟨g7,a0,w7,J,aH,G,az,aQ⟩:=zBi (elC (fun x cs=>VB k w (Btw lo w.heap.size) x cs)) 28 28 33 i2 (.agg nV) 7 128 Tryz.underlying28 aP ae ad ab rfl (by decide) (by decide) w6.drew wo.heap.size (vS A4 (p) c4) ((ps.map Prod.snd).take p) ((W.mono aY).old yR.drew) y [t0,t1,t2,t3,t4,t5,t6] HVY.out rfl (zBg k y w (Btw lo w.heap.size) _ HVY.out) (by rw[Bg];omega) (by show wo.heap.size<=w6.heap.size;omega) _ rfl 1;have a1:w6.heap.size<=w7.heap.size:=G.size;rw[show w6.drew.alloc (.cells [t0,t1,t2,t3,t4,t5,t6].toArray 33)=(w6.alloc (.cells #[t0,t1,t2,t3,t4,t5,t6] 33)).drew from rfl,show w6.drew.heap.size=w6.heap.size from rfl]at J;have ax:OwnX7 k w (Btw lo w.heap.size) w7 (bx+1) (vS (some (aD g2 0)) p c2) (ps.map Prod.snd):=OwnC.kept Q fun g hg=>by
   simp only[Value.ownBlock,Cq]at hg;subst hg;exact az g2 (by show g2<w6.heap.size;omega) (fun e=>by have:=a g2 e.symm;omega)
  obtain⟨u9,w8,R,an,F,aL,aZ⟩:=zBh (elC (fun x cs=>VB k w (Btw lo w.heap.size) x cs)) 28 28 33 i2 (.agg nV) 7 128 Tryz.underlying28 aP ae ad ab rfl (by decide) (by decide) (fun x w' B cs h=>zBg k x w _ cs h) w7 wo.heap.size _ _ aH (if c2=p then some (aD g2 0) else some (aD g2 (p*7))) (0) (c2-p) (([]:List Vl)) (by first|rfl|(rw[Cc,Bk,M])) (fun _=>True) (⟨_,_,rfl,⟨Bt _,Bt _⟩,fun h=>absurd h (by omega)⟩) (by rw[Bd,Dg,Bg];omega) (by omega)
  have aR:(((ps.map Prod.snd).take p++[y])++([]:List Vl))=(ins cK ((x1,x2),y) (ps)).map Prod.snd:=by rw[H.out];simp[Dl,List.map_take,List.map_drop]<;>omega
  rw[aR]at an;obtain⟨A9,c9,aE⟩:=an.form;rw[Bk,N]at aE;subst aE;have Y:((ps.map Prod.snd).take p).length=p:=by rw[Bg,Bk];omega
  rw[Y]at J R;have P:Below bx W1 w7:=aj.drew.trans (G.mono hbz);have r:Below bx W1 w8:=P.trans (F.mono hbz);have a3:w7.heap.size<=w8.heap.size:=F.size;have aw:w7.heap[bx]?=some (oV 8 0 ⟨#[]⟩ (some (aD g2 0)) p c2 A5 (p+1) c5 none 0 0 none 0 0):=(G.block _ (by omega)).trans am;have al:w8.heap[bx]?=some (oV 8 0 ⟨#[]⟩ (some (aD g2 0)) p c2 A5 (p+1) c5 none 0 0 none 0 0):=(F.block _ (by omega)).trans aw;have t:Below bx W1 (w6.drew.alloc (.cells #[t0,t1,t2,t3,t4,t5,t6] 33)):=aj.drew.alloc (by show bx<=w6.heap.size;omega) _;have ka:w6.drew.cell? (aD bx 3)=some (vS (some (aD g2 0)) p c2):=cH am 3;have av:(w6.alloc (.cells #[t0,t1,t2,t3,t4,t5,t6] 33)).cell? (aD bx 3)=some (vS (some (aD g2 0)) p c2):=(Bv ((Bp _ _ _ (by omega)).trans am) 3).trans rfl;have kc:w7.cell? (aD bx 3)=some (vS (some (aD g2 0)) p c2):=cH aw 3;have kd:w8.cell? (aD bx 3)=some (vS (some (aD g2 0)) p c2):=cH al 3;have kf:=Bz al 3;have aa:∀ g,(vS A5 (p+1) c5).ownBlock=some g->w8.heap[g]?=w6.heap[g]?:=by
   intro g hg;have hq:=d g hg;have aJ:some g≠(vS A4 (p) c4).ownBlock:=by
    intro e;have a7:=a g e.symm;rcases af g hg with h|h
    ·simp only[Value.ownBlock,Cq]at h;rcases O with h'|h'
     ·have:=f g3 h';omega
     ·have:w2.heap.size<=g3:=h';omega
    ·have:=u.size;have:w2.heap.size<=w3.heap.size:=this;omega
   have e7:=az g (by show g<w6.heap.size;omega) aJ;refine (aL g (by omega) ?_).trans e7;simp only[Value.ownBlock,ne_eq,Cq];intro e;rcases aQ with h|h
   ·exact aJ (by rw[h,e])
   ·have:w6.heap.size<=g7:=h;omega
  have HQ:=xI (aN (OwnC.kept U aa) (aN an (aN al r)));clear W U aH an am aw al aa az aL aQ aZ f a d O af Q ax aR i v I ao Y M N;generalize (if c1=p then some (aD g1 0) else some (aD g1 (p*2)):Option Addr)=sl1 at *;go_wp2_with fail;apply share
  case h=>
   intro hfin;refine Be (S:=fun V=>V.cell? (aD bv (ov+j*7))=some t0/\V.cell? (aD bv (ov+j*7+1))=some t1/\V.cell? (aD bv (ov+j*7+2))=some t2/\V.cell? (aD bv (ov+j*7+3))=some t3/\V.cell? (aD bv (ov+j*7+4))=some t4/\V.cell? (aD bv (ov+j*7+5))=some t5/\V.cell? (aD bv (ov+j*7+6))=some t6) (by kernel_rfl) (HC.out _ aj.drew).2 (fun hHeld=>?_);refine oT 0 hHeld ?_
   (iterate 4 refine oY hHeld ?_)
   refine oT 7 hHeld ?_;refine oT 9 hHeld ?_;refine C5 (rs:=[5,8]) (by kernel_rfl) (by simp) fun j hj=>?_;have A:j=5\/j=8:=by simpa using hj
   clear hj;rcases A with rfl|rfl
   ·refine zAi rfl (by rfl) (fun K hK=>?_);go_simp;refine hK _ _ ⟨(HC.out _ t).2,oP ?_⟩;refine C5 (rs:=[6,8]) (by kernel_rfl) (by simp) fun j hj=>?_;have A:j=6\/j=8:=by simpa using hj
    clear hj;rcases A with rfl|rfl
    ·refine zAi rfl (by rfl) (fun K hK=>?_);refine Lib.wp_append_run _ _ _ _ _ rfl _ _ rfl rfl _ w7 J ?_;refine hK _ _ ⟨(HC.out _ P).2,oP ?_⟩;refine oO 8 fun K hK=>?_;go_simp;refine hK _ _ (HC.out _ P).2 (oP ?_);refine oT 10 (HC.out _ P).2 ?_;refine oO 11 fun K hK=>?_;refine Lib.wp_append_run _ _ _ _ _ rfl _ _ rfl rfl _ w8 R ?_;refine hK _ _ (HC.out _ r).2 (oP ?_);refine oT 12 (HC.out _ r).2 ?_;refine oO 13 fun K hK=>?_;go_simp;refine hK _ _ (HC.out _ (Bu r (p:=(aD bx 3)) lR _)).2 (oP ?_);refine wD ?_;exact hfin
    ·refine zAi rfl (by rfl) (fun K hK=>?_);go_simp;refine hK _ _ ⟨(HC.out _ t).2,oP ?_⟩;refine oT 10 (HC.out _ t).2 ?_;refine oO 6 fun K hK=>?_;refine Lib.wp_append_run _ _ _ _ _ rfl _ _ rfl rfl _ w7 J ?_;refine hK _ _ (HC.out _ P).2 (oP ?_);refine oO 11 fun K hK=>?_;refine Lib.wp_append_run _ _ _ _ _ rfl _ _ rfl rfl _ w8 R ?_;refine hK _ _ (HC.out _ r).2 (oP ?_);refine oT 12 (HC.out _ r).2 ?_;refine oO 13 fun K hK=>?_;go_simp;refine hK _ _ (HC.out _ (Bu r (p:=(aD bx 3)) lR _)).2 (oP ?_);refine wD ?_;exact hfin
   ·refine zAi rfl (by rfl) (fun K hK=>?_);go_simp;refine hK _ _ ⟨(HC.out _ aj.drew).2,oP ?_⟩;refine oT 10 (HC.out _ aj.drew).2 ?_;refine oO 5 fun K hK=>?_;go_simp;refine hK _ _ (HC.out _ t).2 (oP ?_);refine oO 6 fun K hK=>?_;refine Lib.wp_append_run _ _ _ _ _ rfl _ _ rfl rfl _ w7 J ?_;refine hK _ _ (HC.out _ P).2 (oP ?_);refine oO 11 fun K hK=>?_;refine Lib.wp_append_run _ _ _ _ _ rfl _ _ rfl rfl _ w8 R ?_;refine hK _ _ (HC.out _ r).2 (oP ?_);refine oT 12 (HC.out _ r).2 ?_;refine oO 13 fun K hK=>?_;go_simp;refine hK _ _ (HC.out _ (Bu r (p:=(aD bx 3)) lR _)).2 (oP ?_);refine wD ?_;exact hfin
  case hF=>
   obtain⟨r1,r2,r3,r4⟩:=HQ.out;clear ka av kc kd kf aG L T J R aT;generalize (if c2=p then some (aD g2 0) else some (aD g2 (p*7)):Option Addr)=sl2 at *;go_wp2_with fail
   go_roundw
   case rel=>
    refine⟨j+1,p+1,A5,c5,A9,c9,ins cK ((x1,x2),y) (ps),by go_num,by omega,?_,(OwnE.low (r1.mono (by omega)) (by omega)),(OwnE.low (r2.mono (by omega)) (by omega)),by rw[zBr HX.out,<-HPS.out],aU.out,by have:=HM.out.2;omega,fun h=>absurd h (by omega),Bu r4 (p:=(aD bx 3)) lR _,by simp;omega⟩;simpa using Bm w8 bx 3 _ _ (vS A9 (p+1) c9) r3
   case measure=>simp[intOf];try omega
theorem zGv (k lo:Nat) (A:Option Addr) (c:Nat) (keys:List (Int×List UInt8)) (A':Option Addr) (c':Nat) (l:List Vl) (w:World) (hlo:lo<=w.heap.size) (hK:RowY w (Btw lo w.heap.size) (vS A keys.length c) keys) (hl:RowV k lo w (vS A' l.length c') l) (hn:keys.length<=100000) :
  Calls tP 97 #[vS A keys.length c,vS A' l.length c'] w (MapR k lo keys l w):=
 zBy.2.2.2 zJj zJi zJh k lo A c keys A' c' l w hlo hK hl hn
end Go.Proofs.YteedihhdcbepmaaGreat
