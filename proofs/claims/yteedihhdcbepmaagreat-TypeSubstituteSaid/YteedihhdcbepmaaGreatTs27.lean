/- Map of the document: the first key is put .. -/
import Derived.Test.YteedihhdcbepmaaGreatTsZ
import Derived.Test.YteedihhdcbepmaaGreatTs26
set_option maxRecDepth 100000
set_option maxHeartbeats 20000000
set_option linter.all false
open Go.Value renaming slice→vS,int→vI,string→vT
open Go.IntKind renaming i64→i6
open Go.Proofs.Tryz
open Go.Proofs.Tryz renaming prog→tP
namespace Go.Proofs.YteedihhdcbepmaaGreat
open Go Go.RowKit
theorem zJj:zBy.1:=by
 unfold zBy;intro k lo c keys c' l w hlo W0 hba hz0 k0 n hn HN ix0 wr ix1 u18 u19 u20 u21 u22 u23 u24 u25 u26 u27 u28 u29 u30 ix2 ix3 hjn HKB ix4 ix5 ix6 W1 hbw1 kr bx hz1 kb hbx wo u5 u9 u10 u11 u32 u33 u34 u35 u36 u37 u38 u39 u40 u41 u42 u43 u44 u45 u46 u47 u48 u49 u50 u51 u52 u53 u54 u55 u56 u57 u58 u59 u60 u61 u62 u63 u64 u65 u66 u67 u68 u69 u70 u71 u72 u73 u74 u75 u76 u77 u78 u79 u80 u81 u82 u83 u84 u85 u86 u87 u88 u89 u90 u91 u92 u93 u94 u95 u96 u97 u98 u99 u100 u101 u102 u103 u104 u105 u106 u107 u108 u109 u110 u111 j m A1 c1 A2 c2 ps hj hO1 hO2 hnil hb hzo HPS HM HO1 HO2 hmn hjn2 bs offs cp1 hbs HK bv ov cp2 t0 t1 t2 t3 t4 t5 t6 hbv y HL ix7 ix8 x1 x2 HX HKY HVY HC HBX HS34 kn kp hbz he;obtain⟨rfl,rfl,rfl,rfl⟩:=hnil he;subst he;obtain rfl:ps=[]:=Cf HM.out.1;clear hnil hO1 hO2;go_wp2_with fail
 go_loopw [9] (fun i wq=>i=vI i6 0/\bW wo wq) (fun i _=>0)
 case atStart=>exact⟨rfl,Bw _ _⟩
 case round=>
  rename World=>wq;obtain⟨rfl,az⟩:=hrel;have a2:Hid (∀ y'∈([]:List Kv).take 0,cK y' ((x1,x2),y)<0):=xI (by simp);have aW:Hid (∀ z,([]:List Kv)[0]?=some z->0<=cK z ((x1,x2),y)/\cK z ((x1,x2),y)≠0):=xI (by simp);go_wp2_with fail;refine Be (S:=fun V=>V.cell? (aD bx 4)=some (vS none 0 0)) (by kernel_rfl) (HS34.out _ az.drew).1 (fun hHeld=>?_);refine oT 0 hHeld ?_
  (iterate 5 refine oY hHeld ?_)
  refine oU 6 hHeld ?_
  (iterate 8 refine oZ hHeld ?_)
  refine zAu 15 (by kernel_rfl) rfl (by rfl) hHeld (oP ?_);refine oU 16 hHeld ?_;refine oT 17 hHeld ?_;refine wD ?_;go_wp2_with fail;refine Be (S:=fun V=>V.cell? (aD bx 4)=some (vS none 0 0)) (by kernel_rfl) (HS34.out _ az.drew.drew).1 (fun hHeld2=>?_);refine oT 0 hHeld2 ?_
  (iterate 5 refine oY hHeld2 ?_)
  refine oU 6 hHeld2 ?_
  (iterate 9 refine oZ hHeld2 ?_)
  refine oT 16 hHeld2 ?_;refine wD ?_;generalize hw9:wq.drew.drew=w9;have aA:bW wo w9:=by rw[<-hw9];exact az.drew.drew
  clear hw9;obtain⟨i1,ay,E,D,C⟩:=Cp Tryz.infoK;obtain⟨i2,aQ,ad,ab,aa⟩:=Cp Tryz.infoV;have M:(([]:List Kv)).length=0:=HM.out.1;obtain⟨u1,w1,aG,ax,aB,_,_⟩:=zBh (elC kyC) 29 29 131 i1 (.agg #[.int .i64 0,.string ⟨#[]⟩]) 2 24 underlying29 ay E D C rfl (by decide) (by decide) (fun x w' B cs h=>zB5 h) w9.drew wo.heap.size (.slice none 0 0) [] (OwnE.nil _ _ _ _ _) (none) (0) (0) ((([]:List Kv).map Prod.fst).take 0) (by rw[Bg,Bk];omega) (fun _=>True) (⟨_,_,rfl,⟨Bt _,Bt _⟩,fun h=>absurd h (by omega)⟩) (by simp only[Cl];omega) aA.drew.size;have ao:bW wo w1:=aA.drew.trans aB;have aU:=zD9 k w (Btw lo w.heap.size) (fun _=>True) (none) (0) ((([]:List Kv).map Prod.snd).take 0) w1 0 (by rw[Bg,Bk];omega) (⟨_,_,rfl,⟨Bt _,Bt _⟩,fun h=>absurd h (by omega)⟩) (by omega);go_wp2_with fail;refine Be (S:=fun V=>(V.cell? (aD bx 4)=some (.slice none 0 0))/\V.cell? (aD bx 3)=some (.slice none 0 0)) (by kernel_rfl) (HS34.out _ aA.drew) (fun hHeld7=>?_);refine oT 0 hHeld7 ?_
  (iterate 3 refine oY hHeld7 ?_)
  refine oT 5 hHeld7 ?_
  (iterate 3 refine oY hHeld7 ?_)
  refine oO 4 fun K hK=>?_;refine Lib.wp_append_run _ _ _ _ _ rfl _ _ rfl rfl _ w1 aG ?_;refine hK _ _ (HS34.out _ ao) (oP ?_);refine oO 9 fun K hK=>?_;go_simp;refine aU.mono ?_;rintro e w2 ⟨A4,c4,rfl,ho2,hb2'⟩;have q:bW wo w2:=ao.trans (hb2'.mono ao.size);refine hK _ _ (HS34.out _ q) (oP ?_);refine oT 10 (HS34.out _ q) ?_;refine oT 11 (HS34.out _ q) ?_;refine wD ?_;have W:=ax.old hb2';have f:=ax.blk;have a:=ho2.blk;obtain⟨g3,aC,w3,L,aI,u,aP,O⟩:=zBi (elC kyC) 29 29 131 i1 (.agg #[vI i6 0,vT ⟨#[]⟩]) 2 24 underlying29 ay E D C rfl (by decide) (by decide) w2.drew wo.heap.size u1 ([]++(([]:List Kv).map Prod.fst).take 0) (W.old yR.drew) (x1,x2) [vI i6 x1,vT ⟨x2.toArray⟩] HKY.out rfl (zB5 HKY.out) (by rw[Cn,Bg];omega) q.drew.size _ rfl 1;have an:bW wo w3:=q.drew.trans u;rw[show w2.drew.alloc (.cells [vI i6 x1,vT ⟨x2.toArray⟩].toArray 131)=(w2.alloc (.cells #[vI i6 x1,vT ⟨x2.toArray⟩] 131)).drew from rfl,show w2.drew.heap.size=w2.heap.size from rfl]at L;obtain⟨u5,w5,R,v,af,aO,ae⟩:=zBh (elC kyC) 29 29 131 i1 (.agg #[vI i6 0,vT ⟨#[]⟩]) 2 24 underlying29 ay E D C rfl (by decide) (by decide) (fun x w' B cs h=>zB5 h) w3 wo.heap.size _ _ aI (none) (0) (0) (([]:List (Int×List UInt8))) (by first|rfl|(rw[Cc,Bk,M])) (fun _=>True) (⟨_,_,rfl,⟨Bt _,Bt _⟩,fun h=>absurd h (by omega)⟩) (by rw[Bd,Dg,Cn,Bg];omega) an.size
  have am:bW wo w5:=an.trans af;have H:=xI (zF4 (c:=cK) (l:=([]:List Kv)) (p:=0) (x:=((x1,x2),y)) (by omega) a2.out (fun z hz=>⟨Int.not_lt.2 (aW.out z hz).1,(aW.out z hz).2⟩));have aT:((([]++(([]:List Kv).map Prod.fst).take 0)++[(x1,x2)])++([]:List (Int×List UInt8)))=(ins cK ((x1,x2),y) (([]:List Kv))).map Prod.fst:=by rw[H.out];simp<;>omega
  have N:(ins cK ((x1,x2),y) (([]:List Kv))).length=0+1:=by rw[H.out,Bd,Cj,Bg,Cc,M];omega
  rw[aT]at v;obtain⟨A5,c5,aF⟩:=v.form;rw[Bk,N]at aF;subst aF;have Y:([]++(([]:List Kv).map Prod.fst).take 0).length=0:=by rw[Cn,Bg,Bk];omega
  have aV:=xI N;have d:=v.blk;have aK:∀ g,(vS A4 (0) c4).ownBlock=some g->w5.heap[g]?=w2.heap[g]?:=by
   intro g hg;have hq:=a g hg;have n1:some g≠u1.ownBlock:=fun e=>by have:=f g e.symm;omega
   have e3:=aP g hq.2 n1;have a7:=u.size;have n3:some g≠(vS (some (aD g3 0)) (([]++(([]:List Kv).map Prod.fst).take 0).length+1) aC).ownBlock:=by
    simp only[Value.ownBlock,ne_eq,Cq];intro e;rcases O with h|h
    ·exact n1 (by rw[h,e])
    ·have:w2.heap.size<=g3:=h;omega
   exact (aO g (by have:w2.drew.heap.size=w2.heap.size:=rfl;omega) n3).trans e3
  have o:=OwnC.kept ho2 aK;have I:=HBX.out _ am;have s:Below bx W1 w5:=hb.trans (am.mono hbz);have ap:Below bx W1 w2:=hb.trans (q.mono hbz);have ah:Below bx W1 w3:=hb.trans (an.mono hbz);have al:Below bx W1 (w2.drew.alloc (.cells #[vI i6 x1,vT ⟨x2.toArray⟩] 131)):=ap.drew.alloc (by have:=q.size;show bx<=w2.heap.size;omega) _;have ka:w2.drew.cell? (aD bx 4)=some (vS none 0 0):=(HS34.out _ q.drew).1;have aq:(w2.alloc (.cells #[vI i6 x1,vT ⟨x2.toArray⟩] 131)).cell? (aD bx 4)=some (vS none 0 0):=(Bv ((Bp _ _ _ (by have:=q.size;omega)).trans (HBX.out _ q)) 4).trans rfl;have kc:w3.cell? (aD bx 4)=some (vS none 0 0):=(HS34.out _ an).1;have kd:w5.cell? (aD bx 4)=some (vS none 0 0):=(HS34.out _ am).1;have kf:=Bz I 4;have HH:=xI (aN o (aN v (aN I (aN f (aN a (aN O (aN ae d)))))));rw[Y]at L R;clear ax W ho2 o aI v I f a O ae d aK aP aO hHeld7 aT Y M N;go_wp2_with fail;apply share
  case h=>
   intro hfin;refine Be (S:=fun V=>V.cell? (aD bs (offs+j*2))=some (vI i6 x1)/\V.cell? (aD bs (offs+j*2+1))=some (vT ⟨x2.toArray⟩)) (by kernel_rfl) (HC.out _ ap.drew).1 (fun hHeld=>?_);refine oT 0 hHeld ?_
   (iterate 4 refine oY hHeld ?_)
   refine oT 7 hHeld ?_;refine oT 9 hHeld ?_;refine C5 (rs:=[5,8]) (by kernel_rfl) (by simp) fun j hj=>?_;have A:j=5\/j=8:=by simpa using hj
   clear hj;rcases A with rfl|rfl
   ·refine zAi rfl (by rfl) (fun K hK=>?_);go_simp;refine hK _ _ ⟨(HC.out _ al).1,oP ?_⟩;refine C5 (rs:=[6,8]) (by kernel_rfl) (by simp) fun j hj=>?_;have A:j=6\/j=8:=by simpa using hj
    clear hj;rcases A with rfl|rfl
    ·refine zAi rfl (by rfl) (fun K hK=>?_);refine Lib.wp_append_run _ _ _ _ _ rfl _ _ rfl rfl _ w3 L ?_;refine hK _ _ ⟨(HC.out _ ah).1,oP ?_⟩;refine oO 8 fun K hK=>?_;go_simp;refine hK _ _ (HC.out _ ah).1 (oP ?_);refine oT 10 (HC.out _ ah).1 ?_;refine oO 11 fun K hK=>?_;refine Lib.wp_append_run _ _ _ _ _ rfl _ _ rfl rfl _ w5 R ?_;refine hK _ _ (HC.out _ s).1 (oP ?_);refine oT 12 (HC.out _ s).1 ?_;refine oO 13 fun K hK=>?_;go_simp;refine hK _ _ (HC.out _ (Bu s (p:=(aD bx 4)) lR _)).1 (oP ?_);refine wD ?_;exact hfin
    ·refine zAi rfl (by rfl) (fun K hK=>?_);go_simp;refine hK _ _ ⟨(HC.out _ al).1,oP ?_⟩;refine oT 10 (HC.out _ al).1 ?_;refine oO 6 fun K hK=>?_;refine Lib.wp_append_run _ _ _ _ _ rfl _ _ rfl rfl _ w3 L ?_;refine hK _ _ (HC.out _ ah).1 (oP ?_);refine oO 11 fun K hK=>?_;refine Lib.wp_append_run _ _ _ _ _ rfl _ _ rfl rfl _ w5 R ?_;refine hK _ _ (HC.out _ s).1 (oP ?_);refine oT 12 (HC.out _ s).1 ?_;refine oO 13 fun K hK=>?_;go_simp;refine hK _ _ (HC.out _ (Bu s (p:=(aD bx 4)) lR _)).1 (oP ?_);refine wD ?_;exact hfin
   ·refine zAi rfl (by rfl) (fun K hK=>?_);go_simp;refine hK _ _ ⟨(HC.out _ ap.drew).1,oP ?_⟩;refine oT 10 (HC.out _ ap.drew).1 ?_;refine oO 5 fun K hK=>?_;go_simp;refine hK _ _ (HC.out _ al).1 (oP ?_);refine oO 6 fun K hK=>?_;refine Lib.wp_append_run _ _ _ _ _ rfl _ _ rfl rfl _ w3 L ?_;refine hK _ _ (HC.out _ ah).1 (oP ?_);refine oO 11 fun K hK=>?_;refine Lib.wp_append_run _ _ _ _ _ rfl _ _ rfl rfl _ w5 R ?_;refine hK _ _ (HC.out _ s).1 (oP ?_);refine oT 12 (HC.out _ s).1 ?_;refine oO 13 fun K hK=>?_;go_simp;refine hK _ _ (HC.out _ (Bu s (p:=(aD bx 4)) lR _)).1 (oP ?_);refine wD ?_;exact hfin
  case hF=>
   obtain⟨o,v,I,f,a,O,ae,d⟩:=HH.out;have M:(([]:List Kv)).length=0:=HM.out.1;have N:=aV.out;generalize hw6:w5.setCell (aD bx 4) (vS A5 (0+1) c5)=w6;have a4:w6.heap.size<=w5.heap.size:=by rw[<-hw6];simp
   have aX:w5.heap.size<=w6.heap.size:=by rw[<-hw6];simp
   have aw:∀ b,b≠bx->w6.heap[b]?=w5.heap[b]?:=fun b hb=>by rw[<-hw6];exact Bq _ _ _ _ hb
   have aj:w6.heap[bx]?=some (oV 8 0 ⟨#[]⟩ none 0 0 A5 (0+1) c5 none 0 0 none 0 0):=by rw[<-hw6];simpa using Bm w5 bx 4 _ _ (vS A5 (0+1) c5) I
   have ag:Below bx W1 w6:=by rw[<-hw6];exact Bu s (p:=(aD bx 4)) lR _
   clear hw6 ka aq kc kd kf;have a6:=am.size;have aZ:=ao.size;have a8:w2.heap.size<=w5.heap.size:=Ba u.size af.size;have aY:=hb2'.size;have U:OwnX7 k w (Btw lo w.heap.size) w6 w1.heap.size (vS A4 (0) c4) ((([]:List Kv).map Prod.snd).take 0):=OwnC.kept o fun g hg=>aw g (by have:=a g hg;omega);have T:OwnY w6 wo.heap.size (vS A5 (0+1) c5) ((ins cK ((x1,x2),y) (([]:List Kv))).map Prod.fst):=OwnC.kept v fun g hg=>aw g (by have:=d g hg;omega);have av:True:=trivial;obtain⟨g7,a1,w7,J,aH,G,aM,aR⟩:=zBi (elC (fun x cs=>VB k w (Btw lo w.heap.size) x cs)) 28 28 33 i2 (.agg nV) 7 128 underlying28 aQ ad ab aa rfl (by decide) (by decide) w6.drew wo.heap.size (vS A4 (0) c4) ((([]:List Kv).map Prod.snd).take 0) ((U.mono aZ).old yR.drew) y [t0,t1,t2,t3,t4,t5,t6] HVY.out rfl (zBg k y w (Btw lo w.heap.size) _ HVY.out) (by rw[Bg];omega) (by show wo.heap.size<=w6.heap.size;omega) _ rfl 1;have a3:w6.heap.size<=w7.heap.size:=G.size;rw[show w6.drew.alloc (.cells [t0,t1,t2,t3,t4,t5,t6].toArray 33)=(w6.alloc (.cells #[t0,t1,t2,t3,t4,t5,t6] 33)).drew from rfl,show w6.drew.heap.size=w6.heap.size from rfl]at J;have au:True:=trivial;obtain⟨u9,w8,Q,ak,F,aL,a0⟩:=zBh (elC (fun x cs=>VB k w (Btw lo w.heap.size) x cs)) 28 28 33 i2 (.agg nV) 7 128 underlying28 aQ ad ab aa rfl (by decide) (by decide) (fun x w' B cs h=>zBg k x w _ cs h) w7 wo.heap.size _ _ aH (none) (0) (0) (([]:List Vl)) (by first|rfl|(rw[Cc,Bk,M])) (fun _=>True) (⟨_,_,rfl,⟨Bt _,Bt _⟩,fun h=>absurd h (by omega)⟩) (by rw[Bd,Dg,Bg];omega) (by omega)
   have aS:(((([]:List Kv).map Prod.snd).take 0++[y])++([]:List Vl))=(ins cK ((x1,x2),y) (([]:List Kv))).map Prod.snd:=by rw[H.out];simp<;>omega
   rw[aS]at ak;obtain⟨A9,c9,aE⟩:=ak.form;rw[Bk,N]at aE;subst aE;have X:((([]:List Kv).map Prod.snd).take 0).length=0:=by rw[Bg,Bk];omega
   rw[X]at J Q;have P:Below bx W1 w7:=ag.drew.trans (G.mono hbz);have r:Below bx W1 w8:=P.trans (F.mono hbz);have a5:w7.heap.size<=w8.heap.size:=F.size;have ar:w7.heap[bx]?=some (oV 8 0 ⟨#[]⟩ none 0 0 A5 (0+1) c5 none 0 0 none 0 0):=(G.block _ (by omega)).trans aj;have ai:w8.heap[bx]?=some (oV 8 0 ⟨#[]⟩ none 0 0 A5 (0+1) c5 none 0 0 none 0 0):=(F.block _ (by omega)).trans ar;have t:Below bx W1 (w6.drew.alloc (.cells #[t0,t1,t2,t3,t4,t5,t6] 33)):=ag.drew.alloc (by show bx<=w6.heap.size;omega) _;have ka:w6.drew.cell? (aD bx 3)=some (vS none 0 0):=cH aj 3;have aq:(w6.alloc (.cells #[t0,t1,t2,t3,t4,t5,t6] 33)).cell? (aD bx 3)=some (vS none 0 0):=(Bv ((Bp _ _ _ (by omega)).trans aj) 3).trans rfl;have kc:w7.cell? (aD bx 3)=some (vS none 0 0):=cH ar 3;have kd:w8.cell? (aD bx 3)=some (vS none 0 0):=cH ai 3;have kf:=Bz ai 3;have Z:∀ g,(vS A5 (0+1) c5).ownBlock=some g->w8.heap[g]?=w6.heap[g]?:=by
    intro g hg;have hq:=d g hg;have aJ:some g≠(vS A4 (0) c4).ownBlock:=by
     intro e;have a9:=a g e.symm;rcases ae g hg with h|h
     ·simp only[Value.ownBlock,Cq]at h;rcases O with h'|h'
      ·have:=f g3 h';omega
      ·have:w2.heap.size<=g3:=h';omega
     ·have:=u.size;have:w2.heap.size<=w3.heap.size:=this;omega
    have e7:=aM g (by show g<w6.heap.size;omega) aJ;refine (aL g (by omega) ?_).trans e7;simp only[Value.ownBlock,ne_eq,Cq];intro e;rcases aR with h|h
    ·exact aJ (by rw[h,e])
    ·have:w6.heap.size<=g7:=h;omega
   have HQ:=xI (aN (OwnC.kept T Z) (aN ak (aN ai r)));clear U T aH ak aj ar ai Z aM aL aR a0 f a d O ae av au aS o v I aw X M N;go_wp2_with fail;apply share
   case h=>
    intro hfin;refine Be (S:=fun V=>V.cell? (aD bv (ov+j*7))=some t0/\V.cell? (aD bv (ov+j*7+1))=some t1/\V.cell? (aD bv (ov+j*7+2))=some t2/\V.cell? (aD bv (ov+j*7+3))=some t3/\V.cell? (aD bv (ov+j*7+4))=some t4/\V.cell? (aD bv (ov+j*7+5))=some t5/\V.cell? (aD bv (ov+j*7+6))=some t6) (by kernel_rfl) (HC.out _ ag.drew).2 (fun hHeld=>?_);refine oT 0 hHeld ?_
    (iterate 4 refine oY hHeld ?_)
    refine oT 7 hHeld ?_;refine oT 9 hHeld ?_;refine C5 (rs:=[5,8]) (by kernel_rfl) (by simp) fun j hj=>?_;have A:j=5\/j=8:=by simpa using hj
    clear hj;rcases A with rfl|rfl
    ·refine zAi rfl (by rfl) (fun K hK=>?_);go_simp;refine hK _ _ ⟨(HC.out _ t).2,oP ?_⟩;refine C5 (rs:=[6,8]) (by kernel_rfl) (by simp) fun j hj=>?_;have A:j=6\/j=8:=by simpa using hj
     clear hj;rcases A with rfl|rfl
     ·refine zAi rfl (by rfl) (fun K hK=>?_);refine Lib.wp_append_run _ _ _ _ _ rfl _ _ rfl rfl _ w7 J ?_;refine hK _ _ ⟨(HC.out _ P).2,oP ?_⟩;refine oO 8 fun K hK=>?_;go_simp;refine hK _ _ (HC.out _ P).2 (oP ?_);refine oT 10 (HC.out _ P).2 ?_;refine oO 11 fun K hK=>?_;refine Lib.wp_append_run _ _ _ _ _ rfl _ _ rfl rfl _ w8 Q ?_;refine hK _ _ (HC.out _ r).2 (oP ?_);refine oT 12 (HC.out _ r).2 ?_;refine oO 13 fun K hK=>?_;go_simp;refine hK _ _ (HC.out _ (Bu r (p:=(aD bx 3)) lR _)).2 (oP ?_);refine wD ?_;exact hfin
     ·refine zAi rfl (by rfl) (fun K hK=>?_);go_simp;refine hK _ _ ⟨(HC.out _ t).2,oP ?_⟩;refine oT 10 (HC.out _ t).2 ?_;refine oO 6 fun K hK=>?_;refine Lib.wp_append_run _ _ _ _ _ rfl _ _ rfl rfl _ w7 J ?_;refine hK _ _ (HC.out _ P).2 (oP ?_);refine oO 11 fun K hK=>?_;refine Lib.wp_append_run _ _ _ _ _ rfl _ _ rfl rfl _ w8 Q ?_;refine hK _ _ (HC.out _ r).2 (oP ?_);refine oT 12 (HC.out _ r).2 ?_;refine oO 13 fun K hK=>?_;go_simp;refine hK _ _ (HC.out _ (Bu r (p:=(aD bx 3)) lR _)).2 (oP ?_);refine wD ?_;exact hfin
    ·refine zAi rfl (by rfl) (fun K hK=>?_);go_simp;refine hK _ _ ⟨(HC.out _ ag.drew).2,oP ?_⟩;refine oT 10 (HC.out _ ag.drew).2 ?_;refine oO 5 fun K hK=>?_;go_simp;refine hK _ _ (HC.out _ t).2 (oP ?_);refine oO 6 fun K hK=>?_;refine Lib.wp_append_run _ _ _ _ _ rfl _ _ rfl rfl _ w7 J ?_;refine hK _ _ (HC.out _ P).2 (oP ?_);refine oO 11 fun K hK=>?_;refine Lib.wp_append_run _ _ _ _ _ rfl _ _ rfl rfl _ w8 Q ?_;refine hK _ _ (HC.out _ r).2 (oP ?_);refine oT 12 (HC.out _ r).2 ?_;refine oO 13 fun K hK=>?_;go_simp;refine hK _ _ (HC.out _ (Bu r (p:=(aD bx 3)) lR _)).2 (oP ?_);refine wD ?_;exact hfin
   case hF=>
    obtain⟨r1,r2,r3,r4⟩:=HQ.out;clear ka aq kc kd kf aG L R J Q aU;go_wp2_with fail
    go_roundw
    case rel=>
     refine⟨j+1,0+1,A5,c5,A9,c9,ins cK ((x1,x2),y) (([]:List Kv)),by go_num,by omega,?_,(OwnE.low (r1.mono (by omega)) (by omega)),(OwnE.low (r2.mono (by omega)) (by omega)),by rw[zBr HX.out,<-HPS.out],aV.out,by have:=HM.out.2;omega,fun h=>absurd h (by omega),Bu r4 (p:=(aD bx 3)) lR _,by simp;omega⟩;simpa using Bm w8 bx 3 _ _ (vS A9 (0+1) c9) r3
    case measure=>simp[intOf];try omega
theorem zJi:zBy.2.1:=by
 unfold zBy;intro k lo c keys c' l w hlo W0 hba hz0 k0 n hn HN ix0 wr ix1 u18 u19 u20 u21 u22 u23 u24 u25 u26 u27 u28 u29 u30 ix2 ix3 hjn HKB ix4 ix5 ix6 W1 hbw1 kr bx hz1 kb hbx wo u5 u9 u10 u11 u32 u33 u34 u35 u36 u37 ix7 ix8 ix9 ix10 ix11 ix12 ix13 ix14 ix15 ix16 ix17 ix18 ix19 ix20 ix21 ix22 ix23 ix24 ix25 ix26 u58 u59 u60 u61 u62 u63 u64 u65 u66 u67 u68 u69 u70 u71 u72 u73 u74 u75 u76 u77 u78 u79 u80 u81 u82 u83 u84 u85 u86 u87 u88 u89 u90 u91 u92 u93 u94 u95 u96 u97 u98 u99 u100 u101 u102 u103 u104 u105 u106 u107 u108 u109 u110 u111 j m c1 c2 ps hj hb hzo HPS HM hmn hjn2 bs offs cp1 hbs HK bv ov cp2 t0 t1 t2 t3 t4 t5 t6 hbv y HL ix27 ix28 x1 x2 HX HKY HVY HC kn kp hbz he g1 hBg1 hgs1 g2 hBg2 hgs2 ix29 HO1 hlc1 ix30 HO2 HBX HS34 hlc2 ix31 ix32 ix33 ix34 ix35 wq u38 u39 u40 u41 u42 u43 u44 u45 u46 u47 u48 u49 u50 u51 u52 u53 u54 u55 u56 u57 p hp hbq HLO hbW hpc1 hcz1 hpc2 hcz2 hpl cg ix36 hg pr z1 z2 ix37 ix38 hcp1 hcp2 HD HY zc HCE HZC HZK pl p0 hlt hltb heq;have aG:Hid (¬ (z1=x1/\z2=x2)):=xI fun h=>heq (by rw[<-HZK.out,h.1,h.2];exact (totK.zero _ _).2 rfl);have a1:Hid (∀ z,ps[p]?=some z->0<=cK z ((x1,x2),y)/\cK z ((x1,x2),y)≠0):=xI (fun z hz=>by
  rw[HY.out]at hz;injection hz with hz;rw[<-hz,HZC.out];exact⟨by omega,heq⟩)
 go_wp2_with fail;refine Be (S:=fun V=>(V.cell? (aD bx 4)=some (vS (some (aD g1 0)) m c1))/\(V.cell? (aD g1 (p*2))=some (vI i6 z1)/\V.cell? (aD g1 (p*2+1))=some (vT ⟨z2.toArray⟩))/\V.cell? (aD bs (offs+j*2))=some (vI i6 x1)/\V.cell? (aD bs (offs+j*2+1))=some (vT ⟨x2.toArray⟩)) (by kernel_rfl) ⟨(HS34.out _ hbq.drew).1,HD.out _ yR.drew,(HC.out _ hbW.drew).1⟩ (fun hHeld=>?_);refine oT 0 hHeld ?_
 (iterate 14 refine oY hHeld ?_)
 refine oO 15 fun K hK=>?_;go_simp;have aZ:=HCE.out wq.drew;with_reducible refine aZ.mono ?_
 rintro e w10 ⟨rfl,hb10⟩;clear aZ;have d:bW wq w10:=(Bw _ _).drew.trans hb10;have r:=aN (HS34.out _ (hbq.trans (d.mono hbq.size))).1 (aN (HD.out _ d) (HC.out _ (hbW.trans (d.mono (by have:=hbq.size;omega)))).1);refine hK _ _ r (oP ?_);refine oT 16 r ?_;refine oT 17 r ?_;refine wD ?_;go_wp2_with fail;refine Be (S:=fun V=>(V.cell? (aD bx 4)=some (vS (some (aD g1 0)) m c1))/\(V.cell? (aD g1 (p*2))=some (vI i6 z1)/\V.cell? (aD g1 (p*2+1))=some (vT ⟨z2.toArray⟩))/\V.cell? (aD bs (offs+j*2))=some (vI i6 x1)/\V.cell? (aD bs (offs+j*2+1))=some (vT ⟨x2.toArray⟩)) (by kernel_rfl) ⟨(HS34.out _ (hbq.trans (d.mono hbq.size)).drew).1,HD.out _ d.drew,(HC.out _ (hbW.trans (d.mono (by have:=hbq.size;omega))).drew).1⟩ (fun hHeld3=>?_);refine oT 0 hHeld3 ?_
 (iterate 14 refine oY hHeld3 ?_)
 refine zFo (i:=15) (v:=.bool false) rfl (by kernel_rfl) (by kernel_rfl) (by kernel_rfl) (fun _ _ _ h=>h) (Or.inl ⟨by rfl,(by
  intro w hSw
  (try dsimp only at hSw)
  go_simp;exact fun e1 e2=>aG.out ⟨e1,e2⟩)⟩) hHeld3 ?_
 (try simp only[pK])
 refine oT 16 hHeld3 ?_;refine wD ?_;generalize hw9:w10.drew=w9;have ay:bW wo w9:=by rw[<-hw9];exact (hbq.trans (d.mono hbq.size)).drew
 clear hw9;obtain⟨i1,aF,I,H,G⟩:=Cp Tryz.infoK;obtain⟨i2,aU,aj,ai,ah⟩:=Cp Tryz.infoV;have Q:(ps).length=m:=HM.out.1;obtain⟨u1,w1,aL,aC,aH,_,_⟩:=zBh (elC kyC) 29 29 131 i1 (.agg #[.int .i64 0,.string ⟨#[]⟩]) 2 24 underlying29 aF I H G rfl (by decide) (by decide) (fun x w' B cs h=>zB5 h) w9.drew wo.heap.size (.slice none 0 0) [] (OwnE.nil _ _ _ _ _) (some (aD g1 0)) (p) (c1) ((ps.map Prod.fst).take p) (by rw[Bg,Bk];omega) (_) (RowB.sub (RowB.take ((HO1.out.old ay.drew).rowN (m:=m) (by omega) (by rw[Bk,HM.out.1];unfold maxLen;omega) (by rw[Bk];exact HM.out.1)) (show p<=m by omega) _) (fun _ h=>h) (fun q cs ⟨hq,z,hz,hv⟩=>⟨z,by rw[Co hq];exact hz,hv⟩)) (by simp only[Cl];omega) ay.drew.size;have ao:bW wo w1:=ay.drew.trans aH;have aY:=zD9 k w (Btw lo w.heap.size) (_) (some (aD g2 0)) (c2) ((ps.map Prod.snd).take p) w1 p (by rw[Bg,Bk];omega) (RowB.sub (RowB.take ((HO2.out.old ao).rowN (m:=m) (by omega) (by rw[Bk,HM.out.1];unfold maxLen;omega) (by rw[Bk];exact HM.out.1)) (show p<=m by omega) _) (fun _ h=>h) (fun q cs ⟨hq,z,hz,hv⟩=>⟨z,by rw[Co hq];exact hz,hv⟩)) (by omega);go_wp2_with fail;refine Be (S:=fun V=>(V.cell? (aD bx 4)=some (.slice (some (aD g1 0)) m c1))/\V.cell? (aD bx 3)=some (.slice (some (aD g2 0)) m c2)) (by kernel_rfl) (HS34.out _ ay.drew) (fun hHeld7=>?_);refine oT 0 hHeld7 ?_
 (iterate 3 refine oY hHeld7 ?_)
 refine oT 5 hHeld7 ?_
 (iterate 3 refine oY hHeld7 ?_)
 refine oO 4 fun K hK=>?_;refine Lib.wp_append_run _ _ _ _ _ rfl _ _ rfl rfl _ w1 aL ?_;refine hK _ _ (HS34.out _ ao) (oP ?_);refine oO 9 fun K hK=>?_;go_simp;refine aY.mono ?_;rintro e w2 ⟨A4,c4,rfl,ho2,hb2'⟩;have t:bW wo w2:=ao.trans (hb2'.mono ao.size);refine hK _ _ (HS34.out _ t) (oP ?_);refine oT 10 (HS34.out _ t) ?_;refine oT 11 (HS34.out _ t) ?_;refine wD ?_;have ad:=aC.old hb2';have o:=aC.blk;have a:=ho2.blk;obtain⟨g3,aI,w3,P,aO,D,aT,T⟩:=zBi (elC kyC) 29 29 131 i1 (.agg #[vI i6 0,vT ⟨#[]⟩]) 2 24 underlying29 aF I H G rfl (by decide) (by decide) w2.drew wo.heap.size u1 ([]++(ps.map Prod.fst).take p) (ad.old yR.drew) (x1,x2) [vI i6 x1,vT ⟨x2.toArray⟩] HKY.out rfl (zB5 HKY.out) (by rw[Cn,Bg];omega) t.drew.size _ rfl 1;have an:bW wo w3:=t.drew.trans D;rw[show w2.drew.alloc (.cells [vI i6 x1,vT ⟨x2.toArray⟩].toArray 131)=(w2.alloc (.cells #[vI i6 x1,vT ⟨x2.toArray⟩] 131)).drew from rfl,show w2.drew.heap.size=w2.heap.size from rfl]at P;obtain⟨u5,w5,Z,E,al,aS,ak⟩:=zBh (elC kyC) 29 29 131 i1 (.agg #[vI i6 0,vT ⟨#[]⟩]) 2 24 underlying29 aF I H G rfl (by decide) (by decide) (fun x w' B cs h=>zB5 h) w3 wo.heap.size _ _ aO (some (aD g1 (p*2))) (m-p) (c1-p) ((ps.map Prod.fst).drop p) (by first|rfl|(rw[Cc,Bk,Q])) (_) (RowB.sub (RowB.drop ((HO1.out.old an).rowN (m:=m) (by omega) (by rw[Bk,HM.out.1];unfold maxLen;omega) (by rw[Bk];exact HM.out.1)) hpl _ _ (by omega)) (fun _ h=>h) (fun q cs ⟨z,hz,hv⟩=>⟨z,by rw[C7];exact hz,hv⟩)) (by rw[Bd,Dg,Cn,Bg];omega) an.size
 have am:bW wo w5:=an.trans al;have M:=xI (zF4 (c:=cK) (l:=ps) (p:=p) (x:=((x1,x2),y)) (by omega) HLO.out (fun z hz=>⟨Int.not_lt.2 (a1.out z hz).1,(a1.out z hz).2⟩));have aX:((([]++(ps.map Prod.fst).take p)++[(x1,x2)])++(ps.map Prod.fst).drop p)=(ins cK ((x1,x2),y) (ps)).map Prod.fst:=by rw[M.out];simp[Dl,List.map_take,List.map_drop]<;>omega
 have R:(ins cK ((x1,x2),y) (ps)).length=m+1:=by rw[M.out,Bd,Cj,Bg,Cc,Q];omega
 rw[aX]at E;obtain⟨A5,c5,aK⟩:=E.form;rw[Bk,R]at aK;subst aK;have af:([]++(ps.map Prod.fst).take p).length=p:=by rw[Cn,Bg,Bk];omega
 have a0:=xI R;have f:=E.blk;have aQ:∀ g,(vS A4 (p) c4).ownBlock=some g->w5.heap[g]?=w2.heap[g]?:=by
  intro g hg;have hq:=a g hg;have n1:some g≠u1.ownBlock:=fun e=>by have:=o g e.symm;omega
  have e3:=aT g hq.2 n1;have bb:=D.size;have n3:some g≠(vS (some (aD g3 0)) (([]++(ps.map Prod.fst).take p).length+1) aI).ownBlock:=by
   simp only[Value.ownBlock,ne_eq,Cq];intro e;rcases T with h|h
   ·exact n1 (by rw[h,e])
   ·have:w2.heap.size<=g3:=h;omega
  exact (aS g (by have:w2.drew.heap.size=w2.heap.size:=rfl;omega) n3).trans e3
 have s:=OwnC.kept ho2 aQ;have N:=HBX.out _ am;have A:Below bx W1 w5:=hb.trans (am.mono hbz);have az:Below bx W1 w2:=hb.trans (t.mono hbz);have aq:Below bx W1 w3:=hb.trans (an.mono hbz);have ax:Below bx W1 (w2.drew.alloc (.cells #[vI i6 x1,vT ⟨x2.toArray⟩] 131)):=az.drew.alloc (by have:=t.size;show bx<=w2.heap.size;omega) _;have ka:w2.drew.cell? (aD bx 4)=some (vS (some (aD g1 0)) m c1):=(HS34.out _ t.drew).1;have aA:(w2.alloc (.cells #[vI i6 x1,vT ⟨x2.toArray⟩] 131)).cell? (aD bx 4)=some (vS (some (aD g1 0)) m c1):=(Bv ((Bp _ _ _ (by have:=t.size;omega)).trans (HBX.out _ t)) 4).trans rfl;have kc:w3.cell? (aD bx 4)=some (vS (some (aD g1 0)) m c1):=(HS34.out _ an).1;have kd:w5.cell? (aD bx 4)=some (vS (some (aD g1 0)) m c1):=(HS34.out _ am).1;have kf:=Bz N 4;have HH:=xI (aN s (aN E (aN N (aN o (aN a (aN T (aN ak f)))))));rw[af]at P Z;clear aC ad ho2 s aO E N o a T ak f aQ aT aS hHeld7 aX af Q R;go_wp2_with fail;apply share
 case h=>
  intro hfin;refine Be (S:=fun V=>V.cell? (aD bs (offs+j*2))=some (vI i6 x1)/\V.cell? (aD bs (offs+j*2+1))=some (vT ⟨x2.toArray⟩)) (by kernel_rfl) (HC.out _ az.drew).1 (fun hHeld=>?_);refine oT 0 hHeld ?_
  (iterate 4 refine oY hHeld ?_)
  refine oT 7 hHeld ?_;refine oT 9 hHeld ?_;refine C5 (rs:=[5,8]) (by kernel_rfl) (by simp) fun j hj=>?_;have F:j=5\/j=8:=by simpa using hj
  clear hj;rcases F with rfl|rfl
  ·refine zAi rfl (by rfl) (fun K hK=>?_);go_simp;refine hK _ _ ⟨(HC.out _ ax).1,oP ?_⟩;refine C5 (rs:=[6,8]) (by kernel_rfl) (by simp) fun j hj=>?_;have F:j=6\/j=8:=by simpa using hj
   clear hj;rcases F with rfl|rfl
   ·refine zAi rfl (by rfl) (fun K hK=>?_);refine Lib.wp_append_run _ _ _ _ _ rfl _ _ rfl rfl _ w3 P ?_;refine hK _ _ ⟨(HC.out _ aq).1,oP ?_⟩;refine oO 8 fun K hK=>?_;go_simp;refine hK _ _ (HC.out _ aq).1 (oP ?_);refine oT 10 (HC.out _ aq).1 ?_;refine oO 11 fun K hK=>?_;refine Lib.wp_append_run _ _ _ _ _ rfl _ _ rfl rfl _ w5 Z ?_;refine hK _ _ (HC.out _ A).1 (oP ?_);refine oT 12 (HC.out _ A).1 ?_;refine oO 13 fun K hK=>?_;go_simp;refine hK _ _ (HC.out _ (Bu A (p:=(aD bx 4)) lR _)).1 (oP ?_);refine wD ?_;exact hfin
   ·refine zAi rfl (by rfl) (fun K hK=>?_);go_simp;refine hK _ _ ⟨(HC.out _ ax).1,oP ?_⟩;refine oT 10 (HC.out _ ax).1 ?_;refine oO 6 fun K hK=>?_;refine Lib.wp_append_run _ _ _ _ _ rfl _ _ rfl rfl _ w3 P ?_;refine hK _ _ (HC.out _ aq).1 (oP ?_);refine oO 11 fun K hK=>?_;refine Lib.wp_append_run _ _ _ _ _ rfl _ _ rfl rfl _ w5 Z ?_;refine hK _ _ (HC.out _ A).1 (oP ?_);refine oT 12 (HC.out _ A).1 ?_;refine oO 13 fun K hK=>?_;go_simp;refine hK _ _ (HC.out _ (Bu A (p:=(aD bx 4)) lR _)).1 (oP ?_);refine wD ?_;exact hfin
  ·refine zAi rfl (by rfl) (fun K hK=>?_);go_simp;refine hK _ _ ⟨(HC.out _ az.drew).1,oP ?_⟩;refine oT 10 (HC.out _ az.drew).1 ?_;refine oO 5 fun K hK=>?_;go_simp;refine hK _ _ (HC.out _ ax).1 (oP ?_);refine oO 6 fun K hK=>?_;refine Lib.wp_append_run _ _ _ _ _ rfl _ _ rfl rfl _ w3 P ?_;refine hK _ _ (HC.out _ aq).1 (oP ?_);refine oO 11 fun K hK=>?_;refine Lib.wp_append_run _ _ _ _ _ rfl _ _ rfl rfl _ w5 Z ?_;refine hK _ _ (HC.out _ A).1 (oP ?_);refine oT 12 (HC.out _ A).1 ?_;refine oO 13 fun K hK=>?_;go_simp;refine hK _ _ (HC.out _ (Bu A (p:=(aD bx 4)) lR _)).1 (oP ?_);refine wD ?_;exact hfin
 case hF=>
  obtain⟨s,E,N,o,a,T,ak,f⟩:=HH.out;have Q:(ps).length=m:=HM.out.1;have R:=a0.out;generalize hw6:w5.setCell (aD bx 4) (vS A5 (m+1) c5)=w6;have a8:w6.heap.size<=w5.heap.size:=by rw[<-hw6];simp
  have a2:w5.heap.size<=w6.heap.size:=by rw[<-hw6];simp
  have aw:∀ b,b≠bx->w6.heap[b]?=w5.heap[b]?:=fun b hb=>by rw[<-hw6];exact Bq _ _ _ _ hb
  have au:w6.heap[bx]?=some (oV 8 0 ⟨#[]⟩ (some (aD g2 0)) m c2 A5 (m+1) c5 none 0 0 none 0 0):=by rw[<-hw6];simpa using Bm w5 bx 4 _ _ (vS A5 (m+1) c5) N
  have ap:Below bx W1 w6:=by rw[<-hw6];exact Bu A (p:=(aD bx 4)) lR _
  clear hw6 ka aA kc kd kf;have ba:=am.size;have a4:=ao.size;have bc:w2.heap.size<=w5.heap.size:=Ba D.size al.size;have a3:=hb2'.size;have ab:OwnX7 k w (Btw lo w.heap.size) w6 w1.heap.size (vS A4 (p) c4) ((ps.map Prod.snd).take p):=OwnC.kept s fun g hg=>aw g (by have:=a g hg;omega);have aa:OwnY w6 wo.heap.size (vS A5 (m+1) c5) ((ins cK ((x1,x2),y) (ps)).map Prod.fst):=OwnC.kept E fun g hg=>aw g (by have:=f g hg;omega);have X:OwnX7 k w (Btw lo w.heap.size) w6 (bx+1) (vS (some (aD g2 0)) m c2) (ps.map Prod.snd):=OwnC.kept HO2.out fun g hg=>by
   simp only[Value.ownBlock,Cq]at hg;subst hg;exact (aw g2 (by omega)).trans (am.block _ (by omega))
  obtain⟨g7,a6,w7,O,aM,L,aE,aV⟩:=zBi (elC (fun x cs=>VB k w (Btw lo w.heap.size) x cs)) 28 28 33 i2 (.agg nV) 7 128 underlying28 aU aj ai ah rfl (by decide) (by decide) w6.drew wo.heap.size (vS A4 (p) c4) ((ps.map Prod.snd).take p) ((ab.mono a4).old yR.drew) y [t0,t1,t2,t3,t4,t5,t6] HVY.out rfl (zBg k y w (Btw lo w.heap.size) _ HVY.out) (by rw[Bg];omega) (by show wo.heap.size<=w6.heap.size;omega) _ rfl 1;have a7:w6.heap.size<=w7.heap.size:=L.size;rw[show w6.drew.alloc (.cells [t0,t1,t2,t3,t4,t5,t6].toArray 33)=(w6.alloc (.cells #[t0,t1,t2,t3,t4,t5,t6] 33)).drew from rfl,show w6.drew.heap.size=w6.heap.size from rfl]at O;have W:OwnX7 k w (Btw lo w.heap.size) w7 (bx+1) (vS (some (aD g2 0)) m c2) (ps.map Prod.snd):=OwnC.kept X fun g hg=>by
   simp only[Value.ownBlock,Cq]at hg;subst hg;exact aE g2 (by show g2<w6.heap.size;omega) (fun e=>by have:=a g2 e.symm;omega)
  obtain⟨u9,w8,Y,av,J,aR,a5⟩:=zBh (elC (fun x cs=>VB k w (Btw lo w.heap.size) x cs)) 28 28 33 i2 (.agg nV) 7 128 underlying28 aU aj ai ah rfl (by decide) (by decide) (fun x w' B cs h=>zBg k x w _ cs h) w7 wo.heap.size _ _ aM (some (aD g2 (p*7))) (m-p) (c2-p) ((ps.map Prod.snd).drop p) (by first|rfl|(rw[Cc,Bk,Q])) (_) (RowB.sub (RowB.drop (W.rowN (m:=m) (by omega) (by rw[Bk,HM.out.1];unfold maxLen;omega) (by rw[Bk];exact HM.out.1)) hpl _ _ (by omega)) (fun _ h=>h) (fun q cs ⟨z,hz,hv⟩=>⟨z,by rw[C7];exact hz,hv⟩)) (by rw[Bd,Dg,Bg];omega) (by omega)
  have aW:(((ps.map Prod.snd).take p++[y])++(ps.map Prod.snd).drop p)=(ins cK ((x1,x2),y) (ps)).map Prod.snd:=by rw[M.out];simp[Dl,List.map_take,List.map_drop]<;>omega
  rw[aW]at av;obtain⟨A9,c9,aJ⟩:=av.form;rw[Bk,R]at aJ;subst aJ;have ae:((ps.map Prod.snd).take p).length=p:=by rw[Bg,Bk];omega
  rw[ae]at O Y;have U:Below bx W1 w7:=ap.drew.trans (L.mono hbz);have u:Below bx W1 w8:=U.trans (J.mono hbz);have a9:w7.heap.size<=w8.heap.size:=J.size;have aB:w7.heap[bx]?=some (oV 8 0 ⟨#[]⟩ (some (aD g2 0)) m c2 A5 (m+1) c5 none 0 0 none 0 0):=(L.block _ (by omega)).trans au;have ar:w8.heap[bx]?=some (oV 8 0 ⟨#[]⟩ (some (aD g2 0)) m c2 A5 (m+1) c5 none 0 0 none 0 0):=(J.block _ (by omega)).trans aB;have C:Below bx W1 (w6.drew.alloc (.cells #[t0,t1,t2,t3,t4,t5,t6] 33)):=ap.drew.alloc (by show bx<=w6.heap.size;omega) _;have ka:w6.drew.cell? (aD bx 3)=some (vS (some (aD g2 0)) m c2):=cH au 3;have aA:(w6.alloc (.cells #[t0,t1,t2,t3,t4,t5,t6] 33)).cell? (aD bx 3)=some (vS (some (aD g2 0)) m c2):=(Bv ((Bp _ _ _ (by omega)).trans au) 3).trans rfl;have kc:w7.cell? (aD bx 3)=some (vS (some (aD g2 0)) m c2):=cH aB 3;have kd:w8.cell? (aD bx 3)=some (vS (some (aD g2 0)) m c2):=cH ar 3;have kf:=Bz ar 3;have ag:∀ g,(vS A5 (m+1) c5).ownBlock=some g->w8.heap[g]?=w6.heap[g]?:=by
   intro g hg;have hq:=f g hg;have aP:some g≠(vS A4 (p) c4).ownBlock:=by
    intro e;have bd:=a g e.symm;rcases ak g hg with h|h
    ·simp only[Value.ownBlock,Cq]at h;rcases T with h'|h'
     ·have:=o g3 h';omega
     ·have:w2.heap.size<=g3:=h';omega
    ·have:=D.size;have:w2.heap.size<=w3.heap.size:=this;omega
   have e7:=aE g (by show g<w6.heap.size;omega) aP;refine (aR g (by omega) ?_).trans e7;simp only[Value.ownBlock,ne_eq,Cq];intro e;rcases aV with h|h
   ·exact aP (by rw[h,e])
   ·have:w6.heap.size<=g7:=h;omega
  have HQ:=xI (aN (OwnC.kept aa ag) (aN av (aN ar u)));clear ab aa aM av au aB ar ag aE aR aV a5 o a f T ak X W aW s E N aw ae Q R;go_wp2_with fail;apply share
  case h=>
   intro hfin;refine Be (S:=fun V=>V.cell? (aD bv (ov+j*7))=some t0/\V.cell? (aD bv (ov+j*7+1))=some t1/\V.cell? (aD bv (ov+j*7+2))=some t2/\V.cell? (aD bv (ov+j*7+3))=some t3/\V.cell? (aD bv (ov+j*7+4))=some t4/\V.cell? (aD bv (ov+j*7+5))=some t5/\V.cell? (aD bv (ov+j*7+6))=some t6) (by kernel_rfl) (HC.out _ ap.drew).2 (fun hHeld=>?_);refine oT 0 hHeld ?_
   (iterate 4 refine oY hHeld ?_)
   refine oT 7 hHeld ?_;refine oT 9 hHeld ?_;refine C5 (rs:=[5,8]) (by kernel_rfl) (by simp) fun j hj=>?_;have F:j=5\/j=8:=by simpa using hj
   clear hj;rcases F with rfl|rfl
   ·refine zAi rfl (by rfl) (fun K hK=>?_);go_simp;refine hK _ _ ⟨(HC.out _ C).2,oP ?_⟩;refine C5 (rs:=[6,8]) (by kernel_rfl) (by simp) fun j hj=>?_;have F:j=6\/j=8:=by simpa using hj
    clear hj;rcases F with rfl|rfl
    ·refine zAi rfl (by rfl) (fun K hK=>?_);refine Lib.wp_append_run _ _ _ _ _ rfl _ _ rfl rfl _ w7 O ?_;refine hK _ _ ⟨(HC.out _ U).2,oP ?_⟩;refine oO 8 fun K hK=>?_;go_simp;refine hK _ _ (HC.out _ U).2 (oP ?_);refine oT 10 (HC.out _ U).2 ?_;refine oO 11 fun K hK=>?_;refine Lib.wp_append_run _ _ _ _ _ rfl _ _ rfl rfl _ w8 Y ?_;refine hK _ _ (HC.out _ u).2 (oP ?_);refine oT 12 (HC.out _ u).2 ?_;refine oO 13 fun K hK=>?_;go_simp;refine hK _ _ (HC.out _ (Bu u (p:=(aD bx 3)) lR _)).2 (oP ?_);refine wD ?_;exact hfin
    ·refine zAi rfl (by rfl) (fun K hK=>?_);go_simp;refine hK _ _ ⟨(HC.out _ C).2,oP ?_⟩;refine oT 10 (HC.out _ C).2 ?_;refine oO 6 fun K hK=>?_;refine Lib.wp_append_run _ _ _ _ _ rfl _ _ rfl rfl _ w7 O ?_;refine hK _ _ (HC.out _ U).2 (oP ?_);refine oO 11 fun K hK=>?_;refine Lib.wp_append_run _ _ _ _ _ rfl _ _ rfl rfl _ w8 Y ?_;refine hK _ _ (HC.out _ u).2 (oP ?_);refine oT 12 (HC.out _ u).2 ?_;refine oO 13 fun K hK=>?_;go_simp;refine hK _ _ (HC.out _ (Bu u (p:=(aD bx 3)) lR _)).2 (oP ?_);refine wD ?_;exact hfin
   ·refine zAi rfl (by rfl) (fun K hK=>?_);go_simp;refine hK _ _ ⟨(HC.out _ ap.drew).2,oP ?_⟩;refine oT 10 (HC.out _ ap.drew).2 ?_;refine oO 5 fun K hK=>?_;go_simp;refine hK _ _ (HC.out _ C).2 (oP ?_);refine oO 6 fun K hK=>?_;refine Lib.wp_append_run _ _ _ _ _ rfl _ _ rfl rfl _ w7 O ?_;refine hK _ _ (HC.out _ U).2 (oP ?_);refine oO 11 fun K hK=>?_;refine Lib.wp_append_run _ _ _ _ _ rfl _ _ rfl rfl _ w8 Y ?_;refine hK _ _ (HC.out _ u).2 (oP ?_);refine oT 12 (HC.out _ u).2 ?_;refine oO 13 fun K hK=>?_;go_simp;refine hK _ _ (HC.out _ (Bu u (p:=(aD bx 3)) lR _)).2 (oP ?_);refine wD ?_;exact hfin
  case hF=>
   obtain⟨r1,r2,r3,r4⟩:=HQ.out;clear ka aA kc kd kf aL P Z O Y aY;go_wp2_with fail
   go_roundw
   case rel=>
    refine⟨j+1,m+1,A5,c5,A9,c9,ins cK ((x1,x2),y) (ps),by go_num,by omega,?_,(OwnE.low (r1.mono (by omega)) (by omega)),(OwnE.low (r2.mono (by omega)) (by omega)),by rw[zBr HX.out,<-HPS.out],a0.out,by have:=HM.out.2;omega,fun h=>absurd h (by omega),Bu r4 (p:=(aD bx 3)) lR _,by simp;omega⟩;simpa using Bm w8 bx 3 _ _ (vS A9 (m+1) c9) r3
   case measure=>simp[intOf];try omega
end Go.Proofs.YteedihhdcbepmaaGreat
