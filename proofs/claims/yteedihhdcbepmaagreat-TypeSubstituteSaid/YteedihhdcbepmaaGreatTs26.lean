/- Map of the document, down to three ways of .. -/
import Derived.Test.YteedihhdcbepmaaGreatTsZ
import Derived.Test.YteedihhdcbepmaaGreatTs25
set_option maxRecDepth 100000
set_option maxHeartbeats 20000000
set_option linter.all false
open Go.Value renaming slice→vS,int→vI,string→vT
open Go.IntKind renaming i64→i6
open Go.Proofs.Tryz renaming prog→tP
namespace Go.Proofs.YteedihhdcbepmaaGreat
open Go Go.RowKit
def zBy:(G1:Prop) ×' (G2:Prop) ×' (G3:Prop) ×' (G1->G2->G3->∀ (k lo:Nat) (A:Option Addr) (c:Nat) (keys:List (Int×List UInt8)) (A':Option Addr) (c':Nat) (l:List Vl) (w:World) (_hlo:lo<=w.heap.size) (_hK:RowY w (Btw lo w.heap.size) (vS A keys.length c) keys) (_hl:RowV k lo w (vS A' l.length c') l) (_hn:keys.length<=100000),
  Calls tP 97 #[vS A keys.length c,vS A' l.length c'] w (MapR k lo keys l w)):=⟨_,_,_,by
 intro g1 g2 g3 k lo A c keys A' c' l w hlo hK hl hn;have HG1:=xI g1;have HG2:=xI g2;have HG3:=xI g3;clear g1 g2 g3;obtain⟨W0,hW0,hba,k0,hz0⟩:=aW w oG
 have HK:=xI hK;have HL:=xI hl;clear hl hK;by_cases hlen:keys.length=l.length
 case neg=>
  have HF:=xI (show ¬ (keys.length=l.length/\keysB keys=true)from fun h=>hlen h.1);generalize hLN:keys.length=n at *;generalize hLN2:l.length=n2 at *;have HNN:=xI (aN hLN hLN2);clear hLN hLN2;have hnb:((n:Int) != (n2:Int))=true:=by simp;omega
  go_enter Tryz.func97,Tryz.ntmps97;go_wp2_with fail;rw[<-hW0];clear hW0;obtain⟨e0,e1,e2,e3,e4,e5,e6⟩:=zAc k0;obtain⟨z0,z1,z2,z3,z4,z5,z6⟩:=zAd k0;go_wp2;have hBV:bW w W0:=hba;clear z0 z1 z2 z3 z4 z5 z6;obtain⟨ps0,ps1,ps2,ps3,ps4,ps5,ps6⟩:=zAc k0;refine Cw (v:=.tuple #[.agg nV,vI i6 1]) (by simp[results,Tryz.results97,go_sem,ps0,ps1,ps2,ps3,ps4,ps5,ps6]) rfl ?_;exact⟨hBV,.inl ⟨by rw[HNN.out.1,HNN.out.2];exact HF.out,rfl⟩⟩
 generalize hLN:keys.length=n at *;generalize hLN2:l.length=n2 at *;subst hlen;have HN:=xI (aN hLN hLN2);clear hLN hLN2;go_enter Tryz.func97,Tryz.ntmps97;go_wp2_with fail;rw[<-hW0];clear hW0
 go_loopw [6] (fun i wr=>∃ (j:Nat),i=vI i6 j/\j<=n/\(∀ x∈keys.take j,keyB x.1 x.2=true)/\bW W0 wr) (fun i _=>n-(intOf i).toNat)
 case atStart=>exact⟨0,rfl,by omega,by simp,Bw _ _⟩
 case round=>
  obtain⟨j,rfl,hj,hall,hb⟩:=hrel;have hbw:bW w wr:=hba.trans (hb.mono hba.size);have k1:wr.heap[w.heap.size]?=some oG:=(hb.block _ (by omega)).trans k0;have HA:=xI hall;clear hall;by_cases hjn:j<n
  ·obtain⟨bs,offs,cap9,v0,v1,hu,hbs,⟨x,hx,hE,hwf,hxl⟩,c0,c1⟩:=RowB.at2 (H:=w.heap.size) (j:=j) (RowB.sub HK.out (fun _ h=>h.2) (fun _ _ h=>h)) (by have:=HN.out;omega);injection hu with hA hNN hcc;subst hA;clear hNN hcc;simp only[Bb,and_true]at hE;obtain⟨rfl,rfl⟩:=hE;have kn:(j:Int)<(n:Int):=by omega
   have kp:(0:Int)<=(j:Int):=by omega
   have s0:wr.cell? (aD bs (offs+j*2))=some (vI i6 x.1):=(hbw.cell (p:=(aD bs _)) hbs).trans c0;have s1:wr.cell? (aD bs (offs+j*2+1))=some (vT ⟨x.2.toArray⟩):=(hbw.cell (p:=(aD bs _)) hbs).trans c1;have hv:=zBf x.1 ⟨x.2.toArray⟩ wr (by simpa [ByteArray.size] using hxl);have HX:=xI hx;clear c0 c1 hx hwf hxl;rw[show (⟨x.2.toArray⟩:ByteArray).data.toList=x.2 from rfl]at hv;generalize hzz:keyB x.1 x.2=zr at hv;have hkx:=xI hzz;clear hzz;obtain⟨x1,x2⟩:=x;go_wp2_with fail;refine hv.mono ?_;rintro e w10 ⟨rfl,hb10⟩;have hb10':bW W0 w10:=hb.trans (hb10.mono hb.size);have hbw10:bW w w10:=hbw.trans (hb10.mono hbw.size);have k2:w10.heap[w.heap.size]?=some oG:=(hb10'.block _ (by omega)).trans k0;clear hv;cases zr
   ·have HF:Hid (¬ (keys.length=l.length/\keysB keys=true)):=xI (by
     rintro⟨_,h⟩;have:=Cz.1 h _ (Bh HX.out);rw[hkx.out]at this;cases this)
    obtain⟨e0,e1,e2,e3,e4,e5,e6⟩:=zAc k2;obtain⟨z0,z1,z2,z3,z4,z5,z6⟩:=zAd k2;go_wp2;refine nW fun V hV=>?_;have hob:V.heap[w.heap.size]?=some oG:=by rw[hV];exact obj7 k2 (vI i6 0) (vI i6 0) (vT ⟨#[]⟩) (vS none 0 0) (vS none 0 0) (vS none 0 0) (vS none 0 0)
    have hBV:bW w V:=by rw[hV];exact Bu (Bu (Bu (Bu (Bu (Bu (Bu (hbw10) (p:=(aH w 0)) lR _) (p:=(aH w 1)) lR _) (p:=(aH w 2)) lR _) (p:=(aH w 3)) lR _) (p:=(aH w 4)) lR _) (p:=(aH w 5)) lR _) (p:=(aH w 6)) lR _
    have hszV:V.heap.size=w10.heap.size:=by rw[hV];simp
    have hsm:∀ B:Nat->Prop,¬ B w.heap.size->Same B w10 V:=fun B h=>by rw[hV];exact zAa (zAa (zAa (zAa (zAa (zAa (zAa ((Same.refl _ _)) h) h) h) h) h) h) h
    clear hV e0 z0 e1 z1 e2 z2 e3 z3 e4 z4 e5 z5 e6 z6;obtain⟨ps0,ps1,ps2,ps3,ps4,ps5,ps6⟩:=zAc hob;refine Cw (v:=.tuple #[.agg nV,vI i6 1]) (by simp[results,Tryz.results97,go_sem,ps0,ps1,ps2,ps3,ps4,ps5,ps6]) rfl ?_;have hn12:=HN.out;exact⟨hBV,.inl ⟨HF.out,rfl⟩⟩
   ·have HT:Hid (keyB x1 x2=true):=hkx;clear k1 k2;go_wp2_with fail
    go_roundw
    case rel=>
     refine⟨j+1,by go_num,by omega,fun z hz=>?_,hb10'⟩;rw[Cr,HX.out]at hz;rcases B7.1 hz with hz|hz
     ·exact HA.out z hz
     ·have hz':=Option.mem_toList.1 hz;injection hz' with hz';rw[<-hz'];exact HT.out
    case measure=>simp[intOf];try omega
  ·have HKB:Hid (keysB keys=true):=xI (by
    have hke:keys.take j=keys:=B8 (by have:=HN.out;omega);unfold keysB;rw[Cz];have:=HA.out;rw[hke]at this;exact this)
   go_wp2_with fail;obtain⟨W1,hW1,hb1,kb,hz1⟩:=aW wr (oV 8 0 ⟨#[]⟩ none 0 0 none 0 0 none 0 0 none 0 0)
   have hbw1:bW w W1:=hbw.trans (hb1.mono hbw.size);have kr:W1.heap[w.heap.size]?=some oG:=(hb1.block _ (by have:=hb.size;omega)).trans k1;have hbx:w.heap.size<wr.heap.size:=by have:=hb.size;omega
   rw[<-hW1];clear hW1 k1 hb1 hbw HA hb;generalize wr.heap.size=bx at *
   go_loopw [8] (fun i wo=>∃ (j m:Nat) (A1:Option Addr) (c1:Nat) (A2:Option Addr) (c2:Nat) (ps:List Kv),i=vI i6 j/\j<=n/\wo.heap[bx]?=some (oV 8 0 ⟨#[]⟩ A2 m c2 A1 m c1 none 0 0 none 0 0)/\OwnY wo (bx+1) (vS A1 m c1) (ps.map Prod.fst)/\OwnX7 k w (Btw lo w.heap.size) wo (bx+1) (vS A2 m c2) (ps.map Prod.snd)/\ps=srtC cK ((keys.zip l).take j)/\ps.length=m/\m=j/\(m=0->A1=none/\c1=0/\A2=none/\c2=0)/\Below bx W1 wo/\bx+1<=wo.heap.size) (fun i _=>n-(intOf i).toNat)
   case atStart=>exact⟨0,0,none,0,none,0,[],rfl,by omega,kb,OwnE.nil _ _ _ _ _,OwnE.nil _ _ _ _ _,by simp[srtC],rfl,rfl,fun _=>⟨rfl,rfl,rfl,rfl⟩,Bw _ _,by omega⟩
   case round=>
    rename World=>wo;obtain⟨j,m,A1,c1,A2,c2,ps,rfl,hj,hbox,hO1,hO2,hps,hm1,hm2,hnil,hb,hzo⟩:=hrel;have HPS:=xI hps;have HM:=xI (aN hm1 hm2);have HO1:=xI hO1;have HO2:=xI hO2;have hmn:m<=n:=by omega
    clear hps hm1 hm2;by_cases hjn2:j<n
    ·obtain⟨bs,offs,cp1,v0,v1,hu,hbs,⟨x,hx,hE,hwf,hxl⟩,q0,q1⟩:=RowB.at2 (H:=w.heap.size) (j:=j) (RowB.sub HK.out (fun _ h=>h.2) (fun _ _ h=>h)) (by have:=HN.out.1;omega);injection hu with hA hNN hcc;subst hA;clear hNN hcc;simp only[Bb,and_true]at hE;obtain⟨rfl,rfl⟩:=hE;obtain⟨bv,ov,cp2,t0,t1,t2,t3,t4,t5,t6,hu,hbv,⟨y,hy,hVy⟩,d0,d1,d2,d3,d4,d5,d6⟩:=RowB.at7 (H:=w.heap.size) (j:=j) (RowB.sub HL.out (fun _ h=>h.2) (fun _ _ h=>h)) (by have:=HN.out.2;omega);injection hu with hA hNN hcc;subst hA;clear hNN hcc;obtain⟨x1,x2⟩:=x;have HX:Hid ((keys.zip l)[j]?=some ((x1,x2),y)):=xI (by rw[List.getElem?_zip_eq_some];exact⟨hx,hy⟩);have HKY:Hid (kyC (x1,x2) [vI i6 x1,vT ⟨x2.toArray⟩]):=xI ⟨rfl,hwf,hxl⟩;have HVY:=xI hVy;have HC:Hid (∀ V,Below bx W1 V->(V.cell? (aD bs (offs+j*2))=some (vI i6 x1)/\V.cell? (aD bs (offs+j*2+1))=some (vT ⟨x2.toArray⟩))/\V.cell? (aD bv (ov+j*7))=some t0/\V.cell? (aD bv (ov+j*7+1))=some t1/\V.cell? (aD bv (ov+j*7+2))=some t2/\V.cell? (aD bv (ov+j*7+3))=some t3/\V.cell? (aD bv (ov+j*7+4))=some t4/\V.cell? (aD bv (ov+j*7+5))=some t5/\V.cell? (aD bv (ov+j*7+6))=some t6):=xI fun V h=>⟨⟨(h.cell (p:=(aD bs _)) (by show bs<bx;omega)).trans ((hbw1.cell (p:=(aD bs _)) hbs).trans q0),(h.cell (p:=(aD bs _)) (by show bs<bx;omega)).trans ((hbw1.cell (p:=(aD bs _)) hbs).trans q1)⟩,(h.cell (p:=(aD bv _)) (by show bv<bx;omega)).trans ((hbw1.cell (p:=(aD bv _)) hbv).trans d0),(h.cell (p:=(aD bv _)) (by show bv<bx;omega)).trans ((hbw1.cell (p:=(aD bv _)) hbv).trans d1),(h.cell (p:=(aD bv _)) (by show bv<bx;omega)).trans ((hbw1.cell (p:=(aD bv _)) hbv).trans d2),(h.cell (p:=(aD bv _)) (by show bv<bx;omega)).trans ((hbw1.cell (p:=(aD bv _)) hbv).trans d3),(h.cell (p:=(aD bv _)) (by show bv<bx;omega)).trans ((hbw1.cell (p:=(aD bv _)) hbv).trans d4),(h.cell (p:=(aD bv _)) (by show bv<bx;omega)).trans ((hbw1.cell (p:=(aD bv _)) hbv).trans d5),(h.cell (p:=(aD bv _)) (by show bv<bx;omega)).trans ((hbw1.cell (p:=(aD bv _)) hbv).trans d6)⟩;have HBX:Hid (∀ V,bW wo V->V.heap[bx]?=some (oV 8 0 ⟨#[]⟩ A2 m c2 A1 m c1 none 0 0 none 0 0)):=xI fun V h=>(h.block _ (by omega)).trans hbox;have HS34:Hid (∀ V,bW wo V->(V.cell? (aD bx 4)=some (vS A1 m c1))/\V.cell? (aD bx 3)=some (vS A2 m c2)):=xI fun V h=>⟨(Bv (HBX.out V h) 4).trans rfl,(Bv (HBX.out V h) 3).trans rfl⟩;have kn:(j:Int)<(n:Int):=by omega
     have kp:(0:Int)<=(j:Int):=by omega
     have hbz:bx<=wo.heap.size:=by omega
     clear q0 q1 d0 d1 d2 d3 d4 d5 d6 hx hy hVy hwf hxl hbox;by_cases he:m=0
     ·rename_i ix0 ix1 ix2 ix3 ix4 ix5 ix6 ix7 ix8;revert k lo c keys c' l w hlo W0 hba hz0 k0 n hn HN ix0 wr ix1 u18 u19 u20 u21 u22 u23 u24 u25 u26 u27 u28 u29 u30 ix2 ix3 hjn HKB ix4 ix5 ix6 W1 hbw1 kr bx hz1 kb hbx wo u5 u9 u10 u11 u32 u33 u34 u35 u36 u37 u38 u39 u40 u41 u42 u43 u44 u45 u46 u47 u48 u49 u50 u51 u52 u53 u54 u55 u56 u57 u58 u59 u60 u61 u62 u63 u64 u65 u66 u67 u68 u69 u70 u71 u72 u73 u74 u75 u76 u77 u78 u79 u80 u81 u82 u83 u84 u85 u86 u87 u88 u89 u90 u91 u92 u93 u94 u95 u96 u97 u98 u99 u100 u101 u102 u103 u104 u105 u106 u107 u108 u109 u110 u111 j m A1 c1 A2 c2 ps hj hO1 hO2 hnil hb hzo HPS HM HO1 HO2 hmn hjn2 bs offs cp1 hbs HK bv ov cp2 t0 t1 t2 t3 t4 t5 t6 hbv y HL ix7 ix8 x1 x2 HX HKY HVY HC HBX HS34 kn kp hbz he;exact HG1.out
     ·obtain⟨g1,cap1,hv1,hBg1,hgs1,hlc1⟩:=hO1.formN (m:=m) (by rw[Bk];exact HM.out.1) (by omega);obtain⟨g2,cap2,hv2,hBg2,hgs2,hlc2⟩:=hO2.formN (m:=m) (by rw[Bk];exact HM.out.1) (by omega);injection hv1 with e1 _ e3;subst e1 e3;injection hv2 with e1 _ e3;subst e1 e3;clear hnil hO1 hO2;go_wp2_with fail
      go_loopw [9] (fun i wq=>∃ p:Nat,i=vI i6 p/\p<=m/\(∀ y'∈ps.take p,cK y' ((x1,x2),y)<0)/\bW wo wq) (fun i _=>m-(intOf i).toNat)
      case atStart=>exact⟨0,rfl,Bt _,by simp,Bw _ _⟩
      case round=>
       rename World=>wq;obtain⟨p,rfl,hp,hlo',hbq⟩:=hrel;have HLO:=xI hlo';clear hlo';have hbW:Below bx W1 wq:=hb.trans (hbq.mono hbz);have hpc1:p<=c1:=by omega
       have hcz1:¬ c1=0:=by omega
       have hpc2:p<=c2:=by omega
       have hcz2:¬ c2=0:=by omega
       by_cases hpl:p<m
       ·obtain⟨g',og,cg,y0,y1,hu,hg,⟨z,hz,hkz,_,_⟩,d0,d1⟩:=RowB.at2 (H:=wq.heap.size) (j:=p) (RowB.sub ((HO1.out.old hbq).rowN (m:=m) (by omega) (by rw[Bk,HM.out.1];unfold maxLen;omega) (by rw[Bk];exact HM.out.1)) (fun _ h=>h.2) (fun _ _ h=>h)) hpl;injection hu with hA hNN hcc;injection hA with hA;injection hA with e1 e2;subst e1 e2;clear hNN hcc;rw[Dx]at d0 d1;simp only[Bb,and_true]at hkz;obtain⟨rfl,rfl⟩:=hkz;obtain⟨pr,hpr,hprz⟩:∃ pr,ps[p]?=some pr/\pr.1=z:=by
         rw[Ch]at hz;cases hq:ps[p]? with
         | none=>rw[hq]at hz;simp at hz
         | some pr=>rw[hq]at hz;exact⟨pr,rfl,by simpa using hz⟩
        obtain⟨z1,z2⟩:=z;have hcp1:¬ c1=p:=by omega
        have hcp2:¬ c2=p:=by omega
        have HD:Hid (∀ V,bW wq V->V.cell? (aD g1 (p*2))=some (vI i6 z1)/\V.cell? (aD g1 (p*2+1))=some (vT ⟨z2.toArray⟩)):=xI fun V h=>⟨(h.cell (p:=(aD g1 _)) hg).trans d0,(h.cell (p:=(aD g1 _)) hg).trans d1⟩;have HCE:Hid (∀ V,Calls tP 117 #[.agg #[vI i6 z1,vT ⟨z2.toArray⟩],.agg #[vI i6 x1,vT ⟨x2.toArray⟩]] V fun e w'=>e=.returned (vI i6 (cmpK (z1,z2) (x1,x2)))/\bW V w'):=xI fun V=>zCx (z1,z2) (x1,x2) V;have HY:=xI hpr;have HZC:Hid (cK pr ((x1,x2),y)=cmpK (z1,z2) (x1,x2)):=xI (by unfold cK;rw[hprz]);clear hz hpr hprz d0 d1;generalize hzc:cmpK (z1,z2) (x1,x2)=zc at HCE HZC;have HZK:=xI hzc;clear hzc;have pl:(p:Int)<(m:Int):=by omega
        have p0:(0:Int)<=(p:Int):=by omega
        by_cases hlt:zc<0
        ·have hltb:decide (zc<0)=true:=by simpa using hlt
         go_wp2_with fail;refine Be (S:=fun V=>(V.cell? (aD bx 4)=some (vS (some (aD g1 0)) m c1))/\(V.cell? (aD g1 (p*2))=some (vI i6 z1)/\V.cell? (aD g1 (p*2+1))=some (vT ⟨z2.toArray⟩))/\V.cell? (aD bs (offs+j*2))=some (vI i6 x1)/\V.cell? (aD bs (offs+j*2+1))=some (vT ⟨x2.toArray⟩)) (by kernel_rfl) ⟨(HS34.out _ hbq.drew).1,HD.out _ yR.drew,(HC.out _ hbW.drew).1⟩ (fun hHeld=>?_);refine oT 0 hHeld ?_
         (iterate 14 refine oY hHeld ?_)
         refine oO 15 fun K hK=>?_;go_simp;have hcc:=HCE.out wq.drew;with_reducible refine hcc.mono ?_
         rintro e w10 ⟨rfl,hb10⟩;clear hcc;have hb10':bW wq w10:=(Bw _ _).drew.trans hb10;have hHeld2:=aN (HS34.out _ (hbq.trans (hb10'.mono hbq.size))).1 (aN (HD.out _ hb10') (HC.out _ (hbW.trans (hb10'.mono (by have:=hbq.size;omega)))).1);refine hK _ _ hHeld2 (oP ?_);refine oT 16 hHeld2 ?_;refine oT 17 hHeld2 ?_;refine wD ?_;go_wp2_with fail
         go_roundw
         case rel=>
          refine⟨p+1,by go_num,by omega,fun z hz=>?_,hbq.trans (hb10'.mono hbq.size)⟩;rw[Cr,HY.out]at hz;rcases B7.1 hz with hz|hz
          ·exact HLO.out z hz
          ·obtain rfl:z=pr:=by simpa using hz
           rw[HZC.out];exact hlt
         case measure=>simp[intOf];try omega
        ·have hltb:decide (zc<0)=false:=by simpa using hlt
         by_cases heq:zc=0
         ·have hzx:=zI9 (HZK.out.trans heq);injection hzx with e1 e2;have e1':=e1.symm;have e2':=e2.symm;subst e1' e2';go_wp2_with fail;refine Be (S:=fun V=>(V.cell? (aD bx 4)=some (vS (some (aD g1 0)) m c1))/\(V.cell? (aD g1 (p*2))=some (vI i6 x1)/\V.cell? (aD g1 (p*2+1))=some (vT ⟨x2.toArray⟩))/\V.cell? (aD bs (offs+j*2))=some (vI i6 x1)/\V.cell? (aD bs (offs+j*2+1))=some (vT ⟨x2.toArray⟩)) (by kernel_rfl) ⟨(HS34.out _ hbq.drew).1,HD.out _ yR.drew,(HC.out _ hbW.drew).1⟩ (fun hHeld=>?_);refine oT 0 hHeld ?_
          (iterate 14 refine oY hHeld ?_)
          refine oO 15 fun K hK=>?_;go_simp;have hcc:=HCE.out wq.drew;with_reducible refine hcc.mono ?_
          rintro e w10 ⟨rfl,hb10⟩;clear hcc;have hb10':bW wq w10:=(Bw _ _).drew.trans hb10;have hHeld2:=aN (HS34.out _ (hbq.trans (hb10'.mono hbq.size))).1 (aN (HD.out _ hb10') (HC.out _ (hbW.trans (hb10'.mono (by have:=hbq.size;omega)))).1);refine hK _ _ hHeld2 (oP ?_);refine oT 16 hHeld2 ?_;refine oT 17 hHeld2 ?_;refine wD ?_;go_wp2_with fail;refine Be (S:=fun V=>(V.cell? (aD bx 4)=some (vS (some (aD g1 0)) m c1))/\(V.cell? (aD g1 (p*2))=some (vI i6 x1)/\V.cell? (aD g1 (p*2+1))=some (vT ⟨x2.toArray⟩))/\V.cell? (aD bs (offs+j*2))=some (vI i6 x1)/\V.cell? (aD bs (offs+j*2+1))=some (vT ⟨x2.toArray⟩)) (by kernel_rfl) ⟨(HS34.out _ (hbq.trans (hb10'.mono hbq.size)).drew).1,HD.out _ hb10'.drew,(HC.out _ (hbW.trans (hb10'.mono (by have:=hbq.size;omega))).drew).1⟩ (fun hHeld3=>?_);refine oT 0 hHeld3 ?_
          (iterate 16 refine oY hHeld3 ?_)
          refine wD ?_;generalize hw9:w10.drew=w9;have hbW9:Below bx W1 w9:=by rw[<-hw9];exact (hbW.trans (hb10'.mono (by have:=hbq.size;omega))).drew
          clear hw9;have hbw9:bW w w9:=hbw1.trans (hbW9.mono (by omega));have k9:w9.heap[w.heap.size]?=some oG:=(hbW9.block _ hbx).trans kr;have HF:Hid ((srtC cK (keys.zip l)).length≠keys.length):=xI (by
           have h1:=zMs (c:=cK) (keys.zip l) (j+1);rw[zBr HX.out,<-HPS.out,zHz HLO.out HY.out (by rw[HZC.out];exact heq)]at h1;have h2:=HM.out;have h3:=HN.out;rw[List.length_zip]at h1;omega)
          obtain⟨e0,e1,e2,e3,e4,e5,e6⟩:=zAc k9;obtain⟨z0,z1,z2,z3,z4,z5,z6⟩:=zAd k9;go_wp2;refine nW fun V hV=>?_;have hob:V.heap[w.heap.size]?=some oG:=by rw[hV];exact obj7 k9 (vI i6 0) (vI i6 0) (vT ⟨#[]⟩) (vS none 0 0) (vS none 0 0) (vS none 0 0) (vS none 0 0)
          have hBV:bW w V:=by rw[hV];exact Bu (Bu (Bu (Bu (Bu (Bu (Bu (hbw9) (p:=(aH w 0)) lR _) (p:=(aH w 1)) lR _) (p:=(aH w 2)) lR _) (p:=(aH w 3)) lR _) (p:=(aH w 4)) lR _) (p:=(aH w 5)) lR _) (p:=(aH w 6)) lR _
          have hszV:V.heap.size=w9.heap.size:=by rw[hV];simp
          have hsm:∀ B:Nat->Prop,¬ B w.heap.size->Same B w9 V:=fun B h=>by rw[hV];exact zAa (zAa (zAa (zAa (zAa (zAa (zAa ((Same.refl _ _)) h) h) h) h) h) h) h
          clear hV e0 z0 e1 z1 e2 z2 e3 z3 e4 z4 e5 z5 e6 z6;obtain⟨ps0,ps1,ps2,ps3,ps4,ps5,ps6⟩:=zAc hob;refine Cw (v:=.tuple #[.agg nV,vI i6 6]) (by simp[results,Tryz.results97,go_sem,ps0,ps1,ps2,ps3,ps4,ps5,ps6]) rfl ?_;exact⟨hBV,.inr (.inl ⟨by rw[HN.out.1,HN.out.2],HKB.out,HF.out,rfl⟩)⟩
         ·rename_i ix0 ix1 ix2 ix3 ix4 ix5 ix6 ix7 ix8 ix9 ix10 ix11 ix12 ix13 ix14 ix15 ix16 ix17 ix18 ix19 ix20 ix21 ix22 ix23 ix24 ix25 ix26 ix27 ix28 ix29 ix30 ix31 ix32 ix33 ix34 ix35 ix36 ix37 ix38;revert k lo c keys c' l w hlo W0 hba hz0 k0 n hn HN ix0 wr ix1 u18 u19 u20 u21 u22 u23 u24 u25 u26 u27 u28 u29 u30 ix2 ix3 hjn HKB ix4 ix5 ix6 W1 hbw1 kr bx hz1 kb hbx wo u5 u9 u10 u11 u32 u33 u34 u35 u36 u37 ix7 ix8 ix9 ix10 ix11 ix12 ix13 ix14 ix15 ix16 ix17 ix18 ix19 ix20 ix21 ix22 ix23 ix24 ix25 ix26 u58 u59 u60 u61 u62 u63 u64 u65 u66 u67 u68 u69 u70 u71 u72 u73 u74 u75 u76 u77 u78 u79 u80 u81 u82 u83 u84 u85 u86 u87 u88 u89 u90 u91 u92 u93 u94 u95 u96 u97 u98 u99 u100 u101 u102 u103 u104 u105 u106 u107 u108 u109 u110 u111 j m c1 c2 ps hj hb hzo HPS HM hmn hjn2 bs offs cp1 hbs HK bv ov cp2 t0 t1 t2 t3 t4 t5 t6 hbv y HL ix27 ix28 x1 x2 HX HKY HVY HC kn kp hbz he g1 hBg1 hgs1 g2 hBg2 hgs2 HO1 hlc1 HO2 HBX HS34 hlc2 ix29 ix30 ix31 ix32 ix33 ix34 ix35 wq u38 u39 u40 u41 u42 u43 u44 u45 u46 u47 u48 u49 u50 u51 u52 u53 u54 u55 u56 u57 p hp hbq HLO hbW hpc1 hcz1 hpc2 hcz2 hpl cg ix36 hg pr z1 z2 ix37 ix38 hcp1 hcp2 HD HY zc HCE HZC HZK pl p0 hlt hltb heq;exact HG2.out
       ·rename_i ix0 ix1 ix2 ix3 ix4 ix5 ix6 ix7 ix8 ix9 ix10 ix11 ix12 ix13 ix14 ix15 ix16 ix17 ix18 ix19 ix20 ix21 ix22 ix23 ix24 ix25 ix26 ix27 ix28 ix29 ix30 ix31 ix32 ix33 ix34 ix35;revert k lo c keys c' l w hlo W0 hba hz0 k0 n hn HN ix0 wr ix1 u18 u19 u20 u21 u22 u23 u24 u25 u26 u27 u28 u29 u30 ix2 ix3 hjn HKB ix4 ix5 ix6 W1 hbw1 kr bx hz1 kb hbx wo u5 u9 u10 u11 u32 u33 u34 u35 u36 u37 ix7 ix8 ix9 ix10 ix11 ix12 ix13 ix14 ix15 ix16 ix17 ix18 ix19 ix20 ix21 ix22 ix23 ix24 ix25 ix26 u58 u59 u60 u61 u62 u63 u64 u65 u66 u67 u68 u69 u70 u71 u72 u73 u74 u75 u76 u77 u78 u79 u80 u81 u82 u83 u84 u85 u86 u87 u88 u89 u90 u91 u92 u93 u94 u95 u96 u97 u98 u99 u100 u101 u102 u103 u104 u105 u106 u107 u108 u109 u110 u111 j m c1 c2 ps hj hb hzo HPS HM hmn hjn2 bs offs cp1 hbs HK bv ov cp2 t0 t1 t2 t3 t4 t5 t6 hbv y HL ix27 ix28 x1 x2 HX HKY HVY HC kn kp hbz he g1 hBg1 hgs1 g2 hBg2 hgs2 HO1 hlc1 HO2 HBX HS34 hlc2 ix29 ix30 ix31 ix32 ix33 ix34 ix35 wq u38 u39 u40 u41 u42 u43 u44 u45 u46 u47 u48 u49 u50 u51 u52 u53 u54 u55 u56 u57 p hp hbq HLO hbW hpc1 hcz1 hpc2 hcz2 hpl;exact HG3.out
    ·have hbw2:bW w wo:=hbw1.trans (hb.mono (by omega));have k2:wo.heap[w.heap.size]?=some oG:=(hb.block _ hbx).trans kr;clear hO1 hO2 hnil;obtain⟨se0,se1,se2,se3,se4,se5,se6⟩:=zAc hbox;obtain⟨sz0,sz1,sz2,sz3,sz4,sz5,sz6⟩:=zAd hbox;obtain⟨e0,e1,e2,e3,e4,e5,e6⟩:=zAc k2;obtain⟨z0,z1,z2,z3,z4,z5,z6⟩:=zAd k2;go_wp2;refine nW fun V hV=>?_;have hob:V.heap[w.heap.size]?=some (oV 8 0 ⟨#[]⟩ A2 m c2 A1 m c1 none 0 0 none 0 0):=by rw[hV];exact obj7 k2 (vI i6 8) (vI i6 0) (vT ⟨#[]⟩) (vS A2 m c2) (vS A1 m c1) (vS none 0 0) (vS none 0 0)
     have hBV:bW w V:=by rw[hV];exact Bu (Bu (Bu (Bu (Bu (Bu (Bu (hbw2) (p:=(aH w 0)) lR _) (p:=(aH w 1)) lR _) (p:=(aH w 2)) lR _) (p:=(aH w 3)) lR _) (p:=(aH w 4)) lR _) (p:=(aH w 5)) lR _) (p:=(aH w 6)) lR _
     have hszV:V.heap.size=wo.heap.size:=by rw[hV];simp
     have hsm:∀ B:Nat->Prop,¬ B w.heap.size->Same B wo V:=fun B h=>by rw[hV];exact zAa (zAa (zAa (zAa (zAa (zAa (zAa ((Same.refl _ _)) h) h) h) h) h) h) h
     clear hV e0 z0 e1 z1 e2 z2 e3 z3 e4 z4 e5 z5 e6 z6;obtain⟨ps0,ps1,ps2,ps3,ps4,ps5,ps6⟩:=zAc hob;refine Cw (v:=.tuple #[.agg #[vI i6 8,vI i6 0,vT ⟨#[]⟩,vS A2 m c2,vS A1 m c1,vS none 0 0,vS none 0 0],vI i6 0]) (by simp[results,Tryz.results97,go_sem,ps0,ps1,ps2,ps3,ps4,ps5,ps6]) rfl ?_;have hm:=HM.out;have hnn:=HN.out;have hke:(keys.zip l).take j=keys.zip l:=B8 (by rw[List.length_zip];omega);have hpe:ps=srtC cK (keys.zip l):=by rw[HPS.out,hke]
     subst hpe;refine⟨hBV,.inr (.inr ⟨by rw[hnn.1,hnn.2],HKB.out,by omega,_,rfl,_,_,_,_,rfl,by decide,by decide,Bt _,?_,?_,zBv _ _ _ _,zBv _ _ _ _⟩)⟩
     ·have hr:=HO2.out.row (by omega) (by rw[Bk,hm.1];unfold maxLen;omega);have hr2:RowB V (Btw lo V.heap.size) 7 (vS A2 m c2) (List.map Prod.snd (srtC cK (keys.zip l))).length (fun q cs=>∃ x,(List.map Prod.snd (srtC cK (keys.zip l)))[q]?=some x/\VB k V (Btw lo V.heap.size) x cs):=by
       refine RowB.sub (RowB.keep hr (hsm _ (fun h=>by have:=h.1;omega)) (fun _ _ h=>h)) (fun b hb=>⟨by have:=hb.1;omega,by have:=hb.2;omega⟩) ?_;rintro q cs ⟨x,hx,hE⟩;have hE2:VB k w (Btw lo w.heap.size) x cs:=hE;exact⟨x,hx,VB.sub (fun b hb=>⟨hb.1,by have:=hb.2;have:=hbw2.size;omega⟩) lR (VB.keep (hsm _ (fun h=>by have:=h.2;omega)) (VB.keep (.of_below hbw2 fun _ h=>h.2) hE2))⟩
      simp only[Bk,hm.1]at hr2 ⊢;exact hr2
     ·have hr:=HO1.out.row (by omega) (by rw[Bk,hm.1];unfold maxLen;omega);have hr2:RowB V (Btw lo V.heap.size) 2 (vS A1 m c1) (List.map Prod.fst (srtC cK (keys.zip l))).length (fun q cs=>∃ x,(List.map Prod.fst (srtC cK (keys.zip l)))[q]?=some x/\kyC x cs):=by
       refine RowB.sub (RowB.keep hr (hsm _ (fun h=>by have:=h.1;omega)) (fun _ _ h=>h)) (fun b hb=>⟨by have:=hb.1;omega,by have:=hb.2;omega⟩) ?_;rintro q cs ⟨x,hx,hE⟩;exact⟨x,hx,hE⟩
      simp only[Bk,hm.1]at hr2 ⊢;exact hr2⟩
end Go.Proofs.YteedihhdcbepmaaGreat
