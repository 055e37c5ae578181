/- Map of the document: a key at the end is put in. -/
import Derived.Test.YtcjgaohblaidjaaGreatDoorVgZ
import Derived.Test.YtcjgaohblaidjaaGreatDoorVg32
import Derived.Test.YtcjgaohblaidjaaGreatDoorVg33
set_option maxRecDepth 100000
set_option maxHeartbeats 20000000
namespace Go.Proofs.YtcjgaohblaidjaaGreatDoor
open Go Go.RowKit
theorem zKq:zBz.2.2.1:=by
 unfold zBz;intro k lo c keys c' l w hlo W0 hba hz0 k0 n hn HN ix0 wr ix1 u18 u19 u20 u21 u22 u23 u24 u25 u26 u27 u28 u29 u30 ix2 ix3 hjn HKB ix4 ix5 ix6 W1 hbw1 kr bx hz1 kb hbx wo u5 u9 u10 u11 u32 u33 u34 u35 u36 u37 ix7 ix8 ix9 ix10 ix11 ix12 ix13 ix14 ix15 ix16 ix17 ix18 ix19 ix20 ix21 ix22 ix23 ix24 ix25 ix26 u58 u59 u60 u61 u62 u63 u64 u65 u66 u67 u68 u69 u70 u71 u72 u73 u74 u75 u76 u77 u78 u79 u80 u81 u82 u83 u84 u85 u86 u87 u88 u89 u90 u91 u92 u93 u94 u95 u96 u97 u98 u99 u100 u101 u102 u103 u104 u105 u106 u107 u108 u109 u110 u111 j m c1 c2 ps hj hb hzo HPS HM hmn hjn2 bs offs cp1 hbs HK bv ov cp2 t0 t1 t2 t3 t4 t5 t6 hbv y HL ix27 ix28 x1 x2 HX HKY HVY HC kn kp hbz he g1 hBg1 hgs1 g2 hBg2 hgs2 ix29 HO1 hlc1 ix30 HO2 HBX HS34 hlc2 ix31 ix32 ix33 ix34 ix35 wq u38 u39 u40 u41 u42 u43 u44 u45 u46 u47 u48 u49 u50 u51 u52 u53 u54 u55 u56 u57 p hp hbq HLO hbW hpc1 hcz1 hpc2 hcz2 hpl;have pl:decide ((p:Int)<(m:Int))=false:=by simpa using hpl
 obtain rfl:p=m:=by omega
 have HHI:Hid (∀ z,ps[p]?=some z→0≤cK z ((x1,x2),y)∧cK z ((x1,x2),y)≠0):=xI (fun z hz=>by rw[List.getElem?_eq_none (by have:=HM.out.1;omega)]at hz;cases hz);go_wp2_with fail;refine wp_region_held_drew (S:=fun V=>V.cell? ⟨bx,4,none⟩=some (.slice (some ⟨g1,0,none⟩) p c1)) (by kernel_rfl) (HS34.out _ hbq.drew).1 (fun hHeld=>?_);refine tk 0 hHeld ?_
 try simp only[pK]
 iterate 5 (refine ts hHeld ?_;try simp only[pK])
 refine tu 6 hHeld ?_
 try simp only[pK]
 refine tu 7 hHeld ?_
 try simp only[pK]
 refine tu 8 hHeld ?_
 try simp only[pK]
 refine tu 9 hHeld ?_
 try simp only[pK]
 refine tu 10 hHeld ?_
 try simp only[pK]
 refine tu 11 hHeld ?_
 try simp only[pK]
 refine tu 12 hHeld ?_
 try simp only[pK]
 refine tu 13 hHeld ?_
 try simp only[pK]
 refine tu 14 hHeld ?_
 try simp only[pK]
 refine zBq 15 (by kernel_rfl) rfl (by rfl) hHeld ?_
 try simp only[pK]
 refine tu 16 hHeld ?_
 try simp only[pK]
 refine tk 17 hHeld ?_
 try simp only[pK]
 refine (wD ?_) _;go_wp2_with fail;refine wp_region_held_drew (S:=fun V=>V.cell? ⟨bx,4,none⟩=some (.slice (some ⟨g1,0,none⟩) p c1)) (by kernel_rfl) (HS34.out _ hbq.drew.drew).1 (fun hHeld2=>?_);refine tk 0 hHeld2 ?_
 try simp only[pK]
 iterate 5 (refine ts hHeld2 ?_;try simp only[pK])
 refine tu 6 hHeld2 ?_
 try simp only[pK]
 refine tu 7 hHeld2 ?_
 try simp only[pK]
 refine tu 8 hHeld2 ?_
 try simp only[pK]
 refine tu 9 hHeld2 ?_
 try simp only[pK]
 refine tu 10 hHeld2 ?_
 try simp only[pK]
 refine tu 11 hHeld2 ?_
 try simp only[pK]
 refine tu 12 hHeld2 ?_
 try simp only[pK]
 refine tu 13 hHeld2 ?_
 try simp only[pK]
 refine tu 14 hHeld2 ?_
 try simp only[pK]
 refine tu 15 hHeld2 ?_
 try simp only[pK]
 refine tk 16 hHeld2 ?_
 try simp only[pK]
 refine (wD ?_) _;generalize hw9:wq.drew.drew=w9;have hb9:Below wo.heap.size wo w9:=by rw[←hw9];exact hbq.drew.drew
 clear hw9;obtain⟨i1,hi1,hi10,hi11,hi12⟩:=info_parts Tryz.infoK;obtain⟨i2,hi2,hi20,hi21,hi22⟩:=info_parts Tryz.infoV;have hml:(ps).length=p:=HM.out.1;obtain⟨u1,w1,hr1,ho1,hb1',_,_⟩:=zBr (elC kyC) 23 23 80 i1 (.agg #[.int .i64 0,.string ⟨#[]⟩]) 2 24 Tryz.underlying23 hi1 hi10 hi11 hi12 rfl (by decide) (by decide) (fun x w' B cs h=>zCl h) w9.drew wo.heap.size (.slice none 0 0) [] (OwnE.nil _ _ _ _ _) (some ⟨g1,0,none⟩) (p) (c1) ((ps.map Prod.fst).take p) (by rw[List.length_take,List.length_map];omega) (_) (RowB.sub (RowB.take ((HO1.out.old hb9.drew).rowN (m:=p) (by omega) (by rw[List.length_map,HM.out.1];unfold maxLen;omega) (by rw[List.length_map];exact HM.out.1)) (show p≤p by omega) _) (fun _ h=>h) (fun q cs ⟨hq,z,hz,hv⟩=>⟨z,by rw[List.getElem?_take_of_lt hq];exact hz,hv⟩)) (by simp only[List.length_nil];omega) hb9.drew.size;have hb1:Below wo.heap.size wo w1:=hb9.drew.trans hb1';have hcp:=zEi k w (Btw lo w.heap.size) (_) (some ⟨g2,0,none⟩) (c2) ((ps.map Prod.snd).take p) w1 p (by rw[List.length_take,List.length_map];omega) (RowB.sub (RowB.take ((HO2.out.old hb1).rowN (m:=p) (by omega) (by rw[List.length_map,HM.out.1];unfold maxLen;omega) (by rw[List.length_map];exact HM.out.1)) (show p≤p by omega) _) (fun _ h=>h) (fun q cs ⟨hq,z,hz,hv⟩=>⟨z,by rw[List.getElem?_take_of_lt hq];exact hz,hv⟩)) (by omega);go_wp2_with fail;refine wp_region_held_drew (S:=fun V=>(V.cell? ⟨bx,4,none⟩=some (.slice (some ⟨g1,0,none⟩) p c1))∧V.cell? ⟨bx,3,none⟩=some (.slice (some ⟨g2,0,none⟩) p c2)) (by kernel_rfl) (HS34.out _ hb9.drew) (fun hHeld7=>?_);refine tk 0 hHeld7 ?_
 try simp only[pK]
 iterate 3 (refine ts hHeld7 ?_;try simp only[pK])
 refine tk 5 hHeld7 ?_
 try simp only[pK]
 iterate 3 (refine ts hHeld7 ?_;try simp only[pK])
 refine oO 4 fun K hK=>?_;refine Lib.wp_append_run _ _ _ _ _ rfl _ _ rfl rfl _ w1 hr1 ?_;refine hK _ _ (HS34.out _ hb1) ?_
 try simp only[pK]
 refine oO 9 fun K hK=>?_;go_simp;refine hcp.mono ?_;rintro e w2 ⟨A4,c4,rfl,ho2,hb2'⟩;have hb2:Below wo.heap.size wo w2:=hb1.trans (hb2'.mono hb1.size);refine hK _ _ (HS34.out _ hb2) ?_
 try simp only[pK]
 refine tk 10 (HS34.out _ hb2) ?_
 try simp only[pK]
 refine tk 11 (HS34.out _ hb2) ?_
 try simp only[pK]
 refine (wD ?_) _;have ho1':=ho1.old hb2';have hblk1:=ho1.blk;have hblk2:=ho2.blk;obtain⟨g3,cap3,w3,hr3,ho3,hb3',hk3,hg3⟩:=zBa (elC kyC) 23 23 80 i1 (.agg #[.int .i64 0,.string ⟨#[]⟩]) 2 24 Tryz.underlying23 hi1 hi10 hi11 hi12 rfl (by decide) (by decide) w2.drew wo.heap.size u1 ([]++(ps.map Prod.fst).take p) (ho1'.old bR.drew) (x1,x2) [.int .i64 x1,.string ⟨x2.toArray⟩] HKY.out rfl (zCl HKY.out) (by rw[List.nil_append,List.length_take];omega) hb2.drew.size _ rfl 1;have hb3:Below wo.heap.size wo w3:=hb2.drew.trans hb3';rw[show w2.drew.alloc (.cells [.int .i64 x1,.string ⟨x2.toArray⟩].toArray 80)=(w2.alloc (.cells #[.int .i64 x1,.string ⟨x2.toArray⟩] 80)).drew from rfl,show w2.drew.heap.size=w2.heap.size from rfl]at hr3;obtain⟨u5,w5,hr5,ho5,hb5',hk5,hg5⟩:=zBr (elC kyC) 23 23 80 i1 (.agg #[.int .i64 0,.string ⟨#[]⟩]) 2 24 Tryz.underlying23 hi1 hi10 hi11 hi12 rfl (by decide) (by decide) (fun x w' B cs h=>zCl h) w3 wo.heap.size _ _ ho3 (if c1=p then some ⟨g1,0,none⟩ else some ⟨g1,p*2,none⟩) (0) (c1-p) (([]:List (Int×List UInt8))) (by first|rfl|(rw[List.length_drop,List.length_map,hml])) (fun _=>True) (⟨_,_,rfl,⟨Nat.zero_le _,Nat.zero_le _⟩,fun h=>absurd h (by omega)⟩) (by rw[List.length_append,List.length_singleton,List.nil_append,List.length_take];omega) hb3.size
 have hb5:Below wo.heap.size wo w5:=hb3.trans hb5';have HINS:=xI (zHk (c:=cK) (l:=ps) (p:=p) (x:=((x1,x2),y)) (by omega) HLO.out (fun z hz=>⟨Int.not_lt.2 (HHI.out z hz).1,(HHI.out z hz).2⟩));have hf5:((([]++(ps.map Prod.fst).take p)++[(x1,x2)])++([]:List (Int×List UInt8)))=(ins cK ((x1,x2),y) (ps)).map Prod.fst:=by rw[HINS.out];simp[List.map_append,List.map_take,List.map_drop]<;>omega
 have hil:(ins cK ((x1,x2),y) (ps)).length=p+1:=by rw[HINS.out,List.length_append,List.length_cons,List.length_take,List.length_drop,hml];omega
 rw[hf5]at ho5;obtain⟨A5,c5,hu5⟩:=ho5.form;rw[List.length_map,hil]at hu5;subst hu5;have hlt3:([]++(ps.map Prod.fst).take p).length=p:=by rw[List.nil_append,List.length_take,List.length_map];omega
 have HIL:=xI hil;have hblk5:=ho5.blk;have hkk:∀ g,(Value.slice A4 (p) c4).ownBlock=some g→w5.heap[g]?=w2.heap[g]?:=by
  intro g hg;have hq:=hblk2 g hg;have n1:some g≠u1.ownBlock:=fun e=>by have:=hblk1 g e.symm;omega
  have e3:=hk3 g hq.2 n1;have hs3:=hb3'.size;have n3:some g≠(Value.slice (some ⟨g3,0,none⟩) (([]++(ps.map Prod.fst).take p).length+1) cap3).ownBlock:=by
   simp only[Value.ownBlock,ne_eq,Option.some.injEq];intro e;rcases hg3 with h|h
   ·exact n1 (by rw[h,e])
   ·have:w2.heap.size≤g3:=h;omega
  exact (hk5 g (by have:w2.drew.heap.size=w2.heap.size:=rfl;omega) n3).trans e3
 have ho2':=OwnC.kept ho2 hkk;have kb5:=HBX.out _ hb5;have HB5:Below bx W1 w5:=hb.trans (hb5.mono hbz);have HB2:Below bx W1 w2:=hb.trans (hb2.mono hbz);have HB3:Below bx W1 w3:=hb.trans (hb3.mono hbz);have hbA:Below bx W1 (w2.drew.alloc (.cells #[.int .i64 x1,.string ⟨x2.toArray⟩] 80)):=HB2.drew.alloc (by have:=hb2.size;show bx≤w2.heap.size;omega) _;have ka:w2.drew.cell? ⟨bx,4,none⟩=some (.slice (some ⟨g1,0,none⟩) p c1):=(HS34.out _ hb2.drew).1;have kbb:(w2.alloc (.cells #[.int .i64 x1,.string ⟨x2.toArray⟩] 80)).cell? ⟨bx,4,none⟩=some (.slice (some ⟨g1,0,none⟩) p c1):=(Lib.cell_of_heap ((Below.heap_alloc _ _ _ (by have:=hb2.size;omega)).trans (HBX.out _ hb2)) 4).trans rfl;have kc:w3.cell? ⟨bx,4,none⟩=some (.slice (some ⟨g1,0,none⟩) p c1):=(HS34.out _ hb3).1;have kd:w5.cell? ⟨bx,4,none⟩=some (.slice (some ⟨g1,0,none⟩) p c1):=(HS34.out _ hb5).1;have kf:=Lib.frozen_of_heap kb5 4;have HH:=xI (aN ho2' (aN ho5 (aN kb5 (aN hblk1 (aN hblk2 (aN hg3 (aN hg5 hblk5)))))));rw[hlt3]at hr3 hr5;clear ho1 ho1' ho2 ho2' ho3 ho5 kb5 hblk1 hblk2 hg3 hg5 hblk5 hkk hk3 hk5 hHeld7 hf5 hlt3 hml hil;go_wp2_with fail;apply share
 case h=>
  intro hfin;refine wp_region_held_drew (S:=fun V=>V.cell? ⟨bs,offs+j*2,none⟩=some (.int .i64 x1)∧V.cell? ⟨bs,offs+j*2+1,none⟩=some (.string ⟨x2.toArray⟩)) (by kernel_rfl) (HC.out _ HB2.drew).1 (fun hHeld=>?_);refine tk 0 hHeld ?_
  try simp only[pK]
  iterate 4 (refine ts hHeld ?_;try simp only[pK])
  refine tk 7 hHeld ?_
  try simp only[pK]
  refine tk 9 hHeld ?_
  try simp only[pK]
  refine wpAnyH_all (rs:=[5,8]) (by kernel_rfl) (by simp) fun j hj=>?_;have hj2:j=5∨j=8:=by simpa using hj
  clear hj;rcases hj2 with rfl|rfl
  ·refine zAu rfl (by rfl) (fun K hK=>?_);go_simp;refine hK _ _ ⟨(HC.out _ hbA).1,?_⟩
   try simp only[pK]
   refine wpAnyH_all (rs:=[6,8]) (by kernel_rfl) (by simp) fun j hj=>?_;have hj2:j=6∨j=8:=by simpa using hj
   clear hj;rcases hj2 with rfl|rfl
   ·refine zAu rfl (by rfl) (fun K hK=>?_);refine Lib.wp_append_run _ _ _ _ _ rfl _ _ rfl rfl _ w3 hr3 ?_;refine hK _ _ ⟨(HC.out _ HB3).1,?_⟩
    try simp only[pK]
    refine oO 8 fun K hK=>?_;go_simp;refine hK _ _ (HC.out _ HB3).1 ?_
    try simp only[pK]
    refine tk 10 (HC.out _ HB3).1 ?_
    try simp only[pK]
    refine oO 11 fun K hK=>?_;refine Lib.wp_append_run _ _ _ _ _ rfl _ _ rfl rfl _ w5 hr5 ?_;refine hK _ _ (HC.out _ HB5).1 ?_
    try simp only[pK]
    refine tk 12 (HC.out _ HB5).1 ?_
    try simp only[pK]
    refine oO 13 fun K hK=>?_;go_simp;refine hK _ _ (HC.out _ (Below.setCell HB5 (p:=⟨bx,4,none⟩) lR _)).1 ?_
    try simp only[pK]
    refine (wD ?_) _;exact hfin
   ·refine zAu rfl (by rfl) (fun K hK=>?_);go_simp;refine hK _ _ ⟨(HC.out _ hbA).1,?_⟩
    try simp only[pK]
    refine tk 10 (HC.out _ hbA).1 ?_
    try simp only[pK]
    refine oO 6 fun K hK=>?_;refine Lib.wp_append_run _ _ _ _ _ rfl _ _ rfl rfl _ w3 hr3 ?_;refine hK _ _ (HC.out _ HB3).1 ?_
    try simp only[pK]
    refine oO 11 fun K hK=>?_;refine Lib.wp_append_run _ _ _ _ _ rfl _ _ rfl rfl _ w5 hr5 ?_;refine hK _ _ (HC.out _ HB5).1 ?_
    try simp only[pK]
    refine tk 12 (HC.out _ HB5).1 ?_
    try simp only[pK]
    refine oO 13 fun K hK=>?_;go_simp;refine hK _ _ (HC.out _ (Below.setCell HB5 (p:=⟨bx,4,none⟩) lR _)).1 ?_
    try simp only[pK]
    refine (wD ?_) _;exact hfin
  ·refine zAu rfl (by rfl) (fun K hK=>?_);go_simp;refine hK _ _ ⟨(HC.out _ HB2.drew).1,?_⟩
   try simp only[pK]
   refine tk 10 (HC.out _ HB2.drew).1 ?_
   try simp only[pK]
   refine oO 5 fun K hK=>?_;go_simp;refine hK _ _ (HC.out _ hbA).1 ?_
   try simp only[pK]
   refine oO 6 fun K hK=>?_;refine Lib.wp_append_run _ _ _ _ _ rfl _ _ rfl rfl _ w3 hr3 ?_;refine hK _ _ (HC.out _ HB3).1 ?_
   try simp only[pK]
   refine oO 11 fun K hK=>?_;refine Lib.wp_append_run _ _ _ _ _ rfl _ _ rfl rfl _ w5 hr5 ?_;refine hK _ _ (HC.out _ HB5).1 ?_
   try simp only[pK]
   refine tk 12 (HC.out _ HB5).1 ?_
   try simp only[pK]
   refine oO 13 fun K hK=>?_;go_simp;refine hK _ _ (HC.out _ (Below.setCell HB5 (p:=⟨bx,4,none⟩) lR _)).1 ?_
   try simp only[pK]
   refine (wD ?_) _;exact hfin
 case hF=>
  obtain⟨ho2',ho5,kb5,hblk1,hblk2,hg3,hg5,hblk5⟩:=HH.out;have hml:(ps).length=p:=HM.out.1;have hil:=HIL.out;generalize hw6:w5.setCell ⟨bx,4,none⟩ (.slice A5 (p+1) c5)=w6;have hz6:w6.heap.size≤w5.heap.size:=by rw[←hw6];simp
  have hz6b:w5.heap.size≤w6.heap.size:=by rw[←hw6];simp
  have ho6:∀ b,b≠bx→w6.heap[b]?=w5.heap[b]?:=fun b hb=>by rw[←hw6];exact heap_setCell_other _ _ _ _ hb
  have kb6:w6.heap[bx]?=some (.cells #[.int .i64 8,.int .i64 0,.string ⟨#[]⟩,.slice (some ⟨g2,0,none⟩) p c2,.slice A5 (p+1) c5,.slice none 0 0,.slice none 0 0] 27 (0,0)):=by rw[←hw6];simpa using heap_setCell_same w5 bx 4 _ _ (.slice A5 (p+1) c5) kb5
  have HB6:Below bx W1 w6:=by rw[←hw6];exact Below.setCell HB5 (p:=⟨bx,4,none⟩) lR _
  clear hw6 ka kbb kc kd kf;have hs5:=hb5.size;have hs1:=hb1.size;have hs2:w2.heap.size≤w5.heap.size:=Nat.le_trans hb3'.size hb5'.size;have hs12:=hb2'.size;have ho26:OwnX7 k w (Btw lo w.heap.size) w6 w1.heap.size (.slice A4 (p) c4) ((ps.map Prod.snd).take p):=OwnC.kept ho2' fun g hg=>ho6 g (by have:=hblk2 g hg;omega);have ho56:OwnY w6 wo.heap.size (.slice A5 (p+1) c5) ((ins cK ((x1,x2),y) (ps)).map Prod.fst):=OwnC.kept ho5 fun g hg=>ho6 g (by have:=hblk5 g hg;omega);have hs26:OwnX7 k w (Btw lo w.heap.size) w6 (bx+1) (.slice (some ⟨g2,0,none⟩) p c2) (ps.map Prod.snd):=OwnC.kept HO2.out fun g hg=>by
   simp only[Value.ownBlock,Option.some.injEq]at hg;subst hg;exact (ho6 g2 (by omega)).trans (hb5.block _ (by omega))
  obtain⟨g7,cap7,w7,hr7,ho7,hb7',hk7,hg7⟩:=zBa (elC (fun x cs=>VB k w (Btw lo w.heap.size) x cs)) 22 22 27 i2 (.agg #[.int .i64 0,.int .i64 0,.string ⟨#[]⟩,.slice none 0 0,.slice none 0 0,.slice none 0 0,.slice none 0 0]) 7 128 Tryz.underlying22 hi2 hi20 hi21 hi22 rfl (by decide) (by decide) w6.drew wo.heap.size (.slice A4 (p) c4) ((ps.map Prod.snd).take p) ((ho26.mono hs1).old bR.drew) y [t0,t1,t2,t3,t4,t5,t6] HVY.out rfl (zBn k y w (Btw lo w.heap.size) _ HVY.out) (by rw[List.length_take];omega) (by show wo.heap.size≤w6.heap.size;omega) _ rfl 1;have hz7:w6.heap.size≤w7.heap.size:=hb7'.size;rw[show w6.drew.alloc (.cells [t0,t1,t2,t3,t4,t5,t6].toArray 27)=(w6.alloc (.cells #[t0,t1,t2,t3,t4,t5,t6] 27)).drew from rfl,show w6.drew.heap.size=w6.heap.size from rfl]at hr7;have hs27:OwnX7 k w (Btw lo w.heap.size) w7 (bx+1) (.slice (some ⟨g2,0,none⟩) p c2) (ps.map Prod.snd):=OwnC.kept hs26 fun g hg=>by
   simp only[Value.ownBlock,Option.some.injEq]at hg;subst hg;exact hk7 g2 (by show g2<w6.heap.size;omega) (fun e=>by have:=hblk2 g2 e.symm;omega)
  obtain⟨u9,w8,hr9,ho9,hb9',hk9,hg9⟩:=zBr (elC (fun x cs=>VB k w (Btw lo w.heap.size) x cs)) 22 22 27 i2 (.agg #[.int .i64 0,.int .i64 0,.string ⟨#[]⟩,.slice none 0 0,.slice none 0 0,.slice none 0 0,.slice none 0 0]) 7 128 Tryz.underlying22 hi2 hi20 hi21 hi22 rfl (by decide) (by decide) (fun x w' B cs h=>zBn k x w _ cs h) w7 wo.heap.size _ _ ho7 (if c2=p then some ⟨g2,0,none⟩ else some ⟨g2,p*7,none⟩) (0) (c2-p) (([]:List Vl)) (by first|rfl|(rw[List.length_drop,List.length_map,hml])) (fun _=>True) (⟨_,_,rfl,⟨Nat.zero_le _,Nat.zero_le _⟩,fun h=>absurd h (by omega)⟩) (by rw[List.length_append,List.length_singleton,List.length_take];omega) (by omega)
  have hf9:(((ps.map Prod.snd).take p++[y])++([]:List Vl))=(ins cK ((x1,x2),y) (ps)).map Prod.snd:=by rw[HINS.out];simp[List.map_append,List.map_take,List.map_drop]<;>omega
  rw[hf9]at ho9;obtain⟨A9,c9,hu9⟩:=ho9.form;rw[List.length_map,hil]at hu9;subst hu9;have hlt7:((ps.map Prod.snd).take p).length=p:=by rw[List.length_take,List.length_map];omega
  rw[hlt7]at hr7 hr9;have HB7:Below bx W1 w7:=HB6.drew.trans (hb7'.mono hbz);have HB8:Below bx W1 w8:=HB7.trans (hb9'.mono hbz);have hs8:w7.heap.size≤w8.heap.size:=hb9'.size;have kb7:w7.heap[bx]?=some (.cells #[.int .i64 8,.int .i64 0,.string ⟨#[]⟩,.slice (some ⟨g2,0,none⟩) p c2,.slice A5 (p+1) c5,.slice none 0 0,.slice none 0 0] 27 (0,0)):=(hb7'.block _ (by omega)).trans kb6;have kb8:w8.heap[bx]?=some (.cells #[.int .i64 8,.int .i64 0,.string ⟨#[]⟩,.slice (some ⟨g2,0,none⟩) p c2,.slice A5 (p+1) c5,.slice none 0 0,.slice none 0 0] 27 (0,0)):=(hb9'.block _ (by omega)).trans kb7;have hbA7:Below bx W1 (w6.drew.alloc (.cells #[t0,t1,t2,t3,t4,t5,t6] 27)):=HB6.drew.alloc (by show bx≤w6.heap.size;omega) _;have ka:w6.drew.cell? ⟨bx,3,none⟩=some (.slice (some ⟨g2,0,none⟩) p c2):=cH kb6 3;have kbb:(w6.alloc (.cells #[t0,t1,t2,t3,t4,t5,t6] 27)).cell? ⟨bx,3,none⟩=some (.slice (some ⟨g2,0,none⟩) p c2):=(Lib.cell_of_heap ((Below.heap_alloc _ _ _ (by omega)).trans kb6) 3).trans rfl;have kc:w7.cell? ⟨bx,3,none⟩=some (.slice (some ⟨g2,0,none⟩) p c2):=cH kb7 3;have kd:w8.cell? ⟨bx,3,none⟩=some (.slice (some ⟨g2,0,none⟩) p c2):=cH kb8 3;have kf:=Lib.frozen_of_heap kb8 3;have hkey:∀ g,(Value.slice A5 (p+1) c5).ownBlock=some g→w8.heap[g]?=w6.heap[g]?:=by
   intro g hg;have hq:=hblk5 g hg;have hne:some g≠(Value.slice A4 (p) c4).ownBlock:=by
    intro e;have hb4:=hblk2 g e.symm;rcases hg5 g hg with h|h
    ·simp only[Value.ownBlock,Option.some.injEq]at h;rcases hg3 with h'|h'
     ·have:=hblk1 g3 h';omega
     ·have:w2.heap.size≤g3:=h';omega
    ·have:=hb3'.size;have:w2.heap.size≤w3.heap.size:=this;omega
   have e7:=hk7 g (by show g<w6.heap.size;omega) hne;refine (hk9 g (by omega) ?_).trans e7;simp only[Value.ownBlock,ne_eq,Option.some.injEq];intro e;rcases hg7 with h|h
   ·exact hne (by rw[h,e])
   ·have:w6.heap.size≤g7:=h;omega
  have HQ:=xI (aN (OwnC.kept ho56 hkey) (aN ho9 (aN kb8 HB8)));clear ho26 ho56 ho7 ho9 kb6 kb7 kb8 hkey hk7 hk9 hg7 hg9 hblk1 hblk2 hblk5 hg3 hg5 hs26 hs27 hf9 ho2' ho5 kb5 ho6 hlt7 hml hil;generalize (if c1=p then some ⟨g1,0,none⟩ else some ⟨g1,p*2,none⟩:Option Addr)=sl1 at *;go_wp2_with fail;apply share
  case h=>
   intro hfin;refine wp_region_held_drew (S:=fun V=>V.cell? ⟨bv,ov+j*7,none⟩=some t0∧V.cell? ⟨bv,ov+j*7+1,none⟩=some t1∧V.cell? ⟨bv,ov+j*7+2,none⟩=some t2∧V.cell? ⟨bv,ov+j*7+3,none⟩=some t3∧V.cell? ⟨bv,ov+j*7+4,none⟩=some t4∧V.cell? ⟨bv,ov+j*7+5,none⟩=some t5∧V.cell? ⟨bv,ov+j*7+6,none⟩=some t6) (by kernel_rfl) (HC.out _ HB6.drew).2 (fun hHeld=>?_);refine tk 0 hHeld ?_
   try simp only[pK]
   iterate 4 (refine ts hHeld ?_;try simp only[pK])
   refine tk 7 hHeld ?_
   try simp only[pK]
   refine tk 9 hHeld ?_
   try simp only[pK]
   refine wpAnyH_all (rs:=[5,8]) (by kernel_rfl) (by simp) fun j hj=>?_;have hj2:j=5∨j=8:=by simpa using hj
   clear hj;rcases hj2 with rfl|rfl
   ·refine zAu rfl (by rfl) (fun K hK=>?_);go_simp;refine hK _ _ ⟨(HC.out _ hbA7).2,?_⟩
    try simp only[pK]
    refine wpAnyH_all (rs:=[6,8]) (by kernel_rfl) (by simp) fun j hj=>?_;have hj2:j=6∨j=8:=by simpa using hj
    clear hj;rcases hj2 with rfl|rfl
    ·refine zAu rfl (by rfl) (fun K hK=>?_);refine Lib.wp_append_run _ _ _ _ _ rfl _ _ rfl rfl _ w7 hr7 ?_;refine hK _ _ ⟨(HC.out _ HB7).2,?_⟩
     try simp only[pK]
     refine oO 8 fun K hK=>?_;go_simp;refine hK _ _ (HC.out _ HB7).2 ?_
     try simp only[pK]
     refine tk 10 (HC.out _ HB7).2 ?_
     try simp only[pK]
     refine oO 11 fun K hK=>?_;refine Lib.wp_append_run _ _ _ _ _ rfl _ _ rfl rfl _ w8 hr9 ?_;refine hK _ _ (HC.out _ HB8).2 ?_
     try simp only[pK]
     refine tk 12 (HC.out _ HB8).2 ?_
     try simp only[pK]
     refine oO 13 fun K hK=>?_;go_simp;refine hK _ _ (HC.out _ (Below.setCell HB8 (p:=⟨bx,3,none⟩) lR _)).2 ?_
     try simp only[pK]
     refine (wD ?_) _;exact hfin
    ·refine zAu rfl (by rfl) (fun K hK=>?_);go_simp;refine hK _ _ ⟨(HC.out _ hbA7).2,?_⟩
     try simp only[pK]
     refine tk 10 (HC.out _ hbA7).2 ?_
     try simp only[pK]
     refine oO 6 fun K hK=>?_;refine Lib.wp_append_run _ _ _ _ _ rfl _ _ rfl rfl _ w7 hr7 ?_;refine hK _ _ (HC.out _ HB7).2 ?_
     try simp only[pK]
     refine oO 11 fun K hK=>?_;refine Lib.wp_append_run _ _ _ _ _ rfl _ _ rfl rfl _ w8 hr9 ?_;refine hK _ _ (HC.out _ HB8).2 ?_
     try simp only[pK]
     refine tk 12 (HC.out _ HB8).2 ?_
     try simp only[pK]
     refine oO 13 fun K hK=>?_;go_simp;refine hK _ _ (HC.out _ (Below.setCell HB8 (p:=⟨bx,3,none⟩) lR _)).2 ?_
     try simp only[pK]
     refine (wD ?_) _;exact hfin
   ·refine zAu rfl (by rfl) (fun K hK=>?_);go_simp;refine hK _ _ ⟨(HC.out _ HB6.drew).2,?_⟩
    try simp only[pK]
    refine tk 10 (HC.out _ HB6.drew).2 ?_
    try simp only[pK]
    refine oO 5 fun K hK=>?_;go_simp;refine hK _ _ (HC.out _ hbA7).2 ?_
    try simp only[pK]
    refine oO 6 fun K hK=>?_;refine Lib.wp_append_run _ _ _ _ _ rfl _ _ rfl rfl _ w7 hr7 ?_;refine hK _ _ (HC.out _ HB7).2 ?_
    try simp only[pK]
    refine oO 11 fun K hK=>?_;refine Lib.wp_append_run _ _ _ _ _ rfl _ _ rfl rfl _ w8 hr9 ?_;refine hK _ _ (HC.out _ HB8).2 ?_
    try simp only[pK]
    refine tk 12 (HC.out _ HB8).2 ?_
    try simp only[pK]
    refine oO 13 fun K hK=>?_;go_simp;refine hK _ _ (HC.out _ (Below.setCell HB8 (p:=⟨bx,3,none⟩) lR _)).2 ?_
    try simp only[pK]
    refine (wD ?_) _;exact hfin
  case hF=>
   obtain⟨r1,r2,r3,r4⟩:=HQ.out;clear ka kbb kc kd kf hr1 hr3 hr5 hr7 hr9 hcp;generalize (if c2=p then some ⟨g2,0,none⟩ else some ⟨g2,p*7,none⟩:Option Addr)=sl2 at *;go_wp2_with fail
   go_roundw
   case rel=>
    refine⟨j+1,p+1,A5,c5,A9,c9,ins cK ((x1,x2),y) (ps),by go_num,by omega,?_,(OwnE.low (r1.mono (by omega)) (by omega)),(OwnE.low (r2.mono (by omega)) (by omega)),by rw[zBv HX.out,←HPS.out],HIL.out,by have:=HM.out.2;omega,fun h=>absurd h (by omega),Below.setCell r4 (p:=⟨bx,3,none⟩) lR _,by simp;omega⟩;simpa using heap_setCell_same w8 bx 3 _ _ (.slice A9 (p+1) c9) r3
   case measure=>simp[intOf];try omega
theorem zMs (k lo:Nat) (A:Option Addr) (c:Nat) (keys:List (Int×List UInt8)) (A':Option Addr) (c':Nat) (l:List Vl) (w:World) (hlo:lo≤w.heap.size) (hK:RowY w (Btw lo w.heap.size) (.slice A keys.length c) keys) (hl:RowV k lo w (.slice A' l.length c') l) (hn:keys.length≤100000) :
  Calls Tryz.prog 59 #[.slice A keys.length c,.slice A' l.length c'] w (MapR k lo keys l w):=
 zBz.2.2.2 zKs zKr zKq k lo A c keys A' c' l w hlo hK hl hn
end Go.Proofs.YtcjgaohblaidjaaGreatDoor
