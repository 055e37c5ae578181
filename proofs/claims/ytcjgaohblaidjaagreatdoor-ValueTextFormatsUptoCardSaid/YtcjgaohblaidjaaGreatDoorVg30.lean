/- What entries of the document returns: the entries in ascending order, each once. -/
import Derived.Test.YtcjgaohblaidjaaGreatDoorVgZ
import Derived.Test.YtcjgaohblaidjaaGreatDoorVg18
set_option maxRecDepth 100000
set_option maxHeartbeats 3200000
namespace Go.Proofs.YtcjgaohblaidjaaGreatDoor
open Go Go.RowKit
theorem RowB.take2 {w:World}{B:Nat→Prop}{c n cap p:Nat}{A:Option Addr}{R:Nat→List Value→Prop}(h:RowB w B c (.slice A n cap) n R) (hp:p≤n) (cap2:Nat) (hc2:p≤cap2):RowB w B c (.slice A p cap2) p (fun j cs=>j<p∧R j cs):=by
 obtain⟨A',cap',h1,h2,h3⟩:=RowB.take h hp cap;injection h1 with e1 _ e3;subst e1 e3;exact⟨A,cap2,rfl,⟨h2.1,hc2⟩,h3⟩
abbrev OwnX (k:Nat) (w0:World) (B0:Nat→Prop) (w:World) (base:Nat) (v:Value) (l:List En):Prop:=OwnE (elC (fun x cs=>EnB k x w0 B0 cs)) 45 9 w base v l
theorem zHx (k:Nat) (B0:Nat→Prop) (A:Option Addr) (c:Nat) (l:List En) (w:World) (hB:∀ b,B0 b→b<w.heap.size) (hl:RowP w w.heap.size 9 (.slice A l.length c) l.length (fun j cs=>∃ x,l[j]?=some x∧EnB k x w B0 cs)) (hn:l.length≤100000000) :
  Calls Tryz.prog 108 #[.slice A l.length c] w fun e w'=>∃ A' c',e=.returned (.slice A' (srtC cmpE l).length c')∧OwnX k w B0 w' w.heap.size (.slice A' (srtC cmpE l).length c') (srtC cmpE l)∧Below w.heap.size w w':=by
 have HL:=xI hl;clear hl;generalize hLN:l.length=n at *;have HN:=xI hLN;clear hLN;go_enter Tryz.func108,Tryz.ntmps108;go_wp2_with fail
 go_loopw [3,4] (fun v i wr=>∃ (k0:Nat) (Ao:Option Addr) (cap:Nat) (out:List En),i=.int .i64 k0∧k0≤n∧v=.slice Ao out.length cap∧OwnX k w B0 wr w.heap.size (.slice Ao out.length cap) out∧out=srtC cmpE (l.take k0)∧(out.length=0→Ao=none∧cap=0)∧Below w.heap.size w wr) (fun _ i _=>n-(intOf i).toNat)
 case atStart=>exact⟨0,none,0,[],rfl,by omega,rfl,OwnE.nil _ _ _ _ _,by simp[srtC],fun _=>⟨rfl,rfl⟩,Below.refl _ _⟩
 case round=>
  obtain⟨j,Ao,cap,out,rfl,hk,rfl,hO,hout,hnil,hb⟩:=hrel;have HOU:=xI hout;have HOO:=xI hO;have hsr:=hb.size;clear hout;by_cases hkn:j<n
  ·obtain⟨bs,offs,cap9,v0,v1,t0,t1,t2,t3,t4,t5,t6,hu,hbs,⟨x,hx,hE⟩,c0,c1,c2,c3,c4,c5,c6,c7,c8⟩:=RowB.at9 (j:=j) HL.out (by have:=HN.out;omega);injection hu with hA hNN hcc;subst hA;clear hNN hcc;have kn1:j<n:=hkn;have HX:=xI (aN hx hE);have HC:Hid (∀ wq,Below w.heap.size w wq→wq.cell? ⟨bs,offs+j*9,none⟩=some v0∧wq.cell? ⟨bs,offs+j*9+1,none⟩=some v1∧wq.cell? ⟨bs,offs+j*9+2,none⟩=some t0∧wq.cell? ⟨bs,offs+j*9+3,none⟩=some t1∧wq.cell? ⟨bs,offs+j*9+4,none⟩=some t2∧wq.cell? ⟨bs,offs+j*9+5,none⟩=some t3∧wq.cell? ⟨bs,offs+j*9+6,none⟩=some t4∧wq.cell? ⟨bs,offs+j*9+7,none⟩=some t5∧wq.cell? ⟨bs,offs+j*9+8,none⟩=some t6):=xI fun wq h=>⟨(h.cell (p:=⟨bs,_,none⟩) hbs).trans c0,(h.cell (p:=⟨bs,_,none⟩) hbs).trans c1,(h.cell (p:=⟨bs,_,none⟩) hbs).trans c2,(h.cell (p:=⟨bs,_,none⟩) hbs).trans c3,(h.cell (p:=⟨bs,_,none⟩) hbs).trans c4,(h.cell (p:=⟨bs,_,none⟩) hbs).trans c5,(h.cell (p:=⟨bs,_,none⟩) hbs).trans c6,(h.cell (p:=⟨bs,_,none⟩) hbs).trans c7,(h.cell (p:=⟨bs,_,none⟩) hbs).trans c8⟩;have hlen9:=xI hE;clear hx hE c0 c1 c2 c3 c4 c5 c6 c7 c8;have kn:(j:Int)<(n:Int):=by omega
   have k0:(0:Int)≤(j:Int):=by omega
   by_cases he:out.length=0
   ·obtain⟨rfl,rfl⟩:=hnil he;obtain rfl:out=[]:=List.eq_nil_of_length_eq_zero he;clear hnil he hO;go_wp2_with fail
    go_loopw [5] (fun i wq=>i=.int .i64 0∧∃ q,wq=wr.drewN q) (fun i _=>0)
    case atStart=>exact⟨rfl,0,rfl⟩
    case round=>
     obtain⟨rfl,q,rfl⟩:=hrel;go_wp2_with fail
     go_quiet (fail)
     go_wp2_with fail
     go_quiet (fail)
     go_wp2_with fail;generalize hw1:wr.drewN _=w1;have hb1:Below w.heap.size w w1:=by rw[←hw1];exact zB3 hb _
     clear hw1;have hz1:=hb1.size;obtain⟨i0,hi,hz0,hz1',hz2⟩:=info_parts Tryz.infoE;obtain⟨g2,cap2,w2,hr2,ho2,hb2,_,_⟩:=zBa (elC (fun x cs=>EnB k x w B0 cs)) 24 24 45 i0 (.agg #[.slice none 0 0,.bool false,.int .i64 0,.int .i64 0,.string ⟨#[]⟩,.slice none 0 0,.slice none 0 0,.slice none 0 0,.slice none 0 0]) 9 160 Tryz.underlying24 hi hz0 hz1' hz2 rfl (by decide) (by decide) w1.drew w.heap.size (.slice none 0 0) [] (OwnE.nil _ _ _ _ _) x [v0,v1,t0,t1,t2,t3,t4,t5,t6] HX.out.2 rfl (zB5 k x w B0 _ HX.out.2) (by simp) hz1 _ rfl 1;obtain⟨v3,w3,hr3,ho3,hb3,_,_⟩:=zBr (elC (fun x cs=>EnB k x w B0 cs)) 24 24 45 i0 (.agg #[.slice none 0 0,.bool false,.int .i64 0,.int .i64 0,.string ⟨#[]⟩,.slice none 0 0,.slice none 0 0,.slice none 0 0,.slice none 0 0]) 9 160 Tryz.underlying24 hi hz0 hz1' hz2 rfl (by decide) (by decide) (fun x w' B cs h=>zB5 k x w B0 cs h) w2 w.heap.size _ _ ho2 none 0 0 [] rfl (fun _=>True) ⟨none,0,rfl,⟨Nat.zero_le _,Nat.le_refl _⟩,fun h=>absurd h (by omega)⟩ (by simp) (Nat.le_trans hz1 hb2.size);obtain⟨A3,c3,rfl⟩:=ho3.form;have hst:srtC cmpE (l.take (j+1))=([]++[x])++[]:=by rw[zBv HX.out.1,←HOU.out];rfl
     have hlen1:(([]++[x])++[]:List En).length=1:=rfl;rw[hlen1]at hr3;rw[←hst]at ho3;have hbA:Below w.heap.size w (w1.drew.alloc (.cells #[v0,v1,t0,t1,t2,t3,t4,t5,t6] 45)):=hb1.drew.alloc hz1 _;have hB2:Below w.heap.size w w2:=hb1.drew.trans hb2;have hB3:Below w.heap.size w w3:=hB2.trans hb3;have HO3':OwnX k w B0 w3 w.heap.size (.slice A3 (srtC cmpE (l.take (j+1))).length c3) (srtC cmpE (l.take (j+1))):=by rw[hst];rw[hst]at ho3;exact ho3
     have HST:=xI hst;clear ho2 ho3 hb2 hb3 hst hlen1 hi hz0 hz1' hz2;refine wp_region_held_drew (S:=fun wq=>wq.cell? ⟨bs,offs+j*9,none⟩=some v0∧wq.cell? ⟨bs,offs+j*9+1,none⟩=some v1∧wq.cell? ⟨bs,offs+j*9+2,none⟩=some t0∧wq.cell? ⟨bs,offs+j*9+3,none⟩=some t1∧wq.cell? ⟨bs,offs+j*9+4,none⟩=some t2∧wq.cell? ⟨bs,offs+j*9+5,none⟩=some t3∧wq.cell? ⟨bs,offs+j*9+6,none⟩=some t4∧wq.cell? ⟨bs,offs+j*9+7,none⟩=some t5∧wq.cell? ⟨bs,offs+j*9+8,none⟩=some t6) (by kernel_rfl) (HC.out _ hb1.drew) (fun hHeld=>?_);refine tk 0 hHeld ?_
     try simp only[pK]
     iterate 4 (refine ts hHeld ?_;try simp only[pK])
     refine tk 7 hHeld ?_
     try simp only[pK]
     iterate 2 (refine ts hHeld ?_;try simp only[pK])
     refine oO 5 fun K hK=>?_;go_simp;refine hK _ _ (HC.out _ hbA) ?_
     try simp only[pK]
     refine oO 6 fun K hK=>?_;refine Lib.wp_append_run _ _ _ _ _ rfl _ _ rfl rfl _ w2 hr2 ?_;refine hK _ _ (HC.out _ hB2) ?_
     try simp only[pK]
     refine oO 10 fun K hK=>?_;refine Lib.wp_append_run _ _ _ _ _ rfl _ _ rfl rfl _ w3 hr3 ?_;refine hK _ _ (HC.out _ hB3) ?_
     try simp only[pK]
     refine oO 11 fun K hK=>?_;go_simp;refine hK _ _ (HC.out _ hB3) ?_
     try simp only[pK]
     refine (wD ?_) _;go_wp2_with fail
     go_roundw
     case rel=>exact⟨j+1,A3,c3,srtC cmpE (l.take (j+1)),by go_num,by omega,by rw[HST.out];rfl,HO3',rfl,fun h=>by rw[HST.out]at h;simp at h,hB3⟩
     case measure=>simp[intOf];try omega
   ·obtain⟨g,cap',hv,hBg,hgs,hlc⟩:=hO.formG (List.len_ne he);injection hv with e1 _ e3;subst e1 e3;clear hnil hO;have hol:out.length≤n:=by
     rw[HOU.out];have:=zGi (c:=cmpE) (l.take j);rw[List.length_take]at this;omega
    go_wp2_with fail
    go_loopw [5] (fun i wq=>∃ p:Nat,i=.int .i64 p∧p≤out.length∧(∀ y∈out.take p,cmpE y x<0)∧Below wr.heap.size wr wq) (fun i _=>out.length-(intOf i).toNat)
    case atStart=>exact⟨0,rfl,Nat.zero_le _,by simp,Below.refl _ _⟩
    case round=>
     rename World=>wq;obtain⟨p,rfl,hp,hlo,hbq⟩:=hrel;have HLO:=xI hlo;clear hlo;have hbw:=hb.trans (hbq.mono hsr);have hpc:p≤cap:=by omega
     have hcz:¬ cap=0:=by omega
     by_cases hpl:p<out.length
     ·obtain⟨g',og,cg,y0,y1,z0,z1,z2,z3,z4,z5,z6,hu,hg,⟨y,hy,hEy⟩,d0,d1,d2,d3,d4,d5,d6,d7,d8⟩:=RowB.at9 (H:=wq.heap.size) (j:=p) (RowB.sub ((HOO.out.old hbq).row (by omega) (by unfold maxLen;omega)) (fun _ h=>h.2) (fun _ _ h=>h)) hpl;injection hu with hA hNN hcc;injection hA with hA;injection hA with e1 e2;subst e1 e2;clear hNN hcc;rw[Nat.zero_add]at d0 d1 d2 d3 d4 d5 d6 d7 d8;have hcp:¬ cap=p:=by omega
      have HD:Hid (∀ V,Below wq.heap.size wq V→V.cell? ⟨g,p*9,none⟩=some y0∧V.cell? ⟨g,p*9+1,none⟩=some y1∧V.cell? ⟨g,p*9+2,none⟩=some z0∧V.cell? ⟨g,p*9+3,none⟩=some z1∧V.cell? ⟨g,p*9+4,none⟩=some z2∧V.cell? ⟨g,p*9+5,none⟩=some z3∧V.cell? ⟨g,p*9+6,none⟩=some z4∧V.cell? ⟨g,p*9+7,none⟩=some z5∧V.cell? ⟨g,p*9+8,none⟩=some z6):=xI fun V h=>⟨(h.cell (p:=⟨g,_,none⟩) hg).trans d0,(h.cell (p:=⟨g,_,none⟩) hg).trans d1,(h.cell (p:=⟨g,_,none⟩) hg).trans d2,(h.cell (p:=⟨g,_,none⟩) hg).trans d3,(h.cell (p:=⟨g,_,none⟩) hg).trans d4,(h.cell (p:=⟨g,_,none⟩) hg).trans d5,(h.cell (p:=⟨g,_,none⟩) hg).trans d6,(h.cell (p:=⟨g,_,none⟩) hg).trans d7,(h.cell (p:=⟨g,_,none⟩) hg).trans d8⟩;have hes:∀ (V:World),Below w.heap.size w V→∀ e cs,EnB k e w B0 cs→ES k V V.heap.size e cs:=fun V hV e cs h=>(elE k).sub (B:=B0) (fun b hb=>by have:=hB b hb;have:=hV.size;omega) ((elE k).keep (Same.of_below hV hB) h);have hc:=fun V (hV:Below w.heap.size w V)=>zC6 k (xI (zCi k)) y x _ _ V (hes V hV y _ hEy) (hes V hV x _ HX.out.2);have HCE:=xI hc;have HY:=xI (aN hy hEy);clear hc hes hy hEy d0 d1 d2 d3 d4 d5 d6 d7 d8;generalize hzc:cmpE y x=zc at HCE;have HZC:=xI hzc;clear hzc;have pl:(p:Int)<(out.length:Int):=by omega
      have p0:(0:Int)≤(p:Int):=by omega
      by_cases hlt:zc<0
      ·have hltb:decide (zc<0)=true:=by simpa using hlt
       go_wp2_with fail;refine wp_region_held_drew (S:=fun V=>(V.cell? ⟨bs,offs+j*9,none⟩=some v0∧V.cell? ⟨bs,offs+j*9+1,none⟩=some v1∧V.cell? ⟨bs,offs+j*9+2,none⟩=some t0∧V.cell? ⟨bs,offs+j*9+3,none⟩=some t1∧V.cell? ⟨bs,offs+j*9+4,none⟩=some t2∧V.cell? ⟨bs,offs+j*9+5,none⟩=some t3∧V.cell? ⟨bs,offs+j*9+6,none⟩=some t4∧V.cell? ⟨bs,offs+j*9+7,none⟩=some t5∧V.cell? ⟨bs,offs+j*9+8,none⟩=some t6)∧V.cell? ⟨g,p*9,none⟩=some y0∧V.cell? ⟨g,p*9+1,none⟩=some y1∧V.cell? ⟨g,p*9+2,none⟩=some z0∧V.cell? ⟨g,p*9+3,none⟩=some z1∧V.cell? ⟨g,p*9+4,none⟩=some z2∧V.cell? ⟨g,p*9+5,none⟩=some z3∧V.cell? ⟨g,p*9+6,none⟩=some z4∧V.cell? ⟨g,p*9+7,none⟩=some z5∧V.cell? ⟨g,p*9+8,none⟩=some z6) (by kernel_rfl) ⟨HC.out _ hbw.drew,HD.out _ bR.drew⟩ (fun hHeld=>?_);refine tk 0 hHeld ?_
       try simp only[pK]
       iterate 12 (refine ts hHeld ?_;try simp only[pK])
       refine oO 13 fun K hK=>?_;go_simp;refine (HCE.out _ hbw.drew).mono ?_;rintro e w10 ⟨rfl,hb10⟩;have hb10':Below wq.heap.size wq w10:=(Below.refl _ _).drew.trans hb10;have hbw10:Below w.heap.size w w10:=hbw.trans (hb10'.mono hbw.size);have hHeld2:=aN (HC.out _ hbw10) (HD.out _ hb10');refine hK _ _ hHeld2 ?_
       try simp only[pK]
       refine tk 14 hHeld2 ?_
       try simp only[pK]
       refine tk 15 hHeld2 ?_
       try simp only[pK]
       refine (wD ?_) _;go_wp2_with fail
       go_roundw
       case rel=>
        refine⟨p+1,by go_num,by omega,fun z hz=>?_,hbq.trans (hb10'.mono hbq.size)⟩;rw[List.take_add_one,HY.out.1]at hz;rcases List.mem_append.1 hz with hz|hz
        ·exact HLO.out z hz
        ·obtain rfl:z=y:=by simpa using hz
         rw[HZC.out];exact hlt
       case measure=>simp[intOf];try omega
      ·have hltb:decide (zc<0)=false:=by simpa using hlt
       by_cases heq:zc=0
       ·have heqb:(zc==0)=true:=by rw[zMd];simpa using heq
        go_wp2_with fail;refine wp_region_held_drew (S:=fun V=>(V.cell? ⟨bs,offs+j*9,none⟩=some v0∧V.cell? ⟨bs,offs+j*9+1,none⟩=some v1∧V.cell? ⟨bs,offs+j*9+2,none⟩=some t0∧V.cell? ⟨bs,offs+j*9+3,none⟩=some t1∧V.cell? ⟨bs,offs+j*9+4,none⟩=some t2∧V.cell? ⟨bs,offs+j*9+5,none⟩=some t3∧V.cell? ⟨bs,offs+j*9+6,none⟩=some t4∧V.cell? ⟨bs,offs+j*9+7,none⟩=some t5∧V.cell? ⟨bs,offs+j*9+8,none⟩=some t6)∧V.cell? ⟨g,p*9,none⟩=some y0∧V.cell? ⟨g,p*9+1,none⟩=some y1∧V.cell? ⟨g,p*9+2,none⟩=some z0∧V.cell? ⟨g,p*9+3,none⟩=some z1∧V.cell? ⟨g,p*9+4,none⟩=some z2∧V.cell? ⟨g,p*9+5,none⟩=some z3∧V.cell? ⟨g,p*9+6,none⟩=some z4∧V.cell? ⟨g,p*9+7,none⟩=some z5∧V.cell? ⟨g,p*9+8,none⟩=some z6) (by kernel_rfl) ⟨HC.out _ hbw.drew,HD.out _ bR.drew⟩ (fun hHeld=>?_);refine tk 0 hHeld ?_
        try simp only[pK]
        iterate 12 (refine ts hHeld ?_;try simp only[pK])
        refine oO 13 fun K hK=>?_;go_simp;refine (HCE.out _ hbw.drew).mono ?_;rintro e w10 ⟨rfl,hb10⟩;have hb10':Below wq.heap.size wq w10:=(Below.refl _ _).drew.trans hb10;have hbw10:Below w.heap.size w w10:=hbw.trans (hb10'.mono hbw.size);have hHeld2:=aN (HC.out _ hbw10) (HD.out _ hb10');refine hK _ _ hHeld2 ?_
        try simp only[pK]
        refine tk 14 hHeld2 ?_
        try simp only[pK]
        refine tk 15 hHeld2 ?_
        try simp only[pK]
        refine (wD ?_) _;go_wp2_with fail;refine wp_region_held_drew (S:=fun V=>(V.cell? ⟨bs,offs+j*9,none⟩=some v0∧V.cell? ⟨bs,offs+j*9+1,none⟩=some v1∧V.cell? ⟨bs,offs+j*9+2,none⟩=some t0∧V.cell? ⟨bs,offs+j*9+3,none⟩=some t1∧V.cell? ⟨bs,offs+j*9+4,none⟩=some t2∧V.cell? ⟨bs,offs+j*9+5,none⟩=some t3∧V.cell? ⟨bs,offs+j*9+6,none⟩=some t4∧V.cell? ⟨bs,offs+j*9+7,none⟩=some t5∧V.cell? ⟨bs,offs+j*9+8,none⟩=some t6)∧V.cell? ⟨g,p*9,none⟩=some y0∧V.cell? ⟨g,p*9+1,none⟩=some y1∧V.cell? ⟨g,p*9+2,none⟩=some z0∧V.cell? ⟨g,p*9+3,none⟩=some z1∧V.cell? ⟨g,p*9+4,none⟩=some z2∧V.cell? ⟨g,p*9+5,none⟩=some z3∧V.cell? ⟨g,p*9+6,none⟩=some z4∧V.cell? ⟨g,p*9+7,none⟩=some z5∧V.cell? ⟨g,p*9+8,none⟩=some z6) (by kernel_rfl) ⟨HC.out _ hbw10.drew,HD.out _ hb10'.drew⟩ (fun hHeld3=>?_);refine tk 0 hHeld3 ?_
        try simp only[pK]
        iterate 12 (refine ts hHeld3 ?_;try simp only[pK])
        refine oO 13 fun K hK=>?_;go_simp;refine (HCE.out _ hbw10.drew).mono ?_;rintro e w11 ⟨rfl,hb11⟩;have hb11':Below wq.heap.size wq w11:=hb10'.drew.trans (hb11.mono hb10'.size);have hbw11:Below w.heap.size w w11:=hbw.trans (hb11'.mono hbw.size);have hHeld4:=aN (HC.out _ hbw11) (HD.out _ hb11');refine hK _ _ hHeld4 ?_
        try simp only[pK]
        refine tk 14 hHeld4 ?_
        try simp only[pK]
        refine tk 15 hHeld4 ?_
        try simp only[pK]
        refine (wD ?_) _;go_wp2_with fail
        go_roundw
        case rel=>exact⟨j+1,_,cap,out,by go_num,by omega,rfl,HOO.out.old (hbq.trans (hb11'.mono hbq.size)),by rw[zBv HX.out.1,←HOU.out,zI0 HLO.out HY.out.1 (by rw[HZC.out];exact heq)],fun h=>absurd h he,hbw11⟩
        case measure=>simp[intOf];try omega
       ·have heqb:(zc==0)=false:=by rw[zMd];simpa using heq
        have HHI:Hid (∀ z,out[p]?=some z→0≤cmpE z x∧cmpE z x≠0):=xI (fun z hz=>by
         rw[HY.out.1]at hz;injection hz with hz;rw[←hz,HZC.out];exact⟨by omega,heq⟩)
        go_wp2_with fail;refine wp_region_held_drew (S:=fun V=>(V.cell? ⟨bs,offs+j*9,none⟩=some v0∧V.cell? ⟨bs,offs+j*9+1,none⟩=some v1∧V.cell? ⟨bs,offs+j*9+2,none⟩=some t0∧V.cell? ⟨bs,offs+j*9+3,none⟩=some t1∧V.cell? ⟨bs,offs+j*9+4,none⟩=some t2∧V.cell? ⟨bs,offs+j*9+5,none⟩=some t3∧V.cell? ⟨bs,offs+j*9+6,none⟩=some t4∧V.cell? ⟨bs,offs+j*9+7,none⟩=some t5∧V.cell? ⟨bs,offs+j*9+8,none⟩=some t6)∧V.cell? ⟨g,p*9,none⟩=some y0∧V.cell? ⟨g,p*9+1,none⟩=some y1∧V.cell? ⟨g,p*9+2,none⟩=some z0∧V.cell? ⟨g,p*9+3,none⟩=some z1∧V.cell? ⟨g,p*9+4,none⟩=some z2∧V.cell? ⟨g,p*9+5,none⟩=some z3∧V.cell? ⟨g,p*9+6,none⟩=some z4∧V.cell? ⟨g,p*9+7,none⟩=some z5∧V.cell? ⟨g,p*9+8,none⟩=some z6) (by kernel_rfl) ⟨HC.out _ hbw.drew,HD.out _ bR.drew⟩ (fun hHeld=>?_);refine tk 0 hHeld ?_
        try simp only[pK]
        iterate 12 (refine ts hHeld ?_;try simp only[pK])
        refine oO 13 fun K hK=>?_;go_simp;refine (HCE.out _ hbw.drew).mono ?_;rintro e w10 ⟨rfl,hb10⟩;have hb10':Below wq.heap.size wq w10:=(Below.refl _ _).drew.trans hb10;have hbw10:Below w.heap.size w w10:=hbw.trans (hb10'.mono hbw.size);have hHeld2:=aN (HC.out _ hbw10) (HD.out _ hb10');refine hK _ _ hHeld2 ?_
        try simp only[pK]
        refine tk 14 hHeld2 ?_
        try simp only[pK]
        refine tk 15 hHeld2 ?_
        try simp only[pK]
        refine (wD ?_) _;go_wp2_with fail;refine wp_region_held_drew (S:=fun V=>(V.cell? ⟨bs,offs+j*9,none⟩=some v0∧V.cell? ⟨bs,offs+j*9+1,none⟩=some v1∧V.cell? ⟨bs,offs+j*9+2,none⟩=some t0∧V.cell? ⟨bs,offs+j*9+3,none⟩=some t1∧V.cell? ⟨bs,offs+j*9+4,none⟩=some t2∧V.cell? ⟨bs,offs+j*9+5,none⟩=some t3∧V.cell? ⟨bs,offs+j*9+6,none⟩=some t4∧V.cell? ⟨bs,offs+j*9+7,none⟩=some t5∧V.cell? ⟨bs,offs+j*9+8,none⟩=some t6)∧V.cell? ⟨g,p*9,none⟩=some y0∧V.cell? ⟨g,p*9+1,none⟩=some y1∧V.cell? ⟨g,p*9+2,none⟩=some z0∧V.cell? ⟨g,p*9+3,none⟩=some z1∧V.cell? ⟨g,p*9+4,none⟩=some z2∧V.cell? ⟨g,p*9+5,none⟩=some z3∧V.cell? ⟨g,p*9+6,none⟩=some z4∧V.cell? ⟨g,p*9+7,none⟩=some z5∧V.cell? ⟨g,p*9+8,none⟩=some z6) (by kernel_rfl) ⟨HC.out _ hbw10.drew,HD.out _ hb10'.drew⟩ (fun hHeld3=>?_);refine tk 0 hHeld3 ?_
        try simp only[pK]
        iterate 12 (refine ts hHeld3 ?_;try simp only[pK])
        refine oO 13 fun K hK=>?_;go_simp;refine (HCE.out _ hbw10.drew).mono ?_;rintro e w11 ⟨rfl,hb11⟩;have hb11':Below wq.heap.size wq w11:=hb10'.drew.trans (hb11.mono hb10'.size);have hbw11:Below w.heap.size w w11:=hbw.trans (hb11'.mono hbw.size);have hHeld4:=aN (HC.out _ hbw11) (HD.out _ hb11');refine hK _ _ hHeld4 ?_
        try simp only[pK]
        refine tk 14 hHeld4 ?_
        try simp only[pK]
        refine tk 15 hHeld4 ?_
        try simp only[pK]
        refine (wD ?_) _;have hb9:Below wr.heap.size wr w11:=hbq.trans (hb11'.mono hbq.size);clear hHeld hHeld2 hHeld3;go_wp2_with (at_builtin;(refine zGy (elC (fun x cs=>EnB k x w B0 cs)) (fun x w' B cs h=>zB5 k x w B0 cs h) rfl _ _ rfl wr.heap.size (.slice none 0 0) [] rfl (OwnE.nil _ _ _ _ _) (some ⟨g,0,none⟩) p _ (out.take p) (by rw[List.length_take];omega) _ rfl (RowB.sub (RowB.take ((HOO.out.old hb9).row (by omega) (by unfold maxLen;omega)) (show p≤out.length by omega) _) (fun _ h=>h) (fun q cs ⟨hq,z,hz,hv⟩=>⟨z,by rw[List.getElem?_take_of_lt hq];exact hz,hv⟩)) (by simp only[List.length_nil];omega) hb9.size ?_);intro u1 w1 ho1 hb1' _ _;refine Hid.out ?_);refine xI ?_;have hb1:Below wr.heap.size wr w1:=hb9.trans hb1';clear hb1';go_wp2_with fail;have hz1:=hb1.size;have hbA:Below w.heap.size w (w1.drew.alloc (.cells #[v0,v1,t0,t1,t2,t3,t4,t5,t6] 45)):=(hb.trans (hb1.mono hsr)).drew.alloc (Nat.le_trans hsr hz1) _;obtain⟨i0,hi,hi0,hi1,hi2⟩:=info_parts Tryz.infoE;have htl:([]++out.take p).length≤n:=by rw[List.nil_append,List.length_take];omega
        obtain⟨g2,cap2,w2,hr2,ho2,hb2,_,_⟩:=zBa (elC (fun x cs=>EnB k x w B0 cs)) 24 24 45 i0 (.agg #[.slice none 0 0,.bool false,.int .i64 0,.int .i64 0,.string ⟨#[]⟩,.slice none 0 0,.slice none 0 0,.slice none 0 0,.slice none 0 0]) 9 160 Tryz.underlying24 hi hi0 hi1 hi2 rfl (by decide) (by decide) w1.drew wr.heap.size u1 ([]++out.take p) (ho1.old bR.drew) x [v0,v1,t0,t1,t2,t3,t4,t5,t6] HX.out.2 rfl (zB5 k x w B0 _ HX.out.2) (by omega) hz1 _ rfl 1;have hb2w:Below wr.heap.size wr w2:=hb1.drew.trans hb2;obtain⟨u3,w3,hr3,ho3,hb3,_,_⟩:=zBr (elC (fun x cs=>EnB k x w B0 cs)) 24 24 45 i0 (.agg #[.slice none 0 0,.bool false,.int .i64 0,.int .i64 0,.string ⟨#[]⟩,.slice none 0 0,.slice none 0 0,.slice none 0 0,.slice none 0 0]) 9 160 Tryz.underlying24 hi hi0 hi1 hi2 rfl (by decide) (by decide) (fun x w' B cs h=>zB5 k x w B0 cs h) w2 wr.heap.size _ _ ho2 (some ⟨g,p*9,none⟩) (out.length-p) (cap-p) (out.drop p) (by first|rfl|rw[List.length_drop]) (_) (RowB.sub (RowB.drop ((HOO.out.old hb2w).row (by omega) (by unfold maxLen;omega)) hpl _ _ (by omega)) (fun _ h=>h) (fun q cs ⟨z,hz,hv⟩=>⟨z,by rw[List.getElem?_drop];exact hz,hv⟩)) (by rw[List.length_append,List.length_singleton];omega) hb2w.size
        have HST:=xI (show srtC cmpE (l.take (j+1))=(([]++out.take p)++[x])++out.drop p by rw[zBv HX.out.1,←HOU.out,zHk (show p≤out.length by omega) HLO.out (fun z hz=>⟨Int.not_lt.2 (HHI.out z hz).1,(HHI.out z hz).2⟩)];simp);obtain⟨A3,c3,rfl⟩:=ho3.form;have HB2:Below w.heap.size w w2:=hb.trans (hb2w.mono hsr);have HB3:Below w.heap.size w w3:=HB2.trans (hb3.mono hsr);rw[←HST.out]at ho3 hr3;have hlen:¬ (srtC cmpE (l.take (j+1))).length=0:=by rw[HST.out];simp
        have HO3:=xI (ho3.mono hsr);generalize hLL:(srtC cmpE (l.take (j+1))).length=LL at *;have HLL:=xI hLL;clear ho1 ho2 ho3 hb2 hb3 hi hi0 hi1 hi2 htl hLL;refine wp_region_held_drew (S:=fun V=>V.cell? ⟨bs,offs+j*9,none⟩=some v0∧V.cell? ⟨bs,offs+j*9+1,none⟩=some v1∧V.cell? ⟨bs,offs+j*9+2,none⟩=some t0∧V.cell? ⟨bs,offs+j*9+3,none⟩=some t1∧V.cell? ⟨bs,offs+j*9+4,none⟩=some t2∧V.cell? ⟨bs,offs+j*9+5,none⟩=some t3∧V.cell? ⟨bs,offs+j*9+6,none⟩=some t4∧V.cell? ⟨bs,offs+j*9+7,none⟩=some t5∧V.cell? ⟨bs,offs+j*9+8,none⟩=some t6) (by kernel_rfl) (HC.out _ (hb.trans (hb1.mono hsr)).drew) (fun hHeld5=>?_);refine tk 0 hHeld5 ?_
        try simp only[pK]
        iterate 4 (refine ts hHeld5 ?_;try simp only[pK])
        refine tk 7 hHeld5 ?_
        try simp only[pK]
        iterate 2 (refine ts hHeld5 ?_;try simp only[pK])
        refine oO 5 fun K hK=>?_;go_simp;refine hK _ _ (HC.out _ hbA) ?_
        try simp only[pK]
        refine oO 6 fun K hK=>?_;refine Lib.wp_append_run _ _ _ _ _ rfl _ _ rfl rfl _ w2 hr2 ?_;refine hK _ _ (HC.out _ HB2) ?_
        try simp only[pK]
        refine oO 10 fun K hK=>?_;refine Lib.wp_append_run _ _ _ _ _ rfl _ _ rfl rfl _ w3 hr3 ?_;refine hK _ _ (HC.out _ HB3) ?_
        try simp only[pK]
        refine tk 11 (HC.out _ HB3) ?_
        try simp only[pK]
        refine (wD ?_) _;go_wp2_with fail
        go_roundw
        case rel=>exact⟨j+1,A3,c3,srtC cmpE (l.take (j+1)),by go_num,by omega,by rw[HLL.out],by rw[HLL.out];exact HO3.out,rfl,fun h=>absurd (HLL.out ▸ h) hlen,HB3⟩
        case measure=>simp[intOf];try omega
     ·have pl:decide ((p:Int)<(out.length:Int))=false:=by simpa using hpl
      obtain rfl:p=out.length:=by omega
      have HHI:Hid (∀ z,out[out.length]?=some z→0≤cmpE z x∧cmpE z x≠0):=xI (fun z hz=>by simp at hz);by_cases hcp:cap=out.length
      ·go_wp2_with fail;refine wp_region_held_drew (S:=fun V=>True) (by kernel_rfl) trivial (fun hHeld=>?_);refine tk 0 hHeld ?_
       try simp only[pK]
       iterate 4 (refine ts hHeld ?_;try simp only[pK])
       refine tu 5 hHeld ?_
       try simp only[pK]
       refine tu 6 hHeld ?_
       try simp only[pK]
       refine tu 7 hHeld ?_
       try simp only[pK]
       refine tu 8 hHeld ?_
       try simp only[pK]
       refine tu 9 hHeld ?_
       try simp only[pK]
       refine tu 10 hHeld ?_
       try simp only[pK]
       refine tu 11 hHeld ?_
       try simp only[pK]
       refine tu 12 hHeld ?_
       try simp only[pK]
       refine zBq 13 (by kernel_rfl) rfl (by rfl) hHeld ?_
       try simp only[pK]
       refine tu 14 hHeld ?_
       try simp only[pK]
       refine tk 15 hHeld ?_
       try simp only[pK]
       refine (wD ?_) _;go_wp2_with fail;refine wp_region_held_drew (S:=fun V=>True) (by kernel_rfl) trivial (fun hHeld=>?_);refine tk 0 hHeld ?_
       try simp only[pK]
       iterate 4 (refine ts hHeld ?_;try simp only[pK])
       refine tu 5 hHeld ?_
       try simp only[pK]
       refine tu 6 hHeld ?_
       try simp only[pK]
       refine tu 7 hHeld ?_
       try simp only[pK]
       refine tu 8 hHeld ?_
       try simp only[pK]
       refine tu 9 hHeld ?_
       try simp only[pK]
       refine tu 10 hHeld ?_
       try simp only[pK]
       refine tu 11 hHeld ?_
       try simp only[pK]
       refine tu 12 hHeld ?_
       try simp only[pK]
       refine zBq 13 (by kernel_rfl) rfl (by rfl) hHeld ?_
       try simp only[pK]
       refine tu 14 hHeld ?_
       try simp only[pK]
       refine tk 15 hHeld ?_
       try simp only[pK]
       refine (wD ?_) _;generalize hw9:wq.drew.drew=w9;have hb9:Below wr.heap.size wr w9:=by rw[←hw9];exact hbq.drew.drew
       clear hw9;go_wp2_with (at_builtin;(refine zGy (elC (fun x cs=>EnB k x w B0 cs)) (fun x w' B cs h=>zB5 k x w B0 cs h) rfl _ _ rfl wr.heap.size (.slice none 0 0) [] rfl (OwnE.nil _ _ _ _ _) (some ⟨g,0,none⟩) out.length _ (out.take out.length) (by rw[List.length_take];omega) _ rfl (RowB.sub (RowB.take2 ((HOO.out.old hb9).row (by omega) (by unfold maxLen;omega)) (show out.length≤out.length by omega) _ lR) (fun _ h=>h) (fun q cs ⟨hq,z,hz,hv⟩=>⟨z,by rw[List.getElem?_take_of_lt hq];exact hz,hv⟩)) (by simp only[List.length_nil];omega) hb9.size ?_);intro u1 w1 ho1 hb1' _ _;refine Hid.out ?_);refine xI ?_;have hb1:Below wr.heap.size wr w1:=hb9.trans hb1';clear hb1';go_wp2_with fail;have hz1:=hb1.size;have hbA:Below w.heap.size w (w1.drew.alloc (.cells #[v0,v1,t0,t1,t2,t3,t4,t5,t6] 45)):=(hb.trans (hb1.mono hsr)).drew.alloc (Nat.le_trans hsr hz1) _;obtain⟨i0,hi,hi0,hi1,hi2⟩:=info_parts Tryz.infoE;have htl:([]++out.take out.length).length≤n:=by rw[List.nil_append,List.length_take];omega
       obtain⟨g2,cap2,w2,hr2,ho2,hb2,_,_⟩:=zBa (elC (fun x cs=>EnB k x w B0 cs)) 24 24 45 i0 (.agg #[.slice none 0 0,.bool false,.int .i64 0,.int .i64 0,.string ⟨#[]⟩,.slice none 0 0,.slice none 0 0,.slice none 0 0,.slice none 0 0]) 9 160 Tryz.underlying24 hi hi0 hi1 hi2 rfl (by decide) (by decide) w1.drew wr.heap.size u1 ([]++out.take out.length) (ho1.old bR.drew) x [v0,v1,t0,t1,t2,t3,t4,t5,t6] HX.out.2 rfl (zB5 k x w B0 _ HX.out.2) (by omega) hz1 _ rfl 1;have hb2w:Below wr.heap.size wr w2:=hb1.drew.trans hb2;obtain⟨u3,w3,hr3,ho3,hb3,_,_⟩:=zBr (elC (fun x cs=>EnB k x w B0 cs)) 24 24 45 i0 (.agg #[.slice none 0 0,.bool false,.int .i64 0,.int .i64 0,.string ⟨#[]⟩,.slice none 0 0,.slice none 0 0,.slice none 0 0,.slice none 0 0]) 9 160 Tryz.underlying24 hi hi0 hi1 hi2 rfl (by decide) (by decide) (fun x w' B cs h=>zB5 k x w B0 cs h) w2 wr.heap.size _ _ ho2 (some ⟨g,0,none⟩) (0) (0) (([]:List En)) (by first|rfl|rw[List.length_drop]) (fun _=>True) (⟨_,_,rfl,⟨Nat.zero_le _,Nat.zero_le _⟩,fun h=>absurd h (by omega)⟩) (by rw[List.length_append,List.length_singleton];omega) hb2w.size
       have HST:=xI (show srtC cmpE (l.take (j+1))=(([]++out.take out.length)++[x])++([]:List En) by rw[zBv HX.out.1,←HOU.out,zHk (show out.length≤out.length by omega) HLO.out (fun z hz=>⟨Int.not_lt.2 (HHI.out z hz).1,(HHI.out z hz).2⟩)];simp);obtain⟨A3,c3,rfl⟩:=ho3.form;have HB2:Below w.heap.size w w2:=hb.trans (hb2w.mono hsr);have HB3:Below w.heap.size w w3:=HB2.trans (hb3.mono hsr);rw[←HST.out]at ho3 hr3;have hlen:¬ (srtC cmpE (l.take (j+1))).length=0:=by rw[HST.out];simp
       have HO3:=xI (ho3.mono hsr);generalize hLL:(srtC cmpE (l.take (j+1))).length=LL at *;have HLL:=xI hLL;clear ho1 ho2 ho3 hb2 hb3 hi hi0 hi1 hi2 htl hLL;refine wp_region_held_drew (S:=fun V=>V.cell? ⟨bs,offs+j*9,none⟩=some v0∧V.cell? ⟨bs,offs+j*9+1,none⟩=some v1∧V.cell? ⟨bs,offs+j*9+2,none⟩=some t0∧V.cell? ⟨bs,offs+j*9+3,none⟩=some t1∧V.cell? ⟨bs,offs+j*9+4,none⟩=some t2∧V.cell? ⟨bs,offs+j*9+5,none⟩=some t3∧V.cell? ⟨bs,offs+j*9+6,none⟩=some t4∧V.cell? ⟨bs,offs+j*9+7,none⟩=some t5∧V.cell? ⟨bs,offs+j*9+8,none⟩=some t6) (by kernel_rfl) (HC.out _ (hb.trans (hb1.mono hsr)).drew) (fun hHeld5=>?_);refine tk 0 hHeld5 ?_
       try simp only[pK]
       iterate 4 (refine ts hHeld5 ?_;try simp only[pK])
       refine tk 7 hHeld5 ?_
       try simp only[pK]
       iterate 2 (refine ts hHeld5 ?_;try simp only[pK])
       refine oO 5 fun K hK=>?_;go_simp;refine hK _ _ (HC.out _ hbA) ?_
       try simp only[pK]
       refine oO 6 fun K hK=>?_;refine Lib.wp_append_run _ _ _ _ _ rfl _ _ rfl rfl _ w2 hr2 ?_;refine hK _ _ (HC.out _ HB2) ?_
       try simp only[pK]
       refine oO 10 fun K hK=>?_;refine Lib.wp_append_run _ _ _ _ _ rfl _ _ rfl rfl _ w3 hr3 ?_;refine hK _ _ (HC.out _ HB3) ?_
       try simp only[pK]
       refine tk 11 (HC.out _ HB3) ?_
       try simp only[pK]
       refine (wD ?_) _;go_wp2_with fail
       go_roundw
       case rel=>exact⟨j+1,A3,c3,srtC cmpE (l.take (j+1)),by go_num,by omega,by rw[HLL.out],by rw[HLL.out];exact HO3.out,rfl,fun h=>absurd (HLL.out ▸ h) hlen,HB3⟩
       case measure=>simp[intOf];try omega
      ·go_wp2_with fail;refine wp_region_held_drew (S:=fun V=>True) (by kernel_rfl) trivial (fun hHeld=>?_);refine tk 0 hHeld ?_
       try simp only[pK]
       iterate 4 (refine ts hHeld ?_;try simp only[pK])
       refine tu 5 hHeld ?_
       try simp only[pK]
       refine tu 6 hHeld ?_
       try simp only[pK]
       refine tu 7 hHeld ?_
       try simp only[pK]
       refine tu 8 hHeld ?_
       try simp only[pK]
       refine tu 9 hHeld ?_
       try simp only[pK]
       refine tu 10 hHeld ?_
       try simp only[pK]
       refine tu 11 hHeld ?_
       try simp only[pK]
       refine tu 12 hHeld ?_
       try simp only[pK]
       refine zBq 13 (by kernel_rfl) rfl (by rfl) hHeld ?_
       try simp only[pK]
       refine tu 14 hHeld ?_
       try simp only[pK]
       refine tk 15 hHeld ?_
       try simp only[pK]
       refine (wD ?_) _;go_wp2_with fail;refine wp_region_held_drew (S:=fun V=>True) (by kernel_rfl) trivial (fun hHeld=>?_);refine tk 0 hHeld ?_
       try simp only[pK]
       iterate 4 (refine ts hHeld ?_;try simp only[pK])
       refine tu 5 hHeld ?_
       try simp only[pK]
       refine tu 6 hHeld ?_
       try simp only[pK]
       refine tu 7 hHeld ?_
       try simp only[pK]
       refine tu 8 hHeld ?_
       try simp only[pK]
       refine tu 9 hHeld ?_
       try simp only[pK]
       refine tu 10 hHeld ?_
       try simp only[pK]
       refine tu 11 hHeld ?_
       try simp only[pK]
       refine tu 12 hHeld ?_
       try simp only[pK]
       refine zBq 13 (by kernel_rfl) rfl (by rfl) hHeld ?_
       try simp only[pK]
       refine tu 14 hHeld ?_
       try simp only[pK]
       refine tk 15 hHeld ?_
       try simp only[pK]
       refine (wD ?_) _;generalize hw9:wq.drew.drew=w9;have hb9:Below wr.heap.size wr w9:=by rw[←hw9];exact hbq.drew.drew
       clear hw9;go_wp2_with (at_builtin;(refine zGy (elC (fun x cs=>EnB k x w B0 cs)) (fun x w' B cs h=>zB5 k x w B0 cs h) rfl _ _ rfl wr.heap.size (.slice none 0 0) [] rfl (OwnE.nil _ _ _ _ _) (some ⟨g,0,none⟩) out.length _ (out.take out.length) (by rw[List.length_take];omega) _ rfl (RowB.sub (RowB.take ((HOO.out.old hb9).row (by omega) (by unfold maxLen;omega)) (show out.length≤out.length by omega) _) (fun _ h=>h) (fun q cs ⟨hq,z,hz,hv⟩=>⟨z,by rw[List.getElem?_take_of_lt hq];exact hz,hv⟩)) (by simp only[List.length_nil];omega) hb9.size ?_);intro u1 w1 ho1 hb1' _ _;refine Hid.out ?_);refine xI ?_;have hb1:Below wr.heap.size wr w1:=hb9.trans hb1';clear hb1';go_wp2_with fail;have hz1:=hb1.size;have hbA:Below w.heap.size w (w1.drew.alloc (.cells #[v0,v1,t0,t1,t2,t3,t4,t5,t6] 45)):=(hb.trans (hb1.mono hsr)).drew.alloc (Nat.le_trans hsr hz1) _;obtain⟨i0,hi,hi0,hi1,hi2⟩:=info_parts Tryz.infoE;have htl:([]++out.take out.length).length≤n:=by rw[List.nil_append,List.length_take];omega
       obtain⟨g2,cap2,w2,hr2,ho2,hb2,_,_⟩:=zBa (elC (fun x cs=>EnB k x w B0 cs)) 24 24 45 i0 (.agg #[.slice none 0 0,.bool false,.int .i64 0,.int .i64 0,.string ⟨#[]⟩,.slice none 0 0,.slice none 0 0,.slice none 0 0,.slice none 0 0]) 9 160 Tryz.underlying24 hi hi0 hi1 hi2 rfl (by decide) (by decide) w1.drew wr.heap.size u1 ([]++out.take out.length) (ho1.old bR.drew) x [v0,v1,t0,t1,t2,t3,t4,t5,t6] HX.out.2 rfl (zB5 k x w B0 _ HX.out.2) (by omega) hz1 _ rfl 1;have hb2w:Below wr.heap.size wr w2:=hb1.drew.trans hb2;obtain⟨u3,w3,hr3,ho3,hb3,_,_⟩:=zBr (elC (fun x cs=>EnB k x w B0 cs)) 24 24 45 i0 (.agg #[.slice none 0 0,.bool false,.int .i64 0,.int .i64 0,.string ⟨#[]⟩,.slice none 0 0,.slice none 0 0,.slice none 0 0,.slice none 0 0]) 9 160 Tryz.underlying24 hi hi0 hi1 hi2 rfl (by decide) (by decide) (fun x w' B cs h=>zB5 k x w B0 cs h) w2 wr.heap.size _ _ ho2 (some ⟨g,out.length*9,none⟩) (0) (cap-out.length) (([]:List En)) (by first|rfl|rw[List.length_drop]) (fun _=>True) (⟨_,_,rfl,⟨Nat.zero_le _,Nat.zero_le _⟩,fun h=>absurd h (by omega)⟩) (by rw[List.length_append,List.length_singleton];omega) hb2w.size
       have HST:=xI (show srtC cmpE (l.take (j+1))=(([]++out.take out.length)++[x])++([]:List En) by rw[zBv HX.out.1,←HOU.out,zHk (show out.length≤out.length by omega) HLO.out (fun z hz=>⟨Int.not_lt.2 (HHI.out z hz).1,(HHI.out z hz).2⟩)];simp);obtain⟨A3,c3,rfl⟩:=ho3.form;have HB2:Below w.heap.size w w2:=hb.trans (hb2w.mono hsr);have HB3:Below w.heap.size w w3:=HB2.trans (hb3.mono hsr);rw[←HST.out]at ho3 hr3;have hlen:¬ (srtC cmpE (l.take (j+1))).length=0:=by rw[HST.out];simp
       have HO3:=xI (ho3.mono hsr);generalize hLL:(srtC cmpE (l.take (j+1))).length=LL at *;have HLL:=xI hLL;clear ho1 ho2 ho3 hb2 hb3 hi hi0 hi1 hi2 htl hLL;refine wp_region_held_drew (S:=fun V=>V.cell? ⟨bs,offs+j*9,none⟩=some v0∧V.cell? ⟨bs,offs+j*9+1,none⟩=some v1∧V.cell? ⟨bs,offs+j*9+2,none⟩=some t0∧V.cell? ⟨bs,offs+j*9+3,none⟩=some t1∧V.cell? ⟨bs,offs+j*9+4,none⟩=some t2∧V.cell? ⟨bs,offs+j*9+5,none⟩=some t3∧V.cell? ⟨bs,offs+j*9+6,none⟩=some t4∧V.cell? ⟨bs,offs+j*9+7,none⟩=some t5∧V.cell? ⟨bs,offs+j*9+8,none⟩=some t6) (by kernel_rfl) (HC.out _ (hb.trans (hb1.mono hsr)).drew) (fun hHeld5=>?_);refine tk 0 hHeld5 ?_
       try simp only[pK]
       iterate 4 (refine ts hHeld5 ?_;try simp only[pK])
       refine tk 7 hHeld5 ?_
       try simp only[pK]
       iterate 2 (refine ts hHeld5 ?_;try simp only[pK])
       refine oO 5 fun K hK=>?_;go_simp;refine hK _ _ (HC.out _ hbA) ?_
       try simp only[pK]
       refine oO 6 fun K hK=>?_;refine Lib.wp_append_run _ _ _ _ _ rfl _ _ rfl rfl _ w2 hr2 ?_;refine hK _ _ (HC.out _ HB2) ?_
       try simp only[pK]
       refine oO 10 fun K hK=>?_;refine Lib.wp_append_run _ _ _ _ _ rfl _ _ rfl rfl _ w3 hr3 ?_;refine hK _ _ (HC.out _ HB3) ?_
       try simp only[pK]
       refine tk 11 (HC.out _ HB3) ?_
       try simp only[pK]
       refine (wD ?_) _;go_wp2_with fail
       go_roundw
       case rel=>exact⟨j+1,A3,c3,srtC cmpE (l.take (j+1)),by go_num,by omega,by rw[HLL.out],by rw[HLL.out];exact HO3.out,rfl,fun h=>absurd (HLL.out ▸ h) hlen,HB3⟩
       case measure=>simp[intOf];try omega
  ·have hke:Hid (l.take j=l):=xI (List.take_of_length_le (by have:=HN.out;omega));have HOF:=xI (show out=srtC cmpE l from by rw[HOU.out,hke.out]);clear hO;go_wp2;go_ret;have h1:=HOF.out;subst h1;exact⟨_,_,rfl,HOO.out,hb⟩
end Go.Proofs.YtcjgaohblaidjaaGreatDoor
