/- What the document's test of a node returns for a function: its labels, then its entries. -/
import Derived.Test.YtcjgaohblaidjaaGreatDoorVgZ
import Derived.Test.YtcjgaohblaidjaaGreatDoorVg05
import Derived.Test.YtcjgaohblaidjaaGreatDoorVg17
import Derived.Test.YtcjgaohblaidjaaGreatDoorVg18
set_option maxRecDepth 100000
set_option maxHeartbeats 6400000
namespace Go.Proofs.YtcjgaohblaidjaaGreatDoor
open Go Go.RowKit
theorem zPp (k:Nat) (v:Vl) (cs:List Value) (w:World) (h:VS k w w.heap.size v cs) (hkd:zAj v=9):Calls Tryz.prog 36 #[.agg cs.toArray] w fun e w'=>e=.returned (.bool (nodeV v))∧Below w.heap.size w w':=by
 cases k with
 | zero=>exact h.elim
 | succ k=>
 obtain⟨kind,int,text,kids,keys,ents,labs⟩:=v;have HKD:=xI hkd;clear hkd;obtain⟨uk,uy,ue,ul,rfl,wf1,wf2,wf3,hk,hyy,he,hll⟩:=h;obtain⟨A,cA,rfl,hkl⟩:=hk.form;obtain⟨Y,cY,rfl,hyl⟩:=hyy.form;obtain⟨E,cE,rfl,hel⟩:=he.form;obtain⟨L,cL,rfl,hll'⟩:=hll.form;have HKI:=xI hk;have HKE:=xI hyy;have HEN:=xI he;have HLL:=xI hll;have HLN:=xI (aN wf3 (aN hkl (aN hyl (aN hel hll'))));clear hk hyy he hll wf1 wf2 wf3 hkl hyl hel hll';have HR:Hid (nodeV (.mk kind int text kids keys ents labs)=(zAi labs&&usesB kind int text kids keys ents&&kindB kind int text kids keys ents)):=xI rfl;generalize nodeV (.mk kind int text kids keys ents labs)=y at HR ⊢;obtain⟨W,hW⟩:∃ W,W=w.alloc (.cells #[.int .i64 kind,.int .i64 int,.string ⟨text.toArray⟩,.slice A kids.length cA,.slice Y keys.length cY,.slice E ents.length cE,.slice L labs.length cL] 27):=⟨_,rfl⟩;have hbl:Below w.heap.size w W:=by rw[hW];exact bR.alloc lR _
 have d0:W.cell? ⟨w.heap.size,0,none⟩=some (.int .i64 kind):=by rw[hW];simp
 have d1:W.cell? ⟨w.heap.size,1,none⟩=some (.int .i64 int):=by rw[hW];simp
 have d2:W.cell? ⟨w.heap.size,2,none⟩=some (.string ⟨text.toArray⟩):=by rw[hW];simp
 have d3:W.cell? ⟨w.heap.size,3,none⟩=some (.slice A kids.length cA):=by rw[hW];simp
 have d4:W.cell? ⟨w.heap.size,4,none⟩=some (.slice Y keys.length cY):=by rw[hW];simp
 have d5:W.cell? ⟨w.heap.size,5,none⟩=some (.slice E ents.length cE):=by rw[hW];simp
 have d6:W.cell? ⟨w.heap.size,6,none⟩=some (.slice L labs.length cL):=by rw[hW];simp
 have hlt:w.heap.size<W.heap.size:=by rw[hW];simp
 have HB:=xI hbl;clear hbl;go_enter Tryz.func36,Tryz.ntmps36;go_wp2_with fail;rw[←hW];clear hW;generalize hnl:labs.length=nl at *;have HNL:=xI hnl;clear hnl
 go_loopw [3] (fun i wr=>∃ j:Nat,i=.int .i64 j∧j≤nl∧zAi (labs.take j)=true∧Below W.heap.size W wr) (fun i _=>nl-(intOf i).toNat)
 case atStart=>exact⟨0,rfl,by omega,by simp[zAi,AscC],Below.refl _ _⟩
 case round=>
  obtain⟨j,rfl,hj,hall,hb⟩:=hrel;have HALL:=xI hall;clear hall;have e6:wr.cell? ⟨w.heap.size,6,none⟩=some (.slice L nl cL):=(hb.cell (p:=⟨w.heap.size,6,none⟩) hlt).trans d6;by_cases hjn:j<nl
  ·have hbw:Below w.heap.size w wr:=HB.out.trans (hb.mono HB.out.size);obtain⟨b,off,cap0,x0,hu,hbH,⟨x,hx,hxs,hxl⟩,c0⟩:=(HLL.out.on hbw (fun _ _ h=>h)).at1 (j:=j) (by have:=HNL.out;omega);injection hu with hA hNN hcc;subst hA hcc;clear hNN;simp only[List.cons.injEq,and_true]at hxs;subst hxs;have hvc:=zB0 ⟨x.toArray⟩ wr.drew (by simpa [ByteArray.size] using hxl);rw[show (⟨x.toArray⟩:ByteArray).data.toList=x from rfl]at hvc;have HX:=xI hx;have HV:=xI hb;have HBW:=xI hbw;have kn:(j:Int)<(nl:Int):=by omega
   have k0:(0:Int)≤(j:Int):=by omega
   have HVX:Hid (varB x=varB x):=xI rfl;generalize hvx:varB x=z at hvc;have HVZ:=xI hvx;clear hx hb hbw hvx HVX;cases z
   ·have HU:Hid (y=false):=xI (by rw[HR.out,zCc HX.out (.inl HVZ.out)];rfl);go_wp2_with fail;refine wp_region_held_drew (S:=fun V=>V.cell? ⟨w.heap.size,6,none⟩=some (.slice (some ⟨b,off,none⟩) nl cL)∧V.cell? ⟨b,off+j,none⟩=some (.string ⟨x.toArray⟩)) (by kernel_rfl) ⟨e6,c0⟩ (fun hHeld=>?_);refine tk 0 hHeld ?_
    try simp only[pK]
    refine tk 1 hHeld ?_;(try simp only[pK]);refine tk 2 hHeld ?_;(try simp only[pK]);refine tk 3 hHeld ?_;(try simp only[pK]);refine tk 4 hHeld ?_;(try simp only[pK])
    refine oO 5 fun K hK=>?_;go_simp;refine hvc.mono ?_;rintro e w2 ⟨rfl,hw2⟩;subst hw2;refine hK _ _ hHeld ?_
    try simp only[pK]
    refine tk 6 hHeld ?_
    try simp only[pK]
    refine tk 7 hHeld ?_
    try simp only[pK]
    refine tu 8 hHeld ?_
    try simp only[pK]
    refine tu 9 hHeld ?_
    try simp only[pK]
    refine tu 10 hHeld ?_
    try simp only[pK]
    refine tu 11 hHeld ?_
    try simp only[pK]
    refine tu 12 hHeld ?_
    try simp only[pK]
    refine tu 13 hHeld ?_
    try simp only[pK]
    refine tu 14 hHeld ?_
    try simp only[pK]
    refine tu 15 hHeld ?_
    try simp only[pK]
    refine tu 16 hHeld ?_
    try simp only[pK]
    refine tu 17 hHeld ?_
    try simp only[pK]
    refine tu 18 hHeld ?_
    try simp only[pK]
    refine tu 19 hHeld ?_
    try simp only[pK]
    refine tu 20 hHeld ?_
    try simp only[pK]
    refine tu 21 hHeld ?_
    try simp only[pK]
    refine tu 22 hHeld ?_
    try simp only[pK]
    refine tu 23 hHeld ?_
    try simp only[pK]
    refine tk 24 hHeld ?_
    try simp only[pK]
    refine (wD ?_) _;go_wp2;go_ret;exact⟨zAb HU.out.symm,HBW.out.drew⟩
   ·by_cases hj0:j=0
    ·subst hj0;have HST:=xI (zBu HX.out HALL.out HVZ.out (.inl rfl));have q0:decide ((0:Int)<((0:Nat):Int))=false:=rfl;go_wp2_with fail;refine wp_region_held_drew (S:=fun V=>V.cell? ⟨w.heap.size,6,none⟩=some (.slice (some ⟨b,off,none⟩) nl cL)∧V.cell? ⟨b,off,none⟩=some (.string ⟨x.toArray⟩)) (by kernel_rfl) ⟨e6,by simpa using c0⟩ (fun hHeld=>?_);refine tk 0 hHeld ?_
     try simp only[pK]
     refine tk 1 hHeld ?_;(try simp only[pK]);refine tk 2 hHeld ?_;(try simp only[pK]);refine tk 3 hHeld ?_;(try simp only[pK]);refine tk 4 hHeld ?_;(try simp only[pK])
     refine oO 5 fun K hK=>?_;go_simp;refine hvc.mono ?_;rintro e w2 ⟨rfl,hw2⟩;subst hw2;refine hK _ _ hHeld ?_
     try simp only[pK]
     refine tk 6 hHeld ?_
     try simp only[pK]
     refine tk 7 hHeld ?_;(try simp only[pK]);refine tk 8 hHeld ?_;(try simp only[pK]);refine tk 9 hHeld ?_;(try simp only[pK]);refine tk 10 hHeld ?_;(try simp only[pK])
     refine tu 11 hHeld ?_
     try simp only[pK]
     refine tu 12 hHeld ?_
     try simp only[pK]
     refine tu 13 hHeld ?_
     try simp only[pK]
     refine tu 14 hHeld ?_
     try simp only[pK]
     refine tu 15 hHeld ?_
     try simp only[pK]
     refine tu 16 hHeld ?_
     try simp only[pK]
     refine tu 17 hHeld ?_
     try simp only[pK]
     refine tu 18 hHeld ?_
     try simp only[pK]
     refine tu 19 hHeld ?_
     try simp only[pK]
     refine tu 20 hHeld ?_
     try simp only[pK]
     refine tu 21 hHeld ?_
     try simp only[pK]
     refine tu 22 hHeld ?_
     try simp only[pK]
     refine tk 23 hHeld ?_
     try simp only[pK]
     refine tk 24 hHeld ?_
     try simp only[pK]
     refine (wD ?_) _;go_wp2_with fail
     go_roundw
     case rel=>exact⟨0+1,by go_num,by omega,HST.out,HV.out.drew⟩
     case measure=>simp[intOf];omega
    ·obtain⟨m,hm⟩:∃ m,j=m+1:=⟨j-1,by omega⟩;obtain⟨b',off',cap1,x1,hu,_,⟨p,hp,hps,hpl⟩,c1⟩:=(HLL.out.on HBW.out (fun _ _ h=>h)).at1 (j:=m) (by have:=HNL.out;omega);injection hu with hA hNN hcc;injection hA with hA;injection hA with g1 g2;subst g1 g2;clear hNN hcc;simp only[List.cons.injEq,and_true]at hps;subst hps;have HP:Hid (labs[j-1]?=some p):=xI (by rw[hm,Nat.add_sub_cancel];exact hp);have HJ0:Hid (0<j):=xI (by omega);have q0:decide (0<j)=true:=by rw[decide_eq_true_eq];omega
     have qm:IntKind.i64.wrap ((j:Int)-1)=(m:Int):=by rw[IntWalk.i64_in _ (by have:=HLN.out.2.2.2.2;have:=HNL.out;unfold maxLen at *;omega)];omega
     have km:(m:Int)<(nl:Int):=by omega
     have km0:(0:Int)≤(m:Int):=by omega
     have hlc:=zHe p x;generalize hgz:Op.bytesLess p x=g at hlc;have HGC:=xI hlc;clear hp hm hlc hj0;cases g
     ·have HU:Hid (y=false):=xI (by rw[HR.out,zCc HX.out (.inr ⟨HJ0.out,p,HP.out,by have:=HGC.out;simpa using this.symm⟩)];rfl);go_wp2_with fail;refine wp_region_held_drew (S:=fun V=>V.cell? ⟨w.heap.size,6,none⟩=some (.slice (some ⟨b,off,none⟩) nl cL)∧V.cell? ⟨b,off+j,none⟩=some (.string ⟨x.toArray⟩)∧V.cell? ⟨b,off+m,none⟩=some (.string ⟨p.toArray⟩)) (by kernel_rfl) ⟨e6,c0,c1⟩ (fun hHeld=>?_);refine tk 0 hHeld ?_
      try simp only[pK]
      refine tk 1 hHeld ?_;(try simp only[pK]);refine tk 2 hHeld ?_;(try simp only[pK]);refine tk 3 hHeld ?_;(try simp only[pK]);refine tk 4 hHeld ?_;(try simp only[pK])
      refine oO 5 fun K hK=>?_;go_simp;refine hvc.mono ?_;rintro e w2 ⟨rfl,hw2⟩;subst hw2;refine hK _ _ hHeld ?_
      try simp only[pK]
      refine tk 6 hHeld ?_
      try simp only[pK]
      refine tk 7 hHeld ?_;(try simp only[pK]);refine tk 8 hHeld ?_;(try simp only[pK]);refine tk 9 hHeld ?_;(try simp only[pK]);refine tk 10 hHeld ?_;(try simp only[pK]);refine tk 11 hHeld ?_;(try simp only[pK]);refine tk 12 hHeld ?_;(try simp only[pK]);refine tk 13 hHeld ?_;(try simp only[pK]);refine tk 14 hHeld ?_;(try simp only[pK]);refine tk 15 hHeld ?_;(try simp only[pK]);refine tk 16 hHeld ?_;(try simp only[pK]);refine tk 17 hHeld ?_;(try simp only[pK]);refine tk 18 hHeld ?_;(try simp only[pK]);refine tk 19 hHeld ?_;(try simp only[pK]);refine tk 20 hHeld ?_;(try simp only[pK]);refine tk 21 hHeld ?_;(try simp only[pK]);refine tk 22 hHeld ?_;(try simp only[pK]);refine tk 23 hHeld ?_;(try simp only[pK]);refine tk 24 hHeld ?_;(try simp only[pK])
      refine (wD ?_) _;go_wp2;go_ret;exact⟨zAb HU.out.symm,HBW.out.drew⟩
     ·have HST:=xI (zBu HX.out HALL.out HVZ.out (.inr ⟨p,HP.out,by have:=HGC.out;simpa using this.symm⟩));have qj:IntKind.i64.wrap ((j:Int)+1)=(j:Int)+1:=IntWalk.i64_in _ (by have:=HLN.out.2.2.2.2;have:=HNL.out;unfold maxLen at *;omega);go_wp2_with fail;refine wp_region_held_drew (S:=fun V=>V.cell? ⟨w.heap.size,6,none⟩=some (.slice (some ⟨b,off,none⟩) nl cL)∧V.cell? ⟨b,off+j,none⟩=some (.string ⟨x.toArray⟩)∧V.cell? ⟨b,off+m,none⟩=some (.string ⟨p.toArray⟩)) (by kernel_rfl) ⟨e6,c0,c1⟩ (fun hHeld=>?_);refine tk 0 hHeld ?_
      try simp only[pK]
      refine tk 1 hHeld ?_;(try simp only[pK]);refine tk 2 hHeld ?_;(try simp only[pK]);refine tk 3 hHeld ?_;(try simp only[pK]);refine tk 4 hHeld ?_;(try simp only[pK])
      refine oO 5 fun K hK=>?_;go_simp;refine hvc.mono ?_;rintro e w2 ⟨rfl,hw2⟩;subst hw2;refine hK _ _ hHeld ?_
      try simp only[pK]
      refine tk 6 hHeld ?_
      try simp only[pK]
      refine tk 7 hHeld ?_;(try simp only[pK]);refine tk 8 hHeld ?_;(try simp only[pK]);refine tk 9 hHeld ?_;(try simp only[pK]);refine tk 10 hHeld ?_;(try simp only[pK]);refine tk 11 hHeld ?_;(try simp only[pK]);refine tk 12 hHeld ?_;(try simp only[pK]);refine tk 13 hHeld ?_;(try simp only[pK]);refine tk 14 hHeld ?_;(try simp only[pK]);refine tk 15 hHeld ?_;(try simp only[pK]);refine tk 16 hHeld ?_;(try simp only[pK]);refine tk 17 hHeld ?_;(try simp only[pK]);refine tk 18 hHeld ?_;(try simp only[pK]);refine tk 19 hHeld ?_;(try simp only[pK]);refine tk 20 hHeld ?_;(try simp only[pK]);refine tk 21 hHeld ?_;(try simp only[pK]);refine tk 22 hHeld ?_;(try simp only[pK]);refine tk 23 hHeld ?_;(try simp only[pK]);refine tk 24 hHeld ?_;(try simp only[pK])
      refine (wD ?_) _;go_wp2_with fail
      go_roundw
      case rel=>exact⟨j+1,by go_num,by omega,HST.out,HV.out.drew⟩
      case measure=>simp[intOf];omega
  ·have HLB:Hid (zAi labs=true):=xI (by
    have hke:labs.take j=labs:=List.take_of_length_le (by have:=HNL.out;omega);rw[←hke];exact HALL.out)
   have HBW:=xI (HB.out.trans (hb.mono HB.out.size));have HLTr:=xI (Nat.lt_of_lt_of_le hlt hb.size);have e0:wr.cell? ⟨w.heap.size,0,none⟩=some (.int .i64 kind):=(hb.cell (p:=⟨w.heap.size,0,none⟩) hlt).trans d0;have e1:wr.cell? ⟨w.heap.size,1,none⟩=some (.int .i64 int):=(hb.cell (p:=⟨w.heap.size,1,none⟩) hlt).trans d1;have e2:wr.cell? ⟨w.heap.size,2,none⟩=some (.string ⟨text.toArray⟩):=(hb.cell (p:=⟨w.heap.size,2,none⟩) hlt).trans d2;have e3:wr.cell? ⟨w.heap.size,3,none⟩=some (.slice A kids.length cA):=(hb.cell (p:=⟨w.heap.size,3,none⟩) hlt).trans d3;have e4:wr.cell? ⟨w.heap.size,4,none⟩=some (.slice Y keys.length cY):=(hb.cell (p:=⟨w.heap.size,4,none⟩) hlt).trans d4;have e5:wr.cell? ⟨w.heap.size,5,none⟩=some (.slice E ents.length cE):=(hb.cell (p:=⟨w.heap.size,5,none⟩) hlt).trans d5;clear d0 d1 d2 d3 d4 d5 d6 hb hlt hj HALL;have jf:decide ((j:Int)<(nl:Int))=false:=by simp;omega
   have hk9:kind=9:=HKD.out;clear HKD;subst hk9;have HRK:Hid (y=(usesN 9 int text kids.length keys.length ents.length&&kindB 9 int text kids keys ents)):=xI (by rw[HR.out,HLB.out,zCk];rfl);clear HR;by_cases hc:text=[]
   case neg=>
    have HU:Hid (y=false):=xI (by rw[HRK.out];simp[usesN,hc]);have ft:=hc;clear hc;go_wp2;go_ret;exact⟨zAb HU.out.symm,HBW.out⟩
   have Htext:=xI hc;have ft:=hc;clear hc;by_cases hc:kids.length=0
   case neg=>
    have HU:Hid (y=false):=xI (by rw[HRK.out];simp[usesN,hc]);have fkids:0<kids.length:=by omega
    have gkids:decide ((0:Int)<(kids.length:Int))=true:=by rw[decide_eq_true_eq];omega
    clear hc;go_wp2;go_ret;exact⟨zAb HU.out.symm,HBW.out⟩
   have Hkids:=xI hc;have fkids:¬ 0<kids.length:=by omega
   have gkids:decide ((0:Int)<(kids.length:Int))=false:=by rw[decide_eq_false_iff_not];omega
   clear hc;by_cases hc:keys.length=0
   case neg=>
    have HU:Hid (y=false):=xI (by rw[HRK.out];simp[usesN,hc]);have fkeys:0<keys.length:=by omega
    have gkeys:decide ((0:Int)<(keys.length:Int))=true:=by rw[decide_eq_true_eq];omega
    clear hc;go_wp2;go_ret;exact⟨zAb HU.out.symm,HBW.out⟩
   have Hkeys:=xI hc;have fkeys:¬ 0<keys.length:=by omega
   have gkeys:decide ((0:Int)<(keys.length:Int))=false:=by rw[decide_eq_false_iff_not];omega
   clear hc;have HKY:Hid (y=(decide (0≤int∧int≤4)&&zB9 (entB int) cmpE ents)):=xI (by rw[HRK.out];simp[usesN,kindB,zB9,Htext.out,Hkids.out,Hkeys.out,Bool.and_assoc]);clear HRK;by_cases hi0:int<0
   ·have HU:Hid (y=false):=xI (by rw[HKY.out,decide_eq_false (by omega)];rfl);have fi0:decide (int<0)=true:=by rw[decide_eq_true_eq];exact hi0
    clear hi0;go_wp2;go_ret;exact⟨zAb HU.out.symm,HBW.out⟩
   have fi0:decide (int<0)=false:=by rw[decide_eq_false_iff_not];exact hi0
   by_cases hi4:4<int
   ·have HU:Hid (y=false):=xI (by rw[HKY.out,decide_eq_false (by omega)];rfl);have fi4:decide (4<int)=true:=by rw[decide_eq_true_eq];exact hi4
    clear hi0 hi4;go_wp2;go_ret;exact⟨zAb HU.out.symm,HBW.out⟩
   have fi4:decide (4<int)=false:=by rw[decide_eq_false_iff_not];exact hi4
   replace HKY:Hid (y=zB9 (entB int) cmpE ents):=xI (by rw[HKY.out,decide_eq_true (by omega)];rfl);clear hi0 hi4;generalize hne:ents.length=ne at *;have HNE:=xI hne;clear hne;go_wp2_with fail;clear fi0 fi4 ft fkids gkids fkeys gkeys jf hjn e6;rename World=>X
   go_loopw [8] (fun i w2=>∃ q:Nat,i=.int .i64 q∧q≤ne∧zB9 (entB int) cmpE (ents.take q)=true∧Below X.heap.size X w2) (fun i _=>ne-(intOf i).toNat)
   case atStart=>exact⟨0,rfl,by omega,by simp[zB9,AscC],Below.refl _ _⟩
   case round=>
    obtain⟨q,rfl,hq,hall,hb⟩:=hrel;have HALL:=xI hall;clear hall;have g5:wr.cell? ⟨w.heap.size,5,none⟩=some (.slice E ne cE):=(hb.cell (p:=⟨w.heap.size,5,none⟩) HLTr.out).trans e5;have g1:wr.cell? ⟨w.heap.size,1,none⟩=some (.int .i64 int):=(hb.cell (p:=⟨w.heap.size,1,none⟩) HLTr.out).trans e1;have hbw:Below w.heap.size w wr:=HBW.out.trans (hb.mono HBW.out.size);by_cases hqn:q<ne
    ·obtain⟨b,off,cap0,ya,yb,x0,x1,x2,x3,x4,x5,x6,hu,hbH,⟨args,fails,result,hx,ua,rs,hcs,ha,hr⟩,c0,c1,c2,c3,c4,c5,c6,c7,c8⟩:=(HEN.out.on hbw (fun _ _ h=>h)).at9 (j:=q) (by have:=HNE.out;omega);injection hu with hA hNN hcc;subst hA hcc;clear hNN;simp only[List.cons.injEq]at hcs;obtain⟨rfl,rfl,rfl⟩:=hcs;obtain⟨A2,cap2,rfl,hal⟩:=ha.form;obtain⟨a,i,st,A3,n3,s3,A4,n4,s4,A5,n5,s5,A6,n6,s6,he7⟩:=hr.form7;simp only[List.cons.injEq,and_true]at he7;obtain⟨rfl,rfl,rfl,rfl,rfl,rfl,rfl⟩:=he7;obtain⟨k',rfl⟩:∃ k',k=k'+1:=by
      cases k with
      | zero=>exact hr.elim
      | succ k'=>exact⟨k',rfl⟩
     have kn:(q:Int)<(ne:Int):=by omega
     have k0:(0:Int)≤(q:Int):=by omega
     have HX:=xI hx;have HBU:=xI hbw;have HVW0:=xI hb;have hlt0:w.heap.size<wr.heap.size:=Nat.lt_of_lt_of_le HLTr.out hb.size;have hbb:b<wr.heap.size:=Nat.lt_of_lt_of_le hbH hbw.size;have HAR:=xI (aN ha hr);generalize hla:args.length=la at *;have HLA:=xI hla;have HE1:=xI g1;have HLE:=xI (aN hlt0 hbb);clear hx hbw hb hbH hal hla ha hr e0 e1 e2 e3 e4 e5 g1 hlt0 hbb;go_wp2_with fail;rename World=>U;obtain⟨W2,hW2⟩:∃ W2,W2=U.alloc (.cells #[.slice A2 la cap2,.bool fails,.int .i64 a,.int .i64 i,.string st,.slice A3 n3 s3,.slice A4 n4 s4,.slice A5 n5 s5,.slice A6 n6 s6] 45):=⟨_,rfl⟩;have hbU:Below U.heap.size U W2:=by rw[hW2];exact bR.alloc lR _
     have hzU:W2.heap.size=U.heap.size+1:=by rw[hW2];simp
     have kU:W2.heap[U.heap.size]?=some (.cells #[.slice A2 la cap2,.bool fails,.int .i64 a,.int .i64 i,.string st,.slice A3 n3 s3,.slice A4 n4 s4,.slice A5 n5 s5,.slice A6 n6 s6] 45 (0,0)):=by rw[hW2];exact heap_alloc_new U _
     rw[←hW2];clear hW2;have HBW3:=xI hbU;have HBW2:Hid (Below w.heap.size w W2):=xI (HBU.out.trans (hbU.mono HBU.out.size));have HVW:Hid (Below X.heap.size X W2):=xI (HVW0.out.trans (hbU.mono HVW0.out.size));have HLW0:Hid (b<U.heap.size):=xI HLE.out.2;have HW2:Hid (Below W2.heap.size W2 W2):=xI bR;have HD0:Hid (W2.cell? ⟨w.heap.size,1,none⟩=some (.int .i64 int)∧W2.cell? ⟨w.heap.size,5,none⟩=some (.slice (some ⟨b,off,none⟩) ne cE)):=xI ⟨(hbU.cell (p:=⟨w.heap.size,1,none⟩) HLE.out.1).trans HE1.out,(hbU.cell (p:=⟨w.heap.size,5,none⟩) HLE.out.1).trans g5⟩;have HLW1:Hid (w.heap.size<W2.heap.size∧U.heap.size<W2.heap.size∧b<W2.heap.size):=xI (by have:=HLE.out;omega);have HKU:=xI kU;have HES0:Hid (∀ V,Below W2.heap.size W2 V→ES (k'+1) V V.heap.size (.mk args fails result) [.slice A2 la cap2,.bool fails,.int .i64 a,.int .i64 i,.string st,.slice A3 n3 s3,.slice A4 n4 s4,.slice A5 n5 s5,.slice A6 n6 s6]):=xI fun V hV=>by
      have hb9:=HBW2.out.trans (hV.mono HBW2.out.size);have hs9:=hb9.size;refine⟨args,fails,result,rfl,_,_,rfl,?_,?_⟩
      ·rw[HLA.out];exact (HAR.out.1.on hb9 fun _ _ ⟨x,h1,h2⟩=>⟨x,h1,VS.up hs9 lR (VS.on hb9 h2)⟩).mono hs9 fun _ _ h=>h
      ·exact VS.up hs9 lR (VS.on hb9 HAR.out.2)
     clear hbU kU g5 c0 c1 c2 c3 c4 c5 c6 c7 c8;generalize U.heap.size=bx at *;by_cases hlen:(la:Int)=int
     ·have hlb:((la:Int) != int)=false:=by simpa using hlen
      have HEQ:Hid (entB int (.mk args fails result)=(!fails||isZ result)):=xI (by
       show (decide ((args.length:Int)=int)&&(!fails||isZ result))=_;rw[HLA.out,decide_eq_true hlen,Bool.true_and])
      clear hlen;cases fails
      ·have HEB:Hid (entB int (.mk args false result)=true):=xI (by rw[HEQ.out];rfl);have HD:Hid (W2.cell? ⟨w.heap.size,1,none⟩=some (.int .i64 int)∧W2.cell? ⟨w.heap.size,5,none⟩=some (.slice (some ⟨b,off,none⟩) ne cE)∧W2.heap[bx]?=some (.cells #[.slice A2 la cap2,.bool false,.int .i64 a,.int .i64 i,.string st,.slice A3 n3 s3,.slice A4 n4 s4,.slice A5 n5 s5,.slice A6 n6 s6] 45 (0,0))):=xI ⟨HD0.out.1,HD0.out.2,HKU.out⟩;have HLW:=HLW1;have HES:=HES0;clear HD0 HKU HLW1 HES0;by_cases hj0:q=0
       ·subst hj0;have HST:=xI (zB4 totE (p:=entB int) HX.out HALL.out HEB.out (.inl rfl));have q0:decide ((0:Int)<((0:Nat):Int))=false:=rfl;have HS:Hid (∀ V,Below W2.heap.size W2 V→V.cell? ⟨w.heap.size,1,none⟩=some (.int .i64 int)∧V.cell? ⟨w.heap.size,5,none⟩=some (.slice (some ⟨b,off,none⟩) ne cE)∧V.cell? ⟨bx,0,none⟩=some (.slice A2 la cap2)∧V.cell? ⟨bx,1,none⟩=some (.bool false)∧V.cell? ⟨bx,2,none⟩=some (.int .i64 a)∧V.cell? ⟨bx,3,none⟩=some (.int .i64 i)∧V.cell? ⟨bx,4,none⟩=some (.string st)∧V.cell? ⟨bx,5,none⟩=some (.slice A3 n3 s3)∧V.cell? ⟨bx,6,none⟩=some (.slice A4 n4 s4)∧V.cell? ⟨bx,7,none⟩=some (.slice A5 n5 s5)∧V.cell? ⟨bx,8,none⟩=some (.slice A6 n6 s6)):=xI fun V hV=>by
         have hz:W2.heap.size≤V.heap.size:=hV.size;exact⟨(hV.cell (p:=⟨w.heap.size,1,none⟩) HLW.out.1).trans HD.out.1,(hV.cell (p:=⟨w.heap.size,5,none⟩) HLW.out.1).trans HD.out.2.1,(Lib.cell_of_heap ((hV.block _ HLW.out.2.1).trans HD.out.2.2) 0).trans rfl,(Lib.cell_of_heap ((hV.block _ HLW.out.2.1).trans HD.out.2.2) 1).trans rfl,(Lib.cell_of_heap ((hV.block _ HLW.out.2.1).trans HD.out.2.2) 2).trans rfl,(Lib.cell_of_heap ((hV.block _ HLW.out.2.1).trans HD.out.2.2) 3).trans rfl,(Lib.cell_of_heap ((hV.block _ HLW.out.2.1).trans HD.out.2.2) 4).trans rfl,(Lib.cell_of_heap ((hV.block _ HLW.out.2.1).trans HD.out.2.2) 5).trans rfl,(Lib.cell_of_heap ((hV.block _ HLW.out.2.1).trans HD.out.2.2) 6).trans rfl,(Lib.cell_of_heap ((hV.block _ HLW.out.2.1).trans HD.out.2.2) 7).trans rfl,(Lib.cell_of_heap ((hV.block _ HLW.out.2.1).trans HD.out.2.2) 8).trans rfl⟩
        go_wp2_with fail;refine wp_region_held_drew (S:=fun V=>V.cell? ⟨w.heap.size,1,none⟩=some (.int .i64 int)∧V.cell? ⟨w.heap.size,5,none⟩=some (.slice (some ⟨b,off,none⟩) ne cE)∧V.cell? ⟨bx,0,none⟩=some (.slice A2 la cap2)∧V.cell? ⟨bx,1,none⟩=some (.bool false)∧V.cell? ⟨bx,2,none⟩=some (.int .i64 a)∧V.cell? ⟨bx,3,none⟩=some (.int .i64 i)∧V.cell? ⟨bx,4,none⟩=some (.string st)∧V.cell? ⟨bx,5,none⟩=some (.slice A3 n3 s3)∧V.cell? ⟨bx,6,none⟩=some (.slice A4 n4 s4)∧V.cell? ⟨bx,7,none⟩=some (.slice A5 n5 s5)∧V.cell? ⟨bx,8,none⟩=some (.slice A6 n6 s6)) (by kernel_rfl) (HS.out _ HW2.out.drew) (fun hHeld=>?_);refine tk 0 hHeld ?_
        try simp only[pK]
        refine tk 1 hHeld ?_;(try simp only[pK]);refine tk 2 hHeld ?_;(try simp only[pK]);refine tk 3 hHeld ?_;(try simp only[pK]);refine tk 4 hHeld ?_;(try simp only[pK]);refine tk 5 hHeld ?_;(try simp only[pK]);refine tk 6 hHeld ?_;(try simp only[pK]);refine tk 7 hHeld ?_;(try simp only[pK]);refine tk 8 hHeld ?_;(try simp only[pK]);refine tk 9 hHeld ?_;(try simp only[pK])
        refine tu 10 hHeld ?_
        try simp only[pK]
        refine tu 11 hHeld ?_
        try simp only[pK]
        refine tu 12 hHeld ?_
        try simp only[pK]
        refine zBq 13 (by kernel_rfl) rfl (by rfl) hHeld ?_
        try simp only[pK]
        refine tu 14 hHeld ?_
        try simp only[pK]
        refine tk 15 hHeld ?_
        try simp only[pK]
        refine tk 16 hHeld ?_;(try simp only[pK]);refine tk 17 hHeld ?_;(try simp only[pK]);refine tk 18 hHeld ?_;(try simp only[pK]);refine tk 19 hHeld ?_;(try simp only[pK]);refine tk 20 hHeld ?_;(try simp only[pK])
        refine tu 21 hHeld ?_
        try simp only[pK]
        refine tu 22 hHeld ?_
        try simp only[pK]
        refine tu 23 hHeld ?_
        try simp only[pK]
        refine tu 24 hHeld ?_
        try simp only[pK]
        refine tu 25 hHeld ?_
        try simp only[pK]
        refine tu 26 hHeld ?_
        try simp only[pK]
        refine tu 27 hHeld ?_
        try simp only[pK]
        refine zBq 28 (by kernel_rfl) rfl (by rfl) hHeld ?_
        try simp only[pK]
        refine tu 29 hHeld ?_
        try simp only[pK]
        refine tk 30 hHeld ?_
        try simp only[pK]
        refine tk 31 hHeld ?_
        try simp only[pK]
        refine (wD ?_) _;have HWD:=xI HW2.out.drew;go_wp2_with fail
        go_roundw
        case rel=>exact⟨0+1,by go_num,by omega,HST.out,HVW.out.trans (HWD.out.mono HVW.out.size)⟩
        case measure=>simp[intOf];omega
       ·obtain⟨m,hm⟩:∃ m,q=m+1:=⟨q-1,by omega⟩;obtain⟨b',off',cap1,ya',yb',y0,y1,y2,y3,y4,y5,y6,hu,_,⟨args',gf,result',hp,ua',rs',hcs',ha',hr'⟩,d0,d1,d2,d3,d4,d5,d6,d7,d8⟩:=(HEN.out.on HBU.out (fun _ _ h=>h)).at9 (j:=m) (by have:=HNE.out;omega);injection hu with hA hNN hcc;injection hA with hA;injection hA with g1 g2;subst g1 g2;clear hNN hcc;simp only[List.cons.injEq]at hcs';obtain⟨rfl,rfl,rfl⟩:=hcs';obtain⟨B2,dap2,rfl,_⟩:=ha'.form;obtain⟨a',i',st',B3,m3,d3',B4,m4,d4',B5,m5,d5',B6,m6,d6',he7⟩:=hr'.form7;simp only[List.cons.injEq,and_true]at he7;obtain⟨rfl,rfl,rfl,rfl,rfl,rfl,rfl⟩:=he7;have HP:Hid (ents[q-1]?=some (.mk args' gf result')):=xI (by rw[hm,Nat.add_sub_cancel];exact hp);have HJ0:Hid (0<q):=xI (by omega);have hcm:Hid (∀ V,Below W2.heap.size W2 V→Calls Tryz.prog 51 #[.agg #[.slice B2 args'.length dap2,.bool gf,.int .i64 a',.int .i64 i',.string st',.slice B3 m3 d3',.slice B4 m4 d4',.slice B5 m5 d5',.slice B6 m6 d6'],.agg #[.slice A2 la cap2,.bool false,.int .i64 a,.int .i64 i,.string st,.slice A3 n3 s3,.slice A4 n4 s4,.slice A5 n5 s5,.slice A6 n6 s6]] V fun e w'=>e=.returned (.int .i64 (cmpE (.mk args' gf result') (.mk args false result)))∧Below V.heap.size V w'):=xI fun V hV=>by
         have hb9:=HBW2.out.trans (hV.mono HBW2.out.size);have hs9:=hb9.size;refine zC6 (k'+1) (xI (zCi (k'+1))) _ _ _ _ V ?_ ?_
         ·exact⟨args',gf,result',rfl,_,_,rfl,(ha'.on hb9 fun _ _ ⟨x,h1,h2⟩=>⟨x,h1,VS.up hs9 lR (VS.on hb9 h2)⟩).mono hs9 fun _ _ h=>h,VS.up hs9 lR (VS.on hb9 hr')⟩
         ·exact HES.out V hV
        have q0:decide (0<q)=true:=by rw[decide_eq_true_eq];omega
        have qm:IntKind.i64.wrap ((q:Int)-1)=(m:Int):=by rw[IntWalk.i64_in _ (by have:=HLN.out.2.2.2.1;have:=HNE.out;unfold maxLen at *;omega)];omega
        have km:(m:Int)<(ne:Int):=by omega
        have km0:(0:Int)≤(m:Int):=by omega
        have qj:IntKind.i64.wrap ((q:Int)+1)=(q:Int)+1:=IntWalk.i64_in _ (by have:=HLN.out.2.2.2.1;have:=HNE.out;unfold maxLen at *;omega);generalize args'.length=lb at *;have HD2:Hid (W2.cell? ⟨b,off+m*9,none⟩=some (.slice B2 lb dap2)∧W2.cell? ⟨b,off+m*9+1,none⟩=some (.bool gf)∧W2.cell? ⟨b,off+m*9+2,none⟩=some (.int .i64 a')∧W2.cell? ⟨b,off+m*9+3,none⟩=some (.int .i64 i')∧W2.cell? ⟨b,off+m*9+4,none⟩=some (.string st')∧W2.cell? ⟨b,off+m*9+5,none⟩=some (.slice B3 m3 d3')∧W2.cell? ⟨b,off+m*9+6,none⟩=some (.slice B4 m4 d4')∧W2.cell? ⟨b,off+m*9+7,none⟩=some (.slice B5 m5 d5')∧W2.cell? ⟨b,off+m*9+8,none⟩=some (.slice B6 m6 d6')):=xI (by exact⟨(HBW3.out.cell (p:=⟨b,_,none⟩) HLW0.out).trans d0,(HBW3.out.cell (p:=⟨b,_,none⟩) HLW0.out).trans d1,(HBW3.out.cell (p:=⟨b,_,none⟩) HLW0.out).trans d2,(HBW3.out.cell (p:=⟨b,_,none⟩) HLW0.out).trans d3,(HBW3.out.cell (p:=⟨b,_,none⟩) HLW0.out).trans d4,(HBW3.out.cell (p:=⟨b,_,none⟩) HLW0.out).trans d5,(HBW3.out.cell (p:=⟨b,_,none⟩) HLW0.out).trans d6,(HBW3.out.cell (p:=⟨b,_,none⟩) HLW0.out).trans d7,(HBW3.out.cell (p:=⟨b,_,none⟩) HLW0.out).trans d8⟩);generalize hcz:cmpE (.mk args' gf result') (.mk args false result)=cz at hcm;have HCZ:=xI hcz;clear hcz hp ha' hr' hj0 hm d0 d1 d2 d3 d4 d5 d6 d7 d8;have HS:Hid (∀ V,Below W2.heap.size W2 V→V.cell? ⟨w.heap.size,1,none⟩=some (.int .i64 int)∧V.cell? ⟨w.heap.size,5,none⟩=some (.slice (some ⟨b,off,none⟩) ne cE)∧V.cell? ⟨bx,0,none⟩=some (.slice A2 la cap2)∧V.cell? ⟨bx,1,none⟩=some (.bool false)∧V.cell? ⟨bx,2,none⟩=some (.int .i64 a)∧V.cell? ⟨bx,3,none⟩=some (.int .i64 i)∧V.cell? ⟨bx,4,none⟩=some (.string st)∧V.cell? ⟨bx,5,none⟩=some (.slice A3 n3 s3)∧V.cell? ⟨bx,6,none⟩=some (.slice A4 n4 s4)∧V.cell? ⟨bx,7,none⟩=some (.slice A5 n5 s5)∧V.cell? ⟨bx,8,none⟩=some (.slice A6 n6 s6)∧V.cell? ⟨b,off+m*9,none⟩=some (.slice B2 lb dap2)∧V.cell? ⟨b,off+m*9+1,none⟩=some (.bool gf)∧V.cell? ⟨b,off+m*9+2,none⟩=some (.int .i64 a')∧V.cell? ⟨b,off+m*9+3,none⟩=some (.int .i64 i')∧V.cell? ⟨b,off+m*9+4,none⟩=some (.string st')∧V.cell? ⟨b,off+m*9+5,none⟩=some (.slice B3 m3 d3')∧V.cell? ⟨b,off+m*9+6,none⟩=some (.slice B4 m4 d4')∧V.cell? ⟨b,off+m*9+7,none⟩=some (.slice B5 m5 d5')∧V.cell? ⟨b,off+m*9+8,none⟩=some (.slice B6 m6 d6')):=xI fun V hV=>by
         have hz:W2.heap.size≤V.heap.size:=hV.size;exact⟨(hV.cell (p:=⟨w.heap.size,1,none⟩) HLW.out.1).trans HD.out.1,(hV.cell (p:=⟨w.heap.size,5,none⟩) HLW.out.1).trans HD.out.2.1,(Lib.cell_of_heap ((hV.block _ HLW.out.2.1).trans HD.out.2.2) 0).trans rfl,(Lib.cell_of_heap ((hV.block _ HLW.out.2.1).trans HD.out.2.2) 1).trans rfl,(Lib.cell_of_heap ((hV.block _ HLW.out.2.1).trans HD.out.2.2) 2).trans rfl,(Lib.cell_of_heap ((hV.block _ HLW.out.2.1).trans HD.out.2.2) 3).trans rfl,(Lib.cell_of_heap ((hV.block _ HLW.out.2.1).trans HD.out.2.2) 4).trans rfl,(Lib.cell_of_heap ((hV.block _ HLW.out.2.1).trans HD.out.2.2) 5).trans rfl,(Lib.cell_of_heap ((hV.block _ HLW.out.2.1).trans HD.out.2.2) 6).trans rfl,(Lib.cell_of_heap ((hV.block _ HLW.out.2.1).trans HD.out.2.2) 7).trans rfl,(Lib.cell_of_heap ((hV.block _ HLW.out.2.1).trans HD.out.2.2) 8).trans rfl,(hV.cell (p:=⟨b,_,none⟩) HLW.out.2.2).trans HD2.out.1,(hV.cell (p:=⟨b,_,none⟩) HLW.out.2.2).trans HD2.out.2.1,(hV.cell (p:=⟨b,_,none⟩) HLW.out.2.2).trans HD2.out.2.2.1,(hV.cell (p:=⟨b,_,none⟩) HLW.out.2.2).trans HD2.out.2.2.2.1,(hV.cell (p:=⟨b,_,none⟩) HLW.out.2.2).trans HD2.out.2.2.2.2.1,(hV.cell (p:=⟨b,_,none⟩) HLW.out.2.2).trans HD2.out.2.2.2.2.2.1,(hV.cell (p:=⟨b,_,none⟩) HLW.out.2.2).trans HD2.out.2.2.2.2.2.2.1,(hV.cell (p:=⟨b,_,none⟩) HLW.out.2.2).trans HD2.out.2.2.2.2.2.2.2.1,(hV.cell (p:=⟨b,_,none⟩) HLW.out.2.2).trans HD2.out.2.2.2.2.2.2.2.2⟩
        by_cases hcg:cz<0
        ·have qg:decide ((0:Int)≤cz)=false:=by rw[decide_eq_false_iff_not];omega
         have HST:=xI (zB4 totE (p:=entB int) HX.out HALL.out HEB.out (.inr ⟨_,HP.out,by rw[HCZ.out];exact hcg⟩));clear hcg;go_wp2_with fail;refine wp_region_held_drew (S:=fun V=>V.cell? ⟨w.heap.size,1,none⟩=some (.int .i64 int)∧V.cell? ⟨w.heap.size,5,none⟩=some (.slice (some ⟨b,off,none⟩) ne cE)∧V.cell? ⟨bx,0,none⟩=some (.slice A2 la cap2)∧V.cell? ⟨bx,1,none⟩=some (.bool false)∧V.cell? ⟨bx,2,none⟩=some (.int .i64 a)∧V.cell? ⟨bx,3,none⟩=some (.int .i64 i)∧V.cell? ⟨bx,4,none⟩=some (.string st)∧V.cell? ⟨bx,5,none⟩=some (.slice A3 n3 s3)∧V.cell? ⟨bx,6,none⟩=some (.slice A4 n4 s4)∧V.cell? ⟨bx,7,none⟩=some (.slice A5 n5 s5)∧V.cell? ⟨bx,8,none⟩=some (.slice A6 n6 s6)∧V.cell? ⟨b,off+m*9,none⟩=some (.slice B2 lb dap2)∧V.cell? ⟨b,off+m*9+1,none⟩=some (.bool gf)∧V.cell? ⟨b,off+m*9+2,none⟩=some (.int .i64 a')∧V.cell? ⟨b,off+m*9+3,none⟩=some (.int .i64 i')∧V.cell? ⟨b,off+m*9+4,none⟩=some (.string st')∧V.cell? ⟨b,off+m*9+5,none⟩=some (.slice B3 m3 d3')∧V.cell? ⟨b,off+m*9+6,none⟩=some (.slice B4 m4 d4')∧V.cell? ⟨b,off+m*9+7,none⟩=some (.slice B5 m5 d5')∧V.cell? ⟨b,off+m*9+8,none⟩=some (.slice B6 m6 d6')) (by kernel_rfl) (HS.out _ HW2.out.drew) (fun hHeld=>?_);refine tk 0 hHeld ?_
         try simp only[pK]
         refine tk 1 hHeld ?_;(try simp only[pK]);refine tk 2 hHeld ?_;(try simp only[pK]);refine tk 3 hHeld ?_;(try simp only[pK]);refine tk 4 hHeld ?_;(try simp only[pK]);refine tk 5 hHeld ?_;(try simp only[pK]);refine tk 6 hHeld ?_;(try simp only[pK]);refine tk 7 hHeld ?_;(try simp only[pK]);refine tk 8 hHeld ?_;(try simp only[pK]);refine tk 9 hHeld ?_;(try simp only[pK])
         refine tu 10 hHeld ?_
         try simp only[pK]
         refine tu 11 hHeld ?_
         try simp only[pK]
         refine tu 12 hHeld ?_
         try simp only[pK]
         refine zBq 13 (by kernel_rfl) rfl (by rfl) hHeld ?_
         try simp only[pK]
         refine tu 14 hHeld ?_
         try simp only[pK]
         refine tk 15 hHeld ?_
         try simp only[pK]
         refine tk 16 hHeld ?_;(try simp only[pK]);refine tk 17 hHeld ?_;(try simp only[pK]);refine tk 18 hHeld ?_;(try simp only[pK]);refine tk 19 hHeld ?_;(try simp only[pK]);refine tk 20 hHeld ?_;(try simp only[pK]);refine tk 21 hHeld ?_;(try simp only[pK]);refine tk 22 hHeld ?_;(try simp only[pK]);refine tk 23 hHeld ?_;(try simp only[pK]);refine tk 24 hHeld ?_;(try simp only[pK]);refine tk 25 hHeld ?_;(try simp only[pK]);refine tk 26 hHeld ?_;(try simp only[pK]);refine tk 27 hHeld ?_;(try simp only[pK])
         refine oO 28 fun K hK=>?_;go_simp;refine (hcm.out _ HW2.out.drew).mono ?_;rintro e w3 ⟨rfl,hb3⟩;have HB3:=xI (HW2.out.drew.trans (hb3.mono HW2.out.drew.size));have hS3:=HS.out w3 HB3.out;refine hK _ _ hS3 ?_
         try simp only[pK]
         refine tk 29 hS3 ?_
         try simp only[pK]
         refine tk 30 hS3 ?_;(try simp only[pK]);refine tk 31 hS3 ?_;(try simp only[pK])
         refine (wD ?_) _;go_wp2_with fail
         go_roundw
         case rel=>exact⟨q+1,by go_num,by omega,HST.out,HVW.out.trans (HB3.out.mono HVW.out.size)⟩
         case measure=>simp[intOf];omega
        ·have qg:decide ((0:Int)≤cz)=true:=by rw[decide_eq_true_eq];omega
         have HU:Hid (y=false):=xI (by rw[HKY.out,zCt (p:=entB int) (c:=cmpE) HX.out (.inr ⟨HJ0.out,_,HP.out,by rw[HCZ.out];exact hcg⟩)]);clear hcg;go_wp2_with fail;refine wp_region_held_drew (S:=fun V=>V.cell? ⟨w.heap.size,1,none⟩=some (.int .i64 int)∧V.cell? ⟨w.heap.size,5,none⟩=some (.slice (some ⟨b,off,none⟩) ne cE)∧V.cell? ⟨bx,0,none⟩=some (.slice A2 la cap2)∧V.cell? ⟨bx,1,none⟩=some (.bool false)∧V.cell? ⟨bx,2,none⟩=some (.int .i64 a)∧V.cell? ⟨bx,3,none⟩=some (.int .i64 i)∧V.cell? ⟨bx,4,none⟩=some (.string st)∧V.cell? ⟨bx,5,none⟩=some (.slice A3 n3 s3)∧V.cell? ⟨bx,6,none⟩=some (.slice A4 n4 s4)∧V.cell? ⟨bx,7,none⟩=some (.slice A5 n5 s5)∧V.cell? ⟨bx,8,none⟩=some (.slice A6 n6 s6)∧V.cell? ⟨b,off+m*9,none⟩=some (.slice B2 lb dap2)∧V.cell? ⟨b,off+m*9+1,none⟩=some (.bool gf)∧V.cell? ⟨b,off+m*9+2,none⟩=some (.int .i64 a')∧V.cell? ⟨b,off+m*9+3,none⟩=some (.int .i64 i')∧V.cell? ⟨b,off+m*9+4,none⟩=some (.string st')∧V.cell? ⟨b,off+m*9+5,none⟩=some (.slice B3 m3 d3')∧V.cell? ⟨b,off+m*9+6,none⟩=some (.slice B4 m4 d4')∧V.cell? ⟨b,off+m*9+7,none⟩=some (.slice B5 m5 d5')∧V.cell? ⟨b,off+m*9+8,none⟩=some (.slice B6 m6 d6')) (by kernel_rfl) (HS.out _ HW2.out.drew) (fun hHeld=>?_);refine tk 0 hHeld ?_
         try simp only[pK]
         refine tk 1 hHeld ?_;(try simp only[pK]);refine tk 2 hHeld ?_;(try simp only[pK]);refine tk 3 hHeld ?_;(try simp only[pK]);refine tk 4 hHeld ?_;(try simp only[pK]);refine tk 5 hHeld ?_;(try simp only[pK]);refine tk 6 hHeld ?_;(try simp only[pK]);refine tk 7 hHeld ?_;(try simp only[pK]);refine tk 8 hHeld ?_;(try simp only[pK]);refine tk 9 hHeld ?_;(try simp only[pK])
         refine tu 10 hHeld ?_
         try simp only[pK]
         refine tu 11 hHeld ?_
         try simp only[pK]
         refine tu 12 hHeld ?_
         try simp only[pK]
         refine zBq 13 (by kernel_rfl) rfl (by rfl) hHeld ?_
         try simp only[pK]
         refine tu 14 hHeld ?_
         try simp only[pK]
         refine tk 15 hHeld ?_
         try simp only[pK]
         refine tk 16 hHeld ?_;(try simp only[pK]);refine tk 17 hHeld ?_;(try simp only[pK]);refine tk 18 hHeld ?_;(try simp only[pK]);refine tk 19 hHeld ?_;(try simp only[pK]);refine tk 20 hHeld ?_;(try simp only[pK]);refine tk 21 hHeld ?_;(try simp only[pK]);refine tk 22 hHeld ?_;(try simp only[pK]);refine tk 23 hHeld ?_;(try simp only[pK]);refine tk 24 hHeld ?_;(try simp only[pK]);refine tk 25 hHeld ?_;(try simp only[pK]);refine tk 26 hHeld ?_;(try simp only[pK]);refine tk 27 hHeld ?_;(try simp only[pK])
         refine oO 28 fun K hK=>?_;go_simp;refine (hcm.out _ HW2.out.drew).mono ?_;rintro e w3 ⟨rfl,hb3⟩;have HB3:=xI (HW2.out.drew.trans (hb3.mono HW2.out.drew.size));have hS3:=HS.out w3 HB3.out;refine hK _ _ hS3 ?_
         try simp only[pK]
         refine tk 29 hS3 ?_
         try simp only[pK]
         refine tk 30 hS3 ?_;(try simp only[pK]);refine tk 31 hS3 ?_;(try simp only[pK])
         refine (wD ?_) _;go_wp2;go_ret;exact⟨zAb HU.out.symm,HBW.out.trans ((HVW.out.trans (HB3.out.mono HVW.out.size)).mono HBW.out.size)⟩
      ·have heq:Hid (∀ V,Below W2.heap.size W2 V→Calls Tryz.prog 13 #[.agg #[.int .i64 a,.int .i64 i,.string st,.slice A3 n3 s3,.slice A4 n4 s4,.slice A5 n5 s5,.slice A6 n6 s6],.agg #[.int .i64 0,.int .i64 0,.string ⟨#[]⟩,.slice none 0 0,.slice none 0 0,.slice none 0 0,.slice none 0 0]] V fun e w'=>e=.returned (.bool (isZ result))∧Below V.heap.size V w'):=xI fun V hV=>by
        have hb9:=HBW2.out.trans (hV.mono HBW2.out.size);exact zF3 (k'+1) result zeroV _ _ V (VS.up hb9.size lR (VS.on hb9 HAR.out.2)) (zLo k' V _)
       generalize hz:isZ result=zr at heq HEQ;clear hz;have HD:Hid (W2.cell? ⟨w.heap.size,1,none⟩=some (.int .i64 int)∧W2.cell? ⟨w.heap.size,5,none⟩=some (.slice (some ⟨b,off,none⟩) ne cE)∧W2.heap[bx]?=some (.cells #[.slice A2 la cap2,.bool true,.int .i64 a,.int .i64 i,.string st,.slice A3 n3 s3,.slice A4 n4 s4,.slice A5 n5 s5,.slice A6 n6 s6] 45 (0,0))):=xI ⟨HD0.out.1,HD0.out.2,HKU.out⟩;have HLW:=HLW1;have HES:=HES0;clear HD0 HKU HLW1 HES0;cases zr
       ·have HU:Hid (y=false):=xI (by rw[HKY.out,zCt (p:=entB int) (c:=cmpE) HX.out (.inl (by rw[HEQ.out];rfl))]);have HS:Hid (∀ V,Below W2.heap.size W2 V→V.cell? ⟨w.heap.size,1,none⟩=some (.int .i64 int)∧V.cell? ⟨w.heap.size,5,none⟩=some (.slice (some ⟨b,off,none⟩) ne cE)∧V.cell? ⟨bx,0,none⟩=some (.slice A2 la cap2)∧V.cell? ⟨bx,1,none⟩=some (.bool true)∧V.cell? ⟨bx,2,none⟩=some (.int .i64 a)∧V.cell? ⟨bx,3,none⟩=some (.int .i64 i)∧V.cell? ⟨bx,4,none⟩=some (.string st)∧V.cell? ⟨bx,5,none⟩=some (.slice A3 n3 s3)∧V.cell? ⟨bx,6,none⟩=some (.slice A4 n4 s4)∧V.cell? ⟨bx,7,none⟩=some (.slice A5 n5 s5)∧V.cell? ⟨bx,8,none⟩=some (.slice A6 n6 s6)):=xI fun V hV=>by
         have hz:W2.heap.size≤V.heap.size:=hV.size;exact⟨(hV.cell (p:=⟨w.heap.size,1,none⟩) HLW.out.1).trans HD.out.1,(hV.cell (p:=⟨w.heap.size,5,none⟩) HLW.out.1).trans HD.out.2.1,(Lib.cell_of_heap ((hV.block _ HLW.out.2.1).trans HD.out.2.2) 0).trans rfl,(Lib.cell_of_heap ((hV.block _ HLW.out.2.1).trans HD.out.2.2) 1).trans rfl,(Lib.cell_of_heap ((hV.block _ HLW.out.2.1).trans HD.out.2.2) 2).trans rfl,(Lib.cell_of_heap ((hV.block _ HLW.out.2.1).trans HD.out.2.2) 3).trans rfl,(Lib.cell_of_heap ((hV.block _ HLW.out.2.1).trans HD.out.2.2) 4).trans rfl,(Lib.cell_of_heap ((hV.block _ HLW.out.2.1).trans HD.out.2.2) 5).trans rfl,(Lib.cell_of_heap ((hV.block _ HLW.out.2.1).trans HD.out.2.2) 6).trans rfl,(Lib.cell_of_heap ((hV.block _ HLW.out.2.1).trans HD.out.2.2) 7).trans rfl,(Lib.cell_of_heap ((hV.block _ HLW.out.2.1).trans HD.out.2.2) 8).trans rfl⟩
        go_wp2_with fail;refine wp_region_held_drew (S:=fun V=>V.cell? ⟨w.heap.size,1,none⟩=some (.int .i64 int)∧V.cell? ⟨w.heap.size,5,none⟩=some (.slice (some ⟨b,off,none⟩) ne cE)∧V.cell? ⟨bx,0,none⟩=some (.slice A2 la cap2)∧V.cell? ⟨bx,1,none⟩=some (.bool true)∧V.cell? ⟨bx,2,none⟩=some (.int .i64 a)∧V.cell? ⟨bx,3,none⟩=some (.int .i64 i)∧V.cell? ⟨bx,4,none⟩=some (.string st)∧V.cell? ⟨bx,5,none⟩=some (.slice A3 n3 s3)∧V.cell? ⟨bx,6,none⟩=some (.slice A4 n4 s4)∧V.cell? ⟨bx,7,none⟩=some (.slice A5 n5 s5)∧V.cell? ⟨bx,8,none⟩=some (.slice A6 n6 s6)) (by kernel_rfl) (HS.out _ HW2.out.drew) (fun hHeld=>?_);refine tk 0 hHeld ?_
        try simp only[pK]
        refine tk 1 hHeld ?_;(try simp only[pK]);refine tk 2 hHeld ?_;(try simp only[pK]);refine tk 3 hHeld ?_;(try simp only[pK]);refine tk 4 hHeld ?_;(try simp only[pK]);refine tk 5 hHeld ?_;(try simp only[pK]);refine tk 6 hHeld ?_;(try simp only[pK]);refine tk 7 hHeld ?_;(try simp only[pK]);refine tk 8 hHeld ?_;(try simp only[pK]);refine tk 9 hHeld ?_;(try simp only[pK]);refine tk 10 hHeld ?_;(try simp only[pK]);refine tk 11 hHeld ?_;(try simp only[pK]);refine tk 12 hHeld ?_;(try simp only[pK])
        refine oO 13 fun K hK=>?_;go_simp;refine (heq.out _ HW2.out.drew).mono ?_;rintro e w2 ⟨rfl,hb2⟩;have HB2:=xI (HW2.out.drew.trans (hb2.mono HW2.out.drew.size));have hS2:=HS.out w2 HB2.out;refine hK _ _ hS2 ?_
        try simp only[pK]
        refine tk 14 hS2 ?_
        try simp only[pK]
        refine tk 15 hS2 ?_;(try simp only[pK]);refine tk 16 hS2 ?_;(try simp only[pK]);refine tk 17 hS2 ?_;(try simp only[pK])
        refine tu 18 hS2 ?_
        try simp only[pK]
        refine tu 19 hS2 ?_
        try simp only[pK]
        refine tu 20 hS2 ?_
        try simp only[pK]
        refine tu 21 hS2 ?_
        try simp only[pK]
        refine tu 22 hS2 ?_
        try simp only[pK]
        refine tu 23 hS2 ?_
        try simp only[pK]
        refine tu 24 hS2 ?_
        try simp only[pK]
        refine tu 25 hS2 ?_
        try simp only[pK]
        refine tu 26 hS2 ?_
        try simp only[pK]
        refine tu 27 hS2 ?_
        try simp only[pK]
        refine zBq 28 (by kernel_rfl) rfl (by rfl) hS2 ?_
        try simp only[pK]
        refine tu 29 hS2 ?_
        try simp only[pK]
        refine tu 30 hS2 ?_
        try simp only[pK]
        refine tk 31 hS2 ?_
        try simp only[pK]
        refine (wD ?_) _;go_wp2;go_ret;exact⟨zAb HU.out.symm,HBW.out.trans ((HVW.out.trans (HB2.out.mono HVW.out.size)).mono HBW.out.size)⟩
       ·have HEB:Hid (entB int (.mk args true result)=true):=xI (by rw[HEQ.out];rfl);by_cases hj0:q=0
        ·subst hj0;have HST:=xI (zB4 totE (p:=entB int) HX.out HALL.out HEB.out (.inl rfl));have q0:decide ((0:Int)<((0:Nat):Int))=false:=rfl;have HS:Hid (∀ V,Below W2.heap.size W2 V→V.cell? ⟨w.heap.size,1,none⟩=some (.int .i64 int)∧V.cell? ⟨w.heap.size,5,none⟩=some (.slice (some ⟨b,off,none⟩) ne cE)∧V.cell? ⟨bx,0,none⟩=some (.slice A2 la cap2)∧V.cell? ⟨bx,1,none⟩=some (.bool true)∧V.cell? ⟨bx,2,none⟩=some (.int .i64 a)∧V.cell? ⟨bx,3,none⟩=some (.int .i64 i)∧V.cell? ⟨bx,4,none⟩=some (.string st)∧V.cell? ⟨bx,5,none⟩=some (.slice A3 n3 s3)∧V.cell? ⟨bx,6,none⟩=some (.slice A4 n4 s4)∧V.cell? ⟨bx,7,none⟩=some (.slice A5 n5 s5)∧V.cell? ⟨bx,8,none⟩=some (.slice A6 n6 s6)):=xI fun V hV=>by
          have hz:W2.heap.size≤V.heap.size:=hV.size;exact⟨(hV.cell (p:=⟨w.heap.size,1,none⟩) HLW.out.1).trans HD.out.1,(hV.cell (p:=⟨w.heap.size,5,none⟩) HLW.out.1).trans HD.out.2.1,(Lib.cell_of_heap ((hV.block _ HLW.out.2.1).trans HD.out.2.2) 0).trans rfl,(Lib.cell_of_heap ((hV.block _ HLW.out.2.1).trans HD.out.2.2) 1).trans rfl,(Lib.cell_of_heap ((hV.block _ HLW.out.2.1).trans HD.out.2.2) 2).trans rfl,(Lib.cell_of_heap ((hV.block _ HLW.out.2.1).trans HD.out.2.2) 3).trans rfl,(Lib.cell_of_heap ((hV.block _ HLW.out.2.1).trans HD.out.2.2) 4).trans rfl,(Lib.cell_of_heap ((hV.block _ HLW.out.2.1).trans HD.out.2.2) 5).trans rfl,(Lib.cell_of_heap ((hV.block _ HLW.out.2.1).trans HD.out.2.2) 6).trans rfl,(Lib.cell_of_heap ((hV.block _ HLW.out.2.1).trans HD.out.2.2) 7).trans rfl,(Lib.cell_of_heap ((hV.block _ HLW.out.2.1).trans HD.out.2.2) 8).trans rfl⟩
         go_wp2_with fail;refine wp_region_held_drew (S:=fun V=>V.cell? ⟨w.heap.size,1,none⟩=some (.int .i64 int)∧V.cell? ⟨w.heap.size,5,none⟩=some (.slice (some ⟨b,off,none⟩) ne cE)∧V.cell? ⟨bx,0,none⟩=some (.slice A2 la cap2)∧V.cell? ⟨bx,1,none⟩=some (.bool true)∧V.cell? ⟨bx,2,none⟩=some (.int .i64 a)∧V.cell? ⟨bx,3,none⟩=some (.int .i64 i)∧V.cell? ⟨bx,4,none⟩=some (.string st)∧V.cell? ⟨bx,5,none⟩=some (.slice A3 n3 s3)∧V.cell? ⟨bx,6,none⟩=some (.slice A4 n4 s4)∧V.cell? ⟨bx,7,none⟩=some (.slice A5 n5 s5)∧V.cell? ⟨bx,8,none⟩=some (.slice A6 n6 s6)) (by kernel_rfl) (HS.out _ HW2.out.drew) (fun hHeld=>?_);refine tk 0 hHeld ?_
         try simp only[pK]
         refine tk 1 hHeld ?_;(try simp only[pK]);refine tk 2 hHeld ?_;(try simp only[pK]);refine tk 3 hHeld ?_;(try simp only[pK]);refine tk 4 hHeld ?_;(try simp only[pK]);refine tk 5 hHeld ?_;(try simp only[pK]);refine tk 6 hHeld ?_;(try simp only[pK]);refine tk 7 hHeld ?_;(try simp only[pK]);refine tk 8 hHeld ?_;(try simp only[pK]);refine tk 9 hHeld ?_;(try simp only[pK]);refine tk 10 hHeld ?_;(try simp only[pK]);refine tk 11 hHeld ?_;(try simp only[pK]);refine tk 12 hHeld ?_;(try simp only[pK])
         refine oO 13 fun K hK=>?_;go_simp;refine (heq.out _ HW2.out.drew).mono ?_;rintro e w2 ⟨rfl,hb2⟩;have HB2:=xI (HW2.out.drew.trans (hb2.mono HW2.out.drew.size));have hS2:=HS.out w2 HB2.out;refine hK _ _ hS2 ?_
         try simp only[pK]
         refine tk 14 hS2 ?_
         try simp only[pK]
         refine tk 15 hS2 ?_;(try simp only[pK]);refine tk 16 hS2 ?_;(try simp only[pK]);refine tk 17 hS2 ?_;(try simp only[pK]);refine tk 18 hS2 ?_;(try simp only[pK]);refine tk 19 hS2 ?_;(try simp only[pK]);refine tk 20 hS2 ?_;(try simp only[pK])
         refine tu 21 hS2 ?_
         try simp only[pK]
         refine tu 22 hS2 ?_
         try simp only[pK]
         refine tu 23 hS2 ?_
         try simp only[pK]
         refine tu 24 hS2 ?_
         try simp only[pK]
         refine tu 25 hS2 ?_
         try simp only[pK]
         refine tu 26 hS2 ?_
         try simp only[pK]
         refine tu 27 hS2 ?_
         try simp only[pK]
         refine zBq 28 (by kernel_rfl) rfl (by rfl) hS2 ?_
         try simp only[pK]
         refine tu 29 hS2 ?_
         try simp only[pK]
         refine tk 30 hS2 ?_
         try simp only[pK]
         refine tk 31 hS2 ?_
         try simp only[pK]
         refine (wD ?_) _;go_wp2_with fail
         go_roundw
         case rel=>exact⟨0+1,by go_num,by omega,HST.out,HVW.out.trans (HB2.out.mono HVW.out.size)⟩
         case measure=>simp[intOf];omega
        ·obtain⟨m,hm⟩:∃ m,q=m+1:=⟨q-1,by omega⟩;obtain⟨b',off',cap1,ya',yb',y0,y1,y2,y3,y4,y5,y6,hu,_,⟨args',gf,result',hp,ua',rs',hcs',ha',hr'⟩,d0,d1,d2,d3,d4,d5,d6,d7,d8⟩:=(HEN.out.on HBU.out (fun _ _ h=>h)).at9 (j:=m) (by have:=HNE.out;omega);injection hu with hA hNN hcc;injection hA with hA;injection hA with g1 g2;subst g1 g2;clear hNN hcc;simp only[List.cons.injEq]at hcs';obtain⟨rfl,rfl,rfl⟩:=hcs';obtain⟨B2,dap2,rfl,_⟩:=ha'.form;obtain⟨a',i',st',B3,m3,d3',B4,m4,d4',B5,m5,d5',B6,m6,d6',he7⟩:=hr'.form7;simp only[List.cons.injEq,and_true]at he7;obtain⟨rfl,rfl,rfl,rfl,rfl,rfl,rfl⟩:=he7;have HP:Hid (ents[q-1]?=some (.mk args' gf result')):=xI (by rw[hm,Nat.add_sub_cancel];exact hp);have HJ0:Hid (0<q):=xI (by omega);have hcm:Hid (∀ V,Below W2.heap.size W2 V→Calls Tryz.prog 51 #[.agg #[.slice B2 args'.length dap2,.bool gf,.int .i64 a',.int .i64 i',.string st',.slice B3 m3 d3',.slice B4 m4 d4',.slice B5 m5 d5',.slice B6 m6 d6'],.agg #[.slice A2 la cap2,.bool true,.int .i64 a,.int .i64 i,.string st,.slice A3 n3 s3,.slice A4 n4 s4,.slice A5 n5 s5,.slice A6 n6 s6]] V fun e w'=>e=.returned (.int .i64 (cmpE (.mk args' gf result') (.mk args true result)))∧Below V.heap.size V w'):=xI fun V hV=>by
          have hb9:=HBW2.out.trans (hV.mono HBW2.out.size);have hs9:=hb9.size;refine zC6 (k'+1) (xI (zCi (k'+1))) _ _ _ _ V ?_ ?_
          ·exact⟨args',gf,result',rfl,_,_,rfl,(ha'.on hb9 fun _ _ ⟨x,h1,h2⟩=>⟨x,h1,VS.up hs9 lR (VS.on hb9 h2)⟩).mono hs9 fun _ _ h=>h,VS.up hs9 lR (VS.on hb9 hr')⟩
          ·exact HES.out V hV
         have q0:decide (0<q)=true:=by rw[decide_eq_true_eq];omega
         have qm:IntKind.i64.wrap ((q:Int)-1)=(m:Int):=by rw[IntWalk.i64_in _ (by have:=HLN.out.2.2.2.1;have:=HNE.out;unfold maxLen at *;omega)];omega
         have km:(m:Int)<(ne:Int):=by omega
         have km0:(0:Int)≤(m:Int):=by omega
         have qj:IntKind.i64.wrap ((q:Int)+1)=(q:Int)+1:=IntWalk.i64_in _ (by have:=HLN.out.2.2.2.1;have:=HNE.out;unfold maxLen at *;omega);generalize args'.length=lb at *;have HD2:Hid (W2.cell? ⟨b,off+m*9,none⟩=some (.slice B2 lb dap2)∧W2.cell? ⟨b,off+m*9+1,none⟩=some (.bool gf)∧W2.cell? ⟨b,off+m*9+2,none⟩=some (.int .i64 a')∧W2.cell? ⟨b,off+m*9+3,none⟩=some (.int .i64 i')∧W2.cell? ⟨b,off+m*9+4,none⟩=some (.string st')∧W2.cell? ⟨b,off+m*9+5,none⟩=some (.slice B3 m3 d3')∧W2.cell? ⟨b,off+m*9+6,none⟩=some (.slice B4 m4 d4')∧W2.cell? ⟨b,off+m*9+7,none⟩=some (.slice B5 m5 d5')∧W2.cell? ⟨b,off+m*9+8,none⟩=some (.slice B6 m6 d6')):=xI (by exact⟨(HBW3.out.cell (p:=⟨b,_,none⟩) HLW0.out).trans d0,(HBW3.out.cell (p:=⟨b,_,none⟩) HLW0.out).trans d1,(HBW3.out.cell (p:=⟨b,_,none⟩) HLW0.out).trans d2,(HBW3.out.cell (p:=⟨b,_,none⟩) HLW0.out).trans d3,(HBW3.out.cell (p:=⟨b,_,none⟩) HLW0.out).trans d4,(HBW3.out.cell (p:=⟨b,_,none⟩) HLW0.out).trans d5,(HBW3.out.cell (p:=⟨b,_,none⟩) HLW0.out).trans d6,(HBW3.out.cell (p:=⟨b,_,none⟩) HLW0.out).trans d7,(HBW3.out.cell (p:=⟨b,_,none⟩) HLW0.out).trans d8⟩);generalize hcz:cmpE (.mk args' gf result') (.mk args true result)=cz at hcm;have HCZ:=xI hcz;clear hcz hp ha' hr' hj0 hm d0 d1 d2 d3 d4 d5 d6 d7 d8;have HS:Hid (∀ V,Below W2.heap.size W2 V→V.cell? ⟨w.heap.size,1,none⟩=some (.int .i64 int)∧V.cell? ⟨w.heap.size,5,none⟩=some (.slice (some ⟨b,off,none⟩) ne cE)∧V.cell? ⟨bx,0,none⟩=some (.slice A2 la cap2)∧V.cell? ⟨bx,1,none⟩=some (.bool true)∧V.cell? ⟨bx,2,none⟩=some (.int .i64 a)∧V.cell? ⟨bx,3,none⟩=some (.int .i64 i)∧V.cell? ⟨bx,4,none⟩=some (.string st)∧V.cell? ⟨bx,5,none⟩=some (.slice A3 n3 s3)∧V.cell? ⟨bx,6,none⟩=some (.slice A4 n4 s4)∧V.cell? ⟨bx,7,none⟩=some (.slice A5 n5 s5)∧V.cell? ⟨bx,8,none⟩=some (.slice A6 n6 s6)∧V.cell? ⟨b,off+m*9,none⟩=some (.slice B2 lb dap2)∧V.cell? ⟨b,off+m*9+1,none⟩=some (.bool gf)∧V.cell? ⟨b,off+m*9+2,none⟩=some (.int .i64 a')∧V.cell? ⟨b,off+m*9+3,none⟩=some (.int .i64 i')∧V.cell? ⟨b,off+m*9+4,none⟩=some (.string st')∧V.cell? ⟨b,off+m*9+5,none⟩=some (.slice B3 m3 d3')∧V.cell? ⟨b,off+m*9+6,none⟩=some (.slice B4 m4 d4')∧V.cell? ⟨b,off+m*9+7,none⟩=some (.slice B5 m5 d5')∧V.cell? ⟨b,off+m*9+8,none⟩=some (.slice B6 m6 d6')):=xI fun V hV=>by
          have hz:W2.heap.size≤V.heap.size:=hV.size;exact⟨(hV.cell (p:=⟨w.heap.size,1,none⟩) HLW.out.1).trans HD.out.1,(hV.cell (p:=⟨w.heap.size,5,none⟩) HLW.out.1).trans HD.out.2.1,(Lib.cell_of_heap ((hV.block _ HLW.out.2.1).trans HD.out.2.2) 0).trans rfl,(Lib.cell_of_heap ((hV.block _ HLW.out.2.1).trans HD.out.2.2) 1).trans rfl,(Lib.cell_of_heap ((hV.block _ HLW.out.2.1).trans HD.out.2.2) 2).trans rfl,(Lib.cell_of_heap ((hV.block _ HLW.out.2.1).trans HD.out.2.2) 3).trans rfl,(Lib.cell_of_heap ((hV.block _ HLW.out.2.1).trans HD.out.2.2) 4).trans rfl,(Lib.cell_of_heap ((hV.block _ HLW.out.2.1).trans HD.out.2.2) 5).trans rfl,(Lib.cell_of_heap ((hV.block _ HLW.out.2.1).trans HD.out.2.2) 6).trans rfl,(Lib.cell_of_heap ((hV.block _ HLW.out.2.1).trans HD.out.2.2) 7).trans rfl,(Lib.cell_of_heap ((hV.block _ HLW.out.2.1).trans HD.out.2.2) 8).trans rfl,(hV.cell (p:=⟨b,_,none⟩) HLW.out.2.2).trans HD2.out.1,(hV.cell (p:=⟨b,_,none⟩) HLW.out.2.2).trans HD2.out.2.1,(hV.cell (p:=⟨b,_,none⟩) HLW.out.2.2).trans HD2.out.2.2.1,(hV.cell (p:=⟨b,_,none⟩) HLW.out.2.2).trans HD2.out.2.2.2.1,(hV.cell (p:=⟨b,_,none⟩) HLW.out.2.2).trans HD2.out.2.2.2.2.1,(hV.cell (p:=⟨b,_,none⟩) HLW.out.2.2).trans HD2.out.2.2.2.2.2.1,(hV.cell (p:=⟨b,_,none⟩) HLW.out.2.2).trans HD2.out.2.2.2.2.2.2.1,(hV.cell (p:=⟨b,_,none⟩) HLW.out.2.2).trans HD2.out.2.2.2.2.2.2.2.1,(hV.cell (p:=⟨b,_,none⟩) HLW.out.2.2).trans HD2.out.2.2.2.2.2.2.2.2⟩
         by_cases hcg:cz<0
         ·have qg:decide ((0:Int)≤cz)=false:=by rw[decide_eq_false_iff_not];omega
          have HST:=xI (zB4 totE (p:=entB int) HX.out HALL.out HEB.out (.inr ⟨_,HP.out,by rw[HCZ.out];exact hcg⟩));clear hcg;go_wp2_with fail;refine wp_region_held_drew (S:=fun V=>V.cell? ⟨w.heap.size,1,none⟩=some (.int .i64 int)∧V.cell? ⟨w.heap.size,5,none⟩=some (.slice (some ⟨b,off,none⟩) ne cE)∧V.cell? ⟨bx,0,none⟩=some (.slice A2 la cap2)∧V.cell? ⟨bx,1,none⟩=some (.bool true)∧V.cell? ⟨bx,2,none⟩=some (.int .i64 a)∧V.cell? ⟨bx,3,none⟩=some (.int .i64 i)∧V.cell? ⟨bx,4,none⟩=some (.string st)∧V.cell? ⟨bx,5,none⟩=some (.slice A3 n3 s3)∧V.cell? ⟨bx,6,none⟩=some (.slice A4 n4 s4)∧V.cell? ⟨bx,7,none⟩=some (.slice A5 n5 s5)∧V.cell? ⟨bx,8,none⟩=some (.slice A6 n6 s6)∧V.cell? ⟨b,off+m*9,none⟩=some (.slice B2 lb dap2)∧V.cell? ⟨b,off+m*9+1,none⟩=some (.bool gf)∧V.cell? ⟨b,off+m*9+2,none⟩=some (.int .i64 a')∧V.cell? ⟨b,off+m*9+3,none⟩=some (.int .i64 i')∧V.cell? ⟨b,off+m*9+4,none⟩=some (.string st')∧V.cell? ⟨b,off+m*9+5,none⟩=some (.slice B3 m3 d3')∧V.cell? ⟨b,off+m*9+6,none⟩=some (.slice B4 m4 d4')∧V.cell? ⟨b,off+m*9+7,none⟩=some (.slice B5 m5 d5')∧V.cell? ⟨b,off+m*9+8,none⟩=some (.slice B6 m6 d6')) (by kernel_rfl) (HS.out _ HW2.out.drew) (fun hHeld=>?_);refine tk 0 hHeld ?_
          try simp only[pK]
          refine tk 1 hHeld ?_;(try simp only[pK]);refine tk 2 hHeld ?_;(try simp only[pK]);refine tk 3 hHeld ?_;(try simp only[pK]);refine tk 4 hHeld ?_;(try simp only[pK]);refine tk 5 hHeld ?_;(try simp only[pK]);refine tk 6 hHeld ?_;(try simp only[pK]);refine tk 7 hHeld ?_;(try simp only[pK]);refine tk 8 hHeld ?_;(try simp only[pK]);refine tk 9 hHeld ?_;(try simp only[pK]);refine tk 10 hHeld ?_;(try simp only[pK]);refine tk 11 hHeld ?_;(try simp only[pK]);refine tk 12 hHeld ?_;(try simp only[pK])
          refine oO 13 fun K hK=>?_;go_simp;refine (heq.out _ HW2.out.drew).mono ?_;rintro e w2 ⟨rfl,hb2⟩;have HB2:=xI (HW2.out.drew.trans (hb2.mono HW2.out.drew.size));have hS2:=HS.out w2 HB2.out;refine hK _ _ hS2 ?_
          try simp only[pK]
          refine tk 14 hS2 ?_
          try simp only[pK]
          refine tk 15 hS2 ?_;(try simp only[pK]);refine tk 16 hS2 ?_;(try simp only[pK]);refine tk 17 hS2 ?_;(try simp only[pK]);refine tk 18 hS2 ?_;(try simp only[pK]);refine tk 19 hS2 ?_;(try simp only[pK]);refine tk 20 hS2 ?_;(try simp only[pK]);refine tk 21 hS2 ?_;(try simp only[pK]);refine tk 22 hS2 ?_;(try simp only[pK]);refine tk 23 hS2 ?_;(try simp only[pK]);refine tk 24 hS2 ?_;(try simp only[pK]);refine tk 25 hS2 ?_;(try simp only[pK]);refine tk 26 hS2 ?_;(try simp only[pK]);refine tk 27 hS2 ?_;(try simp only[pK])
          refine oO 28 fun K hK=>?_;go_simp;refine (hcm.out w2 HB2.out).mono ?_;rintro e w3 ⟨rfl,hb3⟩;have HB3:=xI (HB2.out.trans (hb3.mono HB2.out.size));have hS3:=HS.out w3 HB3.out;refine hK _ _ hS3 ?_
          try simp only[pK]
          refine tk 29 hS3 ?_
          try simp only[pK]
          refine tk 30 hS3 ?_;(try simp only[pK]);refine tk 31 hS3 ?_;(try simp only[pK])
          refine (wD ?_) _;go_wp2_with fail
          go_roundw
          case rel=>exact⟨q+1,by go_num,by omega,HST.out,HVW.out.trans (HB3.out.mono HVW.out.size)⟩
          case measure=>simp[intOf];omega
         ·have qg:decide ((0:Int)≤cz)=true:=by rw[decide_eq_true_eq];omega
          have HU:Hid (y=false):=xI (by rw[HKY.out,zCt (p:=entB int) (c:=cmpE) HX.out (.inr ⟨HJ0.out,_,HP.out,by rw[HCZ.out];exact hcg⟩)]);clear hcg;go_wp2_with fail;refine wp_region_held_drew (S:=fun V=>V.cell? ⟨w.heap.size,1,none⟩=some (.int .i64 int)∧V.cell? ⟨w.heap.size,5,none⟩=some (.slice (some ⟨b,off,none⟩) ne cE)∧V.cell? ⟨bx,0,none⟩=some (.slice A2 la cap2)∧V.cell? ⟨bx,1,none⟩=some (.bool true)∧V.cell? ⟨bx,2,none⟩=some (.int .i64 a)∧V.cell? ⟨bx,3,none⟩=some (.int .i64 i)∧V.cell? ⟨bx,4,none⟩=some (.string st)∧V.cell? ⟨bx,5,none⟩=some (.slice A3 n3 s3)∧V.cell? ⟨bx,6,none⟩=some (.slice A4 n4 s4)∧V.cell? ⟨bx,7,none⟩=some (.slice A5 n5 s5)∧V.cell? ⟨bx,8,none⟩=some (.slice A6 n6 s6)∧V.cell? ⟨b,off+m*9,none⟩=some (.slice B2 lb dap2)∧V.cell? ⟨b,off+m*9+1,none⟩=some (.bool gf)∧V.cell? ⟨b,off+m*9+2,none⟩=some (.int .i64 a')∧V.cell? ⟨b,off+m*9+3,none⟩=some (.int .i64 i')∧V.cell? ⟨b,off+m*9+4,none⟩=some (.string st')∧V.cell? ⟨b,off+m*9+5,none⟩=some (.slice B3 m3 d3')∧V.cell? ⟨b,off+m*9+6,none⟩=some (.slice B4 m4 d4')∧V.cell? ⟨b,off+m*9+7,none⟩=some (.slice B5 m5 d5')∧V.cell? ⟨b,off+m*9+8,none⟩=some (.slice B6 m6 d6')) (by kernel_rfl) (HS.out _ HW2.out.drew) (fun hHeld=>?_);refine tk 0 hHeld ?_
          try simp only[pK]
          refine tk 1 hHeld ?_;(try simp only[pK]);refine tk 2 hHeld ?_;(try simp only[pK]);refine tk 3 hHeld ?_;(try simp only[pK]);refine tk 4 hHeld ?_;(try simp only[pK]);refine tk 5 hHeld ?_;(try simp only[pK]);refine tk 6 hHeld ?_;(try simp only[pK]);refine tk 7 hHeld ?_;(try simp only[pK]);refine tk 8 hHeld ?_;(try simp only[pK]);refine tk 9 hHeld ?_;(try simp only[pK]);refine tk 10 hHeld ?_;(try simp only[pK]);refine tk 11 hHeld ?_;(try simp only[pK]);refine tk 12 hHeld ?_;(try simp only[pK])
          refine oO 13 fun K hK=>?_;go_simp;refine (heq.out _ HW2.out.drew).mono ?_;rintro e w2 ⟨rfl,hb2⟩;have HB2:=xI (HW2.out.drew.trans (hb2.mono HW2.out.drew.size));have hS2:=HS.out w2 HB2.out;refine hK _ _ hS2 ?_
          try simp only[pK]
          refine tk 14 hS2 ?_
          try simp only[pK]
          refine tk 15 hS2 ?_;(try simp only[pK]);refine tk 16 hS2 ?_;(try simp only[pK]);refine tk 17 hS2 ?_;(try simp only[pK]);refine tk 18 hS2 ?_;(try simp only[pK]);refine tk 19 hS2 ?_;(try simp only[pK]);refine tk 20 hS2 ?_;(try simp only[pK]);refine tk 21 hS2 ?_;(try simp only[pK]);refine tk 22 hS2 ?_;(try simp only[pK]);refine tk 23 hS2 ?_;(try simp only[pK]);refine tk 24 hS2 ?_;(try simp only[pK]);refine tk 25 hS2 ?_;(try simp only[pK]);refine tk 26 hS2 ?_;(try simp only[pK]);refine tk 27 hS2 ?_;(try simp only[pK])
          refine oO 28 fun K hK=>?_;go_simp;refine (hcm.out w2 HB2.out).mono ?_;rintro e w3 ⟨rfl,hb3⟩;have HB3:=xI (HB2.out.trans (hb3.mono HB2.out.size));have hS3:=HS.out w3 HB3.out;refine hK _ _ hS3 ?_
          try simp only[pK]
          refine tk 29 hS3 ?_
          try simp only[pK]
          refine tk 30 hS3 ?_;(try simp only[pK]);refine tk 31 hS3 ?_;(try simp only[pK])
          refine (wD ?_) _;go_wp2;go_ret;exact⟨zAb HU.out.symm,HBW.out.trans ((HVW.out.trans (HB3.out.mono HVW.out.size)).mono HBW.out.size)⟩
     ·have hlb:((la:Int) != int)=true:=by simpa using hlen
      have HU:Hid (y=false):=xI (by rw[HKY.out,zCt (p:=entB int) (c:=cmpE) HX.out (.inl (by show (decide ((args.length:Int)=int)&&(!fails||isZ result))=_;rw[HLA.out,decide_eq_false hlen,Bool.false_and]))]);clear hlen;have HD:Hid (W2.cell? ⟨w.heap.size,1,none⟩=some (.int .i64 int)∧W2.cell? ⟨w.heap.size,5,none⟩=some (.slice (some ⟨b,off,none⟩) ne cE)∧W2.heap[bx]?=some (.cells #[.slice A2 la cap2,.bool fails,.int .i64 a,.int .i64 i,.string st,.slice A3 n3 s3,.slice A4 n4 s4,.slice A5 n5 s5,.slice A6 n6 s6] 45 (0,0))):=xI ⟨HD0.out.1,HD0.out.2,HKU.out⟩;have HLW:=HLW1;clear HD0 HKU HLW1 HES0;have HS:Hid (∀ V,Below W2.heap.size W2 V→V.cell? ⟨w.heap.size,1,none⟩=some (.int .i64 int)∧V.cell? ⟨w.heap.size,5,none⟩=some (.slice (some ⟨b,off,none⟩) ne cE)∧V.cell? ⟨bx,0,none⟩=some (.slice A2 la cap2)∧V.cell? ⟨bx,1,none⟩=some (.bool fails)∧V.cell? ⟨bx,2,none⟩=some (.int .i64 a)∧V.cell? ⟨bx,3,none⟩=some (.int .i64 i)∧V.cell? ⟨bx,4,none⟩=some (.string st)∧V.cell? ⟨bx,5,none⟩=some (.slice A3 n3 s3)∧V.cell? ⟨bx,6,none⟩=some (.slice A4 n4 s4)∧V.cell? ⟨bx,7,none⟩=some (.slice A5 n5 s5)∧V.cell? ⟨bx,8,none⟩=some (.slice A6 n6 s6)):=xI fun V hV=>by
       have hz:W2.heap.size≤V.heap.size:=hV.size;exact⟨(hV.cell (p:=⟨w.heap.size,1,none⟩) HLW.out.1).trans HD.out.1,(hV.cell (p:=⟨w.heap.size,5,none⟩) HLW.out.1).trans HD.out.2.1,(Lib.cell_of_heap ((hV.block _ HLW.out.2.1).trans HD.out.2.2) 0).trans rfl,(Lib.cell_of_heap ((hV.block _ HLW.out.2.1).trans HD.out.2.2) 1).trans rfl,(Lib.cell_of_heap ((hV.block _ HLW.out.2.1).trans HD.out.2.2) 2).trans rfl,(Lib.cell_of_heap ((hV.block _ HLW.out.2.1).trans HD.out.2.2) 3).trans rfl,(Lib.cell_of_heap ((hV.block _ HLW.out.2.1).trans HD.out.2.2) 4).trans rfl,(Lib.cell_of_heap ((hV.block _ HLW.out.2.1).trans HD.out.2.2) 5).trans rfl,(Lib.cell_of_heap ((hV.block _ HLW.out.2.1).trans HD.out.2.2) 6).trans rfl,(Lib.cell_of_heap ((hV.block _ HLW.out.2.1).trans HD.out.2.2) 7).trans rfl,(Lib.cell_of_heap ((hV.block _ HLW.out.2.1).trans HD.out.2.2) 8).trans rfl⟩
      go_wp2_with fail;refine wp_region_held_drew (S:=fun V=>V.cell? ⟨w.heap.size,1,none⟩=some (.int .i64 int)∧V.cell? ⟨w.heap.size,5,none⟩=some (.slice (some ⟨b,off,none⟩) ne cE)∧V.cell? ⟨bx,0,none⟩=some (.slice A2 la cap2)∧V.cell? ⟨bx,1,none⟩=some (.bool fails)∧V.cell? ⟨bx,2,none⟩=some (.int .i64 a)∧V.cell? ⟨bx,3,none⟩=some (.int .i64 i)∧V.cell? ⟨bx,4,none⟩=some (.string st)∧V.cell? ⟨bx,5,none⟩=some (.slice A3 n3 s3)∧V.cell? ⟨bx,6,none⟩=some (.slice A4 n4 s4)∧V.cell? ⟨bx,7,none⟩=some (.slice A5 n5 s5)∧V.cell? ⟨bx,8,none⟩=some (.slice A6 n6 s6)) (by kernel_rfl) (HS.out _ HW2.out.drew) (fun hHeld=>?_);refine tk 0 hHeld ?_
      try simp only[pK]
      refine tk 1 hHeld ?_;(try simp only[pK]);refine tk 2 hHeld ?_;(try simp only[pK]);refine tk 3 hHeld ?_;(try simp only[pK]);refine tk 4 hHeld ?_;(try simp only[pK]);refine tk 5 hHeld ?_;(try simp only[pK]);refine tk 6 hHeld ?_;(try simp only[pK])
      refine tu 7 hHeld ?_
      try simp only[pK]
      refine tu 8 hHeld ?_
      try simp only[pK]
      refine tu 9 hHeld ?_
      try simp only[pK]
      refine tu 10 hHeld ?_
      try simp only[pK]
      refine tu 11 hHeld ?_
      try simp only[pK]
      refine tu 12 hHeld ?_
      try simp only[pK]
      refine zBq 13 (by kernel_rfl) rfl (by rfl) hHeld ?_
      try simp only[pK]
      refine tu 14 hHeld ?_
      try simp only[pK]
      refine tu 15 hHeld ?_
      try simp only[pK]
      refine tk 16 hHeld ?_
      try simp only[pK]
      refine tk 17 hHeld ?_
      try simp only[pK]
      refine tu 18 hHeld ?_
      try simp only[pK]
      refine tu 19 hHeld ?_
      try simp only[pK]
      refine tu 20 hHeld ?_
      try simp only[pK]
      refine tu 21 hHeld ?_
      try simp only[pK]
      refine tu 22 hHeld ?_
      try simp only[pK]
      refine tu 23 hHeld ?_
      try simp only[pK]
      refine tu 24 hHeld ?_
      try simp only[pK]
      refine tu 25 hHeld ?_
      try simp only[pK]
      refine tu 26 hHeld ?_
      try simp only[pK]
      refine tu 27 hHeld ?_
      try simp only[pK]
      refine zBq 28 (by kernel_rfl) rfl (by rfl) hHeld ?_
      try simp only[pK]
      refine tu 29 hHeld ?_
      try simp only[pK]
      refine tu 30 hHeld ?_
      try simp only[pK]
      refine tk 31 hHeld ?_
      try simp only[pK]
      refine (wD ?_) _;have HWD:=xI HW2.out.drew;go_wp2;go_ret;exact⟨zAb HU.out.symm,HBW.out.trans ((HVW.out.trans (HWD.out.mono HVW.out.size)).mono HBW.out.size)⟩
    ·have HKA:Hid (zB9 (entB int) cmpE ents=true):=xI (by
      have hke:ents.take q=ents:=List.take_of_length_le (by have:=HNE.out;omega);rw[←hke];exact HALL.out)
     have HU:Hid (y=true):=xI (by rw[HKY.out,HKA.out]);have HBE:=xI hbw;clear hb hbw e0 e1 e2 e3 e4 e5 g1 HALL;go_wp2;go_ret;exact⟨zAb HU.out.symm,HBE.out⟩
end Go.Proofs.YtcjgaohblaidjaaGreatDoor
