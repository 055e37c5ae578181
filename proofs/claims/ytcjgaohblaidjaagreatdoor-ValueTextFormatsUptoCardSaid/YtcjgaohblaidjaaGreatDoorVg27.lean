/- What the document's test of a node returns: the kinds other than maps and functions; all kinds. -/
import Derived.Test.YtcjgaohblaidjaaGreatDoorVgZ
import Derived.Test.YtcjgaohblaidjaaGreatDoorVg05
import Derived.Test.YtcjgaohblaidjaaGreatDoorVg17
import Derived.Test.YtcjgaohblaidjaaGreatDoorVg18
import Derived.Test.YtcjgaohblaidjaaGreatDoorVg26
set_option maxRecDepth 100000
set_option maxHeartbeats 6400000
namespace Go.Proofs.YtcjgaohblaidjaaGreatDoor
open Go Go.RowKit
theorem zPo (k:Nat) (v:Vl) (cs:List Value) (w:World) (h:VS k w w.heap.size v cs) (hkd:zAj v≠8∧zAj v≠9):Calls Tryz.prog 36 #[.agg cs.toArray] w fun e w'=>e=.returned (.bool (nodeV v))∧Below w.heap.size w w':=by
 cases k with
 | zero=>exact h.elim
 | succ k=>
 obtain⟨kind,int,text,kids,keys,ents,labs⟩:=v;have HKD:=xI hkd;clear hkd;obtain⟨uk,uy,ue,ul,rfl,wf1,wf2,wf3,hk,hyy,he,hll⟩:=h;obtain⟨A,cA,rfl,hkl⟩:=hk.form;obtain⟨Y,cY,rfl,hyl⟩:=hyy.form;obtain⟨E,cE,rfl,hel⟩:=he.form;obtain⟨L,cL,rfl,hll'⟩:=hll.form;have HKI:=xI hk;have HKE:=xI hyy;have HEN:=xI he;have HLL:=xI hll;have HLN:=xI (aN wf3 (aN hkl (aN hyl (aN hel hll'))));clear hk hyy he hll wf1 wf2 wf3 hkl hyl hel hll';have HR:Hid (nodeV (.mk kind int text kids keys ents labs)=(zAi labs&&usesB kind int text kids keys ents&&kindB kind int text kids keys ents)):=xI rfl;generalize nodeV (.mk kind int text kids keys ents labs)=y at HR ⊢;obtain⟨W,hW⟩:∃ W,W=w.alloc (.cells #[.int .i64 kind,.int .i64 int,.string ⟨text.toArray⟩,.slice A kids.length cA,.slice Y keys.length cY,.slice E ents.length cE,.slice L labs.length cL] 27):=⟨_,rfl⟩;have hbl:Below w.heap.size w W:=by rw[hW];exact bR.alloc lR _
 have d0:W.cell? ⟨w.heap.size,0,none⟩=some (.int .i64 kind):=by rw[hW];simp
 have d1:W.cell? ⟨w.heap.size,1,none⟩=some (.int .i64 int):=by rw[hW];simp
 have d2:W.cell? ⟨w.heap.size,2,none⟩=some (.string ⟨text.toArray⟩):=by rw[hW];simp
 have d3:W.cell? ⟨w.heap.size,3,none⟩=some (.slice A kids.length cA):=by rw[hW];simp
 have d4:W.cell? ⟨w.heap.size,4,none⟩=some (.slice Y keys.length cY):=by rw[hW];simp
 have d5:W.cell? ⟨w.heap.size,5,none⟩=some (.slice E ents.length cE):=by rw[hW];simp
 have d6:W.cell? ⟨w.heap.size,6,none⟩=some (.slice L labs.length cL):=by rw[hW];simp
 have hlt:w.heap.size<W.heap.size:=by rw[hW];simp
 have HB:=xI hbl;clear hbl;go_enter Tryz.func36,Tryz.ntmps36;go_wp2_with fail;rw[←hW];clear hW;generalize hnl:labs.length=nl at *;have HNL:=xI hnl;clear hnl
 go_loopw [3] (fun i wr=>∃ j:Nat,i=.int .i64 j∧j≤nl∧zAi (labs.take j)=true∧Below W.heap.size W wr) (fun i _=>nl-(intOf i).toNat)
 case atStart=>exact⟨0,rfl,by omega,by simp[zAi,AscC],Below.refl _ _⟩
 case round=>
  obtain⟨j,rfl,hj,hall,hb⟩:=hrel;have HALL:=xI hall;clear hall;have e6:wr.cell? ⟨w.heap.size,6,none⟩=some (.slice L nl cL):=(hb.cell (p:=⟨w.heap.size,6,none⟩) hlt).trans d6;by_cases hjn:j<nl
  ·have hbw:Below w.heap.size w wr:=HB.out.trans (hb.mono HB.out.size);obtain⟨b,off,cap0,x0,hu,hbH,⟨x,hx,hxs,hxl⟩,c0⟩:=(HLL.out.on hbw (fun _ _ h=>h)).at1 (j:=j) (by have:=HNL.out;omega);injection hu with hA hNN hcc;subst hA hcc;clear hNN;simp only[List.cons.injEq,and_true]at hxs;subst hxs;have hvc:=zB0 ⟨x.toArray⟩ wr.drew (by simpa [ByteArray.size] using hxl);rw[show (⟨x.toArray⟩:ByteArray).data.toList=x from rfl]at hvc;have HX:=xI hx;have HV:=xI hb;have HBW:=xI hbw;have kn:(j:Int)<(nl:Int):=by omega
   have k0:(0:Int)≤(j:Int):=by omega
   have HVX:Hid (varB x=varB x):=xI rfl;generalize hvx:varB x=z at hvc;have HVZ:=xI hvx;clear hx hb hbw hvx HVX;cases z
   ·have HU:Hid (y=false):=xI (by rw[HR.out,zCc HX.out (.inl HVZ.out)];rfl);go_wp2_with fail;refine wp_region_held_drew (S:=fun V=>V.cell? ⟨w.heap.size,6,none⟩=some (.slice (some ⟨b,off,none⟩) nl cL)∧V.cell? ⟨b,off+j,none⟩=some (.string ⟨x.toArray⟩)) (by kernel_rfl) ⟨e6,c0⟩ (fun hHeld=>?_);refine tk 0 hHeld ?_
    try simp only[pK]
    iterate 4 (refine ts hHeld ?_;try simp only[pK])
    refine oO 5 fun K hK=>?_;go_simp;refine hvc.mono ?_;rintro e w2 ⟨rfl,hw2⟩;subst hw2;refine hK _ _ hHeld ?_
    try simp only[pK]
    refine tk 6 hHeld ?_
    try simp only[pK]
    refine tk 7 hHeld ?_
    try simp only[pK]
    refine tu 8 hHeld ?_
    try simp only[pK]
    refine tu 9 hHeld ?_
    try simp only[pK]
    refine tu 10 hHeld ?_
    try simp only[pK]
    refine tu 11 hHeld ?_
    try simp only[pK]
    refine tu 12 hHeld ?_
    try simp only[pK]
    refine tu 13 hHeld ?_
    try simp only[pK]
    refine tu 14 hHeld ?_
    try simp only[pK]
    refine tu 15 hHeld ?_
    try simp only[pK]
    refine tu 16 hHeld ?_
    try simp only[pK]
    refine tu 17 hHeld ?_
    try simp only[pK]
    refine tu 18 hHeld ?_
    try simp only[pK]
    refine tu 19 hHeld ?_
    try simp only[pK]
    refine tu 20 hHeld ?_
    try simp only[pK]
    refine tu 21 hHeld ?_
    try simp only[pK]
    refine tu 22 hHeld ?_
    try simp only[pK]
    refine tu 23 hHeld ?_
    try simp only[pK]
    refine tk 24 hHeld ?_
    try simp only[pK]
    refine (wD ?_) _;go_wp2;go_ret;exact⟨zAb HU.out.symm,HBW.out.drew⟩
   ·by_cases hj0:j=0
    ·subst hj0;have HST:=xI (zBu HX.out HALL.out HVZ.out (.inl rfl));have q0:decide ((0:Int)<((0:Nat):Int))=false:=rfl;go_wp2_with fail;refine wp_region_held_drew (S:=fun V=>V.cell? ⟨w.heap.size,6,none⟩=some (.slice (some ⟨b,off,none⟩) nl cL)∧V.cell? ⟨b,off,none⟩=some (.string ⟨x.toArray⟩)) (by kernel_rfl) ⟨e6,by simpa using c0⟩ (fun hHeld=>?_);refine tk 0 hHeld ?_
     try simp only[pK]
     iterate 4 (refine ts hHeld ?_;try simp only[pK])
     refine oO 5 fun K hK=>?_;go_simp;refine hvc.mono ?_;rintro e w2 ⟨rfl,hw2⟩;subst hw2;refine hK _ _ hHeld ?_
     try simp only[pK]
     refine tk 6 hHeld ?_
     try simp only[pK]
     iterate 4 (refine ts hHeld ?_;try simp only[pK])
     refine tu 11 hHeld ?_
     try simp only[pK]
     refine tu 12 hHeld ?_
     try simp only[pK]
     refine tu 13 hHeld ?_
     try simp only[pK]
     refine tu 14 hHeld ?_
     try simp only[pK]
     refine tu 15 hHeld ?_
     try simp only[pK]
     refine tu 16 hHeld ?_
     try simp only[pK]
     refine tu 17 hHeld ?_
     try simp only[pK]
     refine tu 18 hHeld ?_
     try simp only[pK]
     refine tu 19 hHeld ?_
     try simp only[pK]
     refine tu 20 hHeld ?_
     try simp only[pK]
     refine tu 21 hHeld ?_
     try simp only[pK]
     refine tu 22 hHeld ?_
     try simp only[pK]
     refine tk 23 hHeld ?_
     try simp only[pK]
     refine tk 24 hHeld ?_
     try simp only[pK]
     refine (wD ?_) _;go_wp2_with fail
     go_roundw
     case rel=>exact⟨0+1,by go_num,by omega,HST.out,HV.out.drew⟩
     case measure=>simp[intOf];omega
    ·obtain⟨m,hm⟩:∃ m,j=m+1:=⟨j-1,by omega⟩;obtain⟨b',off',cap1,x1,hu,_,⟨p,hp,hps,hpl⟩,c1⟩:=(HLL.out.on HBW.out (fun _ _ h=>h)).at1 (j:=m) (by have:=HNL.out;omega);injection hu with hA hNN hcc;injection hA with hA;injection hA with g1 g2;subst g1 g2;clear hNN hcc;simp only[List.cons.injEq,and_true]at hps;subst hps;have HP:Hid (labs[j-1]?=some p):=xI (by rw[hm,Nat.add_sub_cancel];exact hp);have HJ0:Hid (0<j):=xI (by omega);have q0:decide (0<j)=true:=by rw[decide_eq_true_eq];omega
     have qm:IntKind.i64.wrap ((j:Int)-1)=(m:Int):=by rw[IntWalk.i64_in _ (by have:=HLN.out.2.2.2.2;have:=HNL.out;unfold maxLen at *;omega)];omega
     have km:(m:Int)<(nl:Int):=by omega
     have km0:(0:Int)≤(m:Int):=by omega
     have hlc:=zHe p x;generalize hgz:Op.bytesLess p x=g at hlc;have HGC:=xI hlc;clear hp hm hlc hj0;cases g
     ·have HU:Hid (y=false):=xI (by rw[HR.out,zCc HX.out (.inr ⟨HJ0.out,p,HP.out,by have:=HGC.out;simpa using this.symm⟩)];rfl);go_wp2_with fail;refine wp_region_held_drew (S:=fun V=>V.cell? ⟨w.heap.size,6,none⟩=some (.slice (some ⟨b,off,none⟩) nl cL)∧V.cell? ⟨b,off+j,none⟩=some (.string ⟨x.toArray⟩)∧V.cell? ⟨b,off+m,none⟩=some (.string ⟨p.toArray⟩)) (by kernel_rfl) ⟨e6,c0,c1⟩ (fun hHeld=>?_);refine tk 0 hHeld ?_
      try simp only[pK]
      iterate 4 (refine ts hHeld ?_;try simp only[pK])
      refine oO 5 fun K hK=>?_;go_simp;refine hvc.mono ?_;rintro e w2 ⟨rfl,hw2⟩;subst hw2;refine hK _ _ hHeld ?_
      try simp only[pK]
      refine tk 6 hHeld ?_
      try simp only[pK]
      iterate 18 (refine ts hHeld ?_;try simp only[pK])
      refine (wD ?_) _;go_wp2;go_ret;exact⟨zAb HU.out.symm,HBW.out.drew⟩
     ·have HST:=xI (zBu HX.out HALL.out HVZ.out (.inr ⟨p,HP.out,by have:=HGC.out;simpa using this.symm⟩));have qj:IntKind.i64.wrap ((j:Int)+1)=(j:Int)+1:=IntWalk.i64_in _ (by have:=HLN.out.2.2.2.2;have:=HNL.out;unfold maxLen at *;omega);go_wp2_with fail;refine wp_region_held_drew (S:=fun V=>V.cell? ⟨w.heap.size,6,none⟩=some (.slice (some ⟨b,off,none⟩) nl cL)∧V.cell? ⟨b,off+j,none⟩=some (.string ⟨x.toArray⟩)∧V.cell? ⟨b,off+m,none⟩=some (.string ⟨p.toArray⟩)) (by kernel_rfl) ⟨e6,c0,c1⟩ (fun hHeld=>?_);refine tk 0 hHeld ?_
      try simp only[pK]
      iterate 4 (refine ts hHeld ?_;try simp only[pK])
      refine oO 5 fun K hK=>?_;go_simp;refine hvc.mono ?_;rintro e w2 ⟨rfl,hw2⟩;subst hw2;refine hK _ _ hHeld ?_
      try simp only[pK]
      refine tk 6 hHeld ?_
      try simp only[pK]
      iterate 18 (refine ts hHeld ?_;try simp only[pK])
      refine (wD ?_) _;go_wp2_with fail
      go_roundw
      case rel=>exact⟨j+1,by go_num,by omega,HST.out,HV.out.drew⟩
      case measure=>simp[intOf];omega
  ·have HLB:Hid (zAi labs=true):=xI (by
    have hke:labs.take j=labs:=List.take_of_length_le (by have:=HNL.out;omega);rw[←hke];exact HALL.out)
   have HBW:=xI (HB.out.trans (hb.mono HB.out.size));have HLTr:=xI (Nat.lt_of_lt_of_le hlt hb.size);have e0:wr.cell? ⟨w.heap.size,0,none⟩=some (.int .i64 kind):=(hb.cell (p:=⟨w.heap.size,0,none⟩) hlt).trans d0;have e1:wr.cell? ⟨w.heap.size,1,none⟩=some (.int .i64 int):=(hb.cell (p:=⟨w.heap.size,1,none⟩) hlt).trans d1;have e2:wr.cell? ⟨w.heap.size,2,none⟩=some (.string ⟨text.toArray⟩):=(hb.cell (p:=⟨w.heap.size,2,none⟩) hlt).trans d2;have e3:wr.cell? ⟨w.heap.size,3,none⟩=some (.slice A kids.length cA):=(hb.cell (p:=⟨w.heap.size,3,none⟩) hlt).trans d3;have e4:wr.cell? ⟨w.heap.size,4,none⟩=some (.slice Y keys.length cY):=(hb.cell (p:=⟨w.heap.size,4,none⟩) hlt).trans d4;have e5:wr.cell? ⟨w.heap.size,5,none⟩=some (.slice E ents.length cE):=(hb.cell (p:=⟨w.heap.size,5,none⟩) hlt).trans d5;clear d0 d1 d2 d3 d4 d5 d6 hb hlt hj HALL;have jf:decide ((j:Int)<(nl:Int))=false:=by simp;omega
   have hk8:kind≠8:=HKD.out.1;have hk9:kind≠9:=HKD.out.2;clear HKD;by_cases hk1:kind=1
   ·subst hk1;have HRK:Hid (y=(usesN 1 int text kids.length keys.length ents.length&&kindB 1 int text kids keys ents)):=xI (by rw[HR.out,HLB.out,zCk];rfl);clear HR;by_cases hc:text=[]
    case neg=>
     have HU:Hid (y=false):=xI (by rw[HRK.out];simp[usesN,hc]);have ft:=hc;clear hc;go_wp2;go_ret;exact⟨zAb HU.out.symm,HBW.out⟩
    have Htext:=xI hc;have ft:=hc;clear hc;by_cases hc:kids.length=0
    case neg=>
     have HU:Hid (y=false):=xI (by rw[HRK.out];simp[usesN,hc]);have fkids:0<kids.length:=by omega
     have gkids:decide ((0:Int)<(kids.length:Int))=true:=by rw[decide_eq_true_eq];omega
     clear hc;go_wp2;go_ret;exact⟨zAb HU.out.symm,HBW.out⟩
    have Hkids:=xI hc;have fkids:¬ 0<kids.length:=by omega
    have gkids:decide ((0:Int)<(kids.length:Int))=false:=by rw[decide_eq_false_iff_not];omega
    clear hc;by_cases hc:keys.length=0
    case neg=>
     have HU:Hid (y=false):=xI (by rw[HRK.out];simp[usesN,hc]);have fkeys:0<keys.length:=by omega
     have gkeys:decide ((0:Int)<(keys.length:Int))=true:=by rw[decide_eq_true_eq];omega
     clear hc;go_wp2;go_ret;exact⟨zAb HU.out.symm,HBW.out⟩
    have Hkeys:=xI hc;have fkeys:¬ 0<keys.length:=by omega
    have gkeys:decide ((0:Int)<(keys.length:Int))=false:=by rw[decide_eq_false_iff_not];omega
    clear hc;by_cases hc:ents.length=0
    case neg=>
     have HU:Hid (y=false):=xI (by rw[HRK.out];simp[usesN,hc]);have fents:0<ents.length:=by omega
     have gents:decide ((0:Int)<(ents.length:Int))=true:=by rw[decide_eq_true_eq];omega
     clear hc;go_wp2;go_ret;exact⟨zAb HU.out.symm,HBW.out⟩
    have Hents:=xI hc;have fents:¬ 0<ents.length:=by omega
    have gents:decide ((0:Int)<(ents.length:Int))=false:=by rw[decide_eq_false_iff_not];omega
    clear hc;have HU:Hid (y=true):=xI (by rw[HRK.out];simp[usesN,kindB,Htext.out,Hkids.out,Hkeys.out,Hents.out]);go_wp2;go_ret;exact⟨zAb HU.out.symm,HBW.out⟩
   ·by_cases hk2:kind=2
    ·subst hk2;have HRK:Hid (y=(usesN 2 int text kids.length keys.length ents.length&&kindB 2 int text kids keys ents)):=xI (by rw[HR.out,HLB.out,zCk];rfl);clear HR;by_cases hc:int=0
     case neg=>
      have HU:Hid (y=false):=xI (by rw[HRK.out];simp[usesN,hc]);have fi:(int != 0)=true:=by simpa using hc
      clear hc;go_wp2;go_ret;exact⟨zAb HU.out.symm,HBW.out⟩
     have Hint:=xI hc;have fi:(int != 0)=false:=by simpa using hc
     clear hc;by_cases hc:kids.length=0
     case neg=>
      have HU:Hid (y=false):=xI (by rw[HRK.out];simp[usesN,hc]);have fkids:0<kids.length:=by omega
      have gkids:decide ((0:Int)<(kids.length:Int))=true:=by rw[decide_eq_true_eq];omega
      clear hc;go_wp2;go_ret;exact⟨zAb HU.out.symm,HBW.out⟩
     have Hkids:=xI hc;have fkids:¬ 0<kids.length:=by omega
     have gkids:decide ((0:Int)<(kids.length:Int))=false:=by rw[decide_eq_false_iff_not];omega
     clear hc;by_cases hc:keys.length=0
     case neg=>
      have HU:Hid (y=false):=xI (by rw[HRK.out];simp[usesN,hc]);have fkeys:0<keys.length:=by omega
      have gkeys:decide ((0:Int)<(keys.length:Int))=true:=by rw[decide_eq_true_eq];omega
      clear hc;go_wp2;go_ret;exact⟨zAb HU.out.symm,HBW.out⟩
     have Hkeys:=xI hc;have fkeys:¬ 0<keys.length:=by omega
     have gkeys:decide ((0:Int)<(keys.length:Int))=false:=by rw[decide_eq_false_iff_not];omega
     clear hc;by_cases hc:ents.length=0
     case neg=>
      have HU:Hid (y=false):=xI (by rw[HRK.out];simp[usesN,hc]);have fents:0<ents.length:=by omega
      have gents:decide ((0:Int)<(ents.length:Int))=true:=by rw[decide_eq_true_eq];omega
      clear hc;go_wp2;go_ret;exact⟨zAb HU.out.symm,HBW.out⟩
     have Hents:=xI hc;have fents:¬ 0<ents.length:=by omega
     have gents:decide ((0:Int)<(ents.length:Int))=false:=by rw[decide_eq_false_iff_not];omega
     clear hc;by_cases hf:text.length≤64
     ·have HU:Hid (y=true):=xI (by rw[HRK.out];simp[usesN,kindB,Hint.out,Hkids.out,Hkeys.out,Hents.out,hf]);have ff:decide ((text.length:Int)≤64)=true:=by rw[decide_eq_true_eq];omega
      clear hf;go_wp2;go_ret;exact⟨zAb HU.out.symm,HBW.out⟩
     ·have HU:Hid (y=false):=xI (by rw[HRK.out];simp[usesN,kindB,Hint.out,Hkids.out,Hkeys.out,Hents.out,hf]);have ff:decide ((text.length:Int)≤64)=false:=by rw[decide_eq_false_iff_not];omega
      clear hf;go_wp2;go_ret;exact⟨zAb HU.out.symm,HBW.out⟩
    ·by_cases hk3:kind=3
     ·subst hk3;have HRK:Hid (y=(usesN 3 int text kids.length keys.length ents.length&&kindB 3 int text kids keys ents)):=xI (by rw[HR.out,HLB.out,zCk];rfl);clear HR;by_cases hc:int=0
      case neg=>
       have HU:Hid (y=false):=xI (by rw[HRK.out];simp[usesN,hc]);have fi:(int != 0)=true:=by simpa using hc
       clear hc;go_wp2;go_ret;exact⟨zAb HU.out.symm,HBW.out⟩
      have Hint:=xI hc;have fi:(int != 0)=false:=by simpa using hc
      clear hc;by_cases hc:kids.length=0
      case neg=>
       have HU:Hid (y=false):=xI (by rw[HRK.out];simp[usesN,hc]);have fkids:0<kids.length:=by omega
       have gkids:decide ((0:Int)<(kids.length:Int))=true:=by rw[decide_eq_true_eq];omega
       clear hc;go_wp2;go_ret;exact⟨zAb HU.out.symm,HBW.out⟩
      have Hkids:=xI hc;have fkids:¬ 0<kids.length:=by omega
      have gkids:decide ((0:Int)<(kids.length:Int))=false:=by rw[decide_eq_false_iff_not];omega
      clear hc;by_cases hc:keys.length=0
      case neg=>
       have HU:Hid (y=false):=xI (by rw[HRK.out];simp[usesN,hc]);have fkeys:0<keys.length:=by omega
       have gkeys:decide ((0:Int)<(keys.length:Int))=true:=by rw[decide_eq_true_eq];omega
       clear hc;go_wp2;go_ret;exact⟨zAb HU.out.symm,HBW.out⟩
      have Hkeys:=xI hc;have fkeys:¬ 0<keys.length:=by omega
      have gkeys:decide ((0:Int)<(keys.length:Int))=false:=by rw[decide_eq_false_iff_not];omega
      clear hc;by_cases hc:ents.length=0
      case neg=>
       have HU:Hid (y=false):=xI (by rw[HRK.out];simp[usesN,hc]);have fents:0<ents.length:=by omega
       have gents:decide ((0:Int)<(ents.length:Int))=true:=by rw[decide_eq_true_eq];omega
       clear hc;go_wp2;go_ret;exact⟨zAb HU.out.symm,HBW.out⟩
      have Hents:=xI hc;have fents:¬ 0<ents.length:=by omega
      have gents:decide ((0:Int)<(ents.length:Int))=false:=by rw[decide_eq_false_iff_not];omega
      clear hc;have HU:Hid (y=atomB text):=xI (by rw[HRK.out];simp[usesN,kindB,Hint.out,Hkids.out,Hkeys.out,Hents.out]);have hat:=zEu ⟨text.toArray⟩ wr HLN.out.1;rw[show (⟨text.toArray⟩:ByteArray).data.toList=text from rfl]at hat;generalize atomB text=bt at hat HU;go_wp2_with (go_at_call 76;refine hat.mono ?_;rintro e w2 ⟨rfl,hw2⟩;refine Hid.out ?_);refine xI ?_;subst hw2;go_wp2;go_ret;exact⟨zAb HU.out.symm,HBW.out⟩
     ·by_cases hk4:kind=4
      ·subst hk4;have HRK:Hid (y=(usesN 4 int text kids.length keys.length ents.length&&kindB 4 int text kids keys ents)):=xI (by rw[HR.out,HLB.out,zCk];rfl);clear HR;by_cases hc:text=[]
       case neg=>
        have HU:Hid (y=false):=xI (by rw[HRK.out];simp[usesN,hc]);have ft:=hc;clear hc;go_wp2;go_ret;exact⟨zAb HU.out.symm,HBW.out⟩
       have Htext:=xI hc;have ft:=hc;clear hc;by_cases hc:kids.length=0
       case neg=>
        have HU:Hid (y=false):=xI (by rw[HRK.out];simp[usesN,hc]);have fkids:0<kids.length:=by omega
        have gkids:decide ((0:Int)<(kids.length:Int))=true:=by rw[decide_eq_true_eq];omega
        clear hc;go_wp2;go_ret;exact⟨zAb HU.out.symm,HBW.out⟩
       have Hkids:=xI hc;have fkids:¬ 0<kids.length:=by omega
       have gkids:decide ((0:Int)<(kids.length:Int))=false:=by rw[decide_eq_false_iff_not];omega
       clear hc;by_cases hc:keys.length=0
       case neg=>
        have HU:Hid (y=false):=xI (by rw[HRK.out];simp[usesN,hc]);have fkeys:0<keys.length:=by omega
        have gkeys:decide ((0:Int)<(keys.length:Int))=true:=by rw[decide_eq_true_eq];omega
        clear hc;go_wp2;go_ret;exact⟨zAb HU.out.symm,HBW.out⟩
       have Hkeys:=xI hc;have fkeys:¬ 0<keys.length:=by omega
       have gkeys:decide ((0:Int)<(keys.length:Int))=false:=by rw[decide_eq_false_iff_not];omega
       clear hc;by_cases hc:ents.length=0
       case neg=>
        have HU:Hid (y=false):=xI (by rw[HRK.out];simp[usesN,hc]);have fents:0<ents.length:=by omega
        have gents:decide ((0:Int)<(ents.length:Int))=true:=by rw[decide_eq_true_eq];omega
        clear hc;go_wp2;go_ret;exact⟨zAb HU.out.symm,HBW.out⟩
       have Hents:=xI hc;have fents:¬ 0<ents.length:=by omega
       have gents:decide ((0:Int)<(ents.length:Int))=false:=by rw[decide_eq_false_iff_not];omega
       clear hc;by_cases hf:0≤int
       ·have HU:Hid (y=true):=xI (by rw[HRK.out];simp[usesN,kindB,Htext.out,Hkids.out,Hkeys.out,Hents.out,hf]);have ff:decide (0≤int)=true:=by rw[decide_eq_true_eq];omega
        clear hf;go_wp2;go_ret;exact⟨zAb HU.out.symm,HBW.out⟩
       ·have HU:Hid (y=false):=xI (by rw[HRK.out];simp[usesN,kindB,Htext.out,Hkids.out,Hkeys.out,Hents.out,hf]);have ff:decide (0≤int)=false:=by rw[decide_eq_false_iff_not];omega
        clear hf;go_wp2;go_ret;exact⟨zAb HU.out.symm,HBW.out⟩
      ·by_cases hk5:kind=5
       ·subst hk5;have HRK:Hid (y=(usesN 5 int text kids.length keys.length ents.length&&kindB 5 int text kids keys ents)):=xI (by rw[HR.out,HLB.out,zCk];rfl);clear HR;by_cases hc:int=0
        case neg=>
         have HU:Hid (y=false):=xI (by rw[HRK.out];simp[usesN,hc]);have fi:(int != 0)=true:=by simpa using hc
         clear hc;go_wp2;go_ret;exact⟨zAb HU.out.symm,HBW.out⟩
        have Hint:=xI hc;have fi:(int != 0)=false:=by simpa using hc
        clear hc;by_cases hc:text=[]
        case neg=>
         have HU:Hid (y=false):=xI (by rw[HRK.out];simp[usesN,hc]);have ft:=hc;clear hc;go_wp2;go_ret;exact⟨zAb HU.out.symm,HBW.out⟩
        have Htext:=xI hc;have ft:=hc;clear hc;by_cases hc:kids.length=0
        case neg=>
         have HU:Hid (y=false):=xI (by rw[HRK.out];simp[usesN,hc]);have fkids:0<kids.length:=by omega
         have gkids:decide ((0:Int)<(kids.length:Int))=true:=by rw[decide_eq_true_eq];omega
         clear hc;go_wp2;go_ret;exact⟨zAb HU.out.symm,HBW.out⟩
        have Hkids:=xI hc;have fkids:¬ 0<kids.length:=by omega
        have gkids:decide ((0:Int)<(kids.length:Int))=false:=by rw[decide_eq_false_iff_not];omega
        clear hc;by_cases hc:keys.length=0
        case neg=>
         have HU:Hid (y=false):=xI (by rw[HRK.out];simp[usesN,hc]);have fkeys:0<keys.length:=by omega
         have gkeys:decide ((0:Int)<(keys.length:Int))=true:=by rw[decide_eq_true_eq];omega
         clear hc;go_wp2;go_ret;exact⟨zAb HU.out.symm,HBW.out⟩
        have Hkeys:=xI hc;have fkeys:¬ 0<keys.length:=by omega
        have gkeys:decide ((0:Int)<(keys.length:Int))=false:=by rw[decide_eq_false_iff_not];omega
        clear hc;by_cases hc:ents.length=0
        case neg=>
         have HU:Hid (y=false):=xI (by rw[HRK.out];simp[usesN,hc]);have fents:0<ents.length:=by omega
         have gents:decide ((0:Int)<(ents.length:Int))=true:=by rw[decide_eq_true_eq];omega
         clear hc;go_wp2;go_ret;exact⟨zAb HU.out.symm,HBW.out⟩
        have Hents:=xI hc;have fents:¬ 0<ents.length:=by omega
        have gents:decide ((0:Int)<(ents.length:Int))=false:=by rw[decide_eq_false_iff_not];omega
        clear hc;have HU:Hid (y=true):=xI (by rw[HRK.out];simp[usesN,kindB,Hint.out,Htext.out,Hkids.out,Hkeys.out,Hents.out]);go_wp2;go_ret;exact⟨zAb HU.out.symm,HBW.out⟩
       ·by_cases hk6:kind=6
        ·subst hk6;have HRK:Hid (y=(usesN 6 int text kids.length keys.length ents.length&&kindB 6 int text kids keys ents)):=xI (by rw[HR.out,HLB.out,zCk];rfl);clear HR;by_cases hc:int=0
         case neg=>
          have HU:Hid (y=false):=xI (by rw[HRK.out];simp[usesN,hc]);have fi:(int != 0)=true:=by simpa using hc
          clear hc;go_wp2;go_ret;exact⟨zAb HU.out.symm,HBW.out⟩
         have Hint:=xI hc;have fi:(int != 0)=false:=by simpa using hc
         clear hc;by_cases hc:text=[]
         case neg=>
          have HU:Hid (y=false):=xI (by rw[HRK.out];simp[usesN,hc]);have ft:=hc;clear hc;go_wp2;go_ret;exact⟨zAb HU.out.symm,HBW.out⟩
         have Htext:=xI hc;have ft:=hc;clear hc;by_cases hc:keys.length=0
         case neg=>
          have HU:Hid (y=false):=xI (by rw[HRK.out];simp[usesN,hc]);have fkeys:0<keys.length:=by omega
          have gkeys:decide ((0:Int)<(keys.length:Int))=true:=by rw[decide_eq_true_eq];omega
          clear hc;go_wp2;go_ret;exact⟨zAb HU.out.symm,HBW.out⟩
         have Hkeys:=xI hc;have fkeys:¬ 0<keys.length:=by omega
         have gkeys:decide ((0:Int)<(keys.length:Int))=false:=by rw[decide_eq_false_iff_not];omega
         clear hc;by_cases hc:ents.length=0
         case neg=>
          have HU:Hid (y=false):=xI (by rw[HRK.out];simp[usesN,hc]);have fents:0<ents.length:=by omega
          have gents:decide ((0:Int)<(ents.length:Int))=true:=by rw[decide_eq_true_eq];omega
          clear hc;go_wp2;go_ret;exact⟨zAb HU.out.symm,HBW.out⟩
         have Hents:=xI hc;have fents:¬ 0<ents.length:=by omega
         have gents:decide ((0:Int)<(ents.length:Int))=false:=by rw[decide_eq_false_iff_not];omega
         clear hc;by_cases hf:kids.length≤4
         ·have HU:Hid (y=true):=xI (by rw[HRK.out];simp[usesN,kindB,Hint.out,Htext.out,Hkeys.out,Hents.out,hf]);have ff:decide ((kids.length:Int)≤4)=true:=by rw[decide_eq_true_eq];omega
          clear hf;go_wp2;go_ret;exact⟨zAb HU.out.symm,HBW.out⟩
         ·have HU:Hid (y=false):=xI (by rw[HRK.out];simp[usesN,kindB,Hint.out,Htext.out,Hkeys.out,Hents.out,hf]);have ff:decide ((kids.length:Int)≤4)=false:=by rw[decide_eq_false_iff_not];omega
          clear hf;go_wp2;go_ret;exact⟨zAb HU.out.symm,HBW.out⟩
        ·by_cases hk7:kind=7
         ·subst hk7;have HRK:Hid (y=(usesN 7 int text kids.length keys.length ents.length&&kindB 7 int text kids keys ents)):=xI (by rw[HR.out,HLB.out,zCk];rfl);clear HR;by_cases hc:int=0
          case neg=>
           have HU:Hid (y=false):=xI (by rw[HRK.out];simp[usesN,hc]);have fi:(int != 0)=true:=by simpa using hc
           clear hc;go_wp2;go_ret;exact⟨zAb HU.out.symm,HBW.out⟩
          have Hint:=xI hc;have fi:(int != 0)=false:=by simpa using hc
          clear hc;by_cases hc:text=[]
          case neg=>
           have HU:Hid (y=false):=xI (by rw[HRK.out];simp[usesN,hc]);have ft:=hc;clear hc;go_wp2;go_ret;exact⟨zAb HU.out.symm,HBW.out⟩
          have Htext:=xI hc;have ft:=hc;clear hc;by_cases hc:keys.length=0
          case neg=>
           have HU:Hid (y=false):=xI (by rw[HRK.out];simp[usesN,hc]);have fkeys:0<keys.length:=by omega
           have gkeys:decide ((0:Int)<(keys.length:Int))=true:=by rw[decide_eq_true_eq];omega
           clear hc;go_wp2;go_ret;exact⟨zAb HU.out.symm,HBW.out⟩
          have Hkeys:=xI hc;have fkeys:¬ 0<keys.length:=by omega
          have gkeys:decide ((0:Int)<(keys.length:Int))=false:=by rw[decide_eq_false_iff_not];omega
          clear hc;by_cases hc:ents.length=0
          case neg=>
           have HU:Hid (y=false):=xI (by rw[HRK.out];simp[usesN,hc]);have fents:0<ents.length:=by omega
           have gents:decide ((0:Int)<(ents.length:Int))=true:=by rw[decide_eq_true_eq];omega
           clear hc;go_wp2;go_ret;exact⟨zAb HU.out.symm,HBW.out⟩
          have Hents:=xI hc;have fents:¬ 0<ents.length:=by omega
          have gents:decide ((0:Int)<(ents.length:Int))=false:=by rw[decide_eq_false_iff_not];omega
          clear hc;by_cases hl:kids.length=2
          case neg=>
           have hcb:consB kids=false:=by
            match kids,hl with
            | [],_=>rfl
            | [_],_=>rfl
            | [_,_],h=>exact absurd rfl h
            | _::_::_::_,_=>rfl
           have HU:Hid (y=false):=xI (by rw[HRK.out];simp[usesN,kindB,Hint.out,Htext.out,Hkeys.out,Hents.out,hcb]);have fl:((kids.length:Int)==2)=false:=by rw[beq_eq_false_iff_ne];omega
           clear hl hcb;go_wp2;go_ret;exact⟨zAb HU.out.symm,HBW.out⟩
          obtain⟨b,off,cap0,x0,x1,x2,x3,x4,x5,x6,hu,hbH,⟨x',hx,hv⟩,c0,-,-,-,-,-,-⟩:=(HKI.out.on HBW.out (fun _ _ h=>h)).at7 (j:=1) (by omega);injection hu with hA hNN hcc;subst hA hcc;clear hNN;have hkd:=zJ4 hv;simp only[List.getElem?_cons_zero,Option.some.injEq]at hkd;subst hkd;have g0:wr.cell? ⟨b,off+7,none⟩=some (.int .i64 (zAj x')):=by simpa using c0
          have hQ:consB kids=(decide (zAj x'=5)||decide (zAj x'=7)):=by
           match kids,hl,hx with
           | [a,b],_,hx=>
            have:b=x':=by simpa using hx
            rw[this];rfl
          have HQ:=xI hQ;generalize zAj x'=q at g0 HQ;clear hQ hx hv c0 hbH;by_cases h5:q=5
          ·subst h5;have hq:=HQ.out;have HU:Hid (y=true):=xI (by rw[HRK.out];simp[usesN,kindB,Hint.out,Htext.out,Hkeys.out,Hents.out,hq]);clear hq;go_wp2;go_ret;exact⟨zAb HU.out.symm,HBW.out⟩
          ·have hq5:(q==5)=false:=by rw[beq_eq_false_iff_ne];exact h5
           have hq:=HQ.out;have HU:Hid (y=(q==7)):=xI (by rw[HRK.out];by_cases h7:q=7<;>simp[usesN,kindB,Hint.out,Htext.out,Hkeys.out,Hents.out,hq,h5,h7]);clear hq h5;go_wp2;go_ret;exact⟨zAb HU.out.symm,HBW.out⟩
         ·have HNK:=xI (show kind≠1∧kind≠2∧kind≠3∧kind≠4∧kind≠5∧kind≠6∧kind≠7∧kind≠8∧kind≠9 from⟨hk1,hk2,hk3,hk4,hk5,hk6,hk7,hk8,hk9⟩);have fk1:(kind==1)=false:=by simpa using hk1
          have fk2:(kind==2)=false:=by simpa using hk2
          have fk3:(kind==3)=false:=by simpa using hk3
          have fk4:(kind==4)=false:=by simpa using hk4
          have fk5:(kind==5)=false:=by simpa using hk5
          have fk6:(kind==6)=false:=by simpa using hk6
          have fk7:(kind==7)=false:=by simpa using hk7
          have fk8:(kind==8)=false:=by simpa using hk8
          have fk9:(kind==9)=false:=by simpa using hk9
          have fn8:(kind != 8)=true:=by simpa using hk8
          have fn9:(kind != 9)=true:=by simpa using hk9
          have HU:Hid (y=false):=xI (by rw[HR.out];simp[kindB,hk1,hk2,hk3,hk4,hk5,hk6,hk7,hk8,hk9]);clear HR hk1 hk2 hk3 hk4 hk5 hk6 hk7 hk8 hk9;by_cases hc:int=0
          case neg=>
           have fi:(int != 0)=true:=by simpa using hc
           clear hc;go_wp2;go_ret;exact⟨zAb HU.out.symm,HBW.out⟩
          have fi:(int != 0)=false:=by simpa using hc
          clear hc;by_cases hc:text=[]
          case neg=>
           have ft:=hc;clear hc;go_wp2;go_ret;exact⟨zAb HU.out.symm,HBW.out⟩
          have ft:=hc;clear hc;by_cases hc:kids.length=0
          case neg=>
           have fkids:0<kids.length:=by omega
           have gkids:decide ((0:Int)<(kids.length:Int))=true:=by rw[decide_eq_true_eq];omega
           clear hc;go_wp2;go_ret;exact⟨zAb HU.out.symm,HBW.out⟩
          have fkids:¬ 0<kids.length:=by omega
          have gkids:decide ((0:Int)<(kids.length:Int))=false:=by rw[decide_eq_false_iff_not];omega
          clear hc;by_cases hc:keys.length=0
          case neg=>
           have fkeys:0<keys.length:=by omega
           have gkeys:decide ((0:Int)<(keys.length:Int))=true:=by rw[decide_eq_true_eq];omega
           clear hc;go_wp2;go_ret;exact⟨zAb HU.out.symm,HBW.out⟩
          have fkeys:¬ 0<keys.length:=by omega
          have gkeys:decide ((0:Int)<(keys.length:Int))=false:=by rw[decide_eq_false_iff_not];omega
          clear hc;by_cases hc:ents.length=0
          case neg=>
           have fents:0<ents.length:=by omega
           have gents:decide ((0:Int)<(ents.length:Int))=true:=by rw[decide_eq_true_eq];omega
           clear hc;go_wp2;go_ret;exact⟨zAb HU.out.symm,HBW.out⟩
          have fents:¬ 0<ents.length:=by omega
          have gents:decide ((0:Int)<(ents.length:Int))=false:=by rw[decide_eq_false_iff_not];omega
          clear hc;go_wp2;go_ret;exact⟨zAb HU.out.symm,HBW.out⟩
theorem zKp:zQq:=fun k v cs w h=>by
 by_cases h8:zAj v=8
 ·exact zPq k v cs w h h8
 ·by_cases h9:zAj v=9
  ·exact zPp k v cs w h h9
  ·exact zPo k v cs w h ⟨h8,h9⟩
end Go.Proofs.YtcjgaohblaidjaaGreatDoor
