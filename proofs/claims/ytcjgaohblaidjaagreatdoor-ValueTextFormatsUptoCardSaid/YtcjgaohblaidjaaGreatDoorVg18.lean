/- Rows cut at an index; a row of the call's own from its first cell; an operation of a drawn region that is skipped. -/
import Derived.Test.YtcjgaohblaidjaaGreatDoorVgZ
import Derived.Test.YtcjgaohblaidjaaGreatDoorVg00
import Derived.Test.YtcjgaohblaidjaaGreatDoorVg05
import Derived.Test.YtcjgaohblaidjaaGreatDoorVg17
import Derived.Test.YtcjgaohblaidjaaGreatDoorProg
import Derived.WalkKit
import Derived.Lib.Hide
import Derived.BigFrame
import Derived.BigQuiet
import Derived.Deep.LoopGhost
set_option maxRecDepth 100000
set_option maxHeartbeats 6400000
namespace Go.Proofs.YtcjgaohblaidjaaGreatDoor
open Go Go.RowKit
theorem RowB.drop {w:World}{B:Nat→Prop}{c n cap p g o:Nat}{R:Nat→List Value→Prop}(h:RowB w B c (.slice (some ⟨g,o,none⟩) n cap) n R) (hp:p<n) (o2 cap2:Nat) (ho:o2=o+p*c) (hc2:cap2=cap-p:=by rfl):RowB w B c (.slice (some ⟨g,o2,none⟩) (n-p) cap2) (n-p) (fun j cs=>R (p+j) cs):=by
 subst ho hc2;obtain⟨A',cap',h1,h2,h3⟩:=h;injection h1 with e1 _ e3;subst e1 e3;refine⟨_,cap-p,rfl,by omega,fun _=>?_⟩;obtain⟨b,off,h4,h5,h6,h7⟩:=h3 (by omega);injection h4 with h4;injection h4 with e1 e2;subst e1 e2;refine⟨g,o+p*c,rfl,h5,h6,fun j hj=>?_⟩;obtain⟨cs,h8,h9,h10⟩:=h7 (p+j) (by omega);exact⟨cs,h8,fun i hi=>by rw[←h9 i hi,Nat.add_mul,Nat.add_assoc o],h10⟩
theorem OwnE.mono {α:Type}{K:ElK α}{e:TypeId}{c:Nat}{w:World}{base base':Nat}{v:Value}{l:List α}(h:OwnE K e c w base v l) (hb:base'≤base):OwnE K e c w base' v l:=by
 obtain⟨xs,ho,hx⟩:=h;refine⟨xs,⟨ho.1,?_⟩,fun j x hj=>K.sub (fun b h=>⟨by have:=h.1;omega,h.2⟩) (hx j x hj)⟩;rcases ho.2 with hn|⟨g,cap,cur,hv,hg,rest⟩
 ·exact .inl hn
 ·exact .inr ⟨g,cap,cur,hv,by omega,rest⟩
theorem OwnE.formG {α:Type}{K:ElK α}{e:TypeId}{c:Nat}{w:World}{base:Nat}{v:Value}{l:List α}(h:OwnE K e c w base v l) (hl:0<l.length):∃ g cap,v=.slice (some ⟨g,0,none⟩) l.length cap∧base≤g∧g<w.heap.size∧l.length≤cap:=by
 have hlt:=h.blk;obtain⟨xs,ho,_⟩:=h;rcases ho.2 with⟨_,h0⟩|⟨g,cap,cur,rfl,hB,hg,hnc,_⟩
 ·omega
 ·exact⟨g,cap,rfl,hB,(hlt g rfl).2,hnc⟩
theorem zBq {P:Program}{md:Region.Mode}{l:List Oper}{Q:Exit→Act→World→Prop}{S:World→Prop}(i:Nat){o:Oper}{fuel:Nat}{listed:Array Bool}{a:Act}{w:World}(hr:Region.ready md l.toArray listed=[i]) (ho:nthOp l i=some o)
  (hw:Region.wanted o (yielded l.toArray a.tmps)=false) (hS:S w) (h:wpAnyH P md l.toArray Q S fuel (listed.setIfInBounds i true) (a.put o.dst undef) w):wpAnyH P md l.toArray Q S (fuel+1) listed a w:=by
 refine wpAnyH_all (rs:=[i]) hr (by simp) fun j hj=>?_;obtain rfl:j=i:=by simpa using hj
 exact wpOp_step (op_at ho) fun K' hK=>by rw[if_neg (by rw[hw];decide)];exact hK _ _ ⟨hS,h⟩
theorem zNg {ops:Array Oper}{rest:List Oper}{o:Oper}{a:Act}{Q:Exit→Act→World→Prop}{w0:World}(K:ElK Vl) (h1K:∀ x w B cs,K.E x w B cs→∀ u∈cs,u.oneCell'=true) (hgd:o.guard=none) (s x:Operand)
  (ho:o.op=.call { callee:=.builtin .append,args:=#[s,x],argTypes:=#[22,22] }) (base:Nat) (v:Value) (l:List Vl) (hs:a.eval s=v) (hown:OwnE K 27 7 w0 base v l)
  (A:Option Addr) (m cap1:Nat) (l':List Vl) (hm:l'.length=m) (Bs:Nat→Prop) (hx:a.eval x=.slice A m cap1)
  (hR:RowB w0 Bs 7 (.slice A m cap1) m (fun j cs=>∃ y,l'[j]?=some y∧K.E y w0 (fun b=>base≤b∧b<w0.heap.size∧some b≠v.ownBlock) cs)) (hn:l.length+m≤300000000) (hbase:base≤w0.heap.size)
  (h:∀ v' w',OwnE K 27 7 w' base v' (l++l')→Below base w0 w'→(∀ b,b<w0.heap.size→some b≠v.ownBlock→w'.heap[b]?=w0.heap[b]?)→(∀ g,v'.ownBlock=some g→v.ownBlock=some g∨w0.heap.size≤g)→wpList Tryz.prog ops Q rest (a.put o.dst v') w') :
  wpList Tryz.prog ops Q (o::rest) a w0:=by
 obtain⟨i0,hi,hz0,hz1,hz2⟩:=info_parts Tryz.infoV;obtain⟨v',w',h1,h2,h3,h4,h5⟩:=zBr K 22 o.type 27 i0 (.agg #[.int .i64 0,.int .i64 0,.string ⟨#[]⟩,.slice none 0 0,.slice none 0 0,.slice none 0 0,.slice none 0 0]) 7 128 Tryz.underlying22 hi hz0 hz1 hz2 rfl (by decide) (by decide) h1K w0 base v l hown A m cap1 l' hm Bs hR hn hbase;exact Lib.wpList_append_run _ hgd s x 22 22 ho v _ hs hx _ w' h1 (h v' w' h2 h3 h4 h5)
theorem zGy {ops:Array Oper}{rest:List Oper}{o:Oper}{a:Act}{Q:Exit→Act→World→Prop}{w0:World}(K:ElK En) (h1K:∀ x w B cs,K.E x w B cs→∀ u∈cs,u.oneCell'=true) (hgd:o.guard=none) (s x:Operand)
  (ho:o.op=.call { callee:=.builtin .append,args:=#[s,x],argTypes:=#[24,24] }) (base:Nat) (v:Value) (l:List En) (hs:a.eval s=v) (hown:OwnE K 45 9 w0 base v l)
  (A:Option Addr) (m cap1:Nat) (l':List En) (hm:l'.length=m) (Bs:Nat→Prop) (hx:a.eval x=.slice A m cap1)
  (hR:RowB w0 Bs 9 (.slice A m cap1) m (fun j cs=>∃ y,l'[j]?=some y∧K.E y w0 (fun b=>base≤b∧b<w0.heap.size∧some b≠v.ownBlock) cs)) (hn:l.length+m≤300000000) (hbase:base≤w0.heap.size)
  (h:∀ v' w',OwnE K 45 9 w' base v' (l++l')→Below base w0 w'→(∀ b,b<w0.heap.size→some b≠v.ownBlock→w'.heap[b]?=w0.heap[b]?)→(∀ g,v'.ownBlock=some g→v.ownBlock=some g∨w0.heap.size≤g)→wpList Tryz.prog ops Q rest (a.put o.dst v') w') :
  wpList Tryz.prog ops Q (o::rest) a w0:=by
 obtain⟨i0,hi,hz0,hz1,hz2⟩:=info_parts Tryz.infoE;obtain⟨v',w',h1,h2,h3,h4,h5⟩:=zBr K 24 o.type 45 i0 (.agg #[.slice none 0 0,.bool false,.int .i64 0,.int .i64 0,.string ⟨#[]⟩,.slice none 0 0,.slice none 0 0,.slice none 0 0,.slice none 0 0]) 9 160 Tryz.underlying24 hi hz0 hz1 hz2 rfl (by decide) (by decide) h1K w0 base v l hown A m cap1 l' hm Bs hR hn hbase;exact Lib.wpList_append_run _ hgd s x 24 24 ho v _ hs hx _ w' h1 (h v' w' h2 h3 h4 h5)
theorem List.len_ne {α:Type}{l:List α}(h:¬ l.length=0):0<l.length:=by omega
theorem zPq (k:Nat) (v:Vl) (cs:List Value) (w:World) (h:VS k w w.heap.size v cs) (hkd:zAj v=8):Calls Tryz.prog 36 #[.agg cs.toArray] w fun e w'=>e=.returned (.bool (nodeV v))∧Below w.heap.size w w':=by
 cases k with
 | zero=>exact h.elim
 | succ k=>
 obtain⟨kind,int,text,kids,keys,ents,labs⟩:=v;have HKD:=xI hkd;clear hkd;obtain⟨uk,uy,ue,ul,rfl,wf1,wf2,wf3,hk,hyy,he,hll⟩:=h;obtain⟨A,cA,rfl,hkl⟩:=hk.form;obtain⟨Y,cY,rfl,hyl⟩:=hyy.form;obtain⟨E,cE,rfl,hel⟩:=he.form;obtain⟨L,cL,rfl,hll'⟩:=hll.form;have HKI:=xI hk;have HKE:=xI hyy;have HEN:=xI he;have HLL:=xI hll;have HLN:=xI (aN wf3 (aN hkl (aN hyl (aN hel hll'))));clear hk hyy he hll wf1 wf2 wf3 hkl hyl hel hll';have HR:Hid (nodeV (.mk kind int text kids keys ents labs)=(zAi labs&&usesB kind int text kids keys ents&&kindB kind int text kids keys ents)):=xI rfl;generalize nodeV (.mk kind int text kids keys ents labs)=y at HR ⊢;obtain⟨W,hW⟩:∃ W,W=w.alloc (.cells #[.int .i64 kind,.int .i64 int,.string ⟨text.toArray⟩,.slice A kids.length cA,.slice Y keys.length cY,.slice E ents.length cE,.slice L labs.length cL] 27):=⟨_,rfl⟩;have hbl:Below w.heap.size w W:=by rw[hW];exact bR.alloc lR _
 have d0:W.cell? ⟨w.heap.size,0,none⟩=some (.int .i64 kind):=by rw[hW];simp
 have d1:W.cell? ⟨w.heap.size,1,none⟩=some (.int .i64 int):=by rw[hW];simp
 have d2:W.cell? ⟨w.heap.size,2,none⟩=some (.string ⟨text.toArray⟩):=by rw[hW];simp
 have d3:W.cell? ⟨w.heap.size,3,none⟩=some (.slice A kids.length cA):=by rw[hW];simp
 have d4:W.cell? ⟨w.heap.size,4,none⟩=some (.slice Y keys.length cY):=by rw[hW];simp
 have d5:W.cell? ⟨w.heap.size,5,none⟩=some (.slice E ents.length cE):=by rw[hW];simp
 have d6:W.cell? ⟨w.heap.size,6,none⟩=some (.slice L labs.length cL):=by rw[hW];simp
 have hlt:w.heap.size<W.heap.size:=by rw[hW];simp
 have HB:=xI hbl;clear hbl;go_enter Tryz.func36,Tryz.ntmps36;go_wp2_with fail;rw[←hW];clear hW;generalize hnl:labs.length=nl at *;have HNL:=xI hnl;clear hnl
 go_loopw [3] (fun i wr=>∃ j:Nat,i=.int .i64 j∧j≤nl∧zAi (labs.take j)=true∧Below W.heap.size W wr) (fun i _=>nl-(intOf i).toNat)
 case atStart=>exact⟨0,rfl,by omega,by simp[zAi,AscC],Below.refl _ _⟩
 case round=>
  obtain⟨j,rfl,hj,hall,hb⟩:=hrel;have HALL:=xI hall;clear hall;have e6:wr.cell? ⟨w.heap.size,6,none⟩=some (.slice L nl cL):=(hb.cell (p:=⟨w.heap.size,6,none⟩) hlt).trans d6;by_cases hjn:j<nl
  ·have hbw:Below w.heap.size w wr:=HB.out.trans (hb.mono HB.out.size);obtain⟨b,off,cap0,x0,hu,hbH,⟨x,hx,hxs,hxl⟩,c0⟩:=(HLL.out.on hbw (fun _ _ h=>h)).at1 (j:=j) (by have:=HNL.out;omega);injection hu with hA hNN hcc;subst hA hcc;clear hNN;simp only[List.cons.injEq,and_true]at hxs;subst hxs;have hvc:=zB0 ⟨x.toArray⟩ wr.drew (by simpa [ByteArray.size] using hxl);rw[show (⟨x.toArray⟩:ByteArray).data.toList=x from rfl]at hvc;have HX:=xI hx;have HV:=xI hb;have HBW:=xI hbw;have kn:(j:Int)<(nl:Int):=by omega
   have k0:(0:Int)≤(j:Int):=by omega
   have HVX:Hid (varB x=varB x):=xI rfl;generalize hvx:varB x=z at hvc;have HVZ:=xI hvx;clear hx hb hbw hvx HVX;cases z
   ·have HU:Hid (y=false):=xI (by rw[HR.out,zCc HX.out (.inl HVZ.out)];rfl);go_wp2_with fail;refine wp_region_held_drew (S:=fun V=>V.cell? ⟨w.heap.size,6,none⟩=some (.slice (some ⟨b,off,none⟩) nl cL)∧V.cell? ⟨b,off+j,none⟩=some (.string ⟨x.toArray⟩)) (by kernel_rfl) ⟨e6,c0⟩ (fun hHeld=>?_);refine tk 0 hHeld ?_
    try simp only[pK]
    iterate 4 (refine ts hHeld ?_;try simp only[pK])
    refine oO 5 fun K hK=>?_;go_simp;refine hvc.mono ?_;rintro e w2 ⟨rfl,hw2⟩;subst hw2;refine hK _ _ hHeld ?_
    try simp only[pK]
    refine tk 6 hHeld ?_
    try simp only[pK]
    refine tk 7 hHeld ?_
    try simp only[pK]
    refine tu 8 hHeld ?_
    try simp only[pK]
    refine tu 9 hHeld ?_
    try simp only[pK]
    refine tu 10 hHeld ?_
    try simp only[pK]
    refine tu 11 hHeld ?_
    try simp only[pK]
    refine tu 12 hHeld ?_
    try simp only[pK]
    refine tu 13 hHeld ?_
    try simp only[pK]
    refine tu 14 hHeld ?_
    try simp only[pK]
    refine tu 15 hHeld ?_
    try simp only[pK]
    refine tu 16 hHeld ?_
    try simp only[pK]
    refine tu 17 hHeld ?_
    try simp only[pK]
    refine tu 18 hHeld ?_
    try simp only[pK]
    refine tu 19 hHeld ?_
    try simp only[pK]
    refine tu 20 hHeld ?_
    try simp only[pK]
    refine tu 21 hHeld ?_
    try simp only[pK]
    refine tu 22 hHeld ?_
    try simp only[pK]
    refine tu 23 hHeld ?_
    try simp only[pK]
    refine tk 24 hHeld ?_
    try simp only[pK]
    refine (wD ?_) _;go_wp2;go_ret;exact⟨zAb HU.out.symm,HBW.out.drew⟩
   ·by_cases hj0:j=0
    ·subst hj0;have HST:=xI (zBu HX.out HALL.out HVZ.out (.inl rfl));have q0:decide ((0:Int)<((0:Nat):Int))=false:=rfl;go_wp2_with fail;refine wp_region_held_drew (S:=fun V=>V.cell? ⟨w.heap.size,6,none⟩=some (.slice (some ⟨b,off,none⟩) nl cL)∧V.cell? ⟨b,off,none⟩=some (.string ⟨x.toArray⟩)) (by kernel_rfl) ⟨e6,by simpa using c0⟩ (fun hHeld=>?_);refine tk 0 hHeld ?_
     try simp only[pK]
     iterate 4 (refine ts hHeld ?_;try simp only[pK])
     refine oO 5 fun K hK=>?_;go_simp;refine hvc.mono ?_;rintro e w2 ⟨rfl,hw2⟩;subst hw2;refine hK _ _ hHeld ?_
     try simp only[pK]
     refine tk 6 hHeld ?_
     try simp only[pK]
     iterate 4 (refine ts hHeld ?_;try simp only[pK])
     refine tu 11 hHeld ?_
     try simp only[pK]
     refine tu 12 hHeld ?_
     try simp only[pK]
     refine tu 13 hHeld ?_
     try simp only[pK]
     refine tu 14 hHeld ?_
     try simp only[pK]
     refine tu 15 hHeld ?_
     try simp only[pK]
     refine tu 16 hHeld ?_
     try simp only[pK]
     refine tu 17 hHeld ?_
     try simp only[pK]
     refine tu 18 hHeld ?_
     try simp only[pK]
     refine tu 19 hHeld ?_
     try simp only[pK]
     refine tu 20 hHeld ?_
     try simp only[pK]
     refine tu 21 hHeld ?_
     try simp only[pK]
     refine tu 22 hHeld ?_
     try simp only[pK]
     refine tk 23 hHeld ?_
     try simp only[pK]
     refine tk 24 hHeld ?_
     try simp only[pK]
     refine (wD ?_) _;go_wp2_with fail
     go_roundw
     case rel=>exact⟨0+1,by go_num,by omega,HST.out,HV.out.drew⟩
     case measure=>simp[intOf];omega
    ·obtain⟨m,hm⟩:∃ m,j=m+1:=⟨j-1,by omega⟩;obtain⟨b',off',cap1,x1,hu,_,⟨p,hp,hps,hpl⟩,c1⟩:=(HLL.out.on HBW.out (fun _ _ h=>h)).at1 (j:=m) (by have:=HNL.out;omega);injection hu with hA hNN hcc;injection hA with hA;injection hA with g1 g2;subst g1 g2;clear hNN hcc;simp only[List.cons.injEq,and_true]at hps;subst hps;have HP:Hid (labs[j-1]?=some p):=xI (by rw[hm,Nat.add_sub_cancel];exact hp);have HJ0:Hid (0<j):=xI (by omega);have q0:decide (0<j)=true:=by rw[decide_eq_true_eq];omega
     have qm:IntKind.i64.wrap ((j:Int)-1)=(m:Int):=by rw[IntWalk.i64_in _ (by have:=HLN.out.2.2.2.2;have:=HNL.out;unfold maxLen at *;omega)];omega
     have km:(m:Int)<(nl:Int):=by omega
     have km0:(0:Int)≤(m:Int):=by omega
     have hlc:=zHe p x;generalize hgz:Op.bytesLess p x=g at hlc;have HGC:=xI hlc;clear hp hm hlc hj0;cases g
     ·have HU:Hid (y=false):=xI (by rw[HR.out,zCc HX.out (.inr ⟨HJ0.out,p,HP.out,by have:=HGC.out;simpa using this.symm⟩)];rfl);go_wp2_with fail;refine wp_region_held_drew (S:=fun V=>V.cell? ⟨w.heap.size,6,none⟩=some (.slice (some ⟨b,off,none⟩) nl cL)∧V.cell? ⟨b,off+j,none⟩=some (.string ⟨x.toArray⟩)∧V.cell? ⟨b,off+m,none⟩=some (.string ⟨p.toArray⟩)) (by kernel_rfl) ⟨e6,c0,c1⟩ (fun hHeld=>?_);refine tk 0 hHeld ?_
      try simp only[pK]
      iterate 4 (refine ts hHeld ?_;try simp only[pK])
      refine oO 5 fun K hK=>?_;go_simp;refine hvc.mono ?_;rintro e w2 ⟨rfl,hw2⟩;subst hw2;refine hK _ _ hHeld ?_
      try simp only[pK]
      refine tk 6 hHeld ?_
      try simp only[pK]
      iterate 18 (refine ts hHeld ?_;try simp only[pK])
      refine (wD ?_) _;go_wp2;go_ret;exact⟨zAb HU.out.symm,HBW.out.drew⟩
     ·have HST:=xI (zBu HX.out HALL.out HVZ.out (.inr ⟨p,HP.out,by have:=HGC.out;simpa using this.symm⟩));have qj:IntKind.i64.wrap ((j:Int)+1)=(j:Int)+1:=IntWalk.i64_in _ (by have:=HLN.out.2.2.2.2;have:=HNL.out;unfold maxLen at *;omega);go_wp2_with fail;refine wp_region_held_drew (S:=fun V=>V.cell? ⟨w.heap.size,6,none⟩=some (.slice (some ⟨b,off,none⟩) nl cL)∧V.cell? ⟨b,off+j,none⟩=some (.string ⟨x.toArray⟩)∧V.cell? ⟨b,off+m,none⟩=some (.string ⟨p.toArray⟩)) (by kernel_rfl) ⟨e6,c0,c1⟩ (fun hHeld=>?_);refine tk 0 hHeld ?_
      try simp only[pK]
      iterate 4 (refine ts hHeld ?_;try simp only[pK])
      refine oO 5 fun K hK=>?_;go_simp;refine hvc.mono ?_;rintro e w2 ⟨rfl,hw2⟩;subst hw2;refine hK _ _ hHeld ?_
      try simp only[pK]
      refine tk 6 hHeld ?_
      try simp only[pK]
      iterate 18 (refine ts hHeld ?_;try simp only[pK])
      refine (wD ?_) _;go_wp2_with fail
      go_roundw
      case rel=>exact⟨j+1,by go_num,by omega,HST.out,HV.out.drew⟩
      case measure=>simp[intOf];omega
  ·have HLB:Hid (zAi labs=true):=xI (by
    have hke:labs.take j=labs:=List.take_of_length_le (by have:=HNL.out;omega);rw[←hke];exact HALL.out)
   have HBW:=xI (HB.out.trans (hb.mono HB.out.size));have HLTr:=xI (Nat.lt_of_lt_of_le hlt hb.size);have e0:wr.cell? ⟨w.heap.size,0,none⟩=some (.int .i64 kind):=(hb.cell (p:=⟨w.heap.size,0,none⟩) hlt).trans d0;have e1:wr.cell? ⟨w.heap.size,1,none⟩=some (.int .i64 int):=(hb.cell (p:=⟨w.heap.size,1,none⟩) hlt).trans d1;have e2:wr.cell? ⟨w.heap.size,2,none⟩=some (.string ⟨text.toArray⟩):=(hb.cell (p:=⟨w.heap.size,2,none⟩) hlt).trans d2;have e3:wr.cell? ⟨w.heap.size,3,none⟩=some (.slice A kids.length cA):=(hb.cell (p:=⟨w.heap.size,3,none⟩) hlt).trans d3;have e4:wr.cell? ⟨w.heap.size,4,none⟩=some (.slice Y keys.length cY):=(hb.cell (p:=⟨w.heap.size,4,none⟩) hlt).trans d4;have e5:wr.cell? ⟨w.heap.size,5,none⟩=some (.slice E ents.length cE):=(hb.cell (p:=⟨w.heap.size,5,none⟩) hlt).trans d5;clear d0 d1 d2 d3 d4 d5 d6 hb hlt hj HALL;have jf:decide ((j:Int)<(nl:Int))=false:=by simp;omega
   have hk8:kind=8:=HKD.out;clear HKD;subst hk8;have HRK:Hid (y=(usesN 8 int text kids.length keys.length ents.length&&kindB 8 int text kids keys ents)):=xI (by rw[HR.out,HLB.out,zCk];rfl);clear HR;by_cases hc:int=0
   case neg=>
    have HU:Hid (y=false):=xI (by rw[HRK.out];simp[usesN,hc]);have fi:(int != 0)=true:=by simpa using hc
    clear hc;go_wp2;go_ret;exact⟨zAb HU.out.symm,HBW.out⟩
   have Hint:=xI hc;have fi:(int != 0)=false:=by simpa using hc
   clear hc;by_cases hc:text=[]
   case neg=>
    have HU:Hid (y=false):=xI (by rw[HRK.out];simp[usesN,hc]);have ft:=hc;clear hc;go_wp2;go_ret;exact⟨zAb HU.out.symm,HBW.out⟩
   have Htext:=xI hc;have ft:=hc;clear hc;by_cases hc:ents.length=0
   case neg=>
    have HU:Hid (y=false):=xI (by rw[HRK.out];simp[usesN,hc]);have fents:0<ents.length:=by omega
    have gents:decide ((0:Int)<(ents.length:Int))=true:=by rw[decide_eq_true_eq];omega
    clear hc;go_wp2;go_ret;exact⟨zAb HU.out.symm,HBW.out⟩
   have Hents:=xI hc;have fents:¬ 0<ents.length:=by omega
   have gents:decide ((0:Int)<(ents.length:Int))=false:=by rw[decide_eq_false_iff_not];omega
   clear hc;have HKY:Hid (y=(zB9 (fun x=>keyB x.1 x.2) cmpK keys&&decide (keys.length=kids.length))):=xI (by rw[HRK.out];simp[usesN,kindB,zB9,Hint.out,Htext.out,Hents.out]);clear HRK;generalize hnk:keys.length=nk at *;have HNK:=xI hnk;clear hnk;go_wp2_with fail;clear fi ft fents gents jf hjn e6;rename World=>X
   go_loopw [7] (fun i w2=>∃ q:Nat,i=.int .i64 q∧q≤nk∧zB9 (fun x=>keyB x.1 x.2) cmpK (keys.take q)=true∧Below X.heap.size X w2) (fun i _=>nk-(intOf i).toNat)
   case atStart=>exact⟨0,rfl,by omega,by simp[zB9,AscC],Below.refl _ _⟩
   case round=>
    obtain⟨q,rfl,hq,hall,hb⟩:=hrel;have HALL:=xI hall;clear hall;have g4:wr.cell? ⟨w.heap.size,4,none⟩=some (.slice Y nk cY):=(hb.cell (p:=⟨w.heap.size,4,none⟩) HLTr.out).trans e4;by_cases hqn:q<nk
    ·obtain⟨b,off,cap0,x0,x1,hu,hbH,⟨x,hx,hxs,hwf,hxl⟩,c0,c1⟩:=(HKE.out.on HBW.out (fun _ _ h=>h)).at2 (j:=q) (by have:=HNK.out;omega);injection hu with hA hNN hcc;subst hA hcc;clear hNN hwf;simp only[List.cons.injEq,and_true]at hxs;obtain⟨rfl,rfl⟩:=hxs;have hbX:b<X.heap.size:=Nat.lt_of_lt_of_le hbH HBW.out.size;have hvc:Hid (∀ U,Calls Tryz.prog 77 #[.agg #[.int .i64 x.1,.string ⟨x.2.toArray⟩]] U fun e w'=>e=.returned (.bool (keyB x.1 x.2))∧Below U.heap.size U w'):=xI fun U=>zCe x.1 ⟨x.2.toArray⟩ U (by simpa [ByteArray.size] using hxl);have HX:=xI hx;have HBW2:=xI hb;have kn:(q:Int)<(nk:Int):=by omega
     have k0:(0:Int)≤(q:Int):=by omega
     generalize hvx:keyB x.1 x.2=z at hvc;have HVZ:=xI hvx;have HLT:=xI (aN HLTr.out hbX);have HD:=xI (aN e4 (aN c0 c1));have HE4:=xI e3;clear hx hb hvx hbH hbX hxl e0 e1 e2 e3 e4 e5 c0 c1;cases z
     ·have HU:Hid (y=false):=xI (by rw[HKY.out,zCt HX.out (.inl HVZ.out)];rfl);have HS:Hid (∀ V,Below X.heap.size X V→V.cell? ⟨w.heap.size,4,none⟩=some (.slice (some ⟨b,off,none⟩) nk cY)∧V.cell? ⟨b,off+q*2,none⟩=some (.int .i64 x.1)∧V.cell? ⟨b,off+q*2+1,none⟩=some (.string ⟨x.2.toArray⟩)):=xI fun V hV=>by
       have hz:X.heap.size≤V.heap.size:=hV.size;exact⟨(hV.cell (p:=⟨w.heap.size,4,none⟩) HLT.out.1).trans HD.out.1,(hV.cell (p:=⟨b,_,none⟩) HLT.out.2).trans HD.out.2.1,(hV.cell (p:=⟨b,_,none⟩) HLT.out.2).trans HD.out.2.2⟩
      go_wp2_with fail;refine wp_region_held_drew (S:=fun V=>V.cell? ⟨w.heap.size,4,none⟩=some (.slice (some ⟨b,off,none⟩) nk cY)∧V.cell? ⟨b,off+q*2,none⟩=some (.int .i64 x.1)∧V.cell? ⟨b,off+q*2+1,none⟩=some (.string ⟨x.2.toArray⟩)) (by kernel_rfl) (HS.out _ HBW2.out.drew) (fun hHeld=>?_);refine tk 0 hHeld ?_
      try simp only[pK]
      iterate 4 (refine ts hHeld ?_;try simp only[pK])
      refine oO 5 fun K hK=>?_;go_simp;refine (hvc.out _).mono ?_;rintro e w2 ⟨rfl,hb2⟩;have HB2:=xI (HBW2.out.drew.trans (hb2.mono HBW2.out.drew.size));have hS2:=HS.out w2 HB2.out;refine hK _ _ hS2 ?_
      try simp only[pK]
      refine tk 6 hS2 ?_
      try simp only[pK]
      refine tk 7 hS2 ?_
      try simp only[pK]
      refine tu 8 hS2 ?_
      try simp only[pK]
      refine tu 9 hS2 ?_
      try simp only[pK]
      refine tu 10 hS2 ?_
      try simp only[pK]
      refine tu 11 hS2 ?_
      try simp only[pK]
      refine tu 12 hS2 ?_
      try simp only[pK]
      refine tu 13 hS2 ?_
      try simp only[pK]
      refine tu 14 hS2 ?_
      try simp only[pK]
      refine tu 15 hS2 ?_
      try simp only[pK]
      refine tu 16 hS2 ?_
      try simp only[pK]
      refine tu 17 hS2 ?_
      try simp only[pK]
      refine tu 18 hS2 ?_
      try simp only[pK]
      refine tu 19 hS2 ?_
      try simp only[pK]
      refine tu 20 hS2 ?_
      try simp only[pK]
      refine tu 21 hS2 ?_
      try simp only[pK]
      refine zBq 22 (by kernel_rfl) rfl (by rfl) hS2 ?_
      try simp only[pK]
      refine tu 23 hS2 ?_
      try simp only[pK]
      refine tu 24 hS2 ?_
      try simp only[pK]
      refine tk 25 hS2 ?_
      try simp only[pK]
      refine (wD ?_) _;go_wp2;go_ret;exact⟨zAb HU.out.symm,HBW.out.trans (HB2.out.mono HBW.out.size)⟩
     ·by_cases hj0:q=0
      ·subst hj0;have HST:=xI (zB4 totK (p:=fun x=>keyB x.1 x.2) HX.out HALL.out HVZ.out (.inl rfl));have q0:decide ((0:Int)<((0:Nat):Int))=false:=rfl;have HS:Hid (∀ V,Below X.heap.size X V→V.cell? ⟨w.heap.size,4,none⟩=some (.slice (some ⟨b,off,none⟩) nk cY)∧V.cell? ⟨b,off,none⟩=some (.int .i64 x.1)∧V.cell? ⟨b,off+1,none⟩=some (.string ⟨x.2.toArray⟩)):=xI fun V hV=>by
        have hz:X.heap.size≤V.heap.size:=hV.size;have h1:=(hV.cell (p:=⟨b,_,none⟩) HLT.out.2).trans HD.out.2.1;have h2:=(hV.cell (p:=⟨b,_,none⟩) HLT.out.2).trans HD.out.2.2;exact⟨(hV.cell (p:=⟨w.heap.size,4,none⟩) HLT.out.1).trans HD.out.1,by simpa using h1,by simpa using h2⟩
       go_wp2_with fail;refine wp_region_held_drew (S:=fun V=>V.cell? ⟨w.heap.size,4,none⟩=some (.slice (some ⟨b,off,none⟩) nk cY)∧V.cell? ⟨b,off,none⟩=some (.int .i64 x.1)∧V.cell? ⟨b,off+1,none⟩=some (.string ⟨x.2.toArray⟩)) (by kernel_rfl) (HS.out _ HBW2.out.drew) (fun hHeld=>?_);refine tk 0 hHeld ?_
       try simp only[pK]
       iterate 4 (refine ts hHeld ?_;try simp only[pK])
       refine oO 5 fun K hK=>?_;go_simp;refine (hvc.out _).mono ?_;rintro e w2 ⟨rfl,hb2⟩;have HB2:=xI (HBW2.out.drew.trans (hb2.mono HBW2.out.drew.size));have hS2:=HS.out w2 HB2.out;refine hK _ _ hS2 ?_
       try simp only[pK]
       refine tk 6 hS2 ?_
       try simp only[pK]
       iterate 4 (refine ts hS2 ?_;try simp only[pK])
       refine tu 11 hS2 ?_
       try simp only[pK]
       refine tu 12 hS2 ?_
       try simp only[pK]
       refine tu 13 hS2 ?_
       try simp only[pK]
       refine tu 14 hS2 ?_
       try simp only[pK]
       refine tu 15 hS2 ?_
       try simp only[pK]
       refine tu 16 hS2 ?_
       try simp only[pK]
       refine tu 17 hS2 ?_
       try simp only[pK]
       refine tu 18 hS2 ?_
       try simp only[pK]
       refine tu 19 hS2 ?_
       try simp only[pK]
       refine tu 20 hS2 ?_
       try simp only[pK]
       refine tu 21 hS2 ?_
       try simp only[pK]
       refine zBq 22 (by kernel_rfl) rfl (by rfl) hS2 ?_
       try simp only[pK]
       refine tu 23 hS2 ?_
       try simp only[pK]
       refine tk 24 hS2 ?_
       try simp only[pK]
       refine tk 25 hS2 ?_
       try simp only[pK]
       refine (wD ?_) _;go_wp2_with fail
       go_roundw
       case rel=>exact⟨0+1,by go_num,by omega,HST.out,HB2.out⟩
       case measure=>simp[intOf];omega
      ·obtain⟨m,hm⟩:∃ m,q=m+1:=⟨q-1,by omega⟩;obtain⟨b',off',cap1,y0,y1,hu,_,⟨p,hp,hps,_,_⟩,d0,d1⟩:=(HKE.out.on HBW.out (fun _ _ h=>h)).at2 (j:=m) (by have:=HNK.out;omega);injection hu with hA hNN hcc;injection hA with hA;injection hA with g1 g2;subst g1 g2;clear hNN hcc;simp only[List.cons.injEq,and_true]at hps;obtain⟨rfl,rfl⟩:=hps;have HP:Hid (keys[q-1]?=some p):=xI (by rw[hm,Nat.add_sub_cancel];exact hp);have HJ0:Hid (0<q):=xI (by omega);have q0:decide (0<q)=true:=by rw[decide_eq_true_eq];omega
       have qm:IntKind.i64.wrap ((q:Int)-1)=(m:Int):=by rw[IntWalk.i64_in _ (by have:=HLN.out.2.2.1;have:=HNK.out;unfold maxLen at *;omega)];omega
       have km:(m:Int)<(nk:Int):=by omega
       have km0:(0:Int)≤(m:Int):=by omega
       have hcc2:Hid (∀ U,Calls Tryz.prog 49 #[.agg #[.int .i64 p.1,.string ⟨p.2.toArray⟩],.agg #[.int .i64 x.1,.string ⟨x.2.toArray⟩]] U fun e w'=>e=.returned (.int .i64 (cmpK p x))∧Below U.heap.size U w'):=xI fun U=>zEe p x U;generalize hcz:cmpK p x=cz at hcc2;have HCZ:=xI hcz;have HD2:=xI (aN d0 d1);clear hcz hp hm hj0 d0 d1;have HS:Hid (∀ V,Below X.heap.size X V→V.cell? ⟨w.heap.size,4,none⟩=some (.slice (some ⟨b,off,none⟩) nk cY)∧V.cell? ⟨b,off+q*2,none⟩=some (.int .i64 x.1)∧V.cell? ⟨b,off+q*2+1,none⟩=some (.string ⟨x.2.toArray⟩)∧V.cell? ⟨b,off+m*2,none⟩=some (.int .i64 p.1)∧V.cell? ⟨b,off+m*2+1,none⟩=some (.string ⟨p.2.toArray⟩)):=xI fun V hV=>by
        have hz:X.heap.size≤V.heap.size:=hV.size;exact⟨(hV.cell (p:=⟨w.heap.size,4,none⟩) HLT.out.1).trans HD.out.1,(hV.cell (p:=⟨b,_,none⟩) HLT.out.2).trans HD.out.2.1,(hV.cell (p:=⟨b,_,none⟩) HLT.out.2).trans HD.out.2.2,(hV.cell (p:=⟨b,_,none⟩) HLT.out.2).trans HD2.out.1,(hV.cell (p:=⟨b,_,none⟩) HLT.out.2).trans HD2.out.2⟩
       by_cases hcg:cz<0
       ·have qg:decide ((0:Int)≤cz)=false:=by rw[decide_eq_false_iff_not];omega
        have HST:=xI (zB4 totK (p:=fun x=>keyB x.1 x.2) HX.out HALL.out HVZ.out (.inr ⟨p,HP.out,by rw[HCZ.out];exact hcg⟩));have qj:IntKind.i64.wrap ((q:Int)+1)=(q:Int)+1:=IntWalk.i64_in _ (by have:=HLN.out.2.2.1;have:=HNK.out;unfold maxLen at *;omega);clear hcg;go_wp2_with fail;refine wp_region_held_drew (S:=fun V=>V.cell? ⟨w.heap.size,4,none⟩=some (.slice (some ⟨b,off,none⟩) nk cY)∧V.cell? ⟨b,off+q*2,none⟩=some (.int .i64 x.1)∧V.cell? ⟨b,off+q*2+1,none⟩=some (.string ⟨x.2.toArray⟩)∧V.cell? ⟨b,off+m*2,none⟩=some (.int .i64 p.1)∧V.cell? ⟨b,off+m*2+1,none⟩=some (.string ⟨p.2.toArray⟩)) (by kernel_rfl) (HS.out _ HBW2.out.drew) (fun hHeld=>?_);refine tk 0 hHeld ?_
        try simp only[pK]
        iterate 4 (refine ts hHeld ?_;try simp only[pK])
        refine oO 5 fun K hK=>?_;go_simp;refine (hvc.out _).mono ?_;rintro e w2 ⟨rfl,hb2⟩;have HB2:=xI (HBW2.out.drew.trans (hb2.mono HBW2.out.drew.size));have hS2:=HS.out w2 HB2.out;refine hK _ _ hS2 ?_
        try simp only[pK]
        refine tk 6 hS2 ?_
        try simp only[pK]
        iterate 15 (refine ts hS2 ?_;try simp only[pK])
        refine oO 22 fun K hK=>?_;go_simp;refine (hcc2.out w2).mono ?_;rintro e w3 ⟨rfl,hb3⟩;have HB3:=xI (HB2.out.trans (hb3.mono HB2.out.size));have hS3:=HS.out w3 HB3.out;refine hK _ _ hS3 ?_
        try simp only[pK]
        refine tk 23 hS3 ?_
        try simp only[pK]
        iterate 2 (refine ts hS3 ?_;try simp only[pK])
        refine (wD ?_) _;go_wp2_with fail
        go_roundw
        case rel=>exact⟨q+1,by go_num,by omega,HST.out,HB3.out⟩
        case measure=>simp[intOf];omega
       ·have qg:decide ((0:Int)≤cz)=true:=by rw[decide_eq_true_eq];omega
        have HU:Hid (y=false):=xI (by rw[HKY.out,zCt HX.out (.inr ⟨HJ0.out,p,HP.out,by rw[HCZ.out];exact hcg⟩)];rfl);clear hcg;go_wp2_with fail;refine wp_region_held_drew (S:=fun V=>V.cell? ⟨w.heap.size,4,none⟩=some (.slice (some ⟨b,off,none⟩) nk cY)∧V.cell? ⟨b,off+q*2,none⟩=some (.int .i64 x.1)∧V.cell? ⟨b,off+q*2+1,none⟩=some (.string ⟨x.2.toArray⟩)∧V.cell? ⟨b,off+m*2,none⟩=some (.int .i64 p.1)∧V.cell? ⟨b,off+m*2+1,none⟩=some (.string ⟨p.2.toArray⟩)) (by kernel_rfl) (HS.out _ HBW2.out.drew) (fun hHeld=>?_);refine tk 0 hHeld ?_
        try simp only[pK]
        iterate 4 (refine ts hHeld ?_;try simp only[pK])
        refine oO 5 fun K hK=>?_;go_simp;refine (hvc.out _).mono ?_;rintro e w2 ⟨rfl,hb2⟩;have HB2:=xI (HBW2.out.drew.trans (hb2.mono HBW2.out.drew.size));have hS2:=HS.out w2 HB2.out;refine hK _ _ hS2 ?_
        try simp only[pK]
        refine tk 6 hS2 ?_
        try simp only[pK]
        iterate 15 (refine ts hS2 ?_;try simp only[pK])
        refine oO 22 fun K hK=>?_;go_simp;refine (hcc2.out w2).mono ?_;rintro e w3 ⟨rfl,hb3⟩;have HB3:=xI (HB2.out.trans (hb3.mono HB2.out.size));have hS3:=HS.out w3 HB3.out;refine hK _ _ hS3 ?_
        try simp only[pK]
        refine tk 23 hS3 ?_
        try simp only[pK]
        iterate 2 (refine ts hS3 ?_;try simp only[pK])
        refine (wD ?_) _;go_wp2;go_ret;exact⟨zAb HU.out.symm,HBW.out.trans (HB3.out.mono HBW.out.size)⟩
    ·have HKA:Hid (zB9 (fun x=>keyB x.1 x.2) cmpK keys=true):=xI (by
      have hke:keys.take q=keys:=List.take_of_length_le (by have:=HNK.out;omega);rw[←hke];exact HALL.out)
     have g3:wr.cell? ⟨w.heap.size,3,none⟩=some (.slice A kids.length cA):=(hb.cell (p:=⟨w.heap.size,3,none⟩) HLTr.out).trans e3;have HBE:=xI (HBW.out.trans (hb.mono HBW.out.size));clear hb e0 e1 e2 e3 e4 e5 HALL;by_cases hl:nk=kids.length
     ·have HU:Hid (y=true):=xI (by rw[HKY.out,HKA.out];simp[hl]);have fl:((nk:Int)==(kids.length:Int))=true:=by rw[beq_iff_eq];omega
      clear hl;go_wp2;go_ret;exact⟨zAb HU.out.symm,HBE.out⟩
     ·have HU:Hid (y=false):=xI (by rw[HKY.out,HKA.out];simp[hl]);have fl:((nk:Int)==(kids.length:Int))=false:=by rw[beq_eq_false_iff_ne];omega
      clear hl;go_wp2;go_ret;exact⟨zAb HU.out.symm,HBE.out⟩
theorem zHa:∀ l m:List Vl,zAo (l++m)=zAo l+zAo m
 | [],m=>by simp[zAo]
 | a::s,m=>by simp only[List.cons_append,zAo,zHa s m];omega
theorem zHb:∀ l m:List En,zBd (l++m)=zBd l+zBd m
 | [],m=>by simp[zBd]
 | a::s,m=>by simp only[List.cons_append,zBd,zHb s m];omega
theorem zF8 {l:List Vl}{j:Nat}{x:Vl}(h:l[j]?=some x):zAo (l.take (j+1))=zAo (l.take j)+nodes x∧zAo (l.take j)+nodes x≤zAo l:=by
 have h1:l.take (j+1)=l.take j++[x]:=by rw[List.take_add_one,h];rfl
 have h2:=zHa (l.take (j+1)) (l.drop (j+1));rw[List.take_append_drop,h1,zF9]at h2;exact⟨by rw[h1,zF9],by omega⟩
theorem zJ0 {l:List En}{j:Nat}{x:En}(h:l[j]?=some x):zBd (l.take (j+1))=zBd (l.take j)+zH7 x∧zBd (l.take j)+zH7 x≤zBd l:=by
 have h1:l.take (j+1)=l.take j++[x]:=by rw[List.take_add_one,h];rfl
 have h2:=zHb (l.take (j+1)) (l.drop (j+1));rw[List.take_append_drop,h1,zGa]at h2;exact⟨by rw[h1,zGa],by omega⟩
theorem zIo {a b c:Int}(h:a+b=c):wrap64 (wrap64 a+wrap64 b)=wrap64 c:=by subst h;unfold wrap64;omega
theorem zNz:∀ (k:Nat) (v:Vl) (cs:List Value) (w:World),VS k w w.heap.size v cs →
  Calls Tryz.prog 7 #[.agg cs.toArray] w fun e w'=>e=.returned (.int .i64 (wrap64 (nodes v)))∧Below w.heap.size w w':=by
 intro k
 induction k with
 | zero=>intro v cs w h;exact h.elim
 | succ k ih=>
  intro v cs w h;obtain⟨kind,int,text,kids,keys,ents,labels⟩:=v;obtain⟨uk,uy,ue,ul,rfl,_,_,_,hk,hyy,he,hll⟩:=h;obtain⟨A,cap,rfl,hkl⟩:=hk.form;obtain⟨A',cap',rfl,hel⟩:=he.form;unfold maxLen at hkl hel;have HKI:=xI hk;have HEN:=xI he;clear hk he hyy hll;have IH:=xI ih;clear ih;unfold nodes;go_enter Tryz.func7,Tryz.ntmps7;go_wp2_with fail;obtain⟨W,hW⟩:∃ W,W=w.alloc (.cells #[.int .i64 kind,.int .i64 int,.string ⟨text.toArray⟩,.slice A kids.length cap,uy,.slice A' ents.length cap',ul] 27):=⟨_,rfl⟩;have hbl:Below w.heap.size w W:=by rw[hW];exact bR.alloc lR _
  have d3:W.cell? ⟨w.heap.size,3,none⟩=some (.slice A kids.length cap):=by rw[hW];simp
  have d5:W.cell? ⟨w.heap.size,5,none⟩=some (.slice A' ents.length cap'):=by rw[hW];simp
  have hlt:w.heap.size<W.heap.size:=by rw[hW];simp
  rw[←hW];clear hW;have HB:=xI hbl;clear hbl
  go_loopw [3,4] (fun n i wr=>∃ j:Nat,i=.int .i64 j∧j≤kids.length∧n=.int .i64 (wrap64 ((1+zAo (kids.take j):Nat):Int))∧Below W.heap.size W wr) (fun _ i _=>kids.length-(intOf i).toNat)
  case atStart=>exact⟨0,rfl,by omega,by simp[zAo,wrap64],Below.refl _ _⟩
  case round=>
   obtain⟨j,rfl,hj,rfl,hb⟩:=hrel;have e3:wr.cell? ⟨w.heap.size,3,none⟩=some (.slice A kids.length cap):=(hb.cell (p:=⟨w.heap.size,3,none⟩) hlt).trans d3;have e5:wr.cell? ⟨w.heap.size,5,none⟩=some (.slice A' ents.length cap'):=(hb.cell (p:=⟨w.heap.size,5,none⟩) hlt).trans d5;by_cases hjn:j<kids.length
   ·have hbw:Below w.heap.size w wr:=HB.out.trans (hb.mono HB.out.size);obtain⟨b,off,cap0,x0,x1,x2,x3,x4,x5,x6,hu,hbH,⟨x,hx,hv⟩,c0,c1,c2,c3,c4,c5,c6⟩:=(HKI.out.on hbw (fun _ _ h=>h)).at7 hjn;injection hu with hA _ hcap;subst hA hcap;have hst:=(zF8 hx).1;have hc:=IH.out x _ wr (VS.up hbw.size lR (VS.on hbw hv));have kn:(j:Int)<(kids.length:Int):=by omega
    have k0:(0:Int)≤(j:Int):=by omega
    have HX:Hid (wrap64 (wrap64 ((1+zAo (kids.take j):Nat):Int)+wrap64 (nodes x:Int))=wrap64 ((1+zAo (kids.take (j+1)):Nat):Int)):=xI (zIo (by rw[hst];omega));have HV:=xI hb;clear hx hv hst hb hbw;generalize wrap64 (nodes x:Int)=nx at hc HX;generalize wrap64 ((1+zAo (kids.take j):Nat):Int)=q at HX ⊢;go_wp2_with (go_at_call 7;refine hc.mono ?_;rintro e w1 ⟨rfl,hb1⟩;refine Hid.out ?_);refine xI ?_;clear hc;go_wp2
    go_roundw
    case rel=>exact⟨j+1,by go_num,by omega,by rw[←HX.out],HV.out.trans (hb1.mono HV.out.size)⟩
    case measure=>simp[intOf];omega
   ·have hke:kids.take j=kids:=List.take_of_length_le (by omega);rw[hke];go_wp2_with fail;rename World=>V;have HBW:=xI (HB.out.trans (hb.mono HB.out.size));have hlt1:w.heap.size<V.heap.size:=Nat.lt_of_lt_of_le hlt hb.size;clear d3 d5 e3 hke hb hj hjn hlt
    go_loopw [3,5] (fun n i w2=>∃ j:Nat,i=.int .i64 j∧j≤ents.length∧n=.int .i64 (wrap64 ((1+zAo kids+zBd (ents.take j):Nat):Int))∧Below V.heap.size V w2) (fun _ i _=>ents.length-(intOf i).toNat)
    case atStart=>exact⟨0,rfl,by omega,by simp[zBd],Below.refl _ _⟩
    case round=>
     obtain⟨j,rfl,hj,rfl,hb⟩:=hrel;have f5:wr.cell? ⟨w.heap.size,5,none⟩=some (.slice A' ents.length cap'):=(hb.cell (p:=⟨w.heap.size,5,none⟩) hlt1).trans e5;by_cases hjn:j<ents.length
     ·have hbw:Below w.heap.size w wr:=HBW.out.trans (hb.mono HBW.out.size);obtain⟨b,off,cap0,ya,yb,x0,x1,x2,x3,x4,x5,x6,hu,hbH,⟨args,fails,result,hx,ua,rs,hcs,ha,hr⟩,c0,c1,c2,c3,c4,c5,c6,c7,c8⟩:=(HEN.out.on hbw (fun _ _ h=>h)).at9 hjn;injection hu with hA _ hcap;subst hA hcap;simp only[List.cons.injEq]at hcs;obtain⟨rfl,rfl,rfl⟩:=hcs;obtain⟨A2,cap2,rfl,hal⟩:=ha.form;unfold maxLen at hal;obtain⟨a,i,st,A3,n3,c3',A4,n4,c4',A5,n5,c5',A6,n6,c6',he7⟩:=hr.form7;simp only[List.cons.injEq,and_true]at he7;obtain⟨rfl,rfl,rfl,rfl,rfl,rfl,rfl⟩:=he7;have hst:=zJ0 hx;have kn:(j:Int)<(ents.length:Int):=by omega
      have k0:(0:Int)≤(j:Int):=by omega
      have HX:=xI hst;have HV:=xI hb;have HAR:=xI ha;have HRS:=xI hr;have HBW2:=xI hbw;have HJN:=xI hjn;clear hx hst ha hr hbw hb hj hjn;go_wp2_with fail;rename World=>U;obtain⟨W2,hW2⟩:∃ W2,W2=U.alloc (.cells #[.slice A2 args.length cap2,.bool fails,.int .i64 a,.int .i64 i,.string st,.slice A3 n3 c3',.slice A4 n4 c4',.slice A5 n5 c5',.slice A6 n6 c6'] 45):=⟨_,rfl⟩;have hb2:Below U.heap.size U W2:=by rw[hW2];exact bR.alloc lR _
      have q0:W2.cell? ⟨U.heap.size,0,none⟩=some (.slice A2 args.length cap2):=by rw[hW2];simp
      have q1:W2.cell? ⟨U.heap.size,1,none⟩=some (.bool fails):=by rw[hW2];simp
      have HQ:Hid (W2.cell? ⟨U.heap.size,2,none⟩=some (.int .i64 a)∧W2.cell? ⟨U.heap.size,3,none⟩=some (.int .i64 i)∧W2.cell? ⟨U.heap.size,4,none⟩=some (.string st)∧W2.cell? ⟨U.heap.size,5,none⟩=some (.slice A3 n3 c3')∧W2.cell? ⟨U.heap.size,6,none⟩=some (.slice A4 n4 c4')∧W2.cell? ⟨U.heap.size,7,none⟩=some (.slice A5 n5 c5')∧W2.cell? ⟨U.heap.size,8,none⟩=some (.slice A6 n6 c6')):=xI (by rw[hW2];simp);have hlt2:U.heap.size<W2.heap.size:=by rw[hW2];simp
      rw[←hW2];clear hW2;have HB2:=xI hb2;have HBU:=xI (HBW2.out.trans (hb2.mono HBW2.out.size));have HVU:=xI (HV.out.trans (hb2.mono HV.out.size));clear hb2 c0 c1 c2 c3 c4 c5 c6 c7 c8 f5;rename ((j:Int)<(ents.length:Int))=>kj;rename ((0:Int)≤(j:Int))=>kj0;generalize zBd (ents.take j)=NE at HX ⊢
      go_loopw [3,7] (fun n i w3=>∃ q:Nat,i=.int .i64 q∧q≤args.length∧n=.int .i64 (wrap64 ((1+zAo kids+NE+zAo (args.take q):Nat):Int))∧Below W2.heap.size W2 w3) (fun _ i _=>args.length-(intOf i).toNat)
      case atStart=>exact⟨0,rfl,by omega,by simp[zAo],Below.refl _ _⟩
      case round=>
       obtain⟨q,rfl,hq,rfl,hb⟩:=hrel;have r0:wr.cell? ⟨U.heap.size,0,none⟩=some (.slice A2 args.length cap2):=(hb.cell (p:=⟨U.heap.size,0,none⟩) hlt2).trans q0;by_cases hqn:q<args.length
       ·have hbw:Below w.heap.size w wr:=HBU.out.trans (hb.mono HBU.out.size);have hbu:Below U.heap.size U wr:=HB2.out.trans (hb.mono HB2.out.size);obtain⟨b2,off2,cap3,x0,x1,x2,x3,x4,x5,x6,hu,hbH,⟨x,hx,hv⟩,c0,c1,c2,c3,c4,c5,c6⟩:=(HAR.out.on hbw (fun _ _ h=>h)).at7 hqn;injection hu with hA _ hcap;subst hA hcap;have hst:=(zF8 hx).1;have hc:=IH.out x _ wr (VS.up hbw.size lR (VS.on hbw hv));have kn:(q:Int)<(args.length:Int):=by omega
        have k0:(0:Int)≤(q:Int):=by omega
        have HY:Hid (wrap64 (wrap64 ((1+zAo kids+NE+zAo (args.take q):Nat):Int)+wrap64 (nodes x:Int))=wrap64 ((1+zAo kids+NE+zAo (args.take (q+1)):Nat):Int)):=xI (zIo (by rw[hst];omega));have HV:=xI hb;clear hx hv hst hb hbw hbu;generalize wrap64 (nodes x:Int)=nx at hc HY;generalize wrap64 ((1+zAo kids+NE+zAo (args.take q):Nat):Int)=p at HY ⊢;go_wp2_with (go_at_call 7;refine hc.mono ?_;rintro e w1 ⟨rfl,hb1⟩;refine Hid.out ?_);refine xI ?_;clear hc;go_wp2
        go_roundw
        case rel=>exact⟨q+1,by go_num,by omega,by rw[←HY.out],HV.out.trans (hb1.mono HV.out.size)⟩
        case measure=>simp[intOf];omega
       ·have hke:args.take q=args:=List.take_of_length_le (by omega);have hbu:Below U.heap.size U wr:=HB2.out.trans (hb.mono HB2.out.size);have r1:wr.cell? ⟨U.heap.size,1,none⟩=some (.bool fails):=(hb.cell (p:=⟨U.heap.size,1,none⟩) hlt2).trans q1;have HVW:=xI (HVU.out.trans (hb.mono HVU.out.size));rw[hke];cases fails
        ·obtain⟨s2,s3,s4,s5,s6,s7,s8⟩:=HQ.out;have r2:=(hb.cell (p:=⟨U.heap.size,2,none⟩) hlt2).trans s2;have r3:=(hb.cell (p:=⟨U.heap.size,3,none⟩) hlt2).trans s3;have r4:=(hb.cell (p:=⟨U.heap.size,4,none⟩) hlt2).trans s4;have r5:=(hb.cell (p:=⟨U.heap.size,5,none⟩) hlt2).trans s5;have r6:=(hb.cell (p:=⟨U.heap.size,6,none⟩) hlt2).trans s6;have r7:=(hb.cell (p:=⟨U.heap.size,7,none⟩) hlt2).trans s7;have r8:=(hb.cell (p:=⟨U.heap.size,8,none⟩) hlt2).trans s8;have hbw:Below w.heap.size w wr:=HBU.out.trans (hb.mono HBU.out.size);have hc:=IH.out result _ wr (VS.up hbw.size lR (VS.on hbw HRS.out));have HX2:Hid (wrap64 (wrap64 ((1+zAo kids+NE+zAo args:Nat):Int)+wrap64 (nodes result:Int))=wrap64 ((1+zAo kids+zBd (ents.take (j+1)):Nat):Int)):=xI (zIo (by rw[HX.out.1,zH7];simp;omega));clear s2 s3 s4 s5 s6 s7 s8 q0 q1 hb hbu hbw hke HX;generalize wrap64 (nodes result:Int)=nr at hc HX2;generalize wrap64 ((1+zAo kids+NE+zAo args:Nat):Int)=na at HX2 ⊢;go_wp2_with (go_at_call 7;refine hc.mono ?_;rintro e w1 ⟨rfl,hb1⟩;refine Hid.out ?_);refine xI ?_;clear hc;go_wp2
         go_roundw
         case rel=>exact⟨j+1,by go_num,HJN.out,by rw[←HX2.out],HVW.out.trans (hb1.mono HVW.out.size)⟩
         case measure=>have:=HJN.out;simp[intOf];omega
        ·have HX2:Hid (1+zAo kids+zBd (ents.take (j+1))=1+zAo kids+NE+zAo args):=xI (by rw[HX.out.1,zH7];simp;omega);clear q0 q1 hb hbu hke HX;go_wp2
         go_roundw
         case rel=>exact⟨j+1,by go_num,HJN.out,by rw[HX2.out],HVW.out⟩
         case measure=>have:=HJN.out;simp[intOf];omega
     ·have hke:ents.take j=ents:=List.take_of_length_le (by omega);rw[hke];go_wp2;go_ret;exact⟨by simp,HBW.out.trans (hb.mono HBW.out.size)⟩
end Go.Proofs.YtcjgaohblaidjaaGreatDoor
