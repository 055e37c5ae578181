/- What the document's Valid returns, given what it finds at each node. -/
import Derived.Test.YtcjgaohblaidjaaGreatDoorVgZ
import Derived.Test.YtcjgaohblaidjaaGreatDoorVg01
import Derived.Test.YtcjgaohblaidjaaGreatDoorVg02
import Derived.Test.YtcjgaohblaidjaaGreatDoorVg11
import Derived.Test.YtcjgaohblaidjaaGreatDoorVg15
set_option maxRecDepth 100000
set_option maxHeartbeats 6400000
namespace Go.Proofs.YtcjgaohblaidjaaGreatDoor
open Go Go.RowKit
def nodeV:Vl→Bool
 | .mk k i t v y e l=>zAi l&&usesB k i t v y e&&kindB k i t v y e
def zQq:Prop:=∀ (k:Nat) (v:Vl) (cs:List Value) (w:World),VS k w w.heap.size v cs→Calls Tryz.prog 36 #[.agg cs.toArray] w fun e w'=>e=.returned (.bool (nodeV v))∧Below w.heap.size w w'
theorem zFa {α:Type}{p:α→Bool}{l:List α}{j:Nat}{x:α}(h:l[j]?=some x):(l.take (j+1)).all p=((l.take j).all p&&p x):=by
 rw[List.take_add_one,h,List.all_append];simp
theorem zDo {α:Type}{p:α→Bool}{l:List α}{j:Nat}{x:α}(h:l[j]?=some x) (hx:p x=false):l.all p=false:=by
 rw[List.all_eq_false];exact⟨x,List.mem_of_getElem? h,by simp[hx]⟩
theorem zJo (hN:Hid zQq):∀ (k:Nat) (v:Vl) (cs:List Value) (w:World),VS k w w.heap.size v cs →
  Calls Tryz.prog 19 #[.agg cs.toArray] w fun e w'=>e=.returned (.bool (okV v))∧Below w.heap.size w w':=by
 intro k
 induction k with
 | zero=>intro v cs w h;exact h.elim
 | succ k ih=>
  intro v cs w h;have hNd:=fun V (hV:Below w.heap.size w V)=>hN.out (k+1) v cs V (VS.up hV.size lR (VS.on hV h));obtain⟨kind,int,text,kids,keys,ents,labels⟩:=v;obtain⟨uk,uy,ue,ul,rfl,_,_,_,hk,hyy,he,hll⟩:=h;obtain⟨A,cap,rfl,hkl⟩:=hk.form;obtain⟨A',cap',rfl,hel⟩:=he.form;unfold maxLen at hkl hel;have HKI:=xI hk;have HEN:=xI he;clear hk he hyy hll;have IH:=xI ih;clear ih;have HR:Hid (okV (.mk kind int text kids keys ents labels)=(nodeV (.mk kind int text kids keys ents labels)&&kids.all okV&&ents.all okE)):=xI (by rw[okV,zAn,zAx];rfl);generalize okV (.mk kind int text kids keys ents labels)=y at HR ⊢;generalize nodeV (.mk kind int text kids keys ents labels)=z1 at hNd HR;obtain⟨W,hW⟩:∃ W,W=w.alloc (.cells #[.int .i64 kind,.int .i64 int,.string ⟨text.toArray⟩,.slice A kids.length cap,uy,.slice A' ents.length cap',ul] 27):=⟨_,rfl⟩;have hbl:Below w.heap.size w W:=by rw[hW];exact bR.alloc lR _
  have d0:W.cell? ⟨w.heap.size,0,none⟩=some (.int .i64 kind):=by rw[hW];simp
  have d1:W.cell? ⟨w.heap.size,1,none⟩=some (.int .i64 int):=by rw[hW];simp
  have d2:W.cell? ⟨w.heap.size,2,none⟩=some (.string ⟨text.toArray⟩):=by rw[hW];simp
  have d3:W.cell? ⟨w.heap.size,3,none⟩=some (.slice A kids.length cap):=by rw[hW];simp
  have d4:W.cell? ⟨w.heap.size,4,none⟩=some uy:=by rw[hW];simp
  have d5:W.cell? ⟨w.heap.size,5,none⟩=some (.slice A' ents.length cap'):=by rw[hW];simp
  have d6:W.cell? ⟨w.heap.size,6,none⟩=some ul:=by rw[hW];simp
  have hlt:w.heap.size<W.heap.size:=by rw[hW];simp
  have h1:=hNd W hbl;have HB:=xI hbl;clear hbl hNd;go_enter Tryz.func19,Tryz.ntmps19;go_wp2_with fail;rw[←hW];clear hW;go_wp2_with (go_at_call 36;refine h1.mono ?_;rintro e w1 ⟨rfl,hb1⟩;refine Hid.out ?_);refine xI ?_;clear h1;cases z1
  ·have HU:Hid (y=false):=xI (by rw[HR.out];rfl);go_wp2;go_ret;exact⟨zAb HU.out.symm,HB.out.trans (hb1.mono HB.out.size)⟩
  have e3':w1.cell? ⟨w.heap.size,3,none⟩=some (.slice A kids.length cap):=(hb1.cell (p:=⟨w.heap.size,3,none⟩) hlt).trans d3;have e5':w1.cell? ⟨w.heap.size,5,none⟩=some (.slice A' ents.length cap'):=(hb1.cell (p:=⟨w.heap.size,5,none⟩) hlt).trans d5;have hlt1:w.heap.size<w1.heap.size:=Nat.lt_of_lt_of_le hlt hb1.size;replace HB:Hid (Below w.heap.size w w1):=xI (HB.out.trans (hb1.mono HB.out.size));clear d0 d1 d2 d3 d4 d5 d6 hlt hb1;go_wp2_with fail
  go_loopw [3] (fun i wr=>∃ j:Nat,i=.int .i64 j∧j≤kids.length∧(kids.take j).all okV=true∧Below w1.heap.size w1 wr) (fun i _=>kids.length-(intOf i).toNat)
  case atStart=>exact⟨0,rfl,by omega,by simp,Below.refl _ _⟩
  case round=>
   obtain⟨j,rfl,hj,hall,hb⟩:=hrel;have HALL:=xI hall;clear hall;have e3:wr.cell? ⟨w.heap.size,3,none⟩=some (.slice A kids.length cap):=(hb.cell (p:=⟨w.heap.size,3,none⟩) hlt1).trans e3';have e5:wr.cell? ⟨w.heap.size,5,none⟩=some (.slice A' ents.length cap'):=(hb.cell (p:=⟨w.heap.size,5,none⟩) hlt1).trans e5';by_cases hjn:j<kids.length
   ·have hbw:Below w.heap.size w wr:=HB.out.trans (hb.mono HB.out.size);obtain⟨b,off,cap0,x0,x1,x2,x3,x4,x5,x6,hu,hbH,⟨x,hx,hv⟩,c0,c1,c2,c3,c4,c5,c6⟩:=(HKI.out.on hbw (fun _ _ h=>h)).at7 hjn;injection hu with hA _ hcap;subst hA hcap;have HST:=xI (zFa (p:=okV) hx);have HFA:=xI (fun h=>zDo (p:=okV) hx h);have hc:=IH.out x _ wr (VS.up hbw.size lR (VS.on hbw hv));have kn:(j:Int)<(kids.length:Int):=by omega
    have k0:(0:Int)≤(j:Int):=by omega
    have HV:=xI hb;have HBW:=xI hbw;clear hx hv hb hbw;generalize okV x=z at hc HST HFA;go_wp2_with (go_at_call 19;refine hc.mono ?_;rintro e w2 ⟨rfl,hb2⟩;refine Hid.out ?_);refine xI ?_;clear hc;cases z
    ·have HU:Hid (y=false):=xI (by rw[HR.out,HFA.out rfl];simp);have HBF:=xI (HBW.out.trans (hb2.mono HBW.out.size));clear hb2;go_wp2;go_ret;exact⟨zAb HU.out.symm,HBF.out⟩
    ·have HN1:=xI (HV.out.trans (hb2.mono HV.out.size));clear hb2;go_wp2
     go_roundw
     case rel=>exact⟨j+1,by go_num,by omega,by rw[HST.out,HALL.out];rfl,HN1.out⟩
     case measure=>simp[intOf];omega
   ·have HKA:Hid (kids.all okV=true):=xI (by
     have hke:kids.take j=kids:=List.take_of_length_le (by omega);rw[←hke];exact HALL.out)
    go_wp2_with fail;rename World=>V;have HBW:=xI (HB.out.trans (hb.mono HB.out.size));have hlt2:w.heap.size<V.heap.size:=Nat.lt_of_lt_of_le hlt1 hb.size;clear e3' e5' e3 hb hj hjn hlt1 HALL
    go_loopw [4] (fun i w2=>∃ j:Nat,i=.int .i64 j∧j≤ents.length∧(ents.take j).all okE=true∧Below V.heap.size V w2) (fun i _=>ents.length-(intOf i).toNat)
    case atStart=>exact⟨0,rfl,by omega,by simp,Below.refl _ _⟩
    case round=>
     obtain⟨j,rfl,hj,hall,hb⟩:=hrel;have HALL:=xI hall;clear hall;have f5:wr.cell? ⟨w.heap.size,5,none⟩=some (.slice A' ents.length cap'):=(hb.cell (p:=⟨w.heap.size,5,none⟩) hlt2).trans e5;by_cases hjn:j<ents.length
     ·have hbw:Below w.heap.size w wr:=HBW.out.trans (hb.mono HBW.out.size);obtain⟨b,off,cap0,ya,yb,x0,x1,x2,x3,x4,x5,x6,hu,hbH,⟨args,fails,result,hx,ua,rs,hcs,ha,hr⟩,c0,c1,c2,c3,c4,c5,c6,c7,c8⟩:=(HEN.out.on hbw (fun _ _ h=>h)).at9 hjn;injection hu with hA _ hcap;subst hA hcap;simp only[List.cons.injEq]at hcs;obtain⟨rfl,rfl,rfl⟩:=hcs;obtain⟨A2,cap2,rfl,hal⟩:=ha.form;unfold maxLen at hal;obtain⟨a,i,st,A3,n3,c3',A4,n4,c4',A5,n5,c5',A6,n6,c6',he7⟩:=hr.form7;simp only[List.cons.injEq,and_true]at he7;obtain⟨rfl,rfl,rfl,rfl,rfl,rfl,rfl⟩:=he7;have HST:=xI (zFa (p:=okE) hx);have HFA:=xI (fun h=>zDo (p:=okE) hx h);have HE:Hid (okE (.mk args fails result)=(args.all okV&&(fails||okV result))):=xI (by rw[okE,zAn]);generalize okE (.mk args fails result)=zE at HST HFA HE;have kn:(j:Int)<(ents.length:Int):=by omega
      have k0:(0:Int)≤(j:Int):=by omega
      have HV:=xI hb;have HAR:=xI ha;have HRS:=xI hr;have HBW2:=xI hbw;have HJN:=xI hjn;clear hx ha hr hbw hb hj hjn;go_wp2_with fail;rename World=>U;obtain⟨W2,hW2⟩:∃ W2,W2=U.alloc (.cells #[.slice A2 args.length cap2,.bool fails,.int .i64 a,.int .i64 i,.string st,.slice A3 n3 c3',.slice A4 n4 c4',.slice A5 n5 c5',.slice A6 n6 c6'] 45):=⟨_,rfl⟩;have hb2:Below U.heap.size U W2:=by rw[hW2];exact bR.alloc lR _
      have q0:W2.cell? ⟨U.heap.size,0,none⟩=some (.slice A2 args.length cap2):=by rw[hW2];simp
      have q1:W2.cell? ⟨U.heap.size,1,none⟩=some (.bool fails):=by rw[hW2];simp
      have HQ:Hid (W2.cell? ⟨U.heap.size,2,none⟩=some (.int .i64 a)∧W2.cell? ⟨U.heap.size,3,none⟩=some (.int .i64 i)∧W2.cell? ⟨U.heap.size,4,none⟩=some (.string st)∧W2.cell? ⟨U.heap.size,5,none⟩=some (.slice A3 n3 c3')∧W2.cell? ⟨U.heap.size,6,none⟩=some (.slice A4 n4 c4')∧W2.cell? ⟨U.heap.size,7,none⟩=some (.slice A5 n5 c5')∧W2.cell? ⟨U.heap.size,8,none⟩=some (.slice A6 n6 c6')):=xI (by rw[hW2];simp);have hlt3:U.heap.size<W2.heap.size:=by rw[hW2];simp
      rw[←hW2];clear hW2;have HB2:=xI hb2;have HBU:=xI (HBW2.out.trans (hb2.mono HBW2.out.size));have HVU:=xI (HV.out.trans (hb2.mono HV.out.size));clear hb2 c0 c1 c2 c3 c4 c5 c6 c7 c8 f5;rename ((j:Int)<(ents.length:Int))=>kj;rename ((0:Int)≤(j:Int))=>kj0
      go_loopw [6] (fun i w3=>∃ q:Nat,i=.int .i64 q∧q≤args.length∧(args.take q).all okV=true∧Below W2.heap.size W2 w3) (fun i _=>args.length-(intOf i).toNat)
      case atStart=>exact⟨0,rfl,by omega,by simp,Below.refl _ _⟩
      case round=>
       obtain⟨q,rfl,hq,hall,hb⟩:=hrel;have HALL3:=xI hall;clear hall;have r0:wr.cell? ⟨U.heap.size,0,none⟩=some (.slice A2 args.length cap2):=(hb.cell (p:=⟨U.heap.size,0,none⟩) hlt3).trans q0;by_cases hqn:q<args.length
       ·have hbw:Below w.heap.size w wr:=HBU.out.trans (hb.mono HBU.out.size);obtain⟨b2,off2,cap3,x0,x1,x2,x3,x4,x5,x6,hu,hbH,⟨x,hx,hv⟩,c0,c1,c2,c3,c4,c5,c6⟩:=(HAR.out.on hbw (fun _ _ h=>h)).at7 hqn;injection hu with hA _ hcap;subst hA hcap;have HST3:=xI (zFa (p:=okV) hx);have HFA3:=xI (fun h=>zDo (p:=okV) hx h);have hc:=IH.out x _ wr (VS.up hbw.size lR (VS.on hbw hv));have kn:(q:Int)<(args.length:Int):=by omega
        have k0:(0:Int)≤(q:Int):=by omega
        have HV3:=xI hb;have HBW3:=xI hbw;clear hx hv hb hbw;generalize okV x=z at hc HST3 HFA3;go_wp2_with (go_at_call 19;refine hc.mono ?_;rintro e w4 ⟨rfl,hb4⟩;refine Hid.out ?_);refine xI ?_;clear hc;cases z
        ·have HU:Hid (y=false):=xI (by rw[HR.out,HFA.out (by rw[HE.out,HFA3.out rfl];rfl)];simp);have HBF:=xI (HBW3.out.trans (hb4.mono HBW3.out.size));clear hb4;go_wp2;go_ret;exact⟨zAb HU.out.symm,HBF.out⟩
        ·have HN1:=xI (HV3.out.trans (hb4.mono HV3.out.size));clear hb4;go_wp2
         go_roundw
         case rel=>exact⟨q+1,by go_num,by omega,by rw[HST3.out,HALL3.out];rfl,HN1.out⟩
         case measure=>simp[intOf];omega
       ·have HAA:Hid (args.all okV=true):=xI (by
         have hke:args.take q=args:=List.take_of_length_le (by omega);rw[←hke];exact HALL3.out)
        have r1:wr.cell? ⟨U.heap.size,1,none⟩=some (.bool fails):=(hb.cell (p:=⟨U.heap.size,1,none⟩) hlt3).trans q1;have HVW:=xI (HVU.out.trans (hb.mono HVU.out.size));have HBW4:=xI (HBU.out.trans (hb.mono HBU.out.size));cases fails
        ·obtain⟨s2,s3,s4,s5,s6,s7,s8⟩:=HQ.out;have r2:=(hb.cell (p:=⟨U.heap.size,2,none⟩) hlt3).trans s2;have r3:=(hb.cell (p:=⟨U.heap.size,3,none⟩) hlt3).trans s3;have r4:=(hb.cell (p:=⟨U.heap.size,4,none⟩) hlt3).trans s4;have r5:=(hb.cell (p:=⟨U.heap.size,5,none⟩) hlt3).trans s5;have r6:=(hb.cell (p:=⟨U.heap.size,6,none⟩) hlt3).trans s6;have r7:=(hb.cell (p:=⟨U.heap.size,7,none⟩) hlt3).trans s7;have r8:=(hb.cell (p:=⟨U.heap.size,8,none⟩) hlt3).trans s8;have hbo:=HBW4.out.mono lR;have hcr:=IH.out result _ wr (VS.up HBW4.out.size lR (VS.on HBW4.out HRS.out));have HE2:Hid (zE=okV result):=xI (by rw[HE.out,HAA.out];rfl);clear s2 s3 s4 s5 s6 s7 s8 hb hbo;generalize okV result=z at hcr HE2;go_wp2_with (go_at_call 19;refine hcr.mono ?_;rintro e w5 ⟨rfl,hb5⟩;refine Hid.out ?_);refine xI ?_;clear hcr;cases z
         ·have HU:Hid (y=false):=xI (by rw[HR.out,HFA.out HE2.out];simp);have HBF:=xI (HBW4.out.trans (hb5.mono HBW4.out.size));clear hb5;go_wp2;go_ret;exact⟨zAb HU.out.symm,HBF.out⟩
         ·have HN1:=xI (HVW.out.trans (hb5.mono HVW.out.size));clear hb5;go_wp2
          go_roundw
          case rel=>exact⟨j+1,by go_num,by have:=HJN.out;omega,by rw[HST.out,HALL.out,HE2.out];rfl,HN1.out⟩
          case measure=>have:=HJN.out;simp[intOf];omega
        ·have HE2:Hid (zE=true):=xI (by rw[HE.out,HAA.out];rfl);clear hb;go_wp2
         go_roundw
         case rel=>exact⟨j+1,by go_num,by have:=HJN.out;omega,by rw[HST.out,HALL.out,HE2.out];rfl,HVW.out⟩
         case measure=>have:=HJN.out;simp[intOf];omega
     ·have HU:Hid (y=true):=xI (by
       have hke:ents.take j=ents:=List.take_of_length_le (by omega);rw[HR.out,HKA.out,←hke,HALL.out];rfl)
      have HBF:=xI (HBW.out.trans (hb.mono HBW.out.size));clear hb;go_wp2;go_ret;exact⟨zAb HU.out.symm,HBF.out⟩
theorem zHe (a b:List UInt8):Op.bytesLess a b=decide (cmpT a b<0):=by
 have h:=zD4 a b;have hr:=zFt (a:=a) (b:=b);cases hl:Op.bytesLess a b
 ·by_cases he:a=b
  ·subst he;have:=(zBy (a:=a) (b:=a)).2 rfl;simp;omega
  ·have h1:=zFu hl he;have h2:Lib.compareBytes a b=cmpT a b:=h;rw[h1]at h2;simp;omega
 ·have h1:=hr hl;have h2:Lib.compareBytes a b=cmpT a b:=h;rw[h1]at h2;symm;simp;omega
theorem zBu {l:List (List UInt8)}{j:Nat}{x:List UInt8}(hx:l[j]?=some x) (h:zAi (l.take j)=true) (h2:varB x=true) (h3:j=0∨∃ p,l[j-1]?=some p∧cmpT p x<0):zAi (l.take (j+1))=true:=by
 unfold zAi at h ⊢;rw[Bool.and_eq_true,decide_eq_true_eq]at h ⊢;have hlt:=(List.getElem?_eq_some_iff.1 hx).1;refine⟨by rw[zFa hx,h.1,h2];rfl,zFx totT fun r a b ha hb=>?_⟩;have hb':=(List.getElem?_eq_some_iff.1 hb).1;rw[List.length_take]at hb';rw[List.getElem?_take_of_lt (by omega)]at ha hb;by_cases hr:r+1=j
 ·subst hr;rw[hb]at hx;injection hx with hx;subst hx;rcases h3 with h3|⟨p,hp,hc⟩
  ·omega
  ·rw[Nat.add_sub_cancel,ha]at hp;injection hp with hp;subst hp;exact hc
 ·exact zEk h.2 (i:=r) (j:=r+1) (by rw[List.getElem?_take_of_lt (by omega)];exact ha) (by rw[List.getElem?_take_of_lt (by omega)];exact hb) (by omega)
theorem zCc {l:List (List UInt8)}{j:Nat}{x:List UInt8}(hx:l[j]?=some x) (h:varB x=false∨0<j∧∃ p,l[j-1]?=some p∧¬ cmpT p x<0):zAi l=false:=by
 unfold zAi;rcases h with h|⟨h0,p,hp,hc⟩
 ·rw[zDo hx h];rfl
 ·rw[Bool.and_eq_false_iff];exact .inr (decide_eq_false fun h=>hc (zEk h hp hx (by omega)))
def zB9 {α:Type}(p:α→Bool) (c:α→α→Int) (l:List α):Bool:=l.all p&&decide (AscC c l)
theorem zB4 {α:Type}{p:α→Bool}{c:α→α→Int}(T:Tot c){l:List α}{j:Nat}{x:α}(hx:l[j]?=some x) (h:zB9 p c (l.take j)=true) (h2:p x=true) (h3:j=0∨∃ q,l[j-1]?=some q∧c q x<0):zB9 p c (l.take (j+1))=true:=by
 unfold zB9 at h ⊢;rw[Bool.and_eq_true,decide_eq_true_eq]at h ⊢;have hlt:=(List.getElem?_eq_some_iff.1 hx).1;refine⟨by rw[zFa hx,h.1,h2];rfl,zFx T fun r a b ha hb=>?_⟩;have hb':=(List.getElem?_eq_some_iff.1 hb).1;rw[List.length_take]at hb';rw[List.getElem?_take_of_lt (by omega)]at ha hb;by_cases hr:r+1=j
 ·subst hr;rw[hb]at hx;injection hx with hx;subst hx;rcases h3 with h3|⟨q,hp,hc⟩
  ·omega
  ·rw[Nat.add_sub_cancel,ha]at hp;injection hp with hp;subst hp;exact hc
 ·exact zEk h.2 (i:=r) (j:=r+1) (by rw[List.getElem?_take_of_lt (by omega)];exact ha) (by rw[List.getElem?_take_of_lt (by omega)];exact hb) (by omega)
theorem zCt {α:Type}{p:α→Bool}{c:α→α→Int}{l:List α}{j:Nat}{x:α}(hx:l[j]?=some x) (h:p x=false∨0<j∧∃ q,l[j-1]?=some q∧¬ c q x<0):zB9 p c l=false:=by
 unfold zB9;rcases h with h|⟨h0,q,hp,hc⟩
 ·rw[zDo hx h];rfl
 ·rw[Bool.and_eq_false_iff];exact .inr (decide_eq_false fun h=>hc (zEk h hp hx (by omega)))
theorem OwnE.blk {α:Type}{K:ElK α}{e:TypeId}{c:Nat}{w:World}{base:Nat}{v:Value}{l:List α}(h:OwnE K e c w base v l):∀ b,v.ownBlock=some b→base≤b∧b<w.heap.size:=by
 intro b hb;obtain⟨xs,ho,_⟩:=h;rcases ho.2 with⟨rfl,_⟩|⟨g',cap',cur,rfl,hB,hg,_⟩
 ·simp[Value.ownBlock]at hb
 ·simp[Value.ownBlock]at hb;subst hb;exact⟨hB,(Array.getElem?_eq_some_iff.1 hg).1⟩
theorem zBe {h p g i:Nat}{w0 w:World}{x:Value}(hs:SrcOk h p w∧Eff p w0 w) (hg:w0.heap.size≤g) (hp:p<g):SrcOk h p (w.setCell ⟨g,i,none⟩ x)∧Eff p w0 (w.setCell ⟨g,i,none⟩ x):=zBl hs.1 hs.2 hg hp
theorem zKz {l:List Vl}(h:∀ x∈l,okV x=true∧sml x):okVs l=true∧smlVs l:=⟨by rw[zAn,List.all_eq_true];exact fun x hx=>(h x hx).1,zG5.2 fun x hx=>(h x hx).2⟩
theorem zOo (k h p:Nat) (n:Nat) (ht:Int) (w:World) (hS:SrcOk h p w) (hn:n≤2) (hk:0<k) (hv:Hid (∀ W,SrcOk h p W→Calls Tryz.prog 15 #[.pointer (some ⟨p,0,none⟩),.int .i64 ht] W (DrawR k h p W))) :
  Calls Tryz.prog 60 #[.pointer (some ⟨p,0,none⟩),.int .i64 n,.int .i64 ht] w fun e w'=>(∃ x cs,e=.returned (.agg cs.toArray)∧EnB k x w' (Btw w.heap.size w'.heap.size) cs∧entB n x=true∧okE x=true∧smlE x)∧SrcOk h p w'∧Eff p w w':=by
 have hlp:=hS.lt;obtain⟨W,hW⟩:∃ W,W=(w.alloc (.cells #[.slice none 0 0,.bool false,.int .i64 0,.int .i64 0,.string ⟨#[]⟩,.slice none 0 0,.slice none 0 0,.slice none 0 0,.slice none 0 0] 45)).alloc (.cells #[.slice none 0 0,.bool false,.int .i64 0,.int .i64 0,.string ⟨#[]⟩,.slice none 0 0,.slice none 0 0,.slice none 0 0,.slice none 0 0] 45):=⟨_,rfl⟩;have hbW:Below w.heap.size w W:=by rw[hW];exact (bR.alloc lR _).alloc (by simp) _
 have hzW:W.heap.size=w.heap.size+2:=by rw[hW];simp
 have kr:W.heap[w.heap.size]?=some (.cells #[.slice none 0 0,.bool false,.int .i64 0,.int .i64 0,.string ⟨#[]⟩,.slice none 0 0,.slice none 0 0,.slice none 0 0,.slice none 0 0] 45 (0,0)):=by rw[hW,Below.heap_alloc _ _ _ (by simp)];exact heap_alloc_new w _
 have kb:W.heap[w.heap.size+1]?=some (.cells #[.slice none 0 0,.bool false,.int .i64 0,.int .i64 0,.string ⟨#[]⟩,.slice none 0 0,.slice none 0 0,.slice none 0 0,.slice none 0 0] 45 (0,0)):=by rw[hW];exact zB2 _ (by simp)
 have hSW:=hS.below hbW;have hEW:=Eff.of_below hbW (Nat.le_of_lt hlp);clear hS hbW;go_enter Tryz.func60,Tryz.ntmps60;go_wp2_with fail;rw[←hW];clear hW
 go_loopw [1] (fun i wr=>∃ (m:Nat) (A:Option Addr) (c:Nat) (args:List Vl),i=.int .i64 m∧args.length+m=n∧wr.heap[w.heap.size+1]?=some (.cells #[.slice A args.length c,.bool false,.int .i64 0,.int .i64 0,.string ⟨#[]⟩,.slice none 0 0,.slice none 0 0,.slice none 0 0,.slice none 0 0] 45 (0,0))∧wr.heap[w.heap.size]?=some (.cells #[.slice none 0 0,.bool false,.int .i64 0,.int .i64 0,.string ⟨#[]⟩,.slice none 0 0,.slice none 0 0,.slice none 0 0,.slice none 0 0] 45 (0,0))∧OwnV k wr (w.heap.size+2) (.slice A args.length c) args∧(∀ x∈args,okV x=true∧sml x)∧SrcOk h p wr∧Eff p w wr∧w.heap.size+2≤wr.heap.size) (fun i _=>(intOf i).toNat)
 case atStart=>exact⟨n,none,0,[],rfl,by simp,kb,kr,OwnE.nil _ _ _ _ _,by simp,hSW,hEW,by omega⟩
 case round=>
  obtain⟨m,A,c,args,rfl,hm,hbox,hres,hO,hall,hSr,hEr,hzr⟩:=hrel;by_cases hm0:m=0
  ·subst hm0;have hN:=zBc h p 4 wr hSr (by omega) (by omega);have HE:=xI (aN hbox (aN hres (aN hO (aN hall (aN hEr (aN hzr hm))))));have mp:((0:Nat):Int)=0:=rfl;clear hbox hres hO hall hSr hEr hm;go_wp2_with fail;refine hN.mono ?_;rintro e w2 ⟨j,rfl,j0,j1,hS2,hE2⟩;clear hN;have hz2:=hE2.size;have hbx:=HE.out;have kb2:w2.heap[w.heap.size+1]?=some (.cells #[.slice A args.length c,.bool false,.int .i64 0,.int .i64 0,.string ⟨#[]⟩,.slice none 0 0,.slice none 0 0,.slice none 0 0,.slice none 0 0] 45 (0,0)):=(hE2.other _ (by omega) (by omega)).trans hbx.1;have kr2:w2.heap[w.heap.size]?=some (.cells #[.slice none 0 0,.bool false,.int .i64 0,.int .i64 0,.string ⟨#[]⟩,.slice none 0 0,.slice none 0 0,.slice none 0 0,.slice none 0 0] 45 (0,0)):=(hE2.other _ (by omega) (by omega)).trans hbx.2.1;have hO2:=hbx.2.2.1.eff hE2 (by omega);have hE2':=hbx.2.2.2.2.1.trans hE2;generalize hLA:args.length=la at kb2;have HLA:=xI hLA;clear hLA;by_cases hj:j=1
   ·subst hj;have HX:=xI (aN hO2 (aN hE2' (aN hS2 (aN kb2 kr2))));clear hO2 hE2' hS2 hbx hE2;have e0:w2.cell? ⟨w.heap.size,0,none⟩=some (.slice none 0 0):=cH kr2 0;have z0:=Lib.frozen_of_heap kr2 0;have e1:w2.cell? ⟨w.heap.size,1,none⟩=some (.bool false):=cH kr2 1;have z1:=Lib.frozen_of_heap kr2 1;have e2:w2.cell? ⟨w.heap.size,2,none⟩=some (.int .i64 0):=cH kr2 2;have z2:=Lib.frozen_of_heap kr2 2;have e3:w2.cell? ⟨w.heap.size,3,none⟩=some (.int .i64 0):=cH kr2 3;have z3:=Lib.frozen_of_heap kr2 3;have e4:w2.cell? ⟨w.heap.size,4,none⟩=some (.string ⟨#[]⟩):=cH kr2 4;have z4:=Lib.frozen_of_heap kr2 4;have e5:w2.cell? ⟨w.heap.size,5,none⟩=some (.slice none 0 0):=cH kr2 5;have z5:=Lib.frozen_of_heap kr2 5;have e6:w2.cell? ⟨w.heap.size,6,none⟩=some (.slice none 0 0):=cH kr2 6;have z6:=Lib.frozen_of_heap kr2 6;have e7:w2.cell? ⟨w.heap.size,7,none⟩=some (.slice none 0 0):=cH kr2 7;have z7:=Lib.frozen_of_heap kr2 7;have e8:w2.cell? ⟨w.heap.size,8,none⟩=some (.slice none 0 0):=cH kr2 8;have z8:=Lib.frozen_of_heap kr2 8;have g0:w2.cell? ⟨w.heap.size+1,0,none⟩=some (.slice A la c):=cH kb2 0;have y0:=Lib.frozen_of_heap kb2 0;have g1:w2.cell? ⟨w.heap.size+1,1,none⟩=some (.bool false):=cH kb2 1;have y1:=Lib.frozen_of_heap kb2 1;have g2:w2.cell? ⟨w.heap.size+1,2,none⟩=some (.int .i64 0):=cH kb2 2;have y2:=Lib.frozen_of_heap kb2 2;have g3:w2.cell? ⟨w.heap.size+1,3,none⟩=some (.int .i64 0):=cH kb2 3;have y3:=Lib.frozen_of_heap kb2 3;have g4:w2.cell? ⟨w.heap.size+1,4,none⟩=some (.string ⟨#[]⟩):=cH kb2 4;have y4:=Lib.frozen_of_heap kb2 4;have g5:w2.cell? ⟨w.heap.size+1,5,none⟩=some (.slice none 0 0):=cH kb2 5;have y5:=Lib.frozen_of_heap kb2 5;have g6:w2.cell? ⟨w.heap.size+1,6,none⟩=some (.slice none 0 0):=cH kb2 6;have y6:=Lib.frozen_of_heap kb2 6;have g7:w2.cell? ⟨w.heap.size+1,7,none⟩=some (.slice none 0 0):=cH kb2 7;have y7:=Lib.frozen_of_heap kb2 7;have g8:w2.cell? ⟨w.heap.size+1,8,none⟩=some (.slice none 0 0):=cH kb2 8;have y8:=Lib.frozen_of_heap kb2 8;clear kb2 kr2;go_wp2;have HSE:SrcOk h p w2∧Eff p w w2:=⟨HX.out.2.2.1,HX.out.2.1⟩;have HOW:=HX.out.1;have HALL:=HE.out.2.2.2.1;have hml:args.length=n:=by have:=HE.out.2.2.2.2.2.2;omega
    obtain⟨V,hV⟩:∃ V,V=((((((((((w2.setCell ⟨w.heap.size+1,1,none⟩ (Value.bool true)).setCell ⟨w.heap.size,0,none⟩ (Value.slice A la c)).setCell ⟨w.heap.size,1,none⟩ (Value.bool true)).setCell ⟨w.heap.size,2,none⟩ (Value.int .i64 0)).setCell ⟨w.heap.size,3,none⟩ (Value.int .i64 0)).setCell ⟨w.heap.size,4,none⟩ (Value.string ⟨#[]⟩)).setCell ⟨w.heap.size,5,none⟩ (Value.slice none 0 0)).setCell ⟨w.heap.size,6,none⟩ (Value.slice none 0 0)).setCell ⟨w.heap.size,7,none⟩ (Value.slice none 0 0)).setCell ⟨w.heap.size,8,none⟩ (Value.slice none 0 0)):=⟨_,rfl⟩;rw[←hV];have hg1:w.heap.size≤w.heap.size+1:=by omega
    have hp1:p<w.heap.size+1:=by omega
    have hl1:w.heap.size+1<w.heap.size+2:=by omega
    have hl0:w.heap.size<w.heap.size+2:=by omega
    have hkb:(w2.setCell ⟨w.heap.size+1,1,none⟩ (Value.bool true)).heap[w.heap.size]?=some (.cells #[.slice none 0 0,.bool false,.int .i64 0,.int .i64 0,.string ⟨#[]⟩,.slice none 0 0,.slice none 0 0,.slice none 0 0,.slice none 0 0] 45 (0,0)):=(heap_setCell_other _ _ _ _ (show w.heap.size≠w.heap.size+1 by omega)).trans (HX.out.2.2.2.2);have hob:V.heap[w.heap.size]?=some (.cells #[.slice A la c,.bool true,.int .i64 0,.int .i64 0,.string ⟨#[]⟩,.slice none 0 0,.slice none 0 0,.slice none 0 0,.slice none 0 0] 45 (0,0)):=by rw[hV];exact obj9 hkb (Value.slice A la c) (Value.bool true) (Value.int .i64 0) (Value.int .i64 0) (Value.string ⟨#[]⟩) (Value.slice none 0 0) (Value.slice none 0 0) (Value.slice none 0 0) (Value.slice none 0 0)
    have hfin:SrcOk h p V∧Eff p w V:=by rw[hV];exact zBe (zBe (zBe (zBe (zBe (zBe (zBe (zBe (zBe (zBe (HSE) hg1 hp1) lR hlp) lR hlp) lR hlp) lR hlp) lR hlp) lR hlp) lR hlp) lR hlp) lR hlp
    have hOV:OwnV k V (w.heap.size+2) (.slice A args.length c) args:=by rw[hV];exact OwnE.low (OwnE.low (OwnE.low (OwnE.low (OwnE.low (OwnE.low (OwnE.low (OwnE.low (OwnE.low (OwnE.low (HOW) hl1) hl0) hl0) hl0) hl0) hl0) hl0) hl0) hl0) hl0
    have hzV:V.heap.size=w2.heap.size:=by rw[hV];simp
    have hsmV:∀ B:Nat→Prop,¬ B w.heap.size→¬ B (w.heap.size+1)→Same B w2 V:=fun B h0 h1=>by rw[hV];exact zAa (zAa (zAa (zAa (zAa (zAa (zAa (zAa (zAa (zAa (Same.refl _ _) h1) h0) h0) h0) h0) h0) h0) h0) h0) h0
    clear hV hkb e0 z0 e1 z1 e2 z2 e3 z3 e4 z4 e5 z5 e6 z6 e7 z7 e8 z8 g0 g1 g2 g3 g4 g5 g6 g7 g8 y0 y1 y2 y3 y4 y5 y6 y7 y8;have ps0:V.cell? ⟨w.heap.size,0,none⟩=some (Value.slice A la c):=cH hob 0;have ps1:V.cell? ⟨w.heap.size,1,none⟩=some (Value.bool true):=cH hob 1;have ps2:V.cell? ⟨w.heap.size,2,none⟩=some (Value.int .i64 0):=cH hob 2;have ps3:V.cell? ⟨w.heap.size,3,none⟩=some (Value.int .i64 0):=cH hob 3;have ps4:V.cell? ⟨w.heap.size,4,none⟩=some (Value.string ⟨#[]⟩):=cH hob 4;have ps5:V.cell? ⟨w.heap.size,5,none⟩=some (Value.slice none 0 0):=cH hob 5;have ps6:V.cell? ⟨w.heap.size,6,none⟩=some (Value.slice none 0 0):=cH hob 6;have ps7:V.cell? ⟨w.heap.size,7,none⟩=some (Value.slice none 0 0):=cH hob 7;have ps8:V.cell? ⟨w.heap.size,8,none⟩=some (Value.slice none 0 0):=cH hob 8;refine bodyPost_ret (v:=.agg #[.slice A la c,.bool true,.int .i64 0,.int .i64 0,.string ⟨#[]⟩,.slice none 0 0,.slice none 0 0,.slice none 0 0,.slice none 0 0]) (by simp[results,Tryz.results60,go_sem,ps0,ps1,ps2,ps3,ps4,ps5,ps6,ps7,ps8]) rfl ?_;have hla:=HLA.out;subst hla;obtain⟨o1,o2⟩:=zKz HALL;have hrow:RowB V (Btw w.heap.size V.heap.size) 7 (.slice A args.length c) args.length (fun j cs=>∃ x,args[j]?=some x∧VB k V (Btw w.heap.size V.heap.size) x cs):=RowB.sub (hOV.row (by omega) (by unfold maxLen;omega)) (fun b hb=>⟨by have:=hb.1;omega,hb.2⟩) (by
     rintro j cs ⟨x,hx,hv⟩;exact⟨x,hx,VB.sub (fun b hb=>⟨by have:=hb.1;omega,hb.2⟩) lR hv⟩)
    obtain⟨k,rfl⟩:∃ q,k=q+1:=⟨k-1,by omega⟩;refine⟨⟨.mk args true zeroV,_,rfl,⟨args,true,zeroV,rfl,_,_,rfl,hrow,zLo k V _⟩,?_,?_,?_⟩,hfin⟩
    ·have hz:isZ zeroV=true:=zK5.2 rfl;simp[entB,zMi,zFr,resOf,hz,hml]
    ·simp[okE,o1]
    ·exact⟨by omega,o2,by simp[sml,zeroV,smlVs,smlEs]⟩
   ·have hjb:(j==1)=false:=by rw[beq_eq_false_iff_ne];exact hj
    have hvc:=hv.out w2 hS2;have HX:=xI (aN hO2 (aN hE2' (aN hS2 (aN kb2 kr2))));clear hO2 hE2' hS2 hbx hE2 kb2 kr2;go_wp2_with fail;refine hvc.mono ?_;rintro e w3 ⟨⟨r,rs,rfl,hvb,hok,hsm⟩,hS3,hE3⟩;clear hvc;obtain⟨a',i',s',B1',n1',d1',B2',n2',d2',B3',n3',d3',B4',n4',d4',rfl⟩:=hvb.form7;have hz3:=hE3.size;have kb3:w3.heap[w.heap.size+1]?=some (.cells #[.slice A la c,.bool false,.int .i64 0,.int .i64 0,.string ⟨#[]⟩,.slice none 0 0,.slice none 0 0,.slice none 0 0,.slice none 0 0] 45 (0,0)):=(hE3.other _ (by omega) (by omega)).trans HX.out.2.2.2.1;have kr3:w3.heap[w.heap.size]?=some (.cells #[.slice none 0 0,.bool false,.int .i64 0,.int .i64 0,.string ⟨#[]⟩,.slice none 0 0,.slice none 0 0,.slice none 0 0,.slice none 0 0] 45 (0,0)):=(hE3.other _ (by omega) (by omega)).trans HX.out.2.2.2.2;have HY:=xI (aN (HX.out.1.eff hE3 (by omega)) (aN (HX.out.2.1.trans hE3) (aN hS3 (aN kb3 (aN kr3 (aN hvb (aN hok hsm)))))));clear hvb hok hsm hS3 hE3;have e0:w3.cell? ⟨w.heap.size,0,none⟩=some (.slice none 0 0):=cH kr3 0;have z0:=Lib.frozen_of_heap kr3 0;have g0:w3.cell? ⟨w.heap.size+1,0,none⟩=some (.slice A la c):=cH kb3 0;have y0:=Lib.frozen_of_heap kb3 0;have e1:w3.cell? ⟨w.heap.size,1,none⟩=some (.bool false):=cH kr3 1;have z1:=Lib.frozen_of_heap kr3 1;have g1:w3.cell? ⟨w.heap.size+1,1,none⟩=some (.bool false):=cH kb3 1;have y1:=Lib.frozen_of_heap kb3 1;have e2:w3.cell? ⟨w.heap.size,2,none⟩=some (.int .i64 0):=cH kr3 2;have z2:=Lib.frozen_of_heap kr3 2;have g2:w3.cell? ⟨w.heap.size+1,2,none⟩=some (.int .i64 0):=cH kb3 2;have y2:=Lib.frozen_of_heap kb3 2;have e3:w3.cell? ⟨w.heap.size,3,none⟩=some (.int .i64 0):=cH kr3 3;have z3:=Lib.frozen_of_heap kr3 3;have g3:w3.cell? ⟨w.heap.size+1,3,none⟩=some (.int .i64 0):=cH kb3 3;have y3:=Lib.frozen_of_heap kb3 3;have e4:w3.cell? ⟨w.heap.size,4,none⟩=some (.string ⟨#[]⟩):=cH kr3 4;have z4:=Lib.frozen_of_heap kr3 4;have g4:w3.cell? ⟨w.heap.size+1,4,none⟩=some (.string ⟨#[]⟩):=cH kb3 4;have y4:=Lib.frozen_of_heap kb3 4;have e5:w3.cell? ⟨w.heap.size,5,none⟩=some (.slice none 0 0):=cH kr3 5;have z5:=Lib.frozen_of_heap kr3 5;have g5:w3.cell? ⟨w.heap.size+1,5,none⟩=some (.slice none 0 0):=cH kb3 5;have y5:=Lib.frozen_of_heap kb3 5;have e6:w3.cell? ⟨w.heap.size,6,none⟩=some (.slice none 0 0):=cH kr3 6;have z6:=Lib.frozen_of_heap kr3 6;have g6:w3.cell? ⟨w.heap.size+1,6,none⟩=some (.slice none 0 0):=cH kb3 6;have y6:=Lib.frozen_of_heap kb3 6;have e7:w3.cell? ⟨w.heap.size,7,none⟩=some (.slice none 0 0):=cH kr3 7;have z7:=Lib.frozen_of_heap kr3 7;have g7:w3.cell? ⟨w.heap.size+1,7,none⟩=some (.slice none 0 0):=cH kb3 7;have y7:=Lib.frozen_of_heap kb3 7;have e8:w3.cell? ⟨w.heap.size,8,none⟩=some (.slice none 0 0):=cH kr3 8;have z8:=Lib.frozen_of_heap kr3 8;have g8:w3.cell? ⟨w.heap.size+1,8,none⟩=some (.slice none 0 0):=cH kb3 8;have y8:=Lib.frozen_of_heap kb3 8;clear kb3 kr3;go_wp2;have HSE:SrcOk h p w3∧Eff p w w3:=⟨HY.out.2.2.1,HY.out.2.1⟩;have HOW:=HY.out.1;have HALL:=HE.out.2.2.2.1;have hml:args.length=n:=by have:=HE.out.2.2.2.2.2.2;omega
    obtain⟨V,hV⟩:∃ V,V=((((((((((((((((w3.setCell ⟨w.heap.size+1,2,none⟩ (Value.int .i64 a')).setCell ⟨w.heap.size+1,3,none⟩ (Value.int .i64 i')).setCell ⟨w.heap.size+1,4,none⟩ (Value.string s')).setCell ⟨w.heap.size+1,5,none⟩ (Value.slice B1' n1' d1')).setCell ⟨w.heap.size+1,6,none⟩ (Value.slice B2' n2' d2')).setCell ⟨w.heap.size+1,7,none⟩ (Value.slice B3' n3' d3')).setCell ⟨w.heap.size+1,8,none⟩ (Value.slice B4' n4' d4')).setCell ⟨w.heap.size,0,none⟩ (Value.slice A la c)).setCell ⟨w.heap.size,1,none⟩ (Value.bool false)).setCell ⟨w.heap.size,2,none⟩ (Value.int .i64 a')).setCell ⟨w.heap.size,3,none⟩ (Value.int .i64 i')).setCell ⟨w.heap.size,4,none⟩ (Value.string s')).setCell ⟨w.heap.size,5,none⟩ (Value.slice B1' n1' d1')).setCell ⟨w.heap.size,6,none⟩ (Value.slice B2' n2' d2')).setCell ⟨w.heap.size,7,none⟩ (Value.slice B3' n3' d3')).setCell ⟨w.heap.size,8,none⟩ (Value.slice B4' n4' d4')):=⟨_,rfl⟩;rw[←hV];have hg1:w.heap.size≤w.heap.size+1:=by omega
    have hp1:p<w.heap.size+1:=by omega
    have hl1:w.heap.size+1<w.heap.size+2:=by omega
    have hl0:w.heap.size<w.heap.size+2:=by omega
    have hkb:(((((((w3.setCell ⟨w.heap.size+1,2,none⟩ (Value.int .i64 a')).setCell ⟨w.heap.size+1,3,none⟩ (Value.int .i64 i')).setCell ⟨w.heap.size+1,4,none⟩ (Value.string s')).setCell ⟨w.heap.size+1,5,none⟩ (Value.slice B1' n1' d1')).setCell ⟨w.heap.size+1,6,none⟩ (Value.slice B2' n2' d2')).setCell ⟨w.heap.size+1,7,none⟩ (Value.slice B3' n3' d3')).setCell ⟨w.heap.size+1,8,none⟩ (Value.slice B4' n4' d4')).heap[w.heap.size]?=some (.cells #[.slice none 0 0,.bool false,.int .i64 0,.int .i64 0,.string ⟨#[]⟩,.slice none 0 0,.slice none 0 0,.slice none 0 0,.slice none 0 0] 45 (0,0)):=(heap_setCell_other _ _ _ _ (show w.heap.size≠w.heap.size+1 by omega)).trans ((heap_setCell_other _ _ _ _ (show w.heap.size≠w.heap.size+1 by omega)).trans ((heap_setCell_other _ _ _ _ (show w.heap.size≠w.heap.size+1 by omega)).trans ((heap_setCell_other _ _ _ _ (show w.heap.size≠w.heap.size+1 by omega)).trans ((heap_setCell_other _ _ _ _ (show w.heap.size≠w.heap.size+1 by omega)).trans ((heap_setCell_other _ _ _ _ (show w.heap.size≠w.heap.size+1 by omega)).trans ((heap_setCell_other _ _ _ _ (show w.heap.size≠w.heap.size+1 by omega)).trans (HY.out.2.2.2.2.1)))))));have hob:V.heap[w.heap.size]?=some (.cells #[.slice A la c,.bool false,.int .i64 a',.int .i64 i',.string s',.slice B1' n1' d1',.slice B2' n2' d2',.slice B3' n3' d3',.slice B4' n4' d4'] 45 (0,0)):=by rw[hV];exact obj9 hkb (Value.slice A la c) (Value.bool false) (Value.int .i64 a') (Value.int .i64 i') (Value.string s') (Value.slice B1' n1' d1') (Value.slice B2' n2' d2') (Value.slice B3' n3' d3') (Value.slice B4' n4' d4')
    have hfin:SrcOk h p V∧Eff p w V:=by rw[hV];exact zBe (zBe (zBe (zBe (zBe (zBe (zBe (zBe (zBe (zBe (zBe (zBe (zBe (zBe (zBe (zBe (HSE) hg1 hp1) hg1 hp1) hg1 hp1) hg1 hp1) hg1 hp1) hg1 hp1) hg1 hp1) lR hlp) lR hlp) lR hlp) lR hlp) lR hlp) lR hlp) lR hlp) lR hlp) lR hlp
    have hOV:OwnV k V (w.heap.size+2) (.slice A args.length c) args:=by rw[hV];exact OwnE.low (OwnE.low (OwnE.low (OwnE.low (OwnE.low (OwnE.low (OwnE.low (OwnE.low (OwnE.low (OwnE.low (OwnE.low (OwnE.low (OwnE.low (OwnE.low (OwnE.low (OwnE.low (HOW) hl1) hl1) hl1) hl1) hl1) hl1) hl1) hl0) hl0) hl0) hl0) hl0) hl0) hl0) hl0) hl0
    have hzV:V.heap.size=w3.heap.size:=by rw[hV];simp
    have hsmV:∀ B:Nat→Prop,¬ B w.heap.size→¬ B (w.heap.size+1)→Same B w3 V:=fun B h0 h1=>by rw[hV];exact zAa (zAa (zAa (zAa (zAa (zAa (zAa (zAa (zAa (zAa (zAa (zAa (zAa (zAa (zAa (zAa (Same.refl _ _) h1) h1) h1) h1) h1) h1) h1) h0) h0) h0) h0) h0) h0) h0) h0) h0
    clear hV hkb e0 z0 e1 z1 e2 z2 e3 z3 e4 z4 e5 z5 e6 z6 e7 z7 e8 z8 g0 g1 g2 g3 g4 g5 g6 g7 g8 y0 y1 y2 y3 y4 y5 y6 y7 y8;have ps0:V.cell? ⟨w.heap.size,0,none⟩=some (Value.slice A la c):=cH hob 0;have ps1:V.cell? ⟨w.heap.size,1,none⟩=some (Value.bool false):=cH hob 1;have ps2:V.cell? ⟨w.heap.size,2,none⟩=some (Value.int .i64 a'):=cH hob 2;have ps3:V.cell? ⟨w.heap.size,3,none⟩=some (Value.int .i64 i'):=cH hob 3;have ps4:V.cell? ⟨w.heap.size,4,none⟩=some (Value.string s'):=cH hob 4;have ps5:V.cell? ⟨w.heap.size,5,none⟩=some (Value.slice B1' n1' d1'):=cH hob 5;have ps6:V.cell? ⟨w.heap.size,6,none⟩=some (Value.slice B2' n2' d2'):=cH hob 6;have ps7:V.cell? ⟨w.heap.size,7,none⟩=some (Value.slice B3' n3' d3'):=cH hob 7;have ps8:V.cell? ⟨w.heap.size,8,none⟩=some (Value.slice B4' n4' d4'):=cH hob 8;refine bodyPost_ret (v:=.agg #[.slice A la c,.bool false,.int .i64 a',.int .i64 i',.string s',.slice B1' n1' d1',.slice B2' n2' d2',.slice B3' n3' d3',.slice B4' n4' d4']) (by simp[results,Tryz.results60,go_sem,ps0,ps1,ps2,ps3,ps4,ps5,ps6,ps7,ps8]) rfl ?_;have hla:=HLA.out;subst hla;obtain⟨o1,o2⟩:=zKz HALL;have hrow:RowB V (Btw w.heap.size V.heap.size) 7 (.slice A args.length c) args.length (fun j cs=>∃ x,args[j]?=some x∧VB k V (Btw w.heap.size V.heap.size) x cs):=RowB.sub (hOV.row (by omega) (by unfold maxLen;omega)) (fun b hb=>⟨by have:=hb.1;omega,hb.2⟩) (by
     rintro j cs ⟨x,hx,hv⟩;exact⟨x,hx,VB.sub (fun b hb=>⟨by have:=hb.1;omega,hb.2⟩) lR hv⟩)
    have hvr:=VB.sub (B':=Btw w.heap.size V.heap.size) (fun b hb=>⟨by have:=hb.1;omega,by have:=hb.2;omega⟩) lR (VB.keep (hsmV _ (fun h=>by have:=h.1;omega) (fun h=>by have:=h.1;omega)) HY.out.2.2.2.2.2.1);refine⟨⟨.mk args false r,_,rfl,⟨args,false,r,rfl,_,_,rfl,hrow,hvr⟩,?_,?_,?_⟩,hfin⟩
    ·simp[entB,zMi,zFr,resOf,hml]
    ·simp[okE,o1,HY.out.2.2.2.2.2.2.1]
    ·exact⟨by omega,o2,HY.out.2.2.2.2.2.2.2⟩
  ·have mp:(0:Int)<(m:Int):=by omega
   have hw1:IntKind.i64.wrap ((m:Int)-1)=(m:Int)-1:=IntWalk.i64_in _ (by omega);have hLn:=xI hm;have hL:=xI (aN hbox (aN hres (aN hO (aN hall (aN hSr (aN hEr hzr))))));clear hm hbox hres hO hall hSr hEr;generalize hLA:args.length=la;have HLA:=xI hLA;rw[hLA]at hL;clear hLA;go_wp2_with fail;refine wp_region_held_drew (S:=fun _=>True) (by kernel_rfl) trivial (fun hHeld=>?_);refine tk 0 hHeld ?_
   try simp only[pK]
   refine tk 2 hHeld ?_
   try simp only[pK]
   refine tk 3 hHeld ?_
   try simp only[pK]
   have hsz:wr.drew.heap.size=wr.heap.size:=rfl;have hbx:=hL.out;have kb0:wr.drew.heap[w.heap.size+1]?=some (.cells #[.slice A la c,.bool false,.int .i64 0,.int .i64 0,.string ⟨#[]⟩,.slice none 0 0,.slice none 0 0,.slice none 0 0,.slice none 0 0] 45 (0,0)):=hbx.1;have kc0:wr.drew.cell? ⟨w.heap.size+1,0,none⟩=some (.slice A la c):=cH kb0 0;have hvc:=hv.out wr.drew (hbx.2.2.2.2.1.below bR.drew);have hEd:Eff p wr wr.drew:=Eff.of_below bR.drew (by omega);refine wpAnyH_all (rs:=[1,4]) (by kernel_rfl) (by simp) fun j hj=>?_;have hj2:j=1∨j=4:=by simpa using hj
   clear hj;rcases hj2 with rfl|rfl
   ·refine zAu rfl (by rfl) (fun K hK=>?_);go_simp;refine hK _ _ ⟨trivial,?_⟩
    try simp only[pK]
    refine oO 4 fun K hK=>?_;go_simp;refine hvc.mono ?_;rintro e w10 ⟨⟨v,cs,rfl,hvb,hok,hsm⟩,hS10,hE10⟩;obtain⟨a',i',s',B1',n1',d1',B2',n2',d2',B3',n3',d3',B4',n4',d4',rfl⟩:=hvb.form7;have hz10:wr.heap.size≤w10.heap.size:=hE10.size;have hE10':Eff p wr w10:=hEd.trans hE10;have kb:w10.heap[w.heap.size+1]?=some (.cells #[.slice A la c,.bool false,.int .i64 0,.int .i64 0,.string ⟨#[]⟩,.slice none 0 0,.slice none 0 0,.slice none 0 0,.slice none 0 0] 45 (0,0)):=(hE10'.other _ (by omega) (by have:=hbx.2.2.2.2.2.2;omega)).trans hbx.1;have kr:w10.heap[w.heap.size]?=some (.cells #[.slice none 0 0,.bool false,.int .i64 0,.int .i64 0,.string ⟨#[]⟩,.slice none 0 0,.slice none 0 0,.slice none 0 0,.slice none 0 0] 45 (0,0)):=(hE10'.other _ (by omega) (by have:=hbx.2.2.2.2.2.2;omega)).trans hbx.2.1;have hO10:=hbx.2.2.1.eff hE10' (by omega);have hblk:=hbx.2.2.1.blk;obtain⟨i0,hi,hz0,hz1,hz2⟩:=info_parts Tryz.infoV;obtain⟨g,cap,w11,hr11,hO11,hb11,hk11,_⟩:=zBa (elV k) 22 22 27 i0 (.agg #[.int .i64 0,.int .i64 0,.string ⟨#[]⟩,.slice none 0 0,.slice none 0 0,.slice none 0 0,.slice none 0 0]) 7 128 Tryz.underlying22 hi hz0 hz1 hz2 rfl (by decide) (by decide) w10 (w.heap.size+2) _ args hO10 v _ (VB.sub (fun b hb=>⟨by have:=hb.1;have:=hbx.2.2.2.2.2.2;omega,hb.2,fun e=>by have:=hblk b e.symm;have:=hb.1;omega⟩) lR hvb) rfl (zBn k v _ _ _ hvb) (by have:=hLn.out;omega) (by omega) _ rfl 1;rw[show args.length=la from HLA.out]at hr11 hO11;have kb11:w11.heap[w.heap.size+1]?=some (.cells #[.slice A la c,.bool false,.int .i64 0,.int .i64 0,.string ⟨#[]⟩,.slice none 0 0,.slice none 0 0,.slice none 0 0,.slice none 0 0] 45 (0,0)):=(hb11.block _ (by omega)).trans kb;have kr11:w11.heap[w.heap.size]?=some (.cells #[.slice none 0 0,.bool false,.int .i64 0,.int .i64 0,.string ⟨#[]⟩,.slice none 0 0,.slice none 0 0,.slice none 0 0,.slice none 0 0] 45 (0,0)):=(hb11.block _ (by omega)).trans kr;have HR:=xI (aN kb11 (aN kr11 (aN hO11 (aN hb11 (aN hok (aN hsm (aN hS10 hE10')))))));have kc11:w11.cell? ⟨w.heap.size+1,0,none⟩=some (.slice A la c):=cH kb11 0;have kz11:=Lib.frozen_of_heap kb11 0;have hz11:=hb11.size;clear hvb hok hsm hS10 hE10 hE10' kb kr hO10 hblk hO11 hb11 hk11 kb11 kr11 hbx hEd hi hz0 hz1 hz2 kb0;refine hK _ _ trivial ?_
    try simp only[pK]
    refine oO 5 fun K hK=>?_;go_simp;refine hK _ _ trivial ?_
    try simp only[pK]
    refine oO 6 fun K hK=>?_;refine Lib.wp_append_run _ _ _ _ _ rfl _ _ rfl rfl _ w11 hr11 ?_;refine hK _ _ trivial ?_
    try simp only[pK]
    refine oO 7 fun K hK=>?_;go_simp;refine hK _ _ trivial ?_
    try simp only[pK]
    refine oO 8 fun K hK=>?_;go_simp;refine hK _ _ trivial ?_
    try simp only[pK]
    refine (wD ?_) _;clear kc0 kc11 kz11 hr11;go_wp2_with fail
    go_roundw
    case rel=>
     obtain⟨q1,q2,q3,q4,q5,q6,q7,q8⟩:=HR.out;obtain⟨_,_,_,hall,_,hEr,hzr⟩:=hL.out;have hll:(args++[v]).length=la+1:=by rw[List.length_append,HLA.out];rfl
     have hEw11:=(hEr.trans q8).grow (q4.mono (by omega)) hlp;have hS11:SrcOk h p w11:=q7.below3 q4 (by omega);obtain⟨r1,r2⟩:=zBl (g:=w.heap.size+1) (i:=0) (x:=.slice (some ⟨g,0,none⟩) (la+1) cap) hS11 hEw11 (by omega) (by omega);refine⟨m-1,some ⟨g,0,none⟩,cap,args++[v],by go_num,by rw[hll];have:=hLn.out;have:=HLA.out;omega,?_,(heap_setCell_other _ _ _ _ (show w.heap.size≠w.heap.size+1 by omega)).trans q2,by rw[hll];exact OwnE.low q3 (by omega),?_,r1,r2,by simp;omega⟩
     ·rw[hll];have:=heap_setCell_same w11 (w.heap.size+1) 0 _ _ (.slice (some ⟨g,0,none⟩) (la+1) cap) q1;simpa using this
     ·intro x hx;rcases List.mem_append.1 hx with hx|hx
      ·exact hall x hx
      ·rw[List.mem_singleton.1 hx];exact⟨q5,q6⟩
    case measure=>simp[intOf];try omega
   ·refine zAu rfl (by rfl) (fun K hK=>?_);go_simp;refine hvc.mono ?_;rintro e w10 ⟨⟨v,cs,rfl,hvb,hok,hsm⟩,hS10,hE10⟩;obtain⟨a',i',s',B1',n1',d1',B2',n2',d2',B3',n3',d3',B4',n4',d4',rfl⟩:=hvb.form7;have hz10:wr.heap.size≤w10.heap.size:=hE10.size;have hE10':Eff p wr w10:=hEd.trans hE10;have kb:w10.heap[w.heap.size+1]?=some (.cells #[.slice A la c,.bool false,.int .i64 0,.int .i64 0,.string ⟨#[]⟩,.slice none 0 0,.slice none 0 0,.slice none 0 0,.slice none 0 0] 45 (0,0)):=(hE10'.other _ (by omega) (by have:=hbx.2.2.2.2.2.2;omega)).trans hbx.1;have kr:w10.heap[w.heap.size]?=some (.cells #[.slice none 0 0,.bool false,.int .i64 0,.int .i64 0,.string ⟨#[]⟩,.slice none 0 0,.slice none 0 0,.slice none 0 0,.slice none 0 0] 45 (0,0)):=(hE10'.other _ (by omega) (by have:=hbx.2.2.2.2.2.2;omega)).trans hbx.2.1;have hO10:=hbx.2.2.1.eff hE10' (by omega);have hblk:=hbx.2.2.1.blk;obtain⟨i0,hi,hz0,hz1,hz2⟩:=info_parts Tryz.infoV;obtain⟨g,cap,w11,hr11,hO11,hb11,hk11,_⟩:=zBa (elV k) 22 22 27 i0 (.agg #[.int .i64 0,.int .i64 0,.string ⟨#[]⟩,.slice none 0 0,.slice none 0 0,.slice none 0 0,.slice none 0 0]) 7 128 Tryz.underlying22 hi hz0 hz1 hz2 rfl (by decide) (by decide) w10 (w.heap.size+2) _ args hO10 v _ (VB.sub (fun b hb=>⟨by have:=hb.1;have:=hbx.2.2.2.2.2.2;omega,hb.2,fun e=>by have:=hblk b e.symm;have:=hb.1;omega⟩) lR hvb) rfl (zBn k v _ _ _ hvb) (by have:=hLn.out;omega) (by omega) _ rfl 1;rw[show args.length=la from HLA.out]at hr11 hO11;have kb11:w11.heap[w.heap.size+1]?=some (.cells #[.slice A la c,.bool false,.int .i64 0,.int .i64 0,.string ⟨#[]⟩,.slice none 0 0,.slice none 0 0,.slice none 0 0,.slice none 0 0] 45 (0,0)):=(hb11.block _ (by omega)).trans kb;have kr11:w11.heap[w.heap.size]?=some (.cells #[.slice none 0 0,.bool false,.int .i64 0,.int .i64 0,.string ⟨#[]⟩,.slice none 0 0,.slice none 0 0,.slice none 0 0,.slice none 0 0] 45 (0,0)):=(hb11.block _ (by omega)).trans kr;have HR:=xI (aN kb11 (aN kr11 (aN hO11 (aN hb11 (aN hok (aN hsm (aN hS10 hE10')))))));have kc11:w11.cell? ⟨w.heap.size+1,0,none⟩=some (.slice A la c):=cH kb11 0;have kz11:=Lib.frozen_of_heap kb11 0;have hz11:=hb11.size;have kc10:w10.cell? ⟨w.heap.size+1,0,none⟩=some (.slice A la c):=cH kb 0;have kca:(w10.alloc (.cells #[.int .i64 a',.int .i64 i',.string s',.slice B1' n1' d1',.slice B2' n2' d2',.slice B3' n3' d3',.slice B4' n4' d4'] 27)).cell? ⟨w.heap.size+1,0,none⟩=some (.slice A la c):=(Lib.cell_of_heap ((Below.heap_alloc _ _ _ (by omega)).trans kb) 0).trans rfl;clear hvb hok hsm hS10 hE10 hE10' kb kr hO10 hblk hO11 hb11 hk11 kb11 kr11 hbx hEd hi hz0 hz1 hz2 kb0;refine hK _ _ ⟨trivial,?_⟩
    try simp only[pK]
    refine wpAnyH_all (rs:=[1,5]) (by kernel_rfl) (by simp) fun j hj=>?_;have hj2:j=1∨j=5:=by simpa using hj
    clear hj;rcases hj2 with rfl|rfl
    ·refine zAu rfl (by rfl) (fun K hK=>?_);go_simp;refine hK _ _ ⟨trivial,?_⟩;clear kc10 kca
     try simp only[pK]
     refine oO 5 fun K hK=>?_;go_simp;refine hK _ _ trivial ?_
     try simp only[pK]
     refine oO 6 fun K hK=>?_;refine Lib.wp_append_run _ _ _ _ _ rfl _ _ rfl rfl _ w11 hr11 ?_;refine hK _ _ trivial ?_
     try simp only[pK]
     refine oO 7 fun K hK=>?_;go_simp;refine hK _ _ trivial ?_
     try simp only[pK]
     refine oO 8 fun K hK=>?_;go_simp;refine hK _ _ trivial ?_
     try simp only[pK]
     refine (wD ?_) _;clear kc0 kc11 kz11 hr11;go_wp2_with fail
     go_roundw
     case rel=>
      obtain⟨q1,q2,q3,q4,q5,q6,q7,q8⟩:=HR.out;obtain⟨_,_,_,hall,_,hEr,hzr⟩:=hL.out;have hll:(args++[v]).length=la+1:=by rw[List.length_append,HLA.out];rfl
      have hEw11:=(hEr.trans q8).grow (q4.mono (by omega)) hlp;have hS11:SrcOk h p w11:=q7.below3 q4 (by omega);obtain⟨r1,r2⟩:=zBl (g:=w.heap.size+1) (i:=0) (x:=.slice (some ⟨g,0,none⟩) (la+1) cap) hS11 hEw11 (by omega) (by omega);refine⟨m-1,some ⟨g,0,none⟩,cap,args++[v],by go_num,by rw[hll];have:=hLn.out;have:=HLA.out;omega,?_,(heap_setCell_other _ _ _ _ (show w.heap.size≠w.heap.size+1 by omega)).trans q2,by rw[hll];exact OwnE.low q3 (by omega),?_,r1,r2,by simp;omega⟩
      ·rw[hll];have:=heap_setCell_same w11 (w.heap.size+1) 0 _ _ (.slice (some ⟨g,0,none⟩) (la+1) cap) q1;simpa using this
      ·intro x hx;rcases List.mem_append.1 hx with hx|hx
       ·exact hall x hx
       ·rw[List.mem_singleton.1 hx];exact⟨q5,q6⟩
     case measure=>simp[intOf];try omega
    ·refine zAu rfl (by rfl) (fun K hK=>?_);go_simp;refine hK _ _ ⟨trivial,?_⟩
     try simp only[pK]
     refine oO 1 fun K hK=>?_;go_simp;refine hK _ _ trivial ?_;clear kc10 kca
     try simp only[pK]
     refine oO 6 fun K hK=>?_;refine Lib.wp_append_run _ _ _ _ _ rfl _ _ rfl rfl _ w11 hr11 ?_;refine hK _ _ trivial ?_
     try simp only[pK]
     refine oO 7 fun K hK=>?_;go_simp;refine hK _ _ trivial ?_
     try simp only[pK]
     refine oO 8 fun K hK=>?_;go_simp;refine hK _ _ trivial ?_
     try simp only[pK]
     refine (wD ?_) _;clear kc0 kc11 kz11 hr11;go_wp2_with fail
     go_roundw
     case rel=>
      obtain⟨q1,q2,q3,q4,q5,q6,q7,q8⟩:=HR.out;obtain⟨_,_,_,hall,_,hEr,hzr⟩:=hL.out;have hll:(args++[v]).length=la+1:=by rw[List.length_append,HLA.out];rfl
      have hEw11:=(hEr.trans q8).grow (q4.mono (by omega)) hlp;have hS11:SrcOk h p w11:=q7.below3 q4 (by omega);obtain⟨r1,r2⟩:=zBl (g:=w.heap.size+1) (i:=0) (x:=.slice (some ⟨g,0,none⟩) (la+1) cap) hS11 hEw11 (by omega) (by omega);refine⟨m-1,some ⟨g,0,none⟩,cap,args++[v],by go_num,by rw[hll];have:=hLn.out;have:=HLA.out;omega,?_,(heap_setCell_other _ _ _ _ (show w.heap.size≠w.heap.size+1 by omega)).trans q2,by rw[hll];exact OwnE.low q3 (by omega),?_,r1,r2,by simp;omega⟩
      ·rw[hll];have:=heap_setCell_same w11 (w.heap.size+1) 0 _ _ (.slice (some ⟨g,0,none⟩) (la+1) cap) q1;simpa using this
      ·intro x hx;rcases List.mem_append.1 hx with hx|hx
       ·exact hall x hx
       ·rw[List.mem_singleton.1 hx];exact⟨q5,q6⟩
     case measure=>simp[intOf];try omega
end Go.Proofs.YtcjgaohblaidjaaGreatDoor
