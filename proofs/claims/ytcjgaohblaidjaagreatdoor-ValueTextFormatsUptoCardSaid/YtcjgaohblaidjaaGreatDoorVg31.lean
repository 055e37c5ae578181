/- Function of the document. -/
import Derived.Test.YtcjgaohblaidjaaGreatDoorVgZ
import Derived.Test.YtcjgaohblaidjaaGreatDoorVg01
import Derived.Test.YtcjgaohblaidjaaGreatDoorVg30
set_option maxRecDepth 100000
set_option maxHeartbeats 3200000
namespace Go.Proofs.YtcjgaohblaidjaaGreatDoor
open Go Go.RowKit
abbrev RowE (k lo:Nat) (w:World) (v:Value) (l:List En):Prop:=RowB w (Btw lo w.heap.size) 9 v l.length (fun j cs=>∃ x,l[j]?=some x∧EnB k x w (Btw lo w.heap.size) cs)
theorem EnB.keep {k:Nat}{x:En}{w w':World}{B:Nat→Prop}{cs:List Value}(h:EnB k x w B cs) (hs:Same B w w'):EnB k x w' B cs:=(elE k).keep hs h
theorem EnB.sub {k:Nat}{x:En}{w:World}{B B':Nat→Prop}{cs:List Value}(h:EnB k x w B cs) (hs:∀ b,B b→B' b):EnB k x w B' cs:=(elE k).sub hs h
theorem EnB.toK {k:Nat}{x:En}{w:World}{B:Nat→Prop}{cs:List Value}(h:EnB k x w B cs):∃ args fails result,x=.mk args fails result∧∃ ua rs,cs=ua::.bool fails::rs∧RowB w B 7 ua args.length (fun j cs=>∃ x,args[j]?=some x∧VB k w B x cs)∧VB k w B result rs:=h
def funB (a:Int) (l:List En):Bool:=decide (0≤a∧a≤4)&&l.all (entB a)
def funV (a:Int) (l:List En):Vl:=.mk 9 a [] [] [] l []
def FunR (k lo:Nat) (a:Int) (l:List En) (w:World) (e:Ending) (w':World):Prop:=
 Below w.heap.size w w'∧((funB a l=true∧∃ cs,e=.returned (.tuple #[.agg cs.toArray,.int .i64 0])∧VB (k+1) w' (Btw lo w'.heap.size) (funV a (srtC cmpE l)) cs)∨(funB a l=false∧e=.returned (.tuple #[.agg #[.int .i64 0,.int .i64 0,.string ⟨#[]⟩,.slice none 0 0,.slice none 0 0,.slice none 0 0,.slice none 0 0],.int .i64 1])))
theorem zG7 (k lo:Nat) (a:Int) (A:Option Addr) (c:Nat) (l:List En) (w:World) (hlo:lo≤w.heap.size) (hl:RowE k lo w (.slice A l.length c) l) (hn:l.length≤100000000) (haw:(Lit.int .i64 a).wf=true) :
  Calls Tryz.prog 61 #[.int .i64 a,.slice A l.length c] w (FunR k lo a l w):=by
 obtain⟨W0,hW0⟩:∃ W0,W0=w.alloc (.cells #[.int .i64 0,.int .i64 0,.string ⟨#[]⟩,.slice none 0 0,.slice none 0 0,.slice none 0 0,.slice none 0 0] 27):=⟨_,rfl⟩;have hba:Below w.heap.size w W0:=by rw[hW0];exact bR.alloc lR _
 have hz0:W0.heap.size=w.heap.size+1:=by rw[hW0];simp
 have k0:W0.heap[w.heap.size]?=some (.cells #[.int .i64 0,.int .i64 0,.string ⟨#[]⟩,.slice none 0 0,.slice none 0 0,.slice none 0 0,.slice none 0 0] 27 (0,0)):=by rw[hW0];exact heap_alloc_new w _
 have HL:=xI hl;clear hl;by_cases ha1:a<0
 ·have q1:decide (a<0)=true:=by simpa using ha1
  have hfb:funB a l=false:=by unfold funB;simp;omega
  have HF:=xI hfb;clear hfb;generalize hLN:l.length=n at *;go_enter Tryz.func61,Tryz.ntmps61;go_wp2_with fail;rw[←hW0];clear hW0;obtain⟨e0,e1,e2,e3,e4,e5,e6⟩:=zAd k0;obtain⟨z0,z1,z2,z3,z4,z5,z6⟩:=zAe k0;go_wp2;have hBV:Below w.heap.size w W0:=hba;clear z0 z1 z2 z3 z4 z5 z6;obtain⟨ps0,ps1,ps2,ps3,ps4,ps5,ps6⟩:=zAd k0;refine bodyPost_ret (v:=.tuple #[.agg #[.int .i64 0,.int .i64 0,.string ⟨#[]⟩,.slice none 0 0,.slice none 0 0,.slice none 0 0,.slice none 0 0],.int .i64 1]) (by simp[results,Tryz.results61,go_sem,ps0,ps1,ps2,ps3,ps4,ps5,ps6]) rfl ?_;exact⟨hBV,.inr ⟨HF.out,rfl⟩⟩
 have q1:decide (a<0)=false:=by simpa using ha1
 by_cases ha4:4<a
 ·have q4:decide (4<a)=true:=by simpa using ha4
  have hfb:funB a l=false:=by unfold funB;simp;omega
  have HF:=xI hfb;clear hfb;generalize hLN:l.length=n at *;go_enter Tryz.func61,Tryz.ntmps61;go_wp2_with fail;rw[←hW0];clear hW0;obtain⟨e0,e1,e2,e3,e4,e5,e6⟩:=zAd k0;obtain⟨z0,z1,z2,z3,z4,z5,z6⟩:=zAe k0;go_wp2;have hBV:Below w.heap.size w W0:=hba;clear z0 z1 z2 z3 z4 z5 z6;obtain⟨ps0,ps1,ps2,ps3,ps4,ps5,ps6⟩:=zAd k0;refine bodyPost_ret (v:=.tuple #[.agg #[.int .i64 0,.int .i64 0,.string ⟨#[]⟩,.slice none 0 0,.slice none 0 0,.slice none 0 0,.slice none 0 0],.int .i64 1]) (by simp[results,Tryz.results61,go_sem,ps0,ps1,ps2,ps3,ps4,ps5,ps6]) rfl ?_;exact⟨hBV,.inr ⟨HF.out,rfl⟩⟩
 have q4:decide (4<a)=false:=by simpa using ha4
 have har:decide (0≤a∧a≤4)=true:=by simp;omega
 have HAR:=xI har;clear har;generalize hLN:l.length=n at *;have HN:=xI hLN;clear hLN;go_enter Tryz.func61,Tryz.ntmps61;go_wp2_with fail;rw[←hW0];clear hW0
 go_loopw [6] (fun i wr=>∃ (j:Nat),i=.int .i64 j∧j≤n∧(∀ x∈l.take j,entB a x=true)∧Below W0.heap.size W0 wr) (fun i _=>n-(intOf i).toNat)
 case atStart=>exact⟨0,rfl,by omega,by simp,Below.refl _ _⟩
 case round=>
  obtain⟨j,rfl,hj,hall,hb⟩:=hrel;have hbw:Below w.heap.size w wr:=hba.trans (hb.mono hba.size);have k1:wr.heap[w.heap.size]?=some (.cells #[.int .i64 0,.int .i64 0,.string ⟨#[]⟩,.slice none 0 0,.slice none 0 0,.slice none 0 0,.slice none 0 0] 27 (0,0)):=(hb.block _ (by omega)).trans k0;have HA:=xI hall;clear hall;by_cases hjn:j<n
  ·obtain⟨bs,offs,cap9,v0,v1,t0,t1,t2,t3,t4,t5,t6,hu,hbs,⟨x,hx,hE⟩,c0,c1,c2,c3,c4,c5,c6,c7,c8⟩:=RowB.at9 (H:=w.heap.size) (j:=j) (RowB.sub HL.out (fun _ h=>h.2) (fun _ _ h=>h)) (by have:=HN.out;omega);injection hu with hA hNN hcc;subst hA;clear hNN hcc;have kn:(j:Int)<(n:Int):=by omega
   have kp:(0:Int)≤(j:Int):=by omega
   have hEk:=EnB.keep hE (.of_below hbw fun _ h=>h.2);obtain⟨args,fails,result,rfl,ua,rs,hcs,hra,hrr⟩:=hE.toK;simp only[List.cons.injEq]at hcs;obtain⟨rfl,rfl,rfl⟩:=hcs;obtain⟨Aa,ca,rfl,_⟩:=hra.form;have s0:wr.cell? ⟨bs,offs+j*9,none⟩=some (.slice Aa args.length ca):=(hbw.cell (p:=⟨bs,_,none⟩) hbs).trans c0;have s1:wr.cell? ⟨bs,offs+j*9+1,none⟩=some (.bool fails):=(hbw.cell (p:=⟨bs,_,none⟩) hbs).trans c1;have s2:wr.cell? ⟨bs,offs+j*9+2,none⟩=some (t0):=(hbw.cell (p:=⟨bs,_,none⟩) hbs).trans c2;have s3:wr.cell? ⟨bs,offs+j*9+3,none⟩=some (t1):=(hbw.cell (p:=⟨bs,_,none⟩) hbs).trans c3;have s4:wr.cell? ⟨bs,offs+j*9+4,none⟩=some (t2):=(hbw.cell (p:=⟨bs,_,none⟩) hbs).trans c4;have s5:wr.cell? ⟨bs,offs+j*9+5,none⟩=some (t3):=(hbw.cell (p:=⟨bs,_,none⟩) hbs).trans c5;have s6:wr.cell? ⟨bs,offs+j*9+6,none⟩=some (t4):=(hbw.cell (p:=⟨bs,_,none⟩) hbs).trans c6;have s7:wr.cell? ⟨bs,offs+j*9+7,none⟩=some (t5):=(hbw.cell (p:=⟨bs,_,none⟩) hbs).trans c7;have s8:wr.cell? ⟨bs,offs+j*9+8,none⟩=some (t6):=(hbw.cell (p:=⟨bs,_,none⟩) hbs).trans c8;clear c0 c1 c2 c3 c4 c5 c6 c7 c8;have HX:=xI (aN hx hE);have hk0:0<k:=by
    cases k with
    | zero=>exact hrr.elim
    | succ k=>omega
   have hq:∀ V,Below w.heap.size w V→Calls Tryz.prog 13 #[.agg #[t0,t1,t2,t3,t4,t5,t6],.agg #[.int .i64 0,.int .i64 0,.string ⟨#[]⟩,.slice none 0 0,.slice none 0 0,.slice none 0 0,.slice none 0 0]] V fun e w'=>e=.returned (.bool (isZ result))∧Below V.heap.size V w':=fun V hV=>by
    have hh:=VB.sub (B':=fun b=>b<V.heap.size) (fun b (hb:Btw lo w.heap.size b)=>by have:=hb.2;have:=hV.size;omega) (Nat.le_refl k) (VB.keep (.of_below hV fun _ h=>h.2) hrr);obtain⟨q,rfl⟩:∃ q,k=q+1:=⟨k-1,by omega⟩;exact zF3 (q+1) result zeroV _ _ V hh (zLo q V _)
   have hqr:=hq wr hbw;have HEB:Hid (entB a (.mk args fails result)=(decide ((args.length:Int)=a)&&(!fails||isZ result))):=xI rfl;clear hx hE hEk hra hrr hq;generalize hz:isZ result=zr at hqr HEB;clear hz;generalize hla:args.length=la at s0 HEB;clear hla;by_cases hlen:(la:Int)=a
   ·have hlb:((la:Int) != a)=false:=by simpa using hlen
    cases fails
    ·have HT:Hid (entB a (.mk args false result)=true):=xI (by rw[HEB.out];simp[hlen]);go_wp2_with fail
     go_roundw
     case rel=>
      refine⟨j+1,by go_num,by omega,fun z hz=>?_,hb⟩;rw[List.take_add_one,HX.out.1]at hz;rcases List.mem_append.1 hz with hz|hz
      ·exact HA.out z hz
      ·have hz':=Option.mem_toList.1 hz;injection hz' with hz';rw[←hz'];exact HT.out
     case measure=>simp[intOf];try omega
    ·go_wp2_with fail;refine hqr.mono ?_;rintro e w10 ⟨rfl,hb10⟩;have hb10':Below W0.heap.size W0 w10:=hb.trans (hb10.mono hb.size);have hbw10:Below w.heap.size w w10:=hbw.trans (hb10.mono hbw.size);have k2:w10.heap[w.heap.size]?=some (.cells #[.int .i64 0,.int .i64 0,.string ⟨#[]⟩,.slice none 0 0,.slice none 0 0,.slice none 0 0,.slice none 0 0] 27 (0,0)):=(hb10'.block _ (by omega)).trans k0;clear hqr;cases zr
     ·have HF:Hid (funB a l=false):=xI (by
       unfold funB;rw[Bool.and_eq_false_iff];right;rw[List.all_eq_false];exact⟨_,List.mem_of_getElem? HX.out.1,by rw[HEB.out];simp⟩)
      obtain⟨e0,e1,e2,e3,e4,e5,e6⟩:=zAd k2;obtain⟨z0,z1,z2,z3,z4,z5,z6⟩:=zAe k2;go_wp2;obtain⟨V,hV⟩:∃ V,V=(((((((w10.setCell ⟨w.heap.size,0,none⟩ (Value.int .i64 0)).setCell ⟨w.heap.size,1,none⟩ (Value.int .i64 0)).setCell ⟨w.heap.size,2,none⟩ (Value.string ⟨#[]⟩)).setCell ⟨w.heap.size,3,none⟩ (Value.slice none 0 0)).setCell ⟨w.heap.size,4,none⟩ (Value.slice none 0 0)).setCell ⟨w.heap.size,5,none⟩ (Value.slice none 0 0)).setCell ⟨w.heap.size,6,none⟩ (Value.slice none 0 0)):=⟨_,rfl⟩;rw[←hV];have hob:V.heap[w.heap.size]?=some (.cells #[.int .i64 0,.int .i64 0,.string ⟨#[]⟩,.slice none 0 0,.slice none 0 0,.slice none 0 0,.slice none 0 0] 27 (0,0)):=by rw[hV];exact obj7 k2 (Value.int .i64 0) (Value.int .i64 0) (Value.string ⟨#[]⟩) (Value.slice none 0 0) (Value.slice none 0 0) (Value.slice none 0 0) (Value.slice none 0 0)
      have hBV:Below w.heap.size w V:=by rw[hV];exact Below.setCell (Below.setCell (Below.setCell (Below.setCell (Below.setCell (Below.setCell (Below.setCell (hbw10) (p:=⟨w.heap.size,0,none⟩) lR _) (p:=⟨w.heap.size,1,none⟩) lR _) (p:=⟨w.heap.size,2,none⟩) lR _) (p:=⟨w.heap.size,3,none⟩) lR _) (p:=⟨w.heap.size,4,none⟩) lR _) (p:=⟨w.heap.size,5,none⟩) lR _) (p:=⟨w.heap.size,6,none⟩) lR _
      have hszV:V.heap.size=w10.heap.size:=by rw[hV];simp
      have hsm:∀ B:Nat→Prop,¬ B w.heap.size→Same B w10 V:=fun B h=>by rw[hV];exact zAa (zAa (zAa (zAa (zAa (zAa (zAa ((Same.refl _ _)) h) h) h) h) h) h) h
      clear hV e0 z0 e1 z1 e2 z2 e3 z3 e4 z4 e5 z5 e6 z6;obtain⟨ps0,ps1,ps2,ps3,ps4,ps5,ps6⟩:=zAd hob;refine bodyPost_ret (v:=.tuple #[.agg #[.int .i64 0,.int .i64 0,.string ⟨#[]⟩,.slice none 0 0,.slice none 0 0,.slice none 0 0,.slice none 0 0],.int .i64 1]) (by simp[results,Tryz.results61,go_sem,ps0,ps1,ps2,ps3,ps4,ps5,ps6]) rfl ?_;exact⟨hBV,.inr ⟨HF.out,rfl⟩⟩
     ·have HT:Hid (entB a (.mk args true result)=true):=xI (by rw[HEB.out];simp[hlen]);clear k1 k2;go_wp2_with fail
      go_roundw
      case rel=>
       refine⟨j+1,by go_num,by omega,fun z hz=>?_,hb10'⟩;rw[List.take_add_one,HX.out.1]at hz;rcases List.mem_append.1 hz with hz|hz
       ·exact HA.out z hz
       ·have hz':=Option.mem_toList.1 hz;injection hz' with hz';rw[←hz'];exact HT.out
      case measure=>simp[intOf];try omega
   ·have hlb:((la:Int) != a)=true:=by simpa using hlen
    have HF:Hid (funB a l=false):=xI (by
     unfold funB;rw[Bool.and_eq_false_iff];right;rw[List.all_eq_false];exact⟨_,List.mem_of_getElem? HX.out.1,by rw[HEB.out];simp[hlen]⟩)
    obtain⟨e0,e1,e2,e3,e4,e5,e6⟩:=zAd k1;obtain⟨z0,z1,z2,z3,z4,z5,z6⟩:=zAe k1;go_wp2;obtain⟨V,hV⟩:∃ V,V=(((((((wr.setCell ⟨w.heap.size,0,none⟩ (Value.int .i64 0)).setCell ⟨w.heap.size,1,none⟩ (Value.int .i64 0)).setCell ⟨w.heap.size,2,none⟩ (Value.string ⟨#[]⟩)).setCell ⟨w.heap.size,3,none⟩ (Value.slice none 0 0)).setCell ⟨w.heap.size,4,none⟩ (Value.slice none 0 0)).setCell ⟨w.heap.size,5,none⟩ (Value.slice none 0 0)).setCell ⟨w.heap.size,6,none⟩ (Value.slice none 0 0)):=⟨_,rfl⟩;rw[←hV];have hob:V.heap[w.heap.size]?=some (.cells #[.int .i64 0,.int .i64 0,.string ⟨#[]⟩,.slice none 0 0,.slice none 0 0,.slice none 0 0,.slice none 0 0] 27 (0,0)):=by rw[hV];exact obj7 k1 (Value.int .i64 0) (Value.int .i64 0) (Value.string ⟨#[]⟩) (Value.slice none 0 0) (Value.slice none 0 0) (Value.slice none 0 0) (Value.slice none 0 0)
    have hBV:Below w.heap.size w V:=by rw[hV];exact Below.setCell (Below.setCell (Below.setCell (Below.setCell (Below.setCell (Below.setCell (Below.setCell (hbw) (p:=⟨w.heap.size,0,none⟩) lR _) (p:=⟨w.heap.size,1,none⟩) lR _) (p:=⟨w.heap.size,2,none⟩) lR _) (p:=⟨w.heap.size,3,none⟩) lR _) (p:=⟨w.heap.size,4,none⟩) lR _) (p:=⟨w.heap.size,5,none⟩) lR _) (p:=⟨w.heap.size,6,none⟩) lR _
    have hszV:V.heap.size=wr.heap.size:=by rw[hV];simp
    have hsm:∀ B:Nat→Prop,¬ B w.heap.size→Same B wr V:=fun B h=>by rw[hV];exact zAa (zAa (zAa (zAa (zAa (zAa (zAa ((Same.refl _ _)) h) h) h) h) h) h) h
    clear hV e0 z0 e1 z1 e2 z2 e3 z3 e4 z4 e5 z5 e6 z6;obtain⟨ps0,ps1,ps2,ps3,ps4,ps5,ps6⟩:=zAd hob;refine bodyPost_ret (v:=.tuple #[.agg #[.int .i64 0,.int .i64 0,.string ⟨#[]⟩,.slice none 0 0,.slice none 0 0,.slice none 0 0,.slice none 0 0],.int .i64 1]) (by simp[results,Tryz.results61,go_sem,ps0,ps1,ps2,ps3,ps4,ps5,ps6]) rfl ?_;exact⟨hBV,.inr ⟨HF.out,rfl⟩⟩
  ·have hke:l.take j=l:=List.take_of_length_le (by have:=HN.out;omega);have HF:Hid (funB a l=true):=xI (by
    unfold funB;rw[HAR.out,Bool.true_and,List.all_eq_true];have:=HA.out;rw[hke]at this;exact this)
   clear hke;have hc:Calls Tryz.prog 108 #[.slice A n c] wr fun e w'=>∃ A' c',e=.returned (.slice A' (srtC cmpE l).length c')∧OwnX k wr (Btw lo w.heap.size) w' wr.heap.size (.slice A' (srtC cmpE l).length c') (srtC cmpE l)∧Below wr.heap.size wr w':=by
    have hln:=HN.out;have hl2:=HL.out;have hsz:=hbw.size;subst hln;exact zHx k (Btw lo w.heap.size) A c l wr (fun b hb=>Nat.lt_of_lt_of_le hb.2 hsz) (RowB.sub (B:=Btw lo w.heap.size) (RowB.keep hl2 (.of_below hbw fun _ h=>h.2) (fun _ _ h=>h)) (fun b hb=>Nat.lt_of_lt_of_le hb.2 hsz) (fun q cs ⟨x,hx,hE⟩=>⟨x,hx,hE.keep (.of_below hbw fun _ h=>h.2)⟩)) hn
   go_wp2_with fail;refine hc.mono ?_;rintro e w11 ⟨A',c',rfl,hO,hb11⟩;clear hc;have hbw11:Below w.heap.size w w11:=hbw.trans (hb11.mono hbw.size);have k2:w11.heap[w.heap.size]?=some (.cells #[.int .i64 0,.int .i64 0,.string ⟨#[]⟩,.slice none 0 0,.slice none 0 0,.slice none 0 0,.slice none 0 0] 27 (0,0)):=(hb11.block _ (by have:=hb.size;omega)).trans k1;have HO:=xI (aN hO hb11);clear hO hb11 k1;generalize hLS:(srtC cmpE l).length=m at *;have HLS:=xI hLS;clear hLS;obtain⟨e0,e1,e2,e3,e4,e5,e6⟩:=zAd k2;obtain⟨z0,z1,z2,z3,z4,z5,z6⟩:=zAe k2;go_wp2;obtain⟨V,hV⟩:∃ V,V=(((((((w11.setCell ⟨w.heap.size,0,none⟩ (Value.int .i64 9)).setCell ⟨w.heap.size,1,none⟩ (Value.int .i64 a)).setCell ⟨w.heap.size,2,none⟩ (Value.string ⟨#[]⟩)).setCell ⟨w.heap.size,3,none⟩ (Value.slice none 0 0)).setCell ⟨w.heap.size,4,none⟩ (Value.slice none 0 0)).setCell ⟨w.heap.size,5,none⟩ (Value.slice A' m c')).setCell ⟨w.heap.size,6,none⟩ (Value.slice none 0 0)):=⟨_,rfl⟩;rw[←hV];have hob:V.heap[w.heap.size]?=some (.cells #[.int .i64 9,.int .i64 a,.string ⟨#[]⟩,.slice none 0 0,.slice none 0 0,.slice A' m c',.slice none 0 0] 27 (0,0)):=by rw[hV];exact obj7 k2 (Value.int .i64 9) (Value.int .i64 a) (Value.string ⟨#[]⟩) (Value.slice none 0 0) (Value.slice none 0 0) (Value.slice A' m c') (Value.slice none 0 0)
   have hBV:Below w.heap.size w V:=by rw[hV];exact Below.setCell (Below.setCell (Below.setCell (Below.setCell (Below.setCell (Below.setCell (Below.setCell (hbw11) (p:=⟨w.heap.size,0,none⟩) lR _) (p:=⟨w.heap.size,1,none⟩) lR _) (p:=⟨w.heap.size,2,none⟩) lR _) (p:=⟨w.heap.size,3,none⟩) lR _) (p:=⟨w.heap.size,4,none⟩) lR _) (p:=⟨w.heap.size,5,none⟩) lR _) (p:=⟨w.heap.size,6,none⟩) lR _
   have hszV:V.heap.size=w11.heap.size:=by rw[hV];simp
   have hsm:∀ B:Nat→Prop,¬ B w.heap.size→Same B w11 V:=fun B h=>by rw[hV];exact zAa (zAa (zAa (zAa (zAa (zAa (zAa ((Same.refl _ _)) h) h) h) h) h) h) h
   clear hV e0 z0 e1 z1 e2 z2 e3 z3 e4 z4 e5 z5 e6 z6;obtain⟨ps0,ps1,ps2,ps3,ps4,ps5,ps6⟩:=zAd hob;refine bodyPost_ret (v:=.tuple #[.agg #[.int .i64 9,.int .i64 a,.string ⟨#[]⟩,.slice none 0 0,.slice none 0 0,.slice A' m c',.slice none 0 0],.int .i64 0]) (by simp[results,Tryz.results61,go_sem,ps0,ps1,ps2,ps3,ps4,ps5,ps6]) rfl ?_;have hm:=HLS.out;subst hm;obtain⟨hO,hb11⟩:=HO.out;have hln:=HN.out;have hsl:=zGi (c:=cmpE) l;have hzr:=hbw.size;have hz11:=hb11.size;refine⟨hBV,.inl ⟨HF.out,_,rfl,_,_,_,_,rfl,by decide,haw,Nat.zero_le _,zC9 _ _ _ _,zC9 _ _ _ _,?_,zC9 _ _ _ _⟩⟩;have hro:=hO.row (by omega) (by unfold maxLen;omega);refine RowB.sub (RowB.keep hro (hsm _ (fun h=>by have:=h.1;have:=hb.size;omega)) (fun _ _ h=>h)) (fun b hb=>⟨by have:=hb.1;omega,by have:=hb.2;omega⟩) (fun q cs ⟨x,hx,hE⟩=>?_);have hE2:EnB k x wr (Btw lo w.heap.size) cs:=hE;have hE3:=((hE2.keep (.of_below hb11 (fun b h=>by have:=h.2;omega))).keep (hsm _ (fun h=>by have:=h.2;omega))).sub (B':=Btw lo V.heap.size) (fun b h=>⟨h.1,by have:=h.2;omega⟩);obtain⟨ar,fa,re,rfl,ua,rs,rfl,h1,h2⟩:=hE3;exact⟨ar,fa,re,hx,ua,rs,rfl,h1,h2⟩
abbrev Kv:=(Int×List UInt8)×Vl
def cK (p q:Kv):Int:=cmpK p.1 q.1
def mapV (z:List Kv):Vl:=.mk 8 0 [] (z.map Prod.snd) (z.map Prod.fst) [] []
theorem zQk {α:Type}{c:α→α→Int}{x a:α}{l:List α}(h:c a x<0):ins c x (a::l)=a::ins c x l:=by simp[ins,h]
theorem zQm {α:Type}{c:α→α→Int}{x a:α}{l:List α}(h:c a x=0):ins c x (a::l)=a::l:=by simp[ins,h]
theorem zQl {α:Type}{c:α→α→Int}{x a:α}{l:List α}(h:¬ c a x<0) (h2:¬ c a x=0):ins c x (a::l)=x::a::l:=by rw[ins,if_neg h,if_neg h2]
theorem zN8 (x:Kv):∀ l:List Kv,(ins cK x l).map Prod.fst=ins cmpK x.1 (l.map Prod.fst)
 | []=>rfl
 | a::l=>by
  by_cases h1:cmpK a.1 x.1<0
  ·rw[zQk (c:=cK) h1,List.map_cons,List.map_cons,zQk (c:=cmpK) h1,zN8 x l]
  ·by_cases h2:cmpK a.1 x.1=0
   ·rw[zQm (c:=cK) h2,List.map_cons,zQm (c:=cmpK) h2]
   ·rw[zQl (c:=cK) h1 h2,List.map_cons,List.map_cons,zQl (c:=cmpK) h1 h2]
theorem zQv (z:List Kv):(srtC cK z).map Prod.fst=srtC cmpK (z.map Prod.fst):=by
 have h:∀ (z acc:List Kv),(z.foldl (fun acc x=>ins cK x acc) acc).map Prod.fst=(z.map Prod.fst).foldl (fun acc x=>ins cmpK x acc) (acc.map Prod.fst):=by
  intro z
  induction z with
  | nil=>intro acc;rfl
  | cons a z ih=>intro acc;rw[List.foldl_cons,ih,zN8,List.map_cons,List.foldl_cons]
 exact h z []
theorem zQ3 {α:Type}{c:α→α→Int}(x:α) (m:List α):(ins c x m).length≤m.length+1:=by
 induction m with
 | nil=>simp[ins]
 | cons a m ih=>
  unfold ins;split
  ·simp;omega
  ·split<;>simp
theorem zNt {α:Type}{c:α→α→Int}(l:List α) (j:Nat):(srtC c l).length≤(srtC c (l.take j)).length+(l.length-j):=by
 have hf:∀ (l m:List α),(l.foldl (fun acc x=>ins c x acc) m).length≤m.length+l.length:=by
  intro l
  induction l with
  | nil=>intro m;simp
  | cons a l ih=>
   intro m;rw[List.foldl_cons];have:=ih (ins c a m);have:=zQ3 (c:=c) a m;rw[List.length_cons];omega
 have:=hf (l.drop j) (srtC c (l.take j));rw[←List.length_drop];have e:srtC c l=(l.drop j).foldl (fun acc x=>ins c x acc) (srtC c (l.take j)):=by
  unfold srtC;rw[←List.foldl_append,List.take_append_drop]
 rw[e];exact this
theorem zHd {α:Type}{c:α→α→Int}{x y:α}:∀ {l:List α},y∈ins c x l→y=x∨y∈l
 | [],h=>by simpa [ins] using h
 | a::l,h=>by
  unfold ins at h;split at h
  ·rcases List.mem_cons.1 h with h|h
   ·exact .inr (h ▸ List.mem_cons_self ..)
   ·rcases zHd h with h|h
    ·exact .inl h
    ·exact .inr (List.mem_cons_of_mem _ h)
  ·split at h
   ·exact .inr h
   ·rcases List.mem_cons.1 h with h|h
    ·exact .inl h
    ·exact .inr h
theorem zJ1 {α:Type}{c:α→α→Int}{y:α}{l:List α}(h:y∈srtC c l):y∈l:=by
 have hf:∀ (l m:List α),y∈l.foldl (fun acc x=>ins c x acc) m→y∈l∨y∈m:=by
  intro l
  induction l with
  | nil=>intro m h;exact .inr h
  | cons a l ih=>
   intro m h;rw[List.foldl_cons]at h;rcases ih _ h with h|h
   ·exact .inl (List.mem_cons_of_mem _ h)
   ·rcases zHd h with h|h
    ·exact .inl (h ▸ List.mem_cons_self ..)
    ·exact .inr h
 rcases hf l [] h with h|h
 ·exact h
 ·simp at h
theorem OwnC.kept {α:Type}{Pr:α→List Value→Prop}{e:TypeId}{c:Nat}{w w':World}{base:Nat}{v:Value}{l:List α}(h:OwnE (elC Pr) e c w base v l) (hb:∀ g,v.ownBlock=some g→w'.heap[g]?=w.heap[g]?):OwnE (elC Pr) e c w' base v l:=by
 obtain⟨xs,ho,hx⟩:=h;refine⟨xs,⟨ho.1,?_⟩,fun j x hj=>hx j x hj⟩;rcases ho.2 with hn|⟨g,cap,cur,rfl,hB,hg,rest⟩
 ·exact .inl hn
 ·exact .inr ⟨g,cap,cur,rfl,hB,(hb g rfl).trans hg,rest⟩
def kyC (x:Int×List UInt8) (cs:List Value):Prop:=cs=[.int .i64 x.1,.string ⟨x.2.toArray⟩]∧(Lit.int .i64 x.1).wf=true∧x.2.length≤maxLen
theorem zCl {x:Int×List UInt8}{cs:List Value}(h:kyC x cs):∀ u∈cs,u.oneCell'=true:=by
 obtain⟨rfl,_⟩:=h;intro u hu;simp only[List.mem_cons,List.not_mem_nil,or_false]at hu;rcases hu with rfl|rfl<;>rfl
abbrev OwnY (w:World) (base:Nat) (v:Value) (l:List (Int×List UInt8)):Prop:=OwnE (elC kyC) 80 2 w base v l
abbrev OwnX7 (k:Nat) (w0:World) (B0:Nat→Prop) (w:World) (base:Nat) (v:Value) (l:List Vl):Prop:=OwnE (elC (fun x cs=>VB k w0 B0 x cs)) 27 7 w base v l
theorem zM7 (k:Nat) (w0:World) (B0:Nat→Prop) (Bs:Nat→Prop) (A:Option Addr) (c:Nat) (l:List Vl) (w:World) (hl:RowB w Bs 7 (.slice A l.length c) l.length (fun j cs=>∃ x,l[j]?=some x∧VB k w0 B0 x cs)) (hn:l.length≤300000000) :
  Calls Tryz.prog 107 #[.slice A l.length c] w fun e w'=>∃ A' c',e=.returned (.slice A' l.length c')∧OwnX7 k w0 B0 w' w.heap.size (.slice A' l.length c') l∧Below w.heap.size w w':=by
 have HL:=xI hl;clear hl;go_enter Tryz.func107,Tryz.ntmps107;go_wp2_with (refine zNg (elC (fun x cs=>VB k w0 B0 x cs)) (fun x w' B cs h=>zBn k x w0 B0 cs h) rfl _ _ rfl w.heap.size (.slice none 0 0) [] rfl (OwnE.nil _ _ _ _ _) A l.length c l rfl Bs rfl HL.out (by simpa using hn) lR ?_);intro v' w' ho hb hk hg;have ho':OwnX7 k w0 B0 w' w.heap.size v' l:=ho;obtain⟨A',c',rfl⟩:=ho'.form;have HF:=xI (aN ho' hb);clear ho ho' hb hk hg;go_wp2;go_ret;exact⟨A',c',rfl,HF.out⟩
theorem zEi (k:Nat) (w0:World) (B0:Nat→Prop) (Bs:Nat→Prop) (A:Option Addr) (c:Nat) (l:List Vl) (w:World) (m:Nat) (hm:l.length=m) (hl:RowB w Bs 7 (.slice A m c) m (fun j cs=>∃ x,l[j]?=some x∧VB k w0 B0 x cs)) (hn:m≤300000000) :
  Calls Tryz.prog 107 #[.slice A m c] w fun e w'=>∃ A' c',e=.returned (.slice A' m c')∧OwnX7 k w0 B0 w' w.heap.size (.slice A' m c') l∧Below w.heap.size w w':=by
 subst hm;exact zM7 k w0 B0 Bs A c l w hl hn
theorem OwnE.rowN {α:Type}{K:ElK α}{e:TypeId}{c:Nat}{w:World}{base m:Nat}{v:Value}{l:List α}(h:OwnE K e c w base v l) (hc:0<c) (hn:l.length≤maxLen) (hm:l.length=m) :
  RowB w (Btw base w.heap.size) c v m (fun j cs=>∃ x,l[j]?=some x∧K.E x w (Btw base w.heap.size) cs):=by
 subst hm;exact h.row hc hn
theorem OwnE.formN {α:Type}{K:ElK α}{e:TypeId}{c:Nat}{w:World}{base m:Nat}{v:Value}{l:List α}(h:OwnE K e c w base v l) (hm:l.length=m) (hl:0<m):∃ g cap,v=.slice (some ⟨g,0,none⟩) m cap∧base≤g∧g<w.heap.size∧m≤cap:=by
 subst hm;exact h.formG hl
theorem zNi {ops:Array Oper}{rest:List Oper}{o:Oper}{a:Act}{Q:Exit→Act→World→Prop}{w0:World}(K:ElK Vl) (hgd:o.guard=none) (s x:Operand)
  (ho:o.op=.call { callee:=.builtin .append,args:=#[s,x],argTypes:=#[22,22] }) (base:Nat) (v:Value) (l:List Vl) (hs:a.eval s=v) (hown:OwnE K 27 7 w0 base v l)
  (y:Vl) (cs:List Value) (cap1:Nat) (H:Nat) (hH:w0.heap.size=H) (hx:a.eval x=.slice (some ⟨H,0,none⟩) 1 cap1) (cells:Array Value) (hcells:cells=cs.toArray)
  (hy:K.E y w0 (fun b=>base≤b∧b<w0.heap.size∧some b≠v.ownBlock) cs) (hcs:cs.length=7) (h1c:∀ u∈cs,u.oneCell'=true) (hn:l.length≤300000000) (hbase:base≤w0.heap.size)
  (h:∀ g cap w',OwnE K 27 7 w' base (.slice (some ⟨g,0,none⟩) (l.length+1) cap) (l++[y])→Below base w0 w'→(∀ b,b<w0.heap.size→some b≠v.ownBlock→w'.heap[b]?=w0.heap[b]?)→(v.ownBlock=some g∨H≤g)→wpList Tryz.prog ops Q rest (a.put o.dst (.slice (some ⟨g,0,none⟩) (l.length+1) cap)) w') :
  wpList Tryz.prog ops Q (o::rest) a (w0.alloc (.cells cells 27)):=by
 subst hcells;obtain⟨i0,hi,hz0,hz1,hz2⟩:=info_parts Tryz.infoV;obtain⟨g,cap,w',h1,h2,h3,h4,h5⟩:=zBa K 22 o.type 27 i0 (.agg #[.int .i64 0,.int .i64 0,.string ⟨#[]⟩,.slice none 0 0,.slice none 0 0,.slice none 0 0,.slice none 0 0]) 7 128 Tryz.underlying22 hi hz0 hz1 hz2 rfl (by decide) (by decide) w0 base v l hown y cs hy hcs h1c hn hbase H hH cap1;exact Lib.wpList_append_run _ hgd s x 22 22 ho v _ hs hx _ w' h1 (h g cap w' h2 h3 h4 h5)
abbrev RowY (w:World) (B:Nat→Prop) (v:Value) (l:List (Int×List UInt8)):Prop:=RowB w B 2 v l.length (fun j cs=>∃ x,l[j]?=some x∧kyC x cs)
def keysB (keys:List (Int×List UInt8)):Bool:=keys.all (fun x=>keyB x.1 x.2)
def MapR (k lo:Nat) (keys:List (Int×List UInt8)) (l:List Vl) (w:World) (e:Ending) (w':World):Prop:=
 Below w.heap.size w w'∧((¬ (keys.length=l.length∧keysB keys=true)∧e=.returned (.tuple #[.agg #[.int .i64 0,.int .i64 0,.string ⟨#[]⟩,.slice none 0 0,.slice none 0 0,.slice none 0 0,.slice none 0 0],.int .i64 1])) ∨
  (keys.length=l.length∧keysB keys=true∧(srtC cK (keys.zip l)).length≠keys.length∧e=.returned (.tuple #[.agg #[.int .i64 0,.int .i64 0,.string ⟨#[]⟩,.slice none 0 0,.slice none 0 0,.slice none 0 0,.slice none 0 0],.int .i64 6])) ∨
  (keys.length=l.length∧keysB keys=true∧(srtC cK (keys.zip l)).length=keys.length∧∃ cs,e=.returned (.tuple #[.agg cs.toArray,.int .i64 0])∧VB (k+1) w' (Btw lo w'.heap.size) (mapV (srtC cK (keys.zip l))) cs))
end Go.Proofs.YtcjgaohblaidjaaGreatDoor
