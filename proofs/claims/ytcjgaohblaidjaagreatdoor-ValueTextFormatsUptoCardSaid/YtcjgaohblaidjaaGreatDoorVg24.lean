/- What write of the program writes at every valid value: its notation. Conditions: the table of powers of ten is laid outside the buffer's own memory; all that is written takes at most 2^47 bytes. -/
import Derived.Test.YtcjgaohblaidjaaGreatDoorVgZ
import Derived.Test.YtcjgaohblaidjaaGreatDoorVg01
import Derived.Test.YtcjgaohblaidjaaGreatDoorVg11
import Derived.Test.YtcjgaohblaidjaaGreatDoorVg15
import Derived.Test.YtcjgaohblaidjaaGreatDoorVg16
import Derived.Test.YtcjgaohblaidjaaGreatDoorVg22
import Derived.Test.YtcjgaohblaidjaaGreatDoorVg23
import Derived.Test.YtcjgaohblaidjaaGreatDoorRows
import Derived.LaidLaws
import Derived.LaidMore
import Derived.Lib.LaidTab
import Derived.Deep.DeepWitnessRowRef
import Derived.Lay
set_option maxRecDepth 100000
set_option maxHeartbeats 3200000
namespace Go.Proofs.YtcjgaohblaidjaaGreatDoor
open Go Go.RowKit
theorem zRm (k:Nat) (_hP:Hid (zCh k)) (B b:Nat) (l:Bs) (i:Int) (t:Bs) (kids:List Vl) (keys:List (Int×Bs)) (ents:List En) (labs:List Bs) (cs:List Value) (w:World) (h:BufW B b l w) (hv:VS (k+1) w B (.mk 1 i t kids keys ents labs) cs) (hok:okV (.mk 1 i t kids keys ents labs)=true) (hT:TbH B w) (hlim:l.length+(showV (.mk 1 i t kids keys ents labs)).length≤140737488355328) :
  Calls Tryz.prog 17 #[.pointer (some ⟨b,0,none⟩),.agg cs.toArray] w fun e w'=>e=.returned (.tuple #[])∧BufW B b (l++showV (.mk 1 i t kids keys ents labs)) w'∧Wr B b w w':=by
 have hv0:=hv;obtain⟨uk,uy,ue,ul,rfl,_,hi,ht,hkk,hyy,hee,hll⟩:=hv;obtain⟨Ak,ck,rfl,hkl⟩:=hkk.form;obtain⟨Ay,cy,rfl,hyl⟩:=hyy.form;obtain⟨Ae,ce,rfl,hel⟩:=hee.form;obtain⟨Al,cl,rfl,hlbl⟩:=hll.form;unfold maxLen at hkl hyl hel hlbl;have hsh:showV (.mk 1 i t kids keys ents labs)=Lib.itoa i++labsL labs:=by
  rw[zAg];have hb:bodyV (.mk 1 i t kids keys ents labs)=Lib.itoa i:=by rfl
  rw[hb];rfl
 rw[hsh]at hlim ⊢;clear hsh;obtain⟨W,hW⟩:∃ W,W=w.alloc (.cells #[.int .i64 1,.int .i64 i,.string ⟨t.toArray⟩,.slice Ak kids.length ck,.slice Ay keys.length cy,.slice Ae ents.length ce,.slice Al labs.length cl] 27):=⟨_,rfl⟩;have kW:W.heap[w.heap.size]?=some (.cells #[.int .i64 1,.int .i64 i,.string ⟨t.toArray⟩,.slice Ak kids.length ck,.slice Ay keys.length cy,.slice Ae ents.length ce,.slice Al labs.length cl] 27 (0,0)):=by rw[hW];exact heap_alloc_new w _
 have hw0:BufW B b l W:=by rw[hW];exact h.alloc _
 have hWW:Wr B b w W:=by rw[hW];exact (Wr.refl _ _ _).alloc h.2 _
 have hne:w.heap.size≠b:=by have:=h.1.lt;omega
 have hle:l.length+(Lib.itoa i).length+(labsL labs).length≤140737488355328:=by rw[List.length_append]at hlim;omega
 have hok0:=hok;simp only[okV,zAn,zAx,Bool.and_eq_true,List.all_eq_true]at hok;have HLE:=xI hle;have HT:=xI hT;have HWw0:=xI hWW;have HKw0:=xI kW;have HV:=xI hv0;have HOK:=xI hok0;have HKK:=xI hkk;have HEE:=xI hee;have HLL:=xI hll;have HOKS:Hid (∀ x∈kids,okV x=true):=xI hok.1.2;have HOKE:Hid (∀ x∈ents,okE x=true):=xI hok.2;skip;clear hle hlim hT hWW kW hv0 hok0 hkk hyy hee hll hok h;obtain⟨w0,hw00⟩:∃ w0,w0=W:=⟨_,rfl⟩;subst hw00;have hc:=zCd B b (l) i hi w0 hw0 (HT.out.below HWw0.out.1) (by have:=HLE.out;(try simp at this ⊢);omega)
 go_enter Tryz.func17,Tryz.ntmps17;go_wp2_with fail;rw[←hW];clear hW;refine hc.mono ?_;rintro e w1 ⟨rfl,hw1,hb1⟩;clear hc  hw0;have HWw1:=xI (HWw0.out.trans hb1);have hk1:=hb1.box HKw0.out hne;have HKw1:=xI hk1;obtain⟨e0,e1,e2,e3,e4,e5,e6⟩:=zAd hk1;clear hk1 hb1;have hc:=zAy B b (l++Lib.itoa i) labs Al cl w1 hw1 (HLL.out.on HWw1.out.1 fun _ _ h=>h) (by have:=HLE.out;(try simp at this ⊢);omega)
 go_wp2_with fail;refine hc.mono ?_;rintro e wf ⟨rfl,hf,hbf⟩;clear hc e0 e1 e2 e3 e4 e5 e6;go_wp2
 go_end0
 exact⟨rfl,by simpa using hf,HWw1.out.trans hbf⟩
theorem zRl (k:Nat) (_hP:Hid (zCh k)) (B b:Nat) (l:Bs) (i:Int) (t:Bs) (kids:List Vl) (keys:List (Int×Bs)) (ents:List En) (labs:List Bs) (cs:List Value) (w:World) (h:BufW B b l w) (hv:VS (k+1) w B (.mk 2 i t kids keys ents labs) cs) (hok:okV (.mk 2 i t kids keys ents labs)=true) (hT:TbH B w) (hlim:l.length+(showV (.mk 2 i t kids keys ents labs)).length≤140737488355328) :
  Calls Tryz.prog 17 #[.pointer (some ⟨b,0,none⟩),.agg cs.toArray] w fun e w'=>e=.returned (.tuple #[])∧BufW B b (l++showV (.mk 2 i t kids keys ents labs)) w'∧Wr B b w w':=by
 have hv0:=hv;obtain⟨uk,uy,ue,ul,rfl,_,hi,ht,hkk,hyy,hee,hll⟩:=hv;obtain⟨Ak,ck,rfl,hkl⟩:=hkk.form;obtain⟨Ay,cy,rfl,hyl⟩:=hyy.form;obtain⟨Ae,ce,rfl,hel⟩:=hee.form;obtain⟨Al,cl,rfl,hlbl⟩:=hll.form;unfold maxLen at hkl hyl hel hlbl;have hsh:showV (.mk 2 i t kids keys ents labs)=zAq t++labsL labs:=by
  rw[zAg];have hb:bodyV (.mk 2 i t kids keys ents labs)=zAq t:=by rfl
  rw[hb];rfl
 rw[hsh]at hlim ⊢;clear hsh;obtain⟨W,hW⟩:∃ W,W=w.alloc (.cells #[.int .i64 2,.int .i64 i,.string ⟨t.toArray⟩,.slice Ak kids.length ck,.slice Ay keys.length cy,.slice Ae ents.length ce,.slice Al labs.length cl] 27):=⟨_,rfl⟩;have kW:W.heap[w.heap.size]?=some (.cells #[.int .i64 2,.int .i64 i,.string ⟨t.toArray⟩,.slice Ak kids.length ck,.slice Ay keys.length cy,.slice Ae ents.length ce,.slice Al labs.length cl] 27 (0,0)):=by rw[hW];exact heap_alloc_new w _
 have hw0:BufW B b l W:=by rw[hW];exact h.alloc _
 have hWW:Wr B b w W:=by rw[hW];exact (Wr.refl _ _ _).alloc h.2 _
 have hne:w.heap.size≠b:=by have:=h.1.lt;omega
 have hle:l.length+(zAq t).length+(labsL labs).length≤140737488355328:=by rw[List.length_append]at hlim;omega
 have hok0:=hok;simp only[okV,zAn,zAx,Bool.and_eq_true,List.all_eq_true]at hok;have HLE:=xI hle;have HT:=xI hT;have HWw0:=xI hWW;have HKw0:=xI kW;have HV:=xI hv0;have HOK:=xI hok0;have HKK:=xI hkk;have HEE:=xI hee;have HLL:=xI hll;have HOKS:Hid (∀ x∈kids,okV x=true):=xI hok.1.2;have HOKE:Hid (∀ x∈ents,okE x=true):=xI hok.2;have htq:t.length≤64:=by have h2:decide (t.length≤64)=true:=hok.1.1.2;simpa using h2
 clear hle hlim hT hWW kW hv0 hok0 hkk hyy hee hll hok h;obtain⟨w0,hw00⟩:∃ w0,w0=W:=⟨_,rfl⟩;subst hw00;have hc:=zJt ⟨t.toArray⟩ w0 (by show t.length≤_;omega);rw[show (⟨t.toArray⟩:ByteArray).data.toList=t from rfl]at hc;go_enter Tryz.func17,Tryz.ntmps17;go_wp2_with fail;rw[←hW];clear hW;refine hc.mono ?_;rintro e w1 ⟨rfl,hb1⟩;clear hc;have HWw1:=xI (HWw0.out.trans (Wr.of_below (b:=b) hb1 hw0.2));have hw1':BufW B b l w1:=⟨hw0.1.old hb1,Nat.le_trans hw0.2 hb1.size⟩;have HKw1:=xI ((hb1.block _ (Array.getElem?_eq_some_iff.1 HKw0.out).1).trans HKw0.out);clear hb1 hw0;have hw1:=hw1';have hc:=bufW B b (l) (zAq t) w1 hw1 (by have:=HLE.out;(try simp at this ⊢);omega)
 go_wp2_with fail;refine hc.mono ?_;rintro e w2 ⟨rfl,hw2,hb2⟩;clear hc  hw1;have HWw2:=xI (HWw1.out.trans hb2);have hk2:=hb2.box HKw1.out hne;have HKw2:=xI hk2;obtain⟨e0,e1,e2,e3,e4,e5,e6⟩:=zAd hk2;clear hk2 hb2;have hc:=zAy B b (l++zAq t) labs Al cl w2 hw2 (HLL.out.on HWw2.out.1 fun _ _ h=>h) (by have:=HLE.out;(try simp at this ⊢);omega)
 go_wp2_with fail;refine hc.mono ?_;rintro e wf ⟨rfl,hf,hbf⟩;clear hc e0 e1 e2 e3 e4 e5 e6;go_wp2
 go_end0
 exact⟨rfl,by simpa using hf,HWw2.out.trans hbf⟩
theorem zRk (k:Nat) (_hP:Hid (zCh k)) (B b:Nat) (l:Bs) (i:Int) (t:Bs) (kids:List Vl) (keys:List (Int×Bs)) (ents:List En) (labs:List Bs) (cs:List Value) (w:World) (h:BufW B b l w) (hv:VS (k+1) w B (.mk 3 i t kids keys ents labs) cs) (hok:okV (.mk 3 i t kids keys ents labs)=true) (hT:TbH B w) (hlim:l.length+(showV (.mk 3 i t kids keys ents labs)).length≤140737488355328) :
  Calls Tryz.prog 17 #[.pointer (some ⟨b,0,none⟩),.agg cs.toArray] w fun e w'=>e=.returned (.tuple #[])∧BufW B b (l++showV (.mk 3 i t kids keys ents labs)) w'∧Wr B b w w':=by
 have hv0:=hv;obtain⟨uk,uy,ue,ul,rfl,_,hi,ht,hkk,hyy,hee,hll⟩:=hv;obtain⟨Ak,ck,rfl,hkl⟩:=hkk.form;obtain⟨Ay,cy,rfl,hyl⟩:=hyy.form;obtain⟨Ae,ce,rfl,hel⟩:=hee.form;obtain⟨Al,cl,rfl,hlbl⟩:=hll.form;unfold maxLen at hkl hyl hel hlbl;have hsh:showV (.mk 3 i t kids keys ents labs)=t++labsL labs:=by
  rw[zAg];have hb:bodyV (.mk 3 i t kids keys ents labs)=t:=by rfl
  rw[hb];rfl
 rw[hsh]at hlim ⊢;clear hsh;obtain⟨W,hW⟩:∃ W,W=w.alloc (.cells #[.int .i64 3,.int .i64 i,.string ⟨t.toArray⟩,.slice Ak kids.length ck,.slice Ay keys.length cy,.slice Ae ents.length ce,.slice Al labs.length cl] 27):=⟨_,rfl⟩;have kW:W.heap[w.heap.size]?=some (.cells #[.int .i64 3,.int .i64 i,.string ⟨t.toArray⟩,.slice Ak kids.length ck,.slice Ay keys.length cy,.slice Ae ents.length ce,.slice Al labs.length cl] 27 (0,0)):=by rw[hW];exact heap_alloc_new w _
 have hw0:BufW B b l W:=by rw[hW];exact h.alloc _
 have hWW:Wr B b w W:=by rw[hW];exact (Wr.refl _ _ _).alloc h.2 _
 have hne:w.heap.size≠b:=by have:=h.1.lt;omega
 have hle:l.length+(t).length+(labsL labs).length≤140737488355328:=by rw[List.length_append]at hlim;omega
 have hok0:=hok;simp only[okV,zAn,zAx,Bool.and_eq_true,List.all_eq_true]at hok;have HLE:=xI hle;have HT:=xI hT;have HWw0:=xI hWW;have HKw0:=xI kW;have HV:=xI hv0;have HOK:=xI hok0;have HKK:=xI hkk;have HEE:=xI hee;have HLL:=xI hll;have HOKS:Hid (∀ x∈kids,okV x=true):=xI hok.1.2;have HOKE:Hid (∀ x∈ents,okE x=true):=xI hok.2;skip;clear hle hlim hT hWW kW hv0 hok0 hkk hyy hee hll hok h;obtain⟨w0,hw00⟩:∃ w0,w0=W:=⟨_,rfl⟩;subst hw00;have hc:=bufW B b (l) t w0 hw0 (by have:=HLE.out;(try simp at this ⊢);omega)
 go_enter Tryz.func17,Tryz.ntmps17;go_wp2_with fail;rw[←hW];clear hW;refine hc.mono ?_;rintro e w1 ⟨rfl,hw1,hb1⟩;clear hc  hw0;have HWw1:=xI (HWw0.out.trans hb1);have hk1:=hb1.box HKw0.out hne;have HKw1:=xI hk1;obtain⟨e0,e1,e2,e3,e4,e5,e6⟩:=zAd hk1;clear hk1 hb1;have hc:=zAy B b (l++t) labs Al cl w1 hw1 (HLL.out.on HWw1.out.1 fun _ _ h=>h) (by have:=HLE.out;(try simp at this ⊢);omega)
 go_wp2_with fail;refine hc.mono ?_;rintro e wf ⟨rfl,hf,hbf⟩;clear hc e0 e1 e2 e3 e4 e5 e6;go_wp2
 go_end0
 exact⟨rfl,by simpa using hf,HWw1.out.trans hbf⟩
theorem zRj (k:Nat) (_hP:Hid (zCh k)) (B b:Nat) (l:Bs) (i:Int) (t:Bs) (kids:List Vl) (keys:List (Int×Bs)) (ents:List En) (labs:List Bs) (cs:List Value) (w:World) (h:BufW B b l w) (hv:VS (k+1) w B (.mk 4 i t kids keys ents labs) cs) (hok:okV (.mk 4 i t kids keys ents labs)=true) (hT:TbH B w) (hlim:l.length+(showV (.mk 4 i t kids keys ents labs)).length≤140737488355328) :
  Calls Tryz.prog 17 #[.pointer (some ⟨b,0,none⟩),.agg cs.toArray] w fun e w'=>e=.returned (.tuple #[])∧BufW B b (l++showV (.mk 4 i t kids keys ents labs)) w'∧Wr B b w w':=by
 have hv0:=hv;obtain⟨uk,uy,ue,ul,rfl,_,hi,ht,hkk,hyy,hee,hll⟩:=hv;obtain⟨Ak,ck,rfl,hkl⟩:=hkk.form;obtain⟨Ay,cy,rfl,hyl⟩:=hyy.form;obtain⟨Ae,ce,rfl,hel⟩:=hee.form;obtain⟨Al,cl,rfl,hlbl⟩:=hll.form;unfold maxLen at hkl hyl hel hlbl;have hsh:showV (.mk 4 i t kids keys ents labs)=[35]++Lib.itoa i++labsL labs:=by
  rw[zAg];have hb:bodyV (.mk 4 i t kids keys ents labs)=[35]++Lib.itoa i:=by rfl
  rw[hb];rfl
 rw[hsh]at hlim ⊢;clear hsh;obtain⟨W,hW⟩:∃ W,W=w.alloc (.cells #[.int .i64 4,.int .i64 i,.string ⟨t.toArray⟩,.slice Ak kids.length ck,.slice Ay keys.length cy,.slice Ae ents.length ce,.slice Al labs.length cl] 27):=⟨_,rfl⟩;have kW:W.heap[w.heap.size]?=some (.cells #[.int .i64 4,.int .i64 i,.string ⟨t.toArray⟩,.slice Ak kids.length ck,.slice Ay keys.length cy,.slice Ae ents.length ce,.slice Al labs.length cl] 27 (0,0)):=by rw[hW];exact heap_alloc_new w _
 have hw0:BufW B b l W:=by rw[hW];exact h.alloc _
 have hWW:Wr B b w W:=by rw[hW];exact (Wr.refl _ _ _).alloc h.2 _
 have hne:w.heap.size≠b:=by have:=h.1.lt;omega
 have hle:l.length+([35]++Lib.itoa i).length+(labsL labs).length≤140737488355328:=by rw[List.length_append]at hlim;omega
 have hok0:=hok;simp only[okV,zAn,zAx,Bool.and_eq_true,List.all_eq_true]at hok;have HLE:=xI hle;have HT:=xI hT;have HWw0:=xI hWW;have HKw0:=xI kW;have HV:=xI hv0;have HOK:=xI hok0;have HKK:=xI hkk;have HEE:=xI hee;have HLL:=xI hll;have HOKS:Hid (∀ x∈kids,okV x=true):=xI hok.1.2;have HOKE:Hid (∀ x∈ents,okE x=true):=xI hok.2;skip;clear hle hlim hT hWW kW hv0 hok0 hkk hyy hee hll hok h;obtain⟨w0,hw00⟩:∃ w0,w0=W:=⟨_,rfl⟩;subst hw00;have hc:=bufW B b (l) [35] w0 hw0 (by have:=HLE.out;(try simp at this ⊢);omega)
 go_enter Tryz.func17,Tryz.ntmps17;go_wp2_with fail;rw[←hW];clear hW;refine hc.mono ?_;rintro e w1 ⟨rfl,hw1,hb1⟩;clear hc  hw0;have HWw1:=xI (HWw0.out.trans hb1);have hk1:=hb1.box HKw0.out hne;have HKw1:=xI hk1;obtain⟨e0,e1,e2,e3,e4,e5,e6⟩:=zAd hk1;clear hk1 hb1;have hc:=zCd B b (l++[35]) i hi w1 hw1 (HT.out.below HWw1.out.1) (by have:=HLE.out;(try simp at this ⊢);omega)
 go_wp2_with fail;refine hc.mono ?_;rintro e w2 ⟨rfl,hw2,hb2⟩;clear hc e0 e1 e2 e3 e4 e5 e6 hw1;have HWw2:=xI (HWw1.out.trans hb2);have hk2:=hb2.box HKw1.out hne;have HKw2:=xI hk2;obtain⟨e0,e1,e2,e3,e4,e5,e6⟩:=zAd hk2;clear hk2 hb2;have hc:=zAy B b (l++[35]++Lib.itoa i) labs Al cl w2 hw2 (HLL.out.on HWw2.out.1 fun _ _ h=>h) (by have:=HLE.out;(try simp at this ⊢);omega)
 go_wp2_with fail;refine hc.mono ?_;rintro e wf ⟨rfl,hf,hbf⟩;clear hc e0 e1 e2 e3 e4 e5 e6;go_wp2
 go_end0
 exact⟨rfl,by simpa using hf,HWw2.out.trans hbf⟩
theorem zRi (k:Nat) (_hP:Hid (zCh k)) (B b:Nat) (l:Bs) (i:Int) (t:Bs) (kids:List Vl) (keys:List (Int×Bs)) (ents:List En) (labs:List Bs) (cs:List Value) (w:World) (h:BufW B b l w) (hv:VS (k+1) w B (.mk 5 i t kids keys ents labs) cs) (hok:okV (.mk 5 i t kids keys ents labs)=true) (hT:TbH B w) (hlim:l.length+(showV (.mk 5 i t kids keys ents labs)).length≤140737488355328) :
  Calls Tryz.prog 17 #[.pointer (some ⟨b,0,none⟩),.agg cs.toArray] w fun e w'=>e=.returned (.tuple #[])∧BufW B b (l++showV (.mk 5 i t kids keys ents labs)) w'∧Wr B b w w':=by
 have hv0:=hv;obtain⟨uk,uy,ue,ul,rfl,_,hi,ht,hkk,hyy,hee,hll⟩:=hv;obtain⟨Ak,ck,rfl,hkl⟩:=hkk.form;obtain⟨Ay,cy,rfl,hyl⟩:=hyy.form;obtain⟨Ae,ce,rfl,hel⟩:=hee.form;obtain⟨Al,cl,rfl,hlbl⟩:=hll.form;unfold maxLen at hkl hyl hel hlbl;have hsh:showV (.mk 5 i t kids keys ents labs)=[91,93]++labsL labs:=by
  rw[zAg];have hb:bodyV (.mk 5 i t kids keys ents labs)=[91,93]:=by rfl
  rw[hb];rfl
 rw[hsh]at hlim ⊢;clear hsh;obtain⟨W,hW⟩:∃ W,W=w.alloc (.cells #[.int .i64 5,.int .i64 i,.string ⟨t.toArray⟩,.slice Ak kids.length ck,.slice Ay keys.length cy,.slice Ae ents.length ce,.slice Al labs.length cl] 27):=⟨_,rfl⟩;have kW:W.heap[w.heap.size]?=some (.cells #[.int .i64 5,.int .i64 i,.string ⟨t.toArray⟩,.slice Ak kids.length ck,.slice Ay keys.length cy,.slice Ae ents.length ce,.slice Al labs.length cl] 27 (0,0)):=by rw[hW];exact heap_alloc_new w _
 have hw0:BufW B b l W:=by rw[hW];exact h.alloc _
 have hWW:Wr B b w W:=by rw[hW];exact (Wr.refl _ _ _).alloc h.2 _
 have hne:w.heap.size≠b:=by have:=h.1.lt;omega
 have hle:l.length+([91,93]).length+(labsL labs).length≤140737488355328:=by rw[List.length_append]at hlim;omega
 have hok0:=hok;simp only[okV,zAn,zAx,Bool.and_eq_true,List.all_eq_true]at hok;have HLE:=xI hle;have HT:=xI hT;have HWw0:=xI hWW;have HKw0:=xI kW;have HV:=xI hv0;have HOK:=xI hok0;have HKK:=xI hkk;have HEE:=xI hee;have HLL:=xI hll;have HOKS:Hid (∀ x∈kids,okV x=true):=xI hok.1.2;have HOKE:Hid (∀ x∈ents,okE x=true):=xI hok.2;skip;clear hle hlim hT hWW kW hv0 hok0 hkk hyy hee hll hok h;obtain⟨w0,hw00⟩:∃ w0,w0=W:=⟨_,rfl⟩;subst hw00;have hc:=bufW B b (l) [91,93] w0 hw0 (by have:=HLE.out;(try simp at this ⊢);omega)
 go_enter Tryz.func17,Tryz.ntmps17;go_wp2_with fail;rw[←hW];clear hW;refine hc.mono ?_;rintro e w1 ⟨rfl,hw1,hb1⟩;clear hc  hw0;have HWw1:=xI (HWw0.out.trans hb1);have hk1:=hb1.box HKw0.out hne;have HKw1:=xI hk1;obtain⟨e0,e1,e2,e3,e4,e5,e6⟩:=zAd hk1;clear hk1 hb1;have hc:=zAy B b (l++[91,93]) labs Al cl w1 hw1 (HLL.out.on HWw1.out.1 fun _ _ h=>h) (by have:=HLE.out;(try simp at this ⊢);omega)
 go_wp2_with fail;refine hc.mono ?_;rintro e wf ⟨rfl,hf,hbf⟩;clear hc e0 e1 e2 e3 e4 e5 e6;go_wp2
 go_end0
 exact⟨rfl,by simpa using hf,HWw1.out.trans hbf⟩
theorem zRh (k:Nat) (hP:Hid (zCh k)) (B b:Nat) (l:Bs) (i:Int) (t:Bs) (kids:List Vl) (keys:List (Int×Bs)) (ents:List En) (labs:List Bs) (cs:List Value) (w:World) (h:BufW B b l w) (hv:VS (k+1) w B (.mk 6 i t kids keys ents labs) cs) (hok:okV (.mk 6 i t kids keys ents labs)=true) (hT:TbH B w) (hlim:l.length+(showV (.mk 6 i t kids keys ents labs)).length≤140737488355328) :
  Calls Tryz.prog 17 #[.pointer (some ⟨b,0,none⟩),.agg cs.toArray] w fun e w'=>e=.returned (.tuple #[])∧BufW B b (l++showV (.mk 6 i t kids keys ents labs)) w'∧Wr B b w w':=by
 have hv0:=hv;obtain⟨uk,uy,ue,ul,rfl,_,hi,ht,hkk,hyy,hee,hll⟩:=hv;obtain⟨Ak,ck,rfl,hkl⟩:=hkk.form;obtain⟨Ay,cy,rfl,hyl⟩:=hyy.form;obtain⟨Ae,ce,rfl,hel⟩:=hee.form;obtain⟨Al,cl,rfl,hlbl⟩:=hll.form;unfold maxLen at hkl hyl hel hlbl;have hsh:showV (.mk 6 i t kids keys ents labs)=[123]++sepL zAc (kids.map showV)++[125]++labsL labs:=by
  rw[zAg];have hb:bodyV (.mk 6 i t kids keys ents labs)=[123]++sepL zAc (kids.map showV)++[125]:=by show 123::(sepL zAc (kids.map showV)++[125])=_;simp
  rw[hb];rfl
 rw[hsh]at hlim ⊢;clear hsh;obtain⟨W,hW⟩:∃ W,W=w.alloc (.cells #[.int .i64 6,.int .i64 i,.string ⟨t.toArray⟩,.slice Ak kids.length ck,.slice Ay keys.length cy,.slice Ae ents.length ce,.slice Al labs.length cl] 27):=⟨_,rfl⟩;have kW:W.heap[w.heap.size]?=some (.cells #[.int .i64 6,.int .i64 i,.string ⟨t.toArray⟩,.slice Ak kids.length ck,.slice Ay keys.length cy,.slice Ae ents.length ce,.slice Al labs.length cl] 27 (0,0)):=by rw[hW];exact heap_alloc_new w _
 have hw0:BufW B b l W:=by rw[hW];exact h.alloc _
 have hWW:Wr B b w W:=by rw[hW];exact (Wr.refl _ _ _).alloc h.2 _
 have hne:w.heap.size≠b:=by have:=h.1.lt;omega
 have hle:l.length+([123]++sepL zAc (kids.map showV)++[125]).length+(labsL labs).length≤140737488355328:=by rw[List.length_append]at hlim;omega
 have hok0:=hok;simp only[okV,zAn,zAx,Bool.and_eq_true,List.all_eq_true]at hok;have HLE:=xI hle;have HT:=xI hT;have HWw0:=xI hWW;have HKw0:=xI kW;have HV:=xI hv0;have HOK:=xI hok0;have HKK:=xI hkk;have HEE:=xI hee;have HLL:=xI hll;have HOKS:Hid (∀ x∈kids,okV x=true):=xI hok.1.2;have HOKE:Hid (∀ x∈ents,okE x=true):=xI hok.2;skip;clear hle hlim hT hWW kW hv0 hok0 hkk hyy hee hll hok h;obtain⟨w0,hw00⟩:∃ w0,w0=W:=⟨_,rfl⟩;subst hw00;have hc:=zEl k hP B b (l) [123] [125] kids Ak ck w0 hw0 (HKK.out.on HWw0.out.1 fun _ _ ⟨x,h1,h2⟩=>⟨x,h1,VS.on HWw0.out.1 h2⟩) HOKS.out (HT.out.below HWw0.out.1) (by have:=HLE.out;(try simp at this ⊢);omega)
 go_enter Tryz.func17,Tryz.ntmps17;go_wp2_with fail;rw[←hW];clear hW;refine hc.mono ?_;rintro e w1 ⟨rfl,hw1,hb1⟩;clear hc  hw0;have HWw1:=xI (HWw0.out.trans hb1);have hk1:=hb1.box HKw0.out hne;have HKw1:=xI hk1;obtain⟨e0,e1,e2,e3,e4,e5,e6⟩:=zAd hk1;clear hk1 hb1;have hc:=zAy B b (l++[123]++sepL zAc (kids.map showV)++[125]) labs Al cl w1 hw1 (HLL.out.on HWw1.out.1 fun _ _ h=>h) (by have:=HLE.out;(try simp at this ⊢);omega)
 go_wp2_with fail;refine hc.mono ?_;rintro e wf ⟨rfl,hf,hbf⟩;clear hc e0 e1 e2 e3 e4 e5 e6;go_wp2
 go_end0
 exact⟨rfl,by simpa using hf,HWw1.out.trans hbf⟩
theorem zRg (k:Nat) (hP:Hid (zCh k)) (B b:Nat) (l:Bs) (i:Int) (t:Bs) (kids:List Vl) (keys:List (Int×Bs)) (ents:List En) (labs:List Bs) (cs:List Value) (w:World) (h:BufW B b l w) (hv:VS (k+1) w B (.mk 7 i t kids keys ents labs) cs) (hok:okV (.mk 7 i t kids keys ents labs)=true) (hT:TbH B w) (hlim:l.length+(showV (.mk 7 i t kids keys ents labs)).length≤140737488355328) :
  Calls Tryz.prog 17 #[.pointer (some ⟨b,0,none⟩),.agg cs.toArray] w fun e w'=>e=.returned (.tuple #[])∧BufW B b (l++showV (.mk 7 i t kids keys ents labs)) w'∧Wr B b w w':=by
 have hv0:=hv;obtain⟨uk,uy,ue,ul,rfl,_,hi,ht,hkk,hyy,hee,hll⟩:=hv;obtain⟨Ak,ck,rfl,hkl⟩:=hkk.form;obtain⟨Ay,cy,rfl,hyl⟩:=hyy.form;obtain⟨Ae,ce,rfl,hel⟩:=hee.form;obtain⟨Al,cl,rfl,hlbl⟩:=hll.form;unfold maxLen at hkl hyl hel hlbl;have hsh:showV (.mk 7 i t kids keys ents labs)=bodyV (.mk 7 i t kids keys ents labs)++labsL labs:=by
  rw[zAg];have hb:bodyV (.mk 7 i t kids keys ents labs)=bodyV (.mk 7 i t kids keys ents labs):=by rfl
  rw[hb];rfl
 rw[hsh]at hlim ⊢;clear hsh;obtain⟨W,hW⟩:∃ W,W=w.alloc (.cells #[.int .i64 7,.int .i64 i,.string ⟨t.toArray⟩,.slice Ak kids.length ck,.slice Ay keys.length cy,.slice Ae ents.length ce,.slice Al labs.length cl] 27):=⟨_,rfl⟩;have kW:W.heap[w.heap.size]?=some (.cells #[.int .i64 7,.int .i64 i,.string ⟨t.toArray⟩,.slice Ak kids.length ck,.slice Ay keys.length cy,.slice Ae ents.length ce,.slice Al labs.length cl] 27 (0,0)):=by rw[hW];exact heap_alloc_new w _
 have hw0:BufW B b l W:=by rw[hW];exact h.alloc _
 have hWW:Wr B b w W:=by rw[hW];exact (Wr.refl _ _ _).alloc h.2 _
 have hne:w.heap.size≠b:=by have:=h.1.lt;omega
 have hle:l.length+(bodyV (.mk 7 i t kids keys ents labs)).length+(labsL labs).length≤140737488355328:=by rw[List.length_append]at hlim;omega
 have hok0:=hok;simp only[okV,zAn,zAx,Bool.and_eq_true,List.all_eq_true]at hok;have HLE:=xI hle;have HT:=xI hT;have HWw0:=xI hWW;have HKw0:=xI kW;have HV:=xI hv0;have HOK:=xI hok0;have HKK:=xI hkk;have HEE:=xI hee;have HLL:=xI hll;have HOKS:Hid (∀ x∈kids,okV x=true):=xI hok.1.2;have HOKE:Hid (∀ x∈ents,okE x=true):=xI hok.2;skip;clear hle hlim hT hWW kW hv0 hok0 hkk hyy hee hll hok h;obtain⟨w0,hw00⟩:∃ w0,w0=W:=⟨_,rfl⟩;subst hw00;have hc:=zIn k hP B b (l) (.mk 7 i t kids keys ents labs) _ w0 hw0 (VS.on HWw0.out.1 HV.out) rfl HOK.out (HT.out.below HWw0.out.1) (by have:=HLE.out;omega);go_enter Tryz.func17,Tryz.ntmps17;go_wp2_with fail;rw[←hW];clear hW;refine hc.mono ?_;rintro e w1 ⟨rfl,hw1,hb1⟩;clear hc  hw0;have HWw1:=xI (HWw0.out.trans hb1);have hk1:=hb1.box HKw0.out hne;have HKw1:=xI hk1;obtain⟨e0,e1,e2,e3,e4,e5,e6⟩:=zAd hk1;clear hk1 hb1;have hc:=zAy B b (l++bodyV (.mk 7 i t kids keys ents labs)) labs Al cl w1 hw1 (HLL.out.on HWw1.out.1 fun _ _ h=>h) (by have:=HLE.out;(try simp at this ⊢);omega)
 go_wp2_with fail;refine hc.mono ?_;rintro e wf ⟨rfl,hf,hbf⟩;clear hc e0 e1 e2 e3 e4 e5 e6;go_wp2
 go_end0
 exact⟨rfl,by simpa using hf,HWw1.out.trans hbf⟩
theorem zRf (k:Nat) (hP:Hid (zCh k)) (B b:Nat) (l:Bs) (i:Int) (t:Bs) (kids:List Vl) (keys:List (Int×Bs)) (ents:List En) (labs:List Bs) (cs:List Value) (w:World) (h:BufW B b l w) (hv:VS (k+1) w B (.mk 8 i t kids keys ents labs) cs) (hok:okV (.mk 8 i t kids keys ents labs)=true) (hT:TbH B w) (hlim:l.length+(showV (.mk 8 i t kids keys ents labs)).length≤140737488355328) :
  Calls Tryz.prog 17 #[.pointer (some ⟨b,0,none⟩),.agg cs.toArray] w fun e w'=>e=.returned (.tuple #[])∧BufW B b (l++showV (.mk 8 i t kids keys ents labs)) w'∧Wr B b w w':=by
 have hv0:=hv;obtain⟨uk,uy,ue,ul,rfl,_,hi,ht,hkk,hyy,hee,hll⟩:=hv;obtain⟨Ak,ck,rfl,hkl⟩:=hkk.form;obtain⟨Ay,cy,rfl,hyl⟩:=hyy.form;obtain⟨Ae,ce,rfl,hel⟩:=hee.form;obtain⟨Al,cl,rfl,hlbl⟩:=hll.form;unfold maxLen at hkl hyl hel hlbl;have hsh:showV (.mk 8 i t kids keys ents labs)=bodyV (.mk 8 i t kids keys ents labs)++labsL labs:=by
  rw[zAg];have hb:bodyV (.mk 8 i t kids keys ents labs)=bodyV (.mk 8 i t kids keys ents labs):=by rfl
  rw[hb];rfl
 rw[hsh]at hlim ⊢;clear hsh;obtain⟨W,hW⟩:∃ W,W=w.alloc (.cells #[.int .i64 8,.int .i64 i,.string ⟨t.toArray⟩,.slice Ak kids.length ck,.slice Ay keys.length cy,.slice Ae ents.length ce,.slice Al labs.length cl] 27):=⟨_,rfl⟩;have kW:W.heap[w.heap.size]?=some (.cells #[.int .i64 8,.int .i64 i,.string ⟨t.toArray⟩,.slice Ak kids.length ck,.slice Ay keys.length cy,.slice Ae ents.length ce,.slice Al labs.length cl] 27 (0,0)):=by rw[hW];exact heap_alloc_new w _
 have hw0:BufW B b l W:=by rw[hW];exact h.alloc _
 have hWW:Wr B b w W:=by rw[hW];exact (Wr.refl _ _ _).alloc h.2 _
 have hne:w.heap.size≠b:=by have:=h.1.lt;omega
 have hle:l.length+(bodyV (.mk 8 i t kids keys ents labs)).length+(labsL labs).length≤140737488355328:=by rw[List.length_append]at hlim;omega
 have hok0:=hok;simp only[okV,zAn,zAx,Bool.and_eq_true,List.all_eq_true]at hok;have HLE:=xI hle;have HT:=xI hT;have HWw0:=xI hWW;have HKw0:=xI kW;have HV:=xI hv0;have HOK:=xI hok0;have HKK:=xI hkk;have HEE:=xI hee;have HLL:=xI hll;have HOKS:Hid (∀ x∈kids,okV x=true):=xI hok.1.2;have HOKE:Hid (∀ x∈ents,okE x=true):=xI hok.2;skip;clear hle hlim hT hWW kW hv0 hok0 hkk hyy hee hll hok h;obtain⟨w0,hw00⟩:∃ w0,w0=W:=⟨_,rfl⟩;subst hw00;have hc:=zI9 k hP B b (l) i t kids keys ents labs _ w0 hw0 (VS.on HWw0.out.1 HV.out) HOK.out (HT.out.below HWw0.out.1) (by have:=HLE.out;omega);go_enter Tryz.func17,Tryz.ntmps17;go_wp2_with fail;rw[←hW];clear hW;refine hc.mono ?_;rintro e w1 ⟨rfl,hw1,hb1⟩;clear hc  hw0;have HWw1:=xI (HWw0.out.trans hb1);have hk1:=hb1.box HKw0.out hne;have HKw1:=xI hk1;obtain⟨e0,e1,e2,e3,e4,e5,e6⟩:=zAd hk1;clear hk1 hb1;have hc:=zAy B b (l++bodyV (.mk 8 i t kids keys ents labs)) labs Al cl w1 hw1 (HLL.out.on HWw1.out.1 fun _ _ h=>h) (by have:=HLE.out;(try simp at this ⊢);omega)
 go_wp2_with fail;refine hc.mono ?_;rintro e wf ⟨rfl,hf,hbf⟩;clear hc e0 e1 e2 e3 e4 e5 e6;go_wp2
 go_end0
 exact⟨rfl,by simpa using hf,HWw1.out.trans hbf⟩
theorem zRe (k:Nat) (hP:Hid (zCh k)) (B b:Nat) (l:Bs) (i:Int) (t:Bs) (kids:List Vl) (keys:List (Int×Bs)) (ents:List En) (labs:List Bs) (cs:List Value) (w:World) (h:BufW B b l w) (hv:VS (k+1) w B (.mk 9 i t kids keys ents labs) cs) (hok:okV (.mk 9 i t kids keys ents labs)=true) (hT:TbH B w) (hlim:l.length+(showV (.mk 9 i t kids keys ents labs)).length≤140737488355328) :
  Calls Tryz.prog 17 #[.pointer (some ⟨b,0,none⟩),.agg cs.toArray] w fun e w'=>e=.returned (.tuple #[])∧BufW B b (l++showV (.mk 9 i t kids keys ents labs)) w'∧Wr B b w w':=by
 have hv0:=hv;obtain⟨uk,uy,ue,ul,rfl,_,hi,ht,hkk,hyy,hee,hll⟩:=hv;obtain⟨Ak,ck,rfl,hkl⟩:=hkk.form;obtain⟨Ay,cy,rfl,hyl⟩:=hyy.form;obtain⟨Ae,ce,rfl,hel⟩:=hee.form;obtain⟨Al,cl,rfl,hlbl⟩:=hll.form;unfold maxLen at hkl hyl hel hlbl;have hsh:showV (.mk 9 i t kids keys ents labs)=[102,117,110,47]++Lib.itoa i++[123]++sepL zAc (ents.map showE)++[125]++labsL labs:=by
  rw[zAg];have hb:bodyV (.mk 9 i t kids keys ents labs)=[102,117,110,47]++Lib.itoa i++[123]++sepL zAc (ents.map showE)++[125]:=by show [102,117,110,47]++Lib.itoa i++[123]++(sepL zAc (ents.map showE)++[125])=_;rw[←List.append_assoc]
  rw[hb];rfl
 rw[hsh]at hlim ⊢;clear hsh;obtain⟨W,hW⟩:∃ W,W=w.alloc (.cells #[.int .i64 9,.int .i64 i,.string ⟨t.toArray⟩,.slice Ak kids.length ck,.slice Ay keys.length cy,.slice Ae ents.length ce,.slice Al labs.length cl] 27):=⟨_,rfl⟩;have kW:W.heap[w.heap.size]?=some (.cells #[.int .i64 9,.int .i64 i,.string ⟨t.toArray⟩,.slice Ak kids.length ck,.slice Ay keys.length cy,.slice Ae ents.length ce,.slice Al labs.length cl] 27 (0,0)):=by rw[hW];exact heap_alloc_new w _
 have hw0:BufW B b l W:=by rw[hW];exact h.alloc _
 have hWW:Wr B b w W:=by rw[hW];exact (Wr.refl _ _ _).alloc h.2 _
 have hne:w.heap.size≠b:=by have:=h.1.lt;omega
 have hle:l.length+([102,117,110,47]++Lib.itoa i++[123]++sepL zAc (ents.map showE)++[125]).length+(labsL labs).length≤140737488355328:=by rw[List.length_append]at hlim;omega
 have hok0:=hok;simp only[okV,zAn,zAx,Bool.and_eq_true,List.all_eq_true]at hok;have HLE:=xI hle;have HT:=xI hT;have HWw0:=xI hWW;have HKw0:=xI kW;have HV:=xI hv0;have HOK:=xI hok0;have HKK:=xI hkk;have HEE:=xI hee;have HLL:=xI hll;have HOKS:Hid (∀ x∈kids,okV x=true):=xI hok.1.2;have HOKE:Hid (∀ x∈ents,okE x=true):=xI hok.2;skip;clear hle hlim hT hWW kW hv0 hok0 hkk hyy hee hll hok h;obtain⟨w0,hw00⟩:∃ w0,w0=W:=⟨_,rfl⟩;subst hw00;have hc:=bufW B b (l) [102,117,110,47] w0 hw0 (by have:=HLE.out;(try simp at this ⊢);omega)
 go_enter Tryz.func17,Tryz.ntmps17;go_wp2_with fail;rw[←hW];clear hW;refine hc.mono ?_;rintro e w1 ⟨rfl,hw1,hb1⟩;clear hc  hw0;have HWw1:=xI (HWw0.out.trans hb1);have hk1:=hb1.box HKw0.out hne;have HKw1:=xI hk1;obtain⟨e0,e1,e2,e3,e4,e5,e6⟩:=zAd hk1;clear hk1 hb1;have hc:=zCd B b (l++[102,117,110,47]) i hi w1 hw1 (HT.out.below HWw1.out.1) (by have:=HLE.out;(try simp at this ⊢);omega)
 go_wp2_with fail;refine hc.mono ?_;rintro e w2 ⟨rfl,hw2,hb2⟩;clear hc e0 e1 e2 e3 e4 e5 e6 hw1;have HWw2:=xI (HWw1.out.trans hb2);have hk2:=hb2.box HKw1.out hne;have HKw2:=xI hk2;obtain⟨e0,e1,e2,e3,e4,e5,e6⟩:=zAd hk2;clear hk2 hb2;have hc:=zIm k hP B b (l++[102,117,110,47]++Lib.itoa i) [123] [125] ents Ae ce w2 hw2 (HEE.out.on HWw2.out.1 fun _ _ ⟨args,fails,result,h1,ua,rs,h2,h3,h4⟩=>⟨args,fails,result,h1,ua,rs,h2,h3.on HWw2.out.1 fun _ _ ⟨x,h5,h6⟩=>⟨x,h5,VS.on HWw2.out.1 h6⟩,VS.on HWw2.out.1 h4⟩) HOKE.out (HT.out.below HWw2.out.1) (by have:=HLE.out;(try simp at this ⊢);omega)
 go_wp2_with fail;refine hc.mono ?_;rintro e w3 ⟨rfl,hw3,hb3⟩;clear hc e0 e1 e2 e3 e4 e5 e6 hw2;have HWw3:=xI (HWw2.out.trans hb3);have hk3:=hb3.box HKw2.out hne;have HKw3:=xI hk3;obtain⟨e0,e1,e2,e3,e4,e5,e6⟩:=zAd hk3;clear hk3 hb3;have hc:=zAy B b (l++[102,117,110,47]++Lib.itoa i++[123]++sepL zAc (ents.map showE)++[125]) labs Al cl w3 hw3 (HLL.out.on HWw3.out.1 fun _ _ h=>h) (by have:=HLE.out;(try simp at this ⊢);omega)
 go_wp2_with fail;refine hc.mono ?_;rintro e wf ⟨rfl,hf,hbf⟩;clear hc e0 e1 e2 e3 e4 e5 e6;go_wp2
 go_end0
 exact⟨rfl,by simpa using hf,HWw3.out.trans hbf⟩
theorem zI8:∀ k,zCh k
 | 0=>by intro B b l v cs w _ h;exact h.elim
 | k+1=>by
  intro B b l v cs w h hv hok hT hlim;have hP:=xI (zI8 k);obtain⟨kd,i,t,kids,keys,ents,labs⟩:=v;have hk:kindB kd i t kids keys ents=true:=by
   have h2:=hok;simp only[okV,Bool.and_eq_true]at h2;exact h2.1.1.2
  rcases kinds hk with rfl|rfl|rfl|rfl|rfl|rfl|rfl|rfl|rfl
  ·exact zRm k hP B b l i t kids keys ents labs cs w h hv hok hT hlim
  ·exact zRl k hP B b l i t kids keys ents labs cs w h hv hok hT hlim
  ·exact zRk k hP B b l i t kids keys ents labs cs w h hv hok hT hlim
  ·exact zRj k hP B b l i t kids keys ents labs cs w h hv hok hT hlim
  ·exact zRi k hP B b l i t kids keys ents labs cs w h hv hok hT hlim
  ·exact zRh k hP B b l i t kids keys ents labs cs w h hv hok hT hlim
  ·exact zRg k hP B b l i t kids keys ents labs cs w h hv hok hT hlim
  ·exact zRf k hP B b l i t kids keys ents labs cs w h hv hok hT hlim
  ·exact zRe k hP B b l i t kids keys ents labs cs w h hv hok hT hlim
theorem zFp (k:Nat) (v:Vl) (cs:List Value) (w:World) (hv:VS k w w.heap.size v cs) (hT:TbH w.heap.size w) (hlim:okV v=true→(showV v).length≤140737488355328) :
  Calls Tryz.prog 10 #[.agg cs.toArray] w fun e w'=>e=.returned (.string ⟨(if okV v=true then showV v else []).toArray⟩)∧Below w.heap.size w w':=by
 obtain⟨a,i,s,B1,n1,d1,B2,n2,d2,B3,n3,d3,B4,n4,d4,rfl⟩:=hv.form7;obtain⟨W,hW⟩:∃ W,W=w.alloc (.cells #[.int .i64 a,.int .i64 i,.string s,.slice B1 n1 d1,.slice B2 n2 d2,.slice B3 n3 d3,.slice B4 n4 d4] 27):=⟨_,rfl⟩;have hbW:Below w.heap.size w W:=by rw[hW];exact bR.alloc lR _
 have kW:W.heap[w.heap.size]?=some (.cells #[.int .i64 a,.int .i64 i,.string s,.slice B1 n1 d1,.slice B2 n2 d2,.slice B3 n3 d3,.slice B4 n4 d4] 27 (0,0)):=by rw[hW];exact heap_alloc_new w _
 have hva:=zFz k v _ W (VS.up hbW.size lR (VS.on hbW hv));have HB:=xI hbW;have HK:=xI kW;have HV:=xI hv;have HT:=xI hT;have HL:=xI hlim;clear hbW kW hv hT hlim;cases hok:okV v with
 | false=>
  rw[hok]at hva;clear hok;go_enter Tryz.func10,Tryz.ntmps10;go_wp2_with fail;rw[←hW];clear hW;refine hva.mono ?_;rintro e w1 ⟨rfl,hb1⟩;clear hva;have HB1:=xI (HB.out.trans (hb1.mono HB.out.size));clear hb1;go_wp2;go_ret;exact⟨rfl,HB1.out⟩
 | true=>
  rw[hok]at hva;have HOK:=xI hok;clear hok;go_enter Tryz.func10,Tryz.ntmps10;go_wp2_with fail;rw[←hW];clear hW;refine hva.mono ?_;rintro e w1 ⟨rfl,hb1⟩;clear hva;have hbw1:=HB.out.trans (hb1.mono HB.out.size);have k1:=(hb1.block _ (Array.getElem?_eq_some_iff.1 HK.out).1).trans HK.out;obtain⟨w2,hw2⟩:∃ w2,w2=w1.alloc (.cells #[.slice none 0 0,.int .i64 0,.int .i8 0] 54):=⟨_,rfl⟩;have hb2:Below w1.heap.size w1 w2:=by rw[hw2];exact bR.alloc lR _
  have hI:BufW w1.heap.size w1.heap.size [] w2:=by
   rw[hw2];exact⟨Lib.fresh_isBuffer 54 5 w1,by simp⟩
  have hbw2:=hbw1.trans (hb2.mono hbw1.size);have k2:=(hb2.block _ (Array.getElem?_eq_some_iff.1 k1).1).trans k1;have hwr:=zI8 k w1.heap.size w1.heap.size [] v _ w2 hI (VS.up hbw1.size lR (VS.on hbw2 HV.out)) HOK.out (fun w' h=>HT.out w' (hbw2.trans (h.mono hbw1.size))) (by have:=HL.out HOK.out;simpa using this);obtain⟨e0,e1,e2,e3,e4,e5,e6⟩:=zAd k2;rw[hw2]at e0 e1 e2 e3 e4 e5 e6;have HB2:=xI hbw2;have HS:=xI hbw1.size;clear hb1 hbw1 k1 hb2 hI hbw2 k2;go_wp2_with fail;rw[←hw2];clear hw2 e0 e1 e2 e3 e4 e5 e6;refine hwr.mono ?_;rintro e w3 ⟨rfl,h3,hb3⟩;clear hwr;rw[List.nil_append]at h3;have hst:=Tryz.Buffer_String _ _ _ _ h3.1;have HB3:=xI (HB2.out.trans (hb3.1.mono HS.out));clear h3 hb3;go_wp2_with fail;refine hst.mono ?_;rintro e w4 ⟨rfl,nq,rfl⟩;clear hst;go_wp2;go_ret;exact⟨rfl,HB3.out.trans ⟨rfl,rfl,rfl,Nat.le_refl _,fun _ _=>rfl⟩⟩
theorem EnvH.tbH {B:Nat}{w:World}(h:EnvH B w) (hB:B≤w.heap.size):TbH w.heap.size w:=fun w' h'=>(h w' (h'.mono hB)).1
theorem zFw (B:Nat) (w:World) (hB:B≤w.heap.size) (hE:EnvH B w) :
  Calls Tryz.prog 8 #[] w fun e w'=>e=.returned (.bool true)∧Below w.heap.size w w':=by
 have hp:=zMv B awS w (by decide) hB hE;rw[zQf]at hp;have hp2:Calls Tryz.prog 12 #[.string ⟨#[102,117,110,47,49,123,40,49,41,32,45,62,32,33,44,32,40,50,41,32,45,62,32,91,111,107,32,124,32,91,93,64,40,66,41,93,125]⟩] w (zO8 (some awV) w):=hp;have HE:=xI hE;clear hp hE;go_enter Tryz.func8,Tryz.ntmps8;go_wp2_with fail;refine hp2.mono ?_;rintro e w1 ⟨hb1,hpo⟩;clear hp2;rcases hpo with⟨hno,_⟩|⟨v,a,i,s,A1,n1,c1,A2,n2,c2,A3,n3,c3,A4,n4,c4,hv,rfl,hvb⟩
 ·cases hno
 injection hv with hv;subst hv;have hs1:=hb1.size;generalize kN5 131072=K at hvb;cases K with
 | zero=>exact hvb.elim
 | succ K=>
  have hf:=VB.sub (fun b (hb:Btw w.heap.size w1.heap.size b)=>hb.2) lR hvb;have hf0:=hf;obtain⟨uk,uy,ue,ul,hcs,_,_,_,_,_,hee,_⟩:=hf0;simp only[List.cons.injEq,and_true,Value.int.injEq,true_and,Value.string.injEq]at hcs;obtain⟨rfl,rfl,rfl,rfl,rfl,rfl,rfl⟩:=hcs;obtain⟨b,off,cap,y0,y1,x0,x1,x2,x3,x4,x5,x6,hu,hbl,⟨args,fails,result,hx,ua,rs,hcse,_,_⟩,_,d1,_⟩:=hee.at9 (j:=0) (by decide);injection hu with h1 h2 h3;subst h1 h3;have hn3:n3=2:=h2;subst hn3;have hx2:(En.mk [.mk 1 1 [] [] [] [] []] true zeroV)=.mk args fails result:=by simpa using hx
  injection hx2 with _ hfa _;subst hfa;simp only[List.cons.injEq]at hcse;obtain⟨_,rfl,_⟩:=hcse;simp only[Nat.zero_mul,Nat.add_zero]at d1;obtain⟨w2,hw2⟩:∃ w2,w2=w1.alloc (.cells #[.int .i64 9,.int .i64 1,.string ⟨#[]⟩,.slice A1 n1 c1,.slice A2 n2 c2,.slice (some ⟨b,off,none⟩) 2 c3,.slice A4 n4 c4] 27):=⟨_,rfl⟩;have hb2:Below w1.heap.size w1 w2:=by rw[hw2];exact bR.alloc lR _
  have d1':w2.cell? ⟨b,off+1,none⟩=some (.bool true):=(hb2.cell (p:=⟨b,off+1,none⟩) hbl).trans d1;have hfo:=zFp (K+1) awV _ w2 (VS.up hb2.size lR (VS.on hb2 hf)) ((HE.out.below (hb1.mono hB)).below (hb2.mono (Nat.le_trans hB hs1)) |>.tbH (Nat.le_trans hB (Nat.le_trans hs1 hb2.size))) (fun _=>by rw[zLl];decide);rw[if_pos zQo.ok,zLl]at hfo;have hfo2:Calls Tryz.prog 10 #[.agg #[.int .i64 9,.int .i64 1,.string ⟨#[]⟩,.slice A1 n1 c1,.slice A2 n2 c2,.slice (some ⟨b,off,none⟩) 2 c3,.slice A4 n4 c4]] w2 fun e w'=>e=.returned (.string ⟨#[102,117,110,47,49,123,40,49,41,32,45,62,32,33,44,32,40,50,41,32,45,62,32,91,111,107,32,124,32,91,93,64,40,66,41,93,125]⟩)∧Below w2.heap.size w2 w':=hfo;have HB2:=xI (hb1.trans (hb2.mono hs1));have HS:=xI (Nat.le_trans hs1 hb2.size);rw[hw2]at d1';clear hfo hf hvb hee hb1 hs1 hb2 d1 hbl hx h2;go_wp2_with fail;rw[←hw2];clear hw2 d1';refine hfo2.mono ?_;rintro e w3 ⟨rfl,hb3⟩;clear hfo2;have HB3:=xI (HB2.out.trans (hb3.mono HS.out));clear hb3;go_wp2;go_ret;exact⟨rfl,HB3.out⟩
mutual
theorem zIt:∀ {v:Vl},sml v→tiny v
 | .mk _ _ _ v y e l,h=>by
  unfold sml at h;unfold tiny;exact⟨h.1,h.2.1,h.2.2.1,h.2.2.2.1,zFh h.2.2.2.2.1,zH4 h.2.2.2.2.2⟩
theorem zFh:∀ {l:List Vl},smlVs l→zEo l
 | [],_=>by unfold zEo;trivial
 | a::s,h=>by
  unfold smlVs at h;unfold zEo;exact⟨zIt h.1,zFh h.2⟩
theorem zNu:∀ {e:En},smlE e→tinyE e
 | .mk a _ r,h=>by
  unfold smlE at h;unfold tinyE;exact⟨h.1,zFh h.2.1,zIt h.2.2⟩
theorem zH4:∀ {l:List En},smlEs l→zF0 l
 | [],_=>by unfold zF0;trivial
 | a::s,h=>by
  unfold smlEs at h;unfold zF0;exact⟨zNu h.1,zH4 h.2⟩
end
def zMk:Prop:=∀ (A:Option Addr) (n c:Nat) (w:World),RowP w w.heap.size 1 (.slice A n c) n (fun _ cs=>∃ x,cs=[.int .i64 x]∧(Lit.int .i64 x).wf=true)→n≤maxLen →
  Calls Tryz.prog 9 #[.slice A n c] w fun e w'=>∃ v cs,e=.returned (.agg cs.toArray)∧VB 4 w' (Btw w.heap.size w'.heap.size) v cs∧okV v=true∧sml v∧Below w.heap.size w w'
end Go.Proofs.YtcjgaohblaidjaaGreatDoor
namespace Go.Proofs.YtcjgaohblaidjaaGreatDoor
open Go Go.RowKit Go.ChangeShapes Go.WideShapes
theorem zJe {w w':World}{H:Nat}{n:String}{cs:Array Value}(h:w.var? Tryz.prog n=some cs) (hH:w.heap.size≤H) (hb:Below H w w'):w'.var? Tryz.prog n=some cs:=by
 unfold World.var? at *;cases hg:Program.globalNamed Tryz.prog n with
 | none=>simp[hg]at h
 | some g=>
  simp only[hg,Option.bind_some]at h ⊢;have hlt:g<w.heap.size:=by
   rcases Nat.lt_or_ge g w.heap.size with h'|h'
   ·exact h'
   ·rw[Array.getElem?_eq_none h']at h;simp at h
  rw[hb.block g (Nat.lt_of_lt_of_le hlt hH)];exact h
theorem EnvW.envH {w:World}(h:EnvW w):EnvH w.heap.size w:=by
 intro w' hb;obtain⟨h1,⟨t1,q1,h2⟩,⟨t2,q2,h3⟩⟩:=h;exact⟨h1.below lR hb,⟨t1,q1,zJe h2 lR hb⟩,⟨t2,q2,zJe h3 lR hb⟩⟩
theorem zQp {cs:Array Value}{x:Value}(h:cs.toList=[x]):cs=#[x]:=by
 cases cs with
 | mk l=>exact congrArg Array.mk h
theorem zQz:(Rows.laid_internal_strconv_uint64pow10:DataW Unit)=Lib.tabData .u64 Lib.pow10Tab:=by kernel_rfl
theorem zRx {W:World}(h:laidMetH Tryz.prog Rows.valueTextBackRow.laid W):EnvW W:=by
 rw[MakeChecks.laidMetH_plain _ _ _ (by kernel_rfl)]at h;obtain⟨ps,hv,_,_⟩:=h;obtain⟨g0,t0,cs0,f0,p0,q0,_,_,_,_,hv,_⟩:=hv;obtain⟨g1,t1,cs1,f1,p1,q1,_,_,_,_,hv,_⟩:=hv;obtain⟨g2,t2,cs2,f2,p2,q2,hg2,ht2,hv2,hd2,hv,_⟩:=hv;obtain⟨g3,t3,cs3,f3,p3,q3,hg3,ht3,hv3,hd3,hv,_⟩:=hv;obtain⟨g4,t4,cs4,f4,p4,q4,hg4,ht4,hv4,hd4,hv,_⟩:=hv;obtain rfl:=Option.some.inj ((show Tryz.prog.globalNamed "internal/strconv.uint64pow10" = some 1 by kernel_rfl).symm.trans hg2);obtain rfl:=Option.some.inj ((show (Tryz.prog.globals[1]?).map (·.type)=some 161 by kernel_rfl).symm.trans ht2);obtain rfl:=Option.some.inj ((show Tryz.prog.globalNamed "strconv.ErrRange" = some 6 by kernel_rfl).symm.trans hg3);obtain rfl:=Option.some.inj ((show (Tryz.prog.globals[6]?).map (·.type)=some 68 by kernel_rfl).symm.trans ht3);obtain rfl:=Option.some.inj ((show Tryz.prog.globalNamed "strconv.ErrSyntax" = some 5 by kernel_rfl).symm.trans hg4);obtain rfl:=Option.some.inj ((show (Tryz.prog.globals[5]?).map (·.type)=some 68 by kernel_rfl).symm.trans ht4);rw[zQz]at hd2;have e2:=Lib.cells_of_tab Tryz.underlying161 Tryz.underlying134 (by kernel_rfl) (by kernel_rfl) hd2;obtain⟨_,u3,v3,e3,_,_⟩:=iface_of_trod Tryz.underlying68 hd3;obtain⟨_,u4,v4,e4,_,_⟩:=iface_of_trod Tryz.underlying68 hd4;refine⟨?_,⟨u4,v4,?_⟩,⟨u3,v3,?_⟩⟩
 ·show World.var? _ _ _=_;rw[hv2,←e2]
 ·rw[hv4,zQp e4]
 ·rw[hv3,zQp e3]
end Go.Proofs.YtcjgaohblaidjaaGreatDoor
