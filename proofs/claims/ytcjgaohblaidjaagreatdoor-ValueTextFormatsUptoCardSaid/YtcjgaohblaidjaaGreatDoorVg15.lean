/- What isValid and Validate return: whether every node of a value is valid. -/
import Derived.Test.YtcjgaohblaidjaaGreatDoorVgZ
import Derived.Test.YtcjgaohblaidjaaGreatDoorVg01
import Derived.Test.YtcjgaohblaidjaaGreatDoorVg12
import Derived.Test.YtcjgaohblaidjaaGreatDoorVg13
import Derived.Test.YtcjgaohblaidjaaGreatDoorVg14
import Derived.Deep.LoopGhost
set_option maxRecDepth 100000
set_option maxHeartbeats 6400000
namespace Go.Proofs.YtcjgaohblaidjaaGreatDoor
open Go Go.RowKit
theorem zPu (k:Nat) (kd it:Int) (tx:List UInt8) (kids:List Vl) (keys:List (Int×List UInt8)) (ents:List En) (labs:List (List UInt8)) (A Y E L:Option Addr) (c cy ce cl:Nat) (w:World) (ht:tx.length≤maxLen)
  (hk:RowP w w.heap.size 7 (.slice A kids.length c) kids.length (fun j cs=>∃ x,kids[j]?=some x∧VS k w w.heap.size x cs))
  (hy:RowP w w.heap.size 2 (.slice Y keys.length cy) keys.length (fun j cs=>∃ x,keys[j]?=some x∧cs=[.int .i64 x.1,.string ⟨x.2.toArray⟩]∧(Lit.int .i64 x.1).wf=true∧x.2.length≤maxLen))
  (he:RowP w w.heap.size 9 (.slice E ents.length ce) ents.length (fun j cs=>∃ x,ents[j]?=some x∧ES (k+1) w w.heap.size x cs))
  (hl:RowP w w.heap.size 1 (.slice L labs.length cl) labs.length (fun j cs=>∃ x,labs[j]?=some x∧cs=[.string ⟨x.toArray⟩]∧x.length≤maxLen)) :
  Calls Tryz.prog 64 #[.agg #[.int .i64 kd,.int .i64 it,.string ⟨tx.toArray⟩,.slice A kids.length c,.slice Y keys.length cy,.slice E ents.length ce,.slice L labs.length cl]] w fun e w'=>e=.returned (.bool (zAi labs&&usesB kd it tx kids keys ents&&kindB kd it tx kids keys ents))∧Below w.heap.size w w':=by
 have egv:=enters_of Tryz.func89 (by kernel_rfl) rfl;obtain⟨W,hW⟩:∃ W,W=w.alloc (.cells #[.int .i64 kd,.int .i64 it,.string ⟨tx.toArray⟩,.slice A kids.length c,.slice Y keys.length cy,.slice E ents.length ce,.slice L labs.length cl] 27):=⟨_,rfl⟩;have hbb:Below w.heap.size w W:=by rw[hW];exact bR.alloc lR _
 have hzz:w.heap.size<W.heap.size:=by rw[hW];simp
 have q0:W.cell? ⟨w.heap.size,0,none⟩=some (.int .i64 kd):=by rw[hW];simp
 have q1:W.cell? ⟨w.heap.size,1,none⟩=some (.int .i64 it):=by rw[hW];simp
 have q2:W.cell? ⟨w.heap.size,2,none⟩=some (.string ⟨tx.toArray⟩):=by rw[hW];simp
 have q3:W.cell? ⟨w.heap.size,3,none⟩=some (.slice A kids.length c):=by rw[hW];simp
 have q4:W.cell? ⟨w.heap.size,4,none⟩=some (.slice Y keys.length cy):=by rw[hW];simp
 have q5:W.cell? ⟨w.heap.size,5,none⟩=some (.slice E ents.length ce):=by rw[hW];simp
 have q6:W.cell? ⟨w.heap.size,6,none⟩=some (.slice L labs.length cl):=by rw[hW];simp
 have HB:=xI hbb;have h1:=zPh kd it tx A Y E L kids.length c keys.length cy ents.length ce labs.length cl W;have h2:Hid (∀ V,Below w.heap.size w V→Calls Tryz.prog 110 #[.slice L labs.length cl,.func (.func 89) #[] #[]] V fun e w'=>e=.returned (.bool (labs.all varB))∧Below V.heap.size V w'):=xI fun V hV=>all1 _ egv varB L cl labs V (xI fun x U hx=>zM5 x U hx) ((hl.on hV fun _ _ h=>h).mono hV.size fun _ _ h=>h);have h3:Hid (∀ V,Below w.heap.size w V→Calls Tryz.prog 111 #[.slice L labs.length cl,.func (.func 112) #[] #[]] V fun e w'=>e=.returned (.bool (decide (AscC cmpT labs)))∧Below V.heap.size V w'):=xI fun V hV=>asc1 L cl labs V ((hl.on hV fun _ _ h=>h).mono hV.size fun _ _ h=>h);have h4:Hid (∀ V,Below w.heap.size w V→Calls Tryz.prog 113 #[.agg #[.int .i64 kd,.int .i64 it,.string ⟨tx.toArray⟩,.slice A kids.length c,.slice Y keys.length cy,.slice E ents.length ce,.slice L labs.length cl]] V fun e w'=>e=.returned (.bool (kindB kd it tx kids keys ents))∧Below V.heap.size V w'):=xI fun V hV=>zP1 kd k it tx kids keys ents A Y E L c cy ce labs.length cl V ht ((hk.on hV fun _ _ ⟨x,h1,h2⟩=>⟨x,h1,VS.up hV.size lR (VS.on hV h2)⟩).mono hV.size fun _ _ h=>h) ((hy.on hV fun _ _ h=>h).mono hV.size fun _ _ h=>h) ((he.on hV fun _ _ ⟨x,h1,h2⟩=>⟨x,h1,ES.up hV.size lR (ES.on hV h2)⟩).mono hV.size fun _ _ h=>h);have HR:Hid ((zAi labs&&usesB kd it tx kids keys ents&&kindB kd it tx kids keys ents)=(usesN kd it tx kids.length keys.length ents.length&&labs.all varB&&decide (AscC cmpT labs)&&kindB kd it tx kids keys ents)):=xI (by
  rw[zCk];unfold zAi;generalize usesN kd it tx kids.length keys.length ents.length=a;generalize labs.all varB=b;generalize decide (AscC cmpT labs)=c;cases a<;>cases b<;>cases c<;>rfl)
 generalize (zAi labs&&usesB kd it tx kids keys ents&&kindB kd it tx kids keys ents)=r at HR ⊢;generalize usesN kd it tx kids.length keys.length ents.length=z1 at h1 HR;generalize labs.all varB=z2 at h2 HR;generalize decide (AscC cmpT labs)=z3 at h3 HR;generalize kindB kd it tx kids keys ents=z4 at h4 HR;clear hk hy he hl hbb egv ht;go_enter Tryz.func64,Tryz.ntmps64;go_wp2_with fail;rw[←hW];clear hW;go_wp2_with (go_at_call 109;refine h1.mono ?_;rintro e w1 ⟨rfl,hb1⟩;refine Hid.out ?_);refine xI ?_;cases z1
 ·have HU:Hid (r=false):=xI (by rw[HR.out];rfl);go_wp2;go_ret;exact⟨zAb HU.out.symm,HB.out.trans (hb1.mono HB.out.size)⟩
 have p0:w1.cell? ⟨w.heap.size,0,none⟩=some (.int .i64 kd):=(hb1.cell (p:=⟨_,0,none⟩) hzz).trans q0;have p1:w1.cell? ⟨w.heap.size,1,none⟩=some (.int .i64 it):=(hb1.cell (p:=⟨_,1,none⟩) hzz).trans q1;have p2:w1.cell? ⟨w.heap.size,2,none⟩=some (.string ⟨tx.toArray⟩):=(hb1.cell (p:=⟨_,2,none⟩) hzz).trans q2;have p3:w1.cell? ⟨w.heap.size,3,none⟩=some (.slice A kids.length c):=(hb1.cell (p:=⟨_,3,none⟩) hzz).trans q3;have p4:w1.cell? ⟨w.heap.size,4,none⟩=some (.slice Y keys.length cy):=(hb1.cell (p:=⟨_,4,none⟩) hzz).trans q4;have p5:w1.cell? ⟨w.heap.size,5,none⟩=some (.slice E ents.length ce):=(hb1.cell (p:=⟨_,5,none⟩) hzz).trans q5;have p6:w1.cell? ⟨w.heap.size,6,none⟩=some (.slice L labs.length cl):=(hb1.cell (p:=⟨_,6,none⟩) hzz).trans q6;have hz1:w.heap.size<w1.heap.size:=Nat.lt_of_lt_of_le hzz hb1.size;have HB1:=xI (HB.out.trans (hb1.mono HB.out.size));clear h1 q0 q1 q2 q3 q4 q5 q6 hb1;go_wp2_with (go_at_call 110;refine (h2.out _ HB1.out).mono ?_;rintro e w2 ⟨rfl,hb2⟩;refine Hid.out ?_);refine xI ?_;cases z2
 ·have HU:Hid (r=false):=xI (by rw[HR.out];rfl);go_wp2;go_ret;exact⟨zAb HU.out.symm,HB1.out.trans (hb2.mono HB1.out.size)⟩
 have q0:w2.cell? ⟨w.heap.size,0,none⟩=some (.int .i64 kd):=(hb2.cell (p:=⟨_,0,none⟩) hz1).trans p0;have q1:w2.cell? ⟨w.heap.size,1,none⟩=some (.int .i64 it):=(hb2.cell (p:=⟨_,1,none⟩) hz1).trans p1;have q2:w2.cell? ⟨w.heap.size,2,none⟩=some (.string ⟨tx.toArray⟩):=(hb2.cell (p:=⟨_,2,none⟩) hz1).trans p2;have q3:w2.cell? ⟨w.heap.size,3,none⟩=some (.slice A kids.length c):=(hb2.cell (p:=⟨_,3,none⟩) hz1).trans p3;have q4:w2.cell? ⟨w.heap.size,4,none⟩=some (.slice Y keys.length cy):=(hb2.cell (p:=⟨_,4,none⟩) hz1).trans p4;have q5:w2.cell? ⟨w.heap.size,5,none⟩=some (.slice E ents.length ce):=(hb2.cell (p:=⟨_,5,none⟩) hz1).trans p5;have q6:w2.cell? ⟨w.heap.size,6,none⟩=some (.slice L labs.length cl):=(hb2.cell (p:=⟨_,6,none⟩) hz1).trans p6;have hz2:w.heap.size<w2.heap.size:=Nat.lt_of_lt_of_le hz1 hb2.size;have HB2:=xI (HB1.out.trans (hb2.mono HB1.out.size));clear p0 p1 p2 p3 p4 p5 p6 hb2;go_wp2_with (go_at_call 111;refine (h3.out _ HB2.out).mono ?_;rintro e w3 ⟨rfl,hb3⟩;refine Hid.out ?_);refine xI ?_;cases z3
 ·have HU:Hid (r=false):=xI (by rw[HR.out];rfl);go_wp2;go_ret;exact⟨zAb HU.out.symm,HB2.out.trans (hb3.mono HB2.out.size)⟩
 have p0:w3.cell? ⟨w.heap.size,0,none⟩=some (.int .i64 kd):=(hb3.cell (p:=⟨_,0,none⟩) hz2).trans q0;have p1:w3.cell? ⟨w.heap.size,1,none⟩=some (.int .i64 it):=(hb3.cell (p:=⟨_,1,none⟩) hz2).trans q1;have p2:w3.cell? ⟨w.heap.size,2,none⟩=some (.string ⟨tx.toArray⟩):=(hb3.cell (p:=⟨_,2,none⟩) hz2).trans q2;have p3:w3.cell? ⟨w.heap.size,3,none⟩=some (.slice A kids.length c):=(hb3.cell (p:=⟨_,3,none⟩) hz2).trans q3;have p4:w3.cell? ⟨w.heap.size,4,none⟩=some (.slice Y keys.length cy):=(hb3.cell (p:=⟨_,4,none⟩) hz2).trans q4;have p5:w3.cell? ⟨w.heap.size,5,none⟩=some (.slice E ents.length ce):=(hb3.cell (p:=⟨_,5,none⟩) hz2).trans q5;have p6:w3.cell? ⟨w.heap.size,6,none⟩=some (.slice L labs.length cl):=(hb3.cell (p:=⟨_,6,none⟩) hz2).trans q6;have HB3:=xI (HB2.out.trans (hb3.mono HB2.out.size));have HU:Hid (r=z4):=xI (by rw[HR.out];rfl);clear q0 q1 q2 q3 q4 q5 q6 hb3;go_wp2_with (go_at_call 113;refine (h4.out _ HB3.out).mono ?_;rintro e w4 ⟨rfl,hb4⟩;refine Hid.out ?_);refine xI ?_;go_wp2;go_ret;exact⟨zAb HU.out.symm,HB3.out.trans (hb4.mono HB3.out.size)⟩
theorem zNy (k:Nat) (hV:Hid (∀ (v:Vl) (cs:List Value) (w:World),VS k w w.heap.size v cs→Calls Tryz.prog 26 #[.agg cs.toArray] w fun e w'=>e=.returned (.bool (okV v))∧Below w.heap.size w w')) (e:En) (cs:List Value) (w:World) (h:ES k w w.heap.size e cs) :
  Calls Tryz.prog 66 #[.agg cs.toArray] w fun r w'=>r=.returned (.bool (okE e))∧Below w.heap.size w w':=by
 have egv:=enters_of Tryz.func26 (by kernel_rfl) rfl;obtain⟨args,fl,r,rfl,ua,rs,rfl,hl,hr⟩:=h;obtain⟨A,cap,rfl,_⟩:=hl.form;obtain⟨a,i,s,B1,n1,d1,B2,n2,d2,B3,n3,d3,B4,n4,d4,rfl⟩:=hr.form7;obtain⟨W,hW⟩:∃ W,W=w.alloc (.cells #[.slice A args.length cap,.bool fl,.int .i64 a,.int .i64 i,.string s,.slice B1 n1 d1,.slice B2 n2 d2,.slice B3 n3 d3,.slice B4 n4 d4] 45):=⟨_,rfl⟩;have hbb:Below w.heap.size w W:=by rw[hW];exact bR.alloc lR _
 have hzz:w.heap.size<W.heap.size:=by rw[hW];simp
 have q0:W.cell? ⟨w.heap.size,0,none⟩=some (.slice A args.length cap):=by rw[hW];simp
 have q1:W.cell? ⟨w.heap.size,1,none⟩=some (.bool fl):=by rw[hW];simp
 have q2:W.cell? ⟨w.heap.size,2,none⟩=some (.int .i64 a):=by rw[hW];simp
 have q3:W.cell? ⟨w.heap.size,3,none⟩=some (.int .i64 i):=by rw[hW];simp
 have q4:W.cell? ⟨w.heap.size,4,none⟩=some (.string s):=by rw[hW];simp
 have q5:W.cell? ⟨w.heap.size,5,none⟩=some (.slice B1 n1 d1):=by rw[hW];simp
 have q6:W.cell? ⟨w.heap.size,6,none⟩=some (.slice B2 n2 d2):=by rw[hW];simp
 have q7:W.cell? ⟨w.heap.size,7,none⟩=some (.slice B3 n3 d3):=by rw[hW];simp
 have q8:W.cell? ⟨w.heap.size,8,none⟩=some (.slice B4 n4 d4):=by rw[hW];simp
 have HB:=xI hbb;have h1:=all7 k _ egv okV A cap args W (xI fun v cs V _ hv=>hV.out v cs V hv) ((hl.on hbb fun _ _ ⟨x,h1,h2⟩=>⟨x,h1,VS.up hbb.size lR (VS.on hbb h2)⟩).mono hbb.size fun _ _ h=>h);have h2:Hid (∀ V,Below w.heap.size w V→Calls Tryz.prog 26 #[.agg #[.int .i64 a,.int .i64 i,.string s,.slice B1 n1 d1,.slice B2 n2 d2,.slice B3 n3 d3,.slice B4 n4 d4]] V fun e w'=>e=.returned (.bool (okV r))∧Below V.heap.size V w'):=xI fun V hV'=>hV.out r _ V (VS.up hV'.size lR (VS.on hV' hr));have HR:Hid (okE (.mk args fl r)=(args.all okV&&(fl||okV r))):=xI (by rw[okE,zAn]);generalize okE (.mk args fl r)=y at HR ⊢;generalize args.all okV=z1 at h1 HR;generalize okV r=z2 at h2 HR;clear hl hr hbb egv hV;go_enter Tryz.func66,Tryz.ntmps66;go_wp2_with fail;rw[←hW];clear hW;go_wp2_with (go_at_call 67;refine h1.mono ?_;rintro e w1 ⟨rfl,hb1⟩;refine Hid.out ?_);refine xI ?_;cases z1
 ·have HU:Hid (y=false):=xI (by rw[HR.out];rfl);go_wp2;go_ret;exact⟨zAb HU.out.symm,HB.out.trans (hb1.mono HB.out.size)⟩
 have p1:w1.cell? ⟨w.heap.size,1,none⟩=some (.bool fl):=(hb1.cell (p:=⟨_,1,none⟩) hzz).trans q1;have p2:w1.cell? ⟨w.heap.size,2,none⟩=some (.int .i64 a):=(hb1.cell (p:=⟨_,2,none⟩) hzz).trans q2;have p3:w1.cell? ⟨w.heap.size,3,none⟩=some (.int .i64 i):=(hb1.cell (p:=⟨_,3,none⟩) hzz).trans q3;have p4:w1.cell? ⟨w.heap.size,4,none⟩=some (.string s):=(hb1.cell (p:=⟨_,4,none⟩) hzz).trans q4;have p5:w1.cell? ⟨w.heap.size,5,none⟩=some (.slice B1 n1 d1):=(hb1.cell (p:=⟨_,5,none⟩) hzz).trans q5;have p6:w1.cell? ⟨w.heap.size,6,none⟩=some (.slice B2 n2 d2):=(hb1.cell (p:=⟨_,6,none⟩) hzz).trans q6;have p7:w1.cell? ⟨w.heap.size,7,none⟩=some (.slice B3 n3 d3):=(hb1.cell (p:=⟨_,7,none⟩) hzz).trans q7;have p8:w1.cell? ⟨w.heap.size,8,none⟩=some (.slice B4 n4 d4):=(hb1.cell (p:=⟨_,8,none⟩) hzz).trans q8;have HB1:=xI (HB.out.trans (hb1.mono HB.out.size));clear h1 q0 q1 q2 q3 q4 q5 q6 q7 q8 hb1;cases fl
 ·have HU:Hid (y=z2):=xI (by rw[HR.out];rfl);go_wp2_with (go_at_call 26;refine (h2.out _ HB1.out).mono ?_;rintro e w2 ⟨rfl,hb2⟩;refine Hid.out ?_);refine xI ?_;go_wp2;go_ret;exact⟨zAb HU.out.symm,HB1.out.trans (hb2.mono HB1.out.size)⟩
 ·have HU:Hid (y=true):=xI (by rw[HR.out];rfl);go_wp2;go_ret;exact⟨zAb HU.out.symm,HB1.out⟩
theorem zK6:∀ (k:Nat) (v:Vl) (cs:List Value) (w:World),VS k w w.heap.size v cs→Calls Tryz.prog 26 #[.agg cs.toArray] w fun e w'=>e=.returned (.bool (okV v))∧Below w.heap.size w w':=by
 intro k
 induction k with
 | zero=>intro v cs w h;exact h.elim
 | succ k ih=>
 intro v cs w h;have IH:=xI ih;clear ih;have eg:=enters_of Tryz.func26 (by kernel_rfl) rfl;have eg2:=enters_of Tryz.func66 (by kernel_rfl) rfl;obtain⟨t0,t1,t2,E1,n1,d1,E2,n2,d2,E3,n3,d3,E4,n4,d4,rfl⟩:=h.form7;obtain⟨W,hW⟩:∃ W,W=w.alloc (.cells #[.int .i64 t0,.int .i64 t1,.string t2,.slice E1 n1 d1,.slice E2 n2 d2,.slice E3 n3 d3,.slice E4 n4 d4] 27):=⟨_,rfl⟩;have hb:Below w.heap.size w W:=by rw[hW];exact bR.alloc lR _
 have hz:w.heap.size<W.heap.size:=by rw[hW];simp
 have k1:W.heap[w.heap.size]?=some (.cells #[.int .i64 t0,.int .i64 t1,.string t2,.slice E1 n1 d1,.slice E2 n2 d2,.slice E3 n3 d3,.slice E4 n4 d4] 27 (0,0)):=by rw[hW];exact heap_alloc_new w _
 generalize hy:okV v=y;go_enter Tryz.func26,Tryz.ntmps26;go_wp2_with fail;rw[←hW];clear hW
 go_loopg [] (k+1) (fun q wr=>∃ (a:Vl) (t0 t1:Int) (t2:ByteArray) (E1:Option Addr) (n1 d1:Nat) (E2:Option Addr) (n2 d2:Nat) (E3:Option Addr) (n3 d3:Nat) (E4:Option Addr) (n4 d4:Nat),q≤k+1∧wr.heap[w.heap.size]?=some (.cells #[.int .i64 t0,.int .i64 t1,.string t2,.slice E1 n1 d1,.slice E2 n2 d2,.slice E3 n3 d3,.slice E4 n4 d4] 27 (0,0))∧VS q w w.heap.size a [.int .i64 t0,.int .i64 t1,.string t2,.slice E1 n1 d1,.slice E2 n2 d2,.slice E3 n3 d3,.slice E4 n4 d4]∧okV a=y∧Below w.heap.size w wr∧w.heap.size<wr.heap.size)
 case atStart=>exact⟨v,t0,t1,t2,E1,n1,d1,E2,n2,d2,E3,n3,d3,E4,n4,d4,Nat.le_refl _,k1,h,hy,hb,hz⟩
 case round=>
  clear hy h k1 hb hz;obtain⟨a,t0,t1,t2,E1,n1,d1,E2,n2,d2,E3,n3,d3,E4,n4,d4,hq,k1,h,hy,hb,hz⟩:=hrel;obtain⟨q,rfl⟩:∃ q,gk=q+1:=by
   cases gk with
   | zero=>exact h.elim
   | succ q=>exact⟨q,rfl⟩
  obtain⟨kd,it,tx,kids,keys,ents,labs⟩:=a;obtain⟨uk,uy,ue,ul,hcs,_,_,wf3,hk,hyk,he,hl⟩:=h;obtain⟨A,c,rfl,hkl⟩:=hk.form;obtain⟨Y,cy,rfl,_⟩:=hyk.form;obtain⟨E,ce,rfl,_⟩:=he.form;obtain⟨L,cl,rfl,_⟩:=hl.form;simp only[List.cons.injEq,Value.int.injEq,Value.string.injEq,Value.slice.injEq,and_true,true_and]at hcs;obtain⟨rfl,rfl,rfl,⟨rfl,rfl,rfl⟩,⟨rfl,rfl,rfl⟩,⟨rfl,rfl,rfl⟩,⟨rfl,rfl,rfl⟩⟩:=hcs;have IHq:Hid (∀ (v:Vl) (cs:List Value) (w:World),VS q w w.heap.size v cs→Calls Tryz.prog 26 #[.agg cs.toArray] w fun e w'=>e=.returned (.bool (okV v))∧Below w.heap.size w w'):=xI fun v cs V hv=>IH.out v cs V (VS.up lR (by omega) hv);have h1:=zPu q t0 t1 tx kids keys ents labs E1 E2 E3 E4 d1 d2 d3 d4 wr wf3 (zGl hb hk) ((hyk.on hb fun _ _ h=>h).mono hb.size fun _ _ h=>h) ((zGu hb he).mono lR fun _ _ ⟨x,h1,h2⟩=>⟨x,h1,ES.up lR (by omega) h2⟩) ((hl.on hb fun _ _ h=>h).mono hb.size fun _ _ h=>h);have h2:Hid (∀ m,kids.length=m+1→∀ V,Below w.heap.size w V→Calls Tryz.prog 67 #[.slice E1 m d1,.func (.func 26) #[] #[]] V fun e w'=>e=.returned (.bool ((kids.take m).all okV))∧Below V.heap.size V w'):=xI fun m hm V hV=>by
   have e1:(kids.take m).length=m:=by rw[List.length_take];omega
   have hh:=all7 q _ eg okV E1 d1 (kids.take m) V (xI fun v cs U _ hv=>IHq.out v cs U hv);rw[e1]at hh;exact hh (zFk (zGl hV hk) (by omega))
  have h3:Hid (∀ V,Below w.heap.size w V→Calls Tryz.prog 65 #[.slice E3 ents.length d3,.func (.func 66) #[] #[]] V fun e w'=>e=.returned (.bool (ents.all okE))∧Below V.heap.size V w'):=xI fun V hV=>all9 q _ eg2 okE E3 d3 ents V (xI fun e cs U _ he=>zNy q IHq e cs U he) (zGu hV he);have HR:Hid (y=((zAi labs&&usesB t0 t1 tx kids keys ents&&kindB t0 t1 tx kids keys ents)&&kids.all okV&&ents.all okE)):=xI (by rw[←hy,okV,zAn,zAx]);have HK:=xI hk;have HKL:=xI (aN hkl hk.cap);generalize (zAi labs&&usesB t0 t1 tx kids keys ents&&kindB t0 t1 tx kids keys ents)=z1 at h1 HR;generalize ents.all okE=z3 at h3 HR;have HB:=xI hb;have K1:=xI k1;have HQ:=xI hq;obtain⟨q0,q1,q2,q3,q4,q5,q6⟩:=zAd k1;clear hk hyk he hl hb eg eg2 IH IHq wf3 hkl hy k1 hq;generalize hn:kids.length=n at *;have HN:=xI hn;clear hn;go_wp2_with (go_at_call 64;refine h1.mono ?_;rintro e w1 ⟨rfl,hb1⟩;refine Hid.out ?_);refine xI ?_;have HB1:=xI (HB.out.trans (hb1.mono HB.out.size));cases z1
  ·have HU:Hid (y=false):=xI (by rw[HR.out];rfl);clear hb1 h1;go_wp2;go_ret;exact⟨zAb HU.out.symm,HB1.out⟩
  have KA1:Hid (w1.heap[w.heap.size]?=some (.cells #[.int .i64 t0,.int .i64 t1,.string ⟨tx.toArray⟩,.slice E1 n d1,.slice E2 keys.length d2,.slice E3 ents.length d3,.slice E4 labs.length d4] 27 (0,0))):=xI ((hb1.block _ (by omega)).trans K1.out);have hz1:w.heap.size<w1.heap.size:=Nat.lt_of_lt_of_le hz hb1.size;clear h1 q0 q1 q2 q3 q4 q5 q6 hb1 hz;have q5:w1.cell? ⟨w.heap.size,5,none⟩=some (.slice E3 ents.length d3):=cH KA1.out 5;go_wp2_with (go_at_call 65;refine (h3.out _ HB1.out).mono ?_;rintro e w2 ⟨rfl,hb2⟩;refine Hid.out ?_);refine xI ?_;have HB2:=xI (HB1.out.trans (hb2.mono HB1.out.size));cases z3
  ·have HU:Hid (y=false):=xI (by rw[HR.out];simp);clear hb2;go_wp2;go_ret;exact⟨zAb HU.out.symm,HB2.out⟩
  have KA2:Hid (w2.heap[w.heap.size]?=some (.cells #[.int .i64 t0,.int .i64 t1,.string ⟨tx.toArray⟩,.slice E1 n d1,.slice E2 keys.length d2,.slice E3 ents.length d3,.slice E4 labs.length d4] 27 (0,0))):=xI ((hb2.block _ (by omega)).trans KA1.out);have hz2:w.heap.size<w2.heap.size:=Nat.lt_of_lt_of_le hz1 hb2.size;clear q5 hb2 hz1;have q3:w2.cell? ⟨w.heap.size,3,none⟩=some (.slice E1 n d1):=cH KA2.out 3;by_cases hn0:n=0
  ·subst hn0;have HU:Hid (y=true):=xI (by rw[HR.out,List.eq_nil_of_length_eq_zero HN.out];rfl);have hw0:wrap64 (-1)=-1:=by unfold wrap64;omega
   go_wp2;go_ret;exact⟨zAb HU.out.symm,HB2.out⟩
  obtain⟨m,hm⟩:∃ m,n=m+1:=⟨n-1,by omega⟩;obtain⟨bx,ox,_,x0,x1,x2,x3,x4,x5,x6,hux,hbx,⟨x,hx,hvx⟩,c0,c1,c2,c3,c4,c5,c6⟩:=RowB.at7 (j:=m) HK.out (by have:=HN.out;omega);injection hux with g1 g2 g3;subst g1;clear g2 g3;obtain⟨a0,a1,a2,P1,e1,f1,P2,e2,f2,P3,e3,f3,P4,e4,f4,hfx⟩:=hvx.form7;simp only[List.cons.injEq,and_true]at hfx;obtain⟨rfl,rfl,rfl,rfl,rfl,rfl,rfl⟩:=hfx;have HX:Hid (∀ V,Below w.heap.size w V→V.cell? ⟨bx,ox+m*7,none⟩=some (.int .i64 a0)∧V.cell? ⟨bx,ox+m*7+1,none⟩=some (.int .i64 a1)∧V.cell? ⟨bx,ox+m*7+2,none⟩=some (.string a2)∧V.cell? ⟨bx,ox+m*7+3,none⟩=some (.slice P1 e1 f1)∧V.cell? ⟨bx,ox+m*7+4,none⟩=some (.slice P2 e2 f2)∧V.cell? ⟨bx,ox+m*7+5,none⟩=some (.slice P3 e3 f3)∧V.cell? ⟨bx,ox+m*7+6,none⟩=some (.slice P4 e4 f4)):=xI fun V hV=>⟨(hV.cell (p:=⟨bx,_,none⟩) hbx).trans c0,(hV.cell (p:=⟨bx,_,none⟩) hbx).trans c1,(hV.cell (p:=⟨bx,_,none⟩) hbx).trans c2,(hV.cell (p:=⟨bx,_,none⟩) hbx).trans c3,(hV.cell (p:=⟨bx,_,none⟩) hbx).trans c4,(hV.cell (p:=⟨bx,_,none⟩) hbx).trans c5,(hV.cell (p:=⟨bx,_,none⟩) hbx).trans c6⟩;have HVX:=xI hvx;have hcc:=h2.out m hm _ HB2.out;have HZ:Hid (y=((kids.take m).all okV&&okV x)):=xI (by
   have e2:kids=kids.take m++[x]:=by
    have:kids.take (m+1)=kids.take m++[x]:=by rw[List.take_add_one,hx];rfl
    rw[←this,List.take_of_length_le (by have:=HN.out;omega)]
   rw[HR.out]
   conv=>lhs;rw[e2]
   rw[List.all_append];simp)
  generalize (kids.take m).all okV=z2 at hcc HZ;have hm1:m≤d1:=by have:=HKL.out.2;omega
  have hmm:(n:Int)-1=(m:Int):=by omega
  have hm3:(m:Int)<(n:Int):=by omega
  have hm2:decide ((m:Int)<0)=false:=by simp
  have hwm:wrap64 (m:Int)=(m:Int):=by have:=HKL.out.1;unfold wrap64;unfold maxLen at this;omega
  clear hn0 hm hx hbx hvx c0 c1 c2 c3 c4 c5 c6 HR h2;go_wp2_with (go_at_call 67;refine hcc.mono ?_;rintro e w3 ⟨rfl,hb3⟩;refine Hid.out ?_);refine xI ?_;have HB3:=xI (HB2.out.trans (hb3.mono HB2.out.size));cases z2
  ·have HU:Hid (y=false):=xI (by rw[HZ.out];rfl);clear hb3;go_wp2;go_ret;exact⟨zAb HU.out.symm,HB3.out⟩
  have k3:w3.heap[w.heap.size]?=some (.cells #[.int .i64 t0,.int .i64 t1,.string ⟨tx.toArray⟩,.slice (some ⟨bx,ox,none⟩) n d1,.slice E2 keys.length d2,.slice E3 ents.length d3,.slice E4 labs.length d4] 27 (0,0)):=(hb3.block _ (by omega)).trans KA2.out;have hz3:w.heap.size<w3.heap.size:=Nat.lt_of_lt_of_le hz2 hb3.size;obtain⟨x0,x1,x2,x3,x4,x5,x6⟩:=HX.out _ HB3.out;clear hb3 q3 hz2 hcc;obtain⟨q0,q1,q2,q3,q4,q5,q6⟩:=zAd k3;obtain⟨zq0,zq1,zq2,zq3,zq4,zq5,zq6⟩:=zAe k3;go_wp2_with fail;obtain⟨V,hV⟩:∃ V,V=(((((((w3.setCell ⟨w.heap.size,0,none⟩ (.int .i64 a0)).setCell ⟨w.heap.size,1,none⟩ (.int .i64 a1)).setCell ⟨w.heap.size,2,none⟩ (.string a2)).setCell ⟨w.heap.size,3,none⟩ (.slice P1 e1 f1)).setCell ⟨w.heap.size,4,none⟩ (.slice P2 e2 f2)).setCell ⟨w.heap.size,5,none⟩ (.slice P3 e3 f3)).setCell ⟨w.heap.size,6,none⟩ (.slice P4 e4 f4)):=⟨_,rfl⟩;rw[←hV];have ho:V.heap[w.heap.size]?=some (.cells #[.int .i64 a0,.int .i64 a1,.string a2,.slice P1 e1 f1,.slice P2 e2 f2,.slice P3 e3 f3,.slice P4 e4 f4] 27 (0,0)):=by rw[hV];exact obj7 k3 (.int .i64 a0) (.int .i64 a1) (.string a2) (.slice P1 e1 f1) (.slice P2 e2 f2) (.slice P3 e3 f3) (.slice P4 e4 f4)
  have hbV:Below w.heap.size w V:=by rw[hV];exact bel7 HB3.out (.int .i64 a0) (.int .i64 a1) (.string a2) (.slice P1 e1 f1) (.slice P2 e2 f2) (.slice P3 e3 f3) (.slice P4 e4 f4)
  have hzV:w.heap.size<V.heap.size:=by rw[hV];simpa using hz3
  clear hV
  go_roundg q
  case measure=>omega
  case rel=>
   exact⟨x,a0,a1,a2,P1,e1,f1,P2,e2,f2,P3,e3,f3,P4,e4,f4,by have:=HQ.out;omega,ho,HVX.out,by have:=HZ.out;simpa using this.symm,hbV,hzV⟩
theorem zFz (k:Nat) (v:Vl) (cs:List Value) (w:World) (h:VS k w w.heap.size v cs):Calls Tryz.prog 16 #[.agg cs.toArray] w fun e w'=>e=.returned (.int .i64 (if okV v then 0 else 1))∧Below w.heap.size w w':=by
 obtain⟨a,i,s,B1,n1,d1,B2,n2,d2,B3,n3,d3,B4,n4,d4,rfl⟩:=h.form7;obtain⟨W,hW⟩:∃ W,W=w.alloc (.cells #[.int .i64 a,.int .i64 i,.string s,.slice B1 n1 d1,.slice B2 n2 d2,.slice B3 n3 d3,.slice B4 n4 d4] 27):=⟨_,rfl⟩;have hbb:Below w.heap.size w W:=by rw[hW];exact bR.alloc lR _
 have hzz:w.heap.size<W.heap.size:=by rw[hW];simp
 have q0:W.cell? ⟨w.heap.size,0,none⟩=some (.int .i64 a):=by rw[hW];simp
 have q1:W.cell? ⟨w.heap.size,1,none⟩=some (.int .i64 i):=by rw[hW];simp
 have q2:W.cell? ⟨w.heap.size,2,none⟩=some (.string s):=by rw[hW];simp
 have q3:W.cell? ⟨w.heap.size,3,none⟩=some (.slice B1 n1 d1):=by rw[hW];simp
 have q4:W.cell? ⟨w.heap.size,4,none⟩=some (.slice B2 n2 d2):=by rw[hW];simp
 have q5:W.cell? ⟨w.heap.size,5,none⟩=some (.slice B3 n3 d3):=by rw[hW];simp
 have q6:W.cell? ⟨w.heap.size,6,none⟩=some (.slice B4 n4 d4):=by rw[hW];simp
 have HB:=xI hbb;have h1:=zK6 k v _ W (VS.up hbb.size lR (VS.on hbb h));generalize okV v=z at h1 ⊢;clear h hbb hzz;go_enter Tryz.func16,Tryz.ntmps16;go_wp2_with fail;rw[←hW];clear hW;go_wp2_with (go_at_call 26;refine h1.mono ?_;rintro e w1 ⟨rfl,hb1⟩;refine Hid.out ?_);refine xI ?_;cases z
 ·go_wp2;go_ret;exact⟨rfl,HB.out.trans (hb1.mono HB.out.size)⟩
 ·go_wp2;go_ret;exact⟨rfl,HB.out.trans (hb1.mono HB.out.size)⟩
theorem Wr.box9 {B b g:Nat}{w w':World}{cs:Array Value}(h:Wr B b w w') (hg:w.heap[g]?=some (.cells cs 45 (0,0))) (hb:g≠b):w'.heap[g]?=some (.cells cs 45 (0,0)):=
 h.2 g _ hg (by intro e;injection e with e;exact hb e) (by intro c fz e;injection e with _ e _;exact absurd e (by decide))
theorem zHv (k:Nat) (hP:Hid (zCh k)) (B b:Nat) (l:Bs) (ar:List Vl) (fa:Bool) (rs:Vl) (Aa:Option Addr) (ca:Nat) (rcs:List Value) (w:World) (h:BufW B b l w) (hR:RowP w B 7 (.slice Aa ar.length ca) ar.length (fun j cs=>∃ x,ar[j]?=some x∧VS k w B x cs)) (hv:VS k w B rs rcs)
  (hok:∀ x∈ar,okV x=true) (hor:fa=true∨okV rs=true) (hT:TbH B w) (hlim:l.length+(showE (.mk ar fa rs)).length≤140737488355328) :
  Calls Tryz.prog 34 #[.pointer (some ⟨b,0,none⟩),.agg (.slice Aa ar.length ca::.bool fa::rcs).toArray] w fun e w'=>e=.returned (.tuple #[])∧BufW B b (l++showE (.mk ar fa rs)) w'∧Wr B b w w':=by
 obtain⟨za,zi,zs,Z3,n3,y3,Z4,n4,y4,Z5,n5,y5,Z6,n6,y6,rfl⟩:=hv.form7;obtain⟨V,hV⟩:∃ V,V=w.alloc (.cells #[.slice Aa ar.length ca,.bool fa,.int .i64 za,.int .i64 zi,.string zs,.slice Z3 n3 y3,.slice Z4 n4 y4,.slice Z5 n5 y5,.slice Z6 n6 y6] 45):=⟨_,rfl⟩;have kV:V.heap[w.heap.size]?=some (.cells #[.slice Aa ar.length ca,.bool fa,.int .i64 za,.int .i64 zi,.string zs,.slice Z3 n3 y3,.slice Z4 n4 y4,.slice Z5 n5 y5,.slice Z6 n6 y6] 45 (0,0)):=by rw[hV];exact heap_alloc_new w _
 have hBV:BufW B b l V:=by rw[hV];exact h.alloc _
 have hWV:Wr B b w V:=by rw[hV];exact (Wr.refl B b w).alloc h.2 _
 have hne:w.heap.size≠b:=by have:=h.1.lt;omega
 have hsh:showE (.mk ar fa rs)=[40]++sepL zAc (ar.map showV)++[41,32,45,62,32]++(if fa then [33] else showV rs):=by rw[zCx];simp
 rw[hsh]at hlim ⊢;simp only[List.length_append]at hlim;have hc:=zEl k hP B b l [40] [41,32,45,62,32] ar Aa ca V hBV (hR.on hWV.1 fun _ _ ⟨x,h1,h2⟩=>⟨x,h1,VS.on hWV.1 h2⟩) hok (hT.below hWV.1) (by omega);have HC2:fa=false→Hid (∀ w1,BufW B b (l++[40]++sepL zAc (ar.map showV)++[41,32,45,62,32]) w1→Wr B b w w1→Calls Tryz.prog 17 #[.pointer (some ⟨b,0,none⟩),.agg #[.int .i64 za,.int .i64 zi,.string zs,.slice Z3 n3 y3,.slice Z4 n4 y4,.slice Z5 n5 y5,.slice Z6 n6 y6]] w1 fun e w'=>e=.returned (.tuple #[])∧BufW B b (l++[40]++sepL zAc (ar.map showV)++[41,32,45,62,32]++showV rs) w'∧Wr B b w1 w'):=fun hf=>xI fun w1 h1 hw=>
  hP.out B b _ rs _ w1 h1 (VS.on hw.1 hv) (hor.resolve_left (by rw[hf];decide)) (hT.below hw.1) (by rw[hf]at hlim;simp only[Bool.false_eq_true,if_false]at hlim;simp only[List.length_append];omega)
 have HC3:fa=true→Hid (∀ w1,BufW B b (l++[40]++sepL zAc (ar.map showV)++[41,32,45,62,32]) w1→Calls Tryz.prog 28 #[.pointer (some ⟨b,0,none⟩),.string ⟨#[33]⟩] w1 fun e w'=>e=.returned (.tuple #[.int .i64 1,.nilIface])∧BufW B b (l++[40]++sepL zAc (ar.map showV)++[41,32,45,62,32]++[33]) w'∧Wr B b w1 w'):=fun hf=>xI fun w1 h1=>
  bufW B b _ [33] w1 h1 (by rw[hf]at hlim;simp only[if_true]at hlim;simp only[List.length_append];omega)
 have HWV:=xI hWV;have HE:Hid (l++([40]++sepL zAc (ar.map showV)++[41,32,45,62,32]++(if fa then [33] else showV rs))=l++[40]++sepL zAc (ar.map showV)++[41,32,45,62,32]++(if fa then [33] else showV rs)):=xI (by simp);rw[HE.out];clear HE hsh hlim hBV hWV h hR hv hok hor hT;generalize l++[40]++sepL zAc (ar.map showV)++[41,32,45,62,32]=P at hc HC2 HC3 ⊢;go_enter Tryz.func34,Tryz.ntmps34;go_wp2_with fail;rw[←hV];clear hV;refine hc.mono ?_;rintro e w1 ⟨rfl,h1,hb1⟩;clear hc;have k1:=hb1.box9 kV hne;have HW1:=xI (HWV.out.trans hb1);have e1:w1.cell? ⟨w.heap.size,1,none⟩=some (.bool fa):=cH k1 1;have e2:w1.cell? ⟨w.heap.size,2,none⟩=some (.int .i64 za):=cH k1 2;have e3:w1.cell? ⟨w.heap.size,3,none⟩=some (.int .i64 zi):=cH k1 3;have e4:w1.cell? ⟨w.heap.size,4,none⟩=some (.string zs):=cH k1 4;have e5:w1.cell? ⟨w.heap.size,5,none⟩=some (.slice Z3 n3 y3):=cH k1 5;have e6:w1.cell? ⟨w.heap.size,6,none⟩=some (.slice Z4 n4 y4):=cH k1 6;have e7:w1.cell? ⟨w.heap.size,7,none⟩=some (.slice Z5 n5 y5):=cH k1 7;have e8:w1.cell? ⟨w.heap.size,8,none⟩=some (.slice Z6 n6 y6):=cH k1 8;clear k1 kV hb1;cases fa with
 | true=>
  have hc3:=(HC3 rfl).out w1 h1;clear HC2 HC3 h1;go_wp2_with fail;refine hc3.mono ?_;rintro e w2 ⟨rfl,h2,hb2⟩;clear hc3;go_wp2;refine bodyPost_ret (v:=.tuple #[]) (by simp[results,Tryz.results34,go_sem]) rfl ?_;exact⟨rfl,h2,HW1.out.trans hb2⟩
 | false=>
  have hc2:=(HC2 rfl).out w1 h1 HW1.out;clear HC2 HC3 h1;go_wp2_with fail;refine hc2.mono ?_;rintro e w2 ⟨rfl,h2,hb2⟩;clear hc2;go_wp2
  go_end0
  exact⟨rfl,h2,HW1.out.trans hb2⟩
theorem zIm (k:Nat) (hP:Hid (zCh k)) (B b:Nat) (l be en:Bs) (vs:List En) (A:Option Addr) (cap:Nat) (w:World) (h:BufW B b l w) (hR:RowP w B 9 (.slice A vs.length cap) vs.length (fun j cs=>∃ args fails result,vs[j]?=some (.mk args fails result)∧∃ ua rs,cs=ua::.bool fails::rs∧RowP w B 7 ua args.length (fun j cs=>∃ x,args[j]?=some x∧VS k w B x cs)∧VS k w B result rs)) (hok:∀ x∈vs,okE x=true) (hT:TbH B w)
  (hlim:l.length+be.length+(sepL zAc (vs.map showE)).length+en.length≤140737488355328) :
  Calls Tryz.prog 33 #[.pointer (some ⟨b,0,none⟩),.string ⟨be.toArray⟩,.slice A vs.length cap,.func (.func 34) #[] #[],.string ⟨en.toArray⟩] w fun e w'=>e=.returned (.tuple #[])∧BufW B b (l++be++sepL zAc (vs.map showE)++en) w'∧Wr B b w w':=by
 obtain⟨A0,cap0,hA0,hll⟩:=hR.form;clear hA0 A0 cap0;unfold maxLen at hll;have hc0:=bufW B b l be w h (by omega);have HR:=xI hR;have HLM:=xI hlim;have HOK:=xI hok;have HT:=xI hT;clear h hR hlim hok hT;go_enter Tryz.func33,Tryz.ntmps33;go_wp2_with fail;refine hc0.mono ?_;rintro e w0 ⟨rfl,h0,hb0⟩;have H0:=xI h0;have HB0:=xI hb0;clear hc0 h0 hb0;go_wp2_with fail
 go_loopw [17] (fun iv wr=>∃ j:Nat,iv=.int .i64 j∧j≤vs.length∧BufW B b (l++be++sepL zAc ((vs.map showE).take j)) wr∧Wr B b w wr) (fun iv _=>vs.length-(intOf iv).toNat)
 case atStart=>exact⟨0,rfl,by omega,by simpa [sepL] using H0.out,HB0.out⟩
 case round=>
  obtain⟨j,rfl,hj,hB,hb⟩:=hrel;by_cases hjn:j<vs.length
  ·obtain⟨bk,off,cp,ya,yb,x0,x1,x2,x3,x4,x5,x6,hu,hbk,⟨ar,fa,rs,hx,ua,rcs,hcse,har,hrs⟩,c0,c1,c2,c3,c4,c5,c6,c7,c8⟩:=(HR.out.on hb.1 (fun _ _ h=>h)).at9 hjn;injection hu with hA _ hcp;subst hA hcp;simp only[List.cons.injEq]at hcse;obtain⟨rfl,rfl,rfl⟩:=hcse;obtain⟨Aa,ca,rfl,_⟩:=har.form;obtain⟨za,zi,zs,Z3,n3,y3,Z4,n4,y4,Z5,n5,y5,Z6,n6,y6,he7⟩:=hrs.form7;simp only[List.cons.injEq,and_true]at he7;obtain⟨rfl,rfl,rfl,rfl,rfl,rfl,rfl⟩:=he7;have kn:(j:Int)<(vs.length:Int):=by omega
   have k0:(0:Int)≤(j:Int):=by omega
   have hxo:okE (.mk ar fa rs)=true:=HOK.out _ (List.mem_of_getElem? hx);simp only[okE,zAn,Bool.and_eq_true,Bool.or_eq_true,List.all_eq_true]at hxo;have hzx:(vs.map showE)[j]?=some (showE (.mk ar fa rs)):=by rw[List.getElem?_map,hx];rfl
   have hst:=zDu (s:=zAc) hzx;have hle:=zFi zAc (vs.map showE) j (by rw[List.length_map];exact hjn);rw[hst]at hle;simp only[List.length_append]at hle;have hlm:=HLM.out;obtain⟨V,hV⟩:∃ V,V=wr.alloc (.cells #[.slice Aa ar.length ca,.bool fa,.int .i64 za,.int .i64 zi,.string zs,.slice Z3 n3 y3,.slice Z4 n4 y4,.slice Z5 n5 y5,.slice Z6 n6 y6] 45):=⟨_,rfl⟩;have kV:V.heap[wr.heap.size]?=some (.cells #[.slice Aa ar.length ca,.bool fa,.int .i64 za,.int .i64 zi,.string zs,.slice Z3 n3 y3,.slice Z4 n4 y4,.slice Z5 n5 y5,.slice Z6 n6 y6] 45 (0,0)):=by rw[hV];exact heap_alloc_new wr _
   have hBV:BufW B b (l++be++sepL zAc ((vs.map showE).take j)) V:=by rw[hV];exact hB.alloc _
   have hWV:Wr B b w V:=by rw[hV];exact hb.alloc hB.2 _
   have hne:wr.heap.size≠b:=by have:=hB.1.lt;omega
   have HS:Hid (l++be++sepL zAc ((vs.map showE).take (j+1))=l++be++sepL zAc ((vs.map showE).take j)++preL zAc j++showE (.mk ar fa rs)):=xI (by rw[hst];simp);have HC2:Hid (∀ w1,BufW B b (l++be++sepL zAc ((vs.map showE).take j)++preL zAc j) w1→Wr B b w w1→Calls Tryz.prog 34 #[.pointer (some ⟨b,0,none⟩),.agg #[.slice Aa ar.length ca,.bool fa,.int .i64 za,.int .i64 zi,.string zs,.slice Z3 n3 y3,.slice Z4 n4 y4,.slice Z5 n5 y5,.slice Z6 n6 y6]] w1 fun e w'=>e=.returned (.tuple #[])∧BufW B b (l++be++sepL zAc ((vs.map showE).take j)++preL zAc j++showE (.mk ar fa rs)) w'∧Wr B b w1 w'):=xI fun w1 h1 hw=>
    zHv k hP B b _ ar fa rs Aa ca _ w1 h1 (har.on hw.1 fun _ _ ⟨x,h1,h2⟩=>⟨x,h1,VS.on hw.1 h2⟩) (VS.on hw.1 hrs) hxo.1 hxo.2 (HT.out.below hw.1) (by simp only[List.length_append];omega)
   have hlm2:(l++be++sepL zAc ((vs.map showE).take j)).length+(preL zAc j).length≤140737488355328:=by simp only[List.length_append];omega
   have HWV:=xI hWV;clear hst hle hlm hx har hrs hzx hb hB hWV hxo;generalize l++be++sepL zAc ((vs.map showE).take j)=P at hBV HS HC2 hlm2;by_cases h0:j=0
   ·subst h0;have hp:preL zAc 0=[]:=rfl;rw[hp]at HC2 HS;simp only[List.append_nil]at HC2 HS;simp only[Nat.zero_mul,Nat.add_zero]at c0 c1 c2 c3 c4 c5 c6 c7 c8;have hc2:=HC2.out V hBV HWV.out;clear HC2 hBV kV hlm2 hp;go_wp2_with fail;rw[←hV];clear hV;refine hc2.mono ?_;rintro e w2 ⟨rfl,h2,hb2⟩;clear hc2;go_wp2
    go_roundw
    case rel=>exact⟨1,by go_num,by omega,by rw[HS.out];exact h2,HWV.out.trans hb2⟩
    case measure=>simp[intOf];omega
   ·have hp:preL zAc j=[44,32]:=if_neg h0;have kp:(0:Int)<(j:Int):=by omega
    rw[hp]at HC2 HS hlm2;have hc1:=bufW B b P [44,32] V hBV hlm2;clear hBV hlm2 hp;go_wp2_with fail;rw[←hV];clear hV;refine hc1.mono ?_;rintro e w1 ⟨rfl,h1,hb1⟩;clear hc1;have k1:=hb1.box9 kV hne;have e0:w1.cell? ⟨wr.heap.size,0,none⟩=some (.slice Aa ar.length ca):=cH k1 0;have e1:w1.cell? ⟨wr.heap.size,1,none⟩=some (.bool fa):=cH k1 1;have e2:w1.cell? ⟨wr.heap.size,2,none⟩=some (.int .i64 za):=cH k1 2;have e3:w1.cell? ⟨wr.heap.size,3,none⟩=some (.int .i64 zi):=cH k1 3;have e4:w1.cell? ⟨wr.heap.size,4,none⟩=some (.string zs):=cH k1 4;have e5:w1.cell? ⟨wr.heap.size,5,none⟩=some (.slice Z3 n3 y3):=cH k1 5;have e6:w1.cell? ⟨wr.heap.size,6,none⟩=some (.slice Z4 n4 y4):=cH k1 6;have e7:w1.cell? ⟨wr.heap.size,7,none⟩=some (.slice Z5 n5 y5):=cH k1 7;have e8:w1.cell? ⟨wr.heap.size,8,none⟩=some (.slice Z6 n6 y6):=cH k1 8;have HW1:=xI (HWV.out.trans hb1);have hc2:=HC2.out w1 h1 HW1.out;clear HC2 h1 hb1 k1 kV c0 c1 c2 c3 c4 c5 c6 c7 c8;go_wp2_with fail;refine hc2.mono ?_;rintro e w2 ⟨rfl,h2,hb2⟩;clear hc2;go_wp2
    go_roundw
    case rel=>exact⟨j+1,by go_num,by omega,by rw[HS.out];exact h2,HW1.out.trans hb2⟩
    case measure=>simp[intOf];omega
  ·have hke:(vs.map showE).take j=vs.map showE:=List.take_of_length_le (by rw[List.length_map];omega);rw[hke]at hB;have hjn':¬ (j:Int)<(vs.length:Int):=by omega
   have hc1:=bufW B b _ en wr hB (by have:=HLM.out;simp only[List.length_append];omega);have HB:=xI hb;clear hB hke hb;go_wp2_with fail;refine hc1.mono ?_;rintro e w1 ⟨rfl,h1,hb1⟩;clear hc1;go_wp2
   go_end0
   exact⟨rfl,h1,HB.out.trans hb1⟩
def awS:Bs:=[102,117,110,47,49,123,40,49,41,32,45,62,32,33,44,32,40,50,41,32,45,62,32,91,111,107,32,124,32,91,93,64,40,66,41,93,125]
def awV:Vl:=.mk 9 1 [] [] [] [.mk [.mk 1 1 [] [] [] [] []] true zeroV,.mk [.mk 1 2 [] [] [] [] []] false (.mk 7 0 [] [.mk 3 0 [111,107] [] [] [] [],.mk 5 0 [] [] [] [] [[66]]] [] [] [])] []
theorem zRv:Lib.itoa 1=[49]:=by
 unfold Lib.itoa;rw[if_neg (by decide),show (1:Int).toNat=1 from rfl,Lib.decDigits];rfl
theorem zRu:Lib.itoa 2=[50]:=by
 unfold Lib.itoa;rw[if_neg (by decide),show (2:Int).toNat=2 from rfl,Lib.decDigits];rfl
theorem zLl:showV awV=awS:=by
 simp[awV,awS,showV,sh,shs,she,shes,labsL,sepL,zAc,consL,zRv,zRu]
theorem zQo:Fit 131072 awV:=by
 refine⟨by decide +kernel,by decide +kernel,by decide +kernel⟩
theorem zQf:zH6 131072 awS=some awV:=by
 rw[←zLl];exact zKw zQo
theorem zFy {α:Type}{l:List α}{f:α→Bool}(h:∀ j,j<l.length→∃ x,l[j]?=some x∧f x=true):l.all f=true:=by
 rw[List.all_eq_true];exact zDw h
theorem zRn {i:Int}(h:(Lit.int .i64 i).wf=true):i64B i=true:=by
 unfold i64B;simp[Lit.wf,IntKind.min,IntKind.max,IntKind.signed,IntKind.bits]at h;rw[decide_eq_true_iff];omega
theorem VB.rng {w:World}{B:Nat→Prop}:∀ {k:Nat}{v:Vl}{cs:List Value},VB k w B v cs→rngV v=true
 | 0,_,_,h=>h.elim
 | k+1,.mk kind int text kids keys ents labels,cs,h=>by
  obtain⟨uk,uy,ue,ul,h1,h2,h3,h4,h5,h6,h7,h8⟩:=h;simp only[rngV,zDf,zG6,Bool.and_eq_true];refine⟨⟨zRn h3,?_⟩,?_⟩
  ·refine zFy fun j hj=>?_;obtain⟨cs,x,hx,hv⟩:=h5.elem hj;exact⟨x,hx,VB.rng hv⟩
  ·refine zFy fun j hj=>?_;obtain⟨cs,args,fails,result,hx,ua,rs,hc,ha,hr⟩:=h7.elem hj;refine⟨_,hx,?_⟩;simp only[rngE,zDf,Bool.and_eq_true];refine⟨zFy fun i hi=>?_,VB.rng hr⟩;obtain⟨cs,x,hx,hv⟩:=ha.elem hi;exact⟨x,hx,VB.rng hv⟩
theorem VB.fit {w:World}{B:Nat→Prop}{k:Nat}{v:Vl}{cs:List Value}(h:VB k w B v cs) (ho:okV v=true):Fit k v:=⟨ho,h.rng,h.dep_le⟩
theorem zGk {s:Bs}:∀ {l:List Bs}{x:Bs},x∈l→x.length≤(sepL s l).length
 | [a],x,h=>by
  rw[List.mem_singleton]at h;subst h;exact Nat.le_refl _
 | a::b::r,x,h=>by
  have e:(sepL s (a::b::r)).length=a.length+s.length+(sepL s (b::r)).length:=by simp[sepL];omega
  rcases List.mem_cons.1 h with rfl|h
  ·omega
  ·have:=zGk (s:=s) h;omega
theorem zId {l:List Vl}(h:∀ x∈l,dep x≤(showV x).length) (s:Bs):depVs l≤(sepL s (l.map showV)).length:=
 zE5 fun x hx=>Nat.le_trans (h x hx) (zGk (List.mem_map.2 ⟨x,hx,rfl⟩))
theorem zD1:∀ (n:Nat) (v:Vl),Fit n v→dep v≤(bodyV v).length∧(zAj v=5∨zAj v=7→dep v≤(tlV v).length)
 | 0,v,h=>by obtain⟨m,hm⟩:=h.pos;omega
 | n+1,.mk k i t v y e l,h=>by
  have hp:=h.parts;obtain⟨u1,u2,u3,u4,u5⟩:=zH2 hp.uses;have hkid:∀ x∈v,dep x≤(showV x).length:=by
   intro x hx;have:=(zD1 n x (hp.kids x hx)).1;rw[zAg,List.length_append];omega
  have hb:dep (.mk k i t v y e l)≤(bodyV (.mk k i t v y e l)).length:=by
   have hpos:1≤(bodyV (.mk k i t v y e l)).length:=by
    obtain⟨c,q,e1,_⟩:=zKe h;rw[e1];simp
   have hd:dep (.mk k i t v y e l)=max (depVs v) (depEs e)+1:=by simp only[dep]
   have plain:v=[]→e=[]→dep (.mk k i t v y e l)≤(bodyV (.mk k i t v y e l)).length:=by
    rintro rfl rfl;rw[hd];simpa [depVs,depEs] using hpos
   rcases kinds hp.kind with rfl|rfl|rfl|rfl|rfl|rfl|rfl|rfl|rfl
   ·exact plain (by simpa using u3) (by simpa using u5)
   ·exact plain (by simpa using u3) (by simpa using u5)
   ·exact plain (by simpa using u3) (by simpa using u5)
   ·exact plain (by simpa using u3) (by simpa using u5)
   ·exact plain (by simpa using u3) (by simpa using u5)
   ·have e5:e=[]:=by simpa using u5
    subst e5;have eb:(bodyV (.mk 6 i t v y [] l)).length=(sepL zAc (v.map showV)).length+2:=by
     show (123::(sepL zAc (v.map showV)++[125])).length=_;simp
    have:=zId hkid zAc;rw[hd,eb];simp only[depEs];omega
   ·have e5:e=[]:=by simpa using u5
    subst e5;have hc:consB v=true:=hp.kind
    match v,hc,hp.kids,hkid,hd with
    | [a,b],hc,hkids,hkid,hd=>
     have hkb:zAj b=5∨zAj b=7:=by simpa [consB] using hc
     have h1:=hkid a (by simp);have h2:=(zD1 n b (hkids b (by simp))).2 hkb;have eb:(bodyV (.mk 7 i t [a,b] y [] l)).length=(showV a).length+(tlV b).length+1:=by
      show (91::consL (shs [a,b])).length=_;rw[zBs];simp
     rw[hd,eb];simp only[depVs,depEs];omega
   ·have e5:e=[]:=by simpa using u5
    subst e5;have hk:(y.all (fun x=>keyB x.1 x.2)&&decide (AscC cmpK y)&&decide (y.length=v.length))=true:=hp.kind;simp only[Bool.and_eq_true,decide_eq_true_eq]at hk;obtain⟨z1,z2⟩:=zCu y v hk.2;have eb:(bodyV (.mk 8 i t v y [] l)).length=(sepL zAc ((y.zip v).map fun x:(Int×Bs)×Vl=>keyL x.1.1 x.1.2++[58,32]++showV x.2)).length+3:=by
     show ([37,123]++(sepL zAc (List.zipWith (fun (x:Int×Bs) (z:Bs)=>keyL x.1 x.2++[58,32]++z) y (v.map showV))++[125])).length=_;rw[←zCb,z1,z2];simp
    have:depVs v≤(sepL zAc ((y.zip v).map fun x:(Int×Bs)×Vl=>keyL x.1.1 x.1.2++[58,32]++showV x.2)).length:=by
     refine zE5 fun x hx=>?_;rw[←z2,List.mem_map]at hx;obtain⟨z,hz,rfl⟩:=hx;have h1:=hkid z.2 (zEc hz).2;have h2:=zGk (s:=zAc) (List.mem_map (f:=fun x:(Int×Bs)×Vl=>keyL x.1.1 x.1.2++[58,32]++showV x.2) |>.2 ⟨z,hz,rfl⟩);simp only[List.length_append]at h2 ⊢;omega
    rw[hd,eb];simp only[depEs];omega
   ·have e3:v=[]:=by simpa using u3
    subst e3;have hk:(decide (0≤i∧i≤4)&&e.all (entB i)&&decide (AscC cmpE e))=true:=hp.kind;simp only[Bool.and_eq_true,List.all_eq_true]at hk;have eb:(bodyV (.mk 9 i t [] y e l)).length=6+(Lib.itoa i).length+(sepL zAc (e.map showE)).length:=by
     show ([102,117,110,47]++Lib.itoa i++[123]++(sepL zAc (e.map showE)++[125])).length=_;simp;omega
    have:depEs e≤(sepL zAc (e.map showE)).length:=by
     refine zI2 fun x hx=>?_;have h2:=zGk (s:=zAc) (List.mem_map.2 ⟨x,hx,rfl⟩:showE x∈_);refine Nat.le_trans ?_ h2;have hf:=hp.ents x hx;have hz:=hk.1.2 x hx;obtain⟨a,f,r⟩:=x;obtain⟨h3,h4⟩:=hf.args;have h5:=zId (l:=a) (fun x hx=>by
      have:=(zD1 n x (h3 x hx)).1;rw[zAg,List.length_append];omega) zAc
     rw[zCx];simp only[depE,List.length_cons,List.length_append,List.length_nil];have h6:dep r≤(if f=true then [33] else showV r).length:=by
      cases f with
      | true=>
       unfold entB at hz;simp only[zFr,resOf,zMi,Bool.not_true,Bool.false_or,Bool.and_eq_true]at hz;rw[zK5.1 hz.2];simp[zeroV,dep,depVs,depEs]
      | false=>
       have:=(zD1 n r (h4.resolve_left (by decide))).1;simp only[Bool.false_eq_true,if_false];rw[zAg,List.length_append];omega
     omega
    rw[hd,eb];simp only[depVs];omega
  refine⟨hb,fun hk=>?_⟩;rw[zD8];split
  ·rename_i hx;obtain⟨rfl,rfl⟩:=hx;have hc:consB v=true:=hp.kind
   match v,hc,hp.kids,hkid with
   | [a,b],hc,hkids,hkid=>
    have hkb:zAj b=5∨zAj b=7:=by simpa [consB] using hc
    have h1:=hkid a (by simp);have h2:=(zD1 n b (hkids b (by simp))).2 hkb;have e5:e=[]:=by simpa using u5
    subst e5;rw[zBs];simp only[dep,depVs,depEs,zAc,List.length_append,List.length_cons,List.length_nil];omega
  ·split
   ·rename_i hx;obtain⟨rfl,rfl⟩:=hx;have e3:v=[]:=by simpa using u3
    have e5:e=[]:=by simpa using u5
    subst e3 e5;simp[dep,depVs,depEs]
   ·rw[zAg];simp only[List.length_append];omega
theorem Fit.show {n:Nat}{v:Vl}(h:Fit n v):Fit (showV v).length v:=by
 refine⟨h.ok,h.rng,?_⟩;have:=(zD1 n v h).1;rw[zAg,List.length_append];omega
/-! ### Completeness -/
end Go.Proofs.YtcjgaohblaidjaaGreatDoor
