/- What FormatValue of the document returns: the notation of a valid value, the empty string for others. Conditions: the table of powers of ten is laid; the notation has at most 2^62 bytes. -/
import Derived.Test.YtcjgaohblaidjaaGreatDoorVgZ
import Derived.Test.YtcjgaohblaidjaaGreatDoorVg25
import Derived.Test.YtcjgaohblaidjaaGreatDoorVg27
set_option maxRecDepth 100000
set_option maxHeartbeats 1600000
namespace Go.Proofs.YtcjgaohblaidjaaGreatDoor
open Go Go.RowKit
theorem zEv (k:Nat) (v:Vl) (cs:List Value) (w:World) (hv:VS k w w.heap.size v cs) (hT:Tb w) (hlim:okV v=true→(showV v).length≤LIM) :
  Calls Tryz.prog 11 #[.agg cs.toArray] w fun e w'=>e=.returned (.string ⟨(if okV v=true then showV v else []).toArray⟩)∧Below w.heap.size w w':=by
 obtain⟨a,i,s,B1,n1,d1,B2,n2,d2,B3,n3,d3,B4,n4,d4,rfl⟩:=hv.form7;obtain⟨W,hW⟩:∃ W,W=w.alloc (.cells #[.int .i64 a,.int .i64 i,.string s,.slice B1 n1 d1,.slice B2 n2 d2,.slice B3 n3 d3,.slice B4 n4 d4] 27):=⟨_,rfl⟩;have hbW:Below w.heap.size w W:=by rw[hW];exact bR.alloc lR _
 have kW:W.heap[w.heap.size]?=some (.cells #[.int .i64 a,.int .i64 i,.string s,.slice B1 n1 d1,.slice B2 n2 d2,.slice B3 n3 d3,.slice B4 n4 d4] 27 (0,0)):=by rw[hW];exact heap_alloc_new w _
 have hva:=zJo (xI zKp) k v _ W (VS.up hbW.size lR (VS.on hbW hv));have HB:=xI hbW;have HK:=xI kW;have HV:=xI hv;have HT:=xI hT;have HL:=xI hlim;clear hbW kW hv hT hlim;cases hok:okV v with
 | false=>
  rw[hok]at hva;clear hok;go_enter Tryz.func11,Tryz.ntmps11;go_wp2_with fail;rw[←hW];clear hW;refine hva.mono ?_;rintro e w1 ⟨rfl,hb1⟩;clear hva;have HB1:=xI (HB.out.trans (hb1.mono HB.out.size));clear hb1;go_wp2;go_ret;exact⟨rfl,HB1.out⟩
 | true=>
  rw[hok]at hva;have HOK:=xI hok;clear hok;go_enter Tryz.func11,Tryz.ntmps11;go_wp2_with fail;rw[←hW];clear hW;refine hva.mono ?_;rintro e w1 ⟨rfl,hb1⟩;clear hva;have hbw1:=HB.out.trans (hb1.mono HB.out.size);have k1:=(hb1.block _ (Array.getElem?_eq_some_iff.1 HK.out).1).trans HK.out;have hsh:=zLu k v _ w1 (VS.up hbw1.size lR (VS.on hbw1 HV.out)) HOK.out (HL.out HOK.out) (HT.out.below lR hbw1);obtain⟨e0,e1,e2,e3,e4,e5,e6⟩:=zAd k1;have HB1:=xI hbw1;clear hb1 hbw1 k1;go_wp2_with fail;refine hsh.mono ?_;rintro e w2 ⟨rfl,hb2⟩;clear hsh e0 e1 e2 e3 e4 e5 e6;have HB2:=xI (HB1.out.trans (hb2.mono HB1.out.size));clear hb2;go_wp2;go_ret;exact⟨rfl,HB2.out⟩
end Go.Proofs.YtcjgaohblaidjaaGreatDoor
