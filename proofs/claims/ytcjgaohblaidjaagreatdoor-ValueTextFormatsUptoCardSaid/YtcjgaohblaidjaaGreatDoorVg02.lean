/- What shows of the document returns. Condition: the table of powers of ten is laid. -/
import Derived.Test.YtcjgaohblaidjaaGreatDoorVgZ
import Derived.Test.YtcjgaohblaidjaaGreatDoorVg00
import Derived.Test.YtcjgaohblaidjaaGreatDoorVg01
import Derived.Test.YtcjgaohblaidjaaGreatDoorProg
import Derived.WalkKit
import Derived.Lib.Hide
import Derived.Lib.LaidTab
import Derived.BigFrame
import Derived.BigQuiet
import Derived.Deep.LoopGhost
import Derived.Deep.RegionHeld3
import Derived.Lib.Builder
import Derived.Test.YtcjgaohblaidjaaGreatDoorVgShelf
import Derived.WalkSpells
import Derived.WalkLawsBesides
import Derived.Outline
import Derived.Sort.Walk0
import Derived.Lib.SlicesCompact
set_option maxRecDepth 100000
set_option maxHeartbeats 3200000
namespace Go.Proofs.YtcjgaohblaidjaaGreatDoor
open Go Go.RowKit
def Tb (w:World):Prop:=Lib.TabIs Tryz.prog w "internal/strconv.uint64pow10" .u64 Lib.pow10Tab
theorem Tb.below {w w':World}{H:Nat}(h:Tb w) (hH:w.heap.size≤H) (hb:Below H w w'):Tb w':=by
 unfold Tb Lib.TabIs World.var? at *;cases hg:Program.globalNamed Tryz.prog "internal/strconv.uint64pow10" with
 | none=>simp[hg]at h
 | some g=>
  simp only[hg,Option.bind_some]at h ⊢;have hlt:g<w.heap.size:=by
   rcases Nat.lt_or_ge g w.heap.size with h'|h'
   ·exact h'
   ·rw[Array.getElem?_eq_none h']at h;simp at h
  rw[hb.block g (Nat.lt_of_lt_of_le hlt hH)];exact h
theorem zIu {l:List Vl}{x:Vl}{j:Nat}(h:l[j]?=some x):sepL zAc ((l.take (j+1)).map showV)=sepL zAc ((l.take j).map showV)++preL zAc j++showV x:=by
 have hj:=(List.getElem?_eq_some_iff.1 h).1;rw[List.take_add_one,h];simp only[Option.toList_some,List.map_append,List.map_cons,List.map_nil];rw[zEs,List.length_map,List.length_take,Nat.min_eq_left (by omega)]
theorem add_b (P:Program) (x y:Bs) (h:x.length+y.length≤9223372036854775807) (W:World):(Op.stringOp .add ⟨x.toArray⟩ ⟨y.toArray⟩).run P W=.ok (.string ⟨(x++y).toArray⟩) W:=by
 rw[run_string_add_sum W _ _ (by simp only[ByteArray.size,List.size_toArray];omega),ByteArray.mk_append_mk]
theorem zLx (l:List Vl) (j:Nat) (hj:j<l.length):(sepL zAc ((l.take (j+1)).map showV)).length≤(sepL zAc (l.map showV)).length:=by
 induction h:l.length-(j+1) generalizing j with
 | zero=>rw[List.take_of_length_le (by omega)];exact Nat.le_refl _
 | succ n ih=>
  have h1:=ih (j+1) (by omega) (by omega);have h2:=zIu (List.getElem?_eq_getElem (l:=l) (i:=j+1) (by omega));rw[h2]at h1;simp only[List.length_append]at h1;omega
def LIM:Nat:=4611686018427387904
def ShowR (k:Nat):Prop:=∀ (v:Vl) (cs:List Value) (w:World),VS k w w.heap.size v cs→okV v=true→(showV v).length≤LIM→Tb w→Calls Tryz.prog 20 #[.agg cs.toArray] w fun e w'=>e=.returned (.string ⟨(showV v).toArray⟩)∧Below w.heap.size w w'
theorem zJk (k:Nat) (hP:Hid (ShowR k)) (A:Option Addr) (cap:Nat) (l:List Vl) (w:World) (hl:RowP w w.heap.size 7 (.slice A l.length cap) l.length (fun j cs=>∃ x,l[j]?=some x∧VS k w w.heap.size x cs)) (hok:∀ x∈l,okV x=true) (hlm:(sepL zAc (l.map showV)).length≤LIM) (hT:Tb w) :
  Calls Tryz.prog 39 #[.slice A l.length cap] w fun e w'=>e=.returned (.string ⟨(sepL zAc (l.map showV)).toArray⟩)∧Below w.heap.size w w':=by
 obtain⟨A0,cap0,hA0,hll⟩:=hl.form;clear hA0 A0 cap0;unfold maxLen at hll;have HL:=xI hl;have HOK:=xI hok;have HT:=xI hT;have HLM:=xI hlm;clear hl hok hT hlm;go_enter Tryz.func39,Tryz.ntmps39;go_wp2_with fail
 go_loopw [3,4] (fun s i wr=>∃ j:Nat,i=.int .i64 j∧j≤l.length∧s=.string ⟨(sepL zAc ((l.take j).map showV)).toArray⟩∧Below w.heap.size w wr) (fun _ i _=>l.length-(intOf i).toNat)
 case atStart=>exact⟨0,rfl,by omega,by simp[sepL],Below.refl _ _⟩
 case round=>
  obtain⟨j,rfl,hj,rfl,hb⟩:=hrel;by_cases hjn:j<l.length
  ·obtain⟨b,off,cap0,x0,x1,x2,x3,x4,x5,x6,hu,hbH,⟨x,hx,hv⟩,c0,c1,c2,c3,c4,c5,c6⟩:=(HL.out.on hb (fun _ _ h=>h)).at7 hjn;injection hu with hA _ hcap;subst hA hcap;have hxo:okV x=true:=HOK.out x (List.mem_of_getElem? hx);have kn:(j:Int)<(l.length:Int):=by omega
   have k0:(0:Int)≤(j:Int):=by omega
   have hst:=zIu hx;have hle:=zLx l j hjn;rw[hst]at hle;have hle2:=Nat.le_trans hle HLM.out;have hc:=hP.out x _ wr (VS.up hb.size lR (VS.on hb hv)) hxo (by simp only[List.length_append]at hle2;omega) (HT.out.below lR hb);have HB:=xI hb;clear hx hv hb hxo hle;generalize sepL zAc ((l.take j).map showV)=q at hst hle2 ⊢;generalize showV x=z at hst hle2 hc;unfold LIM at hle2;have hl2:q.length+(preL zAc j).length+z.length≤4611686018427387904:=by simp only[List.length_append]at hle2;omega
   clear hle2;by_cases h0:j=0
   ·subst h0;have hA:=add_b Tryz.prog q z (by omega);have HS:Hid (sepL zAc ((l.take 1).map showV)=q++z):=xI (by rw[hst];simp[preL]);simp only[Nat.zero_mul,Nat.add_zero]at c0 c1 c2 c3 c4 c5 c6;have HL2:=xI hl2;clear hst hl2;go_wp2_with fail;refine hc.mono ?_;rintro e w1 ⟨rfl,hb1⟩;refine Hid.out ?_;refine xI ?_;clear hc;go_wp2
    go_roundw
    case rel=>exact⟨1,by go_num,by omega,by rw[HS.out],HB.out.trans (hb1.mono HB.out.size)⟩
    case measure=>simp[intOf];omega
   ·have kp:(0:Int)<(j:Int):=by omega
    have hp:preL zAc j=[44,32]:=if_neg h0;rw[hp]at hst hl2;simp only[List.length_cons,List.length_nil]at hl2;have hA1:=add_b Tryz.prog q [44,32] (by simp;omega);have hA2:=add_b Tryz.prog (q++[44,32]) z (by simp;omega);have HS:=xI hst;have HL2:=xI hl2;clear hst hl2 hp;go_wp2_with fail;refine hc.mono ?_;rintro e w1 ⟨rfl,hb1⟩;refine Hid.out ?_;refine xI ?_;clear hc;go_wp2
    go_roundw
    case rel=>exact⟨j+1,by go_num,by omega,by rw[HS.out];simp,HB.out.trans (hb1.mono HB.out.size)⟩
    case measure=>simp[intOf];omega
  ·have hke:l.take j=l:=List.take_of_length_le (by omega);rw[hke];go_wp2;go_ret;exact⟨rfl,hb⟩
end Go.Proofs.YtcjgaohblaidjaaGreatDoor
namespace Go.Proofs.YtcjgaohblaidjaaGreatDoor
open Go
def nthOp:List Oper→Nat→Option Oper
 | [],_=>none
 | o::_,0=>some o
 | _::l,n+1=>nthOp l n
theorem zL1:∀ (l:List Oper) (i:Nat),l[i]?=nthOp l i
 | [],_=>by simp[nthOp]
 | _::_,0=>by simp[nthOp]
 | _::l,n+1=>by simpa [nthOp] using zL1 l n
theorem op_at {l:List Oper}{i:Nat}{o:Oper}(h:nthOp l i=some o):l.toArray[i]?=some o:=by
 rw[List.getElem?_toArray,zL1];exact h
theorem zAh {P:Program}{md:Region.Mode}{l:List Oper}{Q:Exit→Act→World→Prop}{S:World→Prop}{i:Nat}{oi:Oper}{v:Value}{fuel:Nat}{listed:Array Bool}{a:Act}{w:World}(hi:nthOp l i=some oi)
  (hs:Region.noSelect l.toArray=true) (hf:Region.free md l.toArray listed i=true) (hr:(Region.ready md l.toArray listed).contains i=true)
  (hQ:∀ c a w,Q (.panic c) (a.put oi.dst v) w→Q (.panic c) a w) (hy:YieldsIf P l.toArray S oi v a) (hS:S w)
  (h:wpAnyH P md l.toArray Q S fuel (listed.setIfInBounds i true) (a.put oi.dst v) w):wpAnyH P md l.toArray Q S (fuel+1) listed a w:=
 wpAnyH_take (op_at hi) hs hf hr hQ hy hS h
theorem tk {P:Program}{md:Region.Mode}{l:List Oper}{Q:Exit→Act→World→Prop}{S:World→Prop}(i:Nat){oi:Oper}{v:Value}{fuel:Nat}{listed:Array Bool}{a:Act}{w:World}(hS:S w)
  (h:wpAnyH P md l.toArray Q S fuel (listed.setIfInBounds i true) (a.put oi.dst v) w)
  (hi:nthOp l i=some oi:=by exact rfl) (hs:Region.noSelect l.toArray=true:=by kernel_rfl) (hf:Region.free md l.toArray listed i=true:=by kernel_rfl) (hr:(Region.ready md l.toArray listed).contains i=true:=by kernel_rfl)
  (hQ:∀ c a w,Q (.panic c) (a.put oi.dst v) w→Q (.panic c) a w:=by exact fun _ _ _ h=>h) (hy:YieldsIf P l.toArray S oi v a:=by exact Or.inl ⟨by rfl,(by intro w hSw;(try dsimp only at hSw);go_simp;try with_reducible rfl)⟩):wpAnyH P md l.toArray Q S (fuel+1) listed a w:=
 zAh hi hs hf hr hQ hy hS h
theorem tu {P:Program}{md:Region.Mode}{l:List Oper}{Q:Exit→Act→World→Prop}{S:World→Prop}(i:Nat){oi:Oper}{fuel:Nat}{listed:Array Bool}{a:Act}{w:World}(hS:S w)
  (h:wpAnyH P md l.toArray Q S fuel (listed.setIfInBounds i true) (a.put oi.dst undef) w)
  (hi:nthOp l i=some oi:=by exact rfl) (hs:Region.noSelect l.toArray=true:=by kernel_rfl) (hf:Region.free md l.toArray listed i=true:=by kernel_rfl) (hr:(Region.ready md l.toArray listed).contains i=true:=by kernel_rfl)
  (hQ:∀ c a w,Q (.panic c) (a.put oi.dst undef) w→Q (.panic c) a w:=by exact fun _ _ _ h=>h) (hy:YieldsIf P l.toArray S oi undef a:=by exact Or.inr ⟨by rfl,rfl⟩):wpAnyH P md l.toArray Q S (fuel+1) listed a w:=
 zAh hi hs hf hr hQ hy hS h
theorem pA {α:Type}(l:List α) (i:Nat) (a:α):l.toArray.setIfInBounds i a=(l.set i a).toArray:=List.setIfInBounds_toArray ..
theorem pB {α:Type}(x:α) (l:List α) (a:α):(x::l).set 0 a=a::l:=rfl
theorem pC {α:Type}(x:α) (l:List α) (n:Nat) (a:α):(x::l).set (n+1) a=x::l.set n a:=rfl
theorem ts {P:Program}{md:Region.Mode}{l:List Oper}{Q:Exit→Act→World→Prop}{S:World→Prop}{j:Nat}{oi:Oper}{v:Value}{fuel:Nat}{listed:Array Bool}{a:Act}{w:World}(hS:S w) (h:wpAnyH P md l.toArray Q S fuel ((listed.setIfInBounds j true).setIfInBounds (j+1) true) (a.put oi.dst v) w) (hi:nthOp l (j+1)=some oi:=by exact rfl) (hs:Region.noSelect l.toArray=true:=by kernel_rfl) (hf:Region.free md l.toArray (listed.setIfInBounds j true) (j+1)=true:=by kernel_rfl) (hr:(Region.ready md l.toArray (listed.setIfInBounds j true)).contains (j+1)=true:=by kernel_rfl) (hQ:∀ c a w,Q (.panic c) (a.put oi.dst v) w→Q (.panic c) a w:=by exact fun _ _ _ h=>h) (hy:YieldsIf P l.toArray S oi v a:=by exact Or.inl ⟨by rfl,(by intro w hSw;(try dsimp only at hSw);go_simp;try with_reducible rfl)⟩):wpAnyH P md l.toArray Q S (fuel+1) (listed.setIfInBounds j true) a w:=
  zAh hi hs hf hr hQ hy hS h
theorem zAu {P:Program}{l:List Oper}{Q:Exit→Act→World→Prop}{i:Nat}{o:Oper}{K:Act→World→Prop}{a:Act}{w:World}(ho:nthOp l i=some o) (hw:Region.wanted o (yielded l.toArray a.tmps)=true)
  (h:∀ K':Act→World→Prop,(∀ a w,K a w→K' a w)→Oper.wp P o a w K' Q):wpOp P l.toArray Q i K a w:=
 wpOp_step (op_at ho) fun K' hK=>by rw[if_pos hw];exact h K' hK
theorem zRs {P:Program}{md:Region.Mode}{l:List Oper}{Q:Exit→Act→World→Prop}{S:World→Prop}(i:Nat){o:Oper}{fuel:Nat}{listed:Array Bool}{a:Act}{w:World}(hr:Region.ready md l.toArray listed=[i]) (ho:nthOp l i=some o)
  (hw:Region.wanted o (yielded l.toArray a.tmps)=true) (h:∀ K':Act→World→Prop,(∀ a' w',S w'→wpAnyH P md l.toArray Q S fuel (listed.setIfInBounds i true) a' w'→K' a' w')→Oper.wp P o a w K' Q):wpAnyH P md l.toArray Q S (fuel+1) listed a w:=by
 refine wpAnyH_all (rs:=[i]) hr (by simp) fun j hj=>?_;obtain rfl:j=i:=by simpa using hj
 exact zAu ho hw fun K' hK=>h K' fun a w hS hW=>hK a w ⟨hS,hW⟩
theorem oO {P:Program}{md:Region.Mode}{l:List Oper}{Q:Exit→Act→World→Prop}{S:World→Prop}(i:Nat){o:Oper}{fuel:Nat}{listed:Array Bool}{a:Act}{w:World}(h:∀ K':Act→World→Prop,(∀ a' w',S w'→wpAnyH P md l.toArray Q S fuel (listed.setIfInBounds i true) a' w'→K' a' w')→Oper.wp P o a w K' Q) (hr:Region.ready md l.toArray listed=[i]:=by kernel_rfl) (ho:nthOp l i=some o:=by exact rfl) (hw:Region.wanted o (yielded l.toArray a.tmps)=true:=by rfl):wpAnyH P md l.toArray Q S (fuel+1) listed a w:=
 zRs i hr ho hw h
theorem wD {P:Program}{md:Region.Mode}{ops:Array Oper}{Q:Exit→Act→World→Prop}{S:World→Prop}{listed:Array Bool}{a:Act}{w:World}(h:Q .normal a w) (hr:Region.ready md ops listed=[]:=by kernel_rfl) (fuel:Nat):wpAnyH P md ops Q S fuel listed a w:=wpAnyH_done hr h fuel
end Go.Proofs.YtcjgaohblaidjaaGreatDoor
namespace Go.Proofs.YtcjgaohblaidjaaGreatDoor
open Go Go.RowKit
theorem zHq:∀ {p q:List Vl}(l m:List Vl),p.length=q.length→cmpVs (p++l) (q++m)=thn (cmpVs p q) (cmpVs l m)
 | [],[],l,m,_=>by simp[cmpVs,thn]
 | a::p,b::q,l,m,h=>by
  simp only[List.cons_append,cmpVs,zHq l m (show p.length=q.length by simpa using h),zA9]
theorem zNb {l m:List Vl}{j:Nat}{x y:Vl}(hx:l[j]?=some x) (hy:m[j]?=some y) (h0:cmpVs (l.take j) (m.take j)=0) :
  (cmpV x y≠0→cmpVs l m=cmpV x y)∧(cmpV x y=0→cmpVs (l.take (j+1)) (m.take (j+1))=0):=by
 have hjl:=(List.getElem?_eq_some_iff.1 hx).1;have hjm:=(List.getElem?_eq_some_iff.1 hy).1;have e1:l.take (j+1)=l.take j++[x]:=by rw[List.take_add_one,hx];rfl
 have e2:m.take (j+1)=m.take j++[y]:=by rw[List.take_add_one,hy];rfl
 have hlen:(l.take j).length=(m.take j).length:=by rw[List.length_take,List.length_take];omega
 have h1:cmpVs (l.take (j+1)) (m.take (j+1))=cmpV x y:=by
  rw[e1,e2,zHq _ _ hlen,h0];show cmpVs [x] [y]=cmpV x y;simp only[cmpVs,zA8]
 refine⟨fun hne=>?_,fun h=>by rw[h1,h]⟩;have:=zHq (p:=l.take (j+1)) (q:=m.take (j+1)) (l.drop (j+1)) (m.drop (j+1)) (by rw[List.length_take,List.length_take];omega);rw[List.take_append_drop,List.take_append_drop,h1,zAz hne]at this;exact this
theorem zA0 {H:Nat}{W0 w w':World}(h:Below H W0 w) (hz:H≤W0.heap.size) (hb:Below w.heap.size w w'):Below H W0 w':=h.trans (hb.mono (Nat.le_trans hz h.size))
theorem ret_i {a b:Int}(h:a=b):Ending.returned (.int .i64 a)=.returned (.int .i64 b):=by rw[h]
theorem zEz (a b:Int) (w:World):Calls Tryz.prog 47 #[.int .i64 a,.int .i64 b] w fun e w'=>e=.returned (.int .i64 (cmpI a b))∧w=w':=by
 go_enter Tryz.func47,Tryz.ntmps47;go_wp2
 all_goals go_ret
 all_goals exact⟨ret_i (by unfold cmpI;(repeat' split)<;>first|rfl|omega),rfl⟩
theorem zDl (a b:Int) (w:World):Calls Tryz.prog 46 #[.int .i64 a,.int .i64 b] w fun e w'=>e=.returned (.int .i64 (cmpI a b))∧w=w':=by
 go_enter Tryz.func46,Tryz.ntmps46;go_wp2_with (go_at_call 47;refine (zEz _ _ _).mono ?_;rintro e w1 ⟨rfl,rfl⟩)
 all_goals go_ret
 all_goals exact⟨rfl,rfl⟩
theorem zH1 (k:Nat) (hP:Hid (∀ (a b:Vl) (ca cb:List Value) (w:World),VS k w w.heap.size a ca→VS k w w.heap.size b cb→Calls Tryz.prog 22 #[.agg ca.toArray,.agg cb.toArray] w fun e w'=>e=.returned (.int .i64 (cmpV a b))∧Below w.heap.size w w'))
  (A A':Option Addr) (c c':Nat) (l m:List Vl) (w:World) (hl:RowP w w.heap.size 7 (.slice A l.length c) l.length (fun j cs=>∃ x,l[j]?=some x∧VS k w w.heap.size x cs))
  (hm:RowP w w.heap.size 7 (.slice A' m.length c') m.length (fun j cs=>∃ x,m[j]?=some x∧VS k w w.heap.size x cs)) :
  Calls Tryz.prog 50 #[.slice A l.length c,.slice A' m.length c'] w fun e w'=>e=.returned (.int .i64 (thn (cmpI l.length m.length) (cmpVs l m)))∧Below w.heap.size w w':=by
 have HL:=xI hl;have HM:=xI hm;obtain⟨_,_,_,hln⟩:=hl.form;obtain⟨_,_,_,hmn⟩:=hm.form;unfold maxLen at hln hmn;clear hl hm;by_cases he:l.length=m.length
 ·have q:((l.length:Int) != (m.length:Int))=false:=by rw[bne_eq_false_iff_eq];omega
  have HT:Hid (thn (cmpI l.length m.length) (cmpVs l m)=cmpVs l m):=xI (by rw[zAf.2 (by omega)];rfl);have HE:=xI he;clear he;go_enter Tryz.func50,Tryz.ntmps50;go_wp2_with fail
  go_loopw [5,6] (fun i _ wr=>∃ j:Nat,i=.int .i64 j∧j≤l.length∧cmpVs (l.take j) (m.take j)=0∧Below w.heap.size w wr) (fun i _ _=>l.length-(intOf i).toNat)
  case atStart=>exact⟨0,rfl,by omega,by simp[cmpVs],Below.refl _ _⟩
  case round=>
   obtain⟨j,rfl,hj,h0,hb⟩:=hrel;by_cases hjn:j<l.length
   ·obtain⟨b,off,cap0,x0,x1,x2,x3,x4,x5,x6,hu,hbH,⟨x,hx,hv⟩,c0,c1,c2,c3,c4,c5,c6⟩:=(HL.out.on hb (fun _ _ h=>h)).at7 hjn;obtain⟨b',off',cap0',y0,y1,y2,y3,y4,y5,y6,hu',hbH',⟨y,hy,hv'⟩,d0,d1,d2,d3,d4,d5,d6⟩:=(HM.out.on hb (fun _ _ h=>h)).at7 (show j<m.length by have:=HE.out;omega);injection hu with hA _ hcap;subst hA hcap;injection hu' with hA' _ hcap';subst hA' hcap';have kn:(j:Int)<(l.length:Int):=by omega
    have km:(j:Int)<(m.length:Int):=by have:=HE.out;omega
    have k0:(0:Int)≤(j:Int):=by omega
    have HS:=xI (zNb hx hy h0);have HB:=xI hb;have HVX:Hid (∀ wq,Below wr.heap.size wr wq→VS k wq wq.heap.size x [x0,x1,x2,x3,x4,x5,x6]):=xI (fun wq h=>VS.up (Nat.le_trans hb.size h.size) lR (VS.on (hb.trans (h.mono hb.size)) hv));have HVY:Hid (∀ wq,Below wr.heap.size wr wq→VS k wq wq.heap.size y [y0,y1,y2,y3,y4,y5,y6]):=xI (fun wq h=>VS.up (Nat.le_trans hb.size h.size) lR (VS.on (hb.trans (h.mono hb.size)) hv'));have hz:=hb.size;have HK:Hid (∀ wq,Below wr.heap.size wr wq→wq.cell? ⟨b,off+j*7,none⟩=some x0∧wq.cell? ⟨b,off+j*7+1,none⟩=some x1∧wq.cell? ⟨b,off+j*7+2,none⟩=some x2∧wq.cell? ⟨b,off+j*7+3,none⟩=some x3∧wq.cell? ⟨b,off+j*7+4,none⟩=some x4∧wq.cell? ⟨b,off+j*7+5,none⟩=some x5∧wq.cell? ⟨b,off+j*7+6,none⟩=some x6∧wq.cell? ⟨b',off'+j*7,none⟩=some y0∧wq.cell? ⟨b',off'+j*7+1,none⟩=some y1∧wq.cell? ⟨b',off'+j*7+2,none⟩=some y2∧wq.cell? ⟨b',off'+j*7+3,none⟩=some y3∧wq.cell? ⟨b',off'+j*7+4,none⟩=some y4∧wq.cell? ⟨b',off'+j*7+5,none⟩=some y5∧wq.cell? ⟨b',off'+j*7+6,none⟩=some y6):=xI (fun wq h=>⟨(h.cell (p:=⟨_,_,none⟩) (by show b<_;omega)).trans c0,(h.cell (p:=⟨_,_,none⟩) (by show b<_;omega)).trans c1,(h.cell (p:=⟨_,_,none⟩) (by show b<_;omega)).trans c2,(h.cell (p:=⟨_,_,none⟩) (by show b<_;omega)).trans c3,(h.cell (p:=⟨_,_,none⟩) (by show b<_;omega)).trans c4,(h.cell (p:=⟨_,_,none⟩) (by show b<_;omega)).trans c5,(h.cell (p:=⟨_,_,none⟩) (by show b<_;omega)).trans c6,(h.cell (p:=⟨_,_,none⟩) (by show b'<_;omega)).trans d0,(h.cell (p:=⟨_,_,none⟩) (by show b'<_;omega)).trans d1,(h.cell (p:=⟨_,_,none⟩) (by show b'<_;omega)).trans d2,(h.cell (p:=⟨_,_,none⟩) (by show b'<_;omega)).trans d3,(h.cell (p:=⟨_,_,none⟩) (by show b'<_;omega)).trans d4,(h.cell (p:=⟨_,_,none⟩) (by show b'<_;omega)).trans d5,(h.cell (p:=⟨_,_,none⟩) (by show b'<_;omega)).trans d6⟩);clear hx hy h0 hb hv hv' c0 c1 c2 c3 c4 c5 c6 d0 d1 d2 d3 d4 d5 d6;go_wp2_with fail;refine wp_region_held_drew (S:=fun wq=>wq.cell? ⟨b,off+j*7,none⟩=some x0∧wq.cell? ⟨b,off+j*7+1,none⟩=some x1∧wq.cell? ⟨b,off+j*7+2,none⟩=some x2∧wq.cell? ⟨b,off+j*7+3,none⟩=some x3∧wq.cell? ⟨b,off+j*7+4,none⟩=some x4∧wq.cell? ⟨b,off+j*7+5,none⟩=some x5∧wq.cell? ⟨b,off+j*7+6,none⟩=some x6∧wq.cell? ⟨b',off'+j*7,none⟩=some y0∧wq.cell? ⟨b',off'+j*7+1,none⟩=some y1∧wq.cell? ⟨b',off'+j*7+2,none⟩=some y2∧wq.cell? ⟨b',off'+j*7+3,none⟩=some y3∧wq.cell? ⟨b',off'+j*7+4,none⟩=some y4∧wq.cell? ⟨b',off'+j*7+5,none⟩=some y5∧wq.cell? ⟨b',off'+j*7+6,none⟩=some y6) (by kernel_rfl) (HK.out _ bR.drew) (fun _=>?_);have hB9:Below wr.heap.size wr wr.drew:=bR.drew;refine tk 0 (HK.out _ hB9) ?_
    try simp only[pK]
    iterate 7 (refine ts (HK.out _ hB9) ?_;try simp only[pK])
    refine oO 8 fun K hK=>?_;go_simp;refine (hP.out x y _ _ _ (HVX.out _ hB9) (HVY.out _ hB9)).mono ?_;rintro e w10 ⟨rfl,hb10⟩;have hB10:Below wr.heap.size wr w10:=zA0 hB9 lR hb10;clear hb10 hB9;refine hK _ _ (HK.out _ hB10) ?_
    try simp only[pK]
    clear hK K;refine tk 9 (HK.out _ hB10) ?_
    try simp only[pK]
    refine (wD ?_) _;generalize cmpV x y=z at HS;by_cases hz0:z=0
    ·have q2:(z != 0)=false:=by rw[bne_eq_false_iff_eq];exact hz0
     go_wp2
     go_roundw
     case rel=>exact⟨j+1,by go_num,by omega,HS.out.2 hz0,HB.out.trans (hB10.mono HB.out.size)⟩
     case measure=>simp[intOf];omega
    ·have q2:(z != 0)=true:=by rw[bne_iff_ne];exact hz0
     go_wp2;go_ret;exact⟨ret_i (by rw[HT.out,HS.out.1 hz0]),HB.out.trans (hB10.mono HB.out.size)⟩
   ·have hjl:l.take j=l:=List.take_of_length_le (by omega);have hjm:m.take j=m:=List.take_of_length_le (by have:=HE.out;omega);rw[hjl,hjm]at h0;have HZ:=xI h0;go_wp2;go_ret;exact⟨ret_i (by rw[HT.out,HZ.out]),hb⟩
 ·have q:((l.length:Int) != (m.length:Int))=true:=by rw[bne_iff_ne];omega
  have HT:Hid (thn (cmpI l.length m.length) (cmpVs l m)=cmpI l.length m.length):=xI (zAz (fun h=>he (by have:=zAf.1 h;omega)) _);go_enter Tryz.func50,Tryz.ntmps50;go_wp2_with (go_at_call 46;refine (zDl _ _ _).mono ?_;rintro e w1 ⟨rfl,rfl⟩)
  all_goals go_ret
  all_goals exact⟨ret_i (by rw[HT.out]),Below.refl _ _⟩
theorem zB2 {w:World}(o:Obj){n:Nat}(h:w.heap.size=n):(w.alloc o).heap[n]?=some o:=by rw[←h];exact heap_alloc_new w o
def ES (k:Nat) (w:World) (H:Nat) (e:En) (cs:List Value):Prop:=
 ∃ args fails result,e=.mk args fails result∧∃ ua rs,cs=ua::.bool fails::rs∧RowP w H 7 ua args.length (fun j cs=>∃ x,args[j]?=some x∧VS k w H x cs)∧VS k w H result rs
theorem zC6 (k:Nat) (hP:Hid (∀ (a b:Vl) (ca cb:List Value) (w:World),VS k w w.heap.size a ca→VS k w w.heap.size b cb→Calls Tryz.prog 22 #[.agg ca.toArray,.agg cb.toArray] w fun e w'=>e=.returned (.int .i64 (cmpV a b))∧Below w.heap.size w w'))
  (e e':En) (cs cs':List Value) (w:World) (he:ES k w w.heap.size e cs) (he':ES k w w.heap.size e' cs') :
  Calls Tryz.prog 51 #[.agg cs.toArray,.agg cs'.toArray] w fun r w'=>r=.returned (.int .i64 (cmpE e e'))∧Below w.heap.size w w':=by
 obtain⟨l,f,r,rfl,ua,rs,rfl,hl,hr⟩:=he;obtain⟨m,f',r',rfl,ua',rs',rfl,hm,hr'⟩:=he';obtain⟨A,c,rfl,_⟩:=hl.form;obtain⟨A',c',rfl,_⟩:=hm.form;obtain⟨a1,i1,s1,B1,n1,d1,B2,n2,d2,B3,n3,d3,B4,n4,d4,rfl⟩:=hr.form7;obtain⟨a1',i1',s1',B1',n1',d1',B2',n2',d2',B3',n3',d3',B4',n4',d4',rfl⟩:=hr'.form7;obtain⟨W,hW⟩:∃ W,W=((w.alloc (.cells #[.slice A l.length c,.bool f,.int .i64 a1,.int .i64 i1,.string s1,.slice B1 n1 d1,.slice B2 n2 d2,.slice B3 n3 d3,.slice B4 n4 d4] 45)).alloc (.cells #[.slice A' m.length c',.bool f',.int .i64 a1',.int .i64 i1',.string s1',.slice B1' n1' d1',.slice B2' n2' d2',.slice B3' n3' d3',.slice B4' n4' d4'] 45)):=⟨_,rfl⟩;have hb:Below w.heap.size w W:=by rw[hW];exact (bR.alloc lR _).alloc (by simp) _
 have hz:W.heap.size=w.heap.size+2:=by rw[hW];simp
 have k1:W.heap[w.heap.size]?=some (.cells #[.slice A l.length c,.bool f,.int .i64 a1,.int .i64 i1,.string s1,.slice B1 n1 d1,.slice B2 n2 d2,.slice B3 n3 d3,.slice B4 n4 d4] 45 (0,0)):=by
  rw[hW,Below.heap_alloc _ _ _ (by simp)];exact heap_alloc_new w _
 have k2:W.heap[w.heap.size+1]?=some (.cells #[.slice A' m.length c',.bool f',.int .i64 a1',.int .i64 i1',.string s1',.slice B1' n1' d1',.slice B2' n2' d2',.slice B3' n3' d3',.slice B4' n4' d4'] 45 (0,0)):=by
  rw[hW];exact zB2 _ (by simp)
 have hv:=zH1 k hP A A' c c' l m W ((hl.on hb fun _ _ ⟨x,h1,h2⟩=>⟨x,h1,VS.up hb.size lR (VS.on hb h2)⟩).mono hb.size fun _ _ h=>h) ((hm.on hb fun _ _ ⟨x,h1,h2⟩=>⟨x,h1,VS.up hb.size lR (VS.on hb h2)⟩).mono hb.size fun _ _ h=>h);have e0:W.cell? ⟨w.heap.size,0,none⟩=some (.slice A l.length c):=cH k1 0;have e1:W.cell? ⟨w.heap.size+1,0,none⟩=some (.slice A' m.length c'):=cH k2 0;have K1:=xI k1;have K2:=xI k2;have HB:=xI hb;have HR:=xI hr;have HR':=xI hr';have HT:Hid (cmpE (.mk l f r) (.mk m f' r')=thn (thn (cmpI l.length m.length) (cmpVs l m)) (thn (cmpF f f') (cmpV r r'))):=xI (by rw[cmpE,zA9]);generalize thn (cmpI l.length m.length) (cmpVs l m)=z at hv HT;clear hl hm hr hr' k1 k2 hb;go_enter Tryz.func51,Tryz.ntmps51;go_wp2_with fail;rw[←hW];clear hW;go_wp2_with (go_at_call 50;refine hv.mono ?_;rintro e w1 ⟨rfl,hb1⟩;refine Hid.out ?_);refine xI ?_;have HB1:=xI (HB.out.trans (hb1.mono HB.out.size));clear hv e0 e1;by_cases h0:z=0
 ·have q:(z != 0)=false:=by rw[bne_eq_false_iff_eq];exact h0
  have HU:Hid (cmpE (.mk l f r) (.mk m f' r')=thn (cmpF f f') (cmpV r r')):=xI (by rw[HT.out,h0];rfl);have g1:w1.cell? ⟨w.heap.size,1,none⟩=some (.bool f):=(hb1.cell (p:=⟨_,1,none⟩) (by show w.heap.size<_;omega)).trans (cH K1.out 1);have g2:w1.cell? ⟨w.heap.size+1,1,none⟩=some (.bool f'):=(hb1.cell (p:=⟨_,1,none⟩) (by show w.heap.size+1<_;omega)).trans (cH K2.out 1);by_cases hf:f=f'
  ·subst hf;have HV:Hid (cmpE (.mk l f r) (.mk m f r')=cmpV r r'):=xI (by rw[HU.out,cmpF,if_pos rfl];rfl);have p2:w1.cell? ⟨w.heap.size,2,none⟩=some (.int .i64 a1):=(hb1.cell (p:=⟨_,2,none⟩) (by show w.heap.size<_;omega)).trans (cH K1.out 2);have p3:w1.cell? ⟨w.heap.size,3,none⟩=some (.int .i64 i1):=(hb1.cell (p:=⟨_,3,none⟩) (by show w.heap.size<_;omega)).trans (cH K1.out 3);have p4:w1.cell? ⟨w.heap.size,4,none⟩=some (.string s1):=(hb1.cell (p:=⟨_,4,none⟩) (by show w.heap.size<_;omega)).trans (cH K1.out 4);have p5:w1.cell? ⟨w.heap.size,5,none⟩=some (.slice B1 n1 d1):=(hb1.cell (p:=⟨_,5,none⟩) (by show w.heap.size<_;omega)).trans (cH K1.out 5);have p6:w1.cell? ⟨w.heap.size,6,none⟩=some (.slice B2 n2 d2):=(hb1.cell (p:=⟨_,6,none⟩) (by show w.heap.size<_;omega)).trans (cH K1.out 6);have p7:w1.cell? ⟨w.heap.size,7,none⟩=some (.slice B3 n3 d3):=(hb1.cell (p:=⟨_,7,none⟩) (by show w.heap.size<_;omega)).trans (cH K1.out 7);have p8:w1.cell? ⟨w.heap.size,8,none⟩=some (.slice B4 n4 d4):=(hb1.cell (p:=⟨_,8,none⟩) (by show w.heap.size<_;omega)).trans (cH K1.out 8);have r2:w1.cell? ⟨w.heap.size+1,2,none⟩=some (.int .i64 a1'):=(hb1.cell (p:=⟨_,2,none⟩) (by show w.heap.size+1<_;omega)).trans (cH K2.out 2);have r3:w1.cell? ⟨w.heap.size+1,3,none⟩=some (.int .i64 i1'):=(hb1.cell (p:=⟨_,3,none⟩) (by show w.heap.size+1<_;omega)).trans (cH K2.out 3);have r4:w1.cell? ⟨w.heap.size+1,4,none⟩=some (.string s1'):=(hb1.cell (p:=⟨_,4,none⟩) (by show w.heap.size+1<_;omega)).trans (cH K2.out 4);have r5:w1.cell? ⟨w.heap.size+1,5,none⟩=some (.slice B1' n1' d1'):=(hb1.cell (p:=⟨_,5,none⟩) (by show w.heap.size+1<_;omega)).trans (cH K2.out 5);have r6:w1.cell? ⟨w.heap.size+1,6,none⟩=some (.slice B2' n2' d2'):=(hb1.cell (p:=⟨_,6,none⟩) (by show w.heap.size+1<_;omega)).trans (cH K2.out 6);have r7:w1.cell? ⟨w.heap.size+1,7,none⟩=some (.slice B3' n3' d3'):=(hb1.cell (p:=⟨_,7,none⟩) (by show w.heap.size+1<_;omega)).trans (cH K2.out 7);have r8:w1.cell? ⟨w.heap.size+1,8,none⟩=some (.slice B4' n4' d4'):=(hb1.cell (p:=⟨_,8,none⟩) (by show w.heap.size+1<_;omega)).trans (cH K2.out 8);have hc:=hP.out r r' _ _ w1 (VS.up HB1.out.size lR (VS.on HB1.out HR.out)) (VS.up HB1.out.size lR (VS.on HB1.out HR'.out));clear hb1 h0;cases f
   all_goals
    go_wp2_with (go_at_call 22;refine hc.mono ?_;rintro e w2 ⟨rfl,hb2⟩;refine Hid.out ?_);refine xI ?_;go_wp2;go_ret;exact⟨ret_i (by rw[HV.out]),HB1.out.trans (hb2.mono HB1.out.size)⟩
  ·have HV:Hid (cmpE (.mk l f r) (.mk m f' r')=cmpF f f'):=xI (by rw[HU.out];exact zAz (by rw[cmpF,if_neg hf];cases f<;>simp) _);clear hb1 h0;cases f<;>cases f'
   ·exact absurd rfl hf
   ·clear hf;go_wp2;go_ret;exact⟨ret_i (by rw[HV.out];rfl),HB1.out⟩
   ·clear hf;go_wp2;go_ret;exact⟨ret_i (by rw[HV.out];rfl),HB1.out⟩
   ·exact absurd rfl hf
 ·have q:(z != 0)=true:=by rw[bne_iff_ne];exact h0
  have HU:Hid (cmpE (.mk l f r) (.mk m f' r')=z):=xI (by rw[HT.out];exact zAz h0 _);clear h0 hb1;go_wp2;go_ret;exact⟨ret_i (by rw[HU.out]),HB1.out⟩
theorem zD4:∀ a b:List UInt8,Lib.compareBytes a b=cmpT a b
 | [],[]=>rfl
 | [],_::_=>rfl
 | _::_,[]=>rfl
 | a::s,b::t=>by
  unfold Lib.compareBytes cmpT;rw[zD4 s t];unfold thn cmpI;by_cases h1:a<b
  ·have h2:(a.toNat:Int)<b.toNat:=by have:=UInt8.lt_iff_toNat_lt.1 h1;omega
   rw[if_pos h1,if_pos h2];rfl
  ·have h2:¬ (a.toNat:Int)<b.toNat:=fun h=>h1 (UInt8.lt_iff_toNat_lt.2 (by omega));rw[if_neg h1,if_neg h2];by_cases h3:b<a
   ·have h4:(b.toNat:Int)<a.toNat:=by have:=UInt8.lt_iff_toNat_lt.1 h3;omega
    rw[if_pos h3,if_pos h4];rfl
   ·have h4:¬ (b.toNat:Int)<a.toNat:=fun h=>h3 (UInt8.lt_iff_toNat_lt.2 (by omega));rw[if_neg h3,if_neg h4];rfl
theorem zBb (a b:Int) (w:World):Calls Tryz.prog 167 #[.int .i64 a,.int .i64 b] w fun e w'=>e=.returned (.int .i64 (cmpI a b))∧w'=w:=by
 refine (Tryz.cmp_Compare_int a b w).mono ?_;rintro e w' ⟨rfl,rfl⟩;exact⟨ret_i (by unfold Lib.compareInt cmpI;(repeat' split)<;>first|rfl|omega),rfl⟩
theorem zKd (a b:Int) (w:World):Calls Tryz.prog 195 #[.int .i64 a,.int .i64 b] w fun e w'=>e=.returned (.int .i64 (cmpI a b))∧w'=w:=by
 go_enter Tryz.func195,Tryz.ntmps195;go_wp2
 all_goals go_ret
 all_goals exact⟨ret_i (by unfold cmpI;(repeat' split)<;>first|rfl|omega),rfl⟩
theorem zCp (a b:ByteArray) (w:World):Calls Tryz.prog 112 #[.string a,.string b] w fun e w'=>e=.returned (.int .i64 (cmpT a.data.toList b.data.toList))∧w'=w:=by
 refine (Tryz.strings_Compare a b w).mono ?_;rintro e w' ⟨rfl,rfl⟩;exact⟨ret_i (zD4 _ _),rfl⟩
theorem zHt (x y:Int×List UInt8) (w:World) :
  Calls Tryz.prog 145 #[.agg #[.int .i64 x.1,.string ⟨x.2.toArray⟩],.agg #[.int .i64 y.1,.string ⟨y.2.toArray⟩]] w fun e w'=>e=.returned (.int .i64 (cmpK x y))∧Below w.heap.size w w':=by
 obtain⟨k1,s1⟩:=x;obtain⟨k2,s2⟩:=y;by_cases h:k1=k2
 ·subst h;have hc:cmpI k1 k1=0:=zAf.2 rfl;have HT:Hid (cmpK (k1,s1) (k1,s2)=cmpT s1 s2):=xI (by simp only[cmpK,hc];rfl);go_enter Tryz.func145,Tryz.ntmps145;go_wp2_with (first|(go_at_call 167;refine (zBb _ _ _).mono ?_;rintro e w' ⟨rfl,rfl⟩)|(go_at_call 112;refine (zCp _ _ _).mono ?_;rintro e w' ⟨rfl,rfl⟩))
  go_ret;exact⟨ret_i HT.out.symm,(bR.alloc lR _).alloc (by simp) _⟩
 ·have hz:cmpI k1 k2≠0:=fun h0=>h (zAf.1 h0);have hc:(cmpI k1 k2 != 0)=true:=by rw[bne_iff_ne];exact hz
  have HT:Hid (cmpK (k1,s1) (k2,s2)=cmpI k1 k2):=xI (by simp only[cmpK,zAz hz]);clear hz;go_enter Tryz.func145,Tryz.ntmps145;go_wp2_with (first|(go_at_call 167;refine (zBb _ _ _).mono ?_;rintro e w' ⟨rfl,rfl⟩)|(go_at_call 112;refine (zCp _ _ _).mono ?_;rintro e w' ⟨rfl,rfl⟩))
  go_ret;exact⟨ret_i HT.out.symm,(bR.alloc lR _).alloc (by simp) _⟩
theorem zLf:∀ l m:List Vl,cmpVs l m=cmpL cmpV l m
 | a::s,b::t=>by simp only[cmpVs,cmpL,zLf s t]
 | [],_=>by simp[cmpVs,cmpL]
 | _::_,[]=>by simp[cmpVs,cmpL]
theorem zLh:∀ l m:List En,cmpEs l m=cmpL cmpE l m
 | a::s,b::t=>by simp only[cmpEs,cmpL,zLh s t]
 | [],_=>by simp[cmpEs,cmpL]
 | _::_,[]=>by simp[cmpEs,cmpL]
theorem zGv {α:Type}{c:α→α→Int}:∀ {p q:List α}(l m:List α),p.length=q.length→cmpL c (p++l) (q++m)=thn (cmpL c p q) (cmpL c l m)
 | [],[],l,m,_=>by simp[cmpL,thn]
 | a::p,b::q,l,m,h=>by
  simp only[List.cons_append,cmpL,zGv l m (show p.length=q.length by simpa using h),zA9]
theorem zCf {α:Type}{c:α→α→Int}{l m:List α}{j:Nat}{x y:α}(hx:l[j]?=some x) (hy:m[j]?=some y) (h0:cmpL c (l.take j) (m.take j)=0) :
  (c x y≠0→cmpL c l m=c x y)∧(c x y=0→cmpL c (l.take (j+1)) (m.take (j+1))=0):=by
 have hjl:=(List.getElem?_eq_some_iff.1 hx).1;have hjm:=(List.getElem?_eq_some_iff.1 hy).1;have e1:l.take (j+1)=l.take j++[x]:=by rw[List.take_add_one,hx];rfl
 have e2:m.take (j+1)=m.take j++[y]:=by rw[List.take_add_one,hy];rfl
 have hlen:(l.take j).length=(m.take j).length:=by rw[List.length_take,List.length_take];omega
 have h1:cmpL c (l.take (j+1)) (m.take (j+1))=c x y:=by
  rw[e1,e2,zGv _ _ hlen,h0];show cmpL c [x] [y]=c x y;simp only[cmpL,zA8]
 refine⟨fun hne=>?_,fun h=>by rw[h1,h]⟩;have:=zGv (c:=c) (p:=l.take (j+1)) (q:=m.take (j+1)) (l.drop (j+1)) (m.drop (j+1)) (by rw[List.length_take,List.length_take];omega);rw[List.take_append_drop,List.take_append_drop,h1,zAz hne]at this;exact this
theorem zKl (s:ByteArray):s.toList=s.data.toList:=Lib.toList_data s
theorem zFt:∀ {a b:List UInt8},Op.bytesLess a b=true→Lib.compareBytes a b=-1
 | [],[],h=>by simp[Op.bytesLess]at h
 | [],_::_,_=>rfl
 | _::_,[],h=>by simp[Op.bytesLess]at h
 | a::x,b::y,h=>by
  simp only[Op.bytesLess,Bool.or_eq_true,decide_eq_true_eq,Bool.and_eq_true,beq_iff_eq]at h;unfold Lib.compareBytes;by_cases h1:a<b
  ·rw[if_pos h1]
  ·rcases h with h|⟨rfl,h⟩
   ·exact absurd h h1
   ·rw[if_neg h1,if_neg h1];exact zFt h
theorem zNa {a b:List UInt8}(h:a=b):Lib.compareBytes a b=0:=by
 subst h
 induction a with
 | nil=>rfl
 | cons x r ih=>unfold Lib.compareBytes;simp[ih]
theorem zFu:∀ {a b:List UInt8},Op.bytesLess a b=false→a≠b→Lib.compareBytes a b=1
 | [],[],_,h=>absurd rfl h
 | [],_::_,h,_=>by simp[Op.bytesLess]at h
 | _::_,[],_,_=>rfl
 | a::x,b::y,h,hne=>by
  simp only[Op.bytesLess,Bool.or_eq_false_iff,decide_eq_false_iff_not,Bool.and_eq_false_imp,beq_iff_eq]at h;unfold Lib.compareBytes;rw[if_neg h.1];by_cases h1:b<a
  ·rw[if_pos h1]
  ·rw[if_neg h1];have e:a=b:=UInt8.le_antisymm (UInt8.not_lt.1 h1) (UInt8.not_lt.1 h.1);subst e;exact zFu (h.2 rfl) (fun e=>hne (by rw[e]))
theorem zJs (a b:ByteArray) (w:World) :
  Calls Tryz.prog 48 #[.string a,.string b] w fun e w'=>e=.returned (.int .i64 (Lib.compareBytes a.data.toList b.data.toList))∧w=w':=by
 go_enter Tryz.func48,Tryz.ntmps48;go_wp2
 all_goals go_ret
 all_goals simp only[zKl]at *
 ·exact⟨ret_i (zFt ‹_›).symm,trivial⟩
 ·exact⟨ret_i (zFu ‹_› (by simp_all)).symm,trivial⟩
 ·exact⟨ret_i (zNa (by simp_all)).symm,trivial⟩
theorem zCy (a b:List UInt8) (w:World) :
  Calls Tryz.prog 48 #[.string ⟨a.toArray⟩,.string ⟨b.toArray⟩] w fun e w'=>e=.returned (.int .i64 (cmpT a b))∧w=w':=by
 refine (zJs ⟨a.toArray⟩ ⟨b.toArray⟩ w).mono ?_;rintro e w' ⟨rfl,rfl⟩;exact⟨ret_i (zD4 _ _),rfl⟩
theorem zEe (x y:Int×List UInt8) (w:World) :
  Calls Tryz.prog 49 #[.agg #[.int .i64 x.1,.string ⟨x.2.toArray⟩],.agg #[.int .i64 y.1,.string ⟨y.2.toArray⟩]] w fun e w'=>e=.returned (.int .i64 (cmpK x y))∧Below w.heap.size w w':=by
 obtain⟨k1,s1⟩:=x;obtain⟨k2,s2⟩:=y;by_cases h:k1=k2
 ·subst h;have hc:cmpI k1 k1=0:=zAf.2 rfl;have HT:Hid (cmpK (k1,s1) (k1,s2)=cmpT s1 s2):=xI (by simp only[cmpK,hc];rfl);go_enter Tryz.func49,Tryz.ntmps49;go_wp2_with (first|(go_at_call 47;refine (zEz _ _ _).mono ?_;rintro e w' ⟨rfl,rfl⟩)|(go_at_call 48;refine (zCy _ _ _).mono ?_;rintro e w' ⟨rfl,rfl⟩))
  go_ret;exact⟨ret_i HT.out.symm,(bR.alloc lR _).alloc (by simp) _⟩
 ·have hz:cmpI k1 k2≠0:=fun h0=>h (zAf.1 h0);have HT:Hid (cmpK (k1,s1) (k2,s2)=cmpI k1 k2):=xI (by simp only[cmpK,zAz hz]);clear hz;have hc:(k1 != k2)=true:=by simp[h]
  go_enter Tryz.func49,Tryz.ntmps49;go_wp2_with (first|(go_at_call 47;refine (zEz _ _ _).mono ?_;rintro e w' ⟨rfl,rfl⟩)|(go_at_call 48;refine (zCy _ _ _).mono ?_;rintro e w' ⟨rfl,rfl⟩))
  all_goals go_ret
  all_goals exact⟨ret_i HT.out.symm,(bR.alloc lR _).alloc (by simp) _⟩
end Go.Proofs.YtcjgaohblaidjaaGreatDoor
namespace Go.Proofs.YtcjgaohblaidjaaGreatDoor
open Go Go.RowKit Go.Lib Go.Sort
def bl (a b:List UInt8):Bool:=Op.bytesLess a b
theorem zE9:∀ a,bl a a=false
 | []=>rfl
 | a::x=>by
  have:=zE9 x;unfold bl at this ⊢;simp[Op.bytesLess,this]
theorem zI6 (a b:UInt8) (x y:List UInt8):bl (a::x) (b::y)=true↔a<b∨a=b∧bl x y=true:=by
 unfold bl;simp[Op.bytesLess]
theorem zLj (x:List UInt8):bl x []=false:=by cases x<;>rfl
theorem zGw:∀ {a b c:List UInt8},bl a b=true→bl b c=true→bl a c=true
 | _,[],_,h,_=>by rw[zLj]at h;cases h
 | _,_::_,[],_,h=>by rw[zLj]at h;cases h
 | [],_::_,_::_,_,_=>rfl
 | a::x,b::y,c::z,h,k=>by
  rw[zI6]at *;simp only[UInt8.lt_iff_toNat_lt]at *;rcases h with h|⟨rfl,h⟩
  ·rcases k with k|⟨rfl,k⟩
   ·exact .inl (by omega)
   ·exact .inl h
  ·rcases k with k|⟨rfl,k⟩
   ·exact .inl k
   ·exact .inr ⟨rfl,zGw h k⟩
theorem zMe:∀ (a b:List UInt8),bl a b=true∨a=b∨bl b a=true
 | [],[]=>.inr (.inl rfl)
 | [],_::_=>.inl rfl
 | _::_,[]=>.inr (.inr rfl)
 | a::x,b::y=>by
  rw[zI6,zI6];simp only[UInt8.lt_iff_toNat_lt];by_cases h:a=b
  ·subst h;rcases zMe x y with h|rfl|h
   ·exact .inl (.inr ⟨rfl,h⟩)
   ·exact .inr (.inl rfl)
   ·exact .inr (.inr (.inr ⟨rfl,h⟩))
  ·have:a.toNat≠b.toNat:=fun e=>h (UInt8.toNat_inj.1 e);by_cases h2:a.toNat<b.toNat
   ·exact .inl (.inl h2)
   ·exact .inr (.inr (.inl (by omega)))
theorem zMg {a b:List UInt8}(h:bl a b=true):bl b a=false:=by
 cases k:bl b a
 ·rfl
 ·have:=zGw h k;rw[zE9]at this;cases this
theorem bl_ne {a b:List UInt8}(h:bl a b=true):a≠b:=by
 rintro rfl;rw[zE9]at h;cases h
theorem zMf {a b c:List UInt8}(h:bl b a=false) (k:bl b c=true):bl a c=true:=by
 rcases zMe a b with e|rfl|e
 ·exact zGw e k
 ·exact k
 ·rw[e]at h;cases h
theorem zQe {a b:List UInt8}(h:bl b a=false) (k:a≠b):bl a b=true:=by
 rcases zMe a b with e|e|e
 ·exact e
 ·exact absurd e k
 ·rw[e]at h;cases h
def Asc (l:List (List UInt8)):Prop:=l.Pairwise fun a b=>bl a b=true
instance (l:List (List UInt8)):Decidable (Asc l):=inferInstanceAs (Decidable (l.Pairwise _))
theorem zO5:Asc []:=List.Pairwise.nil
theorem zQ9 (a:List UInt8):Asc [a]:=List.pairwise_singleton _ _
theorem zIh:∀ {a b:List (List UInt8)},Asc a→Asc b→(∀ x,x∈a↔x∈b)→a=b
 | [],[],_,_,_=>rfl
 | [],y::_,_,_,h=>absurd ((h y).2 (by simp)) (by simp)
 | x::_,[],_,_,h=>absurd ((h x).1 (by simp)) (by simp)
 | x::a,y::b,ha,hb,h=>by
  have ha':=List.pairwise_cons.1 ha;have hb':=List.pairwise_cons.1 hb;have e:x=y:=by
   rcases List.mem_cons.1 ((h x).1 (by simp))with e|e
   ·exact e
   ·rcases List.mem_cons.1 ((h y).2 (by simp))with k|k
    ·exact k.symm
    ·have h1:=hb'.1 x e;have h2:=ha'.1 y k;rw[zMg h1]at h2;cases h2
  subst e;have ht:a=b:=zIh ha'.2 hb'.2 fun z=>by
   constructor
   ·intro hz;rcases List.mem_cons.1 ((h z).1 (by simp[hz]))with e|e
    ·exact absurd e.symm (bl_ne (ha'.1 z hz))
    ·exact e
   ·intro hz;rcases List.mem_cons.1 ((h z).2 (by simp[hz]))with e|e
    ·exact absurd e.symm (bl_ne (hb'.1 z hz))
    ·exact e
  rw[ht]
theorem zNf {l:List (List UInt8)}{x:List UInt8}{k:Nat}(h:Asc l) (hlo:∀ y∈l.take k,bl y x=true) (hhi:∀ y,l[k]?=some y→bl x y=true) :
  Asc (l.take k++x::l.drop k):=by
 have e:l.take k++l.drop k=l:=List.take_append_drop k l;have h':Asc (l.take k++l.drop k):=by rw[e];exact h
 have hp:=List.pairwise_append.1 h';have hd:∀ y∈l.drop k,bl x y=true:=by
  intro y hy;cases hdr:l.drop k with
  | nil=>rw[hdr]at hy;cases hy
  | cons z r=>
   have hz:bl x z=true:=hhi z (by have:=congrArg (fun q=>q[0]?) hdr;simpa using this);rw[hdr]at hy;rcases List.mem_cons.1 hy with rfl|hy
   ·exact hz
   ·have h2:=hp.2.1;rw[hdr]at h2;exact zGw hz ((List.pairwise_cons.1 h2).1 y hy)
 refine List.pairwise_append.2 ⟨hp.1,List.pairwise_cons.2 ⟨hd,hp.2.1⟩,fun a ha b hb=>?_⟩;rcases List.mem_cons.1 hb with rfl|hb
 ·exact hlo a ha
 ·exact hp.2.2 a ha b hb
theorem zMz {l:List (List UInt8)}{x y:List UInt8}(k:Nat):y∈l.take k++x::l.drop k↔y∈l∨y=x:=by
 have e:y∈l↔y∈l.take k++l.drop k:=by rw[List.take_append_drop]
 rw[e];simp only[List.mem_append,List.mem_cons];constructor
 ·rintro (h|h|h)
  ·exact .inl (.inl h)
  ·exact .inr h
  ·exact .inl (.inr h)
 ·rintro ((h|h)|h)
  ·exact .inl h
  ·exact .inr (.inr h)
  ·exact .inr (.inl h)
def inN (co:Bool) (l:List (List UInt8)) (x:List UInt8):Bool:=decide (x∈l) != co
def IsSet (co:Bool) (m:List (List UInt8)) (p:List UInt8→Bool):Prop:=Asc m∧∀ x,inN co m x=p x
theorem IsSet.congr {co co':Bool}{m:List (List UInt8)}{p p':List UInt8→Bool}(h:IsSet co m p) (hc:co=co') (e:∀ x,p x=p' x):IsSet co' m p':=by
 subst hc;exact⟨h.1,fun x=>(h.2 x).trans (e x)⟩
theorem zDm (d:Array (List UInt8)) (hs:∀ i j,i<j→j<d.size→bl d[j]! d[i]! = false):∀ m,m≤d.size→Asc (compactUpTo d m)∧∀ x,x∈compactUpTo d m↔∃ j,j<m∧d[j]! = x
 | 0,_=>⟨by unfold compactUpTo;exact zO5,fun x=>by simp[compactUpTo]⟩
 | m+1,hm=>by
  obtain⟨ih1,ih2⟩:=zDm d hs m (by omega);rw[compactUpTo_succ];by_cases hk:keeps d m=true
  ·rw[if_pos hk];refine⟨List.pairwise_append.2 ⟨ih1,zQ9 _,fun a ha b hb=>?_⟩,fun x=>?_⟩
   ·obtain⟨j,hj,rfl⟩:=(ih2 a).1 ha;obtain rfl:b=d[m]!:=by simpa using hb
    have hne:d[m]!≠d[m-1]!:=by
     have:=hk;unfold keeps at this;rcases of_decide_eq_true this with h|h
     ·omega
     ·exact h
    have h1:bl d[m-1]! d[m]! = true:=zQe (hs (m-1) m (by omega) (by omega)) (fun e=>hne e.symm);by_cases e:j=m-1
    ·rw[e];exact h1
    ·exact zMf (hs j (m-1) (by omega) (by omega)) h1
   ·rw[List.mem_append,ih2,List.mem_singleton];constructor
    ·rintro (⟨j,hj,e⟩|rfl)
     ·exact⟨j,by omega,e⟩
     ·exact⟨m,by omega,rfl⟩
    ·rintro⟨j,hj,e⟩;by_cases h:j=m
     ·subst h;exact .inr e.symm
     ·exact .inl ⟨j,by omega,e⟩
  ·rw[if_neg hk,List.append_nil];refine⟨ih1,fun x=>(ih2 x).trans ⟨fun ⟨j,hj,e⟩=>⟨j,by omega,e⟩,fun ⟨j,hj,e⟩=>?_⟩⟩;by_cases h:j=m
   ·subst h;have hk':j≠0∧d[j]! = d[j-1]!:=by
     have:¬ (j=0∨d[j]!≠d[j-1]!):=fun h=>hk (by unfold keeps;exact decide_eq_true h);exact⟨fun e=>this (.inl e),Decidable.byContradiction fun e=>this (.inr e)⟩
    exact⟨j-1,by omega,by rw[←hk'.2];exact e⟩
   ·exact⟨j,by omega,e⟩
theorem zEj (zs:List (List UInt8)) (hs:zs.Pairwise fun a b=>bl b a=false):Asc (compact zs)∧(∀ x,x∈compact zs↔x∈zs)∧(compact zs).length≤zs.length:=by
 have h:=zDm zs.toArray (fun i j hij hj=>by
  have hj':j<zs.length:=by simpa using hj
  have:=List.pairwise_iff_getElem.1 hs i j (by omega) hj' hij;rw[getElem!_pos zs.toArray j (by simpa using hj'),getElem!_pos zs.toArray i (by simp;omega)];simpa using this) zs.length (by simp)
 refine⟨h.1,fun x=>(h.2 x).trans ?_,?_⟩
 ·constructor
  ·rintro⟨j,hj,rfl⟩;rw[getElem!_pos zs.toArray j (by simpa using hj)];simp
  ·intro hx;obtain⟨j,hj,e⟩:=List.getElem_of_mem hx;exact⟨j,hj,by rw[getElem!_pos zs.toArray j (by simpa using hj)];simpa using e⟩
 ·unfold compact compactUpTo;rw[List.length_map];have:=List.length_filter_le (keeps zs.toArray) (List.range zs.length);simpa using this
theorem zCw (zs:List (List UInt8)):(zs.mergeSort fun x y=>decide (x≤y)).Pairwise fun a b=>bl b a=false:=by
 have key:∀ a b:List UInt8,decide (a≤b)=!bl b a:=fun a b=>by
  unfold bl;rw[bytesLess_eq];by_cases h:b<a
  ·rw[decide_eq_true h,decide_eq_false (fun k:a≤b=>k h)];rfl
  ·rw[decide_eq_false h,decide_eq_true (show a≤b from h)];rfl
 have h:=List.pairwise_mergeSort (le:=fun x y:List UInt8=>decide (x≤y)) (by
  intro a b c h1 h2;rw[key]at *;cases k:bl c a
  ·rfl
  ·simp at h1 h2;have:=zMf h2 k;rw[this]at h1;cases h1) (by
  intro a b;rw[key,key];cases k:bl b a
  ·simp
  ·rw[zMg k];simp) zs
 refine h.imp fun {a b} hab=>?_;rw[key]at hab;simpa using hab
theorem zPi (zs:List (List UInt8)) (x:List UInt8):x∈(zs.mergeSort fun x y=>decide (x≤y))↔x∈zs:=(List.mergeSort_perm zs _).mem_iff
def srt (zs:List (List UInt8)):List (List UInt8):=compact (zs.mergeSort fun x y=>decide (x≤y))
theorem zIs (zs:List (List UInt8)):Asc (srt zs):=(zEj _ (zCw zs)).1
theorem zDb (zs:List (List UInt8)) (x:List UInt8):x∈srt zs↔x∈zs:=((zEj _ (zCw zs)).2.1 x).trans (zPi zs x)
theorem zNs (zs:List (List UInt8)):(srt zs).length≤zs.length:=by
 have:=(zEj _ (zCw zs)).2.2
 rwa [List.length_mergeSort]at this
theorem zOn {m zs:List (List UInt8)}(h:Asc m) (hm:∀ x,x∈m↔x∈zs):m=srt zs:=zIh h (zIs zs) fun x=>(hm x).trans (zDb zs x).symm
theorem zIz {ss:List (List UInt8)}{k p:Nat}{s:List UInt8}{out:List (List UInt8)}(h:out=srt (ss.take k)) (hs:ss[k]?=some s) (hlo:∀ y∈out.take p,bl y s=true) (hhi:∀ y,out[p]?=some y→bl s y=true) :
  out.take p++s::out.drop p=srt (ss.take (k+1)):=by
 have ha:Asc out:=by rw[h];exact zIs _
 refine zOn (zNf ha hlo hhi) fun x=>?_;rw[zMz,h,zDb,List.take_add_one,hs];simp
theorem zPj {ss:List (List UInt8)}{k:Nat}{s:List UInt8}{out:List (List UInt8)}(h:out=srt (ss.take k)) (hs:ss[k]?=some s) (hm:s∈out):out=srt (ss.take (k+1)):=by
 have ha:Asc out:=by rw[h];exact zIs _
 refine zOn ha fun x=>?_;have e:x∈out↔x∈ss.take k:=by rw[h];exact zDb _ x
 have es:s∈ss.take k:=by rw[←zDb,←h];exact hm
 rw[e,List.take_add_one,hs];simp only[Option.toList_some,List.mem_append,List.mem_singleton];exact⟨.inl,fun h=>h.elim id fun e=>by rw[e];exact es⟩
theorem zBk (l:List (List UInt8)) (k:Nat):(l.take k).length≤l.length:=by rw[List.length_take];omega
end Go.Proofs.YtcjgaohblaidjaaGreatDoor
namespace Go.Proofs.YtcjgaohblaidjaaGreatDoor
open Go Go.RowKit
theorem box7s {w:World}{g H:Nat}{e:TypeId}{z0 z1 z2 z3 z4 z5 z6:Value}(h:w.heap[g]?=some (.cells #[z0,z1,z2,z3,z4,z5,z6] e (0,0))) (hH:H≤g) (v0 v1 v2 v3 v4 v5 v6:Value) (V:World) (hV:V=(((((((w.setCell ⟨g,0,none⟩ v0).setCell ⟨g,1,none⟩ v1).setCell ⟨g,2,none⟩ v2).setCell ⟨g,3,none⟩ v3).setCell ⟨g,4,none⟩ v4).setCell ⟨g,5,none⟩ v5).setCell ⟨g,6,none⟩ v6)) :
  V.heap[g]?=some (.cells #[v0,v1,v2,v3,v4,v5,v6] e (0,0))∧V.heap.size=w.heap.size∧Below H w V∧(∀ b,b≠g→V.heap[b]?=w.heap[b]?):=by
 subst hV;refine⟨obj7 h v0 v1 v2 v3 v4 v5 v6,by simp,?_,fun b hb=>?_⟩
 ·exact Below.setCell (Below.setCell (Below.setCell (Below.setCell (Below.setCell (Below.setCell (Below.setCell bR (p:=⟨g,0,none⟩) hH _) (p:=⟨g,1,none⟩) hH _) (p:=⟨g,2,none⟩) hH _) (p:=⟨g,3,none⟩) hH _) (p:=⟨g,4,none⟩) hH _) (p:=⟨g,5,none⟩) hH _) (p:=⟨g,6,none⟩) hH _
 ·exact (heap_setCell_other _ _ _ _ hb).trans ((heap_setCell_other _ _ _ _ hb).trans ((heap_setCell_other _ _ _ _ hb).trans ((heap_setCell_other _ _ _ _ hb).trans ((heap_setCell_other _ _ _ _ hb).trans ((heap_setCell_other _ _ _ _ hb).trans (heap_setCell_other _ _ _ _ hb))))))
mutual
def dep:Vl→Nat
 | .mk _ _ _ v _ e _=>max (depVs v) (depEs e)+1
def depVs:List Vl→Nat
 | []=>0
 | a::s=>max (dep a) (depVs s)
def depE:En→Nat
 | .mk a _ r=>max (depVs a) (dep r)
def depEs:List En→Nat
 | []=>0
 | a::s=>max (depE a) (depEs s)
end
theorem zHn:∀ {l:List Vl}{x:Vl},x∈l→dep x≤depVs l
 | a::s,x,h=>by
  simp only[depVs];rcases List.mem_cons.1 h with rfl|h
  ·omega
  ·have:=zHn h;omega
theorem zE5 {k:Nat}:∀ {l:List Vl},(∀ x∈l,dep x≤k)→depVs l≤k
 | [],_=>Nat.zero_le _
 | a::s,h=>by
  simp only[depVs];have h1:=h a (by simp);have h2:=zE5 (l:=s) fun x hx=>h x (by simp[hx]);omega
theorem zKa:∀ {l:List En}{x:En},x∈l→depE x≤depEs l
 | a::s,x,h=>by
  simp only[depEs];rcases List.mem_cons.1 h with rfl|h
  ·omega
  ·have:=zKa h;omega
theorem zI2 {k:Nat}:∀ {l:List En},(∀ x∈l,depE x≤k)→depEs l≤k
 | [],_=>Nat.zero_le _
 | a::s,h=>by
  simp only[depEs];have h1:=h a (by simp);have h2:=zI2 (l:=s) fun x hx=>h x (by simp[hx]);omega
theorem RowB.elem {w:World}{B:Nat→Prop}{c n j:Nat}{u:Value}{R:Nat→List Value→Prop}(h:RowB w B c u n R) (hj:j<n):∃ cs,R j cs:=by
 obtain⟨_,_,_,_,h3⟩:=h;obtain⟨_,_,_,_,_,h7⟩:=h3 (by omega);obtain⟨cs,_,_,h10⟩:=h7 j hj;exact⟨cs,h10⟩
theorem zDw {α:Type}{l:List α}{P:α→Prop}(h:∀ j,j<l.length→∃ x,l[j]?=some x∧P x):∀ x∈l,P x:=by
 intro x hx;obtain⟨j,hj,rfl⟩:=List.mem_iff_getElem.1 hx;obtain⟨y,hy,hP⟩:=h j hj;rw[List.getElem?_eq_getElem hj]at hy;injection hy with hy;rw[hy];exact hP
theorem VB.dep_le {w:World}{B:Nat→Prop}:∀ {k:Nat}{v:Vl}{cs:List Value},VB k w B v cs→dep v≤k
 | 0,_,_,h=>h.elim
 | k+1,.mk kind int text kids keys ents labels,cs,h=>by
  obtain⟨uk,uy,ue,ul,h1,h2,h3,h4,h5,h6,h7,h8⟩:=h;have e1:depVs kids≤k:=zE5 (zDw fun j hj=>by
   obtain⟨cs,x,hx,hv⟩:=h5.elem hj;exact⟨x,hx,VB.dep_le hv⟩)
  have e2:depEs ents≤k:=zI2 (zDw fun j hj=>by
   obtain⟨cs,args,fails,result,hx,ua,rs,hc,ha,hr⟩:=h7.elem hj;have a1:depVs args≤k:=zE5 (zDw fun i hi=>by
    obtain⟨cs,x,hx,hv⟩:=ha.elem hi;exact⟨x,hx,VB.dep_le hv⟩)
   have a2:=VB.dep_le hr;exact⟨_,hx,by simp only[depE];omega⟩)
  simp only[dep];omega
end Go.Proofs.YtcjgaohblaidjaaGreatDoor
