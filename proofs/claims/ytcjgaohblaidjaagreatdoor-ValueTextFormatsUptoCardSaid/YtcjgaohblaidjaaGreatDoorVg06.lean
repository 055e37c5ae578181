/- Slices of strings, as the walks take them: what comes in, what a call owns, and what an append makes of it; a set of names as a value. -/
import Derived.Test.YtcjgaohblaidjaaGreatDoorVgZ
import Derived.Test.YtcjgaohblaidjaaGreatDoorVg00
import Derived.Test.YtcjgaohblaidjaaGreatDoorVg02
import Derived.Test.YtcjgaohblaidjaaGreatDoorVg04
import Derived.Test.YtcjgaohblaidjaaGreatDoorProg
import Derived.Shelf.Slices.Cells
import Derived.Shelf.Slices.Clone
import Derived.Shelf.Slices.CompactS
import Derived.Shelf.Slices.In.SortNone
import Derived.Shelf.Slices.SearchI
import Derived.Shelf.SlicesE.Clone
import Derived.Shelf.Small.Bits
import Derived.Shelf.Small.Strs
import Derived.Shelf.Small.Wraps
import Derived.Shelf.Sort.Plain
import Derived.Shelf.Strconv.Itoa0
import Derived.Lib.Walk
import Derived.Lib.SliceRun
import Derived.Lib.AppendZeros
import Derived.Deep.Onto
import Derived.Sort.EncStr
import Derived.Deep.AppendLies
set_option maxRecDepth 100000
set_option maxHeartbeats 3200000
namespace Go.Proofs.YtcjgaohblaidjaaGreatDoor
open Go.RowKit Go.Sort
abbrev Strg:=List UInt8
def Short (ss:List Strg):Prop:=∀ s∈ss,s.length≤maxLen
def NmS (w:World) (B:Nat) (A:Option Addr) (n:Nat) (ss:List Strg):Prop:=
 n=ss.length∧Short ss∧(0<n→∃ b off,A=some ⟨b,off,none⟩∧b<B∧∀ j s,ss[j]?=some s→w.cell? ⟨b,off+j,none⟩=some (encStr s))
theorem NmS.below {w w':World}{B:Nat}{A:Option Addr}{n:Nat}{ss:List Strg}(h:NmS w B A n ss) (hb:Below B w w'):NmS w' B A n ss:=
 ⟨h.1,h.2.1,fun hn=>by
  obtain⟨b,off,hA,hlt,hc⟩:=h.2.2 hn;exact⟨b,off,hA,hlt,fun j s hs=>(hb.cell (p:=⟨b,off+j,none⟩) hlt).trans (hc j s hs)⟩⟩
theorem NmS.mono {w:World}{B B':Nat}{A:Option Addr}{n:Nat}{ss:List Strg}(h:NmS w B A n ss) (hB:B≤B'):NmS w B' A n ss:=
 ⟨h.1,h.2.1,fun hn=>by
  obtain⟨b,off,hA,hlt,hc⟩:=h.2.2 hn;exact⟨b,off,hA,by omega,hc⟩⟩
theorem NmS.nil (w:World) (B:Nat) (A:Option Addr):NmS w B A 0 []:=⟨rfl,by simp[Short],fun h=>by omega⟩
theorem NmS.kept {w w':World}{B:Nat}{A:Option Addr}{n:Nat}{ss:List Strg}(h:NmS w B A n ss) (hb:Below B w w') (hB:B≤w'.heap.size):NmS w' w'.heap.size A n ss:=(h.below hb).mono hB
theorem NmS.on {w w':World}{A:Option Addr}{n:Nat}{ss:List Strg}(h:NmS w w.heap.size A n ss) (hb:Below w.heap.size w w'):NmS w' w'.heap.size A n ss:=h.kept hb hb.size
theorem NmS.drewN {w:World}{B:Nat}{A:Option Addr}{n:Nat}{ss:List Strg}(h:NmS w B A n ss) (q:Nat):NmS (w.drewN q) B A n ss:=h
theorem NmS.at {w:World}{B:Nat}{A:Option Addr}{n:Nat}{ss:List Strg}(h:NmS w B A n ss){k:Nat}(hk:k<n) :
  ∃ b off s,A=some ⟨b,off,none⟩∧b<B∧ss[k]?=some s∧s.length≤maxLen∧w.cell? ⟨b,off+k,none⟩=some (.string ⟨s.toArray⟩):=by
 obtain⟨b,off,hA,hb,hc⟩:=h.2.2 (by omega);have hx:ss[k]?=some (ss[k]'(by have:=h.1;omega)):=List.getElem?_eq_getElem _;exact⟨b,off,_,hA,hb,hx,h.2.1 _ (List.mem_of_getElem? hx),hc k _ hx⟩
theorem NmS.take {w:World}{B n g o:Nat}{ss:List Strg}(h:NmS w B (some ⟨g,o,none⟩) n ss){p:Nat}(hp:p≤n):NmS w B (some ⟨g,o,none⟩) p (ss.take p):=by
 refine⟨by rw[List.length_take,←h.1];omega,fun s hs=>h.2.1 s (List.mem_of_mem_take hs),fun hn=>?_⟩;obtain⟨b,off,hA,hb,hc⟩:=h.2.2 (by omega);refine⟨b,off,hA,hb,fun j s hs=>hc j s ?_⟩;rw[List.getElem?_take]at hs;split at hs
 ·exact hs
 ·cases hs
theorem NmS.drop {w:World}{B n g o:Nat}{ss:List Strg}(h:NmS w B (some ⟨g,o,none⟩) n ss){p:Nat}(hp:p<n):NmS w B (some ⟨g,o+p,none⟩) (n-p) (ss.drop p):=by
 refine⟨by rw[List.length_drop,←h.1],fun s hs=>h.2.1 s (List.mem_of_mem_drop hs),fun hn=>?_⟩;obtain⟨b,off,hA,hb,hc⟩:=h.2.2 (by omega);injection hA with hA;injection hA with e1 e2 _;subst e1 e2;refine⟨g,o+p,rfl,hb,fun j s hs=>?_⟩;rw[List.getElem?_drop]at hs;rw[Nat.add_assoc];exact hc (p+j) s hs
def OwnN (w:World) (B:Nat) (v:Value) (ss:List Strg):Prop:=w.ownsRow B 9 1 v ss.length (ss.map encStr)
theorem zN0 (ss:List Strg):∀ u∈ss.map encStr,u.oneCell'=true:=by
 intro u hu;obtain⟨s,_,rfl⟩:=List.mem_map.1 hu;rfl
theorem OwnN.nil (w:World) (B:Nat):OwnN w B (.slice none 0 0) []:=World.ownsRow_nil _ _ _ _
theorem OwnN.form {w:World}{B:Nat}{v:Value}{ss:List Strg}(h:OwnN w B v ss):∃ A c,v=.slice A ss.length c:=by
 rcases h.2 with⟨rfl,h0⟩|⟨g,cap,cur,rfl,_⟩
 ·rw[h0];exact⟨_,_,rfl⟩
 ·exact⟨_,_,rfl⟩
theorem OwnN.formG {w:World}{B:Nat}{v:Value}{ss:List Strg}(h:OwnN w B v ss) (hl:0<ss.length) :
  ∃ g cap,v=.slice (some ⟨g,0,none⟩) ss.length cap∧B≤g∧g<w.heap.size∧ss.length≤cap:=by
 have hlt:=h.lt;rcases h.2 with⟨_,h0⟩|⟨g,cap,cur,rfl,hB,hg,hnc,_⟩
 ·omega
 ·exact⟨g,cap,rfl,hB,(hlt g rfl).2,hnc⟩
theorem OwnN.rng {w:World}{B:Nat}{A:Option Addr}{n c:Nat}{ss:List Strg}(h:OwnN w B (.slice A n c) ss) (hf:Short ss):NmS w w.heap.size A n ss:=by
 have hl:=h.lt;rcases h.2 with⟨hv,h0⟩|⟨g,cap,cur,hv,hB,hg,hnc,hcm,hcz,htk⟩
 ·injection hv with e1 e2 e3;subst e1 e2;exact⟨h0.symm,hf,fun h=>by omega⟩
 ·injection hv with e1 e2 e3;subst e1 e2;refine⟨rfl,hf,fun _=>⟨g,0,rfl,(hl g rfl).2,fun j s hj=>?_⟩⟩;have hlt:j<ss.length:=(List.getElem?_eq_some_iff.1 hj).1;have:=World.ownsRow.cellAt h j (by omega);rw[Nat.zero_add,this,List.getElem?_map,hj];rfl
theorem OwnN.old {w w':World}{B:Nat}{v:Value}{ss:List Strg}(h:OwnN w B v ss) (hb:Below w.heap.size w w'):OwnN w' B v ss:=by
 have hl:=h.lt;refine⟨h.1,?_⟩;rcases h.2 with hn|⟨g,cap,cur,rfl,hB,hg,rest⟩
 ·exact .inl hn
 ·exact .inr ⟨g,cap,cur,rfl,hB,by rw[hb.block g (hl g rfl).2];exact hg,rest⟩
theorem OwnN.drewN {w:World}{B:Nat}{v:Value}{ss:List Strg}(h:OwnN w B v ss) (n:Nat):OwnN (w.drewN n) B v ss:=h
theorem zB3 {B:Nat}{a w:World}(h:Below B a w) (n:Nat):Below B a (w.drewN n):=⟨h.os,h.tape,h.output,h.size,h.block⟩
theorem OwnN.mono {w:World}{B B':Nat}{v:Value}{ss:List Strg}(h:OwnN w B v ss) (hB:B'≤B):OwnN w B' v ss:=by
 refine⟨h.1,?_⟩;rcases h.2 with hn|⟨g,cap,cur,hv,hg,rest⟩
 ·exact .inl hn
 ·exact .inr ⟨g,cap,cur,hv,by omega,rest⟩
theorem OwnN.below {w0 w1:World}{B:Nat}{v:Value}{ss:List Strg}{o:Obj}(h:OwnN w0 B v ss) (hb:B≤w0.heap.size) (hg:(w0.alloc o).grownBy w1 v.ownBlock):Below B w0 w1:=
 ((Below.refl B w0).alloc hb o).grown hg (by simp;omega) (fun j hj=>(h.lt j hj).1)
theorem OwnN.lit (w:World) (B:Nat) (hB:B≤w.heap.size) (ss:List Strg) (cells:Array Value) (n:Nat) (hn:ss.length=n) (hc:cells.toList=ss.map encStr) (hl:ss.length≤maxLen) :
  OwnN (w.alloc (.cells cells 9)) B (.slice (some ⟨w.heap.size,0,none⟩) n n) ss:=by
 subst hn;have hsz:cells.size=ss.length:=by rw[←Array.length_toList,hc,List.length_map]
 exact⟨by simp,.inr ⟨w.heap.size,ss.length,cells,rfl,hB,heap_alloc_new w _,Nat.le_refl _,hl,by omega,by rw[hc];rw[List.take_of_length_le];simp⟩⟩
theorem zLq {ops:Array Oper}{rest:List Oper}{o:Oper}{a:Act}{Q:Exit→Act→World→Prop}{w0:World}(hgd:o.guard=none) (s x:Operand)
  (ho:o.op=.call { callee:=.builtin .append,args:=#[s,x],argTypes:=#[25,25] }) (B:Nat) (v:Value) (l:List Strg) (hs:a.eval s=v) (hown:OwnN w0 B v l)
  (l':List Strg) (m c:Nat) (hm:l'.length=m) (cells:Array Value) (hc:cells.toList=l'.map encStr) (H:Nat) (hH:w0.heap.size=H) (hx:a.eval x=.slice (some ⟨H,0,none⟩) m c)
  (hbytes:l.length+m≤1000000000) (hbase:B≤w0.heap.size)
  (h:∀ v' w',OwnN w' B v' (l++l')→Below B w0 w'→wpList Tryz.prog ops Q rest (a.put o.dst v') w') :
  wpList Tryz.prog ops Q (o::rest) a (w0.alloc (.cells cells 9)):=by
 obtain⟨i0,hi,hz0,hz1,hz2⟩:=info_parts Tryz.infoStr;subst hm;subst hH;refine wpList_append_own _ hgd s x 25 ho B 9 i0 (.string ⟨#[]⟩) 1 16 Tryz.underlying25 hi hz0 hz1 hz2 rfl (by decide) v l.length (l.map encStr) hs (World.ownsRow.alloc hown _)
  ⟨w0.heap.size,0,none⟩ l'.length c (l'.map encStr) hx (by simp) ?_ (zN0 l') (by unfold maxLen;omega) (by omega) (by simp;omega) ?_
 ·rw[←hc];exact World.news_of_block (heap_alloc_new w0 _)
 ·intro v' w' h1 h2 _;exact h v' w' (by unfold OwnN;rw[List.length_append,List.map_append];exact h1) (hown.below hbase h2)
theorem zJm {w:World}{B:Nat}{v:Value}{l:List Strg}(h:OwnN w B v l) (c:Nat) (ty:TypeId):(Builtin.append_ #[25,25] ty #[v,.slice none 0 c]).run Tryz.prog w=.ok v w:=by
 obtain⟨i,hi,hz0,hz1,hz2⟩:=info_parts Tryz.infoStr;rcases h.2 with⟨rfl,_⟩|⟨g,cap,cur,rfl,_,_,hnc,_⟩
 ·simp[Builtin.append_,run_underlying Tryz.underlying25,sizeOf,typeInfo,hi,Builtin.lenOf,Builtin.firstCells]
 ·simp[Builtin.append_,run_underlying Tryz.underlying25,sizeOf,typeInfo,hi,Builtin.lenOf,Builtin.firstCells,hnc,storeCells]
theorem zMj (b off q:Nat):(⟨b,off,none⟩:Addr).add q=⟨b,off+q,none⟩:=by
 unfold Addr.add;rcases Nat.eq_zero_or_pos q with h|h
 ·subst h;simp
 ·simp[Nat.ne_of_gt h]
theorem zBf {w:World}{B B':Nat}{v:Value}{l:List Strg}(h:OwnN w B v l) (hB:B≤w.heap.size) (A:Option Addr) (m c:Nat) (ss:List Strg) (hR:NmS w B' A m ss) (hbytes:l.length+m≤1000000000) (ty:TypeId) :
  ∃ v' w',(Builtin.append_ #[25,25] ty #[v,.slice A m c]).run Tryz.prog w=.ok v' w'∧OwnN w' B v' (l++ss)∧w.grownBy w' v.ownBlock:=by
 obtain⟨i0,hi,hz0,hz1,hz2⟩:=info_parts Tryz.infoStr;rcases Nat.eq_zero_or_pos m with h0|h0
 ·have hr:ss=[]:=List.eq_nil_of_length_eq_zero (hR.1.symm.trans h0);subst hr;subst h0;rcases A with _|a
  ·exact⟨v,w,zJm h c ty,by rw[List.append_nil];exact h,⟨rfl,rfl,rfl,Nat.le_refl _,fun _ _ _=>rfl⟩⟩
  ·obtain⟨v',w',h1,h2,h3,_⟩:=run_append_own w B 25 ty 9 i0 (.string ⟨#[]⟩) 1 16 Tryz.underlying25 hi hz0 hz1 hz2 rfl (by decide) v l.length (l.map encStr) h a 0 c [] rfl (by intro j u hj;simp at hj) (by intro u hu;cases hu) (by unfold maxLen;omega) (by omega) hB;exact⟨v',w',h1,by unfold OwnN;rw[List.append_nil];simpa using h2,h3⟩
 ·obtain⟨b,off,rfl,hb,hc⟩:=hR.2.2 h0;have hm:=hR.1;obtain⟨v',w',h1,h2,h3,_⟩:=run_append_own w B 25 ty 9 i0 (.string ⟨#[]⟩) 1 16 Tryz.underlying25 hi hz0 hz1 hz2 rfl (by decide) v l.length (l.map encStr) h ⟨b,off,none⟩ m c (ss.map encStr) (by rw[List.length_map,hm];omega) (by
   intro j u hj;rw[zMj];rw[List.getElem?_map]at hj;obtain⟨s,hs,rfl⟩:=Option.map_eq_some_iff.1 hj;exact hc j s hs) (zN0 ss) (by unfold maxLen;omega) (by omega) hB
  exact⟨v',w',h1,by unfold OwnN;rw[List.length_append,List.map_append,←hm];exact h2,h3⟩
theorem zFc {ops:Array Oper}{rest:List Oper}{o:Oper}{a:Act}{Q:Exit→Act→World→Prop}{w:World}(hgd:o.guard=none) (s x:Operand)
  (ho:o.op=.call { callee:=.builtin .append,args:=#[s,x],argTypes:=#[25,25] }) (B B':Nat) (v:Value) (l:List Strg) (hs:a.eval s=v) (hown:OwnN w B v l)
  (A:Option Addr) (m c:Nat) (ss:List Strg) (hx:a.eval x=.slice A m c) (hR:NmS w B' A m ss) (hbytes:l.length+m≤1000000000) (hbase:B≤w.heap.size)
  (h:∀ v' w',OwnN w' B v' (l++ss)→Below B w w'→wpList Tryz.prog ops Q rest (a.put o.dst v') w') :
  wpList Tryz.prog ops Q (o::rest) a w:=by
 obtain⟨v',w',h1,h2,h3⟩:=zBf hown hbase A m c ss hR hbytes o.type;exact Lib.wpList_append_run w hgd s x 25 25 ho v (.slice A m c) hs hx v' w' h1 (h v' w' h2 ((Below.refl B w).grown h3 hbase (fun j hj=>(hown.lt j hj).1)))
def RetN (co:Bool) (p:Strg→Bool) (k:Nat) (w:World) (e:Ending) (w':World):Prop:=
 ∃ m A c,e=.returned (.agg #[.bool co,.slice A m.length c])∧OwnN w' w.heap.size (.slice A m.length c) m∧Short m∧IsSet co m p∧m.length≤k∧Below w.heap.size w w'
theorem RetN.congr {co co':Bool}{p p':Strg→Bool}{k k':Nat}{w w':World}{e:Ending}(h:RetN co p k w e w') (hc:co=co') (hp:∀ x,p x=p' x) (hk:k≤k'):RetN co' p' k' w e w':=by
 subst hc;obtain⟨m,A,c,h1,h2,h6,h3,h4,h5⟩:=h;exact⟨m,A,c,h1,h2,h6,h3.congr rfl hp,by omega,h5⟩
theorem zDs (A:Option Addr) (n c:Nat) (ss:List Strg) (w:World) (hR:NmS w w.heap.size A n ss) (hn:n≤1000000) :
  Calls Tryz.prog 63 #[.slice A n c] w fun e w'=>∃ A' c',e=.returned (.slice A' (srt ss).length c')∧OwnN w' w.heap.size (.slice A' (srt ss).length c') (srt ss)∧Below w.heap.size w w':=by
 have HR:=xI hR;clear hR;go_enter Tryz.func63,Tryz.ntmps63;go_wp2_with fail
 go_loopw [3,4] (fun v i wr=>∃ (k:Nat) (Ao:Option Addr) (cap:Nat) (out:List Strg),i=.int .i64 k∧k≤n∧v=.slice Ao out.length cap∧OwnN wr w.heap.size (.slice Ao out.length cap) out∧out=srt (ss.take k)∧(out.length=0→Ao=none∧cap=0)∧Below w.heap.size w wr) (fun _ i _=>n-(intOf i).toNat)
 case atStart=>exact⟨0,none,0,[],rfl,by omega,rfl,OwnN.nil _ _,by rw[List.take_zero];exact zOn zO5 (fun x=>Iff.rfl),fun _=>⟨rfl,rfl⟩,Below.refl _ _⟩
 case round=>
  obtain⟨k,Ao,cap,out,rfl,hk,rfl,hO,hout,hnil,hb⟩:=hrel;have HOU:=xI hout;have HOO:=xI hO;have hsr:=hb.size;clear hout;by_cases hkn:k<n
  ·obtain⟨bs,offs,s,rfl,hbs,hx,hs,cs⟩:=(HR.out.below hb).at hkn;have HX:=xI hx;have HSO:Hid (Short out):=xI (fun x hx=>HR.out.2.1 x (List.mem_of_mem_take ((zDb _ x).1 (by rw[←HOU.out];exact hx))));have hol:out.length≤n:=by
    rw[HOU.out];exact Nat.le_trans (zNs _) (Nat.le_trans (zBk _ _) (by have:=HR.out.1;omega))
   have HNM:=xI (hO.rng HSO.out);have kn:(k:Int)<(n:Int):=by omega
   have k0:(0:Int)≤(k:Int):=by omega
   clear hx;by_cases he:out.length=0
   ·obtain⟨rfl,rfl⟩:=hnil he;obtain rfl:out=[]:=List.eq_nil_of_length_eq_zero he;clear hnil he hO;go_wp2_with fail
    go_loopw [5] (fun i wq=>i=.int .i64 0∧∃ q,wq=wr.drewN q) (fun i _=>0)
    case atStart=>exact⟨rfl,0,rfl⟩
    case round=>
     obtain⟨rfl,q,rfl⟩:=hrel;go_wp2_with fail
     go_quiet (fail)
     go_wp2_with fail
     go_quiet (fail)
     go_wp2_with fail;have HLO:Hid (∀ y∈([]:List Strg).take 0,bl y s=true):=xI (by simp);have HHI:Hid (∀ z,([]:List Strg)[0]?=some z→bl s z=true):=xI (by simp);generalize hw1:wr.drewN _=w1;have hb1:Below wr.heap.size wr w1:=by rw[←hw1];exact zB3 bR _
     have ho1:OwnN w1 wr.heap.size (.slice none 0 0) ([]++([]:List Strg).take 0):=OwnN.nil _ _;clear hw1;have hz1:=hb1.size;have HS:∀ wq,Below wr.heap.size wr wq→wq.cell? ⟨bs,offs+k,none⟩=some (.string ⟨s.toArray⟩):=fun wq h=>(h.cell (p:=⟨bs,offs+k,none⟩) (by show bs<wr.heap.size;omega)).trans cs;have hbA:Below wr.heap.size wr (w1.drew.alloc (.cells #[.string ⟨s.toArray⟩] 9)):=hb1.drew.alloc (by show wr.heap.size≤w1.heap.size;omega) _;have hlit:OwnN (w1.drew.alloc (.cells #[.string ⟨s.toArray⟩] 9)) w1.heap.size (.slice (some ⟨w1.heap.size,0,none⟩) 1 1) [s]:=OwnN.lit w1.drew w1.heap.size lR [s] _ 1 rfl rfl (by unfold maxLen;simp);have hown1:OwnN (w1.drew.alloc (.cells #[.string ⟨s.toArray⟩] 9)) wr.heap.size (.slice none 0 0) ([]++([]:List Strg).take 0):=ho1.old ((bR.drew).alloc lR _);have hlt1:(([]:List Strg).take 0).length≤0:=zBk _ _;obtain⟨v2,w2,hr2,ho2,hg2⟩:=zBf hown1 (by have:=hbA.size;omega) (some ⟨w1.heap.size,0,none⟩) 1 1 [s] (hlit.rng (fun x hx=>by rw[List.mem_singleton.1 hx];exact hs)) (by simp only[List.nil_append];omega) 25;have hb2:Below wr.heap.size wr w2:=hbA.grown hg2 (by have:=hbA.size;omega) (fun j hj=>(hown1.lt j hj).1);obtain⟨v3,w3,hr3,ho3,hg3⟩:=zBf (B':=wr.heap.size) ho2 hb2.size (none) (0) (0) ([]) (NmS.nil _ _ _) (by simp<;>omega) 25;have hb3:Below wr.heap.size wr w3:=hb2.grown hg3 hb2.size (fun j hj=>(ho2.lt j hj).1);have HINS:=xI (zIz HOU.out HX.out HLO.out HHI.out);obtain⟨A3,c3,rfl⟩:=ho3.form;have hfin:(([]++([]:List Strg).take 0)++[s])++[]=([]:List Strg).take 0++s::([]:List Strg).drop 0:=by simp
     rw[hfin]at ho3 hr3;rw[HINS.out]at ho3 hr3;have hlen:¬ (srt (ss.take (k+1))).length=0:=by rw[←HINS.out];simp
     have HO3:=xI (ho3.mono hsr);have HB3:=xI (hb.trans (hb3.mono hsr));generalize hLL:(srt (ss.take (k+1))).length=LL at *;have HLL:=xI hLL;clear ho1 hlit hown1 ho2 ho3 hg2 hg3 hfin hlt1 hLL;refine wp_region_held_drew (S:=fun wq=>wq.cell? ⟨bs,offs+k,none⟩=some (.string ⟨s.toArray⟩)) (by kernel_rfl) (HS _ hb1.drew) (fun hHeld=>?_);refine tk 0 hHeld ?_;simp only[Act.put,List.setIfInBounds_toArray,List.set_cons_zero,List.set_cons_succ];refine tk 1 hHeld ?_;simp only[Act.put,List.setIfInBounds_toArray,List.set_cons_zero,List.set_cons_succ];refine tk 2 hHeld ?_;simp only[Act.put,List.setIfInBounds_toArray,List.set_cons_zero,List.set_cons_succ];refine tk 3 hHeld ?_;simp only[Act.put,List.setIfInBounds_toArray,List.set_cons_zero,List.set_cons_succ];refine tk 4 hHeld ?_;simp only[Act.put,List.setIfInBounds_toArray,List.set_cons_zero,List.set_cons_succ];refine tk 7 hHeld ?_;simp only[Act.put,List.setIfInBounds_toArray,List.set_cons_zero,List.set_cons_succ];refine tk 8 hHeld ?_;simp only[Act.put,List.setIfInBounds_toArray,List.set_cons_zero,List.set_cons_succ];refine tk 9 hHeld ?_;simp only[Act.put,List.setIfInBounds_toArray,List.set_cons_zero,List.set_cons_succ];refine oO 5 fun K hK=>?_;go_simp;refine hK _ _ (HS _ hbA) ?_
     try simp only[pK]
     refine oO 6 fun K hK=>?_;refine Lib.wp_append_run _ _ _ _ _ rfl _ _ rfl rfl v2 w2 hr2 ?_;refine hK _ _ (HS _ hb2) ?_
     try simp only[pK]
     refine oO 10 fun K hK=>?_;refine Lib.wp_append_run _ _ _ _ _ rfl _ _ rfl rfl _ w3 hr3 ?_;refine hK _ _ (HS _ hb3) ?_
     try simp only[pK]
     refine oO 11 fun K hK=>?_;go_simp;refine hK _ _ (HS _ hb3) ?_
     try simp only[pK]
     refine (wD ?_) _;go_wp2_with fail
     go_roundw
     case rel=>exact⟨k+1,A3,c3,srt (ss.take (k+1)),by go_num,by omega,by rw[HLL.out],by rw[HLL.out];exact HO3.out,rfl,fun h=>absurd (HLL.out ▸ h) hlen,HB3.out⟩
     case measure=>simp[intOf];omega
   ·obtain⟨g,cap',hv,hBg,hgs,hlc⟩:=hO.formG (by omega);injection hv with e1 e2 e3;subst e1 e3;clear hnil hO;go_wp2_with fail
    go_loopw [5] (fun i wq=>∃ p:Nat,i=.int .i64 p∧p≤out.length∧(∀ y∈out.take p,bl y s=true)∧∃ q,wq=wr.drewN q) (fun i _=>out.length-(intOf i).toNat)
    case atStart=>exact⟨0,rfl,Nat.zero_le _,by simp,0,rfl⟩
    case round=>
     obtain⟨p,rfl,hp,hlo,q,rfl⟩:=hrel;have HLO:=xI hlo;have hpc:p≤cap:=by omega
     have hcz:¬ cap=0:=by omega
     clear hlo;by_cases hpl:p<out.length
     ·obtain⟨g',og',y,hA,hg,hy,hys,cy⟩:=HNM.out.at hpl;injection hA with hA;injection hA with e1 e2;subst e1 e2;rw[Nat.zero_add]at cy;have HY:=xI hy;have pl:(p:Int)<(out.length:Int):=by omega
      have p0:(0:Int)≤(p:Int):=by omega
      have hcp:¬ cap=p:=by omega
      clear hy;cases hbl:bl y s
      ·have qb:Op.bytesLess y s=false:=hbl;by_cases hys:y=s
       ·subst hys;have qs:(y==y)=true:=by simp
        have HT:=xI (zPj HOU.out HX.out (List.mem_of_getElem? HY.out));go_wp2_with fail
        go_quiet (fail)
        go_wp2_with fail
        go_quiet (fail)
        go_wp2_with fail
        go_roundw
        case rel=>exact⟨k+1,_,cap,out,by go_num,by omega,rfl,HOO.out,HT.out,fun h=>absurd h he,zB3 hb _⟩
        case measure=>simp[intOf];omega
       ·have qs:(y==s)=false:=by rw[beq_eq_false_iff_ne];exact hys
        have HHI:Hid (∀ z,out[p]?=some z→bl s z=true):=xI (fun z hz=>by
         rw[HY.out]at hz;injection hz with hz;rw[←hz];rcases zMe s y with h|h|h
         ·exact h
         ·exact absurd h.symm hys
         ·rw[hbl]at h;cases h)
        clear hbl hys;go_wp2_with fail
        go_quiet (fail)
        go_wp2_with fail
        go_quiet (fail)
        go_wp2_with (at_builtin;(refine zFc rfl _ _ rfl wr.heap.size wr.heap.size (.slice none 0 0) [] rfl (OwnN.nil _ _) (some ⟨g,0,none⟩) p _ (out.take p) rfl ((HNM.out.take (by omega)).drewN _) (by simp only[List.length_nil];omega) lR ?_);intro v1 w1 ho1 hb1';refine Hid.out ?_);refine xI ?_;have hb1:Below wr.heap.size wr w1:=(zB3 bR _).trans hb1';clear hb1';go_wp2_with fail;have hz1:=hb1.size;have HS:∀ wq,Below wr.heap.size wr wq→wq.cell? ⟨bs,offs+k,none⟩=some (.string ⟨s.toArray⟩):=fun wq h=>(h.cell (p:=⟨bs,offs+k,none⟩) (by show bs<wr.heap.size;omega)).trans cs;have hbA:Below wr.heap.size wr (w1.drew.alloc (.cells #[.string ⟨s.toArray⟩] 9)):=hb1.drew.alloc (by show wr.heap.size≤w1.heap.size;omega) _;have hlit:OwnN (w1.drew.alloc (.cells #[.string ⟨s.toArray⟩] 9)) w1.heap.size (.slice (some ⟨w1.heap.size,0,none⟩) 1 1) [s]:=OwnN.lit w1.drew w1.heap.size lR [s] _ 1 rfl rfl (by unfold maxLen;simp);have hown1:OwnN (w1.drew.alloc (.cells #[.string ⟨s.toArray⟩] 9)) wr.heap.size v1 ([]++out.take p):=ho1.old ((bR.drew).alloc lR _);have hlt1:(out.take p).length≤out.length:=zBk _ _;obtain⟨v2,w2,hr2,ho2,hg2⟩:=zBf hown1 (by have:=hbA.size;omega) (some ⟨w1.heap.size,0,none⟩) 1 1 [s] (hlit.rng (fun x hx=>by rw[List.mem_singleton.1 hx];exact hs)) (by simp only[List.nil_append];omega) 25;have hb2:Below wr.heap.size wr w2:=hbA.grown hg2 (by have:=hbA.size;omega) (fun j hj=>(hown1.lt j hj).1);obtain⟨v3,w3,hr3,ho3,hg3⟩:=zBf (B':=wr.heap.size) ho2 hb2.size (some ⟨g,p,none⟩) (out.length-p) (cap-p) (out.drop p) (by have:=HNM.out.drop hpl;rw[Nat.zero_add]at this;exact this.below hb2) (by simp<;>omega) 25;have hb3:Below wr.heap.size wr w3:=hb2.grown hg3 hb2.size (fun j hj=>(ho2.lt j hj).1);have HINS:=xI (zIz HOU.out HX.out HLO.out HHI.out);obtain⟨A3,c3,rfl⟩:=ho3.form;have hfin:(([]++out.take p)++[s])++out.drop p=out.take p++s::out.drop p:=by simp
        rw[hfin]at ho3 hr3;rw[HINS.out]at ho3 hr3;have hlen:¬ (srt (ss.take (k+1))).length=0:=by rw[←HINS.out];simp
        have HO3:=xI (ho3.mono hsr);have HB3:=xI (hb.trans (hb3.mono hsr));generalize hLL:(srt (ss.take (k+1))).length=LL at *;have HLL:=xI hLL;clear ho1 hlit hown1 ho2 ho3 hg2 hg3 hfin hlt1 hLL;refine wp_region_held_drew (S:=fun wq=>wq.cell? ⟨bs,offs+k,none⟩=some (.string ⟨s.toArray⟩)) (by kernel_rfl) (HS _ hb1.drew) (fun hHeld=>?_);refine tk 0 hHeld ?_;simp only[Act.put,List.setIfInBounds_toArray,List.set_cons_zero,List.set_cons_succ];refine tk 1 hHeld ?_;simp only[Act.put,List.setIfInBounds_toArray,List.set_cons_zero,List.set_cons_succ];refine tk 2 hHeld ?_;simp only[Act.put,List.setIfInBounds_toArray,List.set_cons_zero,List.set_cons_succ];refine tk 3 hHeld ?_;simp only[Act.put,List.setIfInBounds_toArray,List.set_cons_zero,List.set_cons_succ];refine tk 4 hHeld ?_;simp only[Act.put,List.setIfInBounds_toArray,List.set_cons_zero,List.set_cons_succ];refine tk 7 hHeld ?_;simp only[Act.put,List.setIfInBounds_toArray,List.set_cons_zero,List.set_cons_succ];refine tk 8 hHeld ?_;simp only[Act.put,List.setIfInBounds_toArray,List.set_cons_zero,List.set_cons_succ];refine tk 9 hHeld ?_;simp only[Act.put,List.setIfInBounds_toArray,List.set_cons_zero,List.set_cons_succ];refine oO 5 fun K hK=>?_;go_simp;refine hK _ _ (HS _ hbA) ?_
        try simp only[pK]
        refine oO 6 fun K hK=>?_;refine Lib.wp_append_run _ _ _ _ _ rfl _ _ rfl rfl v2 w2 hr2 ?_;refine hK _ _ (HS _ hb2) ?_
        try simp only[pK]
        refine oO 10 fun K hK=>?_;refine Lib.wp_append_run _ _ _ _ _ rfl _ _ rfl rfl _ w3 hr3 ?_;refine hK _ _ (HS _ hb3) ?_
        try simp only[pK]
        refine oO 11 fun K hK=>?_;go_simp;refine hK _ _ (HS _ hb3) ?_
        try simp only[pK]
        refine (wD ?_) _;go_wp2_with fail
        go_roundw
        case rel=>exact⟨k+1,A3,c3,srt (ss.take (k+1)),by go_num,by omega,by rw[HLL.out],by rw[HLL.out];exact HO3.out,rfl,fun h=>absurd (HLL.out ▸ h) hlen,HB3.out⟩
        case measure=>simp[intOf];omega
      ·have qb:Op.bytesLess y s=true:=hbl;have HT:Hid (∀ z∈out.take (p+1),bl z s=true):=xI (fun z hz=>by
        rw[List.take_add_one,HY.out]at hz;rcases List.mem_append.1 hz with hz|hz
        ·exact HLO.out z hz
        ·obtain rfl:z=y:=by simpa using hz
         exact hbl)
       clear hbl;go_wp2_with fail
       go_quiet (fail)
       go_wp2_with fail
       go_roundw
       case rel=>exact⟨p+1,by go_num,by omega,HT.out,_,by first|rfl|rw[World.drewN_drewN]⟩
       case measure=>simp[intOf];omega
     ·have pl:decide ((p:Int)<(out.length:Int))=false:=by simpa using hpl
      obtain rfl:p=out.length:=by omega
      have HHI:Hid (∀ z,out[out.length]?=some z→bl s z=true):=xI (fun z hz=>by simp at hz);by_cases hcp:cap=out.length
      ·go_wp2_with fail
       go_quiet (fail)
       go_wp2_with fail
       go_quiet (fail)
       go_wp2_with (at_builtin;(refine zFc rfl _ _ rfl wr.heap.size wr.heap.size (.slice none 0 0) [] rfl (OwnN.nil _ _) (some ⟨g,0,none⟩) out.length _ (out.take out.length) rfl ((HNM.out.take (by omega)).drewN _) (by simp only[List.length_nil];omega) lR ?_);intro v1 w1 ho1 hb1';refine Hid.out ?_);refine xI ?_;have hb1:Below wr.heap.size wr w1:=(zB3 bR _).trans hb1';clear hb1';go_wp2_with fail;have hz1:=hb1.size;have HS:∀ wq,Below wr.heap.size wr wq→wq.cell? ⟨bs,offs+k,none⟩=some (.string ⟨s.toArray⟩):=fun wq h=>(h.cell (p:=⟨bs,offs+k,none⟩) (by show bs<wr.heap.size;omega)).trans cs;have hbA:Below wr.heap.size wr (w1.drew.alloc (.cells #[.string ⟨s.toArray⟩] 9)):=hb1.drew.alloc (by show wr.heap.size≤w1.heap.size;omega) _;have hlit:OwnN (w1.drew.alloc (.cells #[.string ⟨s.toArray⟩] 9)) w1.heap.size (.slice (some ⟨w1.heap.size,0,none⟩) 1 1) [s]:=OwnN.lit w1.drew w1.heap.size lR [s] _ 1 rfl rfl (by unfold maxLen;simp);have hown1:OwnN (w1.drew.alloc (.cells #[.string ⟨s.toArray⟩] 9)) wr.heap.size v1 ([]++out.take out.length):=ho1.old ((bR.drew).alloc lR _);have hlt1:(out.take out.length).length≤out.length:=zBk _ _;obtain⟨v2,w2,hr2,ho2,hg2⟩:=zBf hown1 (by have:=hbA.size;omega) (some ⟨w1.heap.size,0,none⟩) 1 1 [s] (hlit.rng (fun x hx=>by rw[List.mem_singleton.1 hx];exact hs)) (by simp only[List.nil_append];omega) 25;have hb2:Below wr.heap.size wr w2:=hbA.grown hg2 (by have:=hbA.size;omega) (fun j hj=>(hown1.lt j hj).1);obtain⟨v3,w3,hr3,ho3,hg3⟩:=zBf (B':=wr.heap.size) ho2 hb2.size (some ⟨g,0,none⟩) (0) (0) ([]) (NmS.nil _ _ _) (by simp<;>omega) 25;have hb3:Below wr.heap.size wr w3:=hb2.grown hg3 hb2.size (fun j hj=>(ho2.lt j hj).1);have HINS:=xI (zIz HOU.out HX.out HLO.out HHI.out);obtain⟨A3,c3,rfl⟩:=ho3.form;have hfin:(([]++out.take out.length)++[s])++[]=out.take out.length++s::out.drop out.length:=by simp
       rw[hfin]at ho3 hr3;rw[HINS.out]at ho3 hr3;have hlen:¬ (srt (ss.take (k+1))).length=0:=by rw[←HINS.out];simp
       have HO3:=xI (ho3.mono hsr);have HB3:=xI (hb.trans (hb3.mono hsr));generalize hLL:(srt (ss.take (k+1))).length=LL at *;have HLL:=xI hLL;clear ho1 hlit hown1 ho2 ho3 hg2 hg3 hfin hlt1 hLL;refine wp_region_held_drew (S:=fun wq=>wq.cell? ⟨bs,offs+k,none⟩=some (.string ⟨s.toArray⟩)) (by kernel_rfl) (HS _ hb1.drew) (fun hHeld=>?_);refine tk 0 hHeld ?_;simp only[Act.put,List.setIfInBounds_toArray,List.set_cons_zero,List.set_cons_succ];refine tk 1 hHeld ?_;simp only[Act.put,List.setIfInBounds_toArray,List.set_cons_zero,List.set_cons_succ];refine tk 2 hHeld ?_;simp only[Act.put,List.setIfInBounds_toArray,List.set_cons_zero,List.set_cons_succ];refine tk 3 hHeld ?_;simp only[Act.put,List.setIfInBounds_toArray,List.set_cons_zero,List.set_cons_succ];refine tk 4 hHeld ?_;simp only[Act.put,List.setIfInBounds_toArray,List.set_cons_zero,List.set_cons_succ];refine tk 7 hHeld ?_;simp only[Act.put,List.setIfInBounds_toArray,List.set_cons_zero,List.set_cons_succ];refine tk 8 hHeld ?_;simp only[Act.put,List.setIfInBounds_toArray,List.set_cons_zero,List.set_cons_succ];refine tk 9 hHeld ?_;simp only[Act.put,List.setIfInBounds_toArray,List.set_cons_zero,List.set_cons_succ];refine oO 5 fun K hK=>?_;go_simp;refine hK _ _ (HS _ hbA) ?_
       try simp only[pK]
       refine oO 6 fun K hK=>?_;refine Lib.wp_append_run _ _ _ _ _ rfl _ _ rfl rfl v2 w2 hr2 ?_;refine hK _ _ (HS _ hb2) ?_
       try simp only[pK]
       refine oO 10 fun K hK=>?_;refine Lib.wp_append_run _ _ _ _ _ rfl _ _ rfl rfl _ w3 hr3 ?_;refine hK _ _ (HS _ hb3) ?_
       try simp only[pK]
       refine oO 11 fun K hK=>?_;go_simp;refine hK _ _ (HS _ hb3) ?_
       try simp only[pK]
       refine (wD ?_) _;go_wp2_with fail
       go_roundw
       case rel=>exact⟨k+1,A3,c3,srt (ss.take (k+1)),by go_num,by omega,by rw[HLL.out],by rw[HLL.out];exact HO3.out,rfl,fun h=>absurd (HLL.out ▸ h) hlen,HB3.out⟩
       case measure=>simp[intOf];omega
      ·go_wp2_with fail
       go_quiet (fail)
       go_wp2_with fail
       go_quiet (fail)
       go_wp2_with (at_builtin;(refine zFc rfl _ _ rfl wr.heap.size wr.heap.size (.slice none 0 0) [] rfl (OwnN.nil _ _) (some ⟨g,0,none⟩) out.length _ (out.take out.length) rfl ((HNM.out.take (by omega)).drewN _) (by simp only[List.length_nil];omega) lR ?_);intro v1 w1 ho1 hb1';refine Hid.out ?_);refine xI ?_;have hb1:Below wr.heap.size wr w1:=(zB3 bR _).trans hb1';clear hb1';go_wp2_with fail;have hz1:=hb1.size;have HS:∀ wq,Below wr.heap.size wr wq→wq.cell? ⟨bs,offs+k,none⟩=some (.string ⟨s.toArray⟩):=fun wq h=>(h.cell (p:=⟨bs,offs+k,none⟩) (by show bs<wr.heap.size;omega)).trans cs;have hbA:Below wr.heap.size wr (w1.drew.alloc (.cells #[.string ⟨s.toArray⟩] 9)):=hb1.drew.alloc (by show wr.heap.size≤w1.heap.size;omega) _;have hlit:OwnN (w1.drew.alloc (.cells #[.string ⟨s.toArray⟩] 9)) w1.heap.size (.slice (some ⟨w1.heap.size,0,none⟩) 1 1) [s]:=OwnN.lit w1.drew w1.heap.size lR [s] _ 1 rfl rfl (by unfold maxLen;simp);have hown1:OwnN (w1.drew.alloc (.cells #[.string ⟨s.toArray⟩] 9)) wr.heap.size v1 ([]++out.take out.length):=ho1.old ((bR.drew).alloc lR _);have hlt1:(out.take out.length).length≤out.length:=zBk _ _;obtain⟨v2,w2,hr2,ho2,hg2⟩:=zBf hown1 (by have:=hbA.size;omega) (some ⟨w1.heap.size,0,none⟩) 1 1 [s] (hlit.rng (fun x hx=>by rw[List.mem_singleton.1 hx];exact hs)) (by simp only[List.nil_append];omega) 25;have hb2:Below wr.heap.size wr w2:=hbA.grown hg2 (by have:=hbA.size;omega) (fun j hj=>(hown1.lt j hj).1);obtain⟨v3,w3,hr3,ho3,hg3⟩:=zBf (B':=wr.heap.size) ho2 hb2.size (some ⟨g,out.length,none⟩) (0) (cap-out.length) ([]) (NmS.nil _ _ _) (by simp<;>omega) 25;have hb3:Below wr.heap.size wr w3:=hb2.grown hg3 hb2.size (fun j hj=>(ho2.lt j hj).1);have HINS:=xI (zIz HOU.out HX.out HLO.out HHI.out);obtain⟨A3,c3,rfl⟩:=ho3.form;have hfin:(([]++out.take out.length)++[s])++[]=out.take out.length++s::out.drop out.length:=by simp
       rw[hfin]at ho3 hr3;rw[HINS.out]at ho3 hr3;have hlen:¬ (srt (ss.take (k+1))).length=0:=by rw[←HINS.out];simp
       have HO3:=xI (ho3.mono hsr);have HB3:=xI (hb.trans (hb3.mono hsr));generalize hLL:(srt (ss.take (k+1))).length=LL at *;have HLL:=xI hLL;clear ho1 hlit hown1 ho2 ho3 hg2 hg3 hfin hlt1 hLL;refine wp_region_held_drew (S:=fun wq=>wq.cell? ⟨bs,offs+k,none⟩=some (.string ⟨s.toArray⟩)) (by kernel_rfl) (HS _ hb1.drew) (fun hHeld=>?_);refine tk 0 hHeld ?_;simp only[Act.put,List.setIfInBounds_toArray,List.set_cons_zero,List.set_cons_succ];refine tk 1 hHeld ?_;simp only[Act.put,List.setIfInBounds_toArray,List.set_cons_zero,List.set_cons_succ];refine tk 2 hHeld ?_;simp only[Act.put,List.setIfInBounds_toArray,List.set_cons_zero,List.set_cons_succ];refine tk 3 hHeld ?_;simp only[Act.put,List.setIfInBounds_toArray,List.set_cons_zero,List.set_cons_succ];refine tk 4 hHeld ?_;simp only[Act.put,List.setIfInBounds_toArray,List.set_cons_zero,List.set_cons_succ];refine tk 7 hHeld ?_;simp only[Act.put,List.setIfInBounds_toArray,List.set_cons_zero,List.set_cons_succ];refine tk 8 hHeld ?_;simp only[Act.put,List.setIfInBounds_toArray,List.set_cons_zero,List.set_cons_succ];refine tk 9 hHeld ?_;simp only[Act.put,List.setIfInBounds_toArray,List.set_cons_zero,List.set_cons_succ];refine oO 5 fun K hK=>?_;go_simp;refine hK _ _ (HS _ hbA) ?_
       try simp only[pK]
       refine oO 6 fun K hK=>?_;refine Lib.wp_append_run _ _ _ _ _ rfl _ _ rfl rfl v2 w2 hr2 ?_;refine hK _ _ (HS _ hb2) ?_
       try simp only[pK]
       refine oO 10 fun K hK=>?_;refine Lib.wp_append_run _ _ _ _ _ rfl _ _ rfl rfl _ w3 hr3 ?_;refine hK _ _ (HS _ hb3) ?_
       try simp only[pK]
       refine oO 11 fun K hK=>?_;go_simp;refine hK _ _ (HS _ hb3) ?_
       try simp only[pK]
       refine (wD ?_) _;go_wp2_with fail
       go_roundw
       case rel=>exact⟨k+1,A3,c3,srt (ss.take (k+1)),by go_num,by omega,by rw[HLL.out],by rw[HLL.out];exact HO3.out,rfl,fun h=>absurd (HLL.out ▸ h) hlen,HB3.out⟩
       case measure=>simp[intOf];omega
  ·have hke:Hid (ss.take k=ss):=xI (List.take_of_length_le (by have:=HR.out.1;omega));rw[hke.out]at HOU;have HOF:=xI (show out=srt ss from HOU.out);go_wp2;go_ret;have h1:=HOF.out;subst h1;exact⟨_,_,rfl,HOO.out,hb⟩
end Go.Proofs.YtcjgaohblaidjaaGreatDoor
namespace Go.Proofs.YtcjgaohblaidjaaGreatDoor
open Go Go.RowKit
theorem all7 (k:Nat) (F:Nat) (eg:∀ args w,(callFunc F args).run Tryz.prog w=.ok (.enter F args) w) (p:Vl→Bool) (A:Option Addr) (c:Nat) (l:List (Vl)) (w:World)
  (hF:Hid (∀ (v:Vl) (cs:List Value) (V:World),Below w.heap.size w V→VS k V V.heap.size v cs→Calls Tryz.prog F #[.agg cs.toArray] V fun e w'=>e=.returned (.bool (p v))∧Below V.heap.size V w')) (hl:RowP w w.heap.size 7 (.slice A l.length c) l.length (fun j cs=>∃ x,l[j]?=some x∧VS k w w.heap.size x cs)) :
  Calls Tryz.prog 67 #[.slice A l.length c,.func (.func F) #[] #[]] w fun e w'=>e=.returned (.bool (l.all p))∧Below w.heap.size w w':=by
 obtain⟨_,_,_,hln⟩:=hl.form;unfold maxLen at hln;have HL:=xI hl;clear hl;generalize hrr:l.all p=r;have HR:=xI hrr;clear hrr;go_enter Tryz.func67,Tryz.ntmps67;go_wp2_with fail
 go_loopw [6,9] (fun _ i wr=>∃ j:Nat,i=.int .i64 j∧j≤l.length∧Hid ((l.take j).all p=true)∧Below w.heap.size w wr) (fun _ i _=>l.length-(intOf i).toNat)
 case atStart=>exact⟨0,rfl,by omega,xI (by simp),Below.refl _ _⟩
 case round=>
  obtain⟨j,rfl,hj,h0,hb⟩:=hrel;by_cases hjn:j<l.length
  ·obtain⟨b,off,cap0,x0,x1,x2,x3,x4,x5,x6,hu,hbH,⟨x,hx,hv⟩,c0,c1,c2,c3,c4,c5,c6⟩:=(HL.out.on hb (fun _ _ h=>h)).at7 hjn;injection hu with hA _ hcap;subst hA hcap;obtain⟨a,i,s,B1,n1,d1,B2,n2,d2,B3,n3,d3,B4,n4,d4,hf⟩:=hv.form7;simp only[List.cons.injEq,and_true]at hf;obtain⟨rfl,rfl,rfl,rfl,rfl,rfl,rfl⟩:=hf;have kn:(j:Int)<(l.length:Int):=by omega
   have k0:(0:Int)≤(j:Int):=by omega
   have HS:Hid (l.take (j+1)=l.take j++[x]):=xI (by rw[List.take_add_one,hx];rfl);have HM:Hid (x∈l):=xI (List.mem_of_getElem? hx);have HB:=xI hb;have HVX:=xI hv;clear hx hb hv;go_wp2_with fail;rename World=>U;obtain⟨W2,hW2⟩:∃ W2,W2=U.alloc (.cells #[.int .i64 a,.int .i64 i,.string s,.slice B1 n1 d1,.slice B2 n2 d2,.slice B3 n3 d3,.slice B4 n4 d4] 27):=⟨_,rfl⟩;have hb2:Below U.heap.size U W2:=by rw[hW2];exact bR.alloc lR _
   have q0:W2.cell? ⟨U.heap.size,0,none⟩=some (.int .i64 a):=by rw[hW2];simp
   have q1:W2.cell? ⟨U.heap.size,1,none⟩=some (.int .i64 i):=by rw[hW2];simp
   have q2:W2.cell? ⟨U.heap.size,2,none⟩=some (.string s):=by rw[hW2];simp
   have q3:W2.cell? ⟨U.heap.size,3,none⟩=some (.slice B1 n1 d1):=by rw[hW2];simp
   have q4:W2.cell? ⟨U.heap.size,4,none⟩=some (.slice B2 n2 d2):=by rw[hW2];simp
   have q5:W2.cell? ⟨U.heap.size,5,none⟩=some (.slice B3 n3 d3):=by rw[hW2];simp
   have q6:W2.cell? ⟨U.heap.size,6,none⟩=some (.slice B4 n4 d4):=by rw[hW2];simp
   have hbw:=HB.out.trans (hb2.mono HB.out.size);have hc:=hF.out x _ W2 hbw (VS.up hbw.size lR (VS.on hbw HVX.out));have HBW:=xI hbw;rw[←hW2];clear hW2 hb2 hbw c0 c1 c2 c3 c4 c5 c6;go_wp2_with fail;generalize hpx:p x=z at hc;have HP:=xI hpx;clear hpx;refine hc.mono ?_;rintro e w1 ⟨rfl,hb1⟩;clear hc;cases z
   ·have HU:Hid (r=false):=xI (by rw[←HR.out,List.all_eq_false];exact⟨x,HM.out,by rw[HP.out];simp⟩);go_wp2;go_ret;exact⟨zAb HU.out.symm,HBW.out.trans (hb1.mono HBW.out.size)⟩
   ·go_wp2
    go_roundw
    case rel=>exact⟨j+1,by go_num,by omega,xI (by rw[HS.out,List.all_append,h0.out];simp[HP.out]),HBW.out.trans (hb1.mono HBW.out.size)⟩
    case measure=>simp[intOf];omega
  ·have hke:l.take j=l:=List.take_of_length_le (by omega);have HZ:Hid (r=true):=xI (by rw[←HR.out,←h0.out,hke]);clear hke;go_wp2;go_ret;exact⟨zAb HZ.out.symm,hb⟩
theorem all9 (k:Nat) (F:Nat) (eg:∀ args w,(callFunc F args).run Tryz.prog w=.ok (.enter F args) w) (p:En→Bool) (A:Option Addr) (c:Nat) (l:List (En)) (w:World)
  (hF:Hid (∀ (v:En) (cs:List Value) (V:World),Below w.heap.size w V→ES k V V.heap.size v cs→Calls Tryz.prog F #[.agg cs.toArray] V fun e w'=>e=.returned (.bool (p v))∧Below V.heap.size V w')) (hl:RowP w w.heap.size 9 (.slice A l.length c) l.length (fun j cs=>∃ x,l[j]?=some x∧ES k w w.heap.size x cs)) :
  Calls Tryz.prog 65 #[.slice A l.length c,.func (.func F) #[] #[]] w fun e w'=>e=.returned (.bool (l.all p))∧Below w.heap.size w w':=by
 obtain⟨_,_,_,hln⟩:=hl.form;unfold maxLen at hln;have HL:=xI hl;clear hl;generalize hrr:l.all p=r;have HR:=xI hrr;clear hrr;go_enter Tryz.func65,Tryz.ntmps65;go_wp2_with fail
 go_loopw [6,9] (fun _ i wr=>∃ j:Nat,i=.int .i64 j∧j≤l.length∧Hid ((l.take j).all p=true)∧Below w.heap.size w wr) (fun _ i _=>l.length-(intOf i).toNat)
 case atStart=>exact⟨0,rfl,by omega,xI (by simp),Below.refl _ _⟩
 case round=>
  obtain⟨j,rfl,hj,h0,hb⟩:=hrel;by_cases hjn:j<l.length
  ·obtain⟨b,off,cap0,x0,x1,x2,x3,x4,x5,x6,x7,x8,hu,hbH,⟨x,hx,hv⟩,c0,c1,c2,c3,c4,c5,c6,c7,c8⟩:=(HL.out.on hb (fun _ _ h=>h)).at9 hjn;injection hu with hA _ hcap;subst hA hcap;obtain⟨B0,n0,d0,f,a,i,s,B1,n1,d1,B2,n2,d2,B3,n3,d3,B4,n4,d4,hf⟩:=hv.form9;simp only[List.cons.injEq,and_true]at hf;obtain⟨rfl,rfl,rfl,rfl,rfl,rfl,rfl,rfl,rfl⟩:=hf;have kn:(j:Int)<(l.length:Int):=by omega
   have k0:(0:Int)≤(j:Int):=by omega
   have HS:Hid (l.take (j+1)=l.take j++[x]):=xI (by rw[List.take_add_one,hx];rfl);have HM:Hid (x∈l):=xI (List.mem_of_getElem? hx);have HB:=xI hb;have HVX:=xI hv;clear hx hb hv;go_wp2_with fail;rename World=>U;obtain⟨W2,hW2⟩:∃ W2,W2=U.alloc (.cells #[.slice B0 n0 d0,.bool f,.int .i64 a,.int .i64 i,.string s,.slice B1 n1 d1,.slice B2 n2 d2,.slice B3 n3 d3,.slice B4 n4 d4] 45):=⟨_,rfl⟩;have hb2:Below U.heap.size U W2:=by rw[hW2];exact bR.alloc lR _
   have q0:W2.cell? ⟨U.heap.size,0,none⟩=some (.slice B0 n0 d0):=by rw[hW2];simp
   have q1:W2.cell? ⟨U.heap.size,1,none⟩=some (.bool f):=by rw[hW2];simp
   have q2:W2.cell? ⟨U.heap.size,2,none⟩=some (.int .i64 a):=by rw[hW2];simp
   have q3:W2.cell? ⟨U.heap.size,3,none⟩=some (.int .i64 i):=by rw[hW2];simp
   have q4:W2.cell? ⟨U.heap.size,4,none⟩=some (.string s):=by rw[hW2];simp
   have q5:W2.cell? ⟨U.heap.size,5,none⟩=some (.slice B1 n1 d1):=by rw[hW2];simp
   have q6:W2.cell? ⟨U.heap.size,6,none⟩=some (.slice B2 n2 d2):=by rw[hW2];simp
   have q7:W2.cell? ⟨U.heap.size,7,none⟩=some (.slice B3 n3 d3):=by rw[hW2];simp
   have q8:W2.cell? ⟨U.heap.size,8,none⟩=some (.slice B4 n4 d4):=by rw[hW2];simp
   have hbw:=HB.out.trans (hb2.mono HB.out.size);have hc:=hF.out x _ W2 hbw (ES.up hbw.size lR (ES.on hbw HVX.out));have HBW:=xI hbw;rw[←hW2];clear hW2 hb2 hbw c0 c1 c2 c3 c4 c5 c6 c7 c8;go_wp2_with fail;generalize hpx:p x=z at hc;have HP:=xI hpx;clear hpx;refine hc.mono ?_;rintro e w1 ⟨rfl,hb1⟩;clear hc;cases z
   ·have HU:Hid (r=false):=xI (by rw[←HR.out,List.all_eq_false];exact⟨x,HM.out,by rw[HP.out];simp⟩);go_wp2;go_ret;exact⟨zAb HU.out.symm,HBW.out.trans (hb1.mono HBW.out.size)⟩
   ·go_wp2
    go_roundw
    case rel=>exact⟨j+1,by go_num,by omega,xI (by rw[HS.out,List.all_append,h0.out];simp[HP.out]),HBW.out.trans (hb1.mono HBW.out.size)⟩
    case measure=>simp[intOf];omega
  ·have hke:l.take j=l:=List.take_of_length_le (by omega);have HZ:Hid (r=true):=xI (by rw[←HR.out,←h0.out,hke]);clear hke;go_wp2;go_ret;exact⟨zAb HZ.out.symm,hb⟩
theorem all2 (F:Nat) (eg:∀ args w,(callFunc F args).run Tryz.prog w=.ok (.enter F args) w) (p:(Int×List UInt8)→Bool) (A:Option Addr) (c:Nat) (l:List (Int×List UInt8)) (w:World)
  (hF:Hid (∀ (x:Int×List UInt8) (V:World),(Lit.int .i64 x.1).wf=true∧x.2.length≤maxLen→Calls Tryz.prog F #[.agg #[.int .i64 x.1,.string ⟨x.2.toArray⟩]] V fun e w'=>e=.returned (.bool (p x))∧Below V.heap.size V w')) (hl:RowP w w.heap.size 2 (.slice A l.length c) l.length (fun j cs=>∃ x,l[j]?=some x∧cs=[.int .i64 x.1,.string ⟨x.2.toArray⟩]∧(Lit.int .i64 x.1).wf=true∧x.2.length≤maxLen)) :
  Calls Tryz.prog 143 #[.slice A l.length c,.func (.func F) #[] #[]] w fun e w'=>e=.returned (.bool (l.all p))∧Below w.heap.size w w':=by
 obtain⟨_,_,_,hln⟩:=hl.form;unfold maxLen at hln;have HL:=xI hl;clear hl;generalize hrr:l.all p=r;have HR:=xI hrr;clear hrr;go_enter Tryz.func143,Tryz.ntmps143;go_wp2_with fail
 go_loopw [6,9] (fun _ i wr=>∃ j:Nat,i=.int .i64 j∧j≤l.length∧Hid ((l.take j).all p=true)∧Below w.heap.size w wr) (fun _ i _=>l.length-(intOf i).toNat)
 case atStart=>exact⟨0,rfl,by omega,xI (by simp),Below.refl _ _⟩
 case round=>
  obtain⟨j,rfl,hj,h0,hb⟩:=hrel;by_cases hjn:j<l.length
  ·obtain⟨b,off,cap0,x0,x1,hu,hbH,⟨x,hx,hv⟩,c0,c1⟩:=(HL.out.on hb (fun _ _ h=>h)).at2 hjn;injection hu with hA _ hcap;subst hA hcap;obtain⟨hf,hok⟩:=hv;simp only[List.cons.injEq,and_true]at hf;obtain⟨rfl,rfl⟩:=hf;have kn:(j:Int)<(l.length:Int):=by omega
   have k0:(0:Int)≤(j:Int):=by omega
   have HS:Hid (l.take (j+1)=l.take j++[x]):=xI (by rw[List.take_add_one,hx];rfl);have HM:Hid (x∈l):=xI (List.mem_of_getElem? hx);have HB:=xI hb;have HOK:=xI hok;clear hx hb hok;go_wp2_with fail;rename World=>U;obtain⟨W2,hW2⟩:∃ W2,W2=U.alloc (.cells #[.int .i64 x.1,.string ⟨x.2.toArray⟩] 80):=⟨_,rfl⟩;have hb2:Below U.heap.size U W2:=by rw[hW2];exact bR.alloc lR _
   have q0:W2.cell? ⟨U.heap.size,0,none⟩=some (.int .i64 x.1):=by rw[hW2];simp
   have q1:W2.cell? ⟨U.heap.size,1,none⟩=some (.string ⟨x.2.toArray⟩):=by rw[hW2];simp
   have hbw:=HB.out.trans (hb2.mono HB.out.size);have hc:=hF.out x W2 HOK.out;have HBW:=xI hbw;rw[←hW2];clear hW2 hb2 hbw c0 c1;go_wp2_with fail;generalize hpx:p x=z at hc;have HP:=xI hpx;clear hpx;refine hc.mono ?_;rintro e w1 ⟨rfl,hb1⟩;clear hc;cases z
   ·have HU:Hid (r=false):=xI (by rw[←HR.out,List.all_eq_false];exact⟨x,HM.out,by rw[HP.out];simp⟩);go_wp2;go_ret;exact⟨zAb HU.out.symm,HBW.out.trans (hb1.mono HBW.out.size)⟩
   ·go_wp2
    go_roundw
    case rel=>exact⟨j+1,by go_num,by omega,xI (by rw[HS.out,List.all_append,h0.out];simp[HP.out]),HBW.out.trans (hb1.mono HBW.out.size)⟩
    case measure=>simp[intOf];omega
  ·have hke:l.take j=l:=List.take_of_length_le (by omega);have HZ:Hid (r=true):=xI (by rw[←HR.out,←h0.out,hke]);clear hke;go_wp2;go_ret;exact⟨zAb HZ.out.symm,hb⟩
theorem all1 (F:Nat) (eg:∀ args w,(callFunc F args).run Tryz.prog w=.ok (.enter F args) w) (p:(List UInt8)→Bool) (A:Option Addr) (c:Nat) (l:List (List UInt8)) (w:World)
  (hF:Hid (∀ (x:List UInt8) (V:World),x.length≤maxLen→Calls Tryz.prog F #[.string ⟨x.toArray⟩] V fun e w'=>e=.returned (.bool (p x))∧Below V.heap.size V w')) (hl:RowP w w.heap.size 1 (.slice A l.length c) l.length (fun j cs=>∃ x,l[j]?=some x∧cs=[.string ⟨x.toArray⟩]∧x.length≤maxLen)) :
  Calls Tryz.prog 110 #[.slice A l.length c,.func (.func F) #[] #[]] w fun e w'=>e=.returned (.bool (l.all p))∧Below w.heap.size w w':=by
 obtain⟨_,_,_,hln⟩:=hl.form;unfold maxLen at hln;have HL:=xI hl;clear hl;generalize hrr:l.all p=r;have HR:=xI hrr;clear hrr;go_enter Tryz.func110,Tryz.ntmps110;go_wp2_with fail
 go_loopw [6,9] (fun _ i wr=>∃ j:Nat,i=.int .i64 j∧j≤l.length∧Hid ((l.take j).all p=true)∧Below w.heap.size w wr) (fun _ i _=>l.length-(intOf i).toNat)
 case atStart=>exact⟨0,rfl,by omega,xI (by simp),Below.refl _ _⟩
 case round=>
  obtain⟨j,rfl,hj,h0,hb⟩:=hrel;by_cases hjn:j<l.length
  ·obtain⟨b,off,cap0,x0,hu,hbH,⟨x,hx,hv⟩,c0⟩:=(HL.out.on hb (fun _ _ h=>h)).at1 hjn;injection hu with hA _ hcap;subst hA hcap;obtain⟨hf,hok⟩:=hv;simp only[List.cons.injEq,and_true]at hf;obtain rfl:=hf;have kn:(j:Int)<(l.length:Int):=by omega
   have k0:(0:Int)≤(j:Int):=by omega
   have HS:Hid (l.take (j+1)=l.take j++[x]):=xI (by rw[List.take_add_one,hx];rfl);have HM:Hid (x∈l):=xI (List.mem_of_getElem? hx);have HB:=xI hb;have HOK:=xI hok;clear hx hb hok;go_wp2_with fail;have hc:=hF.out x wr HOK.out;have HBW:=HB;generalize hpx:p x=z at hc;have HP:=xI hpx;clear hpx;refine hc.mono ?_;rintro e w1 ⟨rfl,hb1⟩;clear hc;cases z
   ·have HU:Hid (r=false):=xI (by rw[←HR.out,List.all_eq_false];exact⟨x,HM.out,by rw[HP.out];simp⟩);go_wp2;go_ret;exact⟨zAb HU.out.symm,HBW.out.trans (hb1.mono HBW.out.size)⟩
   ·go_wp2
    go_roundw
    case rel=>exact⟨j+1,by go_num,by omega,xI (by rw[HS.out,List.all_append,h0.out];simp[HP.out]),HBW.out.trans (hb1.mono HBW.out.size)⟩
    case measure=>simp[intOf];omega
  ·have hke:l.take j=l:=List.take_of_length_le (by omega);have HZ:Hid (r=true):=xI (by rw[←HR.out,←h0.out,hke]);clear hke;go_wp2;go_ret;exact⟨zAb HZ.out.symm,hb⟩
theorem all9c (k:Nat) (F:Nat) (eg:∀ args w,(callFunc F args).run Tryz.prog w=.ok (.enter F args) w) (p0:Value) (p:En→Bool) (A:Option Addr) (c:Nat) (l:List (En)) (w:World)
  (hF:Hid (∀ (v:En) (cs:List Value) (V:World),Below w.heap.size w V→ES k V V.heap.size v cs→Calls Tryz.prog F #[.agg cs.toArray,p0] V fun e w'=>e=.returned (.bool (p v))∧Below V.heap.size V w')) (hl:RowP w w.heap.size 9 (.slice A l.length c) l.length (fun j cs=>∃ x,l[j]?=some x∧ES k w w.heap.size x cs)) :
  Calls Tryz.prog 65 #[.slice A l.length c,.func (.func F) #[] #[p0]] w fun e w'=>e=.returned (.bool (l.all p))∧Below w.heap.size w w':=by
 obtain⟨_,_,_,hln⟩:=hl.form;unfold maxLen at hln;have HL:=xI hl;clear hl;generalize hrr:l.all p=r;have HR:=xI hrr;clear hrr;go_enter Tryz.func65,Tryz.ntmps65;go_wp2_with fail
 go_loopw [6,9] (fun _ i wr=>∃ j:Nat,i=.int .i64 j∧j≤l.length∧Hid ((l.take j).all p=true)∧Below w.heap.size w wr) (fun _ i _=>l.length-(intOf i).toNat)
 case atStart=>exact⟨0,rfl,by omega,xI (by simp),Below.refl _ _⟩
 case round=>
  obtain⟨j,rfl,hj,h0,hb⟩:=hrel;by_cases hjn:j<l.length
  ·obtain⟨b,off,cap0,x0,x1,x2,x3,x4,x5,x6,x7,x8,hu,hbH,⟨x,hx,hv⟩,c0,c1,c2,c3,c4,c5,c6,c7,c8⟩:=(HL.out.on hb (fun _ _ h=>h)).at9 hjn;injection hu with hA _ hcap;subst hA hcap;obtain⟨B0,n0,d0,f,a,i,s,B1,n1,d1,B2,n2,d2,B3,n3,d3,B4,n4,d4,hf⟩:=hv.form9;simp only[List.cons.injEq,and_true]at hf;obtain⟨rfl,rfl,rfl,rfl,rfl,rfl,rfl,rfl,rfl⟩:=hf;have kn:(j:Int)<(l.length:Int):=by omega
   have k0:(0:Int)≤(j:Int):=by omega
   have HS:Hid (l.take (j+1)=l.take j++[x]):=xI (by rw[List.take_add_one,hx];rfl);have HM:Hid (x∈l):=xI (List.mem_of_getElem? hx);have HB:=xI hb;have HVX:=xI hv;clear hx hb hv;go_wp2_with fail;rename World=>U;obtain⟨W2,hW2⟩:∃ W2,W2=U.alloc (.cells #[.slice B0 n0 d0,.bool f,.int .i64 a,.int .i64 i,.string s,.slice B1 n1 d1,.slice B2 n2 d2,.slice B3 n3 d3,.slice B4 n4 d4] 45):=⟨_,rfl⟩;have hb2:Below U.heap.size U W2:=by rw[hW2];exact bR.alloc lR _
   have q0:W2.cell? ⟨U.heap.size,0,none⟩=some (.slice B0 n0 d0):=by rw[hW2];simp
   have q1:W2.cell? ⟨U.heap.size,1,none⟩=some (.bool f):=by rw[hW2];simp
   have q2:W2.cell? ⟨U.heap.size,2,none⟩=some (.int .i64 a):=by rw[hW2];simp
   have q3:W2.cell? ⟨U.heap.size,3,none⟩=some (.int .i64 i):=by rw[hW2];simp
   have q4:W2.cell? ⟨U.heap.size,4,none⟩=some (.string s):=by rw[hW2];simp
   have q5:W2.cell? ⟨U.heap.size,5,none⟩=some (.slice B1 n1 d1):=by rw[hW2];simp
   have q6:W2.cell? ⟨U.heap.size,6,none⟩=some (.slice B2 n2 d2):=by rw[hW2];simp
   have q7:W2.cell? ⟨U.heap.size,7,none⟩=some (.slice B3 n3 d3):=by rw[hW2];simp
   have q8:W2.cell? ⟨U.heap.size,8,none⟩=some (.slice B4 n4 d4):=by rw[hW2];simp
   have hbw:=HB.out.trans (hb2.mono HB.out.size);have hc:=hF.out x _ W2 hbw (ES.up hbw.size lR (ES.on hbw HVX.out));have HBW:=xI hbw;rw[←hW2];clear hW2 hb2 hbw c0 c1 c2 c3 c4 c5 c6 c7 c8;go_wp2_with fail;generalize hpx:p x=z at hc;have HP:=xI hpx;clear hpx;refine hc.mono ?_;rintro e w1 ⟨rfl,hb1⟩;clear hc;cases z
   ·have HU:Hid (r=false):=xI (by rw[←HR.out,List.all_eq_false];exact⟨x,HM.out,by rw[HP.out];simp⟩);go_wp2;go_ret;exact⟨zAb HU.out.symm,HBW.out.trans (hb1.mono HBW.out.size)⟩
   ·go_wp2
    go_roundw
    case rel=>exact⟨j+1,by go_num,by omega,xI (by rw[HS.out,List.all_append,h0.out];simp[HP.out]),HBW.out.trans (hb1.mono HBW.out.size)⟩
    case measure=>simp[intOf];omega
  ·have hke:l.take j=l:=List.take_of_length_le (by omega);have HZ:Hid (r=true):=xI (by rw[←HR.out,←h0.out,hke]);clear hke;go_wp2;go_ret;exact⟨zAb HZ.out.symm,hb⟩
end Go.Proofs.YtcjgaohblaidjaaGreatDoor
