/- A function that hands back a node of a type .. -/
import Derived.Test.YteedihhdcbepmaaGreatTfZ
import Derived.Test.YteedihhdcbepmaaGreatTf08
set_option maxRecDepth 100000
set_option maxHeartbeats 12800000
set_option linter.all false
open Go.Value renaming slice→vS,int→vI,string→vT
open Go.IntKind renaming i64→i6
open Go.Proofs.Tryz
open Go.Proofs.Tryz renaming prog→tP
namespace Go.Proofs.YteedihhdcbepmaaGreat
open Go Go.RowKit
theorem ret8 {fn:Func}{R:Ending->World->Prop}{a:Act}{w:World}{s g:Nat}{z0 z1 z2 z3 z4 z5 z6 z7 v0 v1 v2 v3 v4 v5 v6 v7:Value}(hK:w.heap[g]?=some (.cells #[z0,z1,z2,z3,z4,z5,z6,z7] 40 (0,0))) (hr:fn.results=#[.cell s 40]) (ha:a.tmps[s]?=some (.pointer (some ⟨g,0,none⟩))) (hd:a.defers=[])
  (h:∀ V,V.heap.size=w.heap.size->(∀ b,b≠g->V.heap[b]?=w.heap[b]?)->(∀ B,B<=g->Below B w V)->R (.returned (.agg #[v0,v1,v2,v3,v4,v5,v6,v7])) V) :
  bodyPost tP fn R .ret a ((((((((w.setCell ⟨g,0,none⟩ v0).setCell ⟨g,1,none⟩ v1).setCell ⟨g,2,none⟩ v2).setCell ⟨g,3,none⟩ v3).setCell ⟨g,4,none⟩ v4).setCell ⟨g,5,none⟩ v5).setCell ⟨g,6,none⟩ v6).setCell ⟨g,7,none⟩ v7):=by
 obtain⟨V,hV⟩:∃ V,V=((((((((w.setCell (aD g 0) v0).setCell (aD g 1) v1).setCell (aD g 2) v2).setCell (aD g 3) v3).setCell (aD g 4) v4).setCell (aD g 5) v5).setCell (aD g 6) v6).setCell (aD g 7) v7):=⟨_,rfl⟩;rw[<-hV];obtain⟨h1,h2,h3,h4⟩:=box8 hK _ _ _ _ _ _ _ _ V hV;obtain⟨c0,c1,c2,c3,c4,c5,c6,c7⟩:=zAe h1;refine Cx (v:=.agg #[v0,v1,v2,v3,v4,v5,v6,v7]) (by simp[results,hr,ha,go_sem,c0,c1,c2,c3,c4,c5,c6,c7]) hd (h V h2 h3 h4)
def NodeR (h p n i:Nat) (w:World) (e:Ending) (w':World):Prop:=(∃ x cs,e=.returned (.agg cs.toArray)/\TnB w' (Btw w.heap.size w'.heap.size) x cs/\GenN n i x)/\SrcOk h p w'/\Eff p w w'
theorem zAr {h p n i:Nat}{w w9 V:World}{x:Tn}{cs:List Value}(hlp:p<w.heap.size) (hz:w.heap.size<w9.heap.size) (hS:SrcOk h p w9) (hE:Eff p w w9) (hT:TnB w9 (Btw (w.heap.size+1) w9.heap.size) x cs) (hG:GenN n i x)
  (h1:V.heap.size=w9.heap.size) (h2:∀ b,b≠w.heap.size->V.heap[b]?=w9.heap[b]?) (h3:∀ B,B<=w.heap.size->Below B w9 V):NodeR h p n i w (.returned (.agg cs.toArray)) V:=
 ⟨⟨x,cs,rfl,(hT.keep ⟨by omega,fun b j hb _=>Bg (h2 b (by have:=hb.1;omega))⟩).sub fun b hb=>⟨by have:=hb.1;omega,by have:=hb.2;omega⟩,hG⟩,hS.below3 (h3 w.heap.size lR) hlp,hE.grow (h3 w.heap.size lR) hlp⟩
theorem leafT {w:World}{B:Nat->Prop}(k lo hi:Int) (t:List UInt8) (hk:i64B k) (hlo:i64B lo) (hhi:i64B hi) (ht:t.length<=maxLen):TnB w B ⟨k,lo,hi,t,[],[],0,0⟩ [vI i6 k,vI i6 lo,vI i6 hi,vT ⟨t.toArray⟩,vS none 0 0,vS none 0 0,vI i6 0,vI i6 0]:=
 ⟨_,_,rfl,⟨hk,hlo,hhi,ht,by show i64B 0;decide,by show i64B 0;decide⟩,RowB.nil _ _ _ _,RowB.nil _ _ _ _⟩
theorem kidT {w:World}{base m c:Nat}{A:Option Addr}{l:List Int}(k:Int) (hk:i64B k) (ho:OwnI w base (vS A m c) l) (hm:l.length=m) (hl:m<=3){H:Nat}(hH:H<=base):TnB w (Btw H w.heap.size) ⟨k,0,0,[],l,[],0,0⟩ [vI i6 k,vI i6 0,vI i6 0,vT ⟨#[]⟩,vS A m c,vS none 0 0,vI i6 0,vI i6 0]:=by
 subst hm;exact⟨_,_,rfl,⟨hk,by show i64B 0;decide,by show i64B 0;decide,by simp,by show i64B 0;decide,by show i64B 0;decide⟩,OwnE.rowB ho (by decide) (by unfold maxLen;omega) hH,RowB.nil _ _ _ _⟩
def leafK (k:Int):Bool:=decide (k=1\/k=2\/k=5\/k=7\/k=8\/k=9\/k=11\/k=15)
theorem zC8 {n i:Nat}{k:Int}(h:leafK k=true):GenN n i ⟨k,0,0,[],[],[],0,0⟩:=by
 simp only[leafK,Be]at h;refine⟨?_,fun hc k hk=>by simp at hk,fun hv=>?_,by simp,by simp⟩
 ·rcases h with rfl|rfl|rfl|rfl|rfl|rfl|rfl|rfl<;>simp[tnB,useB,formB]
 ·simp at hv;omega
theorem WordN.len64 {s:List UInt8}(h:WordN s):s.length<=64:=by
 rcases h with rfl|rfl|rfl|rfl<;>decide
theorem zQ7 {n i:Nat}{s:List UInt8}(h:AtomN s):GenN n i ⟨6,0,0,s,[],[],0,0⟩:=
 ⟨by simp[tnB,useB,formB,h.ok],fun _ k hk=>by simp at hk,fun hv=>by simp at hv,by simp,by simp⟩
theorem zQ6 {n i:Nat}{s:List UInt8}(h:WordN s):GenN n i ⟨4,0,0,s,[],[],0,0⟩:=
 ⟨by simp[tnB,useB,formB,h.len64],fun _ k hk=>by simp at hk,fun hv=>by simp at hv,by simp,by simp⟩
theorem zRv {n i:Nat}{s:List UInt8}(h:LabN s):GenN n i ⟨19,0,0,s,[],[],0,0⟩:=
 ⟨by simp[tnB,useB,formB,h.ok],fun _ k hk=>by simp at hk,fun _=>h,by simp,by simp⟩
theorem zRw {n i:Nat}{a b:Int}(h:a<=b):GenN n i ⟨3,a,b,[],[],[],0,0⟩:=
 ⟨by simp[tnB,useB,formB,h],fun _ k hk=>by simp at hk,fun hv=>by simp at hv,by simp,by simp⟩
theorem zCw {n i m:Nat}{l:List Int}{k fr:Int}(hl:l.length=m) (hm:m<=3) (h0:0<=fr) (hk:∀ x∈l,fr<=x/\x<n) (hf:(k=10/\m<=4)\/(k=12/\m=2)\/(k=14/\1<=m)\/(k=18/\m=1/\(i:Int)<fr)\/(k=17/\1<=m/\(i:Int)<fr)\/(k=16/\1<=m/\(i:Int)<fr)):GenN n i ⟨k,0,0,[],l,[],0,0⟩:=by
 have hi:l.all (idxB n)=true:=by
  rw[B7];intro x hx;have:=hk x hx;simp[idxB];omega
 refine⟨?_,fun hc x hx=>?_,fun hv=>?_,by show l.length<=3;omega,by simp⟩
 ·rcases hf with⟨rfl,h⟩|⟨rfl,h⟩|⟨rfl,h⟩|⟨rfl,h,_⟩|⟨rfl,h,_⟩|⟨rfl,h,_⟩<;>simp[tnB,useB,formB,hi,hl]<;>omega
 ·have:=hk x hx;rcases hf with⟨rfl,h⟩|⟨rfl,h⟩|⟨rfl,h⟩|⟨rfl,h,_⟩|⟨rfl,h,_⟩|⟨rfl,h,_⟩
  ·simp[conn]at hc
  ·simp[conn]at hc
  ·simp[conn]at hc
  all_goals omega
 ·simp at hv;omega
def nums5:List Int:=[-9223372036854775808,0,1,2,9223372036854775807]
theorem zN9 {a b:Nat}(h:a<=b) (hb:b<5):∃ x y,nums5[a]?=some x/\nums5[b]?=some y/\x<=y/\i64B x/\i64B y:=by
 have c:b=0\/b=1\/b=2\/b=3\/b=4:=by omega
 have d:a=0\/a=1\/a=2\/a=3\/a=4:=by omega
 rcases c with rfl|rfl|rfl|rfl|rfl<;>rcases d with rfl|rfl|rfl|rfl|rfl<;>first|omega|exact⟨_,_,rfl,rfl,by decide,by decide,by decide⟩
theorem zOa {w:World}{g a:Nat}{x:Int}(h:w.heap[g]?=some (.cells #[vI i6 (-9223372036854775808),vI i6 0,vI i6 1,vI i6 2,vI i6 9223372036854775807] 2 (0,0))) (hx:nums5[a]?=some x):w.cell? (aD g a)=some (vI i6 x):=by
 have ha:a<5:=(Bx.1 hx).1;have b:a=0\/a=1\/a=2\/a=3\/a=4:=by omega
 rcases b with rfl|rfl|rfl|rfl|rfl<;>(simp[nums5]at hx;subst hx;exact (Bu h _).trans rfl)
def BRow (w:World) (g:Nat) (d:List Bool):Prop:=w.heap[g]?=some (.cells (d.map Value.bool).toArray 4 (0,0))
theorem BRow.cell {w:World}{g k:Nat}{d:List Bool}(h:BRow w g d) (hk:k<d.length):w.cell? (aD g k)=some (.bool (dn d k)):=by
 refine (Bu h k).trans ?_;unfold dn;simp[hk]
theorem BRow.froz {w:World}{g:Nat}{d:List Bool}(h:BRow w g d) (k:Nat):w.frozen? (aD g k)=false:=Bz h k
theorem BRow.set {w:World}{g:Nat}{d:List Bool}(h:BRow w g d) (k:Nat) (b:Bool):BRow (w.setCell ⟨g,k,none⟩ (.bool b)) g (d.set k b):=by
 have h1:=Bm w g k _ _ (.bool b) h;unfold BRow;rw[h1];congr 2;apply Array.ext';simp[List.map_set]
theorem BRow.on {w w':World}{g:Nat}{d:List Bool}(h:BRow w g d) (hb:w'.heap[g]?=w.heap[g]?):BRow w' g d:=hb.trans h
theorem BRow.lt {w:World}{g:Nat}{d:List Bool}(h:BRow w g d):g<w.heap.size:=(Cp.1 h).1
theorem zRr:(tP.info? 4).map (fun i=>(i.zero,i.size,i.bytes))=some (some (.bool false),1,1):=by kernel_rfl
theorem made1 (z:Value) (n:Nat):madeCells #[z] n=(List.replicate n z).toArray:=by
 apply Array.ext
 ·simp[madeCells]
 ·intro i h1 h2;simp[madeCells,Nat.mod_one]
theorem zFs (w:World) (n:Nat) (hn:n<=1000000):∃ W,(Instr.makeSlice 110 (vI i6 n) (vI i6 n)).run tP w=.ok (vS (some (aD w.heap.size 0)) n n) W/\BRow W w.heap.size (List.replicate n false)/\Below w.heap.size w W/\W.heap.size=w.heap.size+1:=by
 obtain⟨i0,hi,d,b,c⟩:=Cr zRr;have a:=run_makeSlice (P:=tP) w 110 4 i0 (.bool false) underlying110 hi d .i64 .i64 n n (by omega) (Int.le_refl _) (by rw[b];omega) (by rw[c];omega) (by omega);rw[b]at a;simp only[Dy,Nat.mul_one]at a;refine⟨_,a,?_,yR.alloc lR _,by simp⟩;refine (Bk w _).trans ?_;rw[show (Value.bool false).cells=#[.bool false]from rfl,made1];simp
def enc7I (x:Int):List Value:=[vI i6 x]
theorem zLh (A:Option Addr) (cap:Nat) (l:List Int) (w:World) (hl:RowP w w.heap.size 1 (vS A l.length cap) l.length (kidR l)) (hn:l.length<=1048576) :
  Calls tP 151 #[vS A l.length cap] w fun e w'=>∃ u,e=.returned u/\OwnI w' w.heap.size u l/\bW w w':=by
 have z:∀ (w:World) (a:Option Addr) (n c n' c':Nat),(binOp .eql 25 (vS a n c) (vS none n' c')).run tP w=.ok (.bool a.isNone) w:=fun w a n c n' c'=>Lib.run_eql_slice_nil w _ _ a n c n' c' underlying25;have d:∀ x,(enc7I x).length=1:=fun _=>rfl;cases A with
 | none=>
  have h0:l=[]:=by
   obtain⟨A',g,h1,_,h3⟩:=hl;injection h1 with h1 _ _;rcases C7 l.length with h|h
   ·exact Cd h
   ·obtain⟨b,o,h4,_⟩:=h3 h;rw[h4]at h1;cases h1
  subst h0;clear hl hn;go_enter func151,ntmps151;go_wp2;go_ret;exact⟨_,rfl,OwnE.nil _ _ _ _ _,By _ _⟩
 | some a=>
  obtain⟨i0,hi,v,t,r⟩:=Cr namI.inf;have F:(l.flatMap enc7I).length=l.length*1:=by
   clear hl hn hi v t r z
   induction l with
   | nil=>rfl
   | cons a s ih=>rw[Es,Bd,ih,d,Ci,Dx];omega
  have f:∀ (q:Nat) (u:Value),(l.flatMap enc7I)[q]?=some u->w.cell? (a.add q)=some u:=by
   intro q u hq;rcases C7 l.length with h0|h0
   ·rw[Cd h0]at hq;simp at hq
   obtain⟨b,o,hA,hc⟩:=zH2 (enc:=enc7I) (by decide) d hl (by rintro j cs ⟨x,hx,hcs,_⟩;exact⟨x,hx,hcs⟩) h0;injection hA with hA;subst hA;have:=hc q u hq;unfold Addr.add;split
   ·rename_i hq0;rw[hq0]at this;exact this
   ·exact this
  have E:∀ (q:Nat) (u:Value),(l.flatMap enc7I)[q]?=some u->(a.add q).block<w.heap.size:=by
   intro q u hq;rcases C7 l.length with h0|h0
   ·rw[Cd h0]at hq;simp at hq
   obtain⟨A',g,h1,_,h3⟩:=hl;obtain⟨b,o,h4,h5,_⟩:=h3 h0;injection h1 with h1 _ _;rw[h4]at h1;injection h1 with h1;rw[show (a.add q).block=a.block from by unfold Addr.add;split<;>rfl,h1];exact h5
  have i:=xI hl;have m:∀ u∈l.flatMap enc7I,u.oneCell'=true:=by
   intro u hu;obtain⟨x,D,hx⟩:=List.mem_flatMap.1 hu;obtain⟨j,hj⟩:=List.getElem?_of_mem D;simp only[enc7I,Cs,List.not_mem_nil,or_false]at hx
   (try rcases hx with rfl|rfl|rfl|rfl)<;>(try subst hx)<;>rfl
  clear hl;generalize hnews:l.flatMap enc7I=news at *;have HN:=xI hnews;clear hnews;go_enter func151,ntmps151;go_wp2_with (at_builtin;refine wpList_append_own _ rfl _ _ 25 rfl w.heap.size 3 i0 (vI i6 0) 1 8 underlying25 hi v t r rfl (by decide) _ _ _ rfl (World.ownsRow_made w #[] 0 lR (Bq _) rfl) a l.length cap news rfl F (by intro j u hj;exact (((By w.heap.size w).alloc lR _).cell (p:=a.add j) (E j u hj)).trans (f j u hj)) m (by unfold maxLen;omega) (by omega) (by simp) ?_);intro v' w1 hown hgrow hnil;go_wp2;go_ret;refine⟨v',rfl,⟨news,by simpa using hown,fun j x hj=>?_⟩,((By _ w).alloc lR _).grown hgrow (by simp) (by intro k hk;simp[Value.ownBlock]at hk;omega)⟩;rw[<-HN.out,zEf d hj];obtain⟨A',g,h1,_,h3⟩:=i.out;obtain⟨b',B,_,_,_,h7⟩:=h3 (by have:=(Bx.1 hj).1;omega);obtain⟨cs,h8,h9,y,hy,C⟩:=h7 j (Bx.1 hj).1;rw[hj]at hy;injection hy with hy;subst hy;exact⟨rfl,C.2⟩
def enc7F (x:Fd):List Value:=fdC x
theorem zLi (A:Option Addr) (cap:Nat) (l:List Fd) (w:World) (hl:RowP w w.heap.size 4 (vS A l.length cap) l.length (fdR l)) (hn:l.length<=1048576) :
  Calls tP 152 #[vS A l.length cap] w fun e w'=>∃ u,e=.returned u/\OwnF w' w.heap.size u l/\bW w w':=by
 have z:∀ (w:World) (a:Option Addr) (n c n' c':Nat),(binOp .eql 37 (vS a n c) (vS none n' c')).run tP w=.ok (.bool a.isNone) w:=fun w a n c n' c'=>Lib.run_eql_slice_nil w _ _ a n c n' c' underlying37;have d:∀ x,(enc7F x).length=4:=fun _=>rfl;cases A with
 | none=>
  have h0:l=[]:=by
   obtain⟨A',g,h1,_,h3⟩:=hl;injection h1 with h1 _ _;rcases C7 l.length with h|h
   ·exact Cd h
   ·obtain⟨b,o,h4,_⟩:=h3 h;rw[h4]at h1;cases h1
  subst h0;clear hl hn;go_enter func152,ntmps152;go_wp2;go_ret;exact⟨_,rfl,OwnE.nil _ _ _ _ _,By _ _⟩
 | some a=>
  obtain⟨i0,hi,v,t,r⟩:=Cr namF.inf;have F:(l.flatMap enc7F).length=l.length*4:=by
   clear hl hn hi v t r z
   induction l with
   | nil=>rfl
   | cons a s ih=>rw[Es,Bd,ih,d,Ci,Dx];omega
  have f:∀ (q:Nat) (u:Value),(l.flatMap enc7F)[q]?=some u->w.cell? (a.add q)=some u:=by
   intro q u hq;rcases C7 l.length with h0|h0
   ·rw[Cd h0]at hq;simp at hq
   obtain⟨b,o,hA,hc⟩:=zH2 (enc:=enc7F) (by decide) d hl (by rintro j cs ⟨x,hx,hcs,_⟩;exact⟨x,hx,hcs⟩) h0;injection hA with hA;subst hA;have:=hc q u hq;unfold Addr.add;split
   ·rename_i hq0;rw[hq0]at this;exact this
   ·exact this
  have E:∀ (q:Nat) (u:Value),(l.flatMap enc7F)[q]?=some u->(a.add q).block<w.heap.size:=by
   intro q u hq;rcases C7 l.length with h0|h0
   ·rw[Cd h0]at hq;simp at hq
   obtain⟨A',g,h1,_,h3⟩:=hl;obtain⟨b,o,h4,h5,_⟩:=h3 h0;injection h1 with h1 _ _;rw[h4]at h1;injection h1 with h1;rw[show (a.add q).block=a.block from by unfold Addr.add;split<;>rfl,h1];exact h5
  have i:=xI hl;have m:∀ u∈l.flatMap enc7F,u.oneCell'=true:=by
   intro u hu;obtain⟨x,D,hx⟩:=List.mem_flatMap.1 hu;obtain⟨j,hj⟩:=List.getElem?_of_mem D;simp only[enc7F,fdC,Cs,List.not_mem_nil,or_false]at hx
   (try rcases hx with rfl|rfl|rfl|rfl)<;>(try subst hx)<;>rfl
  clear hl;generalize hnews:l.flatMap enc7F=news at *;have HN:=xI hnews;clear hnews;go_enter func152,ntmps152;go_wp2_with (at_builtin;refine wpList_append_own _ rfl _ _ 37 rfl w.heap.size 150 i0 (.agg #[vI i6 0,vT ⟨#[]⟩,vI i6 0,.bool false]) 4 40 underlying37 hi v t r rfl (by decide) _ _ _ rfl (World.ownsRow_made w #[] 0 lR (Bq _) rfl) a l.length cap news rfl F (by intro j u hj;exact (((By w.heap.size w).alloc lR _).cell (p:=a.add j) (E j u hj)).trans (f j u hj)) m (by unfold maxLen;omega) (by omega) (by simp) ?_);intro v' w1 hown hgrow hnil;go_wp2;go_ret;refine⟨v',rfl,⟨news,by simpa using hown,fun j x hj=>?_⟩,((By _ w).alloc lR _).grown hgrow (by simp) (by intro k hk;simp[Value.ownBlock]at hk;omega)⟩;rw[<-HN.out,zEf d hj];obtain⟨A',g,h1,_,h3⟩:=i.out;obtain⟨b',B,_,_,_,h7⟩:=h3 (by have:=(Bx.1 hj).1;omega);obtain⟨cs,h8,h9,y,hy,C⟩:=h7 j (Bx.1 hj).1;rw[hj]at hy;injection hy with hy;subst hy;exact⟨rfl,C.2⟩
theorem OwnE.setc {α:Type}{K:ElK α}{e:TypeId}{c:Nat}{w:World}{base:Nat}{v:Value}{l:List α}(hfree:∀ x (w w':World) (B B':Nat->Prop) cs,K.E x w B cs->K.E x w' B' cs) (h:OwnE K e c w base v l){j:Nat}{x:α}(hx:l[j]?=some x) (hc:0<c) :
  ∃ g cap cs,v=vS (some ⟨g,0,none⟩) l.length cap/\base<=g/\g<w.heap.size/\K.E x w (fun _=>True) cs/\(∀ i,i<c->w.cell? ⟨g,j*c+i,none⟩=cs[i]?)/\(∀ i,w.frozen? ⟨g,i,none⟩=false) /\
   ∀ (r:Nat) (u:Value) (y:α),r<c->K.E y w (fun _=>True) (cs.set r u)->OwnE K e c (w.setCell ⟨g,j*c+r,none⟩ u) base v (l.set j y):=by
 obtain⟨xs,⟨a,ho⟩,d⟩:=h;have hj:=(Bx.1 hx).1;have o:(j+1)*c<=l.length*c:=D0 c hj;rw[Dx,Nat.one_mul]at o;rcases ho with⟨_,h0⟩|⟨g,cap,t,hv,hb,hg,n,p,k,f⟩
 ·omega
 have s:∀ q,q<l.length*c->w.cell? (aD g q)=xs[q]?:=fun q hq=>by
  refine (Bu hg q).trans ?_;rw[<-f,Cm hq,Ej]
 have b:∀ m i,i<c->((xs.drop (m*c)).take c)[i]?=xs[m*c+i]?:=fun m i hi=>by rw[Cm hi,C6]
 refine⟨g,cap,(xs.drop (j*c)).take c,hv,hb,(Cp.1 hg).1,hfree _ _ _ _ _ _ (d j x hx),fun i hi=>?_,fun i=>Bz hg i,fun r u y hr hy=>?_⟩
 ·rw[b j i hi,s _ (by omega)]
 ·refine⟨xs.set (j*c+r) u,⟨by rw[Cn,Cn];exact a,.inr ⟨g,cap,t.setIfInBounds (j*c+r) u,by rw[Cn];exact hv,hb,Bm w g (j*c+r) _ _ u hg,by rw[Cn];exact n,p,by simpa using k,?_⟩⟩,fun m z hz=>?_⟩
  ·rw[Cn,<-f,Array.toList_setIfInBounds,List.take_set]
  ·have hm:m<l.length:=by have:=(Bx.1 hz).1;rwa [Cn]at this
   by_cases hmj:m=j
   ·subst hmj;rw[Df hj]at hz;injection hz with hz;subst hz;have:((xs.set (m*c+r) u).drop (m*c)).take c=((xs.drop (m*c)).take c).set r u:=by
     apply Dr;intro i;by_cases hi:i<c
     ·rw[Cm hi,C6,Eq,Eq,b m i hi];by_cases hri:r=i
      ·subst hri;have h1:m*c+r<xs.length:=by omega
       have h2:r<((xs.drop (m*c)).take c).length:=by rw[Bh,Cc];omega
       rw[if_pos rfl,if_pos h1,if_pos rfl,if_pos h2]
      ·rw[if_neg (by omega),if_neg hri]
     ·rw[Ce (by rw[Bh];omega),Ce (by rw[Cn,Bh];omega)]
    rw[this];exact hfree _ _ _ _ _ _ hy
   ·rw[Dn (by omega)]at hz;have:((xs.set (j*c+r) u).drop (m*c)).take c=(xs.drop (m*c)).take c:=by
     apply Dr;intro i;by_cases hi:i<c
     ·rw[Cm hi,C6,b m i hi,Dn];rcases Nat.lt_or_gt_of_ne hmj with h|h
      ·have:=D0 c h;rw[Nat.succ_mul]at this;omega
      ·have:=D0 c h;rw[Nat.succ_mul]at this;omega
     ·rw[Ce (by rw[Bh];omega),Ce (by rw[Bh];omega)]
    rw[this];exact hfree _ _ _ _ _ _ (d m z hz)
theorem zAp (x:Int) (w w':World) (B B':Nat->Prop) (cs:List Value) (h:elI.E x w B cs):elI.E x w' B' cs:=h
theorem zCz (x:Fd) (w w':World) (B B':Nat->Prop) (cs:List Value) (h:elF.E x w B cs):elF.E x w' B' cs:=h
def mvd (g:Int->Int) (x:Tn):Tn:=⟨x.kind,x.lo,x.hi,x.text,x.kids.map g,x.fds.map (fun f=>⟨f.key,g f.node,f.opt⟩),if x.kind=13 then g x.r0 else x.r0,if x.kind=13 then g x.r1 else x.r1⟩
theorem zRb (g:Int->Int) (x:Tn):edg (mvd g x)=(edg x).map g:=by
 unfold edg mvd;rw[Dh,Dh];simp only[List.map_map];by_cases h:x.kind=13
 ·simp[h]
 ·simp[h]
theorem zNu (g:Int->Int) (x:Tn) (h:x.kind=13) (k:Int×List UInt8):toOf (mvd g x) k=g (toOf x k):=by
 unfold toOf mvd;simp only[h,if_true];have:∀ l:List Fd,(l.map (fun f=>(⟨f.key,g f.node,f.opt⟩:Fd))).find? (fun f=>decide (f.key=k))=(l.find? (fun f=>decide (f.key=k))).map (fun f=>⟨f.key,g f.node,f.opt⟩):=by
  intro l
  induction l with
  | nil=>rfl
  | cons a l ih=>
   rw[Di,List.find?_cons,List.find?_cons,ih];cases decide (a.key=k)<;>rfl
 rw[this];cases x.fds.find? (fun f=>decide (f.key=k))with
 | none=>simp only[Option.map_none];split<;>rfl
 | some f=>rfl
theorem zGp {c c':Vl->Nat->Bool}{g:Int->Int}{l:List Vl}{ks:List Int}(h:∀ v,∀ k∈ks,c' v (g k).toNat=c v k.toNat):zA1 c' l (ks.map g)=zA1 c l ks:=by
 unfold zA1;rw[Bj];congr 1
 induction ks generalizing l with
 | nil=>simp
 | cons k ks ih=>
  cases l with
  | nil=>simp
  | cons a l=>
   rw[Di,List.zip_cons_cons,List.zip_cons_cons,Ds,Ds,ih (fun v k hk=>h v k (C0 _ hk)),h a k (Cb ..)]
theorem zO6 {c c':Vl->Nat->Bool}{n:Nat}{x:Tn}{g:Int->Int}(hx:tnB n x=true) (h:∀ v,∀ k∈edg x,c' v (g k).toNat=c v k.toNat) (v:Vl):memS c' (mvd g x) v=memS c x v:=by
 have hk:∀ k∈x.kids,k∈edg x:=fun k hk=>by unfold edg;simp[hk]
 have hm:zA1 c' (zDq v) (x.kids.map g)=zA1 c (zDq v) x.kids:=zGp fun v k hk'=>h v k (hk k hk');have ha:∀ {p q:Int->Bool},(∀ k∈x.kids,p (g k)=q k)->(x.kids.map g).all p=x.kids.all q:=fun hpq=>by
  rw[List.all_map];exact zCc hpq
 have ho:∀ {p q:Int->Bool},(∀ k∈x.kids,p (g k)=q k)->(x.kids.map g).any p=x.kids.any q:=fun hpq=>by
  rw[List.any_map];exact zIu hpq
 have o:∀ i,i<x.kids.length->c' v (((x.kids.map g)[i]?).getD 0).toNat=c v ((x.kids[i]?).getD 0).toNat:=fun i hi=>by
  rw[Cg,Bw hi];exact h v _ (hk _ (Cv _))
 have d:∀ i w,i<x.kids.length->c' w (((x.kids.map g)[i]?).getD 0).toNat=c w ((x.kids[i]?).getD 0).toNat:=fun i w hi=>by
  rw[Cg,Bw hi];exact h w _ (hk _ (Cv _))
 have l:(mvd g x).kind=x.kind:=rfl;have j:(mvd g x).lo=x.lo:=rfl;have m:(mvd g x).hi=x.hi:=rfl;have f:(mvd g x).text=x.text:=rfl;have b:(mvd g x).kids=x.kids.map g:=rfl;unfold memS;rw[l,j,m,f,b,hm];by_cases e13:x.kind=13
 ·have:mapMC c' v (mvd g x)=mapMC c v x:=by
   unfold mapMC;congr 1
   ·unfold mvd;simp only;rw[List.all_map];rfl
   ·refine zCc fun p _=>?_;rw[zNu g x e13];exact h _ _ (zG7 x e13 _)
  rw[this];simp[e13]
 by_cases e14:x.kind=14
 ·have a:1<=x.kids.length:=by
   simp only[tnB,B8]at hx;have:=hx.2;unfold formB at this;simp[e14]at this;exact this.1
  have:funMC c' v (mvd g x)=funMC c v x:=by
   unfold funMC;rw[b,Bj];congr 1;refine zCc fun e _=>?_;unfold entMC;rw[b,Bj,<-List.map_take,zGp fun v k hk'=>h v k (hk k (Ex hk')),d _ _ (by omega)]
  rw[this];simp[e14]
 by_cases e18:x.kind=18
 ·have a:x.kids.length=1:=by
   simp only[tnB,B8]at hx;have:=hx.2;unfold formB at this;simpa [e18] using this
  rw[o 0 (by omega)];simp[e18]
 rw[ho (p:=fun k=>c' v k.toNat) (q:=fun k=>c v k.toNat) (fun k hk'=>h v k (hk k hk')),ha (p:=fun k=>c' v k.toNat) (q:=fun k=>c v k.toNat) (fun k hk'=>h v k (hk k hk'))];simp[e13,e14,e18]
theorem zQu {ns ns':List Tn}{g:Int->Int}{S:Int->Prop}{n:Nat}(hS:∀ i,S i->∃ x,ns[i.toNat]?=some x/\tnB n x=true/\ns'[(g i).toNat]?=some (mvd g x)/\∀ k∈edg x,S k):∀ (u:Nat) (i:Int),S i->∀ v,mem ns' u v (g i).toNat=mem ns u v i.toNat:=by
 intro u
 induction u with
 | zero=>intro i _ v;rfl
 | succ u ih=>
  intro i hi v;obtain⟨x,h1,h2,h3,h4⟩:=hS i hi;unfold mem;rw[h1,h3];exact zO6 h2 (fun v k hk=>ih k (h4 k hk) v) v
theorem zO7 {ns ns':List Tn}{g:Int->Int}{S:Int->Prop}(hw:Wf ns) (hw':Wf ns') (hS:∀ i,S i->∃ x,ns[i.toNat]?=some x/\ns'[(g i).toNat]?=some (mvd g x)/\∀ k∈edg x,S k){i:Int}(hi:S i) (v:Vl):memB ns' v (g i).toNat=memB ns v i.toNat:=by
 have h:=zQu (n:=ns.length) (fun i hi=>by obtain⟨x,h1,h2,h3⟩:=hS i hi;exact⟨x,h1,hw.node x (Bi h1),h2,h3⟩) (max (fu ns v i.toNat) (fu ns' v (g i).toNat)) i hi v;rw[zDi hw _ v _ _ lR (Nat.le_max_left _ _),zDi hw' _ v _ _ lR (Nat.le_max_right _ _)]at h;exact h
theorem zPb (g:Int->Int) (l:List Fd):(l.map (fun f=>(⟨f.key,g f.node,f.opt⟩:Fd))).map Fd.key=l.map Fd.key:=by
 rw[List.map_map];rfl
theorem zQk {n m:Nat}{x:Tn}{g:Int->Int}(hx:tnB n x=true) (h:∀ k∈edg x,0<=g k/\g k<m):tnB m (mvd g x)=true:=by
 have hk:(x.kids.map g).all (idxB m)=true:=by
  rw[B7];intro y hy;obtain⟨k,hk,rfl⟩:=Ca.1 hy;have:=h k (by unfold edg;simp[hk]);simp[idxB,this]
 simp only[tnB,B8]at hx ⊢;refine⟨⟨hk,?_⟩,?_⟩
 ·have h2:=hx.1.2;unfold useB mvd at *;by_cases e:x.kind=13
  ·simp only[e]at h2 ⊢;simpa using h2
  ·simp only[e,if_false]at h2 ⊢;simpa using h2
 ·have h3:=hx.2;unfold formB mvd at *;by_cases e:x.kind=13
  ·simp[e]at h3 ⊢;obtain⟨⟨⟨h4,h5⟩,h6⟩,h7⟩:=h3;have e0:=h x.r0 (by unfold edg;simp[e]);have e1:=h x.r1 (by unfold edg;simp[e]);refine⟨⟨⟨?_,h5⟩,by simp[idxB,e0]⟩,by simp[idxB,e1]⟩;simp only[fdsB,B8,B7,Be]at h4 ⊢;refine⟨fun f hf=>?_,by rw[zPb];exact h4.2⟩;obtain⟨f0,a,rfl⟩:=Ca.1 hf;have e2:=h f0.node (by unfold edg;simp only[Cy,Ca];exact .inl (.inr ⟨f0,a,rfl⟩));exact⟨by simp[idxB,e2],(h4.1 f0 a).2⟩
  ·simp only[e,if_false,Bj]at h3 ⊢;exact h3
def tn0:Tn:=⟨0,0,0,[],[],[],0,0⟩
def nd (ns:List Tn) (n:Int):Tn:=(ns[n.toNat]?).getD tn0
def sub1 (f:List UInt8->Option Int) (x:Tn):Option Int:=if x.kind=19 then f x.text else none
def keptL (ns:List Tn) (f:List UInt8->Option Int) (order:List Int):List Int:=order.filter fun n=>(sub1 f (nd ns n)).isNone
def plc (ns:List Tn) (f:List UInt8->Option Int) (order:List Int) (first:Nat) (n:Int):Int:=
 match sub1 f (nd ns n)with
 | some p=>p
 | none=>(first:Int)+(keptL ns f order).idxOf n
def grfN (ns:List Tn) (f:List UInt8->Option Int) (order:List Int) (first:Nat):List Tn:=(keptL ns f order).map fun n=>mvd (plc ns f order first) (nd ns n)
theorem nd_at {ns:List Tn}{n:Int}{x:Tn}(h:ns[n.toNat]?=some x):nd ns n=x:=by unfold nd;rw[h];rfl
theorem zK8 {n m:Nat}{x:Tn}(h:n<=m) (hx:tnB n x=true):tnB m x=true:=by
 have hi:∀ k,idxB n k=true->idxB m k=true:=fun k hk=>by simp only[idxB,B8,Be]at hk ⊢;omega
 simp only[tnB,B8,B7]at hx ⊢;refine⟨⟨fun k hk=>hi k (hx.1.1 k hk),hx.1.2⟩,?_⟩;have h3:=hx.2;unfold formB at h3 ⊢;by_cases e:x.kind=13
 ·simp[e]at h3 ⊢;refine⟨⟨⟨?_,h3.1.1.2⟩,hi _ h3.1.2⟩,hi _ h3.2⟩;simp only[fdsB,B8,B7,Be]at h3 ⊢;exact⟨fun f hf=>⟨hi _ (h3.1.1.1.1 f hf).1,(h3.1.1.1.1 f hf).2⟩,h3.1.1.1.2⟩
 ·simp only[e,if_false]at h3 ⊢;exact h3
structure BOk (z:Nat) (bs:List Tn):Prop where
 node:∀ (i:Nat) x,bs[i]?=some x->z<=i->tnB bs.length x=true/\∀ k∈edg x,(z:Int)<=k
 kids:∀ x∈bs,∀ k∈x.kids,0<=k/\k<bs.length
 ctr:Ctr bs
theorem zJy {ns:List Tn}{f:List UInt8->Option Int}{order:List Int}{first:Nat}{n:Int}(hn:n∈order) (hs:sub1 f (nd ns n)=none):∃ j:Nat,plc ns f order first n=((first+j:Nat):Int)/\(grfN ns f order first)[j]?=some (mvd (plc ns f order first) (nd ns n))/\j<(keptL ns f order).length:=by
 have hm:n∈keptL ns f order:=by unfold keptL;rw[Dd];exact⟨hn,by rw[hs];rfl⟩
 refine⟨(keptL ns f order).idxOf n,?_,?_,List.idxOf_lt_length_of_mem hm⟩
 ·unfold plc;rw[hs];simp only;omega
 ·unfold grfN;rw[Cg,Bw (List.idxOf_lt_length_of_mem hm),List.getElem_idxOf];rfl
theorem zJm {x:Tn}{k:Int}(h:k∈x.kids):k∈edg x:=by unfold edg;simp[h]
theorem Rch.lt {ns:List Tn}{r:Nat}(he:EdgOk ns) (hr:r<ns.length){i:Nat}(h:Rch ns r i):i<ns.length:=by
 cases h with
 | root=>exact hr
 | more h1 h2 h3=>
  have:=he _ (Bi h2) _ h3;omega
theorem zRt {z r:Nat}{ns bs:List Tn}{f:List UInt8->Option Int}{order:List Int}(hw:Wf ns) (hr:r<ns.length) (ho:∀ i:Int,i∈order↔0<=i/\Rch ns r i.toNat) (hb:BOk z bs) (hz:z<=bs.length) (hf:∀ s p,f s=some p->(z:Int)<=p/\p<bs.length) :
  BOk z (bs++grfN ns f order bs.length)/\∀ n∈order,(z:Int)<=plc ns f order bs.length n/\plc ns f order bs.length n<(bs++grfN ns f order bs.length).length:=by
 have b:(bs++grfN ns f order bs.length).length=bs.length+(keptL ns f order).length:=by rw[Bd];unfold grfN;rw[Bj]
 have v:∀ i,Rch ns r i->i<ns.length:=fun i hi=>hi.lt hw.edg hr;have e:∀ n∈order,(z:Int)<=plc ns f order bs.length n/\plc ns f order bs.length n<(bs++grfN ns f order bs.length).length:=fun n hn=>by
  rw[b];cases hs:sub1 f (nd ns n)with
  | none=>
   obtain⟨j,h1,_,h3⟩:=zJy (first:=bs.length) hn hs
   rw[h1];omega
  | some p=>
   have hp:f (nd ns n).text=some p:=by
    unfold sub1 at hs;split at hs
    ·exact hs
    ·simp at hs
   have:=hf _ _ hp;have he:plc ns f order bs.length n=p:=by unfold plc;rw[hs]
   rw[he];omega
 have a:∀ n∈order,∃ x,ns[n.toNat]?=some x/\nd ns n=x/\∀ k∈edg x,k∈order:=fun n hn=>by
  have h1:=(ho n).1 hn;have h2:=v _ h1.2;refine⟨_,Bw h2,nd_at (Bw h2),fun k hk=>(ho k).2 ⟨?_,.more h1.2 (Bw h2) hk⟩⟩;exact (hw.edg _ (Cv _) k hk).1
 have l:∀ (j:Nat) x,(grfN ns f order bs.length)[j]?=some x->∃ n∈order,sub1 f (nd ns n)=none/\x=mvd (plc ns f order bs.length) (nd ns n):=fun j x hx=>by
  unfold grfN at hx;rw[Cg]at hx;cases hk:(keptL ns f order)[j]? with
  | none=>rw[hk]at hx;simp at hx
  | some n=>
   rw[hk]at hx;have hm:=Bi hk;unfold keptL at hm;rw[Dd]at hm;refine⟨n,hm.1,by cases h:sub1 f (nd ns n)<;>simp_all,?_⟩;simpa using hx.symm
 refine⟨⟨fun i x hx hzi=>?_,fun x hx k hk=>?_,?_⟩,e⟩
 ·by_cases hi:i<bs.length
  ·rw[Do hi]at hx;have:=hb.node i x hx hzi;exact⟨zK8 (by rw[b];omega) this.1,this.2⟩
  ·rw[Dz (by omega)]at hx;obtain⟨n,hn,_,rfl⟩:=l _ _ hx;obtain⟨y,hy,g,c⟩:=a n hn;rw[g];refine⟨zQk (hw.node y (Bi hy)) fun k hk=>⟨by have:=(e k (c k hk)).1;omega,(e k (c k hk)).2⟩,fun k hk=>?_⟩;rw[zRb]at hk;obtain⟨q,hq,rfl⟩:=Ca.1 hk;exact (e q (c q hq)).1
 ·rcases Cy.1 hx with hx|hx
  ·have:=hb.kids x hx k hk;rw[b];omega
  ·obtain⟨j,hj⟩:=Eu.1 hx;obtain⟨n,hn,_,rfl⟩:=l _ _ hj;obtain⟨y,hy,g,c⟩:=a n hn;rw[g]at hk;obtain⟨q,hq,rfl⟩:=Ca.1 (show k∈y.kids.map _ from hk);have:=e q (c q (zJm hq));exact⟨by omega,this.2⟩
 ·obtain⟨fb,C⟩:=hb.ctr;obtain⟨fn,B⟩:=hw.ctr;refine⟨fun i=>if i<bs.length then fb i else ((List.range bs.length).map fb).sum+1+fn ((keptL ns f order)[i-bs.length]?.getD 0).toNat,fun i x hx hc k hk y hy hcy=>?_⟩;by_cases hi:i<bs.length
  ·rw[Do hi]at hx;have D:=hb.kids x (Bi hx) k hk;have d:k.toNat<bs.length:=by omega
   rw[Do d]at hy;show (if k.toNat<_ then _ else _)<(if i<_ then _ else _);rw[if_pos d,if_pos hi];exact C i x hx hc k hk y hy hcy
  ·show (if k.toNat<_ then _ else _)<(if i<_ then _ else _);rw[if_neg hi];split
   ·rename_i d;have:=zBq (Db (f:=fb) (List.mem_range.2 d));omega
   ·rename_i d;rw[Dz (by omega)]at hx;unfold grfN at hx;rw[Cg]at hx;cases hq:(keptL ns f order)[i-bs.length]? with
    | none=>rw[hq]at hx;simp at hx
    | some n=>
     rw[hq]at hx;have hx:mvd (plc ns f order bs.length) (nd ns n)=x:=by simpa using hx
     have A:n∈order:=by have:=Bi hq;unfold keptL at this;exact (Dd.1 this).1
     obtain⟨y0,u,g,c⟩:=a n A;rw[g]at hx;subst hx;obtain⟨q,o,rfl⟩:=Ca.1 (show k∈y0.kids.map _ from hk);have m:=c q (zJm o);cases hs:sub1 f (nd ns q)with
     | some p=>
      exfalso;have hp:f (nd ns q).text=some p:=by
       unfold sub1 at hs;split at hs
       ·exact hs
       ·simp at hs
      have:=hf _ _ hp;have he:plc ns f order bs.length q=p:=by unfold plc;rw[hs]
      rw[he]at d;omega
     | none=>
      have hm:q∈keptL ns f order:=by unfold keptL;rw[Dd];exact⟨m,by rw[hs];rfl⟩
      have he:(plc ns f order bs.length q).toNat-bs.length=(keptL ns f order).idxOf q:=by unfold plc;rw[hs];simp only;omega
      rw[he,Bw (List.idxOf_lt_length_of_mem hm),List.getElem_idxOf];rw[Dz (by omega),he]at hy;unfold grfN at hy;rw[Cg,Bw (List.idxOf_lt_length_of_mem hm),List.getElem_idxOf]at hy;have hy:mvd (plc ns f order bs.length) (nd ns q)=y:=by simpa using hy
      obtain⟨z0,t,w,_⟩:=a q m;rw[w]at hy;subst hy;have:=B n.toNat y0 u hc q o z0 t hcy;simp only[Option.getD_some];omega
theorem zQ3 {r first:Nat}{ns fs:List Tn}{order:List Int}(hw:Wf ns) (hr:r<ns.length) (ho:∀ i:Int,i∈order↔0<=i/\Rch ns r i.toNat) (hw':Wf fs) (f:List UInt8->Option Int) (hfn:∀ n∈order,sub1 f (nd ns n)=none)
  (hfs:∀ (j:Nat) x,(grfN ns f order first)[j]?=some x->fs[first+j]?=some x){n:Int}(hn:n∈order) (v:Vl):memB fs v (plc ns f order first n).toNat=memB ns v n.toNat:=by
 refine zO7 (S:=fun i=>i∈order) hw hw' (fun i hi=>?_) hn v;have h1:=(ho i).1 hi;have a:i.toNat<ns.length:=h1.2.lt hw.edg hr;refine⟨_,Bw a,?_,fun k hk=>(ho k).2 ⟨(hw.edg _ (Cv _) k hk).1,.more h1.2 (Bw a) hk⟩⟩;obtain⟨j,h2,h3,_⟩:=zJy (first:=first) hi (hfn i hi)
 have:=hfs j _ h3;rw[nd_at (Bw a)]at this;rw[h2,Dy];exact this
theorem zHz (x:Tn):sub1 (fun _=>none) x=none:=by unfold sub1;split<;>rfl
theorem zPn {bs:List Tn}(x:Tn) (h:Ctr bs) (hb:∀ (i:Nat) y,bs[i]?=some y->1<=i->∀ k∈y.kids,1<=k) (hx:∀ k∈x.kids,1<=k/\k<bs.length):Ctr (bs.set 0 x):=by
 obtain⟨f,hf⟩:=h;refine⟨fun i=>if i=0 then ((List.range bs.length).map f).sum+1 else f i,fun i y hy hc k hk z hz hcz=>?_⟩;show (if k.toNat=0 then _ else _)<(if i=0 then _ else _);by_cases hi:i=0
 ·subst hi;have h0:0<bs.length:=by
   have:=(Bx.1 hy).1;simpa using this
  rw[Df h0]at hy;injection hy with hy;subst hy;have:=hx k hk;rw[if_neg (by omega),if_pos rfl];have:=zBq (Db (f:=f) (List.mem_range.2 (show k.toNat<bs.length by omega)));omega
 ·rw[Dn (fun e=>hi e.symm)]at hy;have b:=hb i y hy (by omega) k hk;have a:k.toNat≠0:=by omega
  rw[if_neg a,if_neg hi];rw[Dn (fun e=>a e.symm)]at hz;exact hf i y hy hc k hk z hz hcz
theorem zKi {ns:List Tn}:∀ (u:Nat) (s:List Bool×List Int) (n:Nat),n<ns.length->EdgOk ns->s.1.length=ns.length->(∀ i∈s.2,dn s.1 i.toNat=true/\0<=i)->s.2.Nodup ->
  (visC ns u s n).1.length=ns.length/\(∀ i∈(visC ns u s n).2,dn (visC ns u s n).1 i.toNat=true/\0<=i)/\(visC ns u s n).2.Nodup:=by
 intro u
 induction u with
 | zero=>intro s n _ _ h1 h2 h3;exact⟨h1,h2,h3⟩
 | succ u ih=>
  intro s n hn he h1 h2 h3;unfold visC;split
  ·exact⟨h1,h2,h3⟩
  rename_i hd;rw[Bw hn];simp only;have d:∀ (l:List Int) (t:List Bool×List Int),(∀ k∈l,k∈edg ns[n])->t.1.length=ns.length->(∀ i∈t.2,dn t.1 i.toNat=true/\0<=i)->t.2.Nodup ->
    (l.foldl (fun s k=>visC ns u s k.toNat) t).1.length=ns.length/\(∀ i∈(l.foldl (fun s k=>visC ns u s k.toNat) t).2,dn (l.foldl (fun s k=>visC ns u s k.toNat) t).1 i.toNat=true/\0<=i)/\(l.foldl (fun s k=>visC ns u s k.toNat) t).2.Nodup:=by
   intro l
   induction l with
   | nil=>intro t _ a b c;exact⟨a,b,c⟩
   | cons k l ihl=>
    intro t hl a b c;have hk:=he _ (Cv _) k (hl k (Cb ..));obtain⟨a',b',c'⟩:=ih t k.toNat (by omega) he a b c;rw[Dc];exact ihl _ (fun k hk=>hl k (C0 _ hk)) a' b' c'
  refine d _ _ (fun _ h=>h) (by simpa using h1) (fun i hi=>?_) ?_
  ·show dn (s.1.set n true) i.toNat=true/\0<=i;rcases Cy.1 hi with hi|hi
   ·rw[zDa];refine⟨?_,(h2 i hi).2⟩;split
    ·rfl
    ·exact (h2 i hi).1
   ·rw[Cq]at hi;subst hi;exact⟨by rw[zDa,if_pos ⟨by omega,by omega⟩],by omega⟩
  ·show (s.2++[(n:Int)]).Nodup;rw[List.nodup_append];refine⟨h3,by simp,fun a ha b hb=>?_⟩;rw[Cq]at hb;subst hb;intro e;subst e;have:=(h2 _ ha).1;rw[show ((n:Int)).toNat=n by omega]at this;exact hd this
abbrev Ty:=List Tn×Int
def noneT:Ty:=([⟨1,0,0,[],[],[],0,0⟩],0)
def accT (t:Ty):Ty:=if wfC t.1 t.2=0 then t else noneT
def WfT (t:Ty):Prop:=wfC t.1 t.2=0
theorem WfT.wf {t:Ty}(h:WfT t):Wf t.1:=(Wf.of_zero h).1
theorem WfT.rt {t:Ty}(h:WfT t):0<=t.2/\t.2<t.1.length:=(Wf.of_zero h).2
theorem WfT.mk {t:Ty}(h:Wf t.1) (h1:0<=t.2) (h2:t.2<t.1.length):WfT t:=zJu.2 ⟨by simp[idxB,h1,h2],h.node,h.ctr⟩
theorem zHf:WfT noneT:=by
 refine WfT.mk ⟨fun x hx=>?_,⟨fun _=>0,fun i x hx hc k hk=>?_⟩⟩ (by decide) (by decide)
 ·simp[noneT]at hx;subst hx;decide
 ·have:=Bi hx;simp[noneT]at this;subst this;simp at hk
theorem zD5 (t:Ty):WfT (accT t):=by
 unfold accT;split
 ·assumption
 ·exact zHf
theorem zRg {t:Ty}(h:WfT t):accT t=t:=by exact if_pos h
noncomputable def memT (v:Vl) (t:Ty):Bool:=decide (wfC t.1 t.2=0)&&memB t.1 v t.2.toNat
theorem zFr {t:Ty}(h:WfT t) (v:Vl):memT v t=memB t.1 v t.2.toNat:=by unfold memT;rw[show decide (wfC t.1 t.2=0)=true from Cj h];rfl
theorem zIc (v:Vl):memT v noneT=false:=by
 rw[zFr zHf];show memB noneT.1 v 0=false;rw[zBn zHf.wf (k:=0) (x:=⟨1,0,0,[],[],[],0,0⟩) rfl];rfl
theorem zP2 (v:Vl) (t:Ty):memT v (accT t)=memT v t:=by
 unfold accT;split
 ·rfl
 ·rename_i h;rw[zIc];unfold memT;rw[show decide (wfC t.1 t.2=0)=false from Co h];rfl
def visR (ns:List Tn) (r:Nat):List Int:=(visC ns (ns.length+1) (List.replicate ns.length false,[]) r).2
theorem zCd {t:Ty}(h:WfT t) (i:Int):i∈visR t.1 t.2.toNat↔0<=i/\Rch t.1 t.2.toNat i.toNat:=zLu h.wf.edg (by have:=h.rt;omega) i
theorem zEl {t:Ty}(h:WfT t):(visR t.1 t.2.toNat).Nodup:=(zKi _ _ _ (by have:=h.rt;omega) h.wf.edg (by simp) (by simp) (by simp)).2.2
def gr (f:List UInt8->Option Int) (t:Ty) (bs:List Tn):List Tn×Int:=(bs++grfN t.1 f (visR t.1 t.2.toNat) bs.length,plc t.1 f (visR t.1 t.2.toNat) bs.length t.2)
theorem zHa {t:Ty}(h:WfT t):t.2∈visR t.1 t.2.toNat:=(zCd h _).2 ⟨h.rt.1,.root⟩
theorem gr_ok {z:Nat}{f:List UInt8->Option Int}{t:Ty}{bs:List Tn}(h:WfT t) (hb:BOk z bs) (hz:z<=bs.length) (hf:∀ s p,f s=some p->(z:Int)<=p/\p<bs.length) :
  BOk z (gr f t bs).1/\(z:Int)<=(gr f t bs).2/\(gr f t bs).2<(gr f t bs).1.length:=by
 have h1:=zRt h.wf (by have:=h.rt;omega) (zCd h) hb hz hf;exact⟨h1.1,h1.2 _ (zHa h)⟩
theorem zQb {f:List UInt8->Option Int}{t:Ty}{bs fs:List Tn}(h:WfT t) (hw:Wf fs) (hn:∀ n∈visR t.1 t.2.toNat,sub1 f (nd t.1 n)=none) (hfs:∀ (j:Nat) x,(gr f t bs).1[j]?=some x->bs.length<=j->fs[j]?=some x) (v:Vl):memB fs v (gr f t bs).2.toNat=memB t.1 v t.2.toNat:=by
 refine zQ3 h.wf (by have:=h.rt;omega) (zCd h) hw f hn (fun j x hx=>?_) (zHa h) v;refine hfs (bs.length+j) x ?_ (by omega);show (bs++_)[bs.length+j]?=some x;rw[Dz (by omega),Nat.add_sub_cancel_left];exact hx
def grAll:List Ty->List Tn->List Tn×List Int
 | [],bs=>(bs,[])
 | t::l,bs=>((grAll l (gr (fun _=>none) t bs).1).1,(gr (fun _=>none) t bs).2::(grAll l (gr (fun _=>none) t bs).1).2)
theorem zF0 {f:List UInt8->Option Int}{t:Ty}{bs:List Tn}{j:Nat}{x:Tn}(h:bs[j]?=some x):(gr f t bs).1[j]?=some x:=by
 show (bs++_)[j]?=some x;rw[Do (Bx.1 h).1,h]
theorem zRu {f:List UInt8->Option Int}{t:Ty}{bs:List Tn}:bs.length<=(gr f t bs).1.length:=by
 show _<=(bs++_).length;rw[Bd];omega
theorem zPh {z:Nat}:∀ (l:List Ty) (bs:List Tn),(∀ t∈l,WfT t)->BOk z bs->z<=bs.length ->
  BOk z (grAll l bs).1/\bs.length<=(grAll l bs).1.length/\(∀ (j:Nat) x,bs[j]?=some x->(grAll l bs).1[j]?=some x)/\(grAll l bs).2.length=l.length/\(∀ k∈(grAll l bs).2,(z:Int)<=k/\k<(grAll l bs).1.length) /\
  ∀ fs,Wf fs->(∀ (j:Nat) x,(grAll l bs).1[j]?=some x->z<=j->fs[j]?=some x)->∀ (i:Nat) t k,l[i]?=some t->(grAll l bs).2[i]?=some k->∀ v,memB fs v k.toNat=memB t.1 v t.2.toNat:=by
 intro l
 induction l with
 | nil=>intro bs _ hb hz;exact⟨hb,Bb _,fun _ _ h=>h,rfl,fun k hk=>by simp[grAll]at hk,fun _ _ _ i t k hi=>by simp at hi⟩
 | cons t l ih=>
  intro bs hl hb hz;have ht:=hl t (Cb ..);have h1:=gr_ok (f:=fun _=>none) ht hb hz (fun s p h=>by simp at h);have g:=zRu (f:=fun _=>none) (t:=t) (bs:=bs);obtain⟨a,b,c,d,e,f⟩:=ih (gr (fun _=>none) t bs).1 (fun t ht=>hl t (C0 _ ht)) h1.1 (by omega);refine⟨a,by unfold grAll;simp only;omega,fun j x hx=>c j x (zF0 hx),by unfold grAll;simp only[Ci,d],fun k hk=>?_,fun fs hw hfs i u k hi hk v=>?_⟩
  ·unfold grAll at hk ⊢;simp only at hk ⊢;rcases Cs.1 hk with rfl|hk
   ·have:=h1.2;omega
   ·exact e k hk
  ·unfold grAll at hk hfs;simp only at hk hfs;cases i with
   | zero=>
    simp at hi hk;subst hi hk;exact zQb ht hw (fun n _=>zHz _) (fun j x hx hj=>hfs j x (c j x hx) (by omega)) v
   | succ i=>
    rw[De]at hi hk;exact f fs hw hfs i u k hi hk v
def compT (kind:Int) (l:List Ty):Ty:=((grAll l [⟨kind,0,0,[],[],[],0,0⟩]).1.set 0 ⟨kind,0,0,[],(grAll l [⟨kind,0,0,[],[],[],0,0⟩]).2,[],0,0⟩,0)
theorem zPp {kind:Int}{l:List Ty}(hl:∀ t∈l,WfT t) (hk:(kind=10/\l.length<=4)\/(kind=12/\l.length=2)\/(kind=14/\1<=l.length/\l.length<=5)\/(kind=16/\1<=l.length)\/(kind=17/\1<=l.length)\/(kind=18/\l.length=1)) :
  WfT (compT kind l)/\∃ ks:List Int,ks.length=l.length/\(∀ (i:Nat) t k,l[i]?=some t->ks[i]?=some k->∀ v,memB (compT kind l).1 v k.toNat=memB t.1 v t.2.toNat)/\∀ v,memT v (compT kind l)=memS (memB (compT kind l).1) ⟨kind,0,0,[],ks,[],0,0⟩ v:=by
 have o:BOk 1 [(⟨kind,0,0,[],[],[],0,0⟩:Tn)]:=by
  refine⟨fun i x hx hi=>?_,fun x hx k hk=>?_,⟨fun _=>0,fun i x hx hc k hk=>?_⟩⟩
  ·have:=(Bx.1 hx).1;simp at this;omega
  ·simp at hx;subst hx;simp at hk
  ·have:=Bi hx;simp at this;subst this;simp at hk
 obtain⟨a,b,c,d,e,f⟩:=zPh l _ hl o (by simp);unfold compT;generalize grAll l [(⟨kind,0,0,[],[],[],0,0⟩:Tn)]=G at *;obtain⟨bs,ks⟩:=G;simp only at a b c d e f ⊢;have m:1<=bs.length:=by simpa using b
 have n:ks.all (idxB bs.length)=true:=by
  rw[B7];intro k hk;have:=e k hk;simp[idxB];omega
 have h0:tnB bs.length ⟨kind,0,0,[],ks,[],0,0⟩=true:=by
  rcases hk with⟨rfl,h⟩|⟨rfl,h⟩|⟨rfl,h⟩|⟨rfl,h⟩|⟨rfl,h⟩|⟨rfl,h⟩<;>simp[tnB,useB,formB,n,d]<;>omega
 have hw:Wf (bs.set 0 ⟨kind,0,0,[],ks,[],0,0⟩):=by
  refine⟨fun x hx=>?_,zPn _ a.ctr (fun i y hy hi k hk=>?_) fun k hk=>?_⟩
  ·rw[Cn];obtain⟨i,hi⟩:=Eu.1 hx;cases i with
   | zero=>
    rw[Df (by omega)]at hi;injection hi with hi;rw[<-hi];exact h0
   | succ i=>
    rw[Dn (by omega)]at hi;exact (a.node (i+1) x hi (by omega)).1
  ·have:=(a.node i y hy hi).2 k (zJm hk);omega
  ·have:=e k hk;omega
 have g:WfT (bs.set 0 ⟨kind,0,0,[],ks,[],0,0⟩,0):=WfT.mk hw (Int.le_refl 0) (by show (0:Int)<((bs.set 0 _).length:Int);rw[Cn];omega);refine⟨g,ks,d,fun i t k hi hk v=>?_,fun v=>?_⟩
 ·refine f _ hw (fun j x hx hj=>?_) i t k hi hk v;rw[Dn (by omega)];exact hx
 ·rw[zFr g,zBn hw (x:=⟨kind,0,0,[],ks,[],0,0⟩)];show (bs.set 0 _)[0]?=_;rw[Df (by omega)]
def pruT (t:Ty):Ty:=gr (fun _=>none) (accT t) []
theorem zQq (t:Ty):WfT (pruT t)/\∀ v,memT v (pruT t)=memT v t:=by
 have ha:=zD5 t;have hb:BOk 0 ([]:List Tn):=⟨fun i x hx=>by simp at hx,fun x hx=>by simp at hx,⟨fun _=>0,fun i x hx=>by simp at hx⟩⟩;have h:=gr_ok (z:=0) (f:=fun _=>none) ha hb lR (fun s p h=>by simp at h);have hw:Wf (pruT t).1:=⟨fun x hx=>by
  obtain⟨i,hi⟩:=Eu.1 hx;exact (h.1.node i x hi (Bq _)).1,h.1.ctr⟩
 have a:WfT (pruT t):=WfT.mk hw h.2.1 h.2.2;refine⟨a,fun v=>?_⟩;rw[zFr a,<-zP2 v t,zFr ha];exact zQb ha hw (fun n _=>zHz _) (fun j x hx _=>hx) v
end Go.Proofs.YteedihhdcbepmaaGreat
