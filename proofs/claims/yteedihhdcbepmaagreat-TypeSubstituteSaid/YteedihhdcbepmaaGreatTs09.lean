/- A function that hands back a node of a type .. -/
import Derived.Test.YteedihhdcbepmaaGreatTsZ
import Derived.Test.YteedihhdcbepmaaGreatTs08
set_option maxRecDepth 100000
set_option maxHeartbeats 12800000
set_option linter.all false
open Go.Value renaming slice→vS,int→vI,string→vT
open Go.IntKind renaming i64→i6
open Go.Proofs.Tryz
open Go.Proofs.Tryz renaming prog→tP
namespace Go.Proofs.YteedihhdcbepmaaGreat
open Go Go.RowKit
theorem ret8 {fn:Func}{R:Ending->World->Prop}{a:Act}{w:World}{s g:Nat}{z0 z1 z2 z3 z4 z5 z6 z7 v0 v1 v2 v3 v4 v5 v6 v7:Value}(hK:w.heap[g]?=some (.cells #[z0,z1,z2,z3,z4,z5,z6,z7] 40 (0,0))) (hr:fn.results=#[.cell s 40]) (ha:a.tmps[s]?=some (.pointer (some ⟨g,0,none⟩))) (hd:a.defers=[])
  (h:∀ V,V.heap.size=w.heap.size->(∀ b,b≠g->V.heap[b]?=w.heap[b]?)->(∀ B,B<=g->Below B w V)->R (.returned (.agg #[v0,v1,v2,v3,v4,v5,v6,v7])) V) :
  bodyPost tP fn R .ret a ((((((((w.setCell ⟨g,0,none⟩ v0).setCell ⟨g,1,none⟩ v1).setCell ⟨g,2,none⟩ v2).setCell ⟨g,3,none⟩ v3).setCell ⟨g,4,none⟩ v4).setCell ⟨g,5,none⟩ v5).setCell ⟨g,6,none⟩ v6).setCell ⟨g,7,none⟩ v7):=by
 refine nW fun V hV=>?_;obtain⟨h1,h2,h3,h4⟩:=box8 hK _ _ _ _ _ _ _ _ V hV;obtain⟨c0,c1,c2,c3,c4,c5,c6,c7⟩:=zAe h1;refine Cw (v:=.agg #[v0,v1,v2,v3,v4,v5,v6,v7]) (by simp[results,hr,ha,go_sem,c0,c1,c2,c3,c4,c5,c6,c7]) hd (h V h2 h3 h4)
def NodeR (h p n i:Nat) (w:World) (e:Ending) (w':World):Prop:=(∃ x cs,e=.returned (.agg cs.toArray)/\TnB w' (Btw w.heap.size w'.heap.size) x cs/\GenN n i x)/\SrcOk h p w'/\Eff p w w'
theorem zAr {h p n i:Nat}{w w9 V:World}{x:Tn}{cs:List Value}(hlp:p<w.heap.size) (hz:w.heap.size<w9.heap.size) (hS:SrcOk h p w9) (hE:Eff p w w9) (hT:TnB w9 (Btw (w.heap.size+1) w9.heap.size) x cs) (hG:GenN n i x)
  (h1:V.heap.size=w9.heap.size) (h2:∀ b,b≠w.heap.size->V.heap[b]?=w9.heap[b]?) (h3:∀ B,B<=w.heap.size->Below B w9 V):NodeR h p n i w (.returned (.agg cs.toArray)) V:=
 ⟨⟨x,cs,rfl,(hT.keep ⟨by omega,fun b j hb _=>Bi (h2 b (by have:=hb.1;omega))⟩).sub fun b hb=>⟨by have:=hb.1;omega,by have:=hb.2;omega⟩,hG⟩,hS.below3 (h3 w.heap.size lR) hlp,hE.grow (h3 w.heap.size lR) hlp⟩
theorem leafT {w:World}{B:Nat->Prop}(k lo hi:Int) (t:List UInt8) (hk:i64B k) (hlo:i64B lo) (hhi:i64B hi) (ht:t.length<=maxLen):TnB w B ⟨k,lo,hi,t,[],[],0,0⟩ [vI i6 k,vI i6 lo,vI i6 hi,vT ⟨t.toArray⟩,vS none 0 0,vS none 0 0,vI i6 0,vI i6 0]:=
 ⟨_,_,rfl,⟨hk,hlo,hhi,ht,by show i64B 0;decide,by show i64B 0;decide⟩,RowB.nil _ _ _ _,RowB.nil _ _ _ _⟩
theorem kidT {w:World}{base m c:Nat}{A:Option Addr}{l:List Int}(k:Int) (hk:i64B k) (ho:OwnI w base (vS A m c) l) (hm:l.length=m) (hl:m<=3){H:Nat}(hH:H<=base):TnB w (Btw H w.heap.size) ⟨k,0,0,[],l,[],0,0⟩ [vI i6 k,vI i6 0,vI i6 0,vT ⟨#[]⟩,vS A m c,vS none 0 0,vI i6 0,vI i6 0]:=by
 subst hm;exact⟨_,_,rfl,⟨hk,by show i64B 0;decide,by show i64B 0;decide,by simp,by show i64B 0;decide,by show i64B 0;decide⟩,OwnE.rowB ho (by decide) (by unfold maxLen;omega) hH,RowB.nil _ _ _ _⟩
def leafK (k:Int):Bool:=decide (k=1\/k=2\/k=5\/k=7\/k=8\/k=9\/k=11\/k=15)
theorem zDb {n i:Nat}{k:Int}(h:leafK k=true):GenN n i ⟨k,0,0,[],[],[],0,0⟩:=by
 simp only[leafK,Bf]at h;refine⟨?_,fun hc k hk=>by simp at hk,fun hv=>?_,by simp,by simp⟩
 ·rcases h with rfl|rfl|rfl|rfl|rfl|rfl|rfl|rfl<;>simp[tnB,useB,formB]
 ·simp at hv;omega
theorem WordN.len64 {s:List UInt8}(h:WordN s):s.length<=64:=by
 rcases h with rfl|rfl|rfl|rfl<;>decide
theorem zR6 {n i:Nat}{s:List UInt8}(h:AtomN s):GenN n i ⟨6,0,0,s,[],[],0,0⟩:=
 ⟨by simp[tnB,useB,formB,h.ok],fun _ k hk=>by simp at hk,fun hv=>by simp at hv,by simp,by simp⟩
theorem zR5 {n i:Nat}{s:List UInt8}(h:WordN s):GenN n i ⟨4,0,0,s,[],[],0,0⟩:=
 ⟨by simp[tnB,useB,formB,h.len64],fun _ k hk=>by simp at hk,fun hv=>by simp at hv,by simp,by simp⟩
theorem zSu {n i:Nat}{s:List UInt8}(h:LabN s):GenN n i ⟨19,0,0,s,[],[],0,0⟩:=
 ⟨by simp[tnB,useB,formB,h.ok],fun _ k hk=>by simp at hk,fun _=>h,by simp,by simp⟩
theorem zSv {n i:Nat}{a b:Int}(h:a<=b):GenN n i ⟨3,a,b,[],[],[],0,0⟩:=
 ⟨by simp[tnB,useB,formB,h],fun _ k hk=>by simp at hk,fun hv=>by simp at hv,by simp,by simp⟩
theorem zC1 {n i m:Nat}{l:List Int}{k fr:Int}(hl:l.length=m) (hm:m<=3) (h0:0<=fr) (hk:∀ x∈l,fr<=x/\x<n) (hf:(k=10/\m<=4)\/(k=12/\m=2)\/(k=14/\1<=m)\/(k=18/\m=1/\(i:Int)<fr)\/(k=17/\1<=m/\(i:Int)<fr)\/(k=16/\1<=m/\(i:Int)<fr)):GenN n i ⟨k,0,0,[],l,[],0,0⟩:=by
 have hi:l.all (idxB n)=true:=by
  rw[Cz];intro x hx;have:=hk x hx;simp[idxB];omega
 refine⟨?_,fun hc x hx=>?_,fun hv=>?_,by show l.length<=3;omega,by simp⟩
 ·rcases hf with⟨rfl,h⟩|⟨rfl,h⟩|⟨rfl,h⟩|⟨rfl,h,_⟩|⟨rfl,h,_⟩|⟨rfl,h,_⟩<;>simp[tnB,useB,formB,hi,hl]<;>omega
 ·have:=hk x hx;rcases hf with⟨rfl,h⟩|⟨rfl,h⟩|⟨rfl,h⟩|⟨rfl,h,_⟩|⟨rfl,h,_⟩|⟨rfl,h,_⟩
  ·simp[conn]at hc
  ·simp[conn]at hc
  ·simp[conn]at hc
  all_goals omega
 ·simp at hv;omega
def nums5:List Int:=[-9223372036854775808,0,1,2,9223372036854775807]
theorem zPe {a b:Nat}(h:a<=b) (hb:b<5):∃ x y,nums5[a]?=some x/\nums5[b]?=some y/\x<=y/\i64B x/\i64B y:=by
 have c:b=0\/b=1\/b=2\/b=3\/b=4:=by omega
 have d:a=0\/a=1\/a=2\/a=3\/a=4:=by omega
 rcases c with rfl|rfl|rfl|rfl|rfl<;>rcases d with rfl|rfl|rfl|rfl|rfl<;>first|omega|exact⟨_,_,rfl,rfl,by decide,by decide,by decide⟩
theorem zPf {w:World}{g a:Nat}{x:Int}(h:w.heap[g]?=some (.cells #[vI i6 (-9223372036854775808),vI i6 0,vI i6 1,vI i6 2,vI i6 9223372036854775807] 2 (0,0))) (hx:nums5[a]?=some x):w.cell? (aD g a)=some (vI i6 x):=by
 have ha:a<5:=(Bx.1 hx).1;have b:a=0\/a=1\/a=2\/a=3\/a=4:=by omega
 rcases b with rfl|rfl|rfl|rfl|rfl<;>(simp[nums5]at hx;subst hx;exact (Bv h _).trans rfl)
def BRow (w:World) (g:Nat) (d:List Bool):Prop:=w.heap[g]?=some (.cells (d.map Value.bool).toArray 4 (0,0))
theorem BRow.cell {w:World}{g k:Nat}{d:List Bool}(h:BRow w g d) (hk:k<d.length):w.cell? (aD g k)=some (.bool (dn d k)):=by
 refine (Bv h k).trans ?_;unfold dn;simp[hk]
theorem BRow.froz {w:World}{g:Nat}{d:List Bool}(h:BRow w g d) (k:Nat):w.frozen? (aD g k)=false:=Bz h k
theorem BRow.set {w:World}{g:Nat}{d:List Bool}(h:BRow w g d) (k:Nat) (b:Bool):BRow (w.setCell ⟨g,k,none⟩ (.bool b)) g (d.set k b):=by
 have h1:=Bm w g k _ _ (.bool b) h;unfold BRow;rw[h1];congr 2;apply Array.ext';simp[List.map_set]
theorem BRow.on {w w':World}{g:Nat}{d:List Bool}(h:BRow w g d) (hb:w'.heap[g]?=w.heap[g]?):BRow w' g d:=hb.trans h
theorem BRow.lt {w:World}{g:Nat}{d:List Bool}(h:BRow w g d):g<w.heap.size:=(Cv.1 h).1
theorem zSp:(tP.info? 4).map (fun i=>(i.zero,i.size,i.bytes))=some (some (.bool false),1,1):=by kernel_rfl
theorem made1 (z:Value) (n:Nat):madeCells #[z] n=(List.replicate n z).toArray:=by
 apply Array.ext
 ·simp[madeCells]
 ·intro i h1 h2;simp[madeCells,Nat.mod_one]
theorem zEh (w:World) (n:Nat) (hn:n<=1000000):∃ W,(Instr.makeSlice 110 (vI i6 n) (vI i6 n)).run tP w=.ok (vS (some (aD w.heap.size 0)) n n) W/\BRow W w.heap.size (List.replicate n false)/\Below w.heap.size w W/\W.heap.size=w.heap.size+1:=by
 obtain⟨i0,hi,d,b,c⟩:=Cp zSp;have a:=run_makeSlice (P:=tP) w 110 4 i0 (.bool false) underlying110 hi d .i64 .i64 n n (by omega) (Int.le_refl _) (by rw[b];omega) (by rw[c];omega) (by omega);rw[b]at a;simp only[Cb,Nat.mul_one]at a;refine⟨_,a,?_,yR.alloc lR _,by simp⟩;refine (Bl w _).trans ?_;rw[show (Value.bool false).cells=#[.bool false]from rfl,made1];simp
def enc7I (x:Int):List Value:=[vI i6 x]
theorem zL2 (A:Option Addr) (cap:Nat) (l:List Int) (w:World) (hl:RowP w w.heap.size 1 (vS A l.length cap) l.length (kidR l)) (hn:l.length<=1048576) :
  Calls tP 151 #[vS A l.length cap] w fun e w'=>∃ u,e=.returned u/\OwnI w' w.heap.size u l/\bW w w':=by
 have z:∀ (w:World) (a:Option Addr) (n c n' c':Nat),(binOp .eql 25 (vS a n c) (vS none n' c')).run tP w=.ok (.bool a.isNone) w:=fun w a n c n' c'=>Lib.run_eql_slice_nil w _ _ a n c n' c' underlying25;have d:∀ x,(enc7I x).length=1:=fun _=>rfl;cases A with
 | none=>
  have h0:l=[]:=by
   obtain⟨A',g,h1,_,h3⟩:=hl;injection h1 with h1 _ _;rcases Dz l.length with h|h
   ·exact Cf h
   ·obtain⟨b,o,h4,_⟩:=h3 h;rw[h4]at h1;cases h1
  subst h0;clear hl hn;go_enter func151,ntmps151;go_wp2;go_ret;exact⟨_,rfl,OwnE.nil _ _ _ _ _,Bw _ _⟩
 | some a=>
  obtain⟨i0,hi,v,t,r⟩:=Cp namI.inf;have F:(l.flatMap enc7I).length=l.length*1:=by
   clear hl hn hi v t r z
   induction l with
   | nil=>rfl
   | cons a s ih=>rw[Es,Bd,ih,d,Cj,C6];omega
  have f:∀ (q:Nat) (u:Value),(l.flatMap enc7I)[q]?=some u->w.cell? (a.add q)=some u:=by
   intro q u hq;rcases Dz l.length with h0|h0
   ·rw[Cf h0]at hq;simp at hq
   obtain⟨b,o,hA,hc⟩:=zIj (enc:=enc7I) (by decide) d hl (by rintro j cs ⟨x,hx,hcs,_⟩;exact⟨x,hx,hcs⟩) h0;injection hA with hA;subst hA;have:=hc q u hq;unfold Addr.add;split
   ·rename_i hq0;rw[hq0]at this;exact this
   ·exact this
  have E:∀ (q:Nat) (u:Value),(l.flatMap enc7I)[q]?=some u->(a.add q).block<w.heap.size:=by
   intro q u hq;rcases Dz l.length with h0|h0
   ·rw[Cf h0]at hq;simp at hq
   obtain⟨A',g,h1,_,h3⟩:=hl;obtain⟨b,o,h4,h5,_⟩:=h3 h0;injection h1 with h1 _ _;rw[h4]at h1;injection h1 with h1;rw[show (a.add q).block=a.block from by unfold Addr.add;split<;>rfl,h1];exact h5
  have i:=xI hl;have m:∀ u∈l.flatMap enc7I,u.oneCell'=true:=by
   intro u hu;obtain⟨x,D,hx⟩:=List.mem_flatMap.1 hu;obtain⟨j,hj⟩:=List.getElem?_of_mem D;simp only[enc7I,Cs,List.not_mem_nil,or_false]at hx
   (try rcases hx with rfl|rfl|rfl|rfl)<;>(try subst hx)<;>rfl
  clear hl;generalize hnews:l.flatMap enc7I=news at *;have HN:=xI hnews;clear hnews;go_enter func151,ntmps151;go_wp2_with (at_builtin;refine wpList_append_own _ rfl _ _ 25 rfl w.heap.size 3 i0 (vI i6 0) 1 8 underlying25 hi v t r rfl (by decide) _ _ _ rfl (World.ownsRow_made w #[] 0 lR (Bt _) rfl) a l.length cap news rfl F (by intro j u hj;exact (((Bw w.heap.size w).alloc lR _).cell (p:=a.add j) (E j u hj)).trans (f j u hj)) m (by unfold maxLen;omega) (by omega) (by simp) ?_);intro v' w1 hown hgrow hnil;go_wp2;go_ret;refine⟨v',rfl,⟨news,by simpa using hown,fun j x hj=>?_⟩,((Bw _ w).alloc lR _).grown hgrow (by simp) (by intro k hk;simp[Value.ownBlock]at hk;omega)⟩;rw[<-HN.out,zEo d hj];obtain⟨A',g,h1,_,h3⟩:=i.out;obtain⟨b',B,_,_,_,h7⟩:=h3 (by have:=(Bx.1 hj).1;omega);obtain⟨cs,h8,h9,y,hy,C⟩:=h7 j (Bx.1 hj).1;rw[hj]at hy;injection hy with hy;subst hy;exact⟨rfl,C.2⟩
def enc7F (x:Fd):List Value:=fdC x
theorem zL3 (A:Option Addr) (cap:Nat) (l:List Fd) (w:World) (hl:RowP w w.heap.size 4 (vS A l.length cap) l.length (fdR l)) (hn:l.length<=1048576) :
  Calls tP 152 #[vS A l.length cap] w fun e w'=>∃ u,e=.returned u/\OwnF w' w.heap.size u l/\bW w w':=by
 have z:∀ (w:World) (a:Option Addr) (n c n' c':Nat),(binOp .eql 37 (vS a n c) (vS none n' c')).run tP w=.ok (.bool a.isNone) w:=fun w a n c n' c'=>Lib.run_eql_slice_nil w _ _ a n c n' c' underlying37;have d:∀ x,(enc7F x).length=4:=fun _=>rfl;cases A with
 | none=>
  have h0:l=[]:=by
   obtain⟨A',g,h1,_,h3⟩:=hl;injection h1 with h1 _ _;rcases Dz l.length with h|h
   ·exact Cf h
   ·obtain⟨b,o,h4,_⟩:=h3 h;rw[h4]at h1;cases h1
  subst h0;clear hl hn;go_enter func152,ntmps152;go_wp2;go_ret;exact⟨_,rfl,OwnE.nil _ _ _ _ _,Bw _ _⟩
 | some a=>
  obtain⟨i0,hi,v,t,r⟩:=Cp namF.inf;have F:(l.flatMap enc7F).length=l.length*4:=by
   clear hl hn hi v t r z
   induction l with
   | nil=>rfl
   | cons a s ih=>rw[Es,Bd,ih,d,Cj,C6];omega
  have f:∀ (q:Nat) (u:Value),(l.flatMap enc7F)[q]?=some u->w.cell? (a.add q)=some u:=by
   intro q u hq;rcases Dz l.length with h0|h0
   ·rw[Cf h0]at hq;simp at hq
   obtain⟨b,o,hA,hc⟩:=zIj (enc:=enc7F) (by decide) d hl (by rintro j cs ⟨x,hx,hcs,_⟩;exact⟨x,hx,hcs⟩) h0;injection hA with hA;subst hA;have:=hc q u hq;unfold Addr.add;split
   ·rename_i hq0;rw[hq0]at this;exact this
   ·exact this
  have E:∀ (q:Nat) (u:Value),(l.flatMap enc7F)[q]?=some u->(a.add q).block<w.heap.size:=by
   intro q u hq;rcases Dz l.length with h0|h0
   ·rw[Cf h0]at hq;simp at hq
   obtain⟨A',g,h1,_,h3⟩:=hl;obtain⟨b,o,h4,h5,_⟩:=h3 h0;injection h1 with h1 _ _;rw[h4]at h1;injection h1 with h1;rw[show (a.add q).block=a.block from by unfold Addr.add;split<;>rfl,h1];exact h5
  have i:=xI hl;have m:∀ u∈l.flatMap enc7F,u.oneCell'=true:=by
   intro u hu;obtain⟨x,D,hx⟩:=List.mem_flatMap.1 hu;obtain⟨j,hj⟩:=List.getElem?_of_mem D;simp only[enc7F,fdC,Cs,List.not_mem_nil,or_false]at hx
   (try rcases hx with rfl|rfl|rfl|rfl)<;>(try subst hx)<;>rfl
  clear hl;generalize hnews:l.flatMap enc7F=news at *;have HN:=xI hnews;clear hnews;go_enter func152,ntmps152;go_wp2_with (at_builtin;refine wpList_append_own _ rfl _ _ 37 rfl w.heap.size 150 i0 (.agg #[vI i6 0,vT ⟨#[]⟩,vI i6 0,.bool false]) 4 40 underlying37 hi v t r rfl (by decide) _ _ _ rfl (World.ownsRow_made w #[] 0 lR (Bt _) rfl) a l.length cap news rfl F (by intro j u hj;exact (((Bw w.heap.size w).alloc lR _).cell (p:=a.add j) (E j u hj)).trans (f j u hj)) m (by unfold maxLen;omega) (by omega) (by simp) ?_);intro v' w1 hown hgrow hnil;go_wp2;go_ret;refine⟨v',rfl,⟨news,by simpa using hown,fun j x hj=>?_⟩,((Bw _ w).alloc lR _).grown hgrow (by simp) (by intro k hk;simp[Value.ownBlock]at hk;omega)⟩;rw[<-HN.out,zEo d hj];obtain⟨A',g,h1,_,h3⟩:=i.out;obtain⟨b',B,_,_,_,h7⟩:=h3 (by have:=(Bx.1 hj).1;omega);obtain⟨cs,h8,h9,y,hy,C⟩:=h7 j (Bx.1 hj).1;rw[hj]at hy;injection hy with hy;subst hy;exact⟨rfl,C.2⟩
theorem OwnE.setc {α:Type}{K:ElK α}{e:TypeId}{c:Nat}{w:World}{base:Nat}{v:Value}{l:List α}(hfree:∀ x (w w':World) (B B':Nat->Prop) cs,K.E x w B cs->K.E x w' B' cs) (h:OwnE K e c w base v l){j:Nat}{x:α}(hx:l[j]?=some x) (hc:0<c) :
  ∃ g cap cs,v=vS (some ⟨g,0,none⟩) l.length cap/\base<=g/\g<w.heap.size/\K.E x w (fun _=>True) cs/\(∀ i,i<c->w.cell? ⟨g,j*c+i,none⟩=cs[i]?)/\(∀ i,w.frozen? ⟨g,i,none⟩=false) /\
   ∀ (r:Nat) (u:Value) (y:α),r<c->K.E y w (fun _=>True) (cs.set r u)->OwnE K e c (w.setCell ⟨g,j*c+r,none⟩ u) base v (l.set j y):=by
 obtain⟨xs,⟨a,ho⟩,d⟩:=h;have hj:=(Bx.1 hx).1;have o:(j+1)*c<=l.length*c:=Di c hj;rw[C6,Nat.one_mul]at o;rcases ho with⟨_,h0⟩|⟨g,cap,t,hv,hb,hg,n,p,k,f⟩
 ·omega
 have s:∀ q,q<l.length*c->w.cell? (aD g q)=xs[q]?:=fun q hq=>by
  refine (Bv hg q).trans ?_;rw[<-f,Co hq,Ei]
 have b:∀ m i,i<c->((xs.drop (m*c)).take c)[i]?=xs[m*c+i]?:=fun m i hi=>by rw[Co hi,C7]
 refine⟨g,cap,(xs.drop (j*c)).take c,hv,hb,(Cv.1 hg).1,hfree _ _ _ _ _ _ (d j x hx),fun i hi=>?_,fun i=>Bz hg i,fun r u y hr hy=>?_⟩
 ·rw[b j i hi,s _ (by omega)]
 ·refine⟨xs.set (j*c+r) u,⟨by rw[Ck,Ck];exact a,.inr ⟨g,cap,t.setIfInBounds (j*c+r) u,by rw[Ck];exact hv,hb,Bm w g (j*c+r) _ _ u hg,by rw[Ck];exact n,p,by simpa using k,?_⟩⟩,fun m z hz=>?_⟩
  ·rw[Ck,<-f,Array.toList_setIfInBounds,List.take_set]
  ·have hm:m<l.length:=by have:=(Bx.1 hz).1;rwa [Ck]at this
   by_cases hmj:m=j
   ·subst hmj;rw[Ev hj]at hz;injection hz with hz;subst hz;have:((xs.set (m*c+r) u).drop (m*c)).take c=((xs.drop (m*c)).take c).set r u:=by
     apply Dq;intro i;by_cases hi:i<c
     ·rw[Co hi,C7,Er,Er,b m i hi];by_cases hri:r=i
      ·subst hri;have h1:m*c+r<xs.length:=by omega
       have h2:r<((xs.drop (m*c)).take c).length:=by rw[Bg,Cc];omega
       rw[if_pos rfl,if_pos h1,if_pos rfl,if_pos h2]
      ·rw[if_neg (by omega),if_neg hri]
     ·rw[Ce (by rw[Bg];omega),Ce (by rw[Ck,Bg];omega)]
    rw[this];exact hfree _ _ _ _ _ _ hy
   ·rw[D3 (by omega)]at hz;have:((xs.set (j*c+r) u).drop (m*c)).take c=(xs.drop (m*c)).take c:=by
     apply Dq;intro i;by_cases hi:i<c
     ·rw[Co hi,C7,b m i hi,D3];rcases Nat.lt_or_gt_of_ne hmj with h|h
      ·have:=Di c h;rw[Nat.succ_mul]at this;omega
      ·have:=Di c h;rw[Nat.succ_mul]at this;omega
     ·rw[Ce (by rw[Bg];omega),Ce (by rw[Bg];omega)]
    rw[this];exact hfree _ _ _ _ _ _ (d m z hz)
theorem zAp (x:Int) (w w':World) (B B':Nat->Prop) (cs:List Value) (h:elI.E x w B cs):elI.E x w' B' cs:=h
theorem zC4 (x:Fd) (w w':World) (B B':Nat->Prop) (cs:List Value) (h:elF.E x w B cs):elF.E x w' B' cs:=h
def mvd (g:Int->Int) (x:Tn):Tn:=⟨x.kind,x.lo,x.hi,x.text,x.kids.map g,x.fds.map (fun f=>⟨f.key,g f.node,f.opt⟩),if x.kind=13 then g x.r0 else x.r0,if x.kind=13 then g x.r1 else x.r1⟩
theorem zSa (g:Int->Int) (x:Tn):edg (mvd g x)=(edg x).map g:=by
 unfold edg mvd;rw[Dl,Dl];simp only[List.map_map];by_cases h:x.kind=13
 ·simp[h]
 ·simp[h]
theorem zOy (g:Int->Int) (x:Tn) (h:x.kind=13) (k:Int×List UInt8):toOf (mvd g x) k=g (toOf x k):=by
 unfold toOf mvd;simp only[h,if_true];have:∀ l:List Fd,(l.map (fun f=>(⟨f.key,g f.node,f.opt⟩:Fd))).find? (fun f=>decide (f.key=k))=(l.find? (fun f=>decide (f.key=k))).map (fun f=>⟨f.key,g f.node,f.opt⟩):=by
  intro l
  induction l with
  | nil=>rfl
  | cons a l ih=>
   rw[Dm,List.find?_cons,List.find?_cons,ih];cases decide (a.key=k)<;>rfl
 rw[this];cases x.fds.find? (fun f=>decide (f.key=k))with
 | none=>simp only[Option.map_none];split<;>rfl
 | some f=>rfl
theorem zGx {c c':Vl->Nat->Bool}{g:Int->Int}{l:List Vl}{ks:List Int}(h:∀ v,∀ k∈ks,c' v (g k).toNat=c v k.toNat):zA7 c' l (ks.map g)=zA7 c l ks:=by
 unfold zA7;rw[Bk];congr 1
 induction ks generalizing l with
 | nil=>simp
 | cons k ks ih=>
  cases l with
  | nil=>simp
  | cons a l=>
   rw[Dm,List.zip_cons_cons,List.zip_cons_cons,De,De,ih (fun v k hk=>h v k (C0 _ hk)),h a k (Ca ..)]
theorem zQb {c c':Vl->Nat->Bool}{n:Nat}{x:Tn}{g:Int->Int}(hx:tnB n x=true) (h:∀ v,∀ k∈edg x,c' v (g k).toNat=c v k.toNat) (v:Vl):memS c' (mvd g x) v=memS c x v:=by
 have hk:∀ k∈x.kids,k∈edg x:=fun k hk=>by unfold edg;simp[hk]
 have hm:zA7 c' (zDt v) (x.kids.map g)=zA7 c (zDt v) x.kids:=zGx fun v k hk'=>h v k (hk k hk');have ha:∀ {p q:Int->Bool},(∀ k∈x.kids,p (g k)=q k)->(x.kids.map g).all p=x.kids.all q:=fun hpq=>by
  rw[List.all_map];exact zCh hpq
 have ho:∀ {p q:Int->Bool},(∀ k∈x.kids,p (g k)=q k)->(x.kids.map g).any p=x.kids.any q:=fun hpq=>by
  rw[List.any_map];exact zJc hpq
 have o:∀ i,i<x.kids.length->c' v (((x.kids.map g)[i]?).getD 0).toNat=c v ((x.kids[i]?).getD 0).toNat:=fun i hi=>by
  rw[Ch,By hi];exact h v _ (hk _ (Cx _))
 have d:∀ i w,i<x.kids.length->c' w (((x.kids.map g)[i]?).getD 0).toNat=c w ((x.kids[i]?).getD 0).toNat:=fun i w hi=>by
  rw[Ch,By hi];exact h w _ (hk _ (Cx _))
 have l:(mvd g x).kind=x.kind:=rfl;have j:(mvd g x).lo=x.lo:=rfl;have m:(mvd g x).hi=x.hi:=rfl;have f:(mvd g x).text=x.text:=rfl;have b:(mvd g x).kids=x.kids.map g:=rfl;unfold memS;rw[l,j,m,f,b,hm];by_cases e13:x.kind=13
 ·have:mapMC c' v (mvd g x)=mapMC c v x:=by
   unfold mapMC;congr 1
   ·unfold mvd;simp only;rw[List.all_map];rfl
   ·refine zCh fun p _=>?_;rw[zOy g x e13];exact h _ _ (zHl x e13 _)
  rw[this];simp[e13]
 by_cases e14:x.kind=14
 ·have a:1<=x.kids.length:=by
   simp only[tnB,Cy]at hx;have:=hx.2;unfold formB at this;simp[e14]at this;exact this.1
  have:funMC c' v (mvd g x)=funMC c v x:=by
   unfold funMC;rw[b,Bk];congr 1;refine zCh fun e _=>?_;unfold entMC;rw[b,Bk,<-List.map_take,zGx fun v k hk'=>h v k (hk k (Ey hk')),d _ _ (by omega)]
  rw[this];simp[e14]
 by_cases e18:x.kind=18
 ·have a:x.kids.length=1:=by
   simp only[tnB,Cy]at hx;have:=hx.2;unfold formB at this;simpa [e18] using this
  rw[o 0 (by omega)];simp[e18]
 rw[ho (p:=fun k=>c' v k.toNat) (q:=fun k=>c v k.toNat) (fun k hk'=>h v k (hk k hk')),ha (p:=fun k=>c' v k.toNat) (q:=fun k=>c v k.toNat) (fun k hk'=>h v k (hk k hk'))];simp[e13,e14,e18]
theorem zRt {ns ns':List Tn}{g:Int->Int}{S:Int->Prop}{n:Nat}(hS:∀ i,S i->∃ x,ns[i.toNat]?=some x/\tnB n x=true/\ns'[(g i).toNat]?=some (mvd g x)/\∀ k∈edg x,S k):∀ (u:Nat) (i:Int),S i->∀ v,mem ns' u v (g i).toNat=mem ns u v i.toNat:=by
 intro u
 induction u with
 | zero=>intro i _ v;rfl
 | succ u ih=>
  intro i hi v;obtain⟨x,h1,h2,h3,h4⟩:=hS i hi;unfold mem;rw[h1,h3];exact zQb h2 (fun v k hk=>ih k (h4 k hk) v) v
theorem zQc {ns ns':List Tn}{g:Int->Int}{S:Int->Prop}(hw:Wf ns) (hw':Wf ns') (hS:∀ i,S i->∃ x,ns[i.toNat]?=some x/\ns'[(g i).toNat]?=some (mvd g x)/\∀ k∈edg x,S k){i:Int}(hi:S i) (v:Vl):memB ns' v (g i).toNat=memB ns v i.toNat:=by
 have h:=zRt (n:=ns.length) (fun i hi=>by obtain⟨x,h1,h2,h3⟩:=hS i hi;exact⟨x,h1,hw.node x (Bh h1),h2,h3⟩) (max (fu ns v i.toNat) (fu ns' v (g i).toNat)) i hi v;rw[zDl hw _ v _ _ lR (Nat.le_max_left _ _),zDl hw' _ v _ _ lR (Nat.le_max_right _ _)]at h;exact h
theorem zQg (g:Int->Int) (l:List Fd):(l.map (fun f=>(⟨f.key,g f.node,f.opt⟩:Fd))).map Fd.key=l.map Fd.key:=by
 rw[List.map_map];rfl
theorem zRk {n m:Nat}{x:Tn}{g:Int->Int}(hx:tnB n x=true) (h:∀ k∈edg x,0<=g k/\g k<m):tnB m (mvd g x)=true:=by
 have hk:(x.kids.map g).all (idxB m)=true:=by
  rw[Cz];intro y hy;obtain⟨k,hk,rfl⟩:=Cd.1 hy;have:=h k (by unfold edg;simp[hk]);simp[idxB,this]
 simp only[tnB,Cy]at hx ⊢;refine⟨⟨hk,?_⟩,?_⟩
 ·have h2:=hx.1.2;unfold useB mvd at *;by_cases e:x.kind=13
  ·simp only[e]at h2 ⊢;simpa using h2
  ·simp only[e,if_false]at h2 ⊢;simpa using h2
 ·have h3:=hx.2;unfold formB mvd at *;by_cases e:x.kind=13
  ·simp[e]at h3 ⊢;obtain⟨⟨⟨h4,h5⟩,h6⟩,h7⟩:=h3;have e0:=h x.r0 (by unfold edg;simp[e]);have e1:=h x.r1 (by unfold edg;simp[e]);refine⟨⟨⟨?_,h5⟩,by simp[idxB,e0]⟩,by simp[idxB,e1]⟩;simp only[fdsB,Cy,Cz,Bf]at h4 ⊢;refine⟨fun f hf=>?_,by rw[zQg];exact h4.2⟩;obtain⟨f0,a,rfl⟩:=Cd.1 hf;have e2:=h f0.node (by unfold edg;simp only[B7,Cd];exact .inl (.inr ⟨f0,a,rfl⟩));exact⟨by simp[idxB,e2],(h4.1 f0 a).2⟩
  ·simp only[e,if_false,Bk]at h3 ⊢;exact h3
def tn0:Tn:=⟨0,0,0,[],[],[],0,0⟩
def nd (ns:List Tn) (n:Int):Tn:=(ns[n.toNat]?).getD tn0
def sub1 (f:List UInt8->Option Int) (x:Tn):Option Int:=if x.kind=19 then f x.text else none
def keptL (ns:List Tn) (f:List UInt8->Option Int) (order:List Int):List Int:=order.filter fun n=>(sub1 f (nd ns n)).isNone
def plc (ns:List Tn) (f:List UInt8->Option Int) (order:List Int) (first:Nat) (n:Int):Int:=
 match sub1 f (nd ns n)with
 | some p=>p
 | none=>(first:Int)+(keptL ns f order).idxOf n
def grfN (ns:List Tn) (f:List UInt8->Option Int) (order:List Int) (first:Nat):List Tn:=(keptL ns f order).map fun n=>mvd (plc ns f order first) (nd ns n)
theorem nd_at {ns:List Tn}{n:Int}{x:Tn}(h:ns[n.toNat]?=some x):nd ns n=x:=by unfold nd;rw[h];rfl
theorem zLu {n m:Nat}{x:Tn}(h:n<=m) (hx:tnB n x=true):tnB m x=true:=by
 have hi:∀ k,idxB n k=true->idxB m k=true:=fun k hk=>by simp only[idxB,Cy,Bf]at hk ⊢;omega
 simp only[tnB,Cy,Cz]at hx ⊢;refine⟨⟨fun k hk=>hi k (hx.1.1 k hk),hx.1.2⟩,?_⟩;have h3:=hx.2;unfold formB at h3 ⊢;by_cases e:x.kind=13
 ·simp[e]at h3 ⊢;refine⟨⟨⟨?_,h3.1.1.2⟩,hi _ h3.1.2⟩,hi _ h3.2⟩;simp only[fdsB,Cy,Cz,Bf]at h3 ⊢;exact⟨fun f hf=>⟨hi _ (h3.1.1.1.1 f hf).1,(h3.1.1.1.1 f hf).2⟩,h3.1.1.1.2⟩
 ·simp only[e,if_false]at h3 ⊢;exact h3
structure BOk (z:Nat) (bs:List Tn):Prop where
 node:∀ (i:Nat) x,bs[i]?=some x->z<=i->tnB bs.length x=true/\∀ k∈edg x,(z:Int)<=k
 kids:∀ x∈bs,∀ k∈x.kids,0<=k/\k<bs.length
 ctr:Ctr bs
theorem zKk {ns:List Tn}{f:List UInt8->Option Int}{order:List Int}{first:Nat}{n:Int}(hn:n∈order) (hs:sub1 f (nd ns n)=none):∃ j:Nat,plc ns f order first n=((first+j:Nat):Int)/\(grfN ns f order first)[j]?=some (mvd (plc ns f order first) (nd ns n))/\j<(keptL ns f order).length:=by
 have hm:n∈keptL ns f order:=by unfold keptL;rw[Dj];exact⟨hn,by rw[hs];rfl⟩
 refine⟨(keptL ns f order).idxOf n,?_,?_,List.idxOf_lt_length_of_mem hm⟩
 ·unfold plc;rw[hs];simp only;omega
 ·unfold grfN;rw[Ch,By (List.idxOf_lt_length_of_mem hm),List.getElem_idxOf];rfl
theorem zN2 {x:Tn}{k:Int}(h:k∈x.kids):k∈edg x:=by unfold edg;simp[h]
theorem Rch.lt {ns:List Tn}{r:Nat}(he:EdgOk ns) (hr:r<ns.length){i:Nat}(h:Rch ns r i):i<ns.length:=by
 cases h with
 | root=>exact hr
 | more h1 h2 h3=>
  have:=he _ (Bh h2) _ h3;omega
theorem zSr {z r:Nat}{ns bs:List Tn}{f:List UInt8->Option Int}{order:List Int}(hw:Wf ns) (hr:r<ns.length) (ho:∀ i:Int,i∈order↔0<=i/\Rch ns r i.toNat) (hb:BOk z bs) (hz:z<=bs.length) (hf:∀ s p,f s=some p->(z:Int)<=p/\p<bs.length) :
  BOk z (bs++grfN ns f order bs.length)/\∀ n∈order,(z:Int)<=plc ns f order bs.length n/\plc ns f order bs.length n<(bs++grfN ns f order bs.length).length:=by
 have b:(bs++grfN ns f order bs.length).length=bs.length+(keptL ns f order).length:=by rw[Bd];unfold grfN;rw[Bk]
 have v:∀ i,Rch ns r i->i<ns.length:=fun i hi=>hi.lt hw.edg hr;have e:∀ n∈order,(z:Int)<=plc ns f order bs.length n/\plc ns f order bs.length n<(bs++grfN ns f order bs.length).length:=fun n hn=>by
  rw[b];cases hs:sub1 f (nd ns n)with
  | none=>
   obtain⟨j,h1,_,h3⟩:=zKk (first:=bs.length) hn hs
   rw[h1];omega
  | some p=>
   have hp:f (nd ns n).text=some p:=by
    unfold sub1 at hs;split at hs
    ·exact hs
    ·simp at hs
   have:=hf _ _ hp;have he:plc ns f order bs.length n=p:=by unfold plc;rw[hs]
   rw[he];omega
 have a:∀ n∈order,∃ x,ns[n.toNat]?=some x/\nd ns n=x/\∀ k∈edg x,k∈order:=fun n hn=>by
  have h1:=(ho n).1 hn;have h2:=v _ h1.2;refine⟨_,By h2,nd_at (By h2),fun k hk=>(ho k).2 ⟨?_,.more h1.2 (By h2) hk⟩⟩;exact (hw.edg _ (Cx _) k hk).1
 have l:∀ (j:Nat) x,(grfN ns f order bs.length)[j]?=some x->∃ n∈order,sub1 f (nd ns n)=none/\x=mvd (plc ns f order bs.length) (nd ns n):=fun j x hx=>by
  unfold grfN at hx;rw[Ch]at hx;cases hk:(keptL ns f order)[j]? with
  | none=>rw[hk]at hx;simp at hx
  | some n=>
   rw[hk]at hx;have hm:=Bh hk;unfold keptL at hm;rw[Dj]at hm;refine⟨n,hm.1,by cases h:sub1 f (nd ns n)<;>simp_all,?_⟩;simpa using hx.symm
 refine⟨⟨fun i x hx hzi=>?_,fun x hx k hk=>?_,?_⟩,e⟩
 ·by_cases hi:i<bs.length
  ·rw[Dt hi]at hx;have:=hb.node i x hx hzi;exact⟨zLu (by rw[b];omega) this.1,this.2⟩
  ·rw[Dw (by omega)]at hx;obtain⟨n,hn,_,rfl⟩:=l _ _ hx;obtain⟨y,hy,g,c⟩:=a n hn;rw[g];refine⟨zRk (hw.node y (Bh hy)) fun k hk=>⟨by have:=(e k (c k hk)).1;omega,(e k (c k hk)).2⟩,fun k hk=>?_⟩;rw[zSa]at hk;obtain⟨q,hq,rfl⟩:=Cd.1 hk;exact (e q (c q hq)).1
 ·rcases B7.1 hx with hx|hx
  ·have:=hb.kids x hx k hk;rw[b];omega
  ·obtain⟨j,hj⟩:=D4.1 hx;obtain⟨n,hn,_,rfl⟩:=l _ _ hj;obtain⟨y,hy,g,c⟩:=a n hn;rw[g]at hk;obtain⟨q,hq,rfl⟩:=Cd.1 (show k∈y.kids.map _ from hk);have:=e q (c q (zN2 hq));exact⟨by omega,this.2⟩
 ·obtain⟨fb,C⟩:=hb.ctr;obtain⟨fn,B⟩:=hw.ctr;refine⟨fun i=>if i<bs.length then fb i else ((List.range bs.length).map fb).sum+1+fn ((keptL ns f order)[i-bs.length]?.getD 0).toNat,fun i x hx hc k hk y hy hcy=>?_⟩;by_cases hi:i<bs.length
  ·rw[Dt hi]at hx;have D:=hb.kids x (Bh hx) k hk;have d:k.toNat<bs.length:=by omega
   rw[Dt d]at hy;show (if k.toNat<_ then _ else _)<(if i<_ then _ else _);rw[if_pos d,if_pos hi];exact C i x hx hc k hk y hy hcy
  ·show (if k.toNat<_ then _ else _)<(if i<_ then _ else _);rw[if_neg hi];split
   ·rename_i d;have:=zCb (Ep (f:=fb) (List.mem_range.2 d));omega
   ·rename_i d;rw[Dw (by omega)]at hx;unfold grfN at hx;rw[Ch]at hx;cases hq:(keptL ns f order)[i-bs.length]? with
    | none=>rw[hq]at hx;simp at hx
    | some n=>
     rw[hq]at hx;have hx:mvd (plc ns f order bs.length) (nd ns n)=x:=by simpa using hx
     have A:n∈order:=by have:=Bh hq;unfold keptL at this;exact (Dj.1 this).1
     obtain⟨y0,u,g,c⟩:=a n A;rw[g]at hx;subst hx;obtain⟨q,o,rfl⟩:=Cd.1 (show k∈y0.kids.map _ from hk);have m:=c q (zN2 o);cases hs:sub1 f (nd ns q)with
     | some p=>
      exfalso;have hp:f (nd ns q).text=some p:=by
       unfold sub1 at hs;split at hs
       ·exact hs
       ·simp at hs
      have:=hf _ _ hp;have he:plc ns f order bs.length q=p:=by unfold plc;rw[hs]
      rw[he]at d;omega
     | none=>
      have hm:q∈keptL ns f order:=by unfold keptL;rw[Dj];exact⟨m,by rw[hs];rfl⟩
      have he:(plc ns f order bs.length q).toNat-bs.length=(keptL ns f order).idxOf q:=by unfold plc;rw[hs];simp only;omega
      rw[he,By (List.idxOf_lt_length_of_mem hm),List.getElem_idxOf];rw[Dw (by omega),he]at hy;unfold grfN at hy;rw[Ch,By (List.idxOf_lt_length_of_mem hm),List.getElem_idxOf]at hy;have hy:mvd (plc ns f order bs.length) (nd ns q)=y:=by simpa using hy
      obtain⟨z0,t,w,_⟩:=a q m;rw[w]at hy;subst hy;have:=B n.toNat y0 u hc q o z0 t hcy;simp only[Option.getD_some];omega
theorem zR3 {r first:Nat}{ns fs:List Tn}{order:List Int}(hw:Wf ns) (hr:r<ns.length) (ho:∀ i:Int,i∈order↔0<=i/\Rch ns r i.toNat) (hw':Wf fs) (f:List UInt8->Option Int) (hfn:∀ n∈order,sub1 f (nd ns n)=none)
  (hfs:∀ (j:Nat) x,(grfN ns f order first)[j]?=some x->fs[first+j]?=some x){n:Int}(hn:n∈order) (v:Vl):memB fs v (plc ns f order first n).toNat=memB ns v n.toNat:=by
 refine zQc (S:=fun i=>i∈order) hw hw' (fun i hi=>?_) hn v;have h1:=(ho i).1 hi;have a:i.toNat<ns.length:=h1.2.lt hw.edg hr;refine⟨_,By a,?_,fun k hk=>(ho k).2 ⟨(hw.edg _ (Cx _) k hk).1,.more h1.2 (By a) hk⟩⟩;obtain⟨j,h2,h3,_⟩:=zKk (first:=first) hi (hfn i hi)
 have:=hfs j _ h3;rw[nd_at (By a)]at this;rw[h2,Cb];exact this
theorem zMr (x:Tn):sub1 (fun _=>none) x=none:=by unfold sub1;split<;>rfl
theorem zK6 {ns:List Tn}:∀ (u:Nat) (s:List Bool×List Int) (n:Nat),n<ns.length->EdgOk ns->s.1.length=ns.length->(∀ i∈s.2,dn s.1 i.toNat=true/\0<=i)->s.2.Nodup ->
  (visC ns u s n).1.length=ns.length/\(∀ i∈(visC ns u s n).2,dn (visC ns u s n).1 i.toNat=true/\0<=i)/\(visC ns u s n).2.Nodup:=by
 intro u
 induction u with
 | zero=>intro s n _ _ h1 h2 h3;exact⟨h1,h2,h3⟩
 | succ u ih=>
  intro s n hn he h1 h2 h3;unfold visC;split
  ·exact⟨h1,h2,h3⟩
  rename_i hd;rw[By hn];simp only;have d:∀ (l:List Int) (t:List Bool×List Int),(∀ k∈l,k∈edg ns[n])->t.1.length=ns.length->(∀ i∈t.2,dn t.1 i.toNat=true/\0<=i)->t.2.Nodup ->
    (l.foldl (fun s k=>visC ns u s k.toNat) t).1.length=ns.length/\(∀ i∈(l.foldl (fun s k=>visC ns u s k.toNat) t).2,dn (l.foldl (fun s k=>visC ns u s k.toNat) t).1 i.toNat=true/\0<=i)/\(l.foldl (fun s k=>visC ns u s k.toNat) t).2.Nodup:=by
   intro l
   induction l with
   | nil=>intro t _ a b c;exact⟨a,b,c⟩
   | cons k l ihl=>
    intro t hl a b c;have hk:=he _ (Cx _) k (hl k (Ca ..));obtain⟨a',b',c'⟩:=ih t k.toNat (by omega) he a b c;rw[Dn];exact ihl _ (fun k hk=>hl k (C0 _ hk)) a' b' c'
  refine d _ _ (fun _ h=>h) (by simpa using h1) (fun i hi=>?_) ?_
  ·show dn (s.1.set n true) i.toNat=true/\0<=i;rcases B7.1 hi with hi|hi
   ·rw[zCf];refine⟨?_,(h2 i hi).2⟩;split
    ·rfl
    ·exact (h2 i hi).1
   ·rw[Ct]at hi;subst hi;exact⟨by rw[zCf,if_pos ⟨by omega,by omega⟩],by omega⟩
  ·show (s.2++[(n:Int)]).Nodup;rw[List.nodup_append];refine⟨h3,by simp,fun a ha b hb=>?_⟩;rw[Ct]at hb;subst hb;intro e;subst e;have:=(h2 _ ha).1;rw[show ((n:Int)).toNat=n by omega]at this;exact hd this
abbrev Ty:=List Tn×Int
def noneT:Ty:=([⟨1,0,0,[],[],[],0,0⟩],0)
def accT (t:Ty):Ty:=if wfC t.1 t.2=0 then t else noneT
def WfT (t:Ty):Prop:=wfC t.1 t.2=0
theorem WfT.wf {t:Ty}(h:WfT t):Wf t.1:=(Wf.of_zero h).1
theorem WfT.rt {t:Ty}(h:WfT t):0<=t.2/\t.2<t.1.length:=(Wf.of_zero h).2
theorem WfT.mk {t:Ty}(h:Wf t.1) (h1:0<=t.2) (h2:t.2<t.1.length):WfT t:=zKd.2 ⟨by simp[idxB,h1,h2],h.node,h.ctr⟩
theorem zEg:WfT noneT:=by
 refine WfT.mk ⟨fun x hx=>?_,⟨fun _=>0,fun i x hx hc k hk=>?_⟩⟩ (by decide) (by decide)
 ·simp[noneT]at hx;subst hx;decide
 ·have:=Bh hx;simp[noneT]at this;subst this;simp at hk
theorem zCi (t:Ty):WfT (accT t):=by
 unfold accT;split
 ·assumption
 ·exact zEg
theorem zGj {t:Ty}(h:WfT t):accT t=t:=by exact if_pos h
noncomputable def memT (v:Vl) (t:Ty):Bool:=decide (wfC t.1 t.2=0)&&memB t.1 v t.2.toNat
theorem zHu {t:Ty}(h:WfT t) (v:Vl):memT v t=memB t.1 v t.2.toNat:=by unfold memT;rw[show decide (wfC t.1 t.2=0)=true from C8 h];rfl
theorem zIu (v:Vl):memT v noneT=false:=by
 rw[zHu zEg];show memB noneT.1 v 0=false;rw[zBn zEg.wf (k:=0) (x:=⟨1,0,0,[],[],[],0,0⟩) rfl];rfl
theorem zQ2 (v:Vl) (t:Ty):memT v (accT t)=memT v t:=by
 unfold accT;split
 ·rfl
 ·rename_i h;rw[zIu];unfold memT;rw[show decide (wfC t.1 t.2=0)=false from Ci h];rfl
def visR (ns:List Tn) (r:Nat):List Int:=(visC ns (ns.length+1) (List.replicate ns.length false,[]) r).2
theorem zBz {t:Ty}(h:WfT t) (i:Int):i∈visR t.1 t.2.toNat↔0<=i/\Rch t.1 t.2.toNat i.toNat:=zMi h.wf.edg (by have:=h.rt;omega) i
theorem zEu {t:Ty}(h:WfT t):(visR t.1 t.2.toNat).Nodup:=(zK6 _ _ _ (by have:=h.rt;omega) h.wf.edg (by simp) (by simp) (by simp)).2.2
def gr (f:List UInt8->Option Int) (t:Ty) (bs:List Tn):List Tn×Int:=(bs++grfN t.1 f (visR t.1 t.2.toNat) bs.length,plc t.1 f (visR t.1 t.2.toNat) bs.length t.2)
theorem zHo {t:Ty}(h:WfT t):t.2∈visR t.1 t.2.toNat:=(zBz h _).2 ⟨h.rt.1,.root⟩
theorem gr_ok {z:Nat}{f:List UInt8->Option Int}{t:Ty}{bs:List Tn}(h:WfT t) (hb:BOk z bs) (hz:z<=bs.length) (hf:∀ s p,f s=some p->(z:Int)<=p/\p<bs.length) :
  BOk z (gr f t bs).1/\(z:Int)<=(gr f t bs).2/\(gr f t bs).2<(gr f t bs).1.length:=by
 have h1:=zSr h.wf (by have:=h.rt;omega) (zBz h) hb hz hf;exact⟨h1.1,h1.2 _ (zHo h)⟩
theorem zSs {f:List UInt8->Option Int}{t:Ty}{bs fs:List Tn}(h:WfT t) (hw:Wf fs) (hn:∀ n∈visR t.1 t.2.toNat,sub1 f (nd t.1 n)=none) (hfs:∀ (j:Nat) x,(gr f t bs).1[j]?=some x->bs.length<=j->fs[j]?=some x) (v:Vl):memB fs v (gr f t bs).2.toNat=memB t.1 v t.2.toNat:=by
 refine zR3 h.wf (by have:=h.rt;omega) (zBz h) hw f hn (fun j x hx=>?_) (zHo h) v;refine hfs (bs.length+j) x ?_ (by omega);show (bs++_)[bs.length+j]?=some x;rw[Dw (by omega),Nat.add_sub_cancel_left];exact hx
def grAll:List Ty->List Tn->List Tn×List Int
 | [],bs=>(bs,[])
 | t::l,bs=>((grAll l (gr (fun _=>none) t bs).1).1,(gr (fun _=>none) t bs).2::(grAll l (gr (fun _=>none) t bs).1).2)
theorem zI3 {f:List UInt8->Option Int}{t:Ty}{bs:List Tn}{j:Nat}{x:Tn}(h:bs[j]?=some x):(gr f t bs).1[j]?=some x:=by
 show (bs++_)[j]?=some x;rw[Dt (Bx.1 h).1,h]
theorem zSt {f:List UInt8->Option Int}{t:Ty}{bs:List Tn}:bs.length<=(gr f t bs).1.length:=by
 show _<=(bs++_).length;rw[Bd];omega
def compT (kind:Int) (l:List Ty):Ty:=((grAll l [⟨kind,0,0,[],[],[],0,0⟩]).1.set 0 ⟨kind,0,0,[],(grAll l [⟨kind,0,0,[],[],[],0,0⟩]).2,[],0,0⟩,0)
def pruT (t:Ty):Ty:=gr (fun _=>none) (accT t) []
theorem zHp (t:Ty):WfT (pruT t)/\∀ v,memT v (pruT t)=memT v t:=by
 have ha:=zCi t;have hb:BOk 0 ([]:List Tn):=⟨fun i x hx=>by simp at hx,fun x hx=>by simp at hx,⟨fun _=>0,fun i x hx=>by simp at hx⟩⟩;have h:=gr_ok (z:=0) (f:=fun _=>none) ha hb lR (fun s p h=>by simp at h);have hw:Wf (pruT t).1:=⟨fun x hx=>by
  obtain⟨i,hi⟩:=D4.1 hx;exact (h.1.node i x hi (Bt _)).1,h.1.ctr⟩
 have a:WfT (pruT t):=WfT.mk hw h.2.1 h.2.2;refine⟨a,fun v=>?_⟩;rw[zHu a,<-zQ2 v t,zHu ha];exact zSs ha hw (fun n _=>zMr _) (fun j x hx _=>hx) v
def plF (ns:List Tn) (f:List UInt8->Option Int):List Int->Nat->List Int->List Int
 | [],_,ps=>ps
 | n::l,c,ps=>match sub1 f (nd ns n)with
  | some p=>plF ns f l c (ps.set n.toNat p)
  | none=>plF ns f l (c+1) (ps.set n.toNat (c:Int))
theorem zM3 (ns:List Tn) (f:List UInt8->Option Int):∀ (l:List Int) (c:Nat) (ps:List Int),(plF ns f l c ps).length=ps.length:=by
 intro l
 induction l with
 | nil=>intro c ps;rfl
 | cons n l ih=>
  intro c ps;unfold plF;split<;>rw[ih,Ck]
theorem zM2 (ns:List Tn) (f:List UInt8->Option Int):∀ (l:List Int) (c:Nat) (ps:List Int) (i:Nat),(∀ n∈l,n.toNat≠i)->(plF ns f l c ps)[i]?=ps[i]?:=by
 intro l
 induction l with
 | nil=>intro c ps i _;rfl
 | cons n l ih=>
  intro c ps i h;have h1:=h n (Ca ..);have h2:∀ n∈l,n.toNat≠i:=fun n hn=>h n (C0 _ hn);unfold plF;split
  ·rw[ih _ _ _ h2,D3 h1]
  ·rw[ih _ _ _ h2,D3 h1]
theorem zQ5 (ns:List Tn) (f:List UInt8->Option Int):∀ (l:List Int) (c:Nat) (ps:List Int),l.Nodup->(∀ n∈l,0<=n/\n.toNat<ps.length)->∀ n∈l,(plF ns f l c ps)[n.toNat]?=some (plc ns f l c n):=by
 intro l
 induction l with
 | nil=>intro c ps _ _ n hn;simp at hn
 | cons m l ih=>
  intro c ps hd hl n hn;have hm:=hl m (Ca ..);have g:=(List.nodup_cons.1 hd).1;have d:=(List.nodup_cons.1 hd).2;have a:∀ n∈l,0<=n/\n.toNat<ps.length:=fun n hn=>hl n (C0 _ hn);have b:∀ k∈l,k.toNat≠m.toNat:=fun k hk e=>g (by
   have:k=m:=by have:=(a k hk).1;omega
   rw[<-this];exact hk)
  unfold plF;cases hs:sub1 f (nd ns m)with
  | some p=>
   simp only;have hk:keptL ns f (m::l)=keptL ns f l:=by unfold keptL;rw[List.filter_cons,hs];rfl
   rcases Cs.1 hn with rfl|hn
   ·rw[zM2 _ _ _ _ _ _ b,Ev hm.2];unfold plc;rw[hs]
   ·rw[ih c _ d (fun n hn=>by rw[Ck];exact a n hn) n hn];unfold plc;rw[hk]
  | none=>
   simp only;have hk:keptL ns f (m::l)=m::keptL ns f l:=by unfold keptL;rw[List.filter_cons,hs];rfl
   rcases Cs.1 hn with rfl|hn
   ·rw[zM2 _ _ _ _ _ _ b,Ev hm.2];unfold plc;rw[hs,hk];simp
   ·rw[ih (c+1) _ d (fun n hn=>by rw[Ck];exact a n hn) n hn];have h:m≠n:=fun e=>g (e ▸ hn);unfold plc;rw[hk];cases sub1 f (nd ns n)with
    | some p=>rfl
    | none=>
     simp only;rw[List.idxOf_cons,show (m==n)=false from Cm.2 h];simp only[cond_false,Cq];omega
theorem zI0 (ns:List Tn) (f:List UInt8->Option Int) (l m:List Int):keptL ns f (l++m)=keptL ns f l++keptL ns f m:=by unfold keptL;rw[List.filter_append]
theorem zEj (ns:List Tn) (f:List UInt8->Option Int) (l:List Int):(keptL ns f l).length<=l.length:=El _ _
theorem zKl (ns:List Tn) (f:List UInt8->Option Int) (n:Int):∀ (l:List Int) (c:Nat) (ps:List Int),plF ns f (l++[n]) c ps=(plF ns f l c ps).set n.toNat (match sub1 f (nd ns n)with|some p=>p|none=>((c+(keptL ns f l).length:Nat):Int)):=by
 intro l
 induction l with
 | nil=>
  intro c ps;rw[Cn];unfold plF;cases sub1 f (nd ns n)<;>rfl
 | cons m l ih=>
  intro c ps;rw[Dr];unfold plF;cases hs:sub1 f (nd ns m)with
  | some p=>
   have hk:keptL ns f (m::l)=keptL ns f l:=by unfold keptL;rw[List.filter_cons,hs];rfl
   simp only;rw[ih,hk]
  | none=>
   have hk:keptL ns f (m::l)=m::keptL ns f l:=by unfold keptL;rw[List.filter_cons,hs];rfl
   simp only;rw[ih,hk,Cj,show c+1+(keptL ns f l).length=c+((keptL ns f l).length+1) by omega]
theorem zGz (ns:List Tn) (f:List UInt8->Option Int) (n:Int) (l:List Int):keptL ns f (l++[n])=keptL ns f l++(if (sub1 f (nd ns n)).isNone then [n] else []):=by
 rw[zI0];congr 1;unfold keptL;rw[List.filter_cons];rfl
theorem zHt:∀ (n:Nat) (l:List Int),l.Nodup->(∀ k∈l,0<=k/\k<n)->l.length<=n:=by
 intro n
 induction n with
 | zero=>
  intro l _ hl;cases l with
  | nil=>simp
  | cons a l=>have:=hl a (Ca ..);omega
 | succ n ih=>
  intro l hd hl;have h1:=ih (l.erase (n:Int)) (hd.erase _) (fun k hk=>by
   have h2:=hl k (List.mem_of_mem_erase hk);have h3:k≠(n:Int):=fun e=>by
    subst e;exact (List.Nodup.not_mem_erase hd) hk
   omega)
  have h4:=List.length_erase_le (a:=(n:Int)) (l:=l);rw[List.length_erase]at h1;split at h1<;>omega
def VLen (ns:List Tn) (s s':List Bool×List Int):Prop:=s'.1.length=ns.length/\fls s'.1<=fls s.1/\s'.2.length+fls s'.1=s.2.length+fls s.1
theorem zId {ns:List Tn}{u:Nat}(ih:∀ (s:List Bool×List Int) (n:Nat),s.1.length=ns.length->n<ns.length->VLen ns s (visC ns u s n)):∀ (l:List Int) (t:List Bool×List Int),(∀ k∈l,0<=k/\k<ns.length)->t.1.length=ns.length->VLen ns t (l.foldl (fun s k=>visC ns u s k.toNat) t):=by
 intro l
 induction l with
 | nil=>intro t _ ht;exact⟨ht,Bc _,rfl⟩
 | cons k l ihl=>
  intro t hl ht;have hk:=hl k (Ca ..);have h1:=ih t k.toNat ht (by omega);have h2:=ihl (visC ns u t k.toNat) (fun k hk=>hl k (C0 _ hk)) h1.1;rw[Dn];exact⟨h2.1,Ba h2.2.1 h1.2.1,h2.2.2.trans h1.2.2⟩
theorem zOs {ns:List Tn}(he:EdgOk ns):∀ (u:Nat) (s:List Bool×List Int) (n:Nat),s.1.length=ns.length->n<ns.length->VLen ns s (visC ns u s n):=by
 intro u
 induction u with
 | zero=>intro s n h _;exact⟨h,Bc _,rfl⟩
 | succ u ih=>
  intro s n hs hn;unfold visC;split
  ·exact⟨hs,Bc _,rfl⟩
  rename_i hd;rw[By hn];simp only;have h0:dn s.1 n=false:=Eq.2 hd;have hz:=zJz (hs ▸ hn) h0;have h1:=zId ih (edg ns[n]) (s.1.set n true,s.2++[(n:Int)]) (fun k hk=>he _ (Cx hn) k hk) (by simpa using hs);refine⟨h1.1,?_,?_⟩
  ·have:=h1.2.1;simp only at this;omega
  ·have:=h1.2.2;simp only[Bd,Cj,Cl]at this;omega
theorem zH1 (n:Nat):fls (List.replicate n false)=n:=by
 unfold fls;rw[List.countP_replicate];rfl
def kidOk (x:Tn):Prop:=x.kids.length<=1048576/\x.fds.length<=1048576
def SmT (n:Nat) (t:Ty):Prop:=t.1.length<=n/\∀ x∈t.1,kidOk x
theorem SmT.mono {n m:Nat}{t:Ty}(h:SmT n t) (hm:n<=m):SmT m t:=⟨Ba h.1 hm,h.2⟩
theorem zC5 {n:Nat}{t:Ty}(h:SmT n t) (hn:1<=n):SmT n (accT t):=by
 unfold accT;split
 ·exact h
 ·refine⟨by simpa [noneT] using hn,fun x hx=>?_⟩;simp[noneT]at hx;subst hx;exact⟨by simp,by simp⟩
theorem zFb {t:Ty}(h:WfT t):(visR t.1 t.2.toNat).length<=t.1.length:=by
 refine zHt _ _ (zEu h) fun k hk=>?_;have h1:=(zBz h k).1 hk;have h2:=h1.2.lt h.wf.edg (by have:=h.rt;omega);exact⟨h1.1,by omega⟩
theorem zKr {n m:Nat}{f:List UInt8->Option Int}{t:Ty}{bs:List Tn}(h:WfT t) (hs:SmT n t) (hb:bs.length<=m) (hk:∀ x∈bs,kidOk x):(gr f t bs).1.length<=m+n/\∀ x∈(gr f t bs).1,kidOk x:=by
 have hl:=zFb h;have a:=zEj t.1 f (visR t.1 t.2.toNat);refine⟨?_,fun x hx=>?_⟩
 ·show (bs++grfN t.1 f (visR t.1 t.2.toNat) bs.length).length<=_;unfold grfN;rw[Bd,Bk];have:=hs.1;omega
 ·rcases B7.1 hx with hx|hx
  ·exact hk x hx
  ·obtain⟨n,hn,rfl⟩:=Cd.1 hx;have hv:=(Dj.1 hn).1;have h1:=(zBz h n).1 hv;have h2:=h1.2.lt h.wf.edg (by have:=h.rt;omega);have h3:=By h2;rw[nd_at h3];have:=hs.2 _ (Cx h2);exact⟨by simpa [mvd] using this.1,by simpa [mvd] using this.2⟩
theorem zNr {f:List UInt8->Option Int}{t:Ty}{bs:List Tn}(h:WfT t) (hf:∀ s p,f s=some p->0<=p/\p<bs.length):0<=(gr f t bs).2/\(gr f t bs).2<=bs.length+t.1.length:=by
 have hl:=zFb h;show 0<=plc t.1 f (visR t.1 t.2.toNat) bs.length t.2/\plc t.1 f (visR t.1 t.2.toNat) bs.length t.2<=_;unfold plc;cases hs:sub1 f (nd t.1 t.2)with
 | some p=>
  unfold sub1 at hs;split at hs
  ·have:=hf _ _ hs;simp only;omega
  ·cases hs
 | none=>
  have h1:=List.idxOf_le_length (a:=t.2) (l:=keptL t.1 f (visR t.1 t.2.toNat));have h2:=zEj t.1 f (visR t.1 t.2.toNat);simp only;omega
theorem zPa {n:Nat}{t:Ty}(h:SmT n t) (hn:1<=n):SmT n (pruT t):=by
 have:=zKr (m:=0) (f:=fun _=>none) (bs:=[]) (zCi t) (zC5 h hn) lR (fun x hx=>by simp at hx);exact⟨by have:=this.1;rw[Dx]at this;exact this,this.2⟩
end Go.Proofs.YteedihhdcbepmaaGreat
