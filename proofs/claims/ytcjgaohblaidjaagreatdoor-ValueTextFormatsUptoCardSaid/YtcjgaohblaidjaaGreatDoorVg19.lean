/- A value that comes in is a tree that is no greater than what it reads as. No program is named: the types come by hypotheses. -/
import Derived.Test.YtcjgaohblaidjaaGreatDoorVgZ
import Derived.Test.YtcjgaohblaidjaaGreatDoorVg01
import Derived.Test.YtcjgaohblaidjaaGreatDoorVg04
import Derived.Test.YtcjgaohblaidjaaGreatDoorVg16
import Derived.Test.YtcjgaohblaidjaaGreatDoorRows
namespace Go.Proofs.YtcjgaohblaidjaaGreatDoor
open Go Go.RowKit Go.WideShapes Go.Deep
mutual
def wt:Vl→Nat
 | .mk _ _ _ v y e l=>1+wtVs v+y.length+wtEs e+l.length
def wtVs:List Vl→Nat
 | []=>0
 | a::s=>wt a+wtVs s
def wtE:En→Nat
 | .mk a _ r=>wtVs a+wt r
def wtEs:List En→Nat
 | []=>0
 | a::s=>wtE a+wtEs s
end
theorem zIl:∀ l:List Vl,wtVs l=(l.map wt).sum
 | []=>rfl
 | a::s=>by rw[wtVs,zIl s];rfl
theorem zLp:∀ l:List En,wtEs l=(l.map wtE).sum
 | []=>rfl
 | a::s=>by rw[wtEs,zLp s];rfl
theorem zRd (v:Vl):1≤wt v:=by obtain⟨_,_,_,_,_,_,_⟩:=v;unfold wt;omega
theorem zQi {H α:Type}{f:α→Nat}:∀ (l:List α) (m:List (DataW H)),l.length=m.length→(∀ (i:Nat) (x:α) (d:DataW H),l[i]?=some x→m[i]?=some d→f x≤Rows.uptoBulk d)→(l.map f).sum≤Rows.uptoBulkAll m
 | [],[],_,_=>Nat.zero_le _
 | a::s,d::t,h,h2=>by
  have h3:=zQi s t (by simpa using h) fun i x d hx hd=>h2 (i+1) x d (by simpa using hx) (by simpa using hd);have h4:=h2 0 a d rfl rfl;simp only[List.map_cons,List.sum_cons,Rows.uptoBulkAll];omega
section
variable {H:Type}{enc:TypeId×Value→H}{P:Program}{w:World}{spare:Nat→Bool}{held:Bool}
theorem zG2 {t:TypeId}{l:List (TypeId×Nat)}{k:Nat}{cs:List Value}{x:DataW H×List MemPlace}(hl:zC5 P t=some l) (h:DataW.trod enc P w 0 spare held k t cs=some x) :
  ∃ (n:Nat) (xs:List (DataW H×List MemPlace)),k=n+1∧cs.length=P.cellsOf t∧x.1=.agg (xs.map (·.1))∧xs.length=l.length∧∀ (i:Nat) (p:TypeId×Nat),l[i]?=some p→DataW.trod enc P w 0 spare held n p.1 ((cs.drop p.2).take (P.cellsOf p.1))=xs[i]?:=by
 obtain⟨fs,hfs,hsz,hf⟩:=zC4 hl;obtain⟨xs,n,hk,hx1,hlen,hxl,hx⟩:=DataW.trod_struct hfs h;refine⟨n,xs,hk,hlen,by rw[hx1],by omega,fun i p hp=>?_⟩;obtain⟨f,h1,h2,h3⟩:=hf i p hp;have:=hx i f h1
 rwa [h2,h3]at this
theorem zC1 {n c:Nat}{t e:TypeId}{u:Value}{y:DataW H×List MemPlace}{α:Type}(f:α→Nat) (R:α→List Value→Prop) (ht:P.underlying t=some (.slice e)) (hc:P.cellsOf e=c) (hpos:0<c)
  (h:DataW.trod enc P w 0 spare held n t [u]=some y) (hR:∀ m cs z,m<n→DataW.trod enc P w 0 spare held m e cs=some z→∃ x:α,R x cs∧f x≤Rows.uptoBulk z.1) :
  ∃ l:List α,RowP w w.heap.size c u l.length (fun j cs=>∃ x,l[j]?=some x∧R x cs)∧(l.map f).sum≤Rows.uptoBulk y.1:=by
 rcases DataW.trod_slice ht h with⟨h0,_⟩|⟨a,len,cap,elems,rest,m,rfl,hu,hy,_,hl,hm,hlen,hel,_⟩
 ·simp only[List.cons.injEq,and_true]at h0;subst h0;exact⟨[],⟨none,0,rfl,⟨Nat.zero_le _,Nat.le_refl _⟩,fun hn=>absurd hn (by simp)⟩,Nat.zero_le _⟩
 ·simp only[List.cons.injEq,and_true]at hu;subst hu;have each:∀ i:Fin len,∃ x:α,∃ cs:List Value,cs.length=c∧(∀ q,q<c→w.cell? ((a.add (i.1*c)).add q)=cs[q]?)∧R x cs∧f x≤Rows.uptoBulk (elems[i.1]'(by omega)).1:=by
   intro i;have h1:=hel i.1 i.2;rw[List.getElem?_eq_getElem (by omega),hc]at h1;obtain⟨cs,h2,h3⟩:=Option.bind_eq_some_iff.1 h1;obtain⟨_,h4,h5⟩:=World.cells?_some h2;obtain⟨x,hx,hw⟩:=hR m cs _ (by omega) h3;exact⟨x,cs,h4,h5,hx,hw⟩
  refine⟨List.ofFn fun i=>Classical.choose (each i),⟨some a,cap,by simp,⟨by simp;omega,by simp;omega⟩,fun hn=>?_⟩,?_⟩
  ·rw[List.length_ofFn]at hn;obtain⟨b,off,spot⟩:=a;obtain⟨cs0,k1,k2,_⟩:=Classical.choose_spec (each ⟨0,hn⟩);have hc0:=k2 0 hpos;rw[List.getElem?_eq_getElem (by omega)]at hc0;have hspot:spot=none:=by simpa [Addr.add] using World.cell?_spot hc0
   subst hspot;refine⟨b,off,rfl,?_,?_,fun j hj=>?_⟩
   ·simpa [Addr.add] using World.block_lt_of_cell? _ _ hc0
   ·simpa [Addr.add] using World.block_lt_of_cell? _ _ hc0
   ·rw[List.length_ofFn]at hj;obtain⟨cs,k3,k4,k5,_⟩:=Classical.choose_spec (each ⟨j,hj⟩);refine⟨cs,k3,fun i hi=>?_,_,by rw[List.getElem?_ofFn,dif_pos hj],k5⟩;have:=k4 i hi;rw[zFb,zFb]at this;rw[←this]
  ·rw[hy];have h9:=zQi (f:=f) (List.ofFn fun i=>Classical.choose (each i)) (elems.map (·.1)) (by simp[hlen]) (by
    intro i x d hx hd;have hi:i<len:=by have:=(List.getElem?_eq_some_iff.1 hx).1;simpa using this
    rw[List.getElem?_ofFn,dif_pos hi]at hx;injection hx with hx;subst hx;rw[List.getElem?_map,List.getElem?_eq_getElem (by omega)]at hd;simp only[Option.map_some,Option.some.injEq]at hd;subst hd;obtain⟨_,_,_,_,h⟩:=Classical.choose_spec (each ⟨i,hi⟩);exact h)
   simp only[Rows.uptoBulk];omega
theorem zI5 (d:DataW H):1≤Rows.uptoBulk d:=by
 cases d with
 | lit l=>cases l<;>simp[Rows.uptoBulk]
 | nil=>simp[Rows.uptoBulk]
 | ptr d=>simp[Rows.uptoBulk]
 | slice elems spare=>simp[Rows.uptoBulk]
 | agg parts=>simp[Rows.uptoBulk]
 | iface t d=>simp[Rows.uptoBulk]
 | map entries=>simp[Rows.uptoBulk]
 | held h=>simp[Rows.uptoBulk]
theorem zOw {α:Type}(l:List α):(l.map fun _=>(1:Nat)).sum=l.length:=by
 induction l with
 | nil=>rfl
 | cons a s ih=>rw[List.map_cons,List.sum_cons,ih,List.length_cons];omega
theorem list7 {α:Type}{l:List α}(h:l.length=7):∃ a b c d e f g,l=[a,b,c,d,e,f,g]:=by
 match l,h with
 | [a,b,c,d,e,f,g],_=>exact⟨a,b,c,d,e,f,g,rfl⟩
theorem zRo {tV tI tL tS tVs tK tKs tE tEs tB tSs:TypeId}(T:ValT P tV tI tL tS tVs tK tKs tE tEs tB tSs) :
  ∀ (k:Nat) (cs:List Value) (x:DataW H×List MemPlace),DataW.trod enc P w 0 spare held k tV cs=some x→∃ v,VS k w w.heap.size v cs∧wt v≤Rows.uptoBulk x.1:=by
 have hcl:=T.cells;simp only[List.map_cons,List.map_nil,List.cons.injEq,and_true]at hcl;obtain⟨cV,cI,cL,cS,cVs,cK,cKs,cE,cEs,cB,cSs⟩:=hcl;intro k
 induction k using Nat.strongRecOn with
 | ind k ih=>
 intro cs x h;obtain⟨n,xs,rfl,hlen,hx1,hxl,hf⟩:=zG2 T.v h;rw[cV]at hlen;obtain⟨c0,c1,c2,c3,c4,c5,c6,rfl⟩:=list7 hlen;obtain⟨y0,y1,y2,y3,y4,y5,y6,rfl⟩:=list7 hxl;have h0:=hf 0 _ rfl;have h1:=hf 1 _ rfl;have h2:=hf 2 _ rfl;have h3:=hf 3 _ rfl;have h4:=hf 4 _ rfl;have h5:=hf 5 _ rfl;have h6:=hf 6 _ rfl;simp only[cI,cL,cS,cVs,cKs,cEs,cSs,List.drop_zero,List.drop_succ_cons,List.take_succ_cons,List.take_zero,List.getElem?_cons_zero,List.getElem?_cons_succ]at h0 h1 h2 h3 h4 h5 h6;obtain⟨kind,e0,_,w0⟩:=DataW.trod_int T.i h0;obtain⟨int,e1,_,w1⟩:=DataW.trod_int T.l h1;obtain⟨text,e2,_,w2⟩:=DataW.trod_string T.s h2;simp only[List.cons.injEq,and_true]at e0 e1 e2;subst e0 e1 e2;have kidsOf:∀ m u (y:DataW H×List MemPlace),m≤n→DataW.trod enc P w 0 spare held m tVs [u]=some y→∃ l:List Vl,RowP w w.heap.size 7 u l.length (fun j cs=>∃ x,l[j]?=some x∧VS n w w.heap.size x cs)∧(l.map wt).sum≤Rows.uptoBulk y.1:=by
  intro m u y hm hy;refine zC1 wt (fun x cs=>VS n w w.heap.size x cs) T.vs cV (by omega) hy fun m' cs z hlt hz=>?_;obtain⟨v,hv,hw⟩:=ih m' (by omega) cs z hz;exact⟨v,hv.up lR (by omega),hw⟩
 obtain⟨kids,hk,wk⟩:=kidsOf n c3 y3 lR h3;obtain⟨keys,hy,wy⟩:=zC1 (α:=Int×List UInt8) (fun _=>1) (fun x cs=>cs=[.int .i64 x.1,.string ⟨x.2.toArray⟩]∧(Lit.int .i64 x.1).wf=true∧x.2.length≤maxLen) T.ks cK (by omega) h4 (by
  intro m cs z _ hz;obtain⟨q,rfl,hl,hg⟩:=zMp T.k hz;rw[cK]at hl;obtain⟨a,b,rfl⟩:∃ a b,cs=[a,b]:=by
   match cs,hl with
   | [a,b],_=>exact⟨a,b,rfl⟩
  obtain⟨z0,g0⟩:=hg 0 _ rfl;obtain⟨z1,g1⟩:=hg 1 _ rfl;simp only[cI,cS,List.drop_zero,List.drop_succ_cons,List.take_succ_cons,List.take_zero]at g0 g1;obtain⟨i,e0,_,wi⟩:=DataW.trod_int T.i g0;obtain⟨s,e1,_,ws⟩:=DataW.trod_string T.s g1;simp only[List.cons.injEq,and_true]at e0 e1;subst e0 e1;exact⟨(i,s.data.toList),⟨by rw[zIr],wi,by simpa using ws⟩,zI5 _⟩)
 obtain⟨ents,he,we⟩:=zC1 (α:=En) wtE (fun x cs=>∃ args fails result,x=.mk args fails result∧∃ ua rs,cs=ua::.bool fails::rs∧RowP w w.heap.size 7 ua args.length (fun j cs=>∃ x,args[j]?=some x∧VS n w w.heap.size x cs)∧VS n w w.heap.size result rs) T.es cE (by omega) h5 (by
  intro m cs z hm hz;obtain⟨q,zs,rfl,hl,hz1,hzl,hg⟩:=zG2 T.e hz;rw[cE]at hl;obtain⟨ua,ub,rs,rfl,hrs⟩:∃ ua ub rs,cs=ua::ub::rs∧rs.length=7:=by
   match cs,hl with
   | ua::ub::rs,hl=>exact⟨ua,ub,rs,rfl,by simpa using hl⟩
  obtain⟨z0,z1,z2,rfl⟩:∃ z0 z1 z2,zs=[z0,z1,z2]:=by
   match zs,hzl with
   | [a,b,c],_=>exact⟨a,b,c,rfl⟩
  have g0:=hg 0 _ rfl;have g1:=hg 1 _ rfl;have g2:=hg 2 _ rfl;simp only[cVs,cB,cV,List.drop_zero,List.drop_succ_cons,List.take_succ_cons,List.take_zero,List.getElem?_cons_zero,List.getElem?_cons_succ]at g0 g1 g2;rw[←hrs,List.take_length]at g2;obtain⟨args,ha,wa⟩:=kidsOf q ua z0 (by omega) g0;obtain⟨fails,e1,_⟩:=DataW.trod_bool T.b g1;simp only[List.cons.injEq,and_true]at e1;subst e1;obtain⟨result,hr,wr⟩:=ih q (by omega) rs z2 g2;refine⟨.mk args fails result,⟨args,fails,result,rfl,ua,rs,rfl,ha,hr.up lR (by omega)⟩,?_⟩;rw[hz1];simp only[List.map_cons,List.map_nil,Rows.uptoBulk,Rows.uptoBulkAll];rw[wtE,zIl];omega)
 obtain⟨labels,hb,wl⟩:=zC1 (α:=List UInt8) (fun _=>1) (fun x cs=>cs=[.string ⟨x.toArray⟩]∧x.length≤maxLen) T.ss cS (by omega) h6 (by
  intro m cs z _ hz;obtain⟨s,rfl,_,ws⟩:=DataW.trod_string T.s hz;exact⟨s.data.toList,⟨by rw[zIr],by simpa using ws⟩,zI5 _⟩)
 refine⟨.mk kind int text.data.toList kids keys ents labels,⟨c3,c4,c5,c6,by rw[zIr],w0,w1,by simpa using w2,hk,hy,he.mono lR ?_,hb⟩,?_⟩
 ·rintro j cs ⟨x,hx,args,fails,result,rfl,hrest⟩;exact⟨args,fails,result,hx,hrest⟩
 ·rw[hx1];simp only[List.map_cons,List.map_nil,Rows.uptoBulk,Rows.uptoBulkAll];rw[zOw]at wy wl;rw[wt,zIl,zLp];have p0:=zI5 y0.1;omega
end
end Go.Proofs.YtcjgaohblaidjaaGreatDoor
namespace Go.Proofs.YtcjgaohblaidjaaGreatDoor
open Go Go.RowKit
theorem zDt {α:Type}(s:Bs) (f:α→Bs) (g:α→Nat):∀ (l:List α),(∀ x∈l,(f x).length+s.length≤g x)→(sepL s (l.map f)).length≤(l.map g).sum
 | [],_=>by simp[sepL]
 | [a],h=>by
  have:=h a (by simp);simp[sepL];omega
 | a::b::r,h=>by
  have h1:=h a (by simp);have h2:=zDt s f g (b::r) (fun x hx=>h x (by simp[hx]));simp only[List.map_cons,List.sum_cons]at h2 ⊢;show (f a++s++sepL s (f b::r.map f)).length≤_;simp only[List.length_append];omega
theorem zNq:∀ l:List Vl,(l.map fun x=>300*wt x).sum=300*wtVs l
 | []=>by simp[wtVs]
 | a::s=>by
  have:=zNq s;simp only[List.map_cons,List.sum_cons,wtVs,this];omega
theorem zNp:∀ l:List En,(l.map fun x=>300*wtE x).sum=300*wtEs l
 | []=>by simp[wtEs]
 | a::s=>by
  have:=zNp s;simp only[List.map_cons,List.sum_cons,wtEs,this];omega
theorem zNo:∀ (y:List (Int×Bs)) (v:List Vl),y.length=v.length→((y.zip v).map fun x:(Int×Bs)×Vl=>300+300*wt x.2).sum=300*y.length+300*wtVs v
 | [],[],_=>by simp[wtVs]
 | a::y,b::v,h=>by
  have:=zNo y v (by simpa using h);simp only[List.zip_cons_cons,List.map_cons,List.sum_cons,List.length_cons,wtVs,this];omega
theorem zJi:∀ (l:List Bs),(l.map fun _=>300).sum=300*l.length
 | []=>by simp
 | a::s=>by
  have:=zJi s;simp only[List.map_cons,List.sum_cons,List.length_cons,this];omega
theorem zQw:∀ (k:Nat) (v:Vl),Fit k v→(showV v).length+10≤300*wt v:=by
 intro k
 induction k with
 | zero=>
  intro v hv;obtain⟨m,hm⟩:=hv.pos;omega
 | succ k ih=>
  intro v hv;have hl:=zGq hv;have hv0:=hv;obtain⟨kd,i,t,v,y,e,l⟩:=v;have hp:=hv.parts;have h1:(labsL l).length≤3+300*l.length:=by
   unfold labsL;split
   ·simp
   ·have h2:=zDt [32] id (fun _=>300) l (fun x hx=>by
     have:=zCq (show nameB _ _ x=true from hl x hx);show x.length+1≤300;omega)
    rw[List.map_id,zJi]at h2;simp only[List.length_append,List.length_cons,List.length_nil];omega
  have hV:(sepL zAc (v.map showV)).length≤300*wtVs v:=by
   have h2:=zDt zAc showV (fun x=>300*wt x) v (fun x hx=>by
    have:=ih x (hp.kids x hx);show _+2≤_;omega)
   rwa [zNq]at h2
  have h2:(bodyV (.mk kd i t v y e l)).length+13≤300+300*wtVs v+300*y.length+300*wtEs e:=by
   rcases kinds hp.kind with rfl|rfl|rfl|rfl|rfl|rfl|rfl|rfl|rfl
   ·have:=Lib.itoa_length_le i hp.lo hp.hi;show (Lib.itoa i).length+13≤_;omega
   ·have:=zEw (l:=t) (by simpa [kindB] using hp.kind);show (zAq t).length+13≤_;omega
   ·have:=zCq (show nameB lowB atomT t=true from hp.kind);show t.length+13≤_;omega
   ·have:=Lib.itoa_length_le i hp.lo hp.hi;show (35::Lib.itoa i).length+13≤_;simp only[List.length_cons];omega
   ·show 2+13≤_;omega
   ·show (123::(sepL zAc (v.map showV)++[125])).length+13≤_;simp only[List.length_append,List.length_cons,List.length_nil];omega
   ·have hc:consB v=true:=hp.kind
    match v,hc,hp.kids with
    | [a,b],hc,hkids=>
     have hkb:zAj b=5∨zAj b=7:=by simpa [consB] using hc
     have h3:=ih a (hkids a (by simp));have h4:=ih b (hkids b (by simp));have h5:=zQh (hkids b (by simp)) hkb;show (91::consL (shs [a,b])).length+13≤_;rw[zBs];simp only[List.length_append,List.length_cons,wtVs];omega
   ·have hk:(y.all (fun x=>keyB x.1 x.2)&&decide (AscC cmpK y)&&decide (y.length=v.length))=true:=hp.kind;simp only[Bool.and_eq_true,decide_eq_true_eq,List.all_eq_true]at hk;obtain⟨z1,z2⟩:=zCu y v hk.2;have h3:=zDt zAc (fun x:(Int×Bs)×Vl=>keyL x.1.1 x.1.2++[58,32]++showV x.2) (fun x:(Int×Bs)×Vl=>300+300*wt x.2) (y.zip v) (by
     intro u hu;have m1:=zN5 (hk.1.1 _ (zEc hu).1);have m2:=ih u.2 (hp.kids u.2 (zEc hu).2);simp only[List.length_append,List.length_cons,List.length_nil,zAc];omega)
    rw[zNo y v hk.2]at h3;show ([37,123]++(sepL zAc (List.zipWith (fun (x:Int×Bs) (z:Bs)=>keyL x.1 x.2++[58,32]++z) y (v.map showV))++[125])).length+13≤_;have hz:=zCb (y.zip v);rw[z1,z2]at hz;rw[hz];simp only[List.length_append,List.length_cons,List.length_nil];omega
   ·have h3:=Lib.itoa_length_le i hp.lo hp.hi;have h4:=zDt zAc showE (fun x=>300*wtE x) e (by
     intro u hu;have hf:=hp.ents u hu;obtain⟨a,f,r⟩:=u;obtain⟨h5,h6⟩:=hf.args;have h7:=zDt zAc showV (fun x=>300*wt x) a (fun x hx=>by
      have:=ih x (h5 x hx);show _+2≤_;omega)
     rw[zNq]at h7;have hr:=zRd r;have h8:(if f=true then [33] else showV r).length+10≤300*wt r:=by
      cases f with
      | true=>simp only[if_true,List.length_cons,List.length_nil];omega
      | false=>
       simp only[Bool.false_eq_true,if_false];exact ih r (h6.resolve_left (by decide))
     rw[zCx];generalize (if f=true then [33] else showV r)=X at h8 ⊢;simp only[List.length_append,List.length_cons,List.length_nil,wtE];have hcl:zAc.length=2:=rfl;omega)
    rw[zNp]at h4;show ([102,117,110,47]++Lib.itoa i++[123]++(sepL zAc (e.map showE)++[125])).length+13≤_;simp only[List.length_append,List.length_cons,List.length_nil];omega
  rw[zAg,List.length_append];show _+(labsL l).length+10≤_;unfold wt;omega
end Go.Proofs.YtcjgaohblaidjaaGreatDoor
