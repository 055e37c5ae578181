/- The walk of slices.DeleteFunc(s, isEmpty) .. -/
import Derived.Test.YteedihhdcbepmaaGreatTfZ
import Derived.Test.YteedihhdcbepmaaGreatTf17
import Derived.Shelf.SlSortCmp.NoneTotal
import Derived.StillTailTactics
set_option maxRecDepth 100000
set_option maxHeartbeats 12800000
set_option linter.all false
open Go.Value renaming slice→vS,int→vI,string→vT
open Go.IntKind renaming i64→i6
open Go.Proofs.Tryz
open Go.Proofs.Tryz renaming prog→tP
namespace Go.Proofs.YteedihhdcbepmaaGreat.Iv
open Go.RowKit
def neB (r:Rg):Bool:=!zBa r
theorem zF3 {rs:List Rg}(h:∀ r∈rs,zBa r=false):rs.filter neB=rs:=by
 rw[List.filter_eq_self];intro r hr;simp[neB,h r hr]
theorem zJi (rs:List Rg):(∀ r∈rs,zBa r=false)\/∃ (m:Nat) (x:Rg),rs[m]?=some x/\zBa x=true/\∀ (j:Nat) (r:Rg),j<m->rs[j]?=some r->zBa r=false:=by
 induction rs with
 | nil=>exact .inl (by simp)
 | cons y l ih=>
  by_cases hy:zBa y=true
  ·exact .inr ⟨0,y,rfl,hy,fun j r hj=>by omega⟩
  ·have a:zBa y=false:=by simpa using hy
   rcases ih with h|⟨m,x,h1,h2,h3⟩
   ·refine .inl ?_;intro r hr;rcases Cs.1 hr with rfl|hr
    ·exact a
    ·exact h r hr
   ·refine .inr ⟨m+1,x,by simpa using h1,h2,?_⟩;intro j r hj hr;cases j with
    | zero=>simp at hr;subst hr;exact a
    | succ j=>exact h3 j r (by omega) (by simpa using hr)
theorem zEr {rs:List Rg}{m:Nat}{x:Rg}(hx:rs[m]?=some x) (hxe:zBa x=true) (h:∀ j r,j<m->rs[j]?=some r->zBa r=false):(rs.take (m+1)).filter neB=rs.take m:=by
 rw[Ct,hx,List.filter_append];have:(rs.take m).filter neB=rs.take m:=by
  refine zF3 fun r hr=>?_;obtain⟨j,hj⟩:=Eu.1 hr;rw[List.getElem?_take]at hj;split at hj
  ·exact h j r (by assumption) hj
  ·cases hj
 rw[this];simp[neB,hxe]
theorem zE1 {rs:List Rg}{j:Nat}{x:Rg}(hx:rs[j]?=some x) (hxe:zBa x=false):(rs.take (j+1)).filter neB=(rs.take j).filter neB++[x]:=by
 rw[Ct,hx,List.filter_append];simp[neB,hxe]
theorem zE2 {rs:List Rg}{j:Nat}{x:Rg}(hx:rs[j]?=some x) (hxe:zBa x=true):(rs.take (j+1)).filter neB=(rs.take j).filter neB:=by
 rw[Ct,hx,List.filter_append];simp[neB,hxe]
structure zDu (rs M:List Rg) (i j:Nat):Prop where
 len:M.length=rs.length
 lt:i<j
 le:j<=rs.length
 done:M.take i=(rs.take j).filter neB
 rest:∀ k,j<=k->M[k]?=rs[k]?
theorem zDu.start {rs:List Rg}{m:Nat}{x:Rg}(hx:rs[m]?=some x) (hxe:zBa x=true) (h:∀ j r,j<m->rs[j]?=some r->zBa r=false):zDu rs rs m (m+1):=
 ⟨rfl,by omega,by have:=(Bx.1 hx).1;omega,(zEr hx hxe h).symm,fun _ _=>rfl⟩
theorem zDu.skip {rs M:List Rg}{i j:Nat}{x:Rg}(h:zDu rs M i j) (hx:rs[j]?=some x) (hxe:zBa x=true):zDu rs M i (j+1):=
 ⟨h.len,by have:=h.lt;omega,by have:=(Bx.1 hx).1;omega,by rw[zE2 hx hxe];exact h.done,fun k hk=>h.rest k (by omega)⟩
theorem zDu.keep {rs M:List Rg}{i j:Nat}{x:Rg}(h:zDu rs M i j) (hx:rs[j]?=some x) (hxe:zBa x=false):zDu rs (M.set i x) (i+1) (j+1):=by
 have hl:=h.len;have a:=h.lt;have hj:=(Bx.1 hx).1;refine⟨by simpa using hl,by omega,by omega,?_,?_⟩
 ·rw[zE1 hx hxe,<-h.done,Ct,Df (by omega),List.take_set_of_le lR];rfl
 ·intro k hk;rw[Dn (by omega)];exact h.rest k (by omega)
theorem bcell {W w1:World}(hb:bW W w1):(∀ b o,b<W.heap.size->w1.cell? (aD b o)=W.cell? (aD b o))/\(∀ b o,b<W.heap.size->w1.frozen? (aD b o)=W.frozen? (aD b o)):=
 ⟨fun b o h=>hb.cell (p:=(aD b o)) h,fun b o h=>hb.frozen (p:=(aD b o)) h⟩
theorem zGg (v:Value) (rs:List Rg) (w:World) (B:Nat) (hO:OwnR w B v rs) (hf:Fit rs) (hB:B<=w.heap.size) (hn:rs.length<=1000000000) :
  Calls tP 101 #[v,.func (.func 103) #[] #[]] w fun e w'=>∃ v',e=.returned v'/\OwnR w' B v' (rs.filter neB)/\Below B w w':=by
 rcases zJi rs with h|⟨m,x,hx,hxe,h⟩
 ·obtain⟨A,c,rfl⟩:=hO.form;have hc:=fun w' (hb:bW w w')=>zFy A rs.length c rs w' ((hO.rng hf).kept hb hb.size) hn h;have HO:=xI hO;have HE:=xI (zF3 h);clear hO h;have d:=hc w yR;clear hc;go_enter func101,ntmps101;go_wp2_with (go_at_call 147;refine d.mono ?_;rintro e w' ⟨rfl,hb⟩)
  all_goals go_ret
  all_goals exact⟨_,rfl,by rw[HE.out];exact HO.out.old hb,hb.mono hB⟩
 ·have a:0<rs.length:=by have:=(Bx.1 hx).1;omega
  have s:m<rs.length:=(Bx.1 hx).1;obtain⟨g,c,rfl,r,H,t⟩:=hO.formG a;have d:=zFx (some (aD g 0)) rs.length c rs w m x (hO.rng hf) hn hx hxe h;have HS:=xI (zDu.start hx hxe h);have HF:=xI hf;have HO:=xI hO;clear hO h hx hf;obtain⟨n,b⟩:∃ n,n=rs.length:=⟨_,rfl⟩;rw[<-b]at d hn a s t;have HN:=xI b;rw[<-b];have q1:((m:Int)==-1)=false:=by rw[Ck];omega
  clear b;go_enter func101,ntmps101;go_wp2_with (go_at_call 147;refine d.mono ?_;rintro e w' ⟨rfl,hb⟩)
  go_loopw [5,6,7] (fun s5 s6 _ wr=>∃ (i j:Nat) (M:List Rg),s5=vI i6 i/\s6=vI i6 j/\zDu rs M i j/\OwnR wr B (vS (some (aD g 0)) n c) M/\Below B w wr) (fun _ s6 _ _=>n-(intOf s6).toNat)
  case atStart=>exact⟨m,m+1,rs,rfl,by go_num,HS.out,by rw[HN.out];exact HO.out.old hb,hb.mono hB⟩
  case round=>
   obtain⟨i,j,M,rfl,rfl,hI,hM,f⟩:=hrel;have HI:=xI hI;have HM:=xI hM;have u:=hI.lt;have F:j<=n:=by rw[HN.out];exact hI.le
   have HL:Hid (M.length=n):=xI (by rw[HN.out];exact hI.len);have E:=f.size;clear hI hM;have G:g<wr.heap.size:=by omega
   by_cases hlt:j<n
   ·obtain⟨r1,r2,hx⟩:∃ r1 r2,rs[j]?=some (r1,r2):=⟨_,_,Bw (by have:=HN.out;omega)⟩;have hy:M[j]?=some (r1,r2):=(HI.out.rest j lR).trans hx;have c1:=HM.out.lo HL.out hy;have c2:=HM.out.hi HL.out hy;have HX:=xI hx;clear hx hy;simp only at c1 c2;have hm:=fun w=>zD1 r1 r2 w;cases he:zBa (r1,r2)
    ·rw[he]at hm;have HE:=xI he;clear he;obtain⟨y1,y2,hz⟩:∃ y1 y2,M[i]?=some (y1,y2):=⟨_,_,Bw (by have:=HL.out;omega)⟩;have d1:=HM.out.lo HL.out hz;have d2:=HM.out.hi HL.out hz;have f1:=HM.out.free HL.out (i*2);have f2:=HM.out.free HL.out (i*2+1);simp only at d1 d2;clear hz;go_wp2_with (go_at_call 103;refine (hm _).mono ?_;rintro e w' ⟨rfl,hb1⟩;refine Hid.out ?_);refine xI ?_;obtain⟨K,I⟩:=bcell hb1;have y:g<wr.heap.size+1:=by omega
     go_wp2
     all_goals go_roundw
     case rel=>
      have q:bW wr w':=(yR.alloc lR _).trans (hb1.mono (by simp));exact⟨i+1,j+1,M.set i (r1,r2),by go_num,by go_num,HI.out.keep HX.out HE.out,(HM.out.old q).set HL.out i (r1,r2),((f.trans (q.mono (by omega))).setCell (p:=(aD g (i*2))) r _).setCell (p:=(aD g (i*2+1))) r _⟩
     case measure=>simp[intOf];omega
    ·rw[he]at hm;have HE:=xI he;clear he;go_wp2_with (go_at_call 103;refine (hm _).mono ?_;rintro e w' ⟨rfl,hb1⟩)
     all_goals go_roundw
     case rel=>exact⟨i,j+1,M,rfl,by go_num,HI.out.skip HX.out HE.out,HM.out.old ((yR.alloc lR _).trans (hb1.mono (by simp))),f.trans (((yR.alloc lR _).trans (hb1.mono (by simp))).mono (by omega))⟩
     case measure=>simp[intOf];omega
   ·obtain rfl:j=n:=by omega
    obtain⟨w2,J,l,o⟩:=zKn HM.out HL.out i (c-i) u;have HT:Hid (M.take i=rs.filter neB):=xI (by rw[HI.out.done,HN.out,Cz lR]);have z:=xI l;have C:=xI o;clear l o;have ic:(i:Int)<=(j:Int):=by omega
    have jc:(j:Int)<=(c:Int):=by omega
    have D:¬ (c=i):=by omega
    go_wp2
    all_goals go_ret
    all_goals exact⟨_,rfl,by rw[<-HT.out];exact z.out,f.grown C.out (by omega) (fun k hk=>by injection hk with hk;omega)⟩
end Go.Proofs.YteedihhdcbepmaaGreat.Iv
namespace Go.Proofs.YteedihhdcbepmaaGreat.Iv
open Go.RowKit Go.Sort
theorem zIl (d:Array Rg):(flatK zCg 2 d).toList=flatR d.toList:=by
 apply Dr;intro j;by_cases hj:j<d.size*2
 ·have hx:d.toList[j / 2]?=some d[j / 2]!:=by
   rw[D3 d (j / 2) (by omega),Ej,Fw (by omega)]
  have h1:=zCx _ _ _ hx;have h2:=zDm _ _ _ hx;have e:(flatK zCg 2 d).toList[j]?=some (zCg d[j / 2]!)[j % 2]!:=by
   rw[Ej,Fw (by simpa using hj)];congr 1;have:=get_flatK zCg 2 d j hj
   rwa [D3 _ j (by simpa using hj)]at this
  rw[e];rcases Nat.mod_two_eq_zero_or_one j with q|q
  ·rw[show j / 2*2=j by omega]at h1;rw[h1,q];rfl
  ·rw[show j / 2*2+1=j by omega]at h2;rw[h2,q];rfl
 ·rw[Ce (by simp;omega),Ce (by rw[zAn];simp;omega)]
theorem zJ6 (d:Array Rg):flatK zCg 2 d=(flatR d.toList).toArray:=by rw[<-zIl]
theorem zHk {w:World}{B g n cap:Nat}{rs:List Rg}(h:OwnR w B (vS (some (aD g 0)) n cap) rs) (hn:rs.length=n):HoldsK zCg 2 w g 0 rs.toArray:=by
 subst hn;unfold HoldsK;rw[zJ6];intro j hj;have a:j<rs.length*2:=by
  rw[Dg,zAn]at hj;exact hj
 refine⟨?_,by rw[Dw];exact World.ownsRow.frozenAt h j⟩;rw[Dw,World.ownsRow.cellAt h j a];have hl:j<(flatR rs).length:=by rw[zAn];exact a
 rw[Bw hl];simp[hl]
theorem zFn {w:World}{B g n m cap:Nat}{rs:List Rg}{d:Array Rg}{os:Array Obj}(h:OwnR w B (vS (some (aD g 0)) n cap) rs) (hn:rs.length=n) (hd:d.size=n) :
  OwnR (sortWorldK zCg 2 w g 0 m d os) B (vS (some (aD g 0)) n cap) d.toList/\w.grownBy (sortWorldK zCg 2 w g 0 m d os) (some g):=by
 subst hn;rcases h.2 with⟨h',_⟩|⟨g',o,b,h',hb,hg,c,l,i,a⟩
 ·simp at h'
 ·simp only[Value.slice.injEq,Cu,Addr.mk.injEq,and_true,true_and]at h';obtain⟨rfl,rfl⟩:=h';have f:g<w.heap.size:=(Cp.1 hg).1;have hh:(sortWorldK zCg 2 w g 0 m d os).heap[g]?=some (.cells (putCells id 0 (flatK zCg 2 d) b) 83 (0,0)):=by
   unfold sortWorldK putRowK;rw[heap_grow_old _ _ (by simpa [putRow,mapBlock,Sort.ahead] using f)];simp[putRow,mapBlock,Sort.ahead,Array.getElem?_modify,hg,onCells]
  refine⟨⟨zAn _,.inr ⟨g,cap,_,by simp[hd],hb,hh,by simp[hd];exact c,l,by simp[putCells,i],?_⟩⟩,rfl,rfl,rfl,?_,fun k hk hne=>?_⟩
  ·rw[zJ6];have hl:(flatR d.toList).length=d.toList.length*2:=zAn _;apply Dr;intro j;by_cases hj:j<d.toList.length*2
   ·rw[Cm hj,Ej];have hc:j<b.size:=by simp at hj;omega
    simp[putCells,hc,show j<(flatR d.toList).length by omega]
   ·rw[List.getElem?_take_eq_none (by omega),Ce (by omega)]
  ·simp[sortWorldK,putRowK,putRow,mapBlock,Sort.ahead,grow]
  ·unfold sortWorldK putRowK;rw[heap_grow_old _ _ (by simpa [putRow,mapBlock,Sort.ahead] using hk)];have:g≠k:=fun e=>hne (by rw[e]);simp[putRow,mapBlock,Sort.ahead,Array.getElem?_modify,this]
def cfR (x y:Rg):Int:=cmpI x.1 y.1
theorem ltLo (x y:Rg):ltOf cfR x y=decide (x.1<y.1):=by
 unfold ltOf cfR cmpI;by_cases h1:x.1<y.1
 ·simp[h1]
 ·by_cases h2:y.1<x.1<;>simp[h1,h2]
theorem swoLo:SWO (ltOf cfR) where
 irrefl x:=by rw[ltLo];simp
 trans x y z h1 h2:=by rw[ltLo]at *;simp at *;omega
 ntrans x y z h1 h2:=by rw[ltLo]at *;simp at *;omega
theorem zPu (x y:Rg) (W:World):Calls tP 105 #[.agg #[vI i6 x.1,vI i6 x.2],.agg #[vI i6 y.1,vI i6 y.2]] W fun e w'=>e=.returned (vI i6 (cfR x y))/\∃ q os',w'=grow (W.drewN q) os':=by
 have a:=fun W'=>zNb x.1 y.1 W';unfold cfR;generalize cmpI x.1 y.1=r at a ⊢;go_enter func105,ntmps105;go_wp2_with (go_at_call 106;refine (a _).mono ?_;rintro e w' ⟨rfl,rfl⟩);go_ret;exact⟨rfl,0,_,by rw[alloc_eq_grow,alloc_eq_grow,grow_grow];rfl⟩
def Asc (l:List Rg):Prop:=∀ (i j:Nat) (x y:Rg),i<j->l[i]?=some x->l[j]?=some y->x.1<=y.1
theorem zNy (v:Value) (rs:List Rg) (w:World) (B:Nat) (hO:OwnR w B v rs) (hB:B<=w.heap.size) (hn:rs.length<=1000000000) :
  Calls tP 104 #[v,.func (.func 105) #[] #[]] w fun e w'=>e=.returned (.tuple #[])/\∃ ts,ts.Perm rs/\Asc ts/\OwnR w' B v ts/\Below B w w':=by
 rcases C7 rs.length with h0|h0
 ·have hr:rs=[]:=Cd h0;subst hr;obtain⟨A,c,rfl⟩:=hO.form;have:=AnyF.slices_SortFunc_none Tryz.sortR A c (.func (.func 105) #[] #[]) w;change Calls tP 104 _ _ _ at this;exact this.mono fun e w' ⟨he,hw⟩=>⟨he,[],List.Perm.refl _,by intro i j x y _ h;simp at h,by rw[hw];exact hO,by rw[hw];exact By _ _⟩
 ·obtain⟨g,c,rfl,f,b,d⟩:=hO.formG h0;have eg:∀ args w,(callFunc 105 args).run tP w=.ok (.enter 105 args) w:=enters_of func105 (by kernel_rfl) rfl;have a:=AnyQ.slices_SortFunc Tryz.sortR 2 isAgg83 sizeOf83 zCg (fun _=>rfl) (fun x v hv=>by simp[zCg]at hv;rcases hv with rfl|rfl<;>rfl) cfR swoLo 105 #[] g 0 c rs.toArray w eg (fun _ _ _ _ x y=>zPu x y _) (zHk hO rfl) b (by simp;omega);change Calls tP 104 _ _ _ at a;rw[Dg]at a;refine a.mono fun e w' ⟨he,d',m,os,hp,hs,hw⟩=>⟨he,d'.toList,?_,?_,?_,?_⟩
  ·have h3:=hp.2.2;have e1:=hp.1;simp only[Dg]at e1;rw[<-e1,Array.extract_size]at h3;have:(rs.toArray.extract 0 d'.size).toList=rs:=by
    rw[e1];simp
   rwa [this]at h3
  ·intro i j x y hij hx hy;have e1:=hp.1;simp only[Dg]at e1;have hj:=(Bx.1 hy).1;have hi:=(Bx.1 hx).1;simp only[Array.length_toList]at hi hj;have h4:=hs i j (Bq _) hij (by omega);rw[ltLo]at h4;rw[Ej]at hx hy;rw[D3 d' i hi,D3 d' j hj]at h4;rw[Fw hi]at hx;rw[Fw hj]at hy;injection hx with hx;injection hy with hy;rw[hx,hy]at h4;simpa using h4
  ·have e1:=hp.1;simp only[Dg]at e1;rw[hw];exact (zFn hO rfl e1).1
  ·have e1:=hp.1;simp only[Dg]at e1;rw[hw];exact yR.grown (zFn hO rfl e1).2 hB (fun k hk=>by injection hk with hk;omega)
end Go.Proofs.YteedihhdcbepmaaGreat.Iv
namespace Go.Proofs.YteedihhdcbepmaaGreat.Iv
open Go.RowKit
theorem zMr {a b:List Rg}(h:a.Perm b) (n:Int):hasI a n↔hasI b n:=by
 unfold hasI;constructor
 ·rintro⟨r,hr,h1⟩;exact⟨r,h.mem_iff.1 hr,h1⟩
 ·rintro⟨r,hr,h1⟩;exact⟨r,h.mem_iff.2 hr,h1⟩
theorem zJe (l:List Rg) (n:Int):hasI (l.filter neB) n↔hasI l n:=by
 unfold hasI;constructor
 ·rintro⟨r,hr,h1⟩;exact⟨r,(Dd.1 hr).1,h1⟩
 ·rintro⟨r,hr,h1⟩;refine⟨r,Dd.2 ⟨hr,?_⟩,h1⟩;unfold inR at h1;simp[neB,zBa];omega
theorem zDr {l:List Rg}{k:Nat}{r:Rg}(h:l[k]?=some r) (n:Int):hasI (l.take (k+1)) n↔hasI (l.take k) n\/inR r n:=by
 rw[Ct,h];exact zEd _ _ _
structure zBk (ts M:List Rg) (k:Nat):Prop where
 nf:Nf M
 mem:∀ n,hasI M n↔hasI (ts.take k) n
 low:∀ (x r:Rg) (j:Nat),x∈M->k<=j->ts[j]?=some r->x.1<=r.1
 fit:Fit M
 len:M.length<=k
theorem zBk.start (ts:List Rg):zBk ts [] 0:=⟨zRm,fun n=>by simp[hasI],by simp,by simp[Fit],Bb _⟩
theorem zBk.add {ts M:List Rg}{k:Nat}{r:Rg}(h:zBk ts M k) (hr:ts[k]?=some r) (hf:Fit1 r) (ha:Asc ts) (hne:r.1<=r.2) (hg:∀ x∈M,x.2+1<r.1):zBk ts (M++[r]) (k+1):=
 ⟨zMd h.nf hne hg,fun n=>by rw[zEd,zDr hr,h.mem],fun x y j hx hj hy=>by
  rcases Cy.1 hx with hx|hx
  ·exact h.low x y j hx (by omega) hy
  ·rw[Cq.1 hx];exact ha k j r y (by omega) hr hy,fun x hx=>by
  rcases Cy.1 hx with hx|hx
  ·exact h.fit x hx
  ·rw[Cq.1 hx];exact hf,by have:=h.len;simp;omega⟩
theorem zBk.first {ts:List Rg}{k:Nat}{r:Rg}(h:zBk ts [] k) (hr:ts[k]?=some r) (hf:Fit1 r) (ha:Asc ts) (hne:r.1<=r.2):zBk ts [r] (k+1):=h.add hr hf ha hne (by simp)
theorem zBk.gap {ts M:List Rg}{k:Nat}{x r:Rg}(h:zBk ts (M++[x]) k) (hr:ts[k]?=some r) (hf:Fit1 r) (ha:Asc ts) (hne:r.1<=r.2) (hg:x.2+1<r.1):zBk ts (M++[x]++[r]) (k+1):=by
 refine h.add hr hf ha hne ?_;obtain⟨a,b,c⟩:=zFo h.nf;intro y hy;rcases Cy.1 hy with hy|hy
 ·have:=c y hy;omega
 ·rw[Cq.1 hy];exact hg
theorem zBk.merge {ts M:List Rg}{k:Nat}{x r:Rg}(h:zBk ts (M++[x]) k) (hr:ts[k]?=some r) (hf:Fit1 r) (hne:r.1<=r.2) (hg:¬ x.2+1<r.1):zBk ts (M++[(x.1,max x.2 r.2)]) (k+1):=by
 have hl:=h.low x r k (by simp) lR hr;obtain⟨h1,h2⟩:=zOe h.nf hl (by omega) hne;refine⟨h1,fun n=>by rw[h2,zDr hr,h.mem],?_,?_,by have:=h.len;simp at this ⊢;omega⟩
 ·intro y z j hy hj hz;rcases Cy.1 hy with hy|hy
  ·exact h.low y z j (List.mem_append_left _ hy) (by omega) hz
  ·rw[Cq.1 hy];exact h.low x z j (by simp) (by omega) hz
 ·intro y hy;rcases Cy.1 hy with hy|hy
  ·exact h.fit y (List.mem_append_left _ hy)
  ·rw[Cq.1 hy];have hx:=h.fit x (by simp);unfold Fit1 at hx hf ⊢;simp only;omega
theorem zIi {wr wq w':World}{g i H:Nat}{a b c d:Value}(hH:H=wr.heap.size) (hg:g<wr.heap.size) (hb:bW wq w') (h:wq.cell? (aD H 0)=some a/\wq.cell? (aD H 1)=some b/\wq.cell? (aD g i)=some c/\wq.cell? (aD g (i+1))=some d/\H<wq.heap.size/\bW wr wq) :
  w'.cell? (aD H 0)=some a/\w'.cell? (aD H 1)=some b/\w'.cell? (aD g i)=some c/\w'.cell? (aD g (i+1))=some d/\H<w'.heap.size/\bW wr w':=
 have hs:=hb.size;have hz:=h.2.2.2.2.2.size;have hl:=h.2.2.2.2.1
 ⟨(hb.cell (p:=(aD H 0)) hl).trans h.1,(hb.cell (p:=(aD H 1)) hl).trans h.2.1,(hb.cell (p:=(aD g i)) (by show g<_;omega)).trans h.2.2.1,(hb.cell (p:=(aD g (i+1))) (by show g<_;omega)).trans h.2.2.2.1,by omega,h.2.2.2.2.2.trans (hb.mono (by omega))⟩
theorem zKl (l:List Rg):l=[]\/∃ (m:List Rg) (x:Rg),l=m++[x]:=by
 rcases List.eq_nil_or_concat l with h|⟨m,x,h⟩
 ·exact .inl h
 ·exact .inr ⟨m,x,by rw[h,List.concat_eq_append]⟩
theorem zI9 (M:List Rg) (x:Rg) (nm:Nat) (h:nm=(M++[x]).length):(M++[x])[nm-1]?=some x:=by
 have:nm-1=M.length:=by simp at h;omega
 rw[this];simp
theorem zN0 (M:List Rg) (x y:Rg) (nm:Nat) (h:nm=(M++[x]).length):(M++[x]).set (nm-1) y=M++[y]:=by
 have:nm-1=M.length:=by simp at h;omega
 rw[this];simp
theorem zOb (A:Option Addr) (n cap:Nat) (rs:List Rg) (w:World) (hR:RngS w w.heap.size A n rs) (hn:n<=1000000) :
  Calls tP 59 #[vS A n cap] w fun e w'=>∃ m,m=nfOf (hasI rs)/\Nf m/\(∀ x,hasI m x↔hasI rs x)/\m.length<=n/\RetR m w e w':=by
 have o:=hR.2.1;have l:=hR.1;have H:=zNc A n cap rs w _ hR (by omega);have HF:=xI o;have HL:=xI l;clear o l hR;go_enter func59,ntmps59;go_wp2_with (go_at_call 102;refine H.mono ?_;rintro e w1 ⟨v1,rfl,ho1,hb1⟩;refine Hid.out ?_);refine xI ?_;clear H;have K:=hb1.size;have hd:=zGg v1 rs w1 w.heap.size ho1 HF.out K (by have:=HL.out;omega);have ad:=xI ho1;clear ho1;go_wp2_with (go_at_call 101;refine hd.mono ?_;rintro e w2 ⟨v2,rfl,ho2,hb2⟩;refine Hid.out ?_);refine xI ?_;clear hd;have Z:=hb2.size;have P:(rs.filter neB).length<=n:=by rw[HL.out];exact E2 _ _
 have G:=zNy v2 (rs.filter neB) w2 w.heap.size ho2 (by omega) (by omega);have ab:=xI ho2;clear ho2;go_wp2_with (go_at_call 104;refine G.mono ?_;rintro e w3 ⟨rfl,ts,hperm,hasc,ho3,hb3⟩;refine Hid.out ?_);refine xI ?_;obtain⟨A2,c2,rfl⟩:=ho3.form;have d:Fit ts:=fun r hr=>HF.out r (Dd.1 (hperm.mem_iff.1 hr)).1;have j:∀ r∈ts,r.1<=r.2:=fun r hr=>by
  have:=(Dd.1 (hperm.mem_iff.1 hr)).2;simp[neB,zBa]at this;omega
 have hS:=ho3.rng d;have t:bW w w3:=(hb1.trans hb2).trans hb3;have c:∀ x,hasI ts x↔hasI rs x:=fun x=>(zMr hperm x).trans (zJe rs x);have O:ts.length<=n:=by rw[hperm.length_eq];exact P
 obtain⟨n2,B⟩:∃ n2,n2=ts.length:=⟨_,rfl⟩;rw[<-B]at hS O ⊢;have HS:=xI hS;have HA:=xI hasc;have T:=xI j;have F:=xI c;have U:=xI B;have W:=xI t;have Y:=hb3.size;clear hS hasc j c B t ho3 hperm G hb3 hb2 hb1 d;go_wp2
 go_loopw [4,6,7,15] (fun vm _ _ i wr=>∃ (k:Nat) (M:List Rg),i=vI i6 k/\k<=n2/\zBk ts M k/\OwnR wr w3.heap.size vm M/\bW w3 wr) (fun _ _ _ i _=>n2-(intOf i).toNat)
 case atStart=>exact⟨0,[],rfl,by omega,zBk.start _,OwnR.nil _ _,By _ _⟩
 case round=>
  obtain⟨k,M,rfl,hk,hI,hM,f⟩:=hrel;have HI:=xI hI;have HM:=xI hM;have z:=f.size;have R:=hI.len;clear hI hM;by_cases hkn:k<n2
  ·obtain⟨b,X,r1,r2,rfl,aa,hx,hf,c1,c2⟩:=(HS.out.below f).at hkn;have HX:=xI hx;have y:=xI hf;have E:=xI (T.out _ (Bi hx));clear hx hf;have D:bW wr (wr.alloc (.cells #[vI i6 r1,vI i6 r2] 83)):=yR.alloc lR _;rcases zKl M with rfl|⟨M',x,rfl⟩
   ·obtain⟨A3,c3,rfl⟩:=HM.out.form;have HQ:Hid (∀ q,OwnR ((wr.alloc (.cells #[vI i6 r1,vI i6 r2] 83)).drewN q) w3.heap.size (vS A3 0 c3) []):=xI (fun q=>(HM.out.old D).drewN q);have HB:Hid (∀ q,bW w3 ((wr.alloc (.cells #[vI i6 r1,vI i6 r2] 83)).drewN q)):=xI (fun q=>zA6 (f.trans (D.mono z)) q);go_wp2_with fail
    go_quiet (fail)
    go_wp2_with (at_builtin;(refine zHu rfl _ _ rfl w3.heap.size _ _ rfl (HQ.out _) [(r1,r2)] 1 1 rfl _ rfl _ (by simp) rfl (by simp) (by simp;omega) ?_);intro v' w4 hown' s;refine Hid.out ?_);refine xI ?_;go_wp2
    go_roundw
    case rel=>exact⟨k+1,[(r1,r2)],by go_num,by omega,HI.out.first HX.out y.out HA.out E.out,hown',(HB.out _).trans s⟩
    case measure=>simp[intOf];omega
   ·obtain⟨x1,x2⟩:=x;obtain⟨g,c3,rfl,S,v,Q⟩:=HM.out.formG (by simp);obtain⟨nm,u⟩:∃ nm,nm=(M'++[(x1,x2)]).length:=⟨_,rfl⟩;have N:1<=nm:=by rw[u];simp
    have L:nm<=k:=by omega
    have a:=xI u;have V:=xI (HI.out.fit (x1,x2) (by simp));rw[<-u]at HM Q ⊢;clear u R;have d1:=HM.out.lo a.out.symm (zI9 _ _ _ a.out);have d2:=HM.out.hi a.out.symm (zI9 _ _ _ a.out);simp only at d1 d2;have i1:IntKind.i64.wrap ((nm:Int)-1)=(nm:Int)-1:=Br _ (by omega);have i2:(1:Int)<=(nm:Int):=by omega
    have i3:((nm:Int)-1).toNat=nm-1:=by omega
    have i4:(nm:Int)-1<(nm:Int):=by omega
    have q2:decide (0<nm)=true:=by simp;omega
    have h:Hid (∀ q,((wr.alloc (.cells #[vI i6 r1,vI i6 r2] 83)).drewN q).cell? (aH wr 0)=some (vI i6 r1)/\((wr.alloc (.cells #[vI i6 r1,vI i6 r2] 83)).drewN q).cell? (aH wr 1)=some (vI i6 r2)/\((wr.alloc (.cells #[vI i6 r1,vI i6 r2] 83)).drewN q).cell? (aD g ((nm-1)*2))=some (vI i6 x1)/\((wr.alloc (.cells #[vI i6 r1,vI i6 r2] 83)).drewN q).cell? (aD g ((nm-1)*2+1))=some (vI i6 x2)/\wr.heap.size<((wr.alloc (.cells #[vI i6 r1,vI i6 r2] 83)).drewN q).heap.size/\bW wr ((wr.alloc (.cells #[vI i6 r1,vI i6 r2] 83)).drewN q)):=xI (fun q=>by
     have C:=zA6 D q;refine⟨by simp,by simp,(C.cell (p:=(aD g ((nm-1)*2))) v).trans d1,(C.cell (p:=(aD g ((nm-1)*2+1))) v).trans d2,by simp,C⟩)
    have hm:=fun w=>zMp x1 x2 r1 r2 w V.out y.out;cases hgp:gapB (x1,x2) (r1,r2)
    ·rw[hgp]at hm;have HG:=xI hgp;clear hgp;go_wp2_with fail
     go_region_held3 (fun wq=>wq.cell? (aH wr 0)=some (vI i6 r1)/\wq.cell? (aH wr 1)=some (vI i6 r2)/\wq.cell? (aD g ((nm-1)*2))=some (vI i6 x1)/\wq.cell? (aD g ((nm-1)*2+1))=some (vI i6 x2)/\wr.heap.size<wq.heap.size/\bW wr wq) (first|exact h.out _|exact h.out 0|exact h.out 1|exact zIi rfl v (by assumption) (by assumption)|go_keep) (first|(go_at_call 107;refine (hm _).mono ?_;rintro e w' ⟨rfl,hb⟩))
     rename_i hSq;obtain⟨s1,s2,s3,s4,s5,s6⟩:=hSq;have f1:=(HM.out.old s6).free a.out.symm ((nm-1)*2+1);have S6:=xI s6;clear s6;go_wp2_with fail
     go_still_tail 14,(by kernel_rfl)
     go_wp2
     go_roundw
     case rel=>
      have I:=(HM.out.old S6.out).setHi a.out.symm (nm-1) (x1,x2) (max x2 r2) (zI9 _ _ _ a.out);rw[zN0 _ _ _ _ a.out]at I;have s:bW w3 w':=f.trans (S6.out.mono z);refine⟨k+1,M'++[(x1,max x2 r2)],by go_num,by omega,HI.out.merge HX.out y.out E.out (by have:=HG.out;unfold gapB at this;simpa using this),I.drewN 1,(s.setCell (p:=(aD g ((nm-1)*2+1))) S _).drew⟩
     case measure=>simp[intOf];omega
    ·rw[hgp]at hm;have HG:=xI hgp;clear hgp;go_wp2_with fail
     go_region_held3 (fun wq=>wq.cell? (aH wr 0)=some (vI i6 r1)/\wq.cell? (aH wr 1)=some (vI i6 r2)/\wq.cell? (aD g ((nm-1)*2))=some (vI i6 x1)/\wq.cell? (aD g ((nm-1)*2+1))=some (vI i6 x2)/\wr.heap.size<wq.heap.size/\bW wr wq) (first|exact h.out _|exact h.out 0|exact h.out 1|exact zIi rfl v (by assumption) (by assumption)|go_keep) (first|(go_at_call 107;refine (hm _).mono ?_;rintro e w' ⟨rfl,hb⟩))
     rename_i hSq;obtain⟨s1,s2,s3,s4,s5,s6⟩:=hSq;have J:w3.heap.size<=w'.heap.size:=by have:=s6.size;omega
     have S6:=xI s6;clear s6;go_wp2_with (at_builtin;(refine zHu rfl _ _ rfl w3.heap.size _ _ rfl (HM.out.old S6.out) [(r1,r2)] 1 1 rfl _ rfl _ rfl rfl (by have:=a.out;omega) J ?_);intro v' w4 hown' s;refine Hid.out ?_);refine xI ?_;go_wp2
     go_roundw
     case rel=>exact⟨k+1,M'++[(x1,x2)]++[(r1,r2)],by go_num,by omega,HI.out.gap HX.out y.out HA.out E.out (by have:=HG.out;unfold gapB at this;simpa using this),hown',(f.trans (S6.out.mono z)).trans s⟩
     case measure=>simp[intOf];omega
  ·obtain rfl:k=n2:=by omega
   obtain⟨A3,c3,rfl⟩:=HM.out.form;have HT:Hid (∀ x,hasI M x↔hasI rs x):=xI (fun x=>by rw[HI.out.mem,Cz (by have:=U.out;omega)];exact F.out x);go_wp2;go_ret;exact⟨M,zQs HI.out.nf HT.out,HI.out.nf,HT.out,by omega,_,_,_,rfl,HM.out.rng HI.out.fit,W.out.trans (f.mono (by omega))⟩
end Go.Proofs.YteedihhdcbepmaaGreat.Iv
namespace Go.Proofs.YteedihhdcbepmaaGreat
open Go Go.RowKit
def elTy:ElK Ty:=⟨fun x w B cs=>TyB w B x.1 x.2 cs,fun hs h=>TyB.keep hs h,fun hs h=>TyB.sub hs h⟩
theorem zJ8 {x:Ty}{w:World}{B:Nat->Prop}{cs:List Value}(h:elTy.E x w B cs):∀ u∈cs,u.oneCell'=true:=by
 obtain⟨u,rfl,_,hr⟩:TyB w B x.1 x.2 cs:=h;obtain⟨A,c,rfl,_⟩:=hr.form;intro v hv;simp at hv;rcases hv with rfl|rfl<;>rfl
theorem namTy:Nam 65 24 (.agg #[vS none 0 0,vI i6 0]) 2 32:=⟨underlying65,by kernel_rfl,rfl,by decide,by decide⟩
abbrev OwnTy (w:World) (base:Nat) (v:Value) (l:List Ty):Prop:=OwnE elTy 24 2 w base v l
def rgT (r:Iv.Rg):Ty:=([⟨3,r.1,r.2,[],[],[],0,0⟩],0)
theorem zP4 (r:Iv.Rg):SmT 1000000 (rgT r):=⟨by simp[rgT],fun x hx=>by simp[rgT]at hx;subst hx;exact⟨by simp,by simp⟩⟩
theorem zPf {A:Option Addr}{n cap:Nat}{rs:List Iv.Rg}(w:World) (hR:Iv.RngS w w.heap.size A n rs) (hn:n<=50) :
  Calls tP 18 #[vS A n cap] w fun e w'=>∃ m,Iv.Nf m/\(∀ x,Iv.hasI m x↔Iv.hasI rs x)/\TyOut 0 w (conT 16 noneT (m.map rgT)) e w':=by
 obtain⟨W,hW,hb,kR,k⟩:=aW w (oE none 0 0 0)
 have hc:=Iv.zOb A n cap rs W (hR.kept hb (by omega)) (by omega);have HP:=xI (aN hn (aN hb (aN kR k)));clear hn hb kR hR k;go_enter func18,ntmps18;go_wp2_with fail;rw[<-hW];clear hW;refine hc.mono ?_;clear hc;rintro e w1 ⟨m,-,hnf,hmem,hml,A1,n1,c1,rfl,hR1,hb1⟩;have HM:=xI (aN hnf hmem);clear hnf hmem;have z:=hR1.1;have c:=hR1.2.1;have HN:=xI (aN hR1 (aN hb1 (aN c z)));have G:=hb1.size;have H:n1<=50:=by have:=HP.out.1;omega
 clear hR1 hb1 c z hml;go_wp2_with fail
 go_loopw [3,9] (fun v i wr=>∃ (j cv:Nat) (Av:Option Addr),i=vI i6 j/\v=vS Av j cv/\j<=n1/\OwnTy wr w1.heap.size v ((m.map rgT).take j)/\bW w1 wr) (fun _ i _=>((n1:Int)-intOf i).toNat)
 case atStart=>exact⟨0,0,none,rfl,rfl,Bq _,OwnE.nil _ _ _ _ _,By _ _⟩
 case round=>
  obtain⟨j,cv,Av,rfl,rfl,hj,hO,p⟩:=hrel;have F:=p.size;have HO:=xI (aN hO p);clear hO p;by_cases hlt:j<n1
  ·obtain⟨b,J,r1,r2,rfl,M,hx,hf,O,N⟩:=(HN.out.1.below HO.out.2).at hlt;have mp:(j:Int)<(n1:Int):=by omega
   have m0:(0:Int)<=(j:Int):=by omega
   have L:IntKind.i64.wrap ((j:Int)+1)=(j:Int)+1:=Br _ (by omega);obtain⟨X,hX,B,_,f⟩:=aW wr (.cells #[vI i6 r1,vI i6 r2] 83 (0,0))
   have hc:Calls tP 60 #[.agg #[vI i6 3,vI i6 r1,vI i6 r2,vT ⟨#[]⟩,vS none 0 0,vS none 0 0,vI i6 0,vI i6 0]] X (TyOut 0 X (rgT (r1,r2))):=
    zJ3 3 r1 r2 [] [] [] 0 0 none none 0 0 0 X (by omega) (leafT 3 r1 r2 [] (by show i64B 3;decide) (zB4 hf.1 hf.2.1) (zB4 hf.2.2.1 hf.2.2.2) (by unfold maxLen;decide))
   have d:(m.map rgT).take (j+1)=(m.map rgT).take j++[rgT (r1,r2)]:=by rw[Ct,Cg,hx];rfl
   have D:=xI d;have HX:=xI (aN B f);clear B f d hx hf;go_wp2_with fail;rw[<-hX];clear hX;refine hc.mono ?_;clear hc;rintro e w5 ⟨⟨Ao,co,rfl,hT5⟩,hb5⟩;have K:=hb5.size;have f:=HX.out.2;have a:bW wr w5:=HX.out.1.trans (hb5.mono (by omega));generalize hlj:(m.map rgT).take j=lj at HO D;have I:lj.length=j:=by rw[<-hlj,Bh,Bj];have:=HN.out.2.2.2;omega
   have C:OwnTy w5 w1.heap.size (vS Av j cv) lj:=HO.out.1.kept (by omega) fun b _ hl=>a.block b hl;have y:∀ g,(vS Av j cv).ownBlock=some g->g<wr.heap.size:=fun g hg=>(OwnE.ltB HO.out.1 hg).2;have s:elTy.E (rgT (r1,r2)) w5 (fun b=>w1.heap.size<=b/\b<w5.heap.size/\some b≠(vS Av j cv).ownBlock) [vS Ao 1 co,vI i6 0]:=TyB.sub (fun b hb=>by
    rcases hb with h|h
    ·omega
    ·refine⟨by omega,h.2,fun e=>?_⟩;have:=y b e.symm;omega) hT5
   have HG:=xI (aN (HO.out.2.trans (a.mono F)) I);clear hb5 a y hT5;go_wp2_with (at_builtin;refine zG4 elTy namTy rfl _ _ rfl w1.heap.size (vS Av j cv) lj rfl C (rgT (r1,r2)) [vS Ao 1 co,vI i6 0] 1 _ rfl rfl _ rfl s rfl (zJ8 s) (by omega) (by omega) ?_;intro g cap w6 ho6 hb6 _ _;refine Hid.out ?_);refine xI ?_;have HR:=xI (aN ho6 (HG.out.1.trans hb6));clear ho6 hb6 C s;go_wp2_with fail
   go_roundw
   case rel=>exact⟨j+1,cap,some (aD g 0),by go_num,rfl,by omega,by rw[D.out];have h:=HR.out.1;rw[HG.out.2]at h;exact h,HR.out.2⟩
   case measure=>simp[intOf];omega
  ·obtain rfl:j=n1:=by omega
   have mp:¬ ((j:Nat):Int)<(j:Int):=by omega
   have o:(m.map rgT).length=j:=by rw[Bj];exact HN.out.2.2.2.symm
   have hO:=HO.out.1;rw[Cz (by omega)]at hO;have u:RowB wr (fun b=>b<wr.heap.size) 2 (vS Av (m.map rgT).length cv) (m.map rgT).length (tyR wr (fun b=>b<wr.heap.size) (m.map rgT)):=by
    have h:=OwnE.rowB hO (by decide) (by unfold maxLen;omega) (Bq _);rw[o]at h ⊢;exact RowB.sub h (fun _ hb=>hb.2) fun _ _ ⟨t,ht,hT⟩=>⟨t,ht,TyB.sub (fun _ hb=>hb.2) hT⟩
   have hc:=zLv (l:=m.map rgT) wr lR u (fun t ht=>by
    obtain⟨r,_,rfl⟩:=Ca.1 ht;exact zP4 r) (by omega)
   rw[o]at hc;have HQ:=xI (HN.out.2.1.trans (HO.out.2.mono G));clear hO u o;go_wp2_with fail;refine hc.mono ?_;clear hc;rintro e w2 ⟨⟨A2,c2,rfl,hT2⟩,hb2⟩;have q:=HQ.out.trans (hb2.mono (by have:=HQ.out.size;omega));have k:=HP.out.2.2.2;have kz:=(q.block w.heap.size (by omega)).trans HP.out.2.2.1;have f0:=Bz kz 0;have f1:=Bz kz 1;have c0:=cH kz 0;have c1:=cH kz 1;have HC:=xI (aN hT2 (aN hb2 q));clear hT2 hb2 q;go_wp2;refine ret2s kz rfl rfl rfl fun V hz hbb hl=>⟨m,HM.out.1,HM.out.2,⟨_,_,rfl,?_⟩,(HP.out.2.1.trans (HC.out.2.2.mono (by omega))).trans (hl _ lR)⟩;exact TyOut.put HC.out.1 (Bq _) (by have:=HQ.out.size;omega) (by have:=HQ.out.size;omega) hz hbb
def lst0:List Tn:=[⟨16,0,0,[],[1,2],[],0,0⟩,⟨9,0,0,[],[],[],0,0⟩,⟨12,0,0,[],[],[],0,0⟩]
def lstT (t:Ty):Ty:=((gr (fun _=>none) (accT t) lst0).1.set 2 ⟨12,0,0,[],[(gr (fun _=>none) (accT t) lst0).2,0],[],0,0⟩,0)
theorem zQw:∀ x∈lst0,kidOk x:=fun x hx=>by
 simp[lst0]at hx;rcases hx with rfl|rfl|rfl<;>exact⟨by decide,by decide⟩
theorem zKy (ns:List Tn) (root:Int) (A:Option Addr) (c:Nat) (w:World) (hsm:SmT 1000000 (ns,root)) (hT:TyP w w.heap.size ns root [vS A ns.length c,vI i6 root]) :
  Calls tP 23 #[.agg #[vS A ns.length c,vI i6 root]] w (TyOut 0 w (lstT (ns,root))):=by
 obtain⟨Wa,d⟩:∃ Wa,Wa=((((w.alloc (oE A ns.length c root)).alloc (oE none 0 0 0)).alloc (.cells #[vI i6 1,vI i6 2] 3 (0,0))).alloc (.cells #[vI i6 16,vI i6 0,vI i6 0,vT ⟨#[]⟩,vS (some (aF w 0)) 2 2,vS none 0 0,vI i6 0,vI i6 0,vI i6 9,vI i6 0,vI i6 0,vT ⟨#[]⟩,vS none 0 0,vS none 0 0,vI i6 0,vI i6 0,vI i6 12,vI i6 0,vI i6 0,vT ⟨#[]⟩,vS none 0 0,vS none 0 0,vI i6 0,vI i6 0] 40 (0,0))).alloc (.cells #[vS (some (aD (w.heap.size+1+1+1) 0)) 3 3] 101 (0,0)):=⟨_,rfl⟩;have C:bW w Wa:=by rw[d];exact ((((yR.alloc lR _).alloc (by simp) _).alloc (by simp<;>omega) _).alloc (by simp<;>omega) _).alloc (by simp<;>omega) _
 have kE:Wa.heap[w.heap.size]?=some (oE A ns.length c root):=by rw[d,Bt _ _ _ (by simp<;>omega),Bt _ _ _ (by simp<;>omega),Bt _ _ _ (by simp<;>omega),Bt _ _ _ (by simp)];exact Bk w _
 have kR:Wa.heap[w.heap.size+1]?=some (oE none 0 0 0):=by rw[d,Bt _ _ _ (by simp<;>omega),Bt _ _ _ (by simp<;>omega),Bt _ _ _ (by simp)];exact zAf _ (by simp)
 have kK:Wa.heap[w.heap.size+1+1]?=some (.cells #[vI i6 1,vI i6 2] 3 (0,0)):=by rw[d,Bt _ _ _ (by simp<;>omega),Bt _ _ _ (by simp)];exact zAf _ (by simp)
 have kN:Wa.heap[w.heap.size+1+1+1]?=some (.cells #[vI i6 16,vI i6 0,vI i6 0,vT ⟨#[]⟩,vS (some (aF w 0)) 2 2,vS none 0 0,vI i6 0,vI i6 0,vI i6 9,vI i6 0,vI i6 0,vT ⟨#[]⟩,vS none 0 0,vS none 0 0,vI i6 0,vI i6 0,vI i6 12,vI i6 0,vI i6 0,vT ⟨#[]⟩,vS none 0 0,vS none 0 0,vI i6 0,vI i6 0] 40 (0,0)):=by rw[d,Bt _ _ _ (by simp)];exact zAf _ (by simp)
 have kB:Wa.heap[w.heap.size+1+1+1+1]?=some (.cells #[vS (some (aD (w.heap.size+1+1+1) 0)) 3 3] 101 (0,0)):=by rw[d];exact zAf _ (by simp)
 have D:Wa.heap.size=w.heap.size+5:=by rw[d];simp
 have k:OwnQ Wa (w.heap.size+1+1+1) (vS (some (aD (w.heap.size+1+1+1) 0)) 3 3) [[vI i6 16,vI i6 0,vI i6 0,vT ⟨#[]⟩,vS (some (aF w 0)) 2 2,vS none 0 0,vI i6 0,vI i6 0],[vI i6 9,vI i6 0,vI i6 0,vT ⟨#[]⟩,vS none 0 0,vS none 0 0,vI i6 0,vI i6 0],[vI i6 12,vI i6 0,vI i6 0,vT ⟨#[]⟩,vS none 0 0,vS none 0 0,vI i6 0,vI i6 0]]:=by
  refine⟨[vI i6 16,vI i6 0,vI i6 0,vT ⟨#[]⟩,vS (some (aF w 0)) 2 2,vS none 0 0,vI i6 0,vI i6 0,vI i6 9,vI i6 0,vI i6 0,vT ⟨#[]⟩,vS none 0 0,vS none 0 0,vI i6 0,vI i6 0,vI i6 12,vI i6 0,vI i6 0,vT ⟨#[]⟩,vS none 0 0,vS none 0 0,vI i6 0,vI i6 0],⟨rfl,.inr ⟨w.heap.size+1+1+1,3,_,rfl,Bb _,kN,Bb _,by unfold maxLen;decide,rfl,rfl⟩⟩,fun j x hj=>?_⟩;rcases j with _|_|_|j
  all_goals simp at hj
  all_goals subst hj
  all_goals exact⟨rfl,rfl,fun u hu=>by simp at hu;rcases hu with rfl|rfl|rfl|rfl|rfl|rfl|rfl|rfl<;>rfl⟩
 have J:RowB Wa (GD 0 (w.heap.size+1+1) (w.heap.size+1+1+1+1) (vS (some (aD (w.heap.size+1+1+1) 0)) 3 3) Wa) 1 (vS (some (aF w 0)) 2 2) 2 (kidR [1,2]):=by
  have h:JRow Wa (w.heap.size+1+1) [1,2]:=kK;refine (h.row (B:=GD 0 (w.heap.size+1+1) (w.heap.size+1+1+1+1) (vS (some (aD (w.heap.size+1+1+1) 0)) 3 3) Wa) (n:=2) rfl (fun x hx=>?_) (by unfold maxLen;decide) ⟨by omega,by omega,fun e=>by simp[Value.ownBlock]at e,by omega⟩);simp at hx;rcases hx with rfl|rfl<;>exact zB4 (by decide) (by decide)
 have G:NdsB Wa (GD 0 (w.heap.size+1+1) (w.heap.size+1+1+1+1) (vS (some (aD (w.heap.size+1+1+1) 0)) 3 3) Wa) [[vI i6 16,vI i6 0,vI i6 0,vT ⟨#[]⟩,vS (some (aF w 0)) 2 2,vS none 0 0,vI i6 0,vI i6 0],[vI i6 9,vI i6 0,vI i6 0,vT ⟨#[]⟩,vS none 0 0,vS none 0 0,vI i6 0,vI i6 0],[vI i6 12,vI i6 0,vI i6 0,vT ⟨#[]⟩,vS none 0 0,vS none 0 0,vI i6 0,vI i6 0]] lst0:=by
  refine⟨rfl,fun j cs x h1 h2=>?_⟩;unfold lst0 at h2;rcases j with _|_|_|j
  all_goals simp at h1 h2
  all_goals subst h1 h2
  ·exact⟨_,_,rfl,⟨by show i64B 16;decide,by show i64B 0;decide,by show i64B 0;decide,by simp,by show i64B 0;decide,by show i64B 0;decide⟩,J,RowB.nil ..⟩
  ·exact⟨_,_,rfl,⟨by show i64B 9;decide,by show i64B 0;decide,by show i64B 0;decide,by simp,by show i64B 0;decide,by show i64B 0;decide⟩,RowB.nil ..,RowB.nil ..⟩
  ·exact⟨_,_,rfl,⟨by show i64B 12;decide,by show i64B 0;decide,by show i64B 0;decide,by simp,by show i64B 0;decide,by show i64B 0;decide⟩,RowB.nil ..,RowB.nil ..⟩
 have hc:=zFz (ns:=ns) (root:=root) (H:=w.heap.size) (Z:=w.heap.size+1+1) (bb:=w.heap.size+1+1+1+1) (base:=w.heap.size+1+1+1) (v:=vS (some (aD (w.heap.size+1+1+1) 0)) 3 3) (css:=[[vI i6 16,vI i6 0,vI i6 0,vT ⟨#[]⟩,vS (some (aF w 0)) 2 2,vS none 0 0,vI i6 0,vI i6 0],[vI i6 9,vI i6 0,vI i6 0,vT ⟨#[]⟩,vS none 0 0,vS none 0 0,vI i6 0,vI i6 0],[vI i6 12,vI i6 0,vI i6 0,vT ⟨#[]⟩,vS none 0 0,vS none 0 0,vI i6 0,vI i6 0]]) (bs:=lst0) Wa (hT.keep (Same.of_below C fun b hb=>hb)) hsm.1 hsm.2 ⟨by omega,by omega,by omega,by omega⟩ (fun e=>by simp[Value.ownBlock]at e) (by omega) kB k G (by simp);have L:=zMs (m:=3) (f:=fun _=>none) (bs:=lst0) (zD5 (ns,root)) (zFb hsm (by decide)) (by decide) zQw;have T:=zMt (f:=fun _=>none) (bs:=lst0) (zD5 (ns,root)) (fun s p h=>by cases h);have z:=zF0 (f:=fun _=>none) (t:=accT (ns,root)) (bs:=lst0) (j:=2) (x:=⟨12,0,0,[],[],[],0,0⟩) rfl;have aw:=(zFb hsm (by decide)).1;have I:lstT (ns,root)=((gr (fun _=>none) (accT (ns,root)) lst0).1.set 2 ⟨12,0,0,[],[(gr (fun _=>none) (accT (ns,root)) lst0).2,0],[],0,0⟩,0):=rfl;generalize (gr (fun _=>none) (accT (ns,root)) lst0).1=xs at *;generalize (gr (fun _=>none) (accT (ns,root)) lst0).2=hd at *;rw[show lst0.length=3 by rfl]at T;have K:i64B hd:=zB4 (by omega) (by have:=T.2;omega);obtain⟨x0,x1⟩:=zAh kE;rw[d]at x0 x1;have HP:=xI (aN C (aN kR (aN D (aN L (aN z (aN I K))))));clear C kE kR kK kN kB D k J G L T z I K aw hsm hT;go_enter func23,ntmps23;go_wp2_with fail;rw[<-d];clear d x0 x1;refine hc.mono ?_;rintro e w5 ⟨rfl,v5,css5,hG⟩;clear hc;obtain⟨C,kR,D,L,z,I,K⟩:=HP.out;obtain⟨q1,q2,q3,q4,q5⟩:=hG;have W:=q3.1;have al:2<xs.length:=(Bx.1 z).1;obtain⟨g,cp,rfl,av,ap,au⟩:=OwnE.formG q2 (by omega);have Q:=Bw (l:=css5) (i:=2) (by omega);generalize css5[2]'(by omega)=cs at Q;obtain⟨uk,uf,ar,am,J,U⟩:=q3.2 2 cs _ Q z;obtain⟨Ak,ck,ax,_⟩:=J.form;obtain⟨Af,cf,ay,_⟩:=U.form;subst ax ay ar;have ad:=q4.low.size;have aq:g=w.heap.size+1+1+1\/Wa.heap.size<=g:=by
  rcases q5 g rfl with h|h
  ·simp[Value.ownBlock]at h;omega
  ·exact .inr h
 obtain⟨X,hX,q,kX,ae⟩:=aW w5 (.cells #[vI i6 hd,vI i6 0] 3 (0,0))
 have aa:OwnQ X (w.heap.size+1+1+1) (vS (some (aD g 0)) css5.length cp) css5:=OwnE.stay zB8 q2 fun g _ hl=>q.block g hl;have Y:NdsB X (GD 0 (w.heap.size+1+1) (w.heap.size+1+1+1+1) (vS (some (aD g 0)) css5.length cp) X) css5 xs:=(q3.keep (Same.of_below q fun b hb=>hb.1)).sub fun b hb=>⟨by have:=hb.1;omega,hb.2⟩;obtain⟨ao,_,_,o,M,_,E⟩:=aa.at8N Q;have d4:=o 4 (by decide);have f4:=M (2*8+4);simp only[D4,De]at d4;have e3:w5.cell? (aD (w.heap.size+1+1+1+1) 0)=some (vS (some (aD g 0)) css5.length cp):=cH q1 0;obtain⟨V1,y⟩:∃ V1,V1=X.setCell (aD g 20) (vS (some (aH w5 0)) 2 2):=⟨_,rfl⟩;have P:∀ b,b≠g->V1.heap[b]?=X.heap[b]?:=fun b hb=>by rw[y];exact Bp _ (aD g 20) b _ hb
 have ah:V1.heap.size=X.heap.size:=by rw[y];simp
 have a:=E 4 (vS (some (aH w5 0)) 2 2) (by decide) rfl;rw[show 2*8+4=20 by rfl,<-y]at a;rw[show 2*8+4=20 by rfl]at d4 f4;have ak:JRow V1 w5.heap.size [hd,0]:=(show JRow X w5.heap.size [hd,0]from kX).on (P _ (by omega));have aj:RowB V1 (fun b=>b<V1.heap.size/\(b<0\/w.heap.size+1+1<=b)) 1 (vS (some (aH w5 0)) 2 2) 2 (kidR [hd,0]):=ak.row (n:=2) rfl (fun x hx=>by
  simp at hx;rcases hx with rfl|rfl
  ·exact K
  ·exact zB4 (by decide) (by decide)) (by unfold maxLen;decide) ⟨by omega,.inr (by omega)⟩
 have S:Same (GD 0 (w.heap.size+1+1) (w.heap.size+1+1+1+1) (vS (some (aD g 0)) css5.length cp) X) X V1:=⟨by omega,fun b i hb _=>Bg (P b fun e=>hb.2.2.1 (by rw[e];rfl))⟩;have R:∀ b,GD 0 (w.heap.size+1+1) (w.heap.size+1+1+1+1) (vS (some (aD g 0)) css5.length cp) X b->b<V1.heap.size/\(b<0\/w.heap.size+1+1<=b):=fun b hb=>⟨by have:=hb.1;omega,by
  rcases hb.2.2.2 with h|h
  ·exact .inl h
  ·exact .inr (by omega)⟩
 have N:=(U.keep (Same.of_below q fun b hb=>hb.1) fun _ _ h=>h).sub (B':=GD 0 (w.heap.size+1+1) (w.heap.size+1+1+1+1) (vS (some (aD g 0)) css5.length cp) X) (fun b hb=>⟨by have:=hb.1;omega,hb.2⟩) fun _ _ h=>h;have ai:TnB V1 (fun b=>b<V1.heap.size/\(b<0\/w.heap.size+1+1<=b)) ⟨12,0,0,[],[hd,0],[],0,0⟩ [vI i6 12,vI i6 0,vI i6 0,vT ⟨#[]⟩,vS (some (aH w5 0)) 2 2,vS Af 0 cf,vI i6 0,vI i6 0]:=⟨_,_,rfl,⟨by show i64B 12;decide,by show i64B 0;decide,by show i64B 0;decide,by simp,by show i64B 0;decide,by show i64B 0;decide⟩,aj,(N.keep S fun _ _ h=>h).sub R fun _ _ h=>h⟩;have F:=((Y.keep S).sub R).set 2 ai;have r:=OwnE.nodes a (B':=fun b=>b<V1.heap.size/\(b<0\/w.heap.size+1+1<=b)) F (by rw[Cn];have:=L.1;unfold maxLen;omega) (fun b hb=>hb) fun b h1 h2=>⟨h2,.inr (by omega)⟩;rw[Cn,<-W]at r;have O:=(P (w.heap.size+1+1+1+1) (by omega)).trans ((q.block _ (by omega)).trans q1);have af:=zEm (some (aD g 0)) css5.length cp (w.heap.size+1+1+1+1) 0 V1 (cH O 0);have ab:=(P (w.heap.size+1) (by omega)).trans ((q.block (w.heap.size+1) (by omega)).trans ((q4.blk (w.heap.size+1) (by omega) (by omega) (by omega) (fun e=>by have e:some (w.heap.size+1+1+1)=some (w.heap.size+1):=e;injection e with e;omega)).trans kR));have ag:bW w V1:=by
  have h1:=q4.below (H:=w.heap.size) (by omega) (by omega) (fun g h=>by simp[Value.ownBlock]at h;omega) (by omega);have h2:=(C.trans h1).trans (q.mono (by omega));rw[y];exact h2.setCell (p:=(aD g 20)) (by show w.heap.size<=g;omega) _
 have HF:=xI (aN r (aN I (aN ab (aN ag (aN W (aN ad (aN D (aN ah ae))))))));have az:Hid (2<css5.length):=xI (by omega);have u9:(2:Int)<(css5.length:Int):=by have:=az.out;omega
 have e4:X.cell? (aD (w.heap.size+1+1+1+1) 0)=some (vS (some (aD g 0)) css5.length cp):=(Bu ((q.block _ (by omega)).trans q1) 0).trans rfl;rw[hX]at d4 f4 e4;rw[hX]at y;clear r I ab ag ah q1 q2 q3 q4 q5 aa Y O a ak aj F ai N S R o M E ao am J U Q W av ap au aq P q kX ae hX ad D C kR L z K al HP;go_wp2_with fail;rw[<-y];clear y d4 f4 e3 e4;refine af.mono ?_;rintro e w2 ⟨rfl,hb2⟩;clear af;have h9:=HF.out.2.2.2.2;have kz:=(hb2.block (w.heap.size+1) (by omega)).trans HF.out.2.2.1;have f0:=Bz kz 0;have f1:=Bz kz 1;have c0:=cH kz 0;have c1:=cH kz 1;have HB:=xI hb2;have H9:=xI h9;clear hb2 h9;go_wp2;have h9:=H9.out;have aA:=HB.out.size;refine ret2s kz rfl rfl rfl fun V hz hbb hl=>⟨⟨some (aD g 0),cp,?_,?_⟩,?_⟩
 ·rw[HF.out.2.1,h9.1];simp
 ·have an:TyB V1 (fun b=>b<V1.heap.size/\(b<0\/w.heap.size+1+1<=b)) (xs.set 2 ⟨12,0,0,[],[hd,0],[],0,0⟩) 0 [vS (some (aD g 0)) css5.length cp,vI i6 0]:=⟨_,rfl,by show i64B 0;decide,by rw[Cn,<-h9.1];exact HF.out.1⟩;rw[HF.out.2.1];simp only[Cn];rw[<-h9.1];refine (an.keep (w':=V) ⟨by omega,fun b i hb2 hl2=>Bg ((hbb b (by rcases hb2.2 with h|h<;>omega)).trans (HB.out.block b hl2))⟩).sub fun b hb2=>?_;rcases hb2.2 with h|h
  ·exact .inl h
  ·exact .inr ⟨by omega,by have:=hb2.1;omega⟩
 ·exact (HF.out.2.2.2.1.trans (HB.out.mono (by omega))).trans (hl _ (by omega))
theorem zJ1 {α β γ:Type}{f:α->γ}{g:β->γ}:∀ {ks:List α}{l:List β},ks.length=l.length->(∀ (i:Nat) t k,l[i]?=some t->ks[i]?=some k->f k=g t)->ks.map f=l.map g
 | [],[],_,_=>rfl
 | [],_::_,h,_=>by simp at h
 | _::_,[],h,_=>by simp at h
 | k::ks,t::l,h,he=>by
  rw[Di,Di,he 0 t k rfl rfl,zJ1 (by simpa using h) fun i t k h1 h2=>he (i+1) t k (by simpa using h1) (by simpa using h2)]
theorem zPo {kind:Int}{l:List Ty}(hl:∀ t∈l,WfT t) (hk:(kind=10/\l.length<=4)\/(kind=12/\l.length=2)\/(kind=14/\1<=l.length/\l.length<=5)\/(kind=16/\1<=l.length)\/(kind=17/\1<=l.length)\/(kind=18/\l.length=1)) :
  WfT (compT kind l)/\∃ ks:List Int,ks.length=l.length/\(∀ v,ks.map (fun k=>memB (compT kind l).1 v k.toNat)=l.map (memT v))/\∀ v,memT v (compT kind l)=memS (memB (compT kind l).1) ⟨kind,0,0,[],ks,[],0,0⟩ v:=by
 obtain⟨h1,ks,h2,h3,h4⟩:=zPp hl hk;refine⟨h1,ks,h2,fun v=>zJ1 h2 fun i t k ht hk=>?_,h4⟩;rw[h3 i t k ht hk v,zFr (hl t (Bi ht))]
end Go.Proofs.YteedihhdcbepmaaGreat
