/- What slices.SortFunc returns at a slice of .. -/
import Derived.Test.YteedihhdcbepmaaGreatTsZ
import Derived.Test.YteedihhdcbepmaaGreatTs17
import Derived.Shelf.SlSortCmp.NoneTotal
import Derived.StillTailTactics
import Derived.Test.YteedihhdcbepmaaGreatTsShelfS
set_option maxRecDepth 100000
set_option maxHeartbeats 12800000
set_option linter.all false
open Go.Value renaming slice→vS,int→vI,string→vT
open Go.IntKind renaming i64→i6
open Go.Proofs.Tryz
open Go.Proofs.Tryz renaming prog→tP
namespace Go.Proofs.YteedihhdcbepmaaGreat.Iv
open Go.RowKit Go.Sort
theorem zI5 (d:Array Rg):(flatK zCl 2 d).toList=flatR d.toList:=by
 apply Dq;intro j;by_cases hj:j<d.size*2
 ·have hx:d.toList[j / 2]?=some d[j / 2]!:=by
   rw[Db d (j / 2) (by omega),Ei,Fr (by omega)]
  have h1:=zC2 _ _ _ hx;have h2:=zDp _ _ _ hx;have e:(flatK zCl 2 d).toList[j]?=some (zCl d[j / 2]!)[j % 2]!:=by
   rw[Ei,Fr (by simpa using hj)];congr 1;have:=get_flatK zCl 2 d j hj
   rwa [Db _ j (by simpa using hj)]at this
  rw[e];rcases Nat.mod_two_eq_zero_or_one j with q|q
  ·rw[show j / 2*2=j by omega]at h1;rw[h1,q];rfl
  ·rw[show j / 2*2+1=j by omega]at h2;rw[h2,q];rfl
 ·rw[Ce (by simp;omega),Ce (by rw[zAm];simp;omega)]
theorem zKt (d:Array Rg):flatK zCl 2 d=(flatR d.toList).toArray:=by rw[<-zI5]
theorem zH0 {w:World}{B g n cap:Nat}{rs:List Rg}(h:OwnR w B (vS (some (aD g 0)) n cap) rs) (hn:rs.length=n):HoldsK zCl 2 w g 0 rs.toArray:=by
 subst hn;unfold HoldsK;rw[zKt];intro j hj;have a:j<rs.length*2:=by
  rw[Dh,zAm]at hj;exact hj
 refine⟨?_,by rw[Dx];exact World.ownsRow.frozenAt h j⟩;rw[Dx,World.ownsRow.cellAt h j a];have hl:j<(flatR rs).length:=by rw[zAm];exact a
 rw[By hl];simp[hl]
theorem zFx {w:World}{B g n m cap:Nat}{rs:List Rg}{d:Array Rg}{os:Array Obj}(h:OwnR w B (vS (some (aD g 0)) n cap) rs) (hn:rs.length=n) (hd:d.size=n) :
  OwnR (sortWorldK zCl 2 w g 0 m d os) B (vS (some (aD g 0)) n cap) d.toList/\w.grownBy (sortWorldK zCl 2 w g 0 m d os) (some g):=by
 subst hn;rcases h.2 with⟨h',_⟩|⟨g',o,b,h',hb,hg,c,l,i,a⟩
 ·simp at h'
 ·simp only[Value.slice.injEq,Cq,Addr.mk.injEq,and_true,true_and]at h';obtain⟨rfl,rfl⟩:=h';have f:g<w.heap.size:=(Cv.1 hg).1;have hh:(sortWorldK zCl 2 w g 0 m d os).heap[g]?=some (.cells (putCells id 0 (flatK zCl 2 d) b) 83 (0,0)):=by
   unfold sortWorldK putRowK;rw[heap_grow_old _ _ (by simpa [putRow,mapBlock,Sort.ahead] using f)];simp[putRow,mapBlock,Sort.ahead,Array.getElem?_modify,hg,onCells]
  refine⟨⟨zAm _,.inr ⟨g,cap,_,by simp[hd],hb,hh,by simp[hd];exact c,l,by simp[putCells,i],?_⟩⟩,rfl,rfl,rfl,?_,fun k hk hne=>?_⟩
  ·rw[zKt];have hl:(flatR d.toList).length=d.toList.length*2:=zAm _;apply Dq;intro j;by_cases hj:j<d.toList.length*2
   ·rw[Co hj,Ei];have hc:j<b.size:=by simp at hj;omega
    simp[putCells,hc,show j<(flatR d.toList).length by omega]
   ·rw[List.getElem?_take_eq_none (by omega),Ce (by omega)]
  ·simp[sortWorldK,putRowK,putRow,mapBlock,Sort.ahead,grow]
  ·unfold sortWorldK putRowK;rw[heap_grow_old _ _ (by simpa [putRow,mapBlock,Sort.ahead] using hk)];have:g≠k:=fun e=>hne (by rw[e]);simp[putRow,mapBlock,Sort.ahead,Array.getElem?_modify,this]
def cfR (x y:Rg):Int:=cmpI x.1 y.1
theorem ltLo (x y:Rg):ltOf cfR x y=decide (x.1<y.1):=by
 unfold ltOf cfR cmpI;by_cases h1:x.1<y.1
 ·simp[h1]
 ·by_cases h2:y.1<x.1<;>simp[h1,h2]
theorem swoLo:SWO (ltOf cfR) where
 irrefl x:=by rw[ltLo];simp
 trans x y z h1 h2:=by rw[ltLo]at *;simp at *;omega
 ntrans x y z h1 h2:=by rw[ltLo]at *;simp at *;omega
theorem zQu (x y:Rg) (W:World):Calls tP 105 #[.agg #[vI i6 x.1,vI i6 x.2],.agg #[vI i6 y.1,vI i6 y.2]] W fun e w'=>e=.returned (vI i6 (cfR x y))/\∃ q os',w'=grow (W.drewN q) os':=by
 have a:=fun W'=>zOc x.1 y.1 W';unfold cfR;generalize cmpI x.1 y.1=r at a ⊢;go_enter func105,ntmps105;go_wp2_with (go_at_call 106;refine (a _).mono ?_;rintro e w' ⟨rfl,rfl⟩);go_ret;exact⟨rfl,0,_,by rw[alloc_eq_grow,alloc_eq_grow,grow_grow];rfl⟩
def Asc (l:List Rg):Prop:=∀ (i j:Nat) (x y:Rg),i<j->l[i]?=some x->l[j]?=some y->x.1<=y.1
theorem zO2 (v:Value) (rs:List Rg) (w:World) (B:Nat) (hO:OwnR w B v rs) (hB:B<=w.heap.size) (hn:rs.length<=1000000000) :
  Calls tP 104 #[v,.func (.func 105) #[] #[]] w fun e w'=>e=.returned (.tuple #[])/\∃ ts,ts.Perm rs/\Asc ts/\OwnR w' B v ts/\Below B w w':=by
 rcases Dz rs.length with h0|h0
 ·have hr:rs=[]:=Cf h0;subst hr;obtain⟨A,c,rfl⟩:=hO.form;have:=AnyF.slices_SortFunc_none Tryz.sortR A c (.func (.func 105) #[] #[]) w;change Calls tP 104 _ _ _ at this;exact this.mono fun e w' ⟨he,hw⟩=>⟨he,[],List.Perm.refl _,by intro i j x y _ h;simp at h,by rw[hw];exact hO,by rw[hw];exact Bw _ _⟩
 ·obtain⟨g,c,rfl,f,b,d⟩:=hO.formG h0;have eg:∀ args w,(callFunc 105 args).run tP w=.ok (.enter 105 args) w:=enters_of func105 (by kernel_rfl) rfl;have a:=AnyQ.slices_SortFunc Tryz.sortR 2 isAgg83 sizeOf83 zCl (fun _=>rfl) (fun x v hv=>by simp[zCl]at hv;rcases hv with rfl|rfl<;>rfl) cfR swoLo 105 #[] g 0 c rs.toArray w eg (fun _ _ _ _ x y=>zQu x y _) (zH0 hO rfl) b (by simp;omega);change Calls tP 104 _ _ _ at a;rw[Dh]at a;refine a.mono fun e w' ⟨he,d',m,os,hp,hs,hw⟩=>⟨he,d'.toList,?_,?_,?_,?_⟩
  ·have h3:=hp.2.2;have e1:=hp.1;simp only[Dh]at e1;rw[<-e1,Array.extract_size]at h3;have:(rs.toArray.extract 0 d'.size).toList=rs:=by
    rw[e1];simp
   rwa [this]at h3
  ·intro i j x y hij hx hy;have e1:=hp.1;simp only[Dh]at e1;have hj:=(Bx.1 hy).1;have hi:=(Bx.1 hx).1;simp only[Array.length_toList]at hi hj;have h4:=hs i j (Bt _) hij (by omega);rw[ltLo]at h4;rw[Ei]at hx hy;rw[Db d' i hi,Db d' j hj]at h4;rw[Fr hi]at hx;rw[Fr hj]at hy;injection hx with hx;injection hy with hy;rw[hx,hy]at h4;simpa using h4
  ·have e1:=hp.1;simp only[Dh]at e1;rw[hw];exact (zFx hO rfl e1).1
  ·have e1:=hp.1;simp only[Dh]at e1;rw[hw];exact yR.grown (zFx hO rfl e1).2 hB (fun k hk=>by injection hk with hk;omega)
end Go.Proofs.YteedihhdcbepmaaGreat.Iv
namespace Go.Proofs.YteedihhdcbepmaaGreat.Iv
open Go.RowKit
theorem zNp {a b:List Rg}(h:a.Perm b) (n:Int):hasI a n↔hasI b n:=by
 unfold hasI;constructor
 ·rintro⟨r,hr,h1⟩;exact⟨r,h.mem_iff.1 hr,h1⟩
 ·rintro⟨r,hr,h1⟩;exact⟨r,h.mem_iff.2 hr,h1⟩
theorem zJv (l:List Rg) (n:Int):hasI (l.filter neB) n↔hasI l n:=by
 unfold hasI;constructor
 ·rintro⟨r,hr,h1⟩;exact⟨r,(Dj.1 hr).1,h1⟩
 ·rintro⟨r,hr,h1⟩;refine⟨r,Dj.2 ⟨hr,?_⟩,h1⟩;unfold inR at h1;simp[neB,zBb];omega
theorem zDv {l:List Rg}{k:Nat}{r:Rg}(h:l[k]?=some r) (n:Int):hasI (l.take (k+1)) n↔hasI (l.take k) n\/inR r n:=by
 rw[Cr,h];exact zEk _ _ _
structure zBk (ts M:List Rg) (k:Nat):Prop where
 nf:Nf M
 mem:∀ n,hasI M n↔hasI (ts.take k) n
 low:∀ (x r:Rg) (j:Nat),x∈M->k<=j->ts[j]?=some r->x.1<=r.1
 fit:Fit M
 len:M.length<=k
theorem zBk.start (ts:List Rg):zBk ts [] 0:=⟨zSl,fun n=>by simp[hasI],by simp,by simp[Fit],Bc _⟩
theorem zBk.add {ts M:List Rg}{k:Nat}{r:Rg}(h:zBk ts M k) (hr:ts[k]?=some r) (hf:Fit1 r) (ha:Asc ts) (hne:r.1<=r.2) (hg:∀ x∈M,x.2+1<r.1):zBk ts (M++[r]) (k+1):=
 ⟨zM8 h.nf hne hg,fun n=>by rw[zEk,zDv hr,h.mem],fun x y j hx hj hy=>by
  rcases B7.1 hx with hx|hx
  ·exact h.low x y j hx (by omega) hy
  ·rw[Ct.1 hx];exact ha k j r y (by omega) hr hy,fun x hx=>by
  rcases B7.1 hx with hx|hx
  ·exact h.fit x hx
  ·rw[Ct.1 hx];exact hf,by have:=h.len;simp;omega⟩
theorem zBk.first {ts:List Rg}{k:Nat}{r:Rg}(h:zBk ts [] k) (hr:ts[k]?=some r) (hf:Fit1 r) (ha:Asc ts) (hne:r.1<=r.2):zBk ts [r] (k+1):=h.add hr hf ha hne (by simp)
theorem zBk.gap {ts M:List Rg}{k:Nat}{x r:Rg}(h:zBk ts (M++[x]) k) (hr:ts[k]?=some r) (hf:Fit1 r) (ha:Asc ts) (hne:r.1<=r.2) (hg:x.2+1<r.1):zBk ts (M++[x]++[r]) (k+1):=by
 refine h.add hr hf ha hne ?_;obtain⟨a,b,c⟩:=zFy h.nf;intro y hy;rcases B7.1 hy with hy|hy
 ·have:=c y hy;omega
 ·rw[Ct.1 hy];exact hg
theorem zBk.merge {ts M:List Rg}{k:Nat}{x r:Rg}(h:zBk ts (M++[x]) k) (hr:ts[k]?=some r) (hf:Fit1 r) (hne:r.1<=r.2) (hg:¬ x.2+1<r.1):zBk ts (M++[(x.1,max x.2 r.2)]) (k+1):=by
 have hl:=h.low x r k (by simp) lR hr;obtain⟨h1,h2⟩:=zPj h.nf hl (by omega) hne;refine⟨h1,fun n=>by rw[h2,zDv hr,h.mem],?_,?_,by have:=h.len;simp at this ⊢;omega⟩
 ·intro y z j hy hj hz;rcases B7.1 hy with hy|hy
  ·exact h.low y z j (List.mem_append_left _ hy) (by omega) hz
  ·rw[Ct.1 hy];exact h.low x z j (by simp) (by omega) hz
 ·intro y hy;rcases B7.1 hy with hy|hy
  ·exact h.fit y (List.mem_append_left _ hy)
  ·rw[Ct.1 hy];have hx:=h.fit x (by simp);unfold Fit1 at hx hf ⊢;simp only;omega
theorem zI2 {wr wq w':World}{g i H:Nat}{a b c d:Value}(hH:H=wr.heap.size) (hg:g<wr.heap.size) (hb:bW wq w') (h:wq.cell? (aD H 0)=some a/\wq.cell? (aD H 1)=some b/\wq.cell? (aD g i)=some c/\wq.cell? (aD g (i+1))=some d/\H<wq.heap.size/\bW wr wq) :
  w'.cell? (aD H 0)=some a/\w'.cell? (aD H 1)=some b/\w'.cell? (aD g i)=some c/\w'.cell? (aD g (i+1))=some d/\H<w'.heap.size/\bW wr w':=
 have hs:=hb.size;have hz:=h.2.2.2.2.2.size;have hl:=h.2.2.2.2.1
 ⟨(hb.cell (p:=(aD H 0)) hl).trans h.1,(hb.cell (p:=(aD H 1)) hl).trans h.2.1,(hb.cell (p:=(aD g i)) (by show g<_;omega)).trans h.2.2.1,(hb.cell (p:=(aD g (i+1))) (by show g<_;omega)).trans h.2.2.2.1,by omega,h.2.2.2.2.2.trans (hb.mono (by omega))⟩
theorem zK9 (l:List Rg):l=[]\/∃ (m:List Rg) (x:Rg),l=m++[x]:=by
 rcases List.eq_nil_or_concat l with h|⟨m,x,h⟩
 ·exact .inl h
 ·exact .inr ⟨m,x,by rw[h,List.concat_eq_append]⟩
theorem zJr (M:List Rg) (x:Rg) (nm:Nat) (h:nm=(M++[x]).length):(M++[x])[nm-1]?=some x:=by
 have:nm-1=M.length:=by simp at h;omega
 rw[this];simp
theorem zO4 (M:List Rg) (x y:Rg) (nm:Nat) (h:nm=(M++[x]).length):(M++[x]).set (nm-1) y=M++[y]:=by
 have:nm-1=M.length:=by simp at h;omega
 rw[this];simp
theorem zPg (A:Option Addr) (n cap:Nat) (rs:List Rg) (w:World) (hR:RngS w w.heap.size A n rs) (hn:n<=1000000) :
  Calls tP 59 #[vS A n cap] w fun e w'=>∃ m,m=nfOf (hasI rs)/\Nf m/\(∀ x,hasI m x↔hasI rs x)/\m.length<=n/\RetR m w e w':=by
 have o:=hR.2.1;have l:=hR.1;have H:=zOd A n cap rs w _ hR (by omega);have HF:=xI o;have HL:=xI l;clear o l hR;go_enter func59,ntmps59;go_wp2_with (go_at_call 102;refine H.mono ?_;rintro e w1 ⟨v1,rfl,ho1,hb1⟩;refine Hid.out ?_);refine xI ?_;clear H;have K:=hb1.size;have hd:=zGo v1 rs w1 w.heap.size ho1 HF.out K (by have:=HL.out;omega);have ad:=xI ho1;clear ho1;go_wp2_with (go_at_call 101;refine hd.mono ?_;rintro e w2 ⟨v2,rfl,ho2,hb2⟩;refine Hid.out ?_);refine xI ?_;clear hd;have Z:=hb2.size;have P:(rs.filter neB).length<=n:=by rw[HL.out];exact El _ _
 have G:=zO2 v2 (rs.filter neB) w2 w.heap.size ho2 (by omega) (by omega);have ab:=xI ho2;clear ho2;go_wp2_with (go_at_call 104;refine G.mono ?_;rintro e w3 ⟨rfl,ts,hperm,hasc,ho3,hb3⟩;refine Hid.out ?_);refine xI ?_;obtain⟨A2,c2,rfl⟩:=ho3.form;have d:Fit ts:=fun r hr=>HF.out r (Dj.1 (hperm.mem_iff.1 hr)).1;have j:∀ r∈ts,r.1<=r.2:=fun r hr=>by
  have:=(Dj.1 (hperm.mem_iff.1 hr)).2;simp[neB,zBb]at this;omega
 have hS:=ho3.rng d;have t:bW w w3:=(hb1.trans hb2).trans hb3;have c:∀ x,hasI ts x↔hasI rs x:=fun x=>(zNp hperm x).trans (zJv rs x);have O:ts.length<=n:=by rw[hperm.length_eq];exact P
 obtain⟨n2,B⟩:∃ n2,n2=ts.length:=⟨_,rfl⟩;rw[<-B]at hS O ⊢;have HS:=xI hS;have HA:=xI hasc;have T:=xI j;have F:=xI c;have U:=xI B;have W:=xI t;have Y:=hb3.size;clear hS hasc j c B t ho3 hperm G hb3 hb2 hb1 d;go_wp2
 go_loopw [4,6,7,15] (fun vm _ _ i wr=>∃ (k:Nat) (M:List Rg),i=vI i6 k/\k<=n2/\zBk ts M k/\OwnR wr w3.heap.size vm M/\bW w3 wr) (fun _ _ _ i _=>n2-(intOf i).toNat)
 case atStart=>exact⟨0,[],rfl,by omega,zBk.start _,OwnR.nil _ _,Bw _ _⟩
 case round=>
  obtain⟨k,M,rfl,hk,hI,hM,f⟩:=hrel;have HI:=xI hI;have HM:=xI hM;have z:=f.size;have R:=hI.len;clear hI hM;by_cases hkn:k<n2
  ·obtain⟨b,X,r1,r2,rfl,aa,hx,hf,c1,c2⟩:=(HS.out.below f).at hkn;have HX:=xI hx;have y:=xI hf;have E:=xI (T.out _ (Bh hx));clear hx hf;have D:bW wr (wr.alloc (.cells #[vI i6 r1,vI i6 r2] 83)):=yR.alloc lR _;rcases zK9 M with rfl|⟨M',x,rfl⟩
   ·obtain⟨A3,c3,rfl⟩:=HM.out.form;have HQ:Hid (∀ q,OwnR ((wr.alloc (.cells #[vI i6 r1,vI i6 r2] 83)).drewN q) w3.heap.size (vS A3 0 c3) []):=xI (fun q=>(HM.out.old D).drewN q);have HB:Hid (∀ q,bW w3 ((wr.alloc (.cells #[vI i6 r1,vI i6 r2] 83)).drewN q)):=xI (fun q=>zA0 (f.trans (D.mono z)) q);go_wp2_with fail
    go_quiet (fail)
    go_wp2_with (at_builtin;(refine zIa rfl _ _ rfl w3.heap.size _ _ rfl (HQ.out _) [(r1,r2)] 1 1 rfl _ rfl _ (by simp) rfl (by simp) (by simp;omega) ?_);intro v' w4 hown' s;refine Hid.out ?_);refine xI ?_;go_wp2
    go_roundw
    case rel=>exact⟨k+1,[(r1,r2)],by go_num,by omega,HI.out.first HX.out y.out HA.out E.out,hown',(HB.out _).trans s⟩
    case measure=>simp[intOf];omega
   ·obtain⟨x1,x2⟩:=x;obtain⟨g,c3,rfl,S,v,Q⟩:=HM.out.formG (by simp);obtain⟨nm,u⟩:∃ nm,nm=(M'++[(x1,x2)]).length:=⟨_,rfl⟩;have N:1<=nm:=by rw[u];simp
    have L:nm<=k:=by omega
    have a:=xI u;have V:=xI (HI.out.fit (x1,x2) (by simp));rw[<-u]at HM Q ⊢;clear u R;have d1:=HM.out.lo a.out.symm (zJr _ _ _ a.out);have d2:=HM.out.hi a.out.symm (zJr _ _ _ a.out);simp only at d1 d2;have i1:IntKind.i64.wrap ((nm:Int)-1)=(nm:Int)-1:=Br _ (by omega);have i2:(1:Int)<=(nm:Int):=by omega
    have i3:((nm:Int)-1).toNat=nm-1:=by omega
    have i4:(nm:Int)-1<(nm:Int):=by omega
    have q2:decide (0<nm)=true:=by simp;omega
    have h:Hid (∀ q,((wr.alloc (.cells #[vI i6 r1,vI i6 r2] 83)).drewN q).cell? (aH wr 0)=some (vI i6 r1)/\((wr.alloc (.cells #[vI i6 r1,vI i6 r2] 83)).drewN q).cell? (aH wr 1)=some (vI i6 r2)/\((wr.alloc (.cells #[vI i6 r1,vI i6 r2] 83)).drewN q).cell? (aD g ((nm-1)*2))=some (vI i6 x1)/\((wr.alloc (.cells #[vI i6 r1,vI i6 r2] 83)).drewN q).cell? (aD g ((nm-1)*2+1))=some (vI i6 x2)/\wr.heap.size<((wr.alloc (.cells #[vI i6 r1,vI i6 r2] 83)).drewN q).heap.size/\bW wr ((wr.alloc (.cells #[vI i6 r1,vI i6 r2] 83)).drewN q)):=xI (fun q=>by
     have C:=zA0 D q;refine⟨by simp,by simp,(C.cell (p:=(aD g ((nm-1)*2))) v).trans d1,(C.cell (p:=(aD g ((nm-1)*2+1))) v).trans d2,by simp,C⟩)
    have hm:=fun w=>zNn x1 x2 r1 r2 w V.out y.out;cases hgp:gapB (x1,x2) (r1,r2)
    ·rw[hgp]at hm;have HG:=xI hgp;clear hgp;go_wp2_with fail
     go_region_held3 (fun wq=>wq.cell? (aH wr 0)=some (vI i6 r1)/\wq.cell? (aH wr 1)=some (vI i6 r2)/\wq.cell? (aD g ((nm-1)*2))=some (vI i6 x1)/\wq.cell? (aD g ((nm-1)*2+1))=some (vI i6 x2)/\wr.heap.size<wq.heap.size/\bW wr wq) (first|exact h.out _|exact h.out 0|exact h.out 1|exact zI2 rfl v (by assumption) (by assumption)|go_keep) (first|(go_at_call 107;refine (hm _).mono ?_;rintro e w' ⟨rfl,hb⟩))
     rename_i hSq;obtain⟨s1,s2,s3,s4,s5,s6⟩:=hSq;have f1:=(HM.out.old s6).free a.out.symm ((nm-1)*2+1);have S6:=xI s6;clear s6;go_wp2_with fail
     go_still_tail 14,(by kernel_rfl)
     go_wp2
     go_roundw
     case rel=>
      have I:=(HM.out.old S6.out).setHi a.out.symm (nm-1) (x1,x2) (max x2 r2) (zJr _ _ _ a.out);rw[zO4 _ _ _ _ a.out]at I;have s:bW w3 w':=f.trans (S6.out.mono z);refine⟨k+1,M'++[(x1,max x2 r2)],by go_num,by omega,HI.out.merge HX.out y.out E.out (by have:=HG.out;unfold gapB at this;simpa using this),I.drewN 1,(s.setCell (p:=(aD g ((nm-1)*2+1))) S _).drew⟩
     case measure=>simp[intOf];omega
    ·rw[hgp]at hm;have HG:=xI hgp;clear hgp;go_wp2_with fail
     go_region_held3 (fun wq=>wq.cell? (aH wr 0)=some (vI i6 r1)/\wq.cell? (aH wr 1)=some (vI i6 r2)/\wq.cell? (aD g ((nm-1)*2))=some (vI i6 x1)/\wq.cell? (aD g ((nm-1)*2+1))=some (vI i6 x2)/\wr.heap.size<wq.heap.size/\bW wr wq) (first|exact h.out _|exact h.out 0|exact h.out 1|exact zI2 rfl v (by assumption) (by assumption)|go_keep) (first|(go_at_call 107;refine (hm _).mono ?_;rintro e w' ⟨rfl,hb⟩))
     rename_i hSq;obtain⟨s1,s2,s3,s4,s5,s6⟩:=hSq;have J:w3.heap.size<=w'.heap.size:=by have:=s6.size;omega
     have S6:=xI s6;clear s6;go_wp2_with (at_builtin;(refine zIa rfl _ _ rfl w3.heap.size _ _ rfl (HM.out.old S6.out) [(r1,r2)] 1 1 rfl _ rfl _ rfl rfl (by have:=a.out;omega) J ?_);intro v' w4 hown' s;refine Hid.out ?_);refine xI ?_;go_wp2
     go_roundw
     case rel=>exact⟨k+1,M'++[(x1,x2)]++[(r1,r2)],by go_num,by omega,HI.out.gap HX.out y.out HA.out E.out (by have:=HG.out;unfold gapB at this;simpa using this),hown',(f.trans (S6.out.mono z)).trans s⟩
     case measure=>simp[intOf];omega
  ·obtain rfl:k=n2:=by omega
   obtain⟨A3,c3,rfl⟩:=HM.out.form;have HT:Hid (∀ x,hasI M x↔hasI rs x):=xI (fun x=>by rw[HI.out.mem,B8 (by have:=U.out;omega)];exact F.out x);go_wp2;go_ret;exact⟨M,zRq HI.out.nf HT.out,HI.out.nf,HT.out,by omega,_,_,_,rfl,HM.out.rng HI.out.fit,W.out.trans (f.mono (by omega))⟩
end Go.Proofs.YteedihhdcbepmaaGreat.Iv
namespace Go.Proofs.YteedihhdcbepmaaGreat
open Go Go.RowKit
def elTy:ElK Ty:=⟨fun x w B cs=>TyB w B x.1 x.2 cs,fun hs h=>TyB.keep hs h,fun hs h=>TyB.sub hs h⟩
theorem zQp {x:Ty}{w:World}{B:Nat->Prop}{cs:List Value}(h:elTy.E x w B cs):∀ u∈cs,u.oneCell'=true:=by
 obtain⟨u,rfl,_,hr⟩:TyB w B x.1 x.2 cs:=h;obtain⟨A,c,rfl,_⟩:=hr.form;intro v hv;simp at hv;rcases hv with rfl|rfl<;>rfl
theorem namTy:Nam 65 24 (.agg #[vS none 0 0,vI i6 0]) 2 32:=⟨underlying65,by kernel_rfl,rfl,by decide,by decide⟩
abbrev OwnTy (w:World) (base:Nat) (v:Value) (l:List Ty):Prop:=OwnE elTy 24 2 w base v l
def rgT (r:Iv.Rg):Ty:=([⟨3,r.1,r.2,[],[],[],0,0⟩],0)
theorem zQ4 (r:Iv.Rg):SmT 1000000 (rgT r):=⟨by simp[rgT],fun x hx=>by simp[rgT]at hx;subst hx;exact⟨by simp,by simp⟩⟩
theorem zQk {A:Option Addr}{n cap:Nat}{rs:List Iv.Rg}(w:World) (hR:Iv.RngS w w.heap.size A n rs) (hn:n<=50) :
  Calls tP 18 #[vS A n cap] w fun e w'=>∃ m,Iv.Nf m/\(∀ x,Iv.hasI m x↔Iv.hasI rs x)/\TyOut 0 w (conT 16 noneT (m.map rgT)) e w':=by
 obtain⟨W,hW,hb,kR,k⟩:=aW w (oE none 0 0 0)
 have hc:=Iv.zPg A n cap rs W (hR.kept hb (by omega)) (by omega);have HP:=xI (aN hn (aN hb (aN kR k)));clear hn hb kR hR k;go_enter func18,ntmps18;go_wp2_with fail;rw[<-hW];clear hW;refine hc.mono ?_;clear hc;rintro e w1 ⟨m,-,hnf,hmem,hml,A1,n1,c1,rfl,hR1,hb1⟩;have HM:=xI (aN hnf hmem);clear hnf hmem;have z:=hR1.1;have c:=hR1.2.1;have HN:=xI (aN hR1 (aN hb1 (aN c z)));have G:=hb1.size;have H:n1<=50:=by have:=HP.out.1;omega
 clear hR1 hb1 c z hml;go_wp2_with fail
 go_loopw [3,9] (fun v i wr=>∃ (j cv:Nat) (Av:Option Addr),i=vI i6 j/\v=vS Av j cv/\j<=n1/\OwnTy wr w1.heap.size v ((m.map rgT).take j)/\bW w1 wr) (fun _ i _=>((n1:Int)-intOf i).toNat)
 case atStart=>exact⟨0,0,none,rfl,rfl,Bt _,OwnE.nil _ _ _ _ _,Bw _ _⟩
 case round=>
  obtain⟨j,cv,Av,rfl,rfl,hj,hO,p⟩:=hrel;have F:=p.size;have HO:=xI (aN hO p);clear hO p;by_cases hlt:j<n1
  ·obtain⟨b,J,r1,r2,rfl,M,hx,hf,O,N⟩:=(HN.out.1.below HO.out.2).at hlt;have mp:(j:Int)<(n1:Int):=by omega
   have m0:(0:Int)<=(j:Int):=by omega
   have L:IntKind.i64.wrap ((j:Int)+1)=(j:Int)+1:=Br _ (by omega);obtain⟨X,hX,B,_,f⟩:=aW wr (.cells #[vI i6 r1,vI i6 r2] 83 (0,0))
   have hc:Calls tP 60 #[.agg #[vI i6 3,vI i6 r1,vI i6 r2,vT ⟨#[]⟩,vS none 0 0,vS none 0 0,vI i6 0,vI i6 0]] X (TyOut 0 X (rgT (r1,r2))):=
    zHw 3 r1 r2 [] [] [] 0 0 none none 0 0 0 X (by omega) (leafT 3 r1 r2 [] (by show i64B 3;decide) (zB3 hf.1 hf.2.1) (zB3 hf.2.2.1 hf.2.2.2) (by unfold maxLen;decide))
   have d:(m.map rgT).take (j+1)=(m.map rgT).take j++[rgT (r1,r2)]:=by rw[Cr,Ch,hx];rfl
   have D:=xI d;have HX:=xI (aN B f);clear B f d hx hf;go_wp2_with fail;rw[<-hX];clear hX;refine hc.mono ?_;clear hc;rintro e w5 ⟨⟨Ao,co,rfl,hT5⟩,hb5⟩;have K:=hb5.size;have f:=HX.out.2;have a:bW wr w5:=HX.out.1.trans (hb5.mono (by omega));generalize hlj:(m.map rgT).take j=lj at HO D;have I:lj.length=j:=by rw[<-hlj,Bg,Bk];have:=HN.out.2.2.2;omega
   have C:OwnTy w5 w1.heap.size (vS Av j cv) lj:=HO.out.1.kept (by omega) fun b _ hl=>a.block b hl;have y:∀ g,(vS Av j cv).ownBlock=some g->g<wr.heap.size:=fun g hg=>(OwnE.ltB HO.out.1 hg).2;have s:elTy.E (rgT (r1,r2)) w5 (fun b=>w1.heap.size<=b/\b<w5.heap.size/\some b≠(vS Av j cv).ownBlock) [vS Ao 1 co,vI i6 0]:=TyB.sub (fun b hb=>by
    rcases hb with h|h
    ·omega
    ·refine⟨by omega,h.2,fun e=>?_⟩;have:=y b e.symm;omega) hT5
   have HG:=xI (aN (HO.out.2.trans (a.mono F)) I);clear hb5 a y hT5;go_wp2_with (at_builtin;refine zFm elTy namTy rfl _ _ rfl w1.heap.size (vS Av j cv) lj rfl C (rgT (r1,r2)) [vS Ao 1 co,vI i6 0] 1 _ rfl rfl _ rfl s rfl (zQp s) (by omega) (by omega) ?_;intro g cap w6 ho6 hb6 _ _;refine Hid.out ?_);refine xI ?_;have HR:=xI (aN ho6 (HG.out.1.trans hb6));clear ho6 hb6 C s;go_wp2_with fail
   go_roundw
   case rel=>exact⟨j+1,cap,some (aD g 0),by go_num,rfl,by omega,by rw[D.out];have h:=HR.out.1;rw[HG.out.2]at h;exact h,HR.out.2⟩
   case measure=>simp[intOf];omega
  ·obtain rfl:j=n1:=by omega
   have mp:¬ ((j:Nat):Int)<(j:Int):=by omega
   have o:(m.map rgT).length=j:=by rw[Bk];exact HN.out.2.2.2.symm
   have hO:=HO.out.1;rw[B8 (by omega)]at hO;have u:RowB wr (fun b=>b<wr.heap.size) 2 (vS Av (m.map rgT).length cv) (m.map rgT).length (tyR wr (fun b=>b<wr.heap.size) (m.map rgT)):=by
    have h:=OwnE.rowB hO (by decide) (by unfold maxLen;omega) (Bt _);rw[o]at h ⊢;exact RowB.sub h (fun _ hb=>hb.2) fun _ _ ⟨t,ht,hT⟩=>⟨t,ht,TyB.sub (fun _ hb=>hb.2) hT⟩
   have hc:=zMk (l:=m.map rgT) wr lR u (fun t ht=>by
    obtain⟨r,_,rfl⟩:=Cd.1 ht;exact zQ4 r) (by omega)
   rw[o]at hc;have HQ:=xI (HN.out.2.1.trans (HO.out.2.mono G));clear hO u o;go_wp2_with fail;refine hc.mono ?_;clear hc;rintro e w2 ⟨⟨A2,c2,rfl,hT2⟩,hb2⟩;have q:=HQ.out.trans (hb2.mono (by have:=HQ.out.size;omega));have k:=HP.out.2.2.2;have kz:=(q.block w.heap.size (by omega)).trans HP.out.2.2.1;have f0:=Bz kz 0;have f1:=Bz kz 1;have c0:=cH kz 0;have c1:=cH kz 1;have HC:=xI (aN hT2 (aN hb2 q));clear hT2 hb2 q;go_wp2;refine ret2s kz rfl rfl rfl fun V hz hbb hl=>⟨m,HM.out.1,HM.out.2,⟨_,_,rfl,?_⟩,(HP.out.2.1.trans (HC.out.2.2.mono (by omega))).trans (hl _ lR)⟩;exact TyOut.put HC.out.1 (Bt _) (by have:=HQ.out.size;omega) (by have:=HQ.out.size;omega) hz hbb
def lst0:List Tn:=[⟨16,0,0,[],[1,2],[],0,0⟩,⟨9,0,0,[],[],[],0,0⟩,⟨12,0,0,[],[],[],0,0⟩]
def lstT (t:Ty):Ty:=((gr (fun _=>none) (accT t) lst0).1.set 2 ⟨12,0,0,[],[(gr (fun _=>none) (accT t) lst0).2,0],[],0,0⟩,0)
theorem zRv:∀ x∈lst0,kidOk x:=fun x hx=>by
 simp[lst0]at hx;rcases hx with rfl|rfl|rfl<;>exact⟨by decide,by decide⟩
theorem zLm (ns:List Tn) (root:Int) (A:Option Addr) (c:Nat) (w:World) (hsm:SmT 1000000 (ns,root)) (hT:TyP w w.heap.size ns root [vS A ns.length c,vI i6 root]) :
  Calls tP 23 #[.agg #[vS A ns.length c,vI i6 root]] w (TyOut 0 w (lstT (ns,root))):=by
 obtain⟨Wa,d⟩:∃ Wa,Wa=((((w.alloc (oE A ns.length c root)).alloc (oE none 0 0 0)).alloc (.cells #[vI i6 1,vI i6 2] 3 (0,0))).alloc (.cells #[vI i6 16,vI i6 0,vI i6 0,vT ⟨#[]⟩,vS (some (aF w 0)) 2 2,vS none 0 0,vI i6 0,vI i6 0,vI i6 9,vI i6 0,vI i6 0,vT ⟨#[]⟩,vS none 0 0,vS none 0 0,vI i6 0,vI i6 0,vI i6 12,vI i6 0,vI i6 0,vT ⟨#[]⟩,vS none 0 0,vS none 0 0,vI i6 0,vI i6 0] 40 (0,0))).alloc (.cells #[vS (some (aD (w.heap.size+1+1+1) 0)) 3 3] 101 (0,0)):=⟨_,rfl⟩;have C:bW w Wa:=by rw[d];exact ((((yR.alloc lR _).alloc (by simp) _).alloc (by simp<;>omega) _).alloc (by simp<;>omega) _).alloc (by simp<;>omega) _
 have kE:Wa.heap[w.heap.size]?=some (oE A ns.length c root):=by rw[d,Bp _ _ _ (by simp<;>omega),Bp _ _ _ (by simp<;>omega),Bp _ _ _ (by simp<;>omega),Bp _ _ _ (by simp)];exact Bl w _
 have kR:Wa.heap[w.heap.size+1]?=some (oE none 0 0 0):=by rw[d,Bp _ _ _ (by simp<;>omega),Bp _ _ _ (by simp<;>omega),Bp _ _ _ (by simp)];exact zAg _ (by simp)
 have kK:Wa.heap[w.heap.size+1+1]?=some (.cells #[vI i6 1,vI i6 2] 3 (0,0)):=by rw[d,Bp _ _ _ (by simp<;>omega),Bp _ _ _ (by simp)];exact zAg _ (by simp)
 have kN:Wa.heap[w.heap.size+1+1+1]?=some (.cells #[vI i6 16,vI i6 0,vI i6 0,vT ⟨#[]⟩,vS (some (aF w 0)) 2 2,vS none 0 0,vI i6 0,vI i6 0,vI i6 9,vI i6 0,vI i6 0,vT ⟨#[]⟩,vS none 0 0,vS none 0 0,vI i6 0,vI i6 0,vI i6 12,vI i6 0,vI i6 0,vT ⟨#[]⟩,vS none 0 0,vS none 0 0,vI i6 0,vI i6 0] 40 (0,0)):=by rw[d,Bp _ _ _ (by simp)];exact zAg _ (by simp)
 have kB:Wa.heap[w.heap.size+1+1+1+1]?=some (.cells #[vS (some (aD (w.heap.size+1+1+1) 0)) 3 3] 101 (0,0)):=by rw[d];exact zAg _ (by simp)
 have D:Wa.heap.size=w.heap.size+5:=by rw[d];simp
 have k:OwnQ Wa (w.heap.size+1+1+1) (vS (some (aD (w.heap.size+1+1+1) 0)) 3 3) [[vI i6 16,vI i6 0,vI i6 0,vT ⟨#[]⟩,vS (some (aF w 0)) 2 2,vS none 0 0,vI i6 0,vI i6 0],[vI i6 9,vI i6 0,vI i6 0,vT ⟨#[]⟩,vS none 0 0,vS none 0 0,vI i6 0,vI i6 0],[vI i6 12,vI i6 0,vI i6 0,vT ⟨#[]⟩,vS none 0 0,vS none 0 0,vI i6 0,vI i6 0]]:=by
  refine⟨[vI i6 16,vI i6 0,vI i6 0,vT ⟨#[]⟩,vS (some (aF w 0)) 2 2,vS none 0 0,vI i6 0,vI i6 0,vI i6 9,vI i6 0,vI i6 0,vT ⟨#[]⟩,vS none 0 0,vS none 0 0,vI i6 0,vI i6 0,vI i6 12,vI i6 0,vI i6 0,vT ⟨#[]⟩,vS none 0 0,vS none 0 0,vI i6 0,vI i6 0],⟨rfl,.inr ⟨w.heap.size+1+1+1,3,_,rfl,Bc _,kN,Bc _,by unfold maxLen;decide,rfl,rfl⟩⟩,fun j x hj=>?_⟩;rcases j with _|_|_|j
  all_goals simp at hj
  all_goals subst hj
  all_goals exact⟨rfl,rfl,fun u hu=>by simp at hu;rcases hu with rfl|rfl|rfl|rfl|rfl|rfl|rfl|rfl<;>rfl⟩
 have J:RowB Wa (GD 0 (w.heap.size+1+1) (w.heap.size+1+1+1+1) (vS (some (aD (w.heap.size+1+1+1) 0)) 3 3) Wa) 1 (vS (some (aF w 0)) 2 2) 2 (kidR [1,2]):=by
  have h:JRow Wa (w.heap.size+1+1) [1,2]:=kK;refine (h.row (B:=GD 0 (w.heap.size+1+1) (w.heap.size+1+1+1+1) (vS (some (aD (w.heap.size+1+1+1) 0)) 3 3) Wa) (n:=2) rfl (fun x hx=>?_) (by unfold maxLen;decide) ⟨by omega,by omega,fun e=>by simp[Value.ownBlock]at e,by omega⟩);simp at hx;rcases hx with rfl|rfl<;>exact zB3 (by decide) (by decide)
 have G:NdsB Wa (GD 0 (w.heap.size+1+1) (w.heap.size+1+1+1+1) (vS (some (aD (w.heap.size+1+1+1) 0)) 3 3) Wa) [[vI i6 16,vI i6 0,vI i6 0,vT ⟨#[]⟩,vS (some (aF w 0)) 2 2,vS none 0 0,vI i6 0,vI i6 0],[vI i6 9,vI i6 0,vI i6 0,vT ⟨#[]⟩,vS none 0 0,vS none 0 0,vI i6 0,vI i6 0],[vI i6 12,vI i6 0,vI i6 0,vT ⟨#[]⟩,vS none 0 0,vS none 0 0,vI i6 0,vI i6 0]] lst0:=by
  refine⟨rfl,fun j cs x h1 h2=>?_⟩;unfold lst0 at h2;rcases j with _|_|_|j
  all_goals simp at h1 h2
  all_goals subst h1 h2
  ·exact⟨_,_,rfl,⟨by show i64B 16;decide,by show i64B 0;decide,by show i64B 0;decide,by simp,by show i64B 0;decide,by show i64B 0;decide⟩,J,RowB.nil ..⟩
  ·exact⟨_,_,rfl,⟨by show i64B 9;decide,by show i64B 0;decide,by show i64B 0;decide,by simp,by show i64B 0;decide,by show i64B 0;decide⟩,RowB.nil ..,RowB.nil ..⟩
  ·exact⟨_,_,rfl,⟨by show i64B 12;decide,by show i64B 0;decide,by show i64B 0;decide,by simp,by show i64B 0;decide,by show i64B 0;decide⟩,RowB.nil ..,RowB.nil ..⟩
 have hc:=zEl (ns:=ns) (root:=root) (H:=w.heap.size) (Z:=w.heap.size+1+1) (bb:=w.heap.size+1+1+1+1) (base:=w.heap.size+1+1+1) (v:=vS (some (aD (w.heap.size+1+1+1) 0)) 3 3) (css:=[[vI i6 16,vI i6 0,vI i6 0,vT ⟨#[]⟩,vS (some (aF w 0)) 2 2,vS none 0 0,vI i6 0,vI i6 0],[vI i6 9,vI i6 0,vI i6 0,vT ⟨#[]⟩,vS none 0 0,vS none 0 0,vI i6 0,vI i6 0],[vI i6 12,vI i6 0,vI i6 0,vT ⟨#[]⟩,vS none 0 0,vS none 0 0,vI i6 0,vI i6 0]]) (bs:=lst0) Wa (hT.keep (Same.of_below C fun b hb=>hb)) hsm.1 hsm.2 ⟨by omega,by omega,by omega,by omega⟩ (fun e=>by simp[Value.ownBlock]at e) (by omega) kB k G (by simp);have L:=zKr (m:=3) (f:=fun _=>none) (bs:=lst0) (zCi (ns,root)) (zC5 hsm (by decide)) (by decide) zRv;have T:=zNr (f:=fun _=>none) (bs:=lst0) (zCi (ns,root)) (fun s p h=>by cases h);have z:=zI3 (f:=fun _=>none) (t:=accT (ns,root)) (bs:=lst0) (j:=2) (x:=⟨12,0,0,[],[],[],0,0⟩) rfl;have aw:=(zC5 hsm (by decide)).1;have I:lstT (ns,root)=((gr (fun _=>none) (accT (ns,root)) lst0).1.set 2 ⟨12,0,0,[],[(gr (fun _=>none) (accT (ns,root)) lst0).2,0],[],0,0⟩,0):=rfl;generalize (gr (fun _=>none) (accT (ns,root)) lst0).1=xs at *;generalize (gr (fun _=>none) (accT (ns,root)) lst0).2=hd at *;rw[show lst0.length=3 by rfl]at T;have K:i64B hd:=zB3 (by omega) (by have:=T.2;omega);obtain⟨x0,x1⟩:=zAf kE;rw[d]at x0 x1;have HP:=xI (aN C (aN kR (aN D (aN L (aN z (aN I K))))));clear C kE kR kK kN kB D k J G L T z I K aw hsm hT;go_enter func23,ntmps23;go_wp2_with fail;rw[<-d];clear d x0 x1;refine hc.mono ?_;rintro e w5 ⟨rfl,v5,css5,hG⟩;clear hc;obtain⟨C,kR,D,L,z,I,K⟩:=HP.out;obtain⟨q1,q2,q3,q4,q5⟩:=hG;have W:=q3.1;have al:2<xs.length:=(Bx.1 z).1;obtain⟨g,cp,rfl,av,ap,au⟩:=OwnE.formG q2 (by omega);have Q:=By (l:=css5) (i:=2) (by omega);generalize css5[2]'(by omega)=cs at Q;obtain⟨uk,uf,ar,am,J,U⟩:=q3.2 2 cs _ Q z;obtain⟨Ak,ck,ax,_⟩:=J.form;obtain⟨Af,cf,ay,_⟩:=U.form;subst ax ay ar;have ad:=q4.low.size;have aq:g=w.heap.size+1+1+1\/Wa.heap.size<=g:=by
  rcases q5 g rfl with h|h
  ·simp[Value.ownBlock]at h;omega
  ·exact .inr h
 obtain⟨X,hX,q,kX,ae⟩:=aW w5 (.cells #[vI i6 hd,vI i6 0] 3 (0,0))
 have aa:OwnQ X (w.heap.size+1+1+1) (vS (some (aD g 0)) css5.length cp) css5:=OwnE.stay zBs q2 fun g _ hl=>q.block g hl;have Y:NdsB X (GD 0 (w.heap.size+1+1) (w.heap.size+1+1+1+1) (vS (some (aD g 0)) css5.length cp) X) css5 xs:=(q3.keep (Same.of_below q fun b hb=>hb.1)).sub fun b hb=>⟨by have:=hb.1;omega,hb.2⟩;obtain⟨ao,_,_,o,M,_,E⟩:=aa.at8N Q;have d4:=o 4 (by decide);have f4:=M (2*8+4);simp only[D0,D1]at d4;have e3:w5.cell? (aD (w.heap.size+1+1+1+1) 0)=some (vS (some (aD g 0)) css5.length cp):=cH q1 0;obtain⟨V1,y⟩:∃ V1,V1=X.setCell (aD g 20) (vS (some (aH w5 0)) 2 2):=⟨_,rfl⟩;have P:∀ b,b≠g->V1.heap[b]?=X.heap[b]?:=fun b hb=>by rw[y];exact Bq _ (aD g 20) b _ hb
 have ah:V1.heap.size=X.heap.size:=by rw[y];simp
 have a:=E 4 (vS (some (aH w5 0)) 2 2) (by decide) rfl;rw[show 2*8+4=20 by rfl,<-y]at a;rw[show 2*8+4=20 by rfl]at d4 f4;have ak:JRow V1 w5.heap.size [hd,0]:=(show JRow X w5.heap.size [hd,0]from kX).on (P _ (by omega));have aj:RowB V1 (fun b=>b<V1.heap.size/\(b<0\/w.heap.size+1+1<=b)) 1 (vS (some (aH w5 0)) 2 2) 2 (kidR [hd,0]):=ak.row (n:=2) rfl (fun x hx=>by
  simp at hx;rcases hx with rfl|rfl
  ·exact K
  ·exact zB3 (by decide) (by decide)) (by unfold maxLen;decide) ⟨by omega,.inr (by omega)⟩
 have S:Same (GD 0 (w.heap.size+1+1) (w.heap.size+1+1+1+1) (vS (some (aD g 0)) css5.length cp) X) X V1:=⟨by omega,fun b i hb _=>Bi (P b fun e=>hb.2.2.1 (by rw[e];rfl))⟩;have R:∀ b,GD 0 (w.heap.size+1+1) (w.heap.size+1+1+1+1) (vS (some (aD g 0)) css5.length cp) X b->b<V1.heap.size/\(b<0\/w.heap.size+1+1<=b):=fun b hb=>⟨by have:=hb.1;omega,by
  rcases hb.2.2.2 with h|h
  ·exact .inl h
  ·exact .inr (by omega)⟩
 have N:=(U.keep (Same.of_below q fun b hb=>hb.1) fun _ _ h=>h).sub (B':=GD 0 (w.heap.size+1+1) (w.heap.size+1+1+1+1) (vS (some (aD g 0)) css5.length cp) X) (fun b hb=>⟨by have:=hb.1;omega,hb.2⟩) fun _ _ h=>h;have ai:TnB V1 (fun b=>b<V1.heap.size/\(b<0\/w.heap.size+1+1<=b)) ⟨12,0,0,[],[hd,0],[],0,0⟩ [vI i6 12,vI i6 0,vI i6 0,vT ⟨#[]⟩,vS (some (aH w5 0)) 2 2,vS Af 0 cf,vI i6 0,vI i6 0]:=⟨_,_,rfl,⟨by show i64B 12;decide,by show i64B 0;decide,by show i64B 0;decide,by simp,by show i64B 0;decide,by show i64B 0;decide⟩,aj,(N.keep S fun _ _ h=>h).sub R fun _ _ h=>h⟩;have F:=((Y.keep S).sub R).set 2 ai;have r:=OwnE.nodes a (B':=fun b=>b<V1.heap.size/\(b<0\/w.heap.size+1+1<=b)) F (by rw[Ck];have:=L.1;unfold maxLen;omega) (fun b hb=>hb) fun b h1 h2=>⟨h2,.inr (by omega)⟩;rw[Ck,<-W]at r;have O:=(P (w.heap.size+1+1+1+1) (by omega)).trans ((q.block _ (by omega)).trans q1);have af:=zDh (some (aD g 0)) css5.length cp (w.heap.size+1+1+1+1) 0 V1 (cH O 0);have ab:=(P (w.heap.size+1) (by omega)).trans ((q.block (w.heap.size+1) (by omega)).trans ((q4.blk (w.heap.size+1) (by omega) (by omega) (by omega) (fun e=>by have e:some (w.heap.size+1+1+1)=some (w.heap.size+1):=e;injection e with e;omega)).trans kR));have ag:bW w V1:=by
  have h1:=q4.below (H:=w.heap.size) (by omega) (by omega) (fun g h=>by simp[Value.ownBlock]at h;omega) (by omega);have h2:=(C.trans h1).trans (q.mono (by omega));rw[y];exact h2.setCell (p:=(aD g 20)) (by show w.heap.size<=g;omega) _
 have HF:=xI (aN r (aN I (aN ab (aN ag (aN W (aN ad (aN D (aN ah ae))))))));have az:Hid (2<css5.length):=xI (by omega);have u9:(2:Int)<(css5.length:Int):=by have:=az.out;omega
 have e4:X.cell? (aD (w.heap.size+1+1+1+1) 0)=some (vS (some (aD g 0)) css5.length cp):=(Bv ((q.block _ (by omega)).trans q1) 0).trans rfl;rw[hX]at d4 f4 e4;rw[hX]at y;clear r I ab ag ah q1 q2 q3 q4 q5 aa Y O a ak aj F ai N S R o M E ao am J U Q W av ap au aq P q kX ae hX ad D C kR L z K al HP;go_wp2_with fail;rw[<-y];clear y d4 f4 e3 e4;refine af.mono ?_;rintro e w2 ⟨rfl,hb2⟩;clear af;have h9:=HF.out.2.2.2.2;have kz:=(hb2.block (w.heap.size+1) (by omega)).trans HF.out.2.2.1;have f0:=Bz kz 0;have f1:=Bz kz 1;have c0:=cH kz 0;have c1:=cH kz 1;have HB:=xI hb2;have H9:=xI h9;clear hb2 h9;go_wp2;have h9:=H9.out;have aA:=HB.out.size;refine ret2s kz rfl rfl rfl fun V hz hbb hl=>⟨⟨some (aD g 0),cp,?_,?_⟩,?_⟩
 ·rw[HF.out.2.1,h9.1];simp
 ·have an:TyB V1 (fun b=>b<V1.heap.size/\(b<0\/w.heap.size+1+1<=b)) (xs.set 2 ⟨12,0,0,[],[hd,0],[],0,0⟩) 0 [vS (some (aD g 0)) css5.length cp,vI i6 0]:=⟨_,rfl,by show i64B 0;decide,by rw[Ck,<-h9.1];exact HF.out.1⟩;rw[HF.out.2.1];simp only[Ck];rw[<-h9.1];refine (an.keep (w':=V) ⟨by omega,fun b i hb2 hl2=>Bi ((hbb b (by rcases hb2.2 with h|h<;>omega)).trans (HB.out.block b hl2))⟩).sub fun b hb2=>?_;rcases hb2.2 with h|h
  ·exact .inl h
  ·exact .inr ⟨by omega,by have:=hb2.1;omega⟩
 ·exact (HF.out.2.2.2.1.trans (HB.out.mono (by omega))).trans (hl _ (by omega))
open Go.Sort Go.Shelf Go.Proofs
theorem Tryz.sortS_string (blk off cap:Nat) (ss:List Strg) (w:World) (hH:Holds encStr w blk off ss.toArray) (hblk:blk<w.heap.size) (hsz:ss.length<4611686018427387904) :
  Calls tP 94 #[vS (some (aD blk off)) ss.length cap] w fun e w'=>e=.returned (.tuple #[])/\∃ n os,w'=grow (putRow encStr (Sort.ahead w n) blk off (ss.mergeSort fun x y=>decide (x<=y)).toArray) os:=
 Any.slices_Sort_string Tryz.laysSortS blk off cap ss w hH hblk hsz
theorem Tryz.sortS_none (p:Option Addr) (cap:Nat) (w:World) :
  Calls tP 94 #[vS p 0 cap] w fun e w'=>e=.returned (.tuple #[])/\w'=w:=
 calls_of_every_depth fun D=>AnyS.slices_Sort_string_none_in Tryz.laysSortS D p cap w
theorem zGw {w:World}{B g n cap q m:Nat}{ss:List Strg}{d:Array Strg}{os:Array Obj}(h:OwnN w B (vS (some (aD g 0)) n cap) ss) (hn:ss.length=n) (hd:d.size=n) (hm:m<=n) :
  OwnN (grow (putRow encStr (Sort.ahead w q) g 0 d) os) B (vS (some (aD g 0)) m cap) (d.toList.take m)/\w.grownBy (grow (putRow encStr (Sort.ahead w q) g 0 d) os) (some g):=by
 subst hn;rcases h.2 with⟨h',_⟩|⟨g',o,b,h',hb,hg,p,l,i,a⟩
 ·simp at h'
 ·simp only[Value.slice.injEq,Cq,Addr.mk.injEq,and_true,true_and]at h';obtain⟨rfl,rfl⟩:=h';have c:g<w.heap.size:=(Cv.1 hg).1;have hh:(grow (putRow encStr (Sort.ahead w q) g 0 d) os).heap[g]?=some (.cells (putCells encStr 0 d b) 9 (0,0)):=by
   rw[heap_grow_old _ _ (by simpa [putRow,mapBlock,Sort.ahead] using c)];simp[putRow,mapBlock,Sort.ahead,Array.getElem?_modify,hg,onCells]
  have hl:(d.toList.take m).length=m:=by rw[Bg,Array.length_toList];omega
  refine⟨⟨by simp,.inr ⟨g,cap,_,by rw[hl],hb,hh,by rw[hl];omega,l,by simp[putCells,i],?_⟩⟩,rfl,rfl,rfl,?_,fun k hk hne=>?_⟩
  ·rw[hl];apply Dq;intro j;by_cases hj:j<m
   ·rw[Co (by omega),Ei,Ch,Co hj,Ei];have hc:j<b.size:=by omega
    have f:j<d.size:=by omega
    simp[putCells,hc,f]
   ·rw[List.getElem?_take_eq_none (by omega),Ce (by rw[Bk,hl];omega)]
  ·simp[putRow,mapBlock,Sort.ahead,grow]
  ·rw[heap_grow_old _ _ (by simpa [putRow,mapBlock,Sort.ahead] using hk)];have:g≠k:=fun e=>hne (by rw[e]);simp[putRow,mapBlock,Sort.ahead,Array.getElem?_modify,this]
theorem zMt (v:Value) (ss:List Strg) (w:World) (B:Nat) (hO:OwnN w B v ss) (hB:B<=w.heap.size) (hn:ss.length<=1000000000) :
  Calls tP 94 #[v] w fun e w'=>e=.returned (.tuple #[])/\OwnN w' B v (ss.mergeSort fun x y=>decide (x<=y))/\Below B w w':=by
 rcases Dz ss.length with h0|h0
 ·have hr:ss=[]:=Cf h0;subst hr;obtain⟨A,c,rfl⟩:=hO.form;exact (Tryz.sortS_none A c w).mono fun e w' ⟨he,hw⟩=>⟨he,by rw[hw,List.mergeSort_nil];exact hO,by rw[hw];exact Bw _ _⟩
 ·obtain⟨g,c,rfl,f,a,b⟩:=hO.formG h0;refine (Tryz.sortS_string g 0 c ss w (hO.holds rfl) a (by omega)).mono fun e w' ⟨he,q,os,hw⟩=>?_;have hl:(ss.mergeSort fun x y=>decide (x<=y)).length=ss.length:=List.length_mergeSort _;have:=zGw (q:=q) (os:=os) (m:=ss.length) (d:=(ss.mergeSort fun x y=>decide (x<=y)).toArray) hO rfl (by simp) lR;rw[<-hw]at this;refine⟨he,?_,yR.grown this.2 hB (fun k hk=>by injection hk with hk;omega)⟩;have h1:=this.1;rw[B8 (by simp)]at h1;simpa using h1
theorem zI8 (v:Value) (ss:List Strg) (w:World) (B:Nat) (hO:OwnN w B v ss) (hB:B<=w.heap.size) (hn:ss.length<=1000000000) :
  Calls tP 95 #[v] w fun e w'=>∃ v',e=.returned v'/\OwnN w' B v' (Lib.compact ss)/\Below B w w':=by
 rcases Dz ss.length with h0|h0
 ·have hr:ss=[]:=Cf h0;subst hr;obtain⟨A,c,rfl⟩:=hO.form;exact (Tryz.slices_Compact_string_empty A c w).mono fun e w' ⟨he,hw⟩=>⟨_,he,by rw[hw];exact hO,by rw[hw];exact Bw _ _⟩
 ·obtain⟨g,c,rfl,h,f,a⟩:=hO.formG h0;have b:(Lib.compact ss).length<=ss.length:=by
   unfold Lib.compact Lib.compactUpTo;rw[Bk];simpa using El (Lib.keeps ss.toArray) (List.range ss.length)
  refine (Tryz.slices_Compact_string g 0 c ss w (hO.holds rfl) (by omega) a).mono fun e w' ⟨he,q,hw⟩=>?_;have:=zGw (q:=q) (os:=#[]) (m:=(Lib.compact ss).length) (d:=(Lib.compact ss++List.replicate (ss.length-(Lib.compact ss).length) []).toArray) hO rfl (by simp;omega) b;rw[grow_empty,<-hw]at this;refine⟨_,he,?_,yR.grown this.2 hB (fun k hk=>by injection hk with hk;omega)⟩;have h1:=this.1;rw[List.toList_toArray,List.take_left]at h1;exact h1
theorem beqB (a b:List UInt8):(a==b)=decide (a=b):=by
 by_cases h:a=b
 ·subst h;simp
 ·rw[Ci h];exact Cm.2 h
theorem zNd (ns:List Tn) (root:Int) (A:Option Addr) (c:Nat) (hw:Wf ns) (k:Nat) (K lo hi:Int) (tn:List UInt8) (ks:List Int) (fds:List Fd) (r0 r1:Int) (hx:ns[k]?=some ⟨K,lo,hi,tn,ks,fds,r0,r1⟩) (hK:K=1\/K=2\/K=3\/K=4\/K=5\/K=6\/K=7\/K=8\/K=9\/K=11\/K=15)
  (q:Nat) (kd it:Int) (tx:List UInt8) (kids:List Vl) (keys:List (Int×List UInt8)) (ents:List En) (labs:List (List UInt8)) (Av Ay Ae Ab:Option Addr) (cv cy ce cb:Nat) (w:World) (hT:TyAt w ns root A c) (hv:VS (q+1) w w.heap.size (.mk kd it tx kids keys ents labs) [vI i6 kd,vI i6 it,vT ⟨tx.toArray⟩,vS Av kids.length cv,vS Ay keys.length cy,vS Ae ents.length ce,vS Ab labs.length cb]) :
  Calls tP 83 #[.agg #[vI i6 kd,vI i6 it,vT ⟨tx.toArray⟩,vS Av kids.length cv,vS Ay keys.length cy,vS Ae ents.length ce,vS Ab labs.length cb],.agg #[vS A ns.length c,vI i6 root],vI i6 k] w fun e w'=>e=.returned (.bool (memB ns (.mk kd it tx kids keys ents labs) k))/\bW w w':=by
 have m:=(Bx.1 hx).1;have a:RowP w w.heap.size 8 (vS A ns.length c) ns.length (tnR w (fun b=>b<w.heap.size) ns):=by
  obtain⟨u,hu,_,h⟩:=hT;injection hu with hu _;rw[hu];exact h
 obtain⟨bn,on,o,Ak,ck,Af,cf,hu,n,f,d,g,d0,d1,d2,d3,d4,d5,d6,d7⟩:=TyB.at8 a hx;injection hu with hA hmm hcc;clear hmm;subst hA hcc;have r:=xI (aN f (aN d g));clear a f d g;have HM:=xI (zBn hw hx (.mk kd it tx kids keys ents labs));have p:=xI (aN hw hx);generalize memB ns (.mk kd it tx kids keys ents labs) k=res at *;obtain⟨W,hW⟩:∃ W,W=(((w.alloc (oV kd it ⟨tx.toArray⟩ Av kids.length cv Ay keys.length cy Ae ents.length ce Ab labs.length cb)).alloc (oE (some (aD bn on)) ns.length c root)).alloc (oX K lo hi ⟨tn.toArray⟩ Ak ks.length ck Af fds.length cf r0 r1)):=⟨_,rfl⟩;have i:bW w W:=by rw[hW];exact ((yR.alloc lR _).alloc (by simp) _).alloc (by simp;omega) _
 have j:bW w ((w.alloc (oV kd it ⟨tx.toArray⟩ Av kids.length cv Ay keys.length cy Ae ents.length ce Ab labs.length cb)).alloc (oE (some (aD bn on)) ns.length c root)):=(yR.alloc lR _).alloc (by simp) _;have kv:W.heap[w.heap.size]?=some (oV kd it ⟨tx.toArray⟩ Av kids.length cv Ay keys.length cy Ae ents.length ce Ab labs.length cb):=by rw[hW,Bp _ _ _ (by simp;omega),Bp _ _ _ (by simp)];exact Bl w _
 have kt:W.heap[w.heap.size+1]?=some (oE (some (aD bn on)) ns.length c root):=by rw[hW,Bp _ _ _ (by simp)];exact zAg _ (by simp)
 have kn:W.heap[w.heap.size+1+1]?=some (oX K lo hi ⟨tn.toArray⟩ Ak ks.length ck Af fds.length cf r0 r1):=by rw[hW];exact zAg _ (by simp)
 have l:W.heap.size=w.heap.size+3:=by rw[hW];simp
 have HT:Hid (∀ wq,bW W wq->TyAt wq ns root (some (aD bn on)) c/\bW w wq/\(jV wq w.heap.size kd it ⟨tx.toArray⟩ Av kids.length cv Ay keys.length cy Ae ents.length ce Ab labs.length cb)/\(jT wq (w.heap.size+1) (some (aD bn on)) ns.length c root)/\(jN wq (w.heap.size+1+1) K lo hi ⟨tn.toArray⟩ Ak ks.length ck Af fds.length cf r0 r1)):=xI fun U hU=>by
  have hb:=i.trans (hU.mono (by omega));exact⟨hT.on hb,hb,zAc ((hU.block _ (by omega)).trans kv),zAf ((hU.block _ (by omega)).trans kt),zAe ((hU.block _ (by omega)).trans kn)⟩
 have K8:=kC8 j n d0 d1 d2 d3 d4 d5 d6 d7;clear d0 d1 d2 d3 d4 d5 d6 d7;obtain⟨d0,d1,d2,d3,d4,d5,d6,d7⟩:=K8;have hE:=(HT.out W yR).2.2;have u1:(0:Int)<=(k:Int):=by omega
 have u2:(k:Int)<(ns.length:Int):=by omega
 have HV:=xI hv;clear j i kv kt kn l hx hw m hT hv;rw[hW]at hE;obtain⟨⟨v0,v1,v2,v3,v4,v5,v6⟩,⟨t0,t1⟩,⟨n0,n1,n2,n3,n4,n5,n6,n7⟩⟩:=hE;have HK:=xI hK;clear hK;rcases HK.out with rfl|rfl|rfl|rfl|rfl|rfl|rfl|rfl|rfl|rfl|rfl
 all_goals
  go_enter func83,ntmps83;go_wp2
 all_goals go_ret
 all_goals refine⟨?_,((yR.alloc lR _).alloc (by simp) _).alloc (by simp;omega) _⟩
 all_goals rw[HM.out]
 all_goals simp only[memS,zAn,zG2,zMn]
 all_goals first|(simp[*];done)|(simp_all;done)|(simp_all;omega)|(simp_all;exact decide_eq_decide.2 Iff.rfl)|(simp_all;intro h;have:=of_decide_eq_true h;omega)|(simp_all;rw[Dk];simp;done)|(simp_all;rw[Dk];simp;omega)|(simp_all;exact beqB _ _)
end Go.Proofs.YteedihhdcbepmaaGreat
