/- A type that comes in as an argument lies in .. -/
import Derived.Test.YteedihhdcbepmaaGreatTb22
set_option maxRecDepth 100000
open Go.Value renaming slice→vS,int→vI,string→vT
open Go.IntKind renaming i64→i6
open Go.Proofs.Tryz
open Go.Proofs.Tryz renaming prog→tP
namespace Go.Proofs.YteedihhdcbepmaaGreat
open Go Go.RowKit Go.WideShapes Go.Deep
section
variable {H:Type}{enc:TypeId×Value->H}{P:Program}{w:World}{spare:Nat->Bool}{held:Bool}
def Wgt (P:Program) (t:TypeId) (d:DataW H):Prop:=∀ n∈d.weights P t,n<=reachBytes
theorem zR6 {ts:List TypeId}{ds:List (DataW H)}{t:TypeId}{d:DataW H}(h:(DataW.weightsEach P ts ds).all (·<=reachBytes)=true) (j:Nat) (ht:ts[j]?=some t) (hd:ds[j]?=some d):Wgt P t d:=fun n hn=>by
 have:=List.all_eq_true.1 h _ (DataW.weights_mem_each ht hd n hn);simpa using this
theorem zFm {e:TypeId}:∀ {ds:List (DataW H)}{d:DataW H},d∈ds->∀ n∈d.weights P e,n∈DataW.weightsAll P e ds
 | d0::ds,d,h,n,hn=>by
  simp only[DataW.weightsAll,List.mem_append];rcases List.mem_cons.1 h with rfl|h
  ·exact .inl hn
  ·exact .inr (zFm h n hn)
theorem zCn {t:TypeId}{l:List (TypeId×Nat)}{k:Nat}{cs:List Value}{x:DataW H×List MemPlace}(hl:zCz P t=some l) (h:DataW.trod enc P w 0 spare held k t cs=some x) (hw:Wgt P t x.1) :
  ∃ n,k=n+1/\cs.length=P.cellsOf t/\∀ (i:Nat) (p:TypeId×Nat),l[i]?=some p->∃ y,DataW.trod enc P w 0 spare held n p.1 ((cs.drop p.2).take (P.cellsOf p.1))=some y/\Wgt P p.1 y.1:=by
 obtain⟨fs,b,g,hf⟩:=zEl hl;obtain⟨xs,n,hk,c,a,e,hx⟩:=DataW.trod_struct b h;subst c;refine⟨n,hk,a,fun i p hp=>?_⟩;obtain⟨f,h1,h2,h3⟩:=hf i p hp;have h4:=hx i f h1;rw[h2,h3]at h4;have hi:i<xs.length:=by
  have:=(List.getElem?_eq_some_iff.1 hp).1;omega
 have h5:=List.getElem?_eq_getElem hi;refine⟨xs[i],by rw[h4];exact h5,fun m hm=>hw m ?_⟩;simp only[DataW.weights,b];exact DataW.weights_mem_each (j:=i) (t:=p.1) (d:=xs[i].1) (by simp[h1,h2]) (by simp[h5]) m hm
theorem zK2 {t e:TypeId}{k:Nat}{a b:Value}{x:DataW H×List MemPlace}(ht:P.underlying t=some (.array 2 e)) (hc:P.cellsOf e=1) (h:DataW.trod enc P w 0 spare held k t [a,b]=some x) :
  ∃ n y z,DataW.trod enc P w 0 spare held n e [a]=some y/\DataW.trod enc P w 0 spare held n e [b]=some z:=by
 obtain⟨xs,m,_,_,_,hl,hx⟩:=DataW.trod_array ht h;have h0:=hx 0 (by omega);have h1:=hx 1 (by omega);rw[hc,List.getElem?_eq_getElem (by omega)]at h0 h1;exact⟨m,_,_,h0,h1⟩
theorem zFz {n c:Nat}{t e:TypeId}{u:Value}{y:DataW H×List MemPlace}{α:Type}(R:α->List Value->Prop) (ht:P.underlying t=some (.slice e)) (hc:P.cellsOf e=c) (hpos:0<c)
  (h:DataW.trod enc P w 0 spare held n t [u]=some y) (hw:Wgt P t y.1) (hR:∀ m cs z,m<n->DataW.trod enc P w 0 spare held m e cs=some z->Wgt P e z.1->∃ x:α,R x cs) :
  ∃ l:List α,RowP w w.heap.size c u l.length (fun j cs=>∃ x,l[j]?=some x/\R x cs)/\l.length*P.bytesOf e<=reachBytes:=by
 rcases DataW.trod_slice ht h with⟨h0,_⟩|⟨a,len,cap,g,rest,m,rfl,hu,hy,hb,hl,hm,p,v,_⟩
 ·simp only[List.cons.injEq,and_true]at h0;subst h0;exact⟨[],⟨none,0,rfl,⟨Nat.zero_le _,Nat.le_refl _⟩,fun hn=>absurd hn (by simp)⟩,by simp⟩
 ·simp only[List.cons.injEq,and_true]at hu;subst hu hy;have s:len*P.bytesOf e<=reachBytes:=by
   have h1:=hw ((g.length+rest.length)*P.bytesOf e) (by simp[DataW.weights,ht]);rw[p]at h1;exact Nat.le_trans (Nat.mul_le_mul_right _ (Nat.le_add_right _ _)) h1
  have d:∀ i:Fin len,∃ x:α,∃ cs:List Value,cs.length=c/\(∀ q,q<c->w.cell? ((a.add (i.1*c)).add q)=cs[q]?)/\R x cs:=by
   intro i;have h1:=v i.1 i.2;rw[List.getElem?_eq_getElem (by omega),hc]at h1;obtain⟨cs,h2,h3⟩:=Option.bind_eq_some_iff.1 h1;obtain⟨_,h4,h5⟩:=World.cells?_some h2;obtain⟨x,hx⟩:=hR m cs _ (by omega) h3 fun q hq=>hw q (by
    simp only[DataW.weights,ht,List.mem_cons,List.mem_append];exact .inr (.inl (zFm (List.mem_map.2 ⟨_,List.getElem_mem _,rfl⟩) q hq)))
   exact⟨x,cs,h4,h5,hx⟩
  refine⟨List.ofFn fun i=>Classical.choose (d i),⟨some a,cap,by simp,⟨by simp;omega,by simp;omega⟩,fun hn=>?_⟩,by rw[List.length_ofFn];exact s⟩;rw[List.length_ofFn]at hn;obtain⟨b,r,o⟩:=a;obtain⟨A,k1,k2,_⟩:=Classical.choose_spec (d ⟨0,hn⟩);have k:=k2 0 hpos;rw[List.getElem?_eq_getElem (by omega)]at k;have f:o=none:=by simpa [Addr.add] using World.cell?_spot k
  subst f;refine⟨b,r,rfl,?_,?_,fun j hj=>?_⟩
  ·simpa [Addr.add] using World.block_lt_of_cell? _ _ k
  ·simpa [Addr.add] using World.block_lt_of_cell? _ _ k
  ·rw[List.length_ofFn]at hj;obtain⟨cs,k3,k4,k5⟩:=Classical.choose_spec (d ⟨j,hj⟩);refine⟨cs,k3,fun i hi=>?_,_,by rw[List.getElem?_ofFn,dif_pos hj],k5⟩;have:=k4 i hi;rw[zEq,zEq]at this;rw[<-this]
end
theorem zHw {H:Type}{enc:TypeId×Value->H}{W:World}{fuel:Nat}{u:Value}{x:DataW H×List MemPlace}(hf:DataW.trod enc tP W 0 (fun _=>true) true fuel 22 [u]=some x) (hw:Wgt tP 22 x.1) :
  ∃ ns:List Tn,RowP W W.heap.size 8 u ns.length (tnR W (fun b=>b<W.heap.size) ns)/\∀ y∈ns,szN y<=2 ^ 60:=by
 have g:zCz tP 40=some [(3,0),(2,1),(2,2),(9,3),(25,4),(37,5),(38,6)]:=by kernel_rfl
 have k:zCz tP 150=some [(131,0),(3,2),(4,3)]:=by kernel_rfl
 have j:zCz tP 131=some [(3,0),(9,1)]:=by kernel_rfl
 have c1:tP.cellsOf 3=1:=by kernel_rfl
 have c2:tP.cellsOf 2=1:=by kernel_rfl
 have c3:tP.cellsOf 9=1:=by kernel_rfl
 have c4:tP.cellsOf 25=1:=by kernel_rfl
 have c5:tP.cellsOf 37=1:=by kernel_rfl
 have c6:tP.cellsOf 38=2:=by kernel_rfl
 have c7:tP.cellsOf 131=2:=by kernel_rfl
 have c8:tP.cellsOf 4=1:=by kernel_rfl
 have cN:tP.cellsOf 40=8:=by kernel_rfl
 have cF:tP.cellsOf 150=4:=by kernel_rfl
 have b1:tP.bytesOf 3=8:=by kernel_rfl
 have b2:tP.bytesOf 150=40:=by kernel_rfl
 have ui:tP.underlying 3=some (.int .i64):=underlying3;have ul:tP.underlying 2=some (.int .i64):=underlying2;have us:tP.underlying 9=some .string:=underlying9;have ub:tP.underlying 4=some .bool:=underlying4;have ua:tP.underlying 38=some (.array 2 3):=underlying38;obtain⟨l,hl,_⟩:=zFz (α:=Tn) (fun y cs=>TnB W (fun b=>b<W.heap.size) y cs/\szN y<=2 ^ 60) underlying22 cN (by omega) hf hw (by
  intro m cs z _ hz hzw;obtain⟨q,rfl,c,hg⟩:=zCn g hz hzw;rw[cN]at c;obtain⟨a0,a1,a2,a3,a4,a5,a6,a7,rfl⟩:∃ a0 a1 a2 a3 a4 a5 a6 a7,cs=[a0,a1,a2,a3,a4,a5,a6,a7]:=by
   match cs,c with
   | [a0,a1,a2,a3,a4,a5,a6,a7],_=>exact⟨a0,a1,a2,a3,a4,a5,a6,a7,rfl⟩
  obtain⟨_,g0,_⟩:=hg 0 _ rfl;obtain⟨_,g1,_⟩:=hg 1 _ rfl;obtain⟨_,g2,_⟩:=hg 2 _ rfl;obtain⟨_,g3,_⟩:=hg 3 _ rfl;obtain⟨_,g4,w4⟩:=hg 4 _ rfl;obtain⟨_,g5,w5⟩:=hg 5 _ rfl;obtain⟨_,g6,_⟩:=hg 6 _ rfl;simp only[c1,c2,c3,c4,c5,c6,List.drop_zero,List.drop_succ_cons,List.take_succ_cons,List.take_zero]at g0 g1 g2 g3 g4 g5 g6;obtain⟨i0,e0,_,v0⟩:=DataW.trod_int ui g0;obtain⟨i1,e1,_,v1⟩:=DataW.trod_int ul g1;obtain⟨i2,e2,_,v2⟩:=DataW.trod_int ul g2;obtain⟨s3,e3,_,v3⟩:=DataW.trod_string us g3;obtain⟨_,_,_,f6,f7⟩:=zK2 ua c1 g6;obtain⟨i9,e6,_,v6⟩:=DataW.trod_int ui f6;obtain⟨i7,e7,_,v7⟩:=DataW.trod_int ui f7;simp only[List.cons.injEq,and_true]at e0 e1 e2 e3 e6 e7;subst e0 e1 e2 e3 e6 e7;obtain⟨a,hk,f⟩:=zFz (α:=Int) (fun x cs=>cs=[vI i6 x]/\i64B x) underlying25 c1 (by omega) g4 w4 (fun m cs z _ hz _=>by
   obtain⟨i,e,_,wi⟩:=DataW.trod_int ui hz;exact⟨i,e,wi⟩)
  obtain⟨d,hd,n⟩:=zFz (α:=Fd) (fun x cs=>cs=fdC x/\FdOk x) underlying37 cF (by omega) g5 w5 (by
   intro m cs z _ hz hzw;obtain⟨q,rfl,c,hg⟩:=zCn k hz hzw;rw[cF]at c;obtain⟨a0,a1,a2,a3,rfl⟩:∃ a0 a1 a2 a3,cs=[a0,a1,a2,a3]:=by
    match cs,c with
    | [a0,a1,a2,a3],_=>exact⟨a0,a1,a2,a3,rfl⟩
   obtain⟨_,g0,w0⟩:=hg 0 _ rfl;obtain⟨_,g1,_⟩:=hg 1 _ rfl;obtain⟨_,g2,_⟩:=hg 2 _ rfl;simp only[c1,c7,c8,List.drop_zero,List.drop_succ_cons,List.take_succ_cons,List.take_zero]at g0 g1 g2;obtain⟨q,rfl,_,hg⟩:=zCn j g0 w0;obtain⟨_,k0,_⟩:=hg 0 _ rfl;obtain⟨_,k1,_⟩:=hg 1 _ rfl;simp only[c1,c3,List.drop_zero,List.drop_succ_cons,List.take_succ_cons,List.take_zero]at k0 k1;obtain⟨i0,e0,_,v0⟩:=DataW.trod_int ui k0;obtain⟨s1,e1,_,v1⟩:=DataW.trod_string us k1;obtain⟨i2,e2,_,v2⟩:=DataW.trod_int ui g1;obtain⟨b3,e3,_⟩:=DataW.trod_bool ub g2;simp only[List.cons.injEq,and_true]at e0 e1 e2 e3;subst e0 e1 e2 e3;exact⟨⟨(i0,s1.data.toList),i2,b3⟩,by unfold fdC;rw[zKe],v0,by simpa using v1,v2⟩)
  rw[b1]at f;rw[b2]at n;have hr:=reachBytes_lt;exact⟨⟨i0,i1,i2,s3.data.toList,a,d,i9,i7⟩,⟨a4,a5,by rw[zKe],⟨v0,v1,v2,by simpa using v3,v6,v7⟩,hk,hd⟩,by unfold szN;show a.length+d.length<=2 ^ 60;omega⟩)
 refine⟨l,hl.sub (fun _ h=>h) fun _ _ ⟨x,hx,h,_⟩=>⟨x,hx,h⟩,fun y hy=>?_⟩;obtain⟨i,hi⟩:=List.mem_iff_getElem?.1 hy;obtain⟨_,_,_,_,h3⟩:=id hl;obtain⟨_,_,_,_,_,h4⟩:=h3 (by have:=(List.getElem?_eq_some_iff.1 hi).1;omega);obtain⟨_,_,_,x,hx,_,hz⟩:=h4 i (List.getElem?_eq_some_iff.1 hi).1;rw[hi]at hx;injection hx with hx;rw[hx];exact hz
theorem zIi {H:Type}{enc:TypeId×Value->H}{W:World}{base:Nat}{v:Value}{d:DataW H}{p:List MemPlace}(hval:Value.okWide tP W .any base 24 v) (h:DataW.Trod enc tP W 0 (fun _=>true) true 24 v d p) (hw:Wgt tP 24 d) :
  ∃ A c q ns,v=.agg #[vS A (List.length ns) c,vI i6 q]/\TyP W W.heap.size ns q [vS A ns.length c,vI i6 q]/\∀ y∈ns,szN y<=2 ^ 60:=by
 have e:zCz tP 24=some [(22,0),(3,1)]:=by kernel_rfl
 have k:tP.cellsOf 3=1:=by kernel_rfl
 have i:tP.cellsOf 22=1:=by kernel_rfl
 have j:tP.cellsOf 24=2:=by kernel_rfl
 obtain⟨fs,g,_⟩:=zEl e;obtain⟨cs,rfl,m⟩:=okWide_struct g hval;obtain⟨l,hf⟩:=h;have hc:(Value.agg cs).cells.toList=cs.toList:=rfl;rw[hc]at hf;obtain⟨q,rfl,hl,hg⟩:=zCn e hf hw;rw[j]at hl;obtain⟨a,b,f⟩:∃ a b,cs.toList=[a,b]:=by
  match h:cs.toList,hl with
  | [a,b],_=>exact⟨a,b,rfl⟩
 rw[f]at hg;obtain⟨z0,g0,w0⟩:=hg 0 _ rfl;obtain⟨z1,g1,_⟩:=hg 1 _ rfl;simp only[k,i,List.drop_zero,List.drop_succ_cons,List.take_succ_cons,List.take_zero]at g0 g1;obtain⟨ns,hN,hz⟩:=zHw g0 w0;obtain⟨A,c,rfl,_⟩:=hN.form;obtain⟨i1,e1,_,v1⟩:=DataW.trod_int underlying3 g1;simp only[List.cons.injEq,and_true]at e1;subst e1;exact⟨A,c,i1,ns,by rw[<-Array.toArray_toList (xs:=cs),f],⟨_,rfl,v1,hN⟩,hz⟩
end Go.Proofs.YteedihhdcbepmaaGreat
