/- The program's search for connectives that .. -/
import Derived.Test.YteedihhdcbepmaaGreatTsZ
import Derived.Test.YteedihhdcbepmaaGreatTs00
import Derived.Deep.RegionHeld3
import Derived.BigQuiet
set_option maxHeartbeats 800000
set_option linter.all false
open Go.Value renaming slice→vS,int→vI,string→vT
open Go.IntKind renaming i64→i6
open Go.Proofs.Tryz
open Go.Proofs.Tryz renaming prog→tP
namespace Go.Proofs.YteedihhdcbepmaaGreat
open Go Go.RowKit
def sn (s:List Int) (k:Nat):Int:=s[k]?.getD 0
def zBx (c:List Int->Nat->Bool×List Int):List Int->List Int->Bool×List Int
 | [],s=>(false,s)
 | k::l,s=>match c s k.toNat with
  | (true,s')=>(true,s')
  | (false,s')=>zBx c l s'
def clC (ns:List Tn):Nat->List Int->Nat->Bool×List Int
 | 0,s,_=>(true,s)
 | u+1,s,n=>match ns[n]? with
  | none=>(false,s)
  | some x=>
   if conn x=false\/sn s n=2 then (false,s)
   else if sn s n=1 then (true,s)
   else match zBx (clC ns u) x.kids (s.set n 1)with
    | (true,s')=>(true,s')
    | (false,s')=>(false,s'.set n 2)
def allC (ns:List Tn) (u:Nat):List Nat->List Int->Bool
 | [],_=>false
 | n::l,s=>match clC ns u s n with
  | (true,_)=>true
  | (false,s')=>allC ns u l s'
theorem zB6 (s:List Int) (i k:Nat) (b:Int):sn (s.set i b) k=if i=k/\i<s.length then b else sn s k:=by
 unfold sn;rw[Er];by_cases h:i=k
 ·subst h;by_cases h2:i<s.length
  ·rw[if_pos rfl,if_pos h2,if_pos ⟨rfl,h2⟩];rfl
  ·rw[if_pos rfl,if_neg h2,if_neg (fun h=>h2 h.2),Ce (by omega)]
 ·rw[if_neg h,if_neg (fun h'=>h h'.1)]
inductive Way (ns:List Tn):Nat->Nat->Prop where
 | one {i:Nat}{x y:Tn}{k:Int}:ns[i]?=some x->conn x=true->k∈x.kids->ns[k.toNat]?=some y->conn y=true->Way ns i k.toNat
 | more {i j:Nat}{x y:Tn}{k:Int}:Way ns i j->ns[j]?=some x->conn x=true->k∈x.kids->ns[k.toNat]?=some y->conn y=true->Way ns i k.toNat
theorem Way.falls {ns:List Tn}{f:Nat->Nat}(hf:∀ i x,ns[i]?=some x->conn x=true->∀ k∈x.kids,∀ y,ns[k.toNat]?=some y->conn y=true->f k.toNat<f i){i j:Nat}(h:Way ns i j):f j<f i:=by
 induction h with
 | one h1 h2 h3 h4 h5=>exact hf _ _ h1 h2 _ h3 _ h4 h5
 | more _ h1 h2 h3 h4 h5 ih=>exact Nat.lt_trans (hf _ _ h1 h2 _ h3 _ h4 h5) ih
theorem Way.not_ctr {ns:List Tn}{i:Nat}(h:Way ns i i):¬ Ctr ns:=fun ⟨_,hf⟩=>Nat.lt_irrefl _ (h.falls hf)
def FinC (ns:List Tn) (s:List Int):Prop:=
 s.length=ns.length/\(∀ i,sn s i=0\/sn s i=1\/sn s i=2)/\∃ f:Nat->Nat,∀ i x,ns[i]?=some x->sn s i=2->∀ k∈x.kids,∀ y,ns[k.toNat]?=some y->conn y=true->sn s k.toNat=2/\f k.toNat<f i
structure StepC (ns:List Tn) (s s':List Int):Prop where
 fin:FinC ns s'
 one:∀ i,sn s' i=1↔sn s i=1
 two:∀ i,sn s i=2->sn s' i=2
def zer (s:List Int):Nat:=s.countP (fun x=>x==0)
theorem zL7 {s:List Int}{n:Nat}{b:Int}(hn:n<s.length) (h0:sn s n=0) (hb:b≠0):zer (s.set n b)+1=zer s:=by
 induction s generalizing n with
 | nil=>simp at hn
 | cons a s ih=>
  cases n with
  | zero=>
   have ha:a=0:=by simpa [sn] using h0
   subst ha;simp[zer,hb]
  | succ n=>
   have:=ih (n:=n) (by simpa using hn) (by simpa [sn] using h0);unfold zer at this ⊢;rw[Df,D7,D7];omega
theorem zL8:∀ {s s':List Int},s.length=s'.length->(∀ i,sn s' i=0->sn s i=0)->zer s'<=zer s
 | [],[],_,_=>Bc _
 | [],_::_,h,_=>absurd h (by simp)
 | _::_,[],h,_=>absurd h (by simp)
 | a::s,b::s',h,hi=>by
  have h1:=zL8 (s:=s) (s':=s') (by simpa using h) (fun i hz=>by simpa [sn] using hi (i+1) (by simpa [sn] using hz));have h2:b=0->a=0:=by simpa [sn] using hi 0
  unfold zer at h1 ⊢;rw[D7,D7];by_cases hb:b=0
  ·simp[hb,h2 hb];omega
  ·have:(b==0)=false:=by simpa using hb
   rw[this];simp only[Bool.false_eq_true,if_false];split<;>omega
theorem StepC.refl {ns:List Tn}{s:List Int}(h:FinC ns s):StepC ns s s:=⟨h,fun _=>Iff.rfl,fun _ h=>h⟩
theorem StepC.trans {ns:List Tn}{s s' s'':List Int}(h:StepC ns s s') (h':StepC ns s' s''):StepC ns s s'':=⟨h'.fin,fun i=>(h'.one i).trans (h.one i),fun i hi=>h'.two i (h.two i hi)⟩
theorem StepC.zer {ns:List Tn}{s s':List Int}(h:StepC ns s s') (hs:FinC ns s):zer s'<=zer s:=by
 refine zL8 (hs.1.trans h.fin.1.symm) fun i hi=>?_;rcases hs.2.1 i with h0|h0|h0
 ·exact h0
 ·have:=(h.one i).2 h0;omega
 ·have:=h.two i h0;omega
theorem zSy {ns:List Tn}(hv:∀ x∈ns,x.kids.all (idxB ns.length)=true):∀ (u:Nat) (s:List Int) (n:Nat),FinC ns s->zer s<u->n<ns.length->(∀ e,sn s e=1->∀ x,ns[n]?=some x->conn x=true->Way ns e n) ->
  ((clC ns u s n).1=true->¬ Ctr ns)/\((clC ns u s n).1=false->StepC ns s (clC ns u s n).2/\∀ x,ns[n]?=some x->conn x=true->sn (clC ns u s n).2 n=2):=by
 intro u
 induction u with
 | zero=>intro s n _ h;omega
 | succ u ih=>
  intro s n hs hz hn hw;have hx:=By hn;generalize ns[n]=x at hx;unfold clC;rw[hx];simp only;by_cases h1:conn x=false\/sn s n=2
  ·rw[if_pos h1];refine⟨fun h=>by simp at h,fun _=>⟨StepC.refl hs,fun y hy hc=>?_⟩⟩;injection hy with hy;subst hy;rcases h1 with h1|h1
   ·rw[h1]at hc;simp at hc
   ·exact h1
  rw[if_neg h1];have m:conn x=true:=by cases h:conn x<;>simp_all
  by_cases h2:sn s n=1
  ·rw[if_pos h2];exact⟨fun _=>(hw n h2 x hx m).not_ctr,fun h=>by simp at h⟩
  rw[if_neg h2];have h0:sn s n=0:=by
   rcases hs.2.1 n with h|h|h
   ·exact h
   ·exact absurd h h2
   ·exact absurd (.inr h) h1
  have w:n<s.length:=by rw[hs.1];exact hn
  have r:FinC ns (s.set n 1):=by
   obtain⟨a,b,f,hf⟩:=hs;refine⟨by simpa using a,fun i=>?_,f,fun i y hy hi k hk z hzz hc=>?_⟩
   ·rw[zB6];split
    ·exact .inr (.inl rfl)
    ·exact b i
   ·rw[zB6]at hi;split at hi
    ·omega
    have h:=hf i y hy hi k hk z hzz hc;refine⟨?_,h.2⟩;rw[zB6,if_neg (fun hh=>by rw[hh.1]at h0;omega)];exact h.1
  have E:=zL7 (b:=1) w h0 (by decide);have B:∀ k∈x.kids,k.toNat<ns.length:=by
   intro k hk;have:=Cz.1 (hv x (Bh hx)) k hk;simp only[idxB,Cy,Bf]at this;omega
  have o:∀ (l:List Int) (t:List Int),(∀ k∈l,k∈x.kids)->StepC ns (s.set n 1) t ->
    ((zBx (clC ns u) l t).1=true->¬ Ctr ns)/\((zBx (clC ns u) l t).1=false->StepC ns (s.set n 1) (zBx (clC ns u) l t).2/\(∀ i,sn t i=2->sn (zBx (clC ns u) l t).2 i=2)/\∀ k∈l,∀ y,ns[k.toNat]?=some y->conn y=true->sn (zBx (clC ns u) l t).2 k.toNat=2):=by
   intro l
   induction l with
   | nil=>intro t _ ht;exact⟨fun h=>by simp[zBx]at h,fun _=>⟨ht,fun _ h=>h,fun k hk=>by simp at hk⟩⟩
   | cons k l ihl=>
    intro t hl ht;have hk:=hl k (Ca ..);have C:=B k hk;have q:∀ e,sn t e=1->e=n\/sn s e=1:=by
     intro e he;have:=(ht.one e).1 he;rw[zB6]at this;split at this
     ·rename_i hh;exact .inl hh.1.symm
     ·exact .inr this
    have p:∀ e,sn t e=1->∀ y,ns[k.toNat]?=some y->conn y=true->Way ns e k.toNat:=by
     intro e he y hy hcy;rcases q e he with rfl|he
     ·exact .one hx m hk hy hcy
     ·exact .more (hw e he x hx m) hx m hk hy hcy
    have D:=ht.zer r;have hc:=ih t k.toNat ht.fin (by omega) C p;rw[zBx];cases hcl:clC ns u t k.toNat with
    | mk b t'=>
     rw[hcl]at hc;cases b with
     | true=>exact⟨fun _=>hc.1 rfl,fun h=>by simp at h⟩
     | false=>
      have h3:=hc.2 rfl;have h4:=ihl t' (fun k hk=>hl k (C0 _ hk)) (ht.trans h3.1);refine⟨h4.1,fun hf=>?_⟩;have h5:=h4.2 hf;refine⟨h5.1,fun i hi=>h5.2.1 i (h3.1.two i hi),fun k' hk' y hy hcy=>?_⟩;rcases Cs.1 hk' with rfl|hk'
      ·exact h5.2.1 _ (h3.2 y hy hcy)
      ·exact h5.2.2 k' hk' y hy hcy
  have hl:=o x.kids _ (fun _ h=>h) (StepC.refl r);cases hfc:zBx (clC ns u) x.kids (s.set n 1)with
  | mk b t'=>
   rw[hfc]at hl;cases b with
   | true=>exact⟨fun _=>hl.1 rfl,fun h=>by simp at h⟩
   | false=>
    have h3:=hl.2 rfl;refine⟨fun h=>by simp at h,fun _=>?_⟩;have v:n<t'.length:=by rw[h3.1.fin.1];exact hn
    have F:sn t' n=1:=(h3.1.one n).2 (by rw[zB6,if_pos ⟨rfl,w⟩]);refine⟨⟨?_,fun i=>?_,fun i hi=>?_⟩,fun y hy _=>by
     show sn (t'.set n 2) n=2;rw[zB6,if_pos ⟨rfl,v⟩]⟩
    ·obtain⟨a,b,f,hf⟩:=h3.1.fin;refine⟨by simpa using a,fun i=>?_,fun j=>if j=n then (x.kids.map fun k=>f k.toNat).sum+1 else f j,fun i y hy hi k hk z hzz hc=>?_⟩
     ·show sn (t'.set n 2) i=0\/_;rw[zB6];split
      ·exact .inr (.inr rfl)
      ·exact b i
     ·have hi:sn (t'.set n 2) i=2:=hi;show sn (t'.set n 2) k.toNat=2/\(if k.toNat=n then _ else _)<(if i=n then _ else _);by_cases d:i=n
      ·subst d;have A:y=x:=by rw[hx]at hy;injection hy with hy;exact hy.symm
       subst A;have g:=h3.2.2 k hk z hzz hc;have c:k.toNat≠i:=fun e=>by rw[e]at g;have g:sn t' i=2:=g;omega
       rw[zB6,if_neg (fun hh=>c hh.1.symm),if_neg c,if_pos rfl];have:=zCb (Ep (f:=fun k:Int=>f k.toNat) hk);exact⟨g,by omega⟩
      ·rw[zB6,if_neg (fun hh=>d hh.1.symm)]at hi;have hh:=hf i y hy hi k hk z hzz hc;have c:k.toNat≠n:=fun e=>by rw[e]at hh;have h9:sn t' n=2:=hh.1;omega
       rw[zB6,if_neg (fun hh=>c hh.1.symm),if_neg c,if_neg d];exact hh
    ·show sn (t'.set n 2) i=1↔_;rw[zB6];split
     ·rename_i hh;rw[<-hh.1];constructor
      ·intro h;omega
      ·intro h;omega
     ·rename_i hh;have d:n≠i:=fun e=>hh ⟨e,v⟩;rw[h3.1.one i,zB6,if_neg (fun h=>d h.1)]
    ·show sn (t'.set n 2) i=2;rw[zB6];split
     ·rfl
     ·refine h3.1.two i ?_;rw[zB6];split
      ·rename_i hh;rw[<-hh.1]at hi;omega
      ·exact hi
theorem zSe {ns:List Tn}(hv:∀ x∈ns,x.kids.all (idxB ns.length)=true) (u:Nat):∀ (l:List Nat) (s:List Int),FinC ns s->zer s<u->(∀ i,sn s i≠1)->(∀ n∈l,n<ns.length) ->
  (allC ns u l s=true->¬ Ctr ns)/\(allC ns u l s=false->∃ s',FinC ns s'/\(∀ i,sn s i=2->sn s' i=2)/\∀ n∈l,∀ x,ns[n]?=some x->conn x=true->sn s' n=2):=by
 intro l
 induction l with
 | nil=>intro s hs _ _ _;exact⟨fun h=>by simp[allC]at h,fun _=>⟨s,hs,fun _ h=>h,fun n hn=>by simp at hn⟩⟩
 | cons n l ih=>
  intro s hs hz h1 hl;have hc:=zSy hv u s n hs hz (hl n (Ca ..)) (fun e he=>absurd he (h1 e));rw[allC];cases hcl:clC ns u s n with
  | mk b s'=>
   rw[hcl]at hc;cases b with
   | true=>exact⟨fun _=>hc.1 rfl,fun h=>by simp at h⟩
   | false=>
    have h3:=hc.2 rfl;have a:zer s'<=zer s:=h3.1.zer hs;have h4:=ih s' h3.1.fin (by omega) (fun i hi=>h1 i ((h3.1.one i).1 hi)) (fun n hn=>hl n (C0 _ hn));refine⟨h4.1,fun hf=>?_⟩;obtain⟨t,t1,t2,t3⟩:=h4.2 hf;refine⟨t,t1,fun i hi=>t2 i (h3.1.two i hi),fun m hm x hx hcx=>?_⟩;rcases Cs.1 hm with rfl|hm
    ·exact t2 _ (h3.2 x hx hcx)
    ·exact t3 m hm x hx hcx
theorem zQ1 {ns:List Tn}(hv:∀ x∈ns,x.kids.all (idxB ns.length)=true):allC ns (ns.length+1) (List.range ns.length) (List.replicate ns.length 0)=!(zAk ns ns.length).all id:=by
 have hr:∀ i,sn (List.replicate ns.length (0:Int)) i=0:=by
  intro i;unfold sn;rw[Eh];split<;>rfl
 have hz:zer (List.replicate ns.length (0:Int))<=ns.length:=by
  unfold zer;have:=List.countP_le_length (p:=fun x:Int=>x==0) (l:=List.replicate ns.length (0:Int));simpa using this
 have h:=zSe hv (ns.length+1) (List.range ns.length) (List.replicate ns.length 0) ⟨by simp,fun i=>.inl (hr i),fun _=>0,fun i x _ h2=>by rw[hr]at h2;omega⟩ (by omega) (fun i=>by rw[hr];decide) (fun n hn=>List.mem_range.1 hn);cases ha:allC ns (ns.length+1) (List.range ns.length) (List.replicate ns.length 0)with
 | true=>
  cases hd:(zAk ns ns.length).all id with
  | false=>rfl
  | true=>exact absurd (zEq hd) (h.1 ha)
 | false=>
  obtain⟨s',⟨_,_,f,hf⟩,_,h3⟩:=h.2 ha;have hc:Ctr ns:=⟨f,fun i x hx hcx k hk y hy hcy=>(hf i x hx (h3 i (List.mem_range.2 (Bx.1 hx).1) x hx hcx) k hk y hy hcy).2⟩;rw[zGt hv hc];rfl
def edg (x:Tn):List Int:=x.kids++x.fds.map Fd.node++(if x.kind=13 then [x.r0,x.r1] else [])
inductive Rch (ns:List Tn) (r:Nat):Nat->Prop where
 | root:Rch ns r r
 | more {i:Nat}{x:Tn}{k:Int}:Rch ns r i->ns[i]?=some x->k∈edg x->Rch ns r k.toNat
def EdgOk (ns:List Tn):Prop:=∀ x∈ns,∀ k∈edg x,0<=k/\k<ns.length
def visC (ns:List Tn):Nat->List Bool×List Int->Nat->List Bool×List Int
 | 0,s,_=>s
 | u+1,s,n=>if dn s.1 n then s else match ns[n]? with
  | none=>s
  | some x=>(edg x).foldl (fun s k=>visC ns u s k.toNat) (s.1.set n true,s.2++[(n:Int)])
def fls (s:List Bool):Nat:=s.countP (fun x=>!x)
theorem zJz {s:List Bool}{n:Nat}(hn:n<s.length) (h0:dn s n=false):fls (s.set n true)+1=fls s:=by
 induction s generalizing n with
 | nil=>simp at hn
 | cons a s ih=>
  cases n with
  | zero=>
   have ha:a=false:=by simpa [dn] using h0
   subst ha;simp[fls]
  | succ n=>
   have:=ih (n:=n) (by simpa using hn) (by simpa [dn] using h0);unfold fls at this ⊢;rw[Df,D7,D7];omega
theorem zRb:∀ {s s':List Bool},s.length=s'.length->(∀ i,dn s i=true->dn s' i=true)->fls s'<=fls s
 | [],[],_,_=>Bc _
 | [],_::_,h,_=>absurd h (by simp)
 | _::_,[],h,_=>absurd h (by simp)
 | a::s,b::s',h,hi=>by
  have h1:=zRb (s:=s) (s':=s') (by simpa using h) (fun i hz=>by simpa [dn] using hi (i+1) (by simpa [dn] using hz));have h2:a=true->b=true:=by simpa [dn] using hi 0
  unfold fls at h1 ⊢;rw[D7,D7];cases a<;>cases b<;>simp_all<;>omega
structure VisS (ns:List Tn) (r:Nat) (s s':List Bool×List Int):Prop where
 len:s'.1.length=ns.length
 mono:∀ i,dn s.1 i=true->dn s'.1 i=true
 rch:∀ i,dn s'.1 i=true->dn s.1 i=true\/Rch ns r i
 clo:∀ i,dn s'.1 i=true->dn s.1 i=true\/∀ x,ns[i]?=some x->∀ k∈edg x,dn s'.1 k.toNat=true
 out:(∀ i:Int,i∈s.2↔0<=i/\dn s.1 i.toNat=true)->∀ i:Int,i∈s'.2↔0<=i/\dn s'.1 i.toNat=true
theorem VisS.refl {ns:List Tn}{r:Nat}{s:List Bool×List Int}(h:s.1.length=ns.length):VisS ns r s s:=⟨h,fun _ h=>h,fun _ h=>.inl h,fun _ h=>.inl h,fun h=>h⟩
theorem VisS.trans {ns:List Tn}{r:Nat}{s s' s'':List Bool×List Int}(h:VisS ns r s s') (h':VisS ns r s' s''):VisS ns r s s'':=by
 refine⟨h'.len,fun i hi=>h'.mono i (h.mono i hi),fun i hi=>?_,fun i hi=>?_,fun ho=>h'.out (h.out ho)⟩
 ·rcases h'.rch i hi with h1|h1
  ·exact h.rch i h1
  ·exact .inr h1
 ·rcases h'.clo i hi with h1|h1
  ·rcases h.clo i h1 with h2|h2
   ·exact .inl h2
   ·exact .inr fun x hx k hk=>h'.mono _ (h2 x hx k hk)
  ·exact .inr h1
theorem zRj {ns:List Tn}(he:EdgOk ns) (r:Nat):∀ (u:Nat) (s:List Bool×List Int) (n:Nat),s.1.length=ns.length->fls s.1<u->n<ns.length->Rch ns r n->VisS ns r s (visC ns u s n)/\dn (visC ns u s n).1 n=true:=by
 intro u
 induction u with
 | zero=>intro s n _ h;omega
 | succ u ih=>
  intro s n hs hz hn hr;have hx:=By hn;generalize ns[n]=x at hx;unfold visC;rw[hx];simp only;by_cases h1:dn s.1 n=true
  ·rw[if_pos h1];exact⟨VisS.refl hs,h1⟩
  rw[if_neg h1];have h0:dn s.1 n=false:=Eq.2 h1;have d:=zJz (hs ▸ hn) h0;have c:dn (s.1.set n true) n=true:=by rw[zCf,if_pos ⟨rfl,by omega⟩]
  have a:∀ (l:List Int) (t:List Bool×List Int),(∀ k∈l,k∈edg x)->t.1.length=ns.length->fls t.1<u ->
    VisS ns r t (l.foldl (fun s k=>visC ns u s k.toNat) t)/\∀ k∈l,dn (l.foldl (fun s k=>visC ns u s k.toNat) t).1 k.toNat=true:=by
   intro l
   induction l with
   | nil=>intro t _ ht _;exact⟨VisS.refl ht,fun k hk=>by simp at hk⟩
   | cons k l ihl=>
    intro t hl ht hzt;have hk:=hl k (Ca ..);have e:=he x (Bh hx) k hk;have hc:=ih t k.toNat ht hzt (by omega) (.more hr hx hk);have b:=ihl (visC ns u t k.toNat) (fun k hk=>hl k (C0 _ hk)) hc.1.len (by have:=zRb (ht.trans hc.1.len.symm) hc.1.mono;omega);rw[Dn];refine⟨hc.1.trans b.1,fun k' hk'=>?_⟩;rcases Cs.1 hk' with rfl|hk'
    ·exact b.1.mono _ hc.2
    ·exact b.2 k' hk'
  have hl:=a (edg x) (s.1.set n true,s.2++[(n:Int)]) (fun _ h=>h) (by simpa using hs) (by show fls (s.1.set n true)<u;omega);refine⟨⟨hl.1.len,fun i hi=>hl.1.mono i ?_,fun i hi=>?_,fun i hi=>?_,fun ho=>hl.1.out fun i=>?_⟩,hl.1.mono n c⟩
  ·show dn (s.1.set n true) i=true;rw[zCf];split
   ·rfl
   ·exact hi
  ·rcases hl.1.rch i hi with h|h
   ·have h:dn (s.1.set n true) i=true:=h;rw[zCf]at h;split at h
    ·rename_i hh;rw[<-hh.1];exact .inr hr
    ·exact .inl h
   ·exact .inr h
  ·rcases hl.1.clo i hi with h|h
   ·have h:dn (s.1.set n true) i=true:=h;rw[zCf]at h;split at h
    ·rename_i hh;rw[<-hh.1];right;intro y hy k hk;rw[hx]at hy;injection hy with hy;subst hy;exact hl.2 k hk
    ·exact .inl h
   ·exact .inr h
  ·show i∈s.2++[(n:Int)]↔0<=i/\dn (s.1.set n true) i.toNat=true;rw[B7,Ct,ho i,zCf];constructor
   ·rintro (⟨h1,h2⟩|rfl)
    ·refine⟨h1,?_⟩;split
     ·rfl
     ·exact h2
    ·exact⟨by omega,by rw[if_pos ⟨by omega,by omega⟩]⟩
   ·rintro⟨h1,h2⟩;split at h2
    ·rename_i hh;right;omega
    ·exact .inl ⟨h1,h2⟩
theorem Rch.closed {ns:List Tn}{r:Nat}{P:Nat->Prop}(hr:P r) (hc:∀ i,P i->∀ x,ns[i]?=some x->∀ k∈edg x,P k.toNat){i:Nat}(h:Rch ns r i):P i:=by
 induction h with
 | root=>exact hr
 | more _ h2 h3 ih=>exact hc _ ih _ h2 _ h3
theorem zMi {ns:List Tn}(he:EdgOk ns){r:Nat}(hr:r<ns.length) (i:Int) :
  i∈(visC ns (ns.length+1) (List.replicate ns.length false,[]) r).2↔0<=i/\Rch ns r i.toNat:=by
 have h0:∀ i,dn (List.replicate ns.length false) i=false:=by
  intro i;unfold dn;rw[Eh];split<;>rfl
 have hz:fls (List.replicate ns.length false)<ns.length+1:=by
  unfold fls;have:=List.countP_le_length (p:=fun x:Bool=>!x) (l:=List.replicate ns.length false);rw[D8]at this;omega
 have h:=zRj he r (ns.length+1) (List.replicate ns.length false,[]) r (by simp) hz hr .root;have ho:=h.1.out (fun i=>by simp[h0]);rw[ho i];refine and_congr_right fun _=>⟨fun hd=>?_,fun hd=>?_⟩
 ·rcases h.1.rch _ hd with h1|h1
  ·rw[h0]at h1;simp at h1
  ·exact h1
 ·refine Rch.closed (P:=fun i=>dn (visC ns (ns.length+1) (List.replicate ns.length false,[]) r).1 i=true) h.2 (fun i hi x hx k hk=>?_) hd;rcases h.1.clo i hi with h1|h1
  ·rw[h0]at h1;simp at h1
  ·exact h1 x hx k hk
structure WorkS (ns:List Tn) (r:Nat) (v:List Bool) (l:List Int):Prop where
 len:v.length=ns.length
 ok:∀ k∈l,0<=k/\k<ns.length
 rch:∀ i,dn v i=true->Rch ns r i
 rcl:∀ k∈l,Rch ns r k.toNat
 clo:∀ i,dn v i=true->∀ x,ns[i]?=some x->∀ k∈edg x,dn v k.toNat=true\/k∈l
 rt:dn v r=true\/(r:Int)∈l
def left (ns:List Tn) (v:List Bool):Nat:=((ns.zip v).map fun x=>if x.2 then 0 else (edg x.1).length+1).sum
theorem zKp:∀ {ns:List Tn}{v:List Bool}{n:Nat}{x:Tn},v.length=ns.length->ns[n]?=some x->dn v n=false->left ns (v.set n true)+(edg x).length+1=left ns v
 | [],_,_,_,_,h,_=>by simp at h
 | _::_,[],_,_,h,_,_=>by simp at h
 | y::ns,b::v,0,x,_,hx,h0=>by
  have hb:b=false:=by simpa [dn] using h0
  have hy:y=x:=by simpa using hx
  subst hb hy;simp[left];omega
 | y::ns,b::v,n+1,x,hl,hx,h0=>by
  have:=zKp (ns:=ns) (v:=v) (n:=n) (x:=x) (by simpa using hl) (by simpa using hx) (by simpa [dn] using h0);unfold left at this ⊢;rw[Df,List.zip_cons_cons,List.zip_cons_cons,Dm,Dm,List.sum_cons,List.sum_cons];omega
theorem WorkS.start {ns:List Tn}{r:Nat}(hr:r<ns.length):WorkS ns r (List.replicate ns.length false) [(r:Int)]:=by
 have h0:∀ i,dn (List.replicate ns.length false) i=false:=by
  intro i;unfold dn;rw[Eh];split<;>rfl
 refine⟨by simp,fun k hk=>?_,fun i h=>?_,fun k hk=>?_,fun i h=>?_,.inr (by simp)⟩
 ·simp at hk;omega
 ·rw[h0]at h;simp at h
 ·simp at hk;rw[hk];exact .root
 ·rw[h0]at h;simp at h
theorem WorkS.drop {ns:List Tn}{r:Nat}{v:List Bool}{l:List Int}{k:Int}(h:WorkS ns r v (l++[k])) (hd:dn v k.toNat=true):WorkS ns r v l:=by
 have hk:=h.ok k (by simp);refine⟨h.len,fun k hk=>h.ok k (by simp[hk]),h.rch,fun k hk=>h.rcl k (by simp[hk]),fun i hi x hx q hq=>?_,?_⟩
 ·rcases h.clo i hi x hx q hq with h1|h1
  ·exact .inl h1
  ·rcases B7.1 h1 with h2|h2
   ·exact .inr h2
   ·rw[Ct.1 h2];exact .inl hd
 ·rcases h.rt with h1|h1
  ·exact .inl h1
  ·rcases B7.1 h1 with h2|h2
   ·exact .inr h2
   ·left;have:=Ct.1 h2;rw[<-this]at hd;simpa using hd
theorem WorkS.see {ns:List Tn}{r:Nat}{v:List Bool}{l:List Int}{k:Int}{x:Tn}(he:EdgOk ns) (h:WorkS ns r v (l++[k])) (hx:ns[k.toNat]?=some x):WorkS ns r (v.set k.toNat true) (l++edg x):=by
 have hk:=h.ok k (by simp);have hr:=h.rcl k (by simp);have hm:∀ i,dn v i=true->dn (v.set k.toNat true) i=true:=by
  intro i hi;rw[zCf];split
  ·rfl
  ·exact hi
 have a:dn (v.set k.toNat true) k.toNat=true:=by rw[zCf,if_pos ⟨rfl,by rw[h.len];omega⟩]
 refine⟨by simpa using h.len,fun q hq=>?_,fun i hi=>?_,fun q hq=>?_,fun i hi y hy q hq=>?_,?_⟩
 ·rcases B7.1 hq with hq|hq
  ·exact h.ok q (by simp[hq])
  ·exact he x (Bh hx) q hq
 ·rw[zCf]at hi;split at hi
  ·rename_i hh;rw[<-hh.1];exact hr
  ·exact h.rch i hi
 ·rcases B7.1 hq with hq|hq
  ·exact h.rcl q (by simp[hq])
  ·exact .more hr hx hq
 ·rw[zCf]at hi;split at hi
  ·rename_i hh;rw[<-hh.1,hx]at hy;injection hy with hy;subst hy;exact .inr (by simp[hq])
  ·rcases h.clo i hi y hy q hq with h1|h1
   ·exact .inl (hm _ h1)
   ·rcases B7.1 h1 with h2|h2
    ·exact .inr (by simp[h2])
    ·rw[Ct.1 h2];exact .inl a
 ·rcases h.rt with h1|h1
  ·exact .inl (hm _ h1)
  ·rcases B7.1 h1 with h2|h2
   ·exact .inr (by simp[h2])
   ·left;have:=Ct.1 h2;rw[<-this]at a ⊢;simpa using a
theorem WorkS.done {ns:List Tn}{r:Nat}{v:List Bool}(h:WorkS ns r v []) (i:Nat):dn v i=true↔Rch ns r i:=by
 refine⟨h.rch i,fun hd=>?_⟩;refine Rch.closed (P:=fun i=>dn v i=true) ?_ (fun i hi x hx k hk=>?_) hd
 ·rcases h.rt with h1|h1
  ·exact h1
  ·simp at h1
 ·rcases h.clo i hi x hx k hk with h1|h1
  ·exact h1
  ·simp at h1
def zHf (ns:List Tn) (r:Nat) (l:List (List UInt8)):Prop:=AscC cmpT l/\∀ s,s∈l↔∃ i x,Rch ns r i/\ns[i]?=some x/\x.kind=19/\x.text=s
theorem zHf.unique {ns:List Tn}{r:Nat}{l m:List (List UInt8)}(h:zHf ns r l) (h':zHf ns r m):l=m:=zGi totT h.1 h'.1 fun y=>(h.2 y).trans (h'.2 y).symm
theorem zKw {ns:List Tn}(h:∀ x∈ns,tnB ns.length x=true):EdgOk ns:=by
 intro x hx k hk;have h1:=h x hx;simp only[tnB,Cy,Cz,idxB,Bf]at h1;unfold edg at hk;rcases B7.1 hk with hk|hk
 ·rcases B7.1 hk with hk|hk
  ·exact h1.1.1 k hk
  ·by_cases hm:x.kind=13
   ·have h2:=h1.2;unfold formB at h2;rw[hm]at h2;obtain⟨f,hf,rfl⟩:=Cd.1 hk;simp[fdsB,idxB]at h2;exact (h2.1.1.1.1 f hf).1
   ·have h2:=h1.1.2;simp only[useB,Cy,Bool.or_eq_true,Bf,List.isEmpty_iff]at h2;rcases h2.2 with h3|h3
    ·exact absurd h3 hm
    ·rw[h3.1]at hk;simp at hk
 ·split at hk
  ·rename_i hm;have h2:=h1.2;unfold formB at h2;rw[hm]at h2;simp[idxB]at h2;simp at hk;rcases hk with rfl|rfl
   ·exact h2.1.2
   ·exact h2.2
  ·simp at hk
def kidK (k:Int):Bool:=decide (k=10\/k=12\/k=14\/k=16\/k=17\/k=18)
def useP (x:Tn):Bool:=
 (decide (x.kind=3)||decide (x.lo=0/\x.hi=0))&&(decide (x.kind=4\/x.kind=6\/x.kind=19)||x.text.isEmpty)&&(kidK x.kind||x.kids.isEmpty)&&(decide (x.kind=13)||(x.fds.isEmpty&&decide (x.r0=0/\x.r1=0)))
def zDw (l:List Fd):Bool:=l.all (fun f=>keyB f.key.1 f.key.2)&&decide (AscC cmpK (l.map Fd.key))
def formP (x:Tn):Bool:=
 if x.kind=1\/x.kind=2\/x.kind=5\/x.kind=7\/x.kind=8\/x.kind=9\/x.kind=11\/x.kind=15 then true
 else if x.kind=3 then decide (x.lo<=x.hi)
 else if x.kind=4 then decide (x.text.length<=64)
 else if x.kind=6 then atomB x.text
 else if x.kind=19 then varB x.text
 else if x.kind=10 then decide (x.kids.length<=4)
 else if x.kind=12 then decide (x.kids.length=2)
 else if x.kind=13 then zDw x.fds
 else if x.kind=14 then decide (1<=x.kids.length)&&decide (x.kids.length<=5)
 else if x.kind=16\/x.kind=17 then decide (1<=x.kids.length)
 else if x.kind=18 then decide (x.kids.length=1)
 else false
def refP (n:Nat) (x:Tn):Bool:=(edg x).all (idxB n)
theorem zCe {α:Type}(l:List α):l.isEmpty=decide (l.length=0):=by cases l<;>simp
theorem zNx (n:Nat) (l:List Fd):fdsB n l=(zDw l&&(l.map Fd.node).all (idxB n)):=by
 have h:∀ m:List Fd,m.all (fun f=>idxB n f.node&&keyB f.key.1 f.key.2)=(m.all (fun f=>keyB f.key.1 f.key.2)&&(m.map Fd.node).all (idxB n)):=by
  intro m
  induction m with
  | nil=>rfl
  | cons a m ih=>
   rw[De,De,Dm,De,ih];cases idxB n a.node<;>cases keyB a.key.1 a.key.2<;>cases m.all (fun f=>keyB f.key.1 f.key.2)<;>cases (m.map Fd.node).all (idxB n)<;>rfl
 unfold fdsB zDw;rw[h];cases l.all (fun f=>keyB f.key.1 f.key.2)<;>cases (l.map Fd.node).all (idxB n)<;>cases decide (AscC cmpK (l.map Fd.key))<;>rfl
theorem zRn (n:Nat) (x:Tn):refP n x=(x.kids.all (idxB n)&&(x.fds.map Fd.node).all (idxB n)&&(if x.kind=13 then idxB n x.r0&&idxB n x.r1 else true)):=by
 unfold refP edg;rw[List.all_append,List.all_append];split<;>simp
theorem zSf (n:Nat) (x:Tn):tnB n x=(useP x&&formP x&&refP n x):=by
 obtain⟨k,lo,hi,tx,ks,a,r0,r1⟩:=x;rw[zRn];unfold tnB useB useP formB formP kidK;simp only[zNx,zCe];by_cases h13:k=13
 ·subst h13;simp
  ac_rfl
 have hf:a=[]->(a.map Fd.node).all (idxB n)=true:=by rintro rfl;rfl
 by_cases hfe:a=[]
 ·subst hfe;by_cases hke:ks=[]
  ·subst hke;by_cases h3:k=3
   ·subst h3;simp
   by_cases h4:k=4
   ·subst h4;simp
   by_cases h6:k=6
   ·subst h6;simp
   by_cases h19:k=19
   ·subst h19;simp
   by_cases h1:k=1\/k=2\/k=5\/k=7\/k=8\/k=9\/k=11\/k=15
   ·rcases h1 with rfl|rfl|rfl|rfl|rfl|rfl|rfl|rfl<;>simp
   simp[h1,h3,h4,h6,h19,h13]
  ·have hl:¬ ks.length=0:=fun h=>hke (Cf h);by_cases h1:k=1\/k=2\/k=5\/k=7\/k=8\/k=9\/k=11\/k=15\/k=3\/k=4\/k=6\/k=19
   ·rcases h1 with rfl|rfl|rfl|rfl|rfl|rfl|rfl|rfl|rfl|rfl|rfl|rfl<;>simp[hl]
   by_cases h2:k=10\/k=12\/k=14\/k=16\/k=17\/k=18
   ·rcases h2 with rfl|rfl|rfl|rfl|rfl|rfl<;>simp<;>cases ks.all (idxB n)<;>simp
   simp only[not_or]at h1 h2;simp[h1,h2,h13]
 ·have hl:¬ a.length=0:=fun h=>hfe (Cf h);simp[hl,h13]
def nthOp:List Oper->Nat->Option Oper
 | [],_=>none
 | o::_,0=>some o
 | _::l,n+1=>nthOp l n
theorem zHs:∀ (l:List Oper) (i:Nat),l[i]?=nthOp l i
 | [],_=>by simp[nthOp]
 | _::_,0=>by simp[nthOp]
 | _::l,n+1=>by simpa [nthOp] using zHs l n
theorem op_at {l:List Oper}{i:Nat}{o:Oper}(h:nthOp l i=some o):l.toArray[i]?=some o:=by
 rw[List.getElem?_toArray,zHs];exact h
theorem zFo {P:Program}{md:Region.Mode}{l:List Oper}{Q:Exit->Act->World->Prop}{S:World->Prop}{i:Nat}{oi:Oper}{v:Value}{fuel:Nat}{listed:Array Bool}{a:Act}{w:World}(hi:nthOp l i=some oi)
  (hs:Region.noSelect l.toArray=true) (hf:Region.free md l.toArray listed i=true) (hr:(Region.ready md l.toArray listed).contains i=true)
  (hQ:∀ c a w,Q (.panic c) (a.put oi.dst v) w->Q (.panic c) a w) (hy:YieldsIf P l.toArray S oi v a) (hS:S w)
  (h:wpAnyH P md l.toArray Q S fuel (listed.setIfInBounds i true) (a.put oi.dst v) w):wpAnyH P md l.toArray Q S (fuel+1) listed a w:=
 wpAnyH_take (op_at hi) hs hf hr hQ hy hS h
theorem tk {P:Program}{md:Region.Mode}{l:List Oper}{Q:Exit->Act->World->Prop}{S:World->Prop}(i:Nat){oi:Oper}{v:Value}{fuel:Nat}{listed:Array Bool}{a:Act}{w:World}(hS:S w)
  (h:wpAnyH P md l.toArray Q S fuel (listed.setIfInBounds i true) (a.put oi.dst v) w)
  (hi:nthOp l i=some oi:=by exact rfl) (hs:Region.noSelect l.toArray=true:=by kernel_rfl) (hf:Region.free md l.toArray listed i=true:=by kernel_rfl) (hr:(Region.ready md l.toArray listed).contains i=true:=by kernel_rfl)
  (hQ:∀ c a w,Q (.panic c) (a.put oi.dst v) w->Q (.panic c) a w:=by exact fun _ _ _ h=>h) (hy:YieldsIf P l.toArray S oi v a:=by exact Or.inl ⟨by rfl,(by intro w hSw;(try dsimp only at hSw);go_simp;try with_reducible rfl)⟩):wpAnyH P md l.toArray Q S (fuel+1) listed a w:=
 zFo hi hs hf hr hQ hy hS h
theorem tu {P:Program}{md:Region.Mode}{l:List Oper}{Q:Exit->Act->World->Prop}{S:World->Prop}(i:Nat){oi:Oper}{fuel:Nat}{listed:Array Bool}{a:Act}{w:World}(hS:S w)
  (h:wpAnyH P md l.toArray Q S fuel (listed.setIfInBounds i true) (a.put oi.dst undef) w)
  (hi:nthOp l i=some oi:=by exact rfl) (hs:Region.noSelect l.toArray=true:=by kernel_rfl) (hf:Region.free md l.toArray listed i=true:=by kernel_rfl) (hr:(Region.ready md l.toArray listed).contains i=true:=by kernel_rfl)
  (hQ:∀ c a w,Q (.panic c) (a.put oi.dst undef) w->Q (.panic c) a w:=by exact fun _ _ _ h=>h) (hy:YieldsIf P l.toArray S oi undef a:=by exact Or.inr ⟨by rfl,rfl⟩):wpAnyH P md l.toArray Q S (fuel+1) listed a w:=
 zFo hi hs hf hr hQ hy hS h
theorem pA {α:Type}(l:List α) (i:Nat) (a:α):l.toArray.setIfInBounds i a=(l.set i a).toArray:=List.setIfInBounds_toArray ..
theorem pB {α:Type}(x:α) (l:List α) (a:α):(x::l).set 0 a=a::l:=rfl
theorem pC {α:Type}(x:α) (l:List α) (n:Nat) (a:α):(x::l).set (n+1) a=x::l.set n a:=rfl
theorem tY {P:Program}{md:Region.Mode}{l:List Oper}{Q:Exit->Act->World->Prop}{S:World->Prop}{j:Nat}{oi:Oper}{v:Value}{fuel:Nat}{listed:Array Bool}{a:Act}{w:World}(hS:S w) (h:wpAnyH P md l.toArray Q S fuel ((listed.setIfInBounds j true).setIfInBounds (j+1) true) (a.put oi.dst v) w) (hi:nthOp l (j+1)=some oi:=by exact rfl) (hs:Region.noSelect l.toArray=true:=by kernel_rfl) (hf:Region.free md l.toArray (listed.setIfInBounds j true) (j+1)=true:=by kernel_rfl) (hr:(Region.ready md l.toArray (listed.setIfInBounds j true)).contains (j+1)=true:=by kernel_rfl) (hQ:∀ c a w,Q (.panic c) (a.put oi.dst v) w->Q (.panic c) a w:=by exact fun _ _ _ h=>h) (hy:YieldsIf P l.toArray S oi v a:=by exact Or.inl ⟨by rfl,(by intro w hSw;(try dsimp only at hSw);go_simp;try with_reducible rfl)⟩):wpAnyH P md l.toArray Q S (fuel+1) (listed.setIfInBounds j true) a w:=
 zFo hi hs hf hr hQ hy hS h
theorem tZ {P:Program}{md:Region.Mode}{l:List Oper}{Q:Exit->Act->World->Prop}{S:World->Prop}{j:Nat}{oi:Oper}{fuel:Nat}{listed:Array Bool}{a:Act}{w:World}(hS:S w) (h:wpAnyH P md l.toArray Q S fuel ((listed.setIfInBounds j true).setIfInBounds (j+1) true) (a.put oi.dst undef) w) (hi:nthOp l (j+1)=some oi:=by exact rfl) (hs:Region.noSelect l.toArray=true:=by kernel_rfl) (hf:Region.free md l.toArray (listed.setIfInBounds j true) (j+1)=true:=by kernel_rfl) (hr:(Region.ready md l.toArray (listed.setIfInBounds j true)).contains (j+1)=true:=by kernel_rfl) (hQ:∀ c a w,Q (.panic c) (a.put oi.dst undef) w->Q (.panic c) a w:=by exact fun _ _ _ h=>h) (hy:YieldsIf P l.toArray S oi undef a:=by exact Or.inr ⟨by rfl,rfl⟩):wpAnyH P md l.toArray Q S (fuel+1) (listed.setIfInBounds j true) a w:=
 zFo hi hs hf hr hQ hy hS h
theorem oT {P:Program}{md:Region.Mode}{l:List Oper}{Q:Exit->Act->World->Prop}{S:World->Prop}(i:Nat){oi:Oper}{v:Value}{fuel:Nat}{listed:Array Bool}{a a':Act}{w:World}(hS:S w) (h:wpAnyH P md l.toArray Q S fuel (listed.setIfInBounds i true) a' w) (hi:nthOp l i=some oi:=by exact rfl) (hs:Region.noSelect l.toArray=true:=by kernel_rfl) (hf:Region.free md l.toArray listed i=true:=by kernel_rfl) (hr:(Region.ready md l.toArray listed).contains i=true:=by kernel_rfl) (hQ:∀ c a w,Q (.panic c) (a.put oi.dst v) w->Q (.panic c) a w:=by exact fun _ _ _ h=>h) (hy:YieldsIf P l.toArray S oi v a:=by exact Or.inl ⟨by rfl,(by intro w hSw;(try dsimp only at hSw);go_simp;try with_reducible rfl)⟩) (hp:a.put oi.dst v=a':=by (try simp only[pK]);try exact rfl):wpAnyH P md l.toArray Q S (fuel+1) listed a w:=by
 subst hp;exact tk i hS h hi hs hf hr hQ hy
theorem oU {P:Program}{md:Region.Mode}{l:List Oper}{Q:Exit->Act->World->Prop}{S:World->Prop}(i:Nat){oi:Oper}{fuel:Nat}{listed:Array Bool}{a a':Act}{w:World}(hS:S w) (h:wpAnyH P md l.toArray Q S fuel (listed.setIfInBounds i true) a' w) (hi:nthOp l i=some oi:=by exact rfl) (hs:Region.noSelect l.toArray=true:=by kernel_rfl) (hf:Region.free md l.toArray listed i=true:=by kernel_rfl) (hr:(Region.ready md l.toArray listed).contains i=true:=by kernel_rfl) (hQ:∀ c a w,Q (.panic c) (a.put oi.dst undef) w->Q (.panic c) a w:=by exact fun _ _ _ h=>h) (hy:YieldsIf P l.toArray S oi undef a:=by exact Or.inr ⟨by rfl,rfl⟩) (hp:a.put oi.dst undef=a':=by (try simp only[pK]);try exact rfl):wpAnyH P md l.toArray Q S (fuel+1) listed a w:=by
 subst hp;exact tu i hS h hi hs hf hr hQ hy
theorem oY {P:Program}{md:Region.Mode}{l:List Oper}{Q:Exit->Act->World->Prop}{S:World->Prop}{j:Nat}{oi:Oper}{v:Value}{fuel:Nat}{listed:Array Bool}{a a':Act}{w:World}(hS:S w) (h:wpAnyH P md l.toArray Q S fuel ((listed.setIfInBounds j true).setIfInBounds (j+1) true) a' w) (hi:nthOp l (j+1)=some oi:=by exact rfl) (hs:Region.noSelect l.toArray=true:=by kernel_rfl) (hf:Region.free md l.toArray (listed.setIfInBounds j true) (j+1)=true:=by kernel_rfl) (hr:(Region.ready md l.toArray (listed.setIfInBounds j true)).contains (j+1)=true:=by kernel_rfl) (hQ:∀ c a w,Q (.panic c) (a.put oi.dst v) w->Q (.panic c) a w:=by exact fun _ _ _ h=>h) (hy:YieldsIf P l.toArray S oi v a:=by exact Or.inl ⟨by rfl,(by intro w hSw;(try dsimp only at hSw);go_simp;try with_reducible rfl)⟩) (hp:a.put oi.dst v=a':=by (try simp only[pK]);try exact rfl):wpAnyH P md l.toArray Q S (fuel+1) (listed.setIfInBounds j true) a w:=by
 subst hp;exact tY hS h hi hs hf hr hQ hy
theorem oZ {P:Program}{md:Region.Mode}{l:List Oper}{Q:Exit->Act->World->Prop}{S:World->Prop}{j:Nat}{oi:Oper}{fuel:Nat}{listed:Array Bool}{a a':Act}{w:World}(hS:S w) (h:wpAnyH P md l.toArray Q S fuel ((listed.setIfInBounds j true).setIfInBounds (j+1) true) a' w) (hi:nthOp l (j+1)=some oi:=by exact rfl) (hs:Region.noSelect l.toArray=true:=by kernel_rfl) (hf:Region.free md l.toArray (listed.setIfInBounds j true) (j+1)=true:=by kernel_rfl) (hr:(Region.ready md l.toArray (listed.setIfInBounds j true)).contains (j+1)=true:=by kernel_rfl) (hQ:∀ c a w,Q (.panic c) (a.put oi.dst undef) w->Q (.panic c) a w:=by exact fun _ _ _ h=>h) (hy:YieldsIf P l.toArray S oi undef a:=by exact Or.inr ⟨by rfl,rfl⟩) (hp:a.put oi.dst undef=a':=by (try simp only[pK]);try exact rfl):wpAnyH P md l.toArray Q S (fuel+1) (listed.setIfInBounds j true) a w:=by
 subst hp;exact tZ hS h hi hs hf hr hQ hy
theorem oP {P:Program}{md:Region.Mode}{ops:Array Oper}{Q:Exit->Act->World->Prop}{S:World->Prop}{fuel:Nat}{listed:Array Bool}{a a':Act}{w:World}(h:wpAnyH P md ops Q S fuel listed a' w) (hp:a=a':=by (try simp only[pK]);try exact rfl):wpAnyH P md ops Q S fuel listed a w:=by
 subst hp;exact h
theorem oA {P:Program}{ops:Array Oper}{S:World->Prop}{o:Oper}{v:Value}{a:Act}(h0:Region.wanted o (yielded ops a.tmps)=true:=by rfl) (h:∀ w,S w->(execOp a.eval o).run P w=.ok (.value v) w:=by intro w _;go_simp;try with_reducible rfl):YieldsIf P ops S o v a:=Or.inl ⟨h0,h⟩
theorem oB {P:Program}{ops:Array Oper}{S:World->Prop}{o:Oper}{v:Value}{a:Act}(h0:Region.wanted o (yielded ops a.tmps)=true:=by rfl) (h:∀ w,S w->(execOp a.eval o).run P w=.ok (.value v) w:=by intro w hSw;obtain⟨a1,a2⟩:=hSw;go_simp;try with_reducible rfl):YieldsIf P ops S o v a:=Or.inl ⟨h0,h⟩
theorem oC {P:Program}{ops:Array Oper}{S:World->Prop}{o:Oper}{v:Value}{a:Act}(h0:Region.wanted o (yielded ops a.tmps)=true:=by rfl) (h:∀ w,S w->(execOp a.eval o).run P w=.ok (.value v) w:=by intro w hSw;obtain⟨⟨a0,a1⟩,⟨b0,b1,b2,b3,b4,b5,b6⟩,⟨c0,c1⟩,⟨d0,d1,d2,d3,d4,d5,d6⟩,⟨e0,e1⟩⟩:=hSw;go_simp;try with_reducible rfl):YieldsIf P ops S o v a:=Or.inl ⟨h0,h⟩
theorem oD {P:Program}{ops:Array Oper}{S:World->Prop}{o:Oper}{v:Value}{a:Act}(h0:Region.wanted o (yielded ops a.tmps)=true:=by rfl) (h:∀ w,S w->(execOp a.eval o).run P w=.ok (.value v) w:=by intro w hSw;obtain⟨b0,a0,a1,a2,a3,a4,a5,a6,a7⟩:=hSw;go_simp;try with_reducible rfl):YieldsIf P ops S o v a:=Or.inl ⟨h0,h⟩
theorem oF {P:Program}{ops:Array Oper}{S:World->Prop}{o:Oper}{v:Value}{a:Act}(h0:Region.wanted o (yielded ops a.tmps)=true:=by rfl) (h:∀ w,S w->(execOp a.eval o).run P w=.ok (.value v) w:=by intro w hSw;obtain⟨⟨b0,b1,b2,b3,b4,b5,b6⟩,⟨a0,a1⟩,⟨c0,c1⟩,⟨d0,d1⟩⟩:=hSw;go_simp;try with_reducible rfl):YieldsIf P ops S o v a:=Or.inl ⟨h0,h⟩
theorem zAi {P:Program}{l:List Oper}{Q:Exit->Act->World->Prop}{i:Nat}{o:Oper}{K:Act->World->Prop}{a:Act}{w:World}(ho:nthOp l i=some o) (hw:Region.wanted o (yielded l.toArray a.tmps)=true)
  (h:∀ K':Act->World->Prop,(∀ a w,K a w->K' a w)->Oper.wp P o a w K' Q):wpOp P l.toArray Q i K a w:=
 wpOp_step (op_at ho) fun K' hK=>by rw[if_pos hw];exact h K' hK
theorem zIt {P:Program}{md:Region.Mode}{l:List Oper}{Q:Exit->Act->World->Prop}{S:World->Prop}(i:Nat){o:Oper}{fuel:Nat}{listed:Array Bool}{a:Act}{w:World}(hr:Region.ready md l.toArray listed=[i]) (ho:nthOp l i=some o)
  (hw:Region.wanted o (yielded l.toArray a.tmps)=true) (h:∀ K':Act->World->Prop,(∀ a' w',S w'->wpAnyH P md l.toArray Q S fuel (listed.setIfInBounds i true) a' w'->K' a' w')->Oper.wp P o a w K' Q):wpAnyH P md l.toArray Q S (fuel+1) listed a w:=by
 refine C5 (rs:=[i]) hr (by simp) fun j hj=>?_;obtain rfl:j=i:=by simpa using hj
 exact zAi ho hw fun K' hK=>h K' fun a w hS hW=>hK a w ⟨hS,hW⟩
theorem oO {P:Program}{md:Region.Mode}{l:List Oper}{Q:Exit->Act->World->Prop}{S:World->Prop}(i:Nat){o:Oper}{fuel:Nat}{listed:Array Bool}{a:Act}{w:World}(h:∀ K':Act->World->Prop,(∀ a' w',S w'->wpAnyH P md l.toArray Q S fuel (listed.setIfInBounds i true) a' w'->K' a' w')->Oper.wp P o a w K' Q) (hr:Region.ready md l.toArray listed=[i]:=by kernel_rfl) (ho:nthOp l i=some o:=by exact rfl) (hw:Region.wanted o (yielded l.toArray a.tmps)=true:=by rfl):wpAnyH P md l.toArray Q S (fuel+1) listed a w:=
 zIt i hr ho hw h
theorem wD {P:Program}{md:Region.Mode}{ops:Array Oper}{Q:Exit->Act->World->Prop}{S:World->Prop}{listed:Array Bool}{a:Act}{w:World}(h:Q .normal a w) (hr:Region.ready md ops listed=[]:=by kernel_rfl){fuel:Nat}:wpAnyH P md ops Q S fuel listed a w:=wpAnyH_done hr h fuel
theorem obj7 {w:World}{g:Nat}{e:TypeId}{z0 z1 z2 z3 z4 z5 z6:Value}(h:w.heap[g]?=some (.cells #[z0,z1,z2,z3,z4,z5,z6] e (0,0))) (v0 v1 v2 v3 v4 v5 v6:Value):(((((((w.setCell ⟨g,0,none⟩ (v0)).setCell ⟨g,1,none⟩ (v1)).setCell ⟨g,2,none⟩ (v2)).setCell ⟨g,3,none⟩ (v3)).setCell ⟨g,4,none⟩ (v4)).setCell ⟨g,5,none⟩ (v5)).setCell ⟨g,6,none⟩ (v6)).heap[g]?=some (.cells #[v0,v1,v2,v3,v4,v5,v6] e (0,0)):=by
 have h0:=Bm _ g 0 _ e v0 h;have h1:=Bm _ g 1 _ e v1 h0;have h2:=Bm _ g 2 _ e v2 h1;have h3:=Bm _ g 3 _ e v3 h2;have h4:=Bm _ g 4 _ e v4 h3;have h5:=Bm _ g 5 _ e v5 h4;have h6:=Bm _ g 6 _ e v6 h5;simpa using h6
theorem obj9 {w:World}{g:Nat}{e:TypeId}{z0 z1 z2 z3 z4 z5 z6 z7 z8:Value}(h:w.heap[g]?=some (.cells #[z0,z1,z2,z3,z4,z5,z6,z7,z8] e (0,0))) (v0 v1 v2 v3 v4 v5 v6 v7 v8:Value):(((((((((w.setCell ⟨g,0,none⟩ (v0)).setCell ⟨g,1,none⟩ (v1)).setCell ⟨g,2,none⟩ (v2)).setCell ⟨g,3,none⟩ (v3)).setCell ⟨g,4,none⟩ (v4)).setCell ⟨g,5,none⟩ (v5)).setCell ⟨g,6,none⟩ (v6)).setCell ⟨g,7,none⟩ (v7)).setCell ⟨g,8,none⟩ (v8)).heap[g]?=some (.cells #[v0,v1,v2,v3,v4,v5,v6,v7,v8] e (0,0)):=by
 have h0:=Bm _ g 0 _ e v0 h;have h1:=Bm _ g 1 _ e v1 h0;have h2:=Bm _ g 2 _ e v2 h1;have h3:=Bm _ g 3 _ e v3 h2;have h4:=Bm _ g 4 _ e v4 h3;have h5:=Bm _ g 5 _ e v5 h4;have h6:=Bm _ g 6 _ e v6 h5;have h7:=Bm _ g 7 _ e v7 h6;have h8:=Bm _ g 8 _ e v8 h7;simpa using h8
theorem zCu {w:World}{base:Nat}{e:TypeId}{c:Nat}{v:Value}{n:Nat}{xs:List Value}{B:Nat->Prop}{R:Nat->List Value->Prop}(h:w.ownsRow base e c v n xs) (hn:n<=maxLen)
  (hB:∀ g,v.ownBlock=some g->base<=g->g<w.heap.size->B g) (hR:∀ j,j<n->R j ((xs.drop (j*c)).take c)) (hc:0<c):RowB w B c v n R:=by
 obtain⟨hl,a⟩:=h;rcases a with⟨rfl,rfl⟩|⟨g,cap,k,rfl,hb,hg,h1,h2,h3,h4⟩
 ·exact⟨none,0,rfl,⟨Bt _,Bc _⟩,fun h=>absurd h (by omega)⟩
 ·have b:g<w.heap.size:=(Cv.1 hg).1;refine⟨_,cap,rfl,⟨hn,h1⟩,fun _=>⟨g,0,rfl,hB g rfl hb b,b,fun j hj=>?_⟩⟩;have f:(j+1)*c<=n*c:=Di c hj;have d:n*c<=cap*c:=Di c h1;rw[C6,Nat.one_mul]at f;refine⟨(xs.drop (j*c)).take c,by simp;omega,fun i hi=>?_,hR j hj⟩;rw[Co hi,C7,<-h4,Co (by omega),Dx];rw[Bv hg];simp
theorem zAa {B:Nat->Prop}{w w':World}{g i:Nat}{v:Value}(h:Same B w w') (hg:¬ B g):Same B w (w'.setCell ⟨g,i,none⟩ v):=by
 refine⟨by simpa using h.size,fun b j hB hb=>?_⟩;rw[World.cell?_setCell_other _ _ _ _ (by intro e;simp only[Addr.mk.injEq]at e;exact hg (e.1 ▸ hB))];exact h.cell b j hB hb
mutual
def sml:Vl->Prop
 | .mk _ _ _ v y e l=>v.length<=4/\y.length<=2/\e.length<=2/\l.length<=2/\smlVs v/\smlEs e
def smlVs:List Vl->Prop
 | []=>True
 | a::s=>sml a/\smlVs s
def smlE:En->Prop
 | .mk a _ r=>a.length<=2/\smlVs a/\sml r
def smlEs:List En->Prop
 | []=>True
 | a::s=>smlE a/\smlEs s
end
theorem zFr:∀ {l:List Vl},smlVs l↔∀ x,x∈l->sml x
 | []=>by simp[smlVs]
 | a::s=>by simp[smlVs,zFr (l:=s)]
theorem zIh:∀ {l:List En},smlEs l↔∀ x,x∈l->smlE x
 | []=>by simp[smlEs]
 | a::s=>by simp[smlEs,zIh (l:=s)]
theorem zC0 (c:Int) (w:World) :
  Calls tP 109 #[.int .u8 c] w fun e w'=>e=.returned (.bool (lowB c))/\w=w':=by
 go_enter func109,ntmps109;go_wp2
 all_goals go_ret
 all_goals exact⟨zAb (by unfold lowB;simp;omega),rfl⟩
theorem zD7 (c:Int) (w:World) :
  Calls tP 113 #[.int .u8 c] w fun e w'=>e=.returned (.bool (upB c))/\w=w':=by
 go_enter func113,ntmps113;go_wp2
 all_goals go_ret
 all_goals exact⟨zAb (by unfold upB;simp;omega),rfl⟩
theorem zF3 (c:Int) (w:World) :
  Calls tP 110 #[.int .u8 c] w fun e w'=>e=.returned (.bool (digB c))/\w=w':=by
 go_enter func110,ntmps110;go_wp2
 all_goals go_ret
 all_goals exact⟨zAb (by unfold digB;simp;omega),rfl⟩
theorem zG0 (s:ByteArray) (w:World) (hs:s.size<=maxLen) :
  Calls tP 63 #[vT s] w fun e w'=>e=.returned (.bool (atomB s.data.toList))/\w=w':=by
 unfold maxLen at hs;unfold atomB;by_cases h1:s.size<1
 ·go_enter func63,ntmps63;go_wp2;go_ret;exact⟨zAb (zAq _ _ _ (by omega)).symm,rfl⟩
 ·by_cases h2:16<s.size
  ·go_enter func63,ntmps63;go_wp2;go_ret;exact⟨zAb (zAq _ _ _ (by omega)).symm,rfl⟩
  ·have h3:0<s.size:=by omega
   cases h4:lowB (s[0]'h3).toNat
   ·go_enter func63,ntmps63;go_wp2_with (go_at_call 109;refine (zC0 _ _).mono ?_;rintro e w' ⟨rfl,rfl⟩);go_ret;exact⟨zAb (zAq _ _ _ (.inr (.inr (.inl ⟨h3,h4⟩)))).symm,rfl⟩
   ·go_enter func63,ntmps63;go_wp2_with (go_at_call 109;refine (zC0 _ _).mono ?_;rintro e w' ⟨rfl,rfl⟩)
    go_loop [3] (fun i=>∃ k:Nat,1<=k/\k<=s.size/\i=vI i6 k/\∀ j (h:j<s.size),1<=j->j<k->atomT (s[j]'h).toNat=true) (fun i=>s.size-(intOf i).toNat)
    case atStart=>exact⟨1,by omega,by omega,rfl,fun j h a b=>by omega⟩
    case round=>
     obtain⟨k,d,hk,rfl,c⟩:=hrel;have HA:=xI c;clear c;go_wp2_with (first|(go_at_call 109;refine (zC0 _ _).mono ?_;rintro e w' ⟨rfl,rfl⟩)|(go_at_call 110;refine (zF3 _ _).mono ?_;rintro e w' ⟨rfl,rfl⟩))
     ·go_round
      case rel=>exact⟨k+1,by omega,by omega,by go_num,zBa HA ‹_› (by simp_all [atomT])⟩
      case measure=>simp[intOf];omega
     ·go_round
      case rel=>exact⟨k+1,by omega,by omega,by go_num,zBa HA ‹_› (by simp_all [atomT])⟩
      case measure=>simp[intOf];omega
     ·go_ret;exact⟨zAb (zAq _ _ _ (.inr (.inr (.inr ⟨k,‹_›,d,by simp_all [atomT]⟩)))).symm,rfl⟩
     ·go_round
      case rel=>exact⟨k+1,by omega,by omega,by go_num,zBa HA ‹_› (by simp_all [atomT])⟩
      case measure=>simp[intOf];omega
     ·go_ret;exact⟨zAb (zDk _ _ _ h3 (by omega) h4 (fun j h a=>HA.out j h a (by omega))).symm,rfl⟩
theorem zDu (s:ByteArray) (w:World) (hs:s.size<=maxLen) :
  Calls tP 67 #[vT s] w fun e w'=>e=.returned (.bool (varB s.data.toList))/\w=w':=by
 unfold maxLen at hs;unfold varB;by_cases h1:s.size<1
 ·go_enter func67,ntmps67;go_wp2;go_ret;exact⟨zAb (zAq _ _ _ (by omega)).symm,rfl⟩
 ·by_cases h2:16<s.size
  ·go_enter func67,ntmps67;go_wp2;go_ret;exact⟨zAb (zAq _ _ _ (by omega)).symm,rfl⟩
  ·have h3:0<s.size:=by omega
   cases h4:upB (s[0]'h3).toNat
   ·go_enter func67,ntmps67;go_wp2_with (go_at_call 113;refine (zD7 _ _).mono ?_;rintro e w' ⟨rfl,rfl⟩);go_ret;exact⟨zAb (zAq _ _ _ (.inr (.inr (.inl ⟨h3,h4⟩)))).symm,rfl⟩
   ·go_enter func67,ntmps67;go_wp2_with (go_at_call 113;refine (zD7 _ _).mono ?_;rintro e w' ⟨rfl,rfl⟩)
    go_loop [3] (fun i=>∃ k:Nat,1<=k/\k<=s.size/\i=vI i6 k/\∀ j (h:j<s.size),1<=j->j<k->varT (s[j]'h).toNat=true) (fun i=>s.size-(intOf i).toNat)
    case atStart=>exact⟨1,by omega,by omega,rfl,fun j h a b=>by omega⟩
    case round=>
     obtain⟨k,d,hk,rfl,c⟩:=hrel;have HA:=xI c;clear c;go_wp2_with (first|(go_at_call 109;refine (zC0 _ _).mono ?_;rintro e w' ⟨rfl,rfl⟩)|(go_at_call 113;refine (zD7 _ _).mono ?_;rintro e w' ⟨rfl,rfl⟩)|(go_at_call 110;refine (zF3 _ _).mono ?_;rintro e w' ⟨rfl,rfl⟩))
     ·go_round
      case rel=>exact⟨k+1,by omega,by omega,by go_num,zBa HA ‹_› (by simp_all [varT])⟩
      case measure=>simp[intOf];omega
     ·go_round
      case rel=>exact⟨k+1,by omega,by omega,by go_num,zBa HA ‹_› (by simp_all [varT])⟩
      case measure=>simp[intOf];omega
     ·go_round
      case rel=>exact⟨k+1,by omega,by omega,by go_num,zBa HA ‹_› (by simp_all [varT])⟩
      case measure=>simp[intOf];omega
     ·go_ret;exact⟨zAb (zAq _ _ _ (.inr (.inr (.inr ⟨k,‹_›,d,by simp_all [varT]⟩)))).symm,rfl⟩
     ·go_round
      case rel=>exact⟨k+1,by omega,by omega,by go_num,zBa HA ‹_› (by simp_all [varT])⟩
      case measure=>simp[intOf];omega
     ·go_ret;exact⟨zAb (zDk _ _ _ h3 (by omega) h4 (fun j h a=>HA.out j h a (by omega))).symm,rfl⟩
theorem zIg (k:Int) (s:ByteArray) (w:World) (hs:s.size<=maxLen) :
  Calls tP 138 #[.agg #[vI i6 k,vT s]] w fun e w'=>e=.returned (.bool (keyB k s.data.toList))/\bW w w':=by
 have a:=hs;unfold maxLen at a;have b:s.data.toList.length=s.size:=by simp
 by_cases h0:k=0
 ·subst h0;go_enter func138,ntmps138;go_wp2_with (go_at_call 63;refine (zG0 _ _ hs).mono ?_;rintro e w' ⟨rfl,rfl⟩);go_ret;exact⟨zAb (by simp[keyB]<;>omega),yR.alloc lR _⟩
 ·by_cases h1:k=1
  ·subst h1;go_enter func138,ntmps138;go_wp2;go_ret;exact⟨zAb (by simp[keyB]<;>omega),yR.alloc lR _⟩
  ·go_enter func138,ntmps138;go_wp2;go_ret;exact⟨zAb (by simp[keyB,h0,h1]),yR.alloc lR _⟩
end Go.Proofs.YteedihhdcbepmaaGreat
