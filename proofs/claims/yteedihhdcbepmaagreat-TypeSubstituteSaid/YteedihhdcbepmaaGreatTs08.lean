/- Rows of the call's own that grow by one .. -/
import Derived.Test.YteedihhdcbepmaaGreatTsZ
import Derived.Test.YteedihhdcbepmaaGreatTs07
set_option maxRecDepth 100000
set_option maxHeartbeats 12800000
set_option linter.all false
open Go.Value renaming slice→vS,int→vI,string→vT
open Go.IntKind renaming i64→i6
open Go.Proofs.Tryz
open Go.Proofs.Tryz renaming prog→tP
namespace Go.Proofs.YteedihhdcbepmaaGreat
open Go Go.RowKit
def elI:ElK Int:=⟨fun x _ _ cs=>cs=[vI i6 x]/\i64B x,fun _ h=>h,fun _ h=>h⟩
def elF:ElK Fd:=⟨fun x _ _ cs=>cs=fdC x/\FdOk x,fun _ h=>h,fun _ h=>h⟩
def elT:ElK Tn:=⟨fun x w B cs=>TnB w B x cs,fun hs h=>TnB.keep hs h,fun hs h=>TnB.sub hs h⟩
theorem zGb {x:Int}{w:World}{B:Nat->Prop}{cs:List Value}(h:elI.E x w B cs):∀ u∈cs,u.oneCell'=true:=by
 obtain⟨rfl,_⟩:=h;intro u hu;simp at hu;subst hu;rfl
theorem zR9 {x:Fd}{w:World}{B:Nat->Prop}{cs:List Value}(h:elF.E x w B cs):∀ u∈cs,u.oneCell'=true:=by
 obtain⟨rfl,_⟩:=h;intro u hu;simp[fdC]at hu;rcases hu with rfl|rfl|rfl|rfl<;>rfl
theorem TnB.form8 {x:Tn}{w:World}{B:Nat->Prop}{cs:List Value}(h:TnB w B x cs):∃ Ak nk ck Af nf cf,cs=[vI i6 x.kind,vI i6 x.lo,vI i6 x.hi,vT ⟨x.text.toArray⟩,vS Ak nk ck,vS Af nf cf,vI i6 x.r0,vI i6 x.r1]:=by
 obtain⟨uk,uf,rfl,_,hk,hf⟩:=h;obtain⟨Ak,ck,rfl,_⟩:=hk.form;obtain⟨Af,cf,rfl,_⟩:=hf.form;exact⟨_,_,_,_,_,_,rfl⟩
theorem zR8 {x:Tn}{w:World}{B:Nat->Prop}{cs:List Value}(h:elT.E x w B cs):∀ u∈cs,u.oneCell'=true:=by
 obtain⟨_,_,_,_,_,_,rfl⟩:=TnB.form8 h;intro u hu;simp at hu;rcases hu with rfl|rfl|rfl|rfl|rfl|rfl|rfl|rfl<;>rfl
structure Nam (t e:TypeId) (z:Value) (c b:Nat):Prop where
 und:tP.underlying t=some (.slice e)
 inf:(tP.info? e).map (fun i=>(i.zero,i.size,i.bytes))=some (some z,c,b)
 siz:z.cells.size=c
 pos:0<c
 few:b<=1000
theorem namI:Nam 25 3 (vI i6 0) 1 8:=⟨underlying25,by kernel_rfl,rfl,by decide,by decide⟩
theorem namF:Nam 37 150 (.agg #[vI i6 0,vT ⟨#[]⟩,vI i6 0,.bool false]) 4 40:=⟨underlying37,by kernel_rfl,rfl,by decide,by decide⟩
theorem namT:Nam 22 40 (.agg #[vI i6 0,vI i6 0,vI i6 0,vT ⟨#[]⟩,vS none 0 0,vS none 0 0,vI i6 0,vI i6 0]) 8 104:=⟨underlying22,by kernel_rfl,rfl,by decide,by decide⟩
theorem appG {α:Type}(K:ElK α){t e:TypeId}{z:Value}{c bytes:Nat}(hN:Nam t e z c bytes) (ty:TypeId) (w0:World) (base:Nat) (v:Value) (l:List α) (h:OwnE K e c w0 base v l) (x:α) (cs:List Value) (hx:K.E x w0 (fun b=>base<=b/\b<w0.heap.size/\some b≠v.ownBlock) cs) (hcs:cs.length=c) (h1c:∀ u∈cs,u.oneCell'=true)
  (hn:l.length<=300000000) (hbase:base<=w0.heap.size) (H:Nat) (hH:w0.heap.size=H) (cap1:Nat) :
  ∃ g cap w',(Builtin.append_ #[t,t] ty #[v,vS (some (aD H 0)) 1 cap1]).run tP (w0.alloc (.cells cs.toArray e))=.ok (vS (some (aD g 0)) (l.length+1) cap) w' /\
   OwnE K e c w' base (vS (some (aD g 0)) (l.length+1) cap) (l++[x])/\Below base w0 w'/\(∀ b,b<w0.heap.size->some b≠v.ownBlock->w'.heap[b]?=w0.heap[b]?)/\(v.ownBlock=some g\/H<=g):=by
 obtain⟨i0,hi,f,d,a⟩:=Cp hN.inf;exact zBi K t ty e i0 z c bytes hN.und hi f d a hN.siz hN.pos hN.few w0 base v l h x cs hx hcs h1c hn hbase H hH cap1
theorem zFm {α:Type}(K:ElK α){t e:TypeId}{z:Value}{c bytes:Nat}(hN:Nam t e z c bytes){ops:Array Oper}{rest:List Oper}{o:Oper}{a:Act}{Q:Exit->Act->World->Prop}{w0:World}(hgd:o.guard=none) (s x:Operand)
  (ho:o.op=.call { callee:=.builtin .append,args:=#[s,x],argTypes:=#[t,t] }) (base:Nat) (v:Value) (l:List α) (hs:a.eval s=v) (hown:OwnE K e c w0 base v l)
  (y:α) (cs:List Value) (cap1:Nat) (H:Nat) (hH:w0.heap.size=H) (hx:a.eval x=vS (some (aD H 0)) 1 cap1) (cells:Array Value) (hcells:cells=cs.toArray)
  (hy:K.E y w0 (fun b=>base<=b/\b<w0.heap.size/\some b≠v.ownBlock) cs) (hcs:cs.length=c) (h1c:∀ u∈cs,u.oneCell'=true) (hn:l.length<=300000000) (hbase:base<=w0.heap.size)
  (h:∀ g cap w',OwnE K e c w' base (vS (some (aD g 0)) (l.length+1) cap) (l++[y])->Below base w0 w'->(∀ b,b<w0.heap.size->some b≠v.ownBlock->w'.heap[b]?=w0.heap[b]?)->(v.ownBlock=some g\/H<=g)->wpList tP ops Q rest (a.put o.dst (vS (some (aD g 0)) (l.length+1) cap)) w') :
  wpList tP ops Q (o::rest) a (w0.alloc (.cells cells e)):=by
 subst hcells;obtain⟨g,cap,w',h1,h2,h3,h4,h5⟩:=appG K hN o.type w0 base v l hown y cs hy hcs h1c hn hbase H hH cap1;exact Lib.wpList_append_run _ hgd s x t t ho v _ hs hx _ w' h1 (h g cap w' h2 h3 h4 h5)
abbrev OwnI (w:World) (base:Nat) (v:Value) (l:List Int):Prop:=OwnE elI 3 1 w base v l
abbrev OwnF (w:World) (base:Nat) (v:Value) (l:List Fd):Prop:=OwnE elF 150 4 w base v l
abbrev OwnT (w:World) (base:Nat) (v:Value) (l:List Tn):Prop:=OwnE elT 40 8 w base v l
theorem OwnI.row {w:World}{base:Nat}{v:Value}{l:List Int}(h:OwnI w base v l) (hn:l.length<=maxLen):RowB w (Btw base w.heap.size) 1 v l.length (kidR l):=OwnE.row h (by decide) hn
theorem OwnF.row {w:World}{base:Nat}{v:Value}{l:List Fd}(h:OwnF w base v l) (hn:l.length<=maxLen):RowB w (Btw base w.heap.size) 4 v l.length (fdR l):=OwnE.row h (by decide) hn
theorem OwnT.row {w:World}{base:Nat}{v:Value}{l:List Tn}(h:OwnT w base v l) (hn:l.length<=maxLen):RowB w (Btw base w.heap.size) 8 v l.length (tnR w (Btw base w.heap.size) l):=OwnE.row h (by decide) hn
theorem OwnE.rowB {α:Type}{K:ElK α}{e:TypeId}{c:Nat}{w:World}{base H:Nat}{v:Value}{l:List α}(h:OwnE K e c w base v l) (hc:0<c) (hn:l.length<=maxLen) (hH:H<=base):RowB w (Btw H w.heap.size) c v l.length (fun j cs=>∃ x,l[j]?=some x/\K.E x w (Btw H w.heap.size) cs):=
 (OwnE.row h hc hn).sub (fun _ hb=>⟨Ba hH hb.1,hb.2⟩) fun _ _ ⟨x,hx,hv⟩=>⟨x,hx,K.sub (fun _ hb=>⟨Ba hH hb.1,hb.2⟩) hv⟩
theorem zB3 {x:Int}(h1:-9223372036854775808<=x) (h2:x<=9223372036854775807):i64B x:=by
 show (Lit.int .i64 x).wf=true;simp[Lit.wf,IntKind.min,IntKind.max,IntKind.signed,IntKind.bits];omega
theorem zA6 (h p many:Nat) (fr n:Int) (w:World) (hS:SrcOk h p w) (hm:many<=3) (h0:0<=fr) (hn:fr<n) (hn2:n<=100):Calls tP 129 #[.pointer (some (aD p 0)),vI i6 many,vI i6 fr,vI i6 n] w fun e w'=>
  (∃ A c l,e=.returned (vS A many c)/\l.length=many/\(∀ k∈l,fr<=k/\k<n)/\OwnI w' w.heap.size (vS A many c) l)/\SrcOk h p w'/\Eff p w w':=by
 have q:=hS.lt;have D:IntKind.i64.wrap (n-fr)=n-fr:=Br _ (by omega);go_enter func129,ntmps129;go_wp2_with fail
 go_loopw [1,9] (fun i v wr=>∃ (m:Nat) (A:Option Addr) (c:Nat) (l:List Int),i=vI i6 m/\v=vS A l.length c/\l.length+m=many/\OwnI wr w.heap.size v l/\(∀ k∈l,fr<=k/\k<n)/\SrcOk h p wr/\Eff p w wr) (fun i _ _=>(intOf i).toNat)
 case atStart=>exact⟨many,none,0,[],rfl,rfl,by simp,OwnE.nil _ _ _ _ _,by simp,hS,Eff.refl _ _⟩
 case round=>
  obtain⟨m,A,c,l,rfl,rfl,a,hO,hl,f,b⟩:=hrel;by_cases hm0:m=0
  ·subst hm0;have mp:((0:Nat):Int)=0:=rfl;have HO:=xI hO;have HM:=xI a;clear hO a;go_wp2;go_ret;have a:l.length=many:=by have:=HM.out;omega
   have hO:=HO.out;rw[a]at hO;exact⟨⟨A,c,l,by rw[a];rfl,a,hl,hO⟩,f,b⟩
  ·have mp:(0:Int)<(m:Int):=by omega
   have C:IntKind.i64.wrap ((m:Int)-1)=(m:Int)-1:=Br _ (by omega);have hc:=zAh h p (n-fr) wr f (by omega) (by omega);have HO:=xI hO;have HM:=xI a;have HL:=xI hl;have u:=b.size;clear hO a hl;go_wp2_with fail;refine hc.mono ?_;rintro e w3 ⟨j,rfl,j0,j1,hS3,hE3⟩;clear hc;have y:=hE3.size;have s:=b.trans hE3;have z:IntKind.i64.wrap (fr+j)=fr+j:=Br _ (by omega);have r:=HO.out.eff hE3 q;have d:=HO.out.blk;have t:=HM.out;have o:i64B (fr+j):=zB3 (by omega) (by omega);go_wp2_with (at_builtin;refine zFm elI namI rfl _ _ rfl w.heap.size _ l rfl r (fr+j) [vI i6 (fr+j)] 1 _ rfl rfl _ rfl ⟨rfl,o⟩ rfl (zGb (w:=w) (B:=fun _=>True) ⟨rfl,o⟩) (by omega) (by omega) ?_;intro g cap w4 ho4 hb4 _ _;refine Hid.out ?_);refine xI ?_;have HR:=xI (aN ho4 (aN (hS3.below3 hb4 (by omega)) (s.grow hb4 q)));clear ho4 hb4 r d t hS3 hE3 s f b;go_wp2_with fail
   go_roundw
   case rel=>
    obtain⟨q1,q2,q3⟩:=HR.out;refine⟨m-1,some (aD g 0),cap,l++[fr+j],by go_num,by simp,by have:=HM.out;simp;omega,q1,?_,q2,q3⟩;intro x hx;rcases B7.1 hx with hx|hx
    ·exact HL.out x hx
    ·rw[Ct.1 hx];omega
   case measure=>simp[intOf];try omega
theorem zEw {a b:Int}(ha:i64B a) (hb:i64B b) (W:World):(Op.equalIn 10000 38 (.agg #[vI i6 a,vI i6 b]) (.agg #[vI i6 0,vI i6 0])).run tP W=.ok (decide (a=0/\b=0)) W:=by
 have hi:∀ (d:Nat) (a:Int),i64B a->tP.keyLits (d+1) 3 [.int .i64 a]=some [.int .i64 a]:=fun d a ha=>by
  unfold i64B at ha;simp[Program.keyLits,underlying3,ha]
 have h1:tP.cellsOf 3=1:=by kernel_rfl
 have h2:tP.cellsOf 38=2:=by kernel_rfl
 have hl:∀ a b:Int,i64B a->i64B b->tP.keyLits 3 38 [.int .i64 a,.int .i64 b]=some [.int .i64 a,.int .i64 b]:=by
  intro a b ha hb;unfold Program.keyLits;rw[underlying38];simp only[h1,h2,Cj,Cl,if_true];rw[show List.range 2=[0,1]from rfl];simp[List.mapM_cons,hi 1 a ha,hi 1 b hb]
 obtain⟨r,h3,h4⟩:=run_equalIn_deep (P:=tP) 9998 2 38 (by kernel_rfl) W 3 3 (.agg #[vI i6 a,vI i6 b]) (.agg #[vI i6 0,vI i6 0]) _ _ (by rfl) (by rfl) (hl a b ha hb) (hl 0 0 (by show i64B 0;decide) (by show i64B 0;decide));rw[show (10000:Nat)=9998+2 from rfl,h3];have:r=decide (a=0/\b=0):=by
  rw[Dk,h4];simp
 rw[this]
theorem RowB.drop {w:World}{B:Nat->Prop}{c n cap p g o:Nat}{R:Nat->List Value->Prop}(h:RowB w B c (vS (some (aD g o)) n cap) n R) (hp:p<n) (o2 cap2:Nat) (ho:o2=o+p*c) (hc2:cap2=cap-p:=by rfl):RowB w B c (vS (some (aD g o2)) (n-p) cap2) (n-p) (fun j cs=>R (p+j) cs):=by
 subst ho hc2;obtain⟨A',d,h1,h2,h3⟩:=h;injection h1 with e1 _ e3;subst e1 e3;refine⟨_,cap-p,rfl,by omega,fun _=>?_⟩;obtain⟨b,e,h4,h5,h6,h7⟩:=h3 (by omega);injection h4 with h4;injection h4 with e1 e2;subst e1 e2;refine⟨g,o+p*c,rfl,h5,h6,fun j hj=>?_⟩;obtain⟨cs,h8,h9,a⟩:=h7 (p+j) (by omega);exact⟨cs,h8,fun i hi=>by rw[<-h9 i hi,C6,Da o],a⟩
theorem OwnE.mono {α:Type}{K:ElK α}{e:TypeId}{c:Nat}{w:World}{base base':Nat}{v:Value}{l:List α}(h:OwnE K e c w base v l) (hb:base'<=base):OwnE K e c w base' v l:=by
 obtain⟨xs,ho,hx⟩:=h;refine⟨xs,⟨ho.1,?_⟩,fun j x hj=>K.sub (fun b h=>⟨by have:=h.1;omega,h.2⟩) (hx j x hj)⟩;rcases ho.2 with hn|⟨g,cap,cur,hv,hg,rest⟩
 ·exact .inl hn
 ·exact .inr ⟨g,cap,cur,hv,by omega,rest⟩
theorem OwnE.formG {α:Type}{K:ElK α}{e:TypeId}{c:Nat}{w:World}{base:Nat}{v:Value}{l:List α}(h:OwnE K e c w base v l) (hl:0<l.length):∃ g cap,v=vS (some (aD g 0)) l.length cap/\base<=g/\g<w.heap.size/\l.length<=cap:=by
 have b:=h.blk;obtain⟨xs,ho,_⟩:=h;rcases ho.2 with⟨_,h0⟩|⟨g,cap,d,rfl,hB,hg,a,_⟩
 ·omega
 ·exact⟨g,cap,rfl,hB,(b g rfl).2,a⟩
theorem zAu {P:Program}{md:Region.Mode}{l:List Oper}{Q:Exit->Act->World->Prop}{S:World->Prop}(i:Nat){o:Oper}{fuel:Nat}{listed:Array Bool}{a:Act}{w:World}(hr:Region.ready md l.toArray listed=[i]) (ho:nthOp l i=some o)
  (hw:Region.wanted o (yielded l.toArray a.tmps)=false) (hS:S w) (h:wpAnyH P md l.toArray Q S fuel (listed.setIfInBounds i true) (a.put o.dst undef) w):wpAnyH P md l.toArray Q S (fuel+1) listed a w:=by
 refine C5 (rs:=[i]) hr (by simp) fun j hj=>?_;obtain rfl:j=i:=by simpa using hj
 exact wpOp_step (op_at ho) fun K' hK=>by rw[if_neg (by rw[hw];decide)];exact hK _ _ ⟨hS,h⟩
theorem zL9 {ops:Array Oper}{rest:List Oper}{o:Oper}{a:Act}{Q:Exit->Act->World->Prop}{w0:World}(K:ElK Vl) (h1K:∀ x w B cs,K.E x w B cs->∀ u∈cs,u.oneCell'=true) (hgd:o.guard=none) (s x:Operand)
  (ho:o.op=.call { callee:=.builtin .append,args:=#[s,x],argTypes:=#[28,28] }) (base:Nat) (v:Value) (l:List Vl) (hs:a.eval s=v) (hown:OwnE K 33 7 w0 base v l)
  (A:Option Addr) (m cap1:Nat) (l':List Vl) (hm:l'.length=m) (Bs:Nat->Prop) (hx:a.eval x=vS A m cap1)
  (hR:RowB w0 Bs 7 (vS A m cap1) m (fun j cs=>∃ y,l'[j]?=some y/\K.E y w0 (fun b=>base<=b/\b<w0.heap.size/\some b≠v.ownBlock) cs)) (hn:l.length+m<=300000000) (hbase:base<=w0.heap.size)
  (h:∀ v' w',OwnE K 33 7 w' base v' (l++l')->Below base w0 w'->(∀ b,b<w0.heap.size->some b≠v.ownBlock->w'.heap[b]?=w0.heap[b]?)->(∀ g,v'.ownBlock=some g->v.ownBlock=some g\/w0.heap.size<=g)->wpList tP ops Q rest (a.put o.dst v') w') :
  wpList tP ops Q (o::rest) a w0:=by
 obtain⟨i0,hi,e,d,c⟩:=Cp Tryz.infoV;obtain⟨v',w',h1,h2,h3,h4,h5⟩:=zBh K 28 o.type 33 i0 (.agg nV) 7 128 underlying28 hi e d c rfl (by decide) (by decide) h1K w0 base v l hown A m cap1 l' hm Bs hR hn hbase;exact Lib.wpList_append_run _ hgd s x 28 28 ho v _ hs hx _ w' h1 (h v' w' h2 h3 h4 h5)
theorem zFl {ops:Array Oper}{rest:List Oper}{o:Oper}{a:Act}{Q:Exit->Act->World->Prop}{w0:World}(K:ElK En) (h1K:∀ x w B cs,K.E x w B cs->∀ u∈cs,u.oneCell'=true) (hgd:o.guard=none) (s x:Operand)
  (ho:o.op=.call { callee:=.builtin .append,args:=#[s,x],argTypes:=#[30,30] }) (base:Nat) (v:Value) (l:List En) (hs:a.eval s=v) (hown:OwnE K 68 9 w0 base v l)
  (A:Option Addr) (m cap1:Nat) (l':List En) (hm:l'.length=m) (Bs:Nat->Prop) (hx:a.eval x=vS A m cap1)
  (hR:RowB w0 Bs 9 (vS A m cap1) m (fun j cs=>∃ y,l'[j]?=some y/\K.E y w0 (fun b=>base<=b/\b<w0.heap.size/\some b≠v.ownBlock) cs)) (hn:l.length+m<=300000000) (hbase:base<=w0.heap.size)
  (h:∀ v' w',OwnE K 68 9 w' base v' (l++l')->Below base w0 w'->(∀ b,b<w0.heap.size->some b≠v.ownBlock->w'.heap[b]?=w0.heap[b]?)->(∀ g,v'.ownBlock=some g->v.ownBlock=some g\/w0.heap.size<=g)->wpList tP ops Q rest (a.put o.dst v') w') :
  wpList tP ops Q (o::rest) a w0:=by
 obtain⟨i0,hi,e,d,c⟩:=Cp Tryz.infoE;obtain⟨v',w',h1,h2,h3,h4,h5⟩:=zBh K 30 o.type 68 i0 (.agg #[vS none 0 0,.bool false,vI i6 0,vI i6 0,vT ⟨#[]⟩,vS none 0 0,vS none 0 0,vS none 0 0,vS none 0 0]) 9 160 underlying30 hi e d c rfl (by decide) (by decide) h1K w0 base v l hown A m cap1 l' hm Bs hR hn hbase;exact Lib.wpList_append_run _ hgd s x 30 30 ho v _ hs hx _ w' h1 (h v' w' h2 h3 h4 h5)
theorem List.len_ne {α:Type}{l:List α}(h:¬ l.length=0):0<l.length:=by omega
theorem zEy (A:Option Addr) (n c:Nat) (k:Int) (w:World):Calls tP 47 #[vS A n c,vI i6 k] w fun e w'=>e=.returned (.bool (idxB n k))/\w=w':=by
 by_cases h0:0<=k
 ·by_cases h1:k<(n:Int)
  ·go_enter func47,ntmps47;go_wp2;go_ret;exact⟨by simp[idxB,h0,h1],rfl⟩
  ·go_enter func47,ntmps47;go_wp2;go_ret;exact⟨by simp[idxB,h0,h1],rfl⟩
 ·go_enter func47,ntmps47;go_wp2;go_ret;exact⟨by rw[show idxB n k=false from by unfold idxB;rw[Ci (by omega)];rfl];first|rfl|simp,rfl⟩
theorem zLr (t:List UInt8) (w:World):Calls tP 62 #[vT ⟨t.toArray⟩] w fun e w'=>e=.returned (.bool (decide (t.length<=64)))/\w=w':=by
 go_enter func62,ntmps62;go_wp2;go_ret;exact⟨by simp;omega,rfl⟩
theorem zLs (k:Int) (w:World):Calls tP 141 #[vI i6 k] w fun e w'=>e=.returned (.bool (decide (k=16\/k=17\/k=18)))/\w=w':=by
 go_enter func141,ntmps141;go_wp2
 all_goals go_ret
 all_goals exact⟨by first|(simp[*];done)|(simp_all;done)|(by_cases h:k=18<;>simp_all),rfl⟩
theorem zOw (K lo hi:Int) (tn:List UInt8) (ks:List Int) (fds:List Fd) (r0 r1:Int) (Ak Af:Option Addr) (ck cf:Nat) (h0:i64B r0) (h1:i64B r1) (w:World):Calls tP 48 #[.agg #[vI i6 K,vI i6 lo,vI i6 hi,vT ⟨tn.toArray⟩,vS Ak ks.length ck,vS Af fds.length cf,vI i6 r0,vI i6 r1]] w fun e w'=>e=.returned (.bool (useP ⟨K,lo,hi,tn,ks,fds,r0,r1⟩))/\bW w w':=by
 have HM:Hid (useP ⟨K,lo,hi,tn,ks,fds,r0,r1⟩=((decide (K=3)||decide (lo=0/\hi=0))&&(decide (K=4\/K=6\/K=19)||tn.isEmpty)&&(kidK K||ks.isEmpty)&&(decide (K=13)||(fds.isEmpty&&decide (r0=0/\r1=0))))):=xI rfl;generalize useP ⟨K,lo,hi,tn,ks,fds,r0,r1⟩=res at *;have d:=fun W=>zEw h0 h1 W;have c:=fun W=>zEw (a:=0) (b:=0) (by show i64B 0;decide) (by show i64B 0;decide) W;clear h0 h1;go_enter func48,ntmps48;go_wp2
 all_goals go_ret
 all_goals refine⟨?_,yR.alloc lR _⟩
 all_goals rw[HM.out]
 all_goals simp only[kidK]
 all_goals clear HM d c
 all_goals first|(simp[*];done)|(simp_all;done)|(simp_all;omega)
open Go.Shelf
attribute [local go_sem] Oper.semAt_some
structure NdAt (B:Nat->Prop) (W:World) (pb po:Nat) (x:Tn) (Ak Af:Option Addr) (ck cf:Nat):Prop where
 own:B pb/\pb<W.heap.size
 c0:W.cell? (aD pb po)=some (vI i6 x.kind)
 c4:W.cell? (aD pb (po+4))=some (vS Ak x.kids.length ck)
 c5:W.cell? (aD pb (po+5))=some (vS Af x.fds.length cf)
 c6:W.cell? (aD pb (po+6))=some (vI i6 x.r0)
 c7:W.cell? (aD pb (po+7))=some (vI i6 x.r1)
 hk:RowB W B 1 (vS Ak x.kids.length ck) x.kids.length (kidR x.kids)
 hf:RowB W B 4 (vS Af x.fds.length cf) x.fds.length (fdR x.fds)
theorem NdAt.keep {B:Nat->Prop}{W W':World}{pb po:Nat}{x:Tn}{Ak Af:Option Addr}{ck cf:Nat}(h:NdAt B W pb po x Ak Af ck cf) (hs:Same B W W'):NdAt B W' pb po x Ak Af ck cf:=
 ⟨⟨h.own.1,Bj h.own.2 hs.size⟩,(hs.cell _ _ h.own.1 h.own.2).trans h.c0,(hs.cell _ _ h.own.1 h.own.2).trans h.c4,(hs.cell _ _ h.own.1 h.own.2).trans h.c5,(hs.cell _ _ h.own.1 h.own.2).trans h.c6,(hs.cell _ _ h.own.1 h.own.2).trans h.c7,h.hk.keep hs fun _ _ h=>h,h.hf.keep hs fun _ _ h=>h⟩
theorem zRx {w:World}{B:Nat->Prop}{n c:Nat}{l:List Int}{A:Option Addr}{j:Nat}{x:Int}(h:RowB w B 1 (vS A n c) l.length (kidR l)) (hx:l[j]?=some x):∃ b off,A=some (aD b off)/\w.cell? (aD b (off+j))=some (vI i6 x):=by
 have hj:=(Bx.1 hx).1;obtain⟨A',cap,h1,_,h3⟩:=h;injection h1 with h1 _ _;obtain⟨b,off,h4,h5,_,h7⟩:=h3 (by omega);obtain⟨cs,h8,h9,y,hy,rfl,hw⟩:=h7 j hj;rw[hx]at hy;injection hy with hy;subst hy;have:=h9 0 (by omega);simp only[Nat.mul_one,Ds]at this;exact⟨b,off,h1.trans h4,this⟩
theorem zSx {w:World}{B:Nat->Prop}{n c:Nat}{l:List Fd}{A:Option Addr}{j:Nat}{f:Fd}(h:RowB w B 4 (vS A n c) l.length (fdR l)) (hx:l[j]?=some f):∃ b off,A=some (aD b off)/\w.cell? (aD b (off+j*4))=some (vI i6 f.key.1)/\w.cell? (aD b (off+j*4+1))=some (vT ⟨f.key.2.toArray⟩)/\w.cell? (aD b (off+j*4+2))=some (vI i6 f.node)/\w.cell? (aD b (off+j*4+3))=some (.bool f.opt):=by
 have hj:=(Bx.1 hx).1;obtain⟨A',cap,h1,_,h3⟩:=h;injection h1 with h1 _ _;obtain⟨b,off,h4,h5,_,h7⟩:=h3 (by omega);obtain⟨cs,h8,h9,y,hy,rfl,hw⟩:=h7 j hj;rw[hx]at hy;injection hy with hy;subst hy;exact⟨b,off,h1.trans h4,h9 0 (by omega),h9 1 (by omega),h9 2 (by omega),h9 3 (by omega)⟩
theorem zM5 (n l Bn:Nat) (hn:1<=n) (B:Nat->Prop) (pb po:Nat) (x:Tn) (Ak Af:Option Addr) (ck cf:Nat) (p:Int->Prop) (xs:List {k:Int // p k}) (hxs:xs.map Subtype.val=edg x) (J Jx:List {k:Int // p k}->World->Prop) (W:World) (hJA:AbidesFrom W.heap.size J)
  (hY:Hid (∀ pre y W1,J pre W1->pre.length<xs.length->YieldAt Fence.wide (n-1) tP l #[vI i6 y.1] W1 fun e W'=>(e=.returned (.bool true)/\J (pre++[y]) W'/\Same B W1 W')\/(e=.returned (.bool false)/\Jx (pre++[y]) W')))
  (hBn:B Bn/\Bn<W.heap.size) (hb:W.cell? (aD Bn 0)=some (.pointer (some (aD pb po)))) (hN:NdAt B W pb po x Ak Af ck cf) (h0:J [] W) :
  CallsIn Fence.wide n tP 140 #[.func (.yield l) #[] #[],.pointer (some (aD Bn 0))] W fun e W'=>(∃ v,e=.returned v)/\((∃ ys,ys=xs/\J ys W')\/(∃ pre,pre <+: xs/\Jx pre W')):=by
 have HX:Hid (∀ i v,(edg x)[i]?=some v->∃ y:{k:Int // p k},xs[i]?=some y/\y.1=v):=xI fun i v h=>by
  rw[<-hxs,Ch]at h;cases hq:xs[i]? with
  | none=>rw[hq]at h;cases h
  | some y=>rw[hq]at h;exact⟨y,hq,by injection h⟩
 have H:Hid (xs.length=x.kids.length+x.fds.length+(if x.kind=13 then 2 else 0)):=xI (by
  rw[<-Bk (f:=Subtype.val),hxs];unfold edg;split<;>simp<;>omega)
 have I:Hid ((∀ i v,x.kids[i]?=some v->(edg x)[i]?=some v)/\(∀ i f,x.fds[i]?=some f->(edg x)[x.kids.length+i]?=some f.node)/\(x.kind=13->(edg x)[x.kids.length+x.fds.length]?=some x.r0/\(edg x)[x.kids.length+x.fds.length+1]?=some x.r1)):=xI (by
  refine⟨fun i v h=>?_,fun i f h=>?_,fun hk=>?_⟩<;>unfold edg
  ·have hi:=(Bx.1 h).1;rw[Dt (by rw[Bd];omega),Dt hi];exact h
  ·have hi:=(Bx.1 h).1;rw[Dt (by rw[Bd,Bk];omega),Dw (by omega),show x.kids.length+i-x.kids.length=i by omega,Ch,h];rfl
  ·rw[if_pos hk];constructor
   ·rw[Dw (by rw[Bd,Bk];omega),Bd,Bk,Nat.sub_self];rfl
   ·rw[Dw (by rw[Bd,Bk];omega),Bd,Bk,Nat.add_sub_cancel_left];rfl)
 have w:Hid (∀ i y,xs[i]?=some y->xs.take (i+1)=xs.take i++[y]):=xI fun i y h=>by rw[Cr,h];rfl
 have Q:x.kids.length<=maxLen/\x.fds.length<=maxLen:=by
  obtain⟨_,_,_,h,_⟩:=hN.hk;obtain⟨_,_,_,h',_⟩:=hN.hf;exact⟨h.1,h'.1⟩
 have ae:=xI Q;have HN:=xI hN;have HB:=xI hBn;have S:=hN.c4;have af:=xI hb;clear hxs Q hN;obtain⟨kd,lo,hi,tn,ks,aa,r0,r1⟩:=x;simp only at S;generalize hkn:ks.length=nk at *;have ao:=xI hkn;clear hkn;refine callsIn_of_wp func140 rfl trivial ?_ rfl;simp only[ntmps140,Dh,Cj,Cl,Nat.reduceAdd,Nat.reduceSub,Array.replicate_succ,Array.replicate_zero,List.push_toArray,List.append_toArray,Cn,Dr]
 gi_wp2
 gi_loopw [12] (fun i wr=>∃ k:Nat,k<=nk/\i=vI i6 k/\J (xs.take k) wr/\Same B W wr) (fun i _=>nk-(intOf i).toNat)
 case atStart=>exact⟨0,Bt _,rfl,by rw[List.take_zero];exact h0,Same.refl _ _⟩
 case round=>
  obtain⟨k,hk,rfl,F,s⟩:=hrel;by_cases hlt:k<nk
  ·have mp:(k:Int)<(nk:Int):=by omega
   have m0:(0:Int)<=(k:Int):=by omega
   have ah:IntKind.i64.wrap ((k:Int)+1)=(k:Int)+1:=Br _ (by have:=ae.out.1;unfold maxLen at this;omega);obtain⟨v,hv⟩:∃ v,ks[k]?=some v:=⟨_,By (by have:=ao.out;omega)⟩;obtain⟨y,q,o⟩:=HX.out k v (I.out.1 k v hv);obtain⟨bk,ok,hA,R⟩:=zRx ((HN.out.keep s).hk) hv;subst hA;have c:(xs.take k).length<xs.length:=by rw[Bg];have h:=H.out;split at h<;>omega
   obtain⟨fn,z,g,C,hy,hR⟩:=hY.out _ y wr F c;rw[o]at hy;have L:=xI s;have D:=xI q;clear s q o hv c
   gi_wp2
   refine hR.mono ?_;rintro e W3 (⟨rfl,hJ3,hk3⟩|⟨rfl,hJx3⟩)
   ·rw[<-w.out k y D.out]at hJ3;have M:=xI hk3;clear hk3
    gi_wp2
    go_roundw
    case rel=>exact⟨k+1,by omega,by simp,hJ3,L.out.trans M.out⟩
    case measure=>simp[intOf];omega
   ·gi_wp2
    refine Cw (results_none rfl _ _ _) rfl ?_;exact⟨⟨_,rfl⟩,.inr ⟨_,by rw[<-w.out k y D.out];exact List.take_prefix _ _,hJx3⟩⟩
  ·obtain rfl:k=nk:=by omega
   have L:=xI s;have Y:=HN.out.keep s;have au:=(s.cell _ 0 HB.out.1 HB.out.2).trans hb;have ak:=Y.c5;clear s Y hlt S hb;dsimp only at ak;generalize hfn:aa.length=nf at *;have ap:=xI hfn;clear hfn
   gi_wp2
   gi_loopw [26] (fun i wr=>∃ j:Nat,j<=nf/\i=vI i6 j/\J (xs.take (k+j)) wr/\Same B W wr) (fun i _=>nf-(intOf i).toNat)
   case atStart=>exact⟨0,Bt _,rfl,F,L.out⟩
   case round=>
    obtain⟨j,hj,rfl,d,a⟩:=hrel;by_cases hjlt:j<nf
    ·have mp:(j:Int)<(nf:Int):=by omega
     have m0:(0:Int)<=(j:Int):=by omega
     have ah:IntKind.i64.wrap ((j:Int)+1)=(j:Int)+1:=Br _ (by have:=ae.out.2;unfold maxLen at this;omega);obtain⟨f,hf⟩:∃ f,aa[j]?=some f:=⟨_,By (by have:=ap.out;omega)⟩;obtain⟨y,q,o⟩:=HX.out (k+j) f.node (I.out.2.1 j f hf);obtain⟨bf,of,hA,f0,f1,f2,f3⟩:=zSx ((HN.out.keep a).hf) hf;subst hA;obtain⟨⟨k1,k2⟩,fn,fo⟩:=f;rename World=>wr2;obtain⟨X,hX⟩:∃ X,X=wr2.alloc (.cells #[vI i6 k1,vT ⟨k2.toArray⟩,vI i6 fn,.bool fo] 150 (0,0)):=⟨_,rfl⟩;have Z:J (xs.take (k+j)) X:=by rw[hX];exact hJA _ _ _ none d (World.grownBy_alloc _ _ none) (fun r e=>by cases e)
     have P:Same B wr2 X:=by rw[hX];exact⟨((Bw wr2.heap.size wr2).alloc lR _).size,fun b i _ h=>((Bw wr2.heap.size wr2).alloc lR _).cell (p:=(aD b i)) h⟩
     have c:(xs.take (k+j)).length<xs.length:=by rw[Bg];have h:=H.out;split at h<;>omega
     obtain⟨an,z,g,C,hy,hR⟩:=hY.out _ y X Z c;rw[o]at hy;have u:=xI (a.trans P);have D:=xI q;have m:y.1=fn:=o;clear o;clear a q hf c Z P d F m;dsimp only at hy;subst hX
     gi_wp2
     refine hR.mono ?_;rintro e W3 (⟨rfl,hJ3,hk3⟩|⟨rfl,hJx3⟩)
     ·rw[<-w.out (k+j) y D.out]at hJ3;have M:=xI hk3;clear hk3
      gi_wp2
      go_roundw
      case rel=>exact⟨j+1,by omega,by simp,hJ3,u.out.trans M.out⟩
      case measure=>simp[intOf];omega
     ·gi_wp2
      refine Cw (results_none rfl _ _ _) rfl ?_;exact⟨⟨_,rfl⟩,.inr ⟨_,by rw[<-w.out (k+j) y D.out];exact List.take_prefix _ _,hJx3⟩⟩
    ·obtain rfl:j=nf:=by omega
     have E:=HN.out.keep a;have ar:=(a.cell _ 0 HB.out.1 HB.out.2).trans af.out;have al:=E.c0;have aj:=E.c6;have ai:=E.c7;dsimp only at al aj ai;have u:=xI a;clear E F hjlt a;by_cases h13:kd=13
     case neg=>
      gi_wp2
      go_end0
      refine⟨⟨_,rfl⟩,.inl ⟨_,rfl,?_⟩⟩;have h:=H.out;rw[if_neg h13]at h;rw[<-B8 (l:=xs) (i:=k+j) (by omega)];exact d
     case pos=>
      subst h13;obtain⟨y,q,o⟩:=HX.out (k+j) r0 (I.out.2.2 rfl).1;obtain⟨y2,A,m⟩:=HX.out (k+j+1) r1 (I.out.2.2 rfl).2;have O:xs.length=k+j+2:=H.out;have ad:=xI O;obtain⟨an,z,g,C,hy,hR⟩:=hY.out _ y wr d (by rw[Bg];omega);have U:=w.out (k+j) y q;have T:=w.out (k+j+1) y2 A;have HT:=xI (aN U (aN T m));rw[o]at hy;clear O q A o U T d m
      gi_wp2
      refine hR.mono ?_;rintro e W3 (⟨rfl,hJ3,hk3⟩|⟨rfl,hJx3⟩)
      ·rw[<-HT.out.1]at hJ3;have t:=u.out.trans hk3;have V:=HN.out.keep t;have aq:=(t.cell _ 0 HB.out.1 HB.out.2).trans af.out;have K:=V.c7;dsimp only at K;obtain⟨av,N,G,ab,ag,am⟩:=hY.out _ y2 W3 hJ3 (by rw[Bg];have:=ad.out;omega);rw[HT.out.2.2]at ag;clear V t hk3 hJ3
       gi_wp2
       refine am.mono ?_;rintro e W4 (⟨rfl,hJ4,hk4⟩|⟨rfl,hJx4⟩)
       ·rw[<-HT.out.2.1]at hJ4;clear hk4
        gi_wp2
        go_end0
        exact⟨⟨_,rfl⟩,.inl ⟨_,rfl,by rw[B8 (by have:=ad.out;omega)]at hJ4;exact hJ4⟩⟩
       ·gi_wp2
        go_end0
        exact⟨⟨_,rfl⟩,.inr ⟨_,by rw[<-HT.out.2.1];exact List.take_prefix _ _,hJx4⟩⟩
      ·gi_wp2
       refine⟨fun _ h=>(by cases h),?_⟩
       gi_wp2
       go_end0
       exact⟨⟨_,rfl⟩,.inr ⟨_,by rw[<-HT.out.1];exact List.take_prefix _ _,hJx3⟩⟩
theorem zMv {B:Nat->Prop}{X Y Z:World}(h:Same B X Y) (h':Same B Y Z):Same B X Z:=h.trans h'
theorem zMw {B:Nat->Prop}{n0:Nat}(hB:∀ b,B b->b<n0){w:World}(hw:n0<=w.heap.size) (W:World) (l:Nat) (o o':Obj) (hl:w.heap.size<=l) (h:W.heap[l]?=some o) (hc:o.isCells=false) (hk:o.isWalk=false):Same B W (W.putObj l o'):=
 Same.of_below (belowK_b hw W l o o' hl h hc hk) hB
theorem zKm (n:Nat) (a:Option Addr) (w:World):CallsIn Fence.wide n tP 91 #[.pointer a] w fun e w'=>e=.returned (.func (.func 140) #[] #[.pointer (some (aD w.heap.size 0))])/\w'=w.alloc (.cells #[.pointer a] 91 (0,0)):=by
 refine callsIn_of_wp func91 rfl trivial ?_ rfl;simp only[ntmps91,Dh,Cj,Cl,Nat.reduceAdd,Nat.reduceSub,Array.replicate_succ,Array.replicate_zero,List.push_toArray,List.append_toArray,Cn,Dr]
 gi_wp2
 go_ret;exact⟨rfl,rfl⟩
theorem zFw (n Bn:Nat) (hn:1<=n) (B:Nat->Prop) (pb po:Nat) (x:Tn) (Ak Af:Option Addr) (ck cf:Nat) (p:Int->Prop) (xs:List {k:Int // p k}) (hxs:xs.map Subtype.val=edg x) (w:World) (hBs:∀ b,B b->b<w.heap.size)
  (hBn:B Bn) (hb:w.cell? (aD Bn 0)=some (.pointer (some (aD pb po)))) (hN:NdAt B w pb po x Ak Af ck cf) :
  SeqStopsK Fence.wide n tP 140 #[.pointer (some (aD Bn 0))] (fun y:{k:Int // p k}=>#[vI i6 y.1]) (Same B) (fun ys=>ys=xs) (fun pre=>pre <+: xs) xs.length w:=fun l J Jx W hW hJ _ hY h0=>by
 have hs:Same B w W:=Same.of_below hW hBs;exact zM5 n l Bn hn B pb po x Ak Af ck cf p xs hxs J Jx W hJ (xI hY) ⟨hBn,Bj (hBs _ hBn) hs.size⟩ ((hs.cell _ 0 hBn (hBs _ hBn)).trans hb) (hN.keep hs) h0
structure GenN (n i:Nat) (x:Tn):Prop where
 ok:tnB n x=true
 lat:conn x=true->∀ k∈x.kids,(i:Int)<k
 vr:x.kind=19->LabN x.text
 nk:x.kids.length<=3
 nf:x.fds.length<=3
theorem zAe {w:World}{g:Nat}{e:TypeId}{z0 z1 z2 z3 z4 z5 z6 z7:Value}(h:w.heap[g]?=some (.cells #[z0,z1,z2,z3,z4,z5,z6,z7] e (0,0))):j8 w g z0 z1 z2 z3 z4 z5 z6 z7:=
 ⟨cH h 0,cH h 1,cH h 2,cH h 3,cH h 4,cH h 5,cH h 6,cH h 7⟩
theorem zA3 {w:World}{g:Nat}{e:TypeId}{z0 z1 z2 z3 z4 z5 z6 z7:Value}(h:w.heap[g]?=some (.cells #[z0,z1,z2,z3,z4,z5,z6,z7] e (0,0))):w.frozen? (aD g 0)=false/\w.frozen? (aD g 1)=false/\w.frozen? (aD g 2)=false/\w.frozen? (aD g 3)=false/\w.frozen? (aD g 4)=false/\w.frozen? (aD g 5)=false/\w.frozen? (aD g 6)=false/\w.frozen? (aD g 7)=false:=
 ⟨Bz h 0,Bz h 1,Bz h 2,Bz h 3,Bz h 4,Bz h 5,Bz h 6,Bz h 7⟩
theorem box8 {w:World}{g:Nat}{e:TypeId}{z0 z1 z2 z3 z4 z5 z6 z7:Value}(h:w.heap[g]?=some (.cells #[z0,z1,z2,z3,z4,z5,z6,z7] e (0,0))) (v0 v1 v2 v3 v4 v5 v6 v7:Value) (V:World)
  (hV:V=((((((((w.setCell ⟨g,0,none⟩ v0).setCell ⟨g,1,none⟩ v1).setCell ⟨g,2,none⟩ v2).setCell ⟨g,3,none⟩ v3).setCell ⟨g,4,none⟩ v4).setCell ⟨g,5,none⟩ v5).setCell ⟨g,6,none⟩ v6).setCell ⟨g,7,none⟩ v7)) :
  V.heap[g]?=some (.cells #[v0,v1,v2,v3,v4,v5,v6,v7] e (0,0))/\V.heap.size=w.heap.size/\(∀ b,b≠g->V.heap[b]?=w.heap[b]?)/\∀ B,B<=g->Below B w V:=by
 subst hV;have h0:=Bm _ g 0 _ e v0 h;have h1:=Bm _ g 1 _ e v1 h0;have h2:=Bm _ g 2 _ e v2 h1;have h3:=Bm _ g 3 _ e v3 h2;have h4:=Bm _ g 4 _ e v4 h3;have h5:=Bm _ g 5 _ e v5 h4;have h6:=Bm _ g 6 _ e v6 h5;have h7:=Bm _ g 7 _ e v7 h6;refine⟨by simpa using h7,by simp,fun b hb=>?_,fun B hB=>(((((((((Bw B w).setCell (p:=(aD g 0)) hB _).setCell (p:=(aD g 1)) hB _).setCell (p:=(aD g 2)) hB _).setCell (p:=(aD g 3)) hB _).setCell (p:=(aD g 4)) hB _).setCell (p:=(aD g 5)) hB _).setCell (p:=(aD g 6)) hB _).setCell (p:=(aD g 7)) hB _)⟩;iterate 8 rw[Bq _ _ _ _ hb]
abbrev zT (e:TypeId):Obj:=.cells #[vI i6 0,vI i6 0,vI i6 0,vT ⟨#[]⟩,vS none 0 0,vS none 0 0,vI i6 0,vI i6 0] e
def keys3:List (Int×List UInt8):=[(0,[97]),(0,[98]),(1,[115])]
theorem asc3:AscC cmpK keys3:=by decide
theorem zQh:∀ x∈keys3,keyB x.1 x.2=true:=by decide
theorem zSw {n:Nat}{l:List Fd}(h:(l.map Fd.key).Sublist keys3) (hn:∀ f∈l,0<=f.node/\f.node<n):fdsB n l=true:=by
 unfold fdsB;simp only[Cy,Cz,Bf,idxB];exact⟨fun f hf=>⟨hn f hf,zQh _ (h.subset (Ep hf))⟩,asc3.sublist h⟩
theorem RowB.nil (w:World) (B:Nat->Prop) (c:Nat) (R:Nat->List Value->Prop):RowB w B c (vS none 0 0) 0 R:=⟨none,0,rfl,⟨Bt _,Bc _⟩,fun h=>absurd h (by omega)⟩
theorem zQi {i:Nat}(hi:i<3):∃ x,keys3[i]?=some x/\x.2.length<=64/\i64B x.1/\∀ (w:World) (g:Nat),w.heap[g]?=some (.cells #[vI i6 0,vT ⟨#[97]⟩,vI i6 0,vT ⟨#[98]⟩,vI i6 1,vT ⟨#[115]⟩] 131 (0,0))->w.cell? (aD g (i*2))=some (vI i6 x.1)/\w.cell? (aD g (i*2+1))=some (vT ⟨x.2.toArray⟩):=by
 rcases (show i=0\/i=1\/i=2 by omega)with rfl|rfl|rfl
 ·exact⟨_,rfl,by decide,by decide,fun w g h=>⟨cH h 0,cH h 1⟩⟩
 ·exact⟨_,rfl,by decide,by decide,fun w g h=>⟨cH h 2,cH h 3⟩⟩
 ·exact⟨_,rfl,by decide,by decide,fun w g h=>⟨cH h 4,cH h 5⟩⟩
theorem zOz {l:List (Int×List UInt8)}{i:Nat}{x:Int×List UInt8}(h:l.Sublist (keys3.take i)) (hx:keys3[i]?=some x):(l++[x]).Sublist (keys3.take (i+1)):=by
 rw[Cr,hx];exact h.append (List.Sublist.refl _)
structure MapL (h p n m g:Nat) (w:World) (r0 r1:Int) (i:Nat) (A:Option Addr) (c:Nat) (l:List Fd) (wr:World):Prop where
 le:i<=3
 sub:(l.map Fd.key).Sublist (keys3.take i)
 nod:∀ f∈l,0<=f.node/\f.node<n
 len:l.length<=i
 res:wr.heap[m]?=some (zT 40)
 box:wr.heap[g]?=some (oX 13 0 0 ⟨#[]⟩ none 0 0 A l.length c r0 r1)
 kys:wr.heap[g+1]?=some (.cells #[vI i6 0,vT ⟨#[97]⟩,vI i6 0,vT ⟨#[98]⟩,vI i6 1,vT ⟨#[115]⟩] 131 (0,0))
 own:OwnF wr (g+2) (vS A l.length c) l
 src:SrcOk h p wr
 eff:Eff p w wr
 siz:g+2<=wr.heap.size
theorem MapL.next {h p n m g:Nat}{w:World}{r0 r1:Int}{i:Nat}{A:Option Addr}{c:Nat}{l:List Fd}{wr w':World}(hL:MapL h p n m g w r0 r1 i A c l wr) (hS:SrcOk h p w') (hE:Eff p wr w') (hp:p<m) (hm:m<g):MapL h p n m g w r0 r1 i A c l w':=by
 have hs:=hE.size;have hz:=hL.siz;exact⟨hL.le,hL.sub,hL.nod,hL.len,(hE.other _ (by omega) (by omega)).trans hL.res,(hE.other _ (by omega) (by omega)).trans hL.box,(hE.other _ (by omega) (by omega)).trans hL.kys,hL.own.eff hE (by omega),hS,hL.eff.trans hE,by omega⟩
theorem MapL.skip {h p n m g:Nat}{w:World}{r0 r1:Int}{i:Nat}{A:Option Addr}{c:Nat}{l:List Fd}{wr:World}(hL:MapL h p n m g w r0 r1 i A c l wr) (hi:i<3):MapL h p n m g w r0 r1 (i+1) A c l wr:=
 { hL with le:=hi,sub:=hL.sub.trans (List.take_sublist_take_left (Cg _)),len:=Nat.le_succ_of_le hL.len }
theorem zJq (h p n:Nat) (w:World) (hS:SrcOk h p w) (hn:1<=n) (hn2:n<=100):Calls tP 130 #[.pointer (some (aD p 0)),vI i6 n] w fun e w'=>
  (∃ x cs,e=.returned (.agg cs.toArray)/\TnB w' (Btw w.heap.size w'.heap.size) x cs/\∀ i,GenN n i x)/\SrcOk h p w'/\Eff p w w':=by
 have C:=hS.lt;obtain⟨W,hW,N,kr,ai⟩:=aW w (zT 40)
 have Y:=Eff.of_below N (Du C);have hc:=zAh h p n W (hS.below N) (by omega) (by omega);clear hS N;go_enter func130,ntmps130;go_wp2_with fail;rw[<-hW];clear hW;refine hc.mono ?_;rintro e w1 ⟨r0,rfl,a0,a1,hS1,hE1⟩;clear hc;have hc:=zAh h p n w1 hS1 (by omega) (by omega);go_wp2_with fail;refine hc.mono ?_;rintro e w2 ⟨r1,rfl,b0,b1,hS2,hE2⟩;clear hc;have hF:=hE1.trans hE2;have an:=hF.size;have R:=(hF.other w.heap.size (by omega) (by omega)).trans kr;obtain⟨W3,s⟩:∃ W3,W3=(w2.alloc (oX 13 0 0 ⟨#[]⟩ none 0 0 none 0 0 r0 r1)).alloc (.cells #[vI i6 0,vT ⟨#[97]⟩,vI i6 0,vT ⟨#[98]⟩,vI i6 1,vT ⟨#[115]⟩] 131):=⟨_,rfl⟩;have E:bW w2 W3:=by rw[s];exact (yR.alloc lR _).alloc (by simp) _
 have hL:MapL h p n w.heap.size w2.heap.size w r0 r1 0 none 0 [] W3:=by
  refine⟨by omega,by simp,by simp,by simp,(E.block _ (by omega)).trans R,by rw[s,Bp _ _ _ (by simp)];exact Bl w2 _,by rw[s];exact zAg _ (by simp),OwnE.nil _ _ _ _ _,hS2.below E,(Y.trans hF).trans (Eff.of_below E (by omega)),by rw[s];simp⟩
 clear E R Y hF hS1 hE1 hS2 hE2 kr;go_wp2_with fail;rw[<-s];clear s
 go_loopw [7] (fun iv wr=>∃ (i:Nat) (A:Option Addr) (c:Nat) (l:List Fd),iv=vI i6 i/\MapL h p n w.heap.size w2.heap.size w r0 r1 i A c l wr) (fun i _=>(3-intOf i).toNat)
 case atStart=>exact⟨0,none,0,[],rfl,hL⟩
 case round=>
  obtain⟨i,A,c,l,rfl,hL⟩:=hrel;by_cases hi:i<3
  ·have mp:(i:Int)<3:=by omega
   have am:IntKind.i64.wrap ((i:Int)+1)=(i:Int)+1:=Br _ (by omega);have hc:=zAh h p 2 wr hL.src (by omega) (by omega);have HL:=xI hL;clear hL;go_wp2_with fail;refine hc.mono ?_;rintro e w4 ⟨j,rfl,j0,j1,hS4,hE4⟩;clear hc;have d:=HL.out.next hS4 hE4 C (by omega)
   by_cases hj:j=1
   ·subst hj;obtain⟨kk,U,T,S,I⟩:=zQi hi;have HQ:Hid (∀ wq,Eff p w4 wq->(wq.cell? (aD (w2.heap.size+1) (i*2))=some (vI i6 kk.1)/\wq.cell? (aD (w2.heap.size+1) (i*2+1))=some (vT ⟨kk.2.toArray⟩))/\wq.cell? (aH w2 5)=some (vS A l.length c)):=xI fun wq hE=>⟨I wq _ ((hE.other _ (by omega) (by have:=d.siz;omega)).trans d.kys),(zAe ((hE.other _ (by omega) (by have:=d.siz;omega)).trans d.box)).2.2.2.2.2.1⟩;have al:=d.siz;have hd:Eff p w4 w4.drew:=Eff.of_below yR.drew (by omega);have hc:=zAh h p n w4.drew (d.src.below yR.drew) (by omega) (by omega);have H4:=xI d;have HX:=xI (aN U (aN T S));have Z:=xI I;clear d U T S I hS4 hE4;have k0:(0:Int)<=(i:Int):=by omega
    generalize k:l.length=la at HQ;have t:=xI k;clear k;go_wp2_with fail;refine ub 14 (fun wq=>wq.cell? (aD (w2.heap.size+1) (i*2))=some (vI i6 kk.1)/\wq.cell? (aD (w2.heap.size+1) (i*2+1))=some (vT ⟨kk.2.toArray⟩)) (fun wq=>wq.cell? (aH w2 5)=some (vS A la c)) ?_;refine oM 0 (HQ.out _ hd) ?_;refine oK 1 (HQ.out _ hd) ?_;refine oM 2 (HQ.out _ hd) ?_;refine oM 3 (HQ.out _ hd) ?_;refine oM 4 (HQ.out _ hd) ?_;refine oM 5 (HQ.out _ hd) ?_;refine oM 6 (HQ.out _ hd) ?_;refine oM 7 (HQ.out _ hd) ?_;refine oM 9 (HQ.out _ hd) ?_;refine uo 8 (fun K hK=>?_);go_simp;refine hc.mono ?_;rintro e w5 ⟨nd,rfl,n0,n1,hS5,hE5⟩;clear hc;have L:=hd.trans hE5;refine hK _ _ ⟨(HQ.out _ L).1,fun _=>(HQ.out _ L).2⟩ (oQ ?_);clear hK K;have hc:=zAh h p 2 w5 hS5 (by omega) (by omega);refine uo 10 (fun K hK=>?_);go_simp;refine hc.mono ?_;rintro e w6 ⟨q,rfl,q0,q1,hS6,hE6⟩;clear hc;have m:=L.trans hE6;refine hK _ _ ⟨(HQ.out _ m).1,fun _=>(HQ.out _ m).2⟩ (oQ ?_);clear hK K;refine oM 11 (HQ.out _ m) ?_;refine oM 12 (HQ.out _ m) ?_;have a:=H4.out.next hS6 m C (by omega)
    obtain⟨f,hf⟩:∃ f:Fd,f=⟨kk,nd,q==1⟩:=⟨_,rfl⟩;have J:FdOk f:=by rw[hf];have:=HX.out.2;exact⟨this.2,by unfold maxLen;have:=this.1;show kk.2.length<=_;omega,zB3 (x:=nd) (by omega) (by omega)⟩
    have ak:=a.siz;obtain⟨g,cap,w7,z,P,r,af,_⟩:=appG elF namF 37 w6 (w2.heap.size+2) _ l a.own f (fdC f) ⟨rfl,J⟩ rfl (zR9 (w:=w6) (B:=fun _=>True) ⟨rfl,J⟩) (by have:=a.len;omega) (by omega) _ rfl 1;rw[t.out]at z P;rw[hf]at z;unfold fdC at z;have u:=(r.block _ (by omega)).trans a.box;rw[t.out]at u;have ab:=(zAe u).2.2.2.2.2.1;have aa:=(zA3 u).2.2.2.2.2.1;have Q:MapL h p n w.heap.size w2.heap.size w r0 r1 (i+1) (some (aD g 0)) cap (l++[f]) (w7.setCell (aH w2 5) (vS (some (aD g 0)) (la+1) cap)):=by
     have H:(l++[f]).length=la+1:=by rw[Bd,t.out];rfl
     have ae:=Bm w7 w2.heap.size 5 _ _ (vS (some (aD g 0)) (la+1) cap) u;have M:Below (w2.heap.size) w6 (w7.setCell (aH w2 5) (vS (some (aD g 0)) (la+1) cap)):=(r.mono (show w2.heap.size<=w2.heap.size+2 by omega)).setCell (p:=(aH w2 5)) (Bc w2.heap.size) _;refine⟨hi,?_,?_,by have:=a.len;rw[H];have:=t.out;omega,(M.block _ (by omega)).trans a.res,by rw[H];simpa using ae,(Bq _ _ _ _ (by simp)).trans ((r.block _ (by omega)).trans a.kys),by rw[H];exact OwnE.low P (by omega),hS6.below3 M (by omega),a.eff.grow (M.mono (by omega)) C,by simp;have:=r.size;omega⟩
     ·rw[Dl];exact zOz a.sub (by rw[hf];exact HX.out.1)
     ·intro y hy;rcases B7.1 hy with hy|hy
      ·exact a.nod y hy
      ·rw[Ct.1 hy,hf];exact⟨n0,n1⟩
    have X:=Z.out w7 _ ((r.block _ (by omega)).trans a.kys);have ah:=Z.out _ _ Q.kys;have HR:=xI Q;clear Q u P r af a hf J hS6 hE6 hS5 hE5;refine uo 13 (fun K hK=>?_);go_simp;have O:=fun o=>HQ.out (w6.alloc o) (m.grow ((Bw w4.heap.size w6).alloc m.size o) (by omega));refine hK _ _ ⟨(O _).1,fun _=>(O _).2⟩ ?_;clear O
    (try simp only[pK])
    clear hK K;refine uo 14 (fun K hK=>?_);refine Lib.wp_append_run _ _ _ _ _ rfl _ _ rfl rfl _ w7 z ?_;refine hK _ _ ⟨X,ug⟩ (oQ ?_);clear hK K;refine oN 15 X ?_;refine uo 16 (fun K hK=>?_);go_simp;refine hK _ _ ⟨ah,ug⟩ (oQ ?_);clear hK K;refine (ud ?_) _;clear ab aa z;go_wp2_with fail
    go_roundw
    case rel=>exact⟨i+1,_,_,_,by go_num,HR.out⟩
    case measure=>simp[intOf];try omega
   ·have ao:(j==1)=false:=by rw[Cm];exact hj
    have HR:=xI (d.skip hi);clear d hS4 hE4;go_wp2_with fail
    go_roundw
    case rel=>exact⟨i+1,_,_,_,by go_num,HR.out⟩
    case measure=>simp[intOf];try omega
  ·have mp:¬ (i:Int)<3:=by omega
   have ag:i=3:=by have:=hL.le;omega
   obtain⟨x,hx⟩:∃ x:Tn,x=⟨13,0,0,[],[],l,r0,r1⟩:=⟨_,rfl⟩;have hb:=hL.box;have hz:=hL.siz;obtain⟨c0,c1,c2,c3,c4,c5,c6,c7⟩:=zAe hb;obtain⟨e0,e1,e2,e3,e4,e5,e6,e7⟩:=zAe (show wr.heap[w.heap.size]?=some oH from hL.res);obtain⟨z0,z1,z2,z3,z4,z5,z6,z7⟩:=zA3 (show wr.heap[w.heap.size]?=some oH from hL.res);have HL:=xI hL;generalize k:l.length=la at c5;have t:=xI k;clear hL hb k;go_wp2;refine nW fun V hV=>?_;obtain⟨ad,aj,G,D⟩:=box8 HL.out.res _ _ _ _ _ _ _ _ V hV;clear hV c0 c1 c2 c3 c4 c5 c6 c7 e0 e1 e2 e3 e4 e5 e6 e7 z0 z1 z2 z3 z4 z5 z6 z7;obtain⟨c0,c1,c2,c3,c4,c5,c6,c7⟩:=zAe ad;refine Cw (v:=.agg #[vI i6 13,vI i6 0,vI i6 0,vT ⟨#[]⟩,vS none 0 0,vS A la c,vI i6 r0,vI i6 r1]) (by simp[results,results130,go_sem,c0,c1,c2,c3,c4,c5,c6,c7]) rfl ?_;have hL:=HL.out;have k:=t.out;subst k ag;have F:RowB V (Btw w.heap.size V.heap.size) 4 (vS A l.length c) l.length (fdR l):=OwnE.rowB (hL.own.kept (w':=V) (by omega) fun b h1 _=>G b (by omega)) (by decide) (by have:=hL.len;unfold maxLen;omega) (by omega);refine⟨⟨x,_,rfl,⟨_,_,by rw[hx],?_,by rw[hx];exact RowB.nil _ _ _ _,?_⟩,fun i=>⟨?_,?_,?_,?_,?_⟩⟩,hL.src.below3 (D (p+1) (by omega)) (by omega),hL.eff.grow (D w.heap.size lR) C⟩
   ·rw[hx];exact⟨(by decide:i64B 13),(by decide:i64B 0),(by decide:i64B 0),by simp,zB3 (x:=r0) (by omega) (by omega),zB3 (x:=r1) (by omega) (by omega)⟩
   ·rw[hx];exact F
   ·have hf:fdsB n l=true:=zSw (by simpa [keys3] using hL.sub) hL.nod;rw[hx];simp[tnB,useB,formB,idxB,hf];omega
   ·rw[hx];intro h;simp[conn]at h
   ·rw[hx];intro h;simp at h
   ·rw[hx];simp
   ·rw[hx];exact hL.len
end Go.Proofs.YteedihhdcbepmaaGreat
