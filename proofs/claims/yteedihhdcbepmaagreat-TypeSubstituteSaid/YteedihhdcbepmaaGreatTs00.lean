/- Values of the document as trees, and how .. -/
import Derived.Test.YteedihhdcbepmaaGreatTsZ
import Derived.Deep.Slices
import Derived.Test.YteedihhdcbepmaaGreatProg
import Derived.Deep.AppendLies
import Derived.Deep.RegionLaw
import Derived.Lib.BufferWrite
import Derived.WalkSpells
import Derived.WalkLawsBesides
set_option linter.all false
open Go.Value renaming slice→vS,int→vI,string→vT
open Go.IntKind renaming i64→i6
open Go.Proofs.Tryz renaming prog→tP
namespace Go.Proofs.YteedihhdcbepmaaGreat
open Go Go.RowKit Go.WideShapes Go.Deep
mutual
inductive Vl where
 | mk (kind int:Int) (text:List UInt8) (kids:List Vl) (keys:List (Int×List UInt8)) (ents:List En) (labels:List (List UInt8))
inductive En where
 | mk (args:List Vl) (fails:Bool) (result:Vl)
end
def RowB (w:World) (B:Nat->Prop) (c:Nat) (u:Value) (n:Nat) (R:Nat->List Value->Prop):Prop:=
 ∃ A cap,u=vS A n cap/\(n<=maxLen/\n<=cap)/\(0<n->∃ b off,A=some (aD b off)/\B b/\b<w.heap.size/\∀ j,j<n->∃ cs:List Value,cs.length=c/\(∀ i,i<c->w.cell? (aD b (off+j*c+i))=cs[i]?)/\R j cs)
abbrev RowP (w:World) (H c:Nat) (u:Value) (n:Nat) (R:Nat->List Value->Prop):Prop:=RowB w (fun b=>b<H) c u n R
def VB:Nat->World->(Nat->Prop)->Vl->List Value->Prop
 | 0,_,_,_,_=>False
 | k+1,w,B,.mk kind int text kids keys ents labels,cs=>
  ∃ uk uy ue ul,cs=[vI i6 kind,vI i6 int,vT ⟨text.toArray⟩,uk,uy,ue,ul] /\
   (Lit.int .i64 kind).wf=true/\(Lit.int .i64 int).wf=true/\text.length<=maxLen /\
   RowB w B 7 uk kids.length (fun j cs=>∃ x,kids[j]?=some x/\VB k w B x cs) /\
   RowB w B 2 uy keys.length (fun j cs=>∃ x,keys[j]?=some x/\cs=[vI i6 x.1,vT ⟨x.2.toArray⟩]/\(Lit.int .i64 x.1).wf=true/\x.2.length<=maxLen) /\
   RowB w B 9 ue ents.length (fun j cs=>∃ args fails result,ents[j]?=some (.mk args fails result)/\∃ ua rs,cs=ua::.bool fails::rs/\RowB w B 7 ua args.length (fun j cs=>∃ x,args[j]?=some x/\VB k w B x cs)/\VB k w B result rs) /\
   RowB w B 1 ul labels.length (fun j cs=>∃ x,labels[j]?=some x/\cs=[vT ⟨x.toArray⟩]/\x.length<=maxLen)
abbrev VS (k:Nat) (w:World) (H:Nat) (v:Vl) (cs:List Value):Prop:=VB k w (fun b=>b<H) v cs
theorem RowB.sub {w:World}{B B':Nat->Prop}{c n:Nat}{u:Value}{R R':Nat->List Value->Prop}(h:RowB w B c u n R) (hB:∀ b,B b->B' b) (hR:∀ j cs,R j cs->R' j cs):RowB w B' c u n R':=by
 obtain⟨A,cap,h1,h2,h3⟩:=h;refine⟨A,cap,h1,h2,fun hn=>?_⟩;obtain⟨b,a,h4,h5,h6,h7⟩:=h3 hn;refine⟨b,a,h4,hB b h5,h6,fun j hj=>?_⟩;obtain⟨cs,h8,h9,d⟩:=h7 j hj;exact⟨cs,h8,h9,hR j cs d⟩
structure Same (B:Nat->Prop) (w w':World):Prop where
 size:w.heap.size<=w'.heap.size
 cell:∀ b i,B b->b<w.heap.size->w'.cell? (aD b i)=w.cell? (aD b i)
theorem Same.of_below {w w':World}{H:Nat}{B:Nat->Prop}(hb:Below H w w') (hB:∀ b,B b->b<H):Same B w w':=
 ⟨hb.size,fun _ _ h _=>hb.cell (p:=(aD _ _)) (hB _ h)⟩
theorem Same.refl (B:Nat->Prop) (w:World):Same B w w:=⟨Bc _,fun _ _ _ _=>rfl⟩
theorem Same.trans {B:Nat->Prop}{w w' w'':World}(h:Same B w w') (h':Same B w' w''):Same B w w'':=
 ⟨Ba h.size h'.size,fun b i hB hb=>(h'.cell b i hB (Bj hb h.size)).trans (h.cell b i hB hb)⟩
theorem RowB.keep {w w':World}{B:Nat->Prop}{c n:Nat}{u:Value}{R R':Nat->List Value->Prop}(h:RowB w B c u n R) (hw:Same B w w') (hR:∀ j cs,R j cs->R' j cs):RowB w' B c u n R':=by
 obtain⟨A,cap,h1,h2,h3⟩:=h;refine⟨A,cap,h1,h2,fun hn=>?_⟩;obtain⟨b,a,h4,h5,h6,h7⟩:=h3 hn;refine⟨b,a,h4,h5,Bj h6 hw.size,fun j hj=>?_⟩;obtain⟨cs,h8,h9,d⟩:=h7 j hj;exact⟨cs,h8,fun i hi=>(hw.cell b _ h5 h6).trans (h9 i hi),hR j cs d⟩
theorem VB.keep {w w':World}{B:Nat->Prop}(hw:Same B w w'):∀ {k:Nat}{v:Vl}{cs:List Value},VB k w B v cs->VB k w' B v cs
 | 0,_,_,h=>h.elim
 | k+1,.mk kind int text kids keys ents labels,cs,h=>by
  obtain⟨uk,uy,ue,ul,h1,h2,h3,h4,h5,h6,h7,h8⟩:=h;refine⟨uk,uy,ue,ul,h1,h2,h3,h4,h5.keep hw ?_,h6.keep hw fun _ _ h=>h,h7.keep hw ?_,h8.keep hw fun _ _ h=>h⟩
  ·rintro j cs ⟨x,hx,hv⟩;exact⟨x,hx,VB.keep hw hv⟩
  ·rintro j cs ⟨args,fails,result,hx,ua,rs,hc,ha,hr⟩;refine⟨args,fails,result,hx,ua,rs,hc,ha.keep hw ?_,VB.keep hw hr⟩;rintro j cs ⟨x,hx,hv⟩;exact⟨x,hx,VB.keep hw hv⟩
theorem VB.sub {w:World}{B B':Nat->Prop}(hB:∀ b,B b->B' b):∀ {k k':Nat}{v:Vl}{cs:List Value},k<=k'->VB k w B v cs->VB k' w B' v cs
 | 0,_,_,_,_,h=>h.elim
 | k+1,0,_,_,hk,_=>absurd hk (by omega)
 | k+1,k'+1,.mk kind int text kids keys ents labels,cs,hk,h=>by
  have hk':k<=k':=by omega
  obtain⟨uk,uy,ue,ul,h1,h2,h3,h4,h5,h6,h7,h8⟩:=h;refine⟨uk,uy,ue,ul,h1,h2,h3,h4,h5.sub hB ?_,h6.sub hB fun _ _ h=>h,h7.sub hB ?_,h8.sub hB fun _ _ h=>h⟩
  ·rintro j cs ⟨x,hx,hv⟩;exact⟨x,hx,VB.sub hB hk' hv⟩
  ·rintro j cs ⟨args,fails,result,hx,ua,rs,hc,ha,hr⟩;refine⟨args,fails,result,hx,ua,rs,hc,ha.sub hB ?_,VB.sub hB hk' hr⟩;rintro j cs ⟨x,hx,hv⟩;exact⟨x,hx,VB.sub hB hk' hv⟩
theorem RowB.mono {w:World}{H H' c n:Nat}{u:Value}{R R':Nat->List Value->Prop}(h:RowP w H c u n R) (hH:H<=H') (hR:∀ j cs,R j cs->R' j cs):RowP w H' c u n R':=
 RowB.sub h (fun _ hb=>Bj hb hH) hR
theorem RowB.on {w w':World}{H c n:Nat}{u:Value}{R R':Nat->List Value->Prop}(h:RowP w H c u n R) (hb:Below H w w') (hR:∀ j cs,R j cs->R' j cs):RowP w' H c u n R':=
 RowB.keep h (.of_below hb fun _ h=>h) hR
theorem VS.on {w w':World}{H:Nat}(hb:Below H w w'){k:Nat}{v:Vl}{cs:List Value}(h:VS k w H v cs):VS k w' H v cs:=
 VB.keep (.of_below hb fun _ h=>h) h
theorem VS.up {w:World}{H H':Nat}(hH:H<=H'){k k':Nat}{v:Vl}{cs:List Value}(hk:k<=k') (h:VS k w H v cs):VS k' w H' v cs:=
 VB.sub (fun _ hb=>Bj hb hH) hk h
theorem RowB.at7 {w:World}{H n j:Nat}{u:Value}{R:Nat->List Value->Prop}(h:RowP w H 7 u n R) (hj:j<n) :
  ∃ b off cap x0 x1 x2 x3 x4 x5 x6,u=vS (some (aD b off)) n cap/\b<H/\R j [x0,x1,x2,x3,x4,x5,x6]/\w.cell? (aD b (off+j*7))=some x0/\w.cell? (aD b (off+j*7+1))=some x1/\w.cell? (aD b (off+j*7+2))=some x2/\w.cell? (aD b (off+j*7+3))=some x3/\w.cell? (aD b (off+j*7+4))=some x4/\w.cell? (aD b (off+j*7+5))=some x5/\w.cell? (aD b (off+j*7+6))=some x6:=by
 obtain⟨A,cap,h1,_,h3⟩:=h;obtain⟨b,off,rfl,h5,_,h7⟩:=h3 (by omega);obtain⟨cs,h8,h9,a⟩:=h7 j hj
 match cs,h8 with
 | [x0,x1,x2,x3,x4,x5,x6],_=>
  exact⟨b,off,cap,x0,x1,x2,x3,x4,x5,x6,h1,h5,a,h9 0 (by omega),h9 1 (by omega),h9 2 (by omega),h9 3 (by omega),h9 4 (by omega),h9 5 (by omega),h9 6 (by omega)⟩
theorem RowB.at9 {w:World}{H n j:Nat}{u:Value}{R:Nat->List Value->Prop}(h:RowP w H 9 u n R) (hj:j<n) :
  ∃ b off cap y0 y1 x0 x1 x2 x3 x4 x5 x6,u=vS (some (aD b off)) n cap/\b<H/\R j [y0,y1,x0,x1,x2,x3,x4,x5,x6]/\w.cell? (aD b (off+j*9))=some y0/\w.cell? (aD b (off+j*9+1))=some y1/\w.cell? (aD b (off+j*9+2))=some x0/\w.cell? (aD b (off+j*9+3))=some x1/\w.cell? (aD b (off+j*9+4))=some x2/\w.cell? (aD b (off+j*9+5))=some x3/\w.cell? (aD b (off+j*9+6))=some x4/\w.cell? (aD b (off+j*9+7))=some x5/\w.cell? (aD b (off+j*9+8))=some x6:=by
 obtain⟨A,cap,h1,_,h3⟩:=h;obtain⟨b,off,rfl,h5,_,h7⟩:=h3 (by omega);obtain⟨cs,h8,h9,a⟩:=h7 j hj
 match cs,h8 with
 | [y0,y1,x0,x1,x2,x3,x4,x5,x6],_=>
  exact⟨b,off,cap,y0,y1,x0,x1,x2,x3,x4,x5,x6,h1,h5,a,h9 0 (by omega),h9 1 (by omega),h9 2 (by omega),h9 3 (by omega),h9 4 (by omega),h9 5 (by omega),h9 6 (by omega),h9 7 (by omega),h9 8 (by omega)⟩
theorem RowB.form {w:World}{B:Nat->Prop}{c n:Nat}{u:Value}{R:Nat->List Value->Prop}(h:RowB w B c u n R):∃ A cap,u=vS A n cap/\n<=maxLen:=by
 obtain⟨A,cap,h1,h2,_⟩:=h;exact⟨A,cap,h1,h2.1⟩
theorem RowB.cap {w:World}{B:Nat->Prop}{c m n cap:Nat}{A:Option Addr}{R:Nat->List Value->Prop}(h:RowB w B c (vS A m cap) n R):n<=cap:=by
 obtain⟨A',a,h1,h2,_⟩:=h;injection h1 with _ _ e3;subst e3;exact h2.2
theorem RowB.take {w:World}{B:Nat->Prop}{c n cap p:Nat}{A:Option Addr}{R:Nat->List Value->Prop}(h:RowB w B c (vS A n cap) n R) (hp:p<=n) (cap2:Nat) (hc2:cap2=cap:=by rfl):RowB w B c (vS A p cap2) p (fun j cs=>j<p/\R j cs):=by
 subst hc2;obtain⟨A',e,h1,h2,h3⟩:=h;injection h1 with e1 _ e3;subst e1 e3;refine⟨A,cap2,rfl,by omega,fun hn=>?_⟩;obtain⟨b,a,h4,h5,h6,h7⟩:=h3 (by omega);exact⟨b,a,h4,h5,h6,fun j hj=>by
  obtain⟨cs,h8,h9,d⟩:=h7 j (by omega);exact⟨cs,h8,h9,hj,d⟩⟩
theorem VB.form7 {k:Nat}{w:World}{B:Nat->Prop}{v:Vl}{cs:List Value}(h:VB k w B v cs) :
  ∃ a i s A1 n1 c1 A2 n2 c2 A3 n3 c3 A4 n4 c4,cs=[vI i6 a,vI i6 i,vT s,vS A1 n1 c1,vS A2 n2 c2,vS A3 n3 c3,vS A4 n4 c4]:=by
 cases k with
 | zero=>exact h.elim
 | succ k=>
  obtain⟨d,j,c,e,f,g,b⟩:=v;obtain⟨uk,uy,ue,ul,rfl,_,_,_,h1,h2,h3,h4⟩:=h;obtain⟨A1,c1,rfl,_⟩:=h1.form;obtain⟨A2,c2,rfl,_⟩:=h2.form;obtain⟨A3,c3,rfl,_⟩:=h3.form;obtain⟨A4,c4,rfl,_⟩:=h4.form;exact⟨_,_,_,_,_,_,_,_,_,_,_,_,_,_,_,rfl⟩
theorem zAc {w:World}{g:Nat}{e:TypeId}{z0 z1 z2 z3 z4 z5 z6:Value}(h:w.heap[g]?=some (.cells #[z0,z1,z2,z3,z4,z5,z6] e (0,0))):j7 w g z0 z1 z2 z3 z4 z5 z6:=
 ⟨cH h 0,cH h 1,cH h 2,cH h 3,cH h 4,cH h 5,cH h 6⟩
theorem zAd {w:World}{g:Nat}{e:TypeId}{z0 z1 z2 z3 z4 z5 z6:Value}(h:w.heap[g]?=some (.cells #[z0,z1,z2,z3,z4,z5,z6] e (0,0))):w.frozen? (aD g 0)=false/\w.frozen? (aD g 1)=false/\w.frozen? (aD g 2)=false/\w.frozen? (aD g 3)=false/\w.frozen? (aD g 4)=false/\w.frozen? (aD g 5)=false/\w.frozen? (aD g 6)=false:=
 ⟨Bz h 0,Bz h 1,Bz h 2,Bz h 3,Bz h 4,Bz h 5,Bz h 6⟩
def thn (a b:Int):Int:=if a=0 then b else a
theorem zB8 {a b:Int}:thn a b=0↔a=0/\b=0:=by
 unfold thn;split<;>omega
theorem zBc (a b c:Int):thn (thn a b) c=thn a (thn b c):=by
 unfold thn;split<;>simp_all
theorem zA8 (a:Int):thn a 0=a:=by
 unfold thn;split<;>omega
theorem zBw {a:Int}(h:a≠0) (b:Int):thn a b=a:=if_neg h
def cmpI (a b:Int):Int:=if a<b then -1 else if b<a then 1 else 0
theorem zAo {a b:Int}:cmpI a b=0↔a=b:=by
 unfold cmpI;split
 ·omega
 ·split<;>omega
def lex:List Int->List Int->Int
 | [],[]=>0
 | [],_::_=>-1
 | _::_,[]=>1
 | a::s,b::t=>thn (cmpI a b) (lex s t)
theorem zKo:∀ s t:List Int,lex t s=- lex s t
 | [],[]=>rfl
 | [],_::_=>rfl
 | _::_,[]=>rfl
 | a::s,b::t=>by
  simp only[lex];have:=zKo s t;unfold thn cmpI
  repeat (first|split|omega)
theorem zHv:∀ s t:List Int,lex s t=0↔s=t
 | [],[]=>by simp[lex]
 | [],_::_=>by simp[lex]
 | _::_,[]=>by simp[lex]
 | a::s,b::t=>by
  simp only[lex,zB8,zAo,zHv s t,Bb]
theorem zIx:∀ s t u:List Int,lex s t<=0->lex t u<=0->lex s u<=0/\(lex s t<0\/lex t u<0->lex s u<0)
 | [],[],u,_,h2=>⟨h2,fun h=>by rcases h with h|h;exact absurd h (by simp[lex]);exact h⟩
 | [],_::_,[],_,h2=>absurd h2 (by simp[lex])
 | [],_::_,_::_,_,_=>by simp[lex]
 | _::_,[],_,h1,_=>absurd h1 (by simp[lex])
 | _::_,_::_,[],_,h2=>absurd h2 (by simp[lex])
 | a::s,b::t,c::u,h1,h2=>by
  simp only[lex]at h1 h2 ⊢;have h3:=zIx s t u;revert h1 h2;unfold thn cmpI
  repeat' split
  all_goals intros
  all_goals first|omega|(constructor<;>omega)|skip
def cmpT:List UInt8->List UInt8->Int
 | [],[]=>0
 | [],_::_=>-1
 | _::_,[]=>1
 | a::s,b::t=>thn (cmpI a.toNat b.toNat) (cmpT s t)
def encT (s:List UInt8):List Int:=s.map (fun c=>(c.toNat:Int)+1)++[0]
theorem lexT:∀ (a b:List UInt8) (s t:List Int),lex (encT a++s) (encT b++t)=thn (cmpT a b) (lex s t)
 | [],[],s,t=>by simp[encT,lex,cmpT,cmpI]
 | [],b::q,s,t=>by
  have h:∀ x:Int,cmpI 0 ((b.toNat:Int)+1)=-1:=fun _=>if_pos (by omega);simp[encT,lex,cmpT,h 0,thn]
 | a::p,[],s,t=>by
  have h:cmpI ((a.toNat:Int)+1) 0=1:=by unfold cmpI;rw[if_neg (by omega),if_pos (by omega)]
  simp[encT,lex,cmpT,h,thn]
 | a::p,b::q,s,t=>by
  have h:cmpI ((a.toNat:Int)+1) ((b.toNat:Int)+1)=cmpI a.toNat b.toNat:=by
   unfold cmpI;simp only[show ((a.toNat:Int)+1<(b.toNat:Int)+1)=((a.toNat:Int)<b.toNat)from propext (by omega),show ((b.toNat:Int)+1<(a.toNat:Int)+1)=((b.toNat:Int)<a.toNat)from propext (by omega)]
  have e:∀ (c:UInt8) (l:List UInt8),encT (c::l)=((c.toNat:Int)+1)::encT l:=fun _ _=>rfl;rw[e,e,Dr,Dr,lex,h,lexT p q s t,cmpT,zBc]
theorem zBu:∀ {a b:List UInt8},cmpT a b=0↔a=b
 | [],[]=>by simp[cmpT]
 | [],_::_=>by simp[cmpT]
 | _::_,[]=>by simp[cmpT]
 | a::s,b::t=>by
  simp only[cmpT,zB8,zAo,zBu (a:=s) (b:=t),Bb];constructor
  ·rintro⟨h,rfl⟩;exact⟨UInt8.toNat_inj.1 (by omega),rfl⟩
  ·rintro⟨rfl,rfl⟩;exact⟨rfl,rfl⟩
def cmpK (a b:Int×List UInt8):Int:=thn (cmpI a.1 b.1) (cmpT a.2 b.2)
def cmpL {α:Type}(c:α->α->Int):List α->List α->Int
 | a::s,b::t=>thn (c a b) (cmpL c s t)
 | _,_=>0
theorem zGg {α:Type}{c:α->α->Int}(hc:∀ a b,c a b=0↔a=b):∀ {l m:List α},l.length=m.length->(cmpL c l m=0↔l=m)
 | [],[],_=>by simp[cmpL]
 | a::s,b::t,h=>by
  simp only[cmpL,zB8,hc,zGg hc (l:=s) (m:=t) (by simpa using h),Bb]
def encK (a:Int×List UInt8):List Int:=a.1::encT a.2
theorem lexK (a b:Int×List UInt8) (s t:List Int):lex (encK a++s) (encK b++t)=thn (cmpK a b) (lex s t):=by
 simp only[encK,Dr,lex,cmpK,zBc,lexT]
def encL {α:Type}(e:α->List Int) (l:List α):List Int:=l.flatMap e
theorem lexL {α:Type}{c:α->α->Int}{e:α->List Int}(h:∀ a b s t,lex (e a++s) (e b++t)=thn (c a b) (lex s t)):∀ (l m:List α) (s t:List Int),l.length=m.length->lex (encL e l++s) (encL e m++t)=thn (cmpL c l m) (lex s t)
 | [],[],s,t,_=>by simp[encL,cmpL,thn]
 | a::p,b::q,s,t,hl=>by
  have:=lexL h p q s t (by simpa using hl);simp only[encL]at this ⊢;simp only[Es,D6,h,cmpL,zBc,this]
theorem lexN {n m:Nat}{x y s t:List Int}{c:Int}(h:n=m->lex (x++s) (y++t)=thn c (lex s t)):lex ((n:Int)::(x++s)) ((m:Int)::(y++t))=thn (cmpI n m) (thn c (lex s t)):=by
 simp only[lex];by_cases hn:n=m
 ·rw[h hn]
 ·have:cmpI n m≠0:=fun h0=>hn (by have:=zAo.1 h0;omega);rw[zBw this,zBw this]
def cmpF (a b:Bool):Int:=if a=b then 0 else if a then -1 else 1
def encF (a:Bool):Int:=if a then 0 else 1
theorem lexF (a b:Bool):cmpI (encF a) (encF b)=cmpF a b:=by cases a<;>cases b<;>rfl
mutual
def cmpV:Vl->Vl->Int
 | .mk k1 i1 t1 v1 y1 e1 l1,.mk k2 i2 t2 v2 y2 e2 l2=>
  thn (cmpI k1 k2) (thn (cmpI i1 i2) (thn (cmpT t1 t2) (thn (cmpI y1.length y2.length) (thn (cmpL cmpK y1 y2) (thn (cmpI v1.length v2.length) (thn (cmpVs v1 v2) (thn (cmpI e1.length e2.length) (thn (cmpEs e1 e2) (thn (cmpI l1.length l2.length) (cmpL cmpT l1 l2))))))))))
def cmpVs:List Vl->List Vl->Int
 | a::s,b::t=>thn (cmpV a b) (cmpVs s t)
 | [],_=>0
 | _,[]=>0
def cmpE:En->En->Int
 | .mk a1 f1 r1,.mk a2 f2 r2=>thn (cmpI a1.length a2.length) (thn (cmpVs a1 a2) (thn (cmpF f1 f2) (cmpV r1 r2)))
def cmpEs:List En->List En->Int
 | a::s,b::t=>thn (cmpE a b) (cmpEs s t)
 | [],_=>0
 | _,[]=>0
end
mutual
def encV:Vl->List Int
 | .mk k i t v y e l=>k::i::(encT t++((y.length:Int)::(encL encK y++((v.length:Int)::(encVs v++((e.length:Int)::(encEs e++((l.length:Int)::(encL encT l++[])))))))))
def encVs:List Vl->List Int
 | []=>[]
 | a::s=>encV a++encVs s
def encE:En->List Int
 | .mk a f r=>(a.length:Int)::(encVs a++(encF f::encV r))
def encEs:List En->List Int
 | []=>[]
 | a::s=>encE a++encEs s
end
mutual
theorem lexV:∀ (a b:Vl) (s t:List Int),lex (encV a++s) (encV b++t)=thn (cmpV a b) (lex s t)
 | .mk k1 i1 t1 v1 y1 e1 l1,.mk k2 i2 t2 v2 y2 e2 l2,s,t=>by
  simp only[encV,cmpV,Dr,D6,Cn,zBc];rw[lex,lex,lexT,lexN (fun h=>lexL lexK _ _ _ _ h),lexN (fun h=>lexVs v1 v2 _ _ h),lexN (fun h=>lexEs e1 e2 _ _ h),lexN (fun h=>lexL lexT _ _ _ _ h)]
theorem lexVs:∀ (l m:List Vl) (s t:List Int),l.length=m.length->lex (encVs l++s) (encVs m++t)=thn (cmpVs l m) (lex s t)
 | [],[],s,t,_=>by simp[encVs,cmpVs,thn]
 | a::p,b::q,s,t,h=>by
  simp only[encVs,D6,cmpVs,zBc];rw[lexV a b,lexVs p q s t (by simpa using h)]
theorem lexE:∀ (a b:En) (s t:List Int),lex (encE a++s) (encE b++t)=thn (cmpE a b) (lex s t)
 | .mk a1 f1 r1,.mk a2 f2 r2,s,t=>by
  simp only[encE,cmpE,Dr,D6,zBc];rw[lexN (fun h=>lexVs a1 a2 _ _ h),lex,lexF,lexV r1 r2]
theorem lexEs:∀ (l m:List En) (s t:List Int),l.length=m.length->lex (encEs l++s) (encEs m++t)=thn (cmpEs l m) (lex s t)
 | [],[],s,t,_=>by simp[encEs,cmpEs,thn]
 | a::p,b::q,s,t,h=>by
  simp only[encEs,D6,cmpEs,zBc];rw[lexE a b,lexEs p q s t (by simpa using h)]
end
theorem zQq (a b:Vl):cmpV a b=lex (encV a) (encV b):=by
 have:=lexV a b [] [];simp only[Do]at this;rw[this,show lex [] []=0 from rfl,zA8]
mutual
theorem zJ6:∀ a b:Vl,cmpV a b=0->a=b
 | .mk k1 i1 t1 v1 y1 e1 l1,.mk k2 i2 t2 v2 y2 e2 l2,h=>by
  simp only[cmpV,zB8,zAo]at h;obtain⟨rfl,rfl,ht,hy,hy',hv,hv',he,he',hl,hl'⟩:=h;have ek:∀ a b:Int×List UInt8,cmpK a b=0↔a=b:=fun a b=>by
   unfold cmpK;rw[zB8,zAo,zBu];exact⟨fun ⟨h1,h2⟩=>Prod.ext h1 h2,fun h=>by rw[h];exact⟨rfl,rfl⟩⟩
  rw[zBu.1 ht,(zGg ek (by omega)).1 hy',(zGg (fun _ _=>zBu) (by omega)).1 hl',zH4 v1 v2 (by omega) hv',zKx e1 e2 (by omega) he']
theorem zH4:∀ l m:List Vl,l.length=m.length->cmpVs l m=0->l=m
 | [],[],_,_=>rfl
 | a::p,b::q,hl,h=>by
  simp only[cmpVs,zB8]at h;rw[zJ6 a b h.1,zH4 p q (by simpa using hl) h.2]
theorem zOb:∀ a b:En,cmpE a b=0->a=b
 | .mk a1 f1 r1,.mk a2 f2 r2,h=>by
  simp only[cmpE,zB8,zAo]at h;obtain⟨hl,ha,hf,hr⟩:=h;have:f1=f2:=by revert hf;cases f1<;>cases f2<;>simp[cmpF]
  rw[zH4 a1 a2 (by omega) ha,this,zJ6 r1 r2 hr]
theorem zKx:∀ l m:List En,l.length=m.length->cmpEs l m=0->l=m
 | [],[],_,_=>rfl
 | a::p,b::q,hl,h=>by
  simp only[cmpEs,zB8]at h;rw[zOb a b h.1,zKx p q (by simpa using hl) h.2]
end
theorem zN9 {a b:Vl}:cmpV a b=0↔a=b:=by
 constructor
 ·exact zJ6 a b
 ·rintro rfl;rw[zQq,zHv]
structure Tot {α:Type}(c:α->α->Int):Prop where
 zero:∀ a b,c a b=0↔a=b
 swap:∀ a b,c b a=- c a b
 trans:∀ a b d,c a b<0->c b d<0->c a d<0
theorem zEv {α:Type}{c:α->α->Int}{e:α->List Int}(h:∀ a b,c a b=lex (e a) (e b)) (hz:∀ a b,c a b=0->a=b):Tot c where
 zero a b:=⟨hz a b,fun h'=>by rw[h',h,zHv]⟩
 swap a b:=by rw[h,h,zKo]
 trans a b d h1 h2:=by
  rw[h]at h1 h2 ⊢;exact (zIx _ _ _ (by omega) (by omega)).2 (.inl h1)
theorem zQt (a b:En):cmpE a b=lex (encE a) (encE b):=by
 have:=lexE a b [] [];simp only[Do]at this;rw[this,show lex [] []=0 from rfl,zA8]
theorem zQs (a b:Int×List UInt8):cmpK a b=lex (encK a) (encK b):=by
 have:=lexK a b [] [];simp only[Do]at this;rw[this,show lex [] []=0 from rfl,zA8]
theorem zQr (a b:List UInt8):cmpT a b=lex (encT a) (encT b):=by
 have:=lexT a b [] [];simp only[Do]at this;rw[this,show lex [] []=0 from rfl,zA8]
theorem zI9 {a b:Int×List UInt8}(h:cmpK a b=0):a=b:=by
 unfold cmpK at h;rw[zB8,zAo,zBu]at h;exact Prod.ext h.1 h.2
theorem totE:Tot cmpE:=zEv zQt zOb
theorem totK:Tot cmpK:=zEv zQs fun _ _=>zI9
theorem totT:Tot cmpT:=zEv zQr fun _ _=>zBu.1
def AscC {α:Type}(c:α->α->Int) (l:List α):Prop:=l.Pairwise fun a b=>c a b<0
def ins {α:Type}(c:α->α->Int) (x:α):List α->List α
 | []=>[x]
 | a::l=>if c a x<0 then a::ins c x l else if c a x=0 then a::l else x::a::l
def srtC {α:Type}(c:α->α->Int) (l:List α):List α:=l.foldl (fun acc x=>ins c x acc) []
section
variable {α:Type}{c:α->α->Int}(T:Tot c)
include T
theorem zJp (x:α):∀ (l:List α) (y:α),y∈ins c x l↔y=x\/y∈l
 | [],y=>by simp[ins]
 | a::l,y=>by
  unfold ins;split
  ·rw[Cs,zJp x l y,Cs];constructor
   ·rintro (h|h|h)
    ·exact .inr (.inl h)
    ·exact .inl h
    ·exact .inr (.inr h)
   ·rintro (h|h|h)
    ·exact .inr (.inl h)
    ·exact .inl h
    ·exact .inr (.inr h)
  ·split
   ·rename_i h0;rw[(T.zero a x).1 h0];simp
   ·simp
theorem zOj (x:α):∀ (l:List α),AscC c l->AscC c (ins c x l)
 | [],_=>by simp[ins,AscC]
 | a::l,h=>by
  have h1:=Dv.1 h;unfold ins;split
  ·rename_i hlt;refine Dv.2 ⟨fun y hy=>?_,zOj x l h1.2⟩;rcases (zJp T x l y).1 hy with rfl|hy
   ·exact hlt
   ·exact h1.1 y hy
  ·split
   ·exact h
   ·rename_i hnlt hn0;have b:c x a<0:=by rw[T.swap];omega
    refine Dv.2 ⟨fun y hy=>?_,h⟩;rcases Cs.1 hy with rfl|hy
    ·exact b
    ·exact T.trans x a y b (h1.1 y hy)
theorem zFq:∀ (l acc:List α),AscC c acc->AscC c (l.foldl (fun acc x=>ins c x acc) acc)/\∀ y,y∈l.foldl (fun acc x=>ins c x acc) acc↔y∈l\/y∈acc
 | [],acc,h=>⟨h,fun y=>by simp⟩
 | x::l,acc,h=>by
  obtain⟨h1,h2⟩:=zFq l (ins c x acc) (zOj T x acc h);refine⟨h1,fun y=>?_⟩;rw[Dn,h2 y,zJp T,Cs];constructor
  ·rintro (h|h|h)
   ·exact .inl (.inr h)
   ·exact .inl (.inl h)
   ·exact .inr h
  ·rintro ((h|h)|h)
   ·exact .inr (.inl h)
   ·exact .inl h
   ·exact .inr (.inr h)
theorem zK3 (l:List α):AscC c (srtC c l):=(zFq T l [] List.Pairwise.nil).1
theorem zQa (l:List α) (y:α):y∈srtC c l↔y∈l:=by
 have:=(zFq T l [] List.Pairwise.nil).2 y;simpa [srtC] using this
theorem zGi:∀ {l m:List α},AscC c l->AscC c m->(∀ y,y∈l↔y∈m)->l=m
 | [],[],_,_,_=>rfl
 | [],b::q,_,_,h=>absurd ((h b).2 (by simp)) (by simp)
 | a::p,[],_,_,h=>absurd ((h a).1 (by simp)) (by simp)
 | a::p,b::q,hl,hm,h=>by
  have h1:=Dv.1 hl;have h2:=Dv.1 hm;have d:∀ x,¬ c x x<0:=fun x hx=>by have:=(T.zero x x).2 rfl;omega
  have f:a=b:=by
   rcases Cs.1 ((h a).1 (by simp))with e|e
   ·exact e
   rcases Cs.1 ((h b).2 (by simp))with e'|e'
   ·exact e'.symm
   exact absurd (T.trans a b a (h1.1 b e') (h2.1 a e)) (d a)
  subst f;rw[zGi h1.2 h2.2 fun y=>?_];constructor
  ·intro hy;rcases Cs.1 ((h y).1 (by simp[hy]))with rfl|e
   ·exact absurd (h1.1 _ hy) (d _)
   ·exact e
  ·intro hy;rcases Cs.1 ((h y).2 (by simp[hy]))with rfl|e
   ·exact absurd (h2.1 _ hy) (d _)
   ·exact e
end
def lowB (c:Int):Bool:=decide (97<=c)&&decide (c<=122)
def digB (c:Int):Bool:=decide (48<=c)&&decide (c<=57)
def upB (c:Int):Bool:=decide (65<=c)&&decide (c<=90)
def atomT (c:Int):Bool:=lowB c||digB c||c==95
def varT (c:Int):Bool:=lowB c||upB c||digB c||c==95
def nameB (first tail:Int->Bool) (l:List UInt8):Bool:=
 decide (1<=l.length)&&decide (l.length<=16)&&first (l.headD 0).toNat&&(l.drop 1).all (fun c=>tail c.toNat)
def atomB (l:List UInt8):Bool:=nameB lowB atomT l
def varB (l:List UInt8):Bool:=nameB upB varT l
def keyB (k:Int) (l:List UInt8):Bool:=if k=0 then atomB l else if k=1 then decide (l.length<=64) else false
theorem zAb {a b:Bool}(h:a=b):Ending.returned (.bool a)=.returned (.bool b):=by rw[h]
theorem zMy {k:IntKind}{a b:Int}(h:a=b):Ending.returned (.int k a)=.returned (.int k b):=by rw[h]
theorem zJd (p:UInt8->Bool) (l:List UInt8):(l.drop 1).all p=true↔∀ j (h:j<l.length),1<=j->p l[j]=true:=by
 cases l with
 | nil=>simp
 | cons a r=>
  simp only[List.drop_succ_cons,List.drop_zero,Cz];constructor
  ·intro h j hj h1;obtain⟨j',rfl⟩:∃ j',j=j'+1:=⟨j-1,by omega⟩;simp only[List.getElem_cons_succ];exact h _ (Cx _)
  ·intro h x hx;obtain⟨i,hi,rfl⟩:=List.getElem_of_mem hx;have:=h (i+1) (by simp;omega) (by omega);simpa using this
theorem zDk (f t:Int->Bool) (s:ByteArray) (h1:0<s.size) (h2:s.size<=16) (hf:f (s[0]'h1).toNat=true)
  (ht:∀ j (h:j<s.size),1<=j->t (s[j]'h).toNat=true):nameB f t s.data.toList=true:=by
 obtain⟨⟨l⟩⟩:=s;have e:(⟨⟨l⟩⟩:ByteArray).size=l.length:=rfl;simp only[e]at h1 h2;have b:∀ j (h:j<l.length),1<=j->t (l[j]'h).toNat=true:=fun j h h1=>ht j h h1;have c:f (l[0]'h1).toNat=true:=hf;have hd:l.headD 0=l[0]'h1:=by cases l with|nil=>simp at h1|cons a r=>rfl
 unfold nameB;simp only[Cy,Bf];exact⟨⟨⟨h1,h2⟩,by rw[hd];exact c⟩,(zJd _ _).2 b⟩
theorem zBa {t:Int->Bool}{s:ByteArray}{k:Nat}(hall:Hid (∀ j (h:j<s.size),1<=j->j<k->t (s[j]'h).toNat=true)) (hk:k<s.size) (hx:t (s[k]'hk).toNat=true) :
  ∀ j (h:j<s.size),1<=j->j<k+1->t (s[j]'h).toNat=true:=by
 intro j h h1 h2;by_cases e:j=k
 ·subst e;exact hx
 ·exact hall.out j h h1 (by omega)
theorem zAq (f t:Int->Bool) (s:ByteArray)
  (h:s.size<1\/16<s.size\/(∃ h:0<s.size,f (s[0]'h).toNat=false)\/(∃ j,∃ h:j<s.size,1<=j/\t (s[j]'h).toNat=false)):nameB f t s.data.toList=false:=by
 obtain⟨⟨l⟩⟩:=s;rw[<-Bool.not_eq_true];intro hn;unfold nameB at hn;simp only[Cy,Bf]at hn;obtain⟨⟨⟨h1,h2⟩,h3⟩,h4⟩:=hn;rw[zJd]at h4;have e:(⟨⟨l⟩⟩:ByteArray).size=l.length:=rfl;rcases h with h|h|⟨h,hf⟩|⟨j,h,hj,hf⟩
 ·rw[e]at h;omega
 ·rw[e]at h;omega
 ·have hd:l.headD 0=l[0]'h:=by cases l with|nil=>simp at h1|cons a r=>rfl
  rw[hd]at h3;have:f (l[0]'h).toNat=false:=hf;rw[this]at h3;cases h3
 ·have:t (l[j]'h).toNat=false:=hf;have h5:=h4 j h hj;rw[this]at h5;cases h5
instance {α:Type}(c:α->α->Int) (l:List α):Decidable (AscC c l):=inferInstanceAs (Decidable (l.Pairwise fun a b=>c a b<0))
def zAn:Vl->Int | .mk k _ _ _ _ _ _=>k
def zeroV:Vl:=.mk 0 0 [] [] [] [] []
def zHc:En->List Vl | .mk a _ _=>a
def zH3:En->Bool | .mk _ f _=>f
def resOf:En->Vl | .mk _ _ r=>r
def isZ (v:Vl):Bool:=decide (cmpV v zeroV=0)
theorem zR1 {v:Vl}:isZ v=true↔v=zeroV:=by unfold isZ;rw[decide_eq_true_iff,zN9]
def consB:List Vl->Bool
 | [_,b]=>decide (zAn b=5)||decide (zAn b=7)
 | _=>false
def entB (i:Int) (e:En):Bool:=decide (((zHc e).length:Int)=i)&&(!zH3 e||isZ (resOf e))
def kindB (k i:Int) (t:List UInt8) (v:List Vl) (y:List (Int×List UInt8)) (e:List En):Bool:=
 if k=1\/k=5 then true
 else if k=2 then decide (t.length<=64)
 else if k=3 then atomB t
 else if k=4 then decide (0<=i)
 else if k=6 then decide (v.length<=4)
 else if k=7 then consB v
 else if k=8 then y.all (fun x=>keyB x.1 x.2)&&decide (AscC cmpK y)&&decide (y.length=v.length)
 else if k=9 then decide (0<=i/\i<=4)&&e.all (entB i)&&decide (AscC cmpE e)
 else false
def usesB (k i:Int) (t:List UInt8) (v:List Vl) (y:List (Int×List UInt8)) (e:List En):Bool:=
 (decide (k=1\/k=4\/k=9)||decide (i=0))&&(decide (k=2\/k=3)||t.isEmpty)&&(decide (k=6\/k=7\/k=8)||v.isEmpty)&&(decide (k=8)||y.isEmpty)&&(decide (k=9)||e.isEmpty)
def zAj (l:List (List UInt8)):Bool:=l.all varB&&decide (AscC cmpT l)
mutual
def okV:Vl->Bool
 | .mk k i t v y e l=>zAj l&&usesB k i t v y e&&kindB k i t v y e&&okVs v&&okEs e
def okVs:List Vl->Bool
 | []=>true
 | a::s=>okV a&&okVs s
def okE:En->Bool
 | .mk a f r=>okVs a&&(f||okV r)
def okEs:List En->Bool
 | []=>true
 | a::s=>okE a&&okEs s
end
theorem zCa:∀ l:List Vl,okVs l=l.all okV
 | []=>rfl
 | a::s=>by rw[okVs,zCa s,De]
theorem zFf:∀ l:List En,okEs l=l.all okE
 | []=>rfl
 | a::s=>by rw[okEs,zFf s,De]
mutual
def nodes:Vl->Nat
 | .mk _ _ _ v _ e _=>1+zJm v+zM7 e
def zJm:List Vl->Nat
 | []=>0
 | a::s=>nodes a+zJm s
def zSi:En->Nat
 | .mk a f r=>zJm a+if f then 0 else nodes r
def zM7:List En->Nat
 | []=>0
 | a::s=>zSi a+zM7 s
end
structure Fd where
 (key:Int×List UInt8) (node:Int) (opt:Bool)
structure Tn where
 (kind lo hi:Int) (text:List UInt8) (kids:List Int) (fds:List Fd) (r0 r1:Int)
def idxB (n:Nat) (k:Int):Bool:=decide (0<=k)&&decide (k<n)
def conn (x:Tn):Bool:=decide (x.kind=16\/x.kind=17\/x.kind=18)
def fdsB (n:Nat) (l:List Fd):Bool:=l.all (fun f=>idxB n f.node&&keyB f.key.1 f.key.2)&&decide (AscC cmpK (l.map Fd.key))
def formB (n:Nat) (x:Tn):Bool:=
 if x.kind=3 then decide (x.kids.length=0)&&decide (x.lo<=x.hi)
 else if x.kind=4 then decide (x.kids.length=0)&&decide (x.text.length<=64)
 else if x.kind=6 then decide (x.kids.length=0)&&atomB x.text
 else if x.kind=19 then decide (x.kids.length=0)&&varB x.text
 else if x.kind=1\/x.kind=2\/x.kind=5\/x.kind=7\/x.kind=8\/x.kind=9\/x.kind=11\/x.kind=15 then decide (x.kids.length=0)
 else if x.kind=10 then decide (x.kids.length<=4)
 else if x.kind=12 then decide (x.kids.length=2)
 else if x.kind=14 then decide (1<=x.kids.length)&&decide (x.kids.length<=5)
 else if x.kind=16\/x.kind=17 then decide (1<=x.kids.length)
 else if x.kind=18 then decide (x.kids.length=1)
 else if x.kind=13 then fdsB n x.fds&&decide (x.kids.length=0)&&idxB n x.r0&&idxB n x.r1
 else false
def useB (x:Tn):Bool:=
 (decide (x.kind=3)||decide (x.lo=0/\x.hi=0))&&(decide (x.kind=4\/x.kind=6\/x.kind=19)||x.text.isEmpty)&&(decide (x.kind=13)||(x.fds.isEmpty&&decide (x.r0=0/\x.r1=0)))
def tnB (n:Nat) (x:Tn):Bool:=x.kids.all (idxB n)&&useB x&&formB n x
def dn (d:List Bool) (k:Nat):Bool:=d[k]?.getD false
def kidsD (d:List Bool) (x:Tn):Bool:=!conn x||x.kids.all (fun k=>dn d k.toNat)
def stepD (ns:List Tn) (d:List Bool) (i:Nat):List Bool:=
 match ns[i]? with
 | some x=>d.set i (dn d i||kidsD d x)
 | none=>d
def zIk (ns:List Tn) (d:List Bool):List Bool:=(List.range ns.length).foldl (stepD ns) d
def zAk (ns:List Tn):Nat->List Bool
 | 0=>List.replicate ns.length false
 | r+1=>zIk ns (zAk ns r)
def wfC (ns:List Tn) (root:Int):Int:=
 if !(idxB ns.length root&&ns.all (tnB ns.length)) then 1 else if (zAk ns ns.length).all id then 0 else 3
def Ctr (ns:List Tn):Prop:=∃ f:Nat->Nat,∀ i x,ns[i]?=some x->conn x=true->∀ k∈x.kids,∀ y,ns[k.toNat]?=some y->conn y=true->f k.toNat<f i
theorem zE2 (ns:List Tn) (d:List Bool) (i:Nat):(stepD ns d i).length=d.length:=by
 unfold stepD;split<;>simp
theorem zCf (d:List Bool) (i k:Nat) (b:Bool):dn (d.set i b) k=if i=k/\i<d.length then b else dn d k:=by
 unfold dn;rw[Er];by_cases h:i=k
 ·subst h;by_cases h2:i<d.length
  ·rw[if_pos rfl,if_pos h2,if_pos ⟨rfl,h2⟩];rfl
  ·rw[if_pos rfl,if_neg h2,if_neg (fun h=>h2 h.2),Ce (by omega)]
 ·rw[if_neg h,if_neg (fun h'=>h h'.1)]
def LeD (d d':List Bool):Prop:=d.length=d'.length/\∀ i,dn d i=true->dn d' i=true
theorem LeD.refl (d:List Bool):LeD d d:=⟨rfl,fun _ h=>h⟩
theorem LeD.trans {a b c:List Bool}(h:LeD a b) (h':LeD b c):LeD a c:=⟨h.1.trans h'.1,fun i hi=>h'.2 i (h.2 i hi)⟩
theorem LeD.cases:∀ {d d':List Bool},LeD d d'->d=d'\/d.count true<d'.count true
 | [],[],_=>.inl rfl
 | [],_::_,h=>absurd h.1 (by simp)
 | _::_,[],h=>absurd h.1 (by simp)
 | a::d,b::d',h=>by
  have hl:LeD d d':=⟨by simpa using h.1,fun i hi=>by simpa [dn] using h.2 (i+1) (by simpa [dn] using hi)⟩;have h0:a=true->b=true:=by simpa [dn] using h.2 0
  have hc:d.count true<=d'.count true:=by rcases hl.cases with rfl|h<;>omega
  cases a<;>cases b
  ·rcases hl.cases with rfl|h
   ·exact .inl rfl
   ·right;simpa using h
  ·right;simp;omega
  ·simp at h0
  ·rcases hl.cases with rfl|h
   ·exact .inl rfl
   ·right;simpa using h
theorem LeD.anti {d d':List Bool}(h:LeD d d') (h':LeD d' d):d=d':=by
 rcases h.cases with e|e
 ·exact e
 ·rcases h'.cases with e'|e'
  ·exact e'.symm
  ·omega
theorem zQd (ns:List Tn) (d:List Bool) (i:Nat):LeD d (stepD ns d i):=by
 refine⟨(zE2 ns d i).symm,fun k hk=>?_⟩;unfold stepD;split
 ·rw[zCf];split
  ·rename_i h;rw[h.1,hk];rfl
  ·exact hk
 ·exact hk
theorem zFi (ns:List Tn):∀ (l:List Nat) (d:List Bool),LeD d (l.foldl (stepD ns) d)/\(l.foldl (stepD ns) d=d->∀ i∈l,stepD ns d i=d)
 | [],d=>⟨LeD.refl _,fun _ _ h=>by simp at h⟩
 | a::l,d=>by
  have h1:=zQd ns d a;have h2:=zFi ns l (stepD ns d a);refine⟨h1.trans h2.1,fun he i hi=>?_⟩;have he:l.foldl (stepD ns) (stepD ns d a)=d:=he;have ha:stepD ns d a=d:=((h1.anti (by have h:=h2.1;rw[he]at h;exact h))).symm;rcases Cs.1 hi with rfl|hi
  ·exact ha
  ·have h:=h2.2 (by rw[he,ha]) i hi
   rwa [ha]at h
theorem zAt (ns:List Tn):∀ r,(zAk ns r).length=ns.length
 | 0=>by simp[zAk]
 | r+1=>by
  rw[zAk,zIk,<-(zFi ns _ _).1.1,zAt ns r]
theorem zL5 {ns:List Tn}{d:List Bool}(hl:d.length=ns.length) (hv:∀ x∈ns,x.kids.all (idxB ns.length)=true) (hc:Ctr ns) (hfix:∀ i∈List.range ns.length,stepD ns d i=d):∀ i,i<ns.length->dn d i=true:=by
 obtain⟨f,hf⟩:=hc;have a:∀ i,i<ns.length->(∀ x,ns[i]?=some x->kidsD d x=true)->dn d i=true:=by
  intro i hi hk;have h:=hfix i (List.mem_range.2 hi);unfold stepD at h;rw[By hi]at h;rw[<-h];rw[zCf,if_pos (⟨rfl,by omega⟩:i=i/\i<d.length),hk _ (By hi),Bool.or_true]
 have c:∀ N i,i<ns.length->f i<N->dn d i=true:=by
  intro N
  induction N with
  | zero=>intro i _ h;omega
  | succ N ih=>
   intro i hi hN;refine a i hi fun x hx=>?_;unfold kidsD;by_cases hcx:conn x=true
   ·rw[hcx];simp only[Bool.not_true,Bool.false_or,Cz];intro k hk;have e:=Cz.1 (hv x (Bh hx)) k hk;simp only[idxB,Cy,Bf]at e;have b:k.toNat<ns.length:=by omega
    by_cases hcy:conn ns[k.toNat]=true
    ·exact ih _ b (by have:=hf i x hx hcx k hk _ (By b) hcy;omega)
    ·refine a _ b fun y hy=>?_;rw[By b,Cq]at hy;subst hy;unfold kidsD;simp[hcy]
   ·simp[hcx]
 intro i hi;exact c _ i hi (Nat.lt_succ_self _)
theorem zGt {ns:List Tn}(hv:∀ x∈ns,x.kids.all (idxB ns.length)=true) (hc:Ctr ns):(zAk ns ns.length).all id=true:=by
 have f:∀ r,(∀ i,i<ns.length->dn (zAk ns r) i=true)\/r<=(zAk ns r).count true:=by
  intro r
  induction r with
  | zero=>exact .inr (Bt _)
  | succ r ih=>
   have c:=zFi ns (List.range ns.length) (zAk ns r);rcases ih with ih|ih
   ·exact .inl fun i hi=>c.1.2 i (ih i hi)
   ·rcases c.1.cases with he|he
    ·exact .inl fun i hi=>c.1.2 i (zL5 (zAt ns r) hv hc (c.2 he.symm) i hi)
    ·right;show r+1<=(zIk ns (zAk ns r)).count true;unfold zIk;omega
 have d:∀ i,i<ns.length->dn (zAk ns ns.length) i=true:=by
  rcases f ns.length with h|h
  ·exact h
  ·intro i hi;have e:(zAk ns ns.length).count true=(zAk ns ns.length).length:=by
    have:=List.count_le_length (a:=true) (l:=zAk ns ns.length);rw[zAt]at this ⊢;omega
   rw[List.count_eq_length]at e;unfold dn;rw[By (by rw[zAt];exact hi)];exact (e _ (Cx _)).symm
 rw[Cz];intro b hb;obtain⟨i,hi,rfl⟩:=List.mem_iff_getElem.1 hb;have h:=d i (by rwa [zAt]at hi);unfold dn at h;rw[By hi]at h;exact h
def GoodD (ns:List Tn) (d:List Bool):Prop:=∃ f:Nat->Nat,∀ i x,ns[i]?=some x->dn d i=true->conn x=true->∀ k∈x.kids,dn d k.toNat=true/\f k.toNat<f i
theorem zCb {l:List Nat}{a:Nat}(h:a∈l):a<=l.sum:=by
 induction l with
 | nil=>simp at h
 | cons b l ih=>
  rw[List.sum_cons];rcases Cs.1 h with rfl|h
  ·omega
  ·have:=ih h;omega
theorem GoodD.step {ns:List Tn}{d:List Bool}(h:GoodD ns d) (i:Nat):GoodD ns (stepD ns d i):=by
 unfold stepD;split
 case h_2=>exact h
 rename_i x hx;by_cases hd:dn d i=true
 ·have:d.set i (dn d i||kidsD d x)=d:=by
   rw[hd,Bool.true_or];apply Dq;intro k;rw[Er];split
   ·rename_i he;subst he;unfold dn at hd;cases hq:d[i]? with
    | none=>rw[hq]at hd;simp at hd
    | some b=>
     rw[hq]at hd;have hi:i<d.length:=(Bx.1 hq).1;simp at hd;simp[hi,hd]
   ·rfl
  rw[this];exact h
 ·rw[Eq.2 hd,Bool.false_or];cases hk:kidsD d x with
  | false=>
   have l:∀ k,dn (d.set i false) k=dn d k:=by
    intro k;rw[zCf];split
    ·rename_i he;rw[<-he.1];exact (Eq.2 hd).symm
    ·rfl
   obtain⟨f,hf⟩:=h;exact⟨f,fun j y hy hj hc k hk=>by rw[l]at hj ⊢;exact hf j y hy hj hc k hk⟩
  | true=>
   obtain⟨f,hf⟩:=h;have hi:i<ns.length:=(Bx.1 hx).1;refine⟨fun j=>if j=i then (x.kids.map fun k=>f k.toNat).sum+1 else f j,fun j y hy hj hc k hkm=>?_⟩;rw[zCf]at hj ⊢;by_cases hji:i=j
   ·subst hji;have g:y=x:=by rw[hx]at hy;injection hy with hy;exact hy.symm
    subst g;unfold kidsD at hk;rw[hc]at hk;simp only[Bool.not_true,Bool.false_or,Cz]at hk;have c:=hk k hkm;have a:k.toNat≠i:=fun e=>hd (e ▸ c);refine⟨by rw[if_neg (fun h=>a h.1.symm)];exact c,?_⟩;show (if k.toNat=i then _ else _)<(if i=i then _ else _);rw[if_neg a,if_pos rfl];have:=zCb (Ep (f:=fun k:Int=>f k.toNat) hkm);omega
   ·rw[if_neg (fun h=>hji h.1)]at hj;have hh:=hf j y hy hj hc k hkm;have a:k.toNat≠i:=fun e=>hd (e ▸ hh.1);refine⟨by rw[if_neg (fun h=>a h.1.symm)];exact hh.1,?_⟩;show (if k.toNat=i then _ else _)<(if j=i then _ else _);rw[if_neg a,if_neg (fun h=>hji h.symm)];exact hh.2
theorem zG6 {ns:List Tn}:∀ (l:List Nat) (d:List Bool),d.length=ns.length->GoodD ns d->GoodD ns (l.foldl (stepD ns) d)
 | [],_,_,h=>h
 | a::l,d,hl,h=>zG6 l _ (by rw[zE2];exact hl) (h.step a)
theorem zE6 (ns:List Tn):∀ r,GoodD ns (zAk ns r)
 | 0=>⟨fun _=>0,fun i x _ hd=>by
   unfold dn zAk at hd;rw[Eh]at hd;split at hd<;>simp at hd⟩
 | r+1=>zG6 _ _ (zAt ns r) (zE6 ns r)
theorem zEq {ns:List Tn}{r:Nat}(h:(zAk ns r).all id=true):Ctr ns:=by
 obtain⟨f,hf⟩:=zE6 ns r;have hd:∀ i,i<ns.length->dn (zAk ns r) i=true:=by
  intro i hi;unfold dn;rw[By (by rw[zAt];exact hi)];exact Cz.1 h _ (Cx _)
 exact⟨f,fun i x hx hc k hk y _ _=>(hf i x hx (hd i (Bx.1 hx).1) hc k hk).2⟩
theorem zKd {ns:List Tn}{root:Int}:wfC ns root=0↔idxB ns.length root=true/\(∀ x∈ns,tnB ns.length x=true)/\Ctr ns:=by
 unfold wfC;constructor
 ·intro h;split at h
  ·omega
  rename_i h1;split at h
  ·rename_i h2;simp only[Bool.not_eq_true',Bool.not_eq_false,Cy,Cz]at h1;exact⟨h1.1,h1.2,zEq h2⟩
  ·omega
 ·rintro⟨h1,h2,h3⟩;rw[h1,Cz.2 h2];simp only[Bool.and_self,Bool.not_true,Bool.false_eq_true,if_false];rw[if_pos (zGt (fun x hx=>by have:=h2 x hx;simp only[tnB,Cy]at this;exact this.1.1) h3)]
theorem zN6 {ns:List Tn}(h:∀ (i:Nat) (x:Tn),ns[i]?=some x->conn x=true->∀ k∈x.kids,(i:Int)<k):Ctr ns:=
 ⟨fun i=>ns.length-i,fun i x hx hc k hk y hy _=>by
  have h1:=h i x hx hc k hk;have h2:=(Bx.1 hy).1;show ns.length-k.toNat<ns.length-i;omega⟩
abbrev i64B (x:Int):Prop:=(Lit.int .i64 x).wf=true
def kidR (l:List Int) (j:Nat) (cs:List Value):Prop:=∃ x,l[j]?=some x/\cs=[vI i6 x]/\i64B x
def fdC (f:Fd):List Value:=[vI i6 f.key.1,vT ⟨f.key.2.toArray⟩,vI i6 f.node,.bool f.opt]
def FdOk (f:Fd):Prop:=i64B f.key.1/\f.key.2.length<=maxLen/\i64B f.node
def fdR (l:List Fd) (j:Nat) (cs:List Value):Prop:=∃ x,l[j]?=some x/\cs=fdC x/\FdOk x
def TnB (w:World) (B:Nat->Prop) (x:Tn) (cs:List Value):Prop:=
 ∃ uk uf,cs=[vI i6 x.kind,vI i6 x.lo,vI i6 x.hi,vT ⟨x.text.toArray⟩,uk,uf,vI i6 x.r0,vI i6 x.r1] /\
  (i64B x.kind/\i64B x.lo/\i64B x.hi/\x.text.length<=maxLen/\i64B x.r0/\i64B x.r1)/\RowB w B 1 uk x.kids.length (kidR x.kids)/\RowB w B 4 uf x.fds.length (fdR x.fds)
def tnR (w:World) (B:Nat->Prop) (l:List Tn) (j:Nat) (cs:List Value):Prop:=∃ x,l[j]?=some x/\TnB w B x cs
def TyB (w:World) (B:Nat->Prop) (ns:List Tn) (root:Int) (cs:List Value):Prop:=
 ∃ u,cs=[u,vI i6 root]/\i64B root/\RowB w B 8 u ns.length (tnR w B ns)
theorem TnB.keep {w w':World}{B:Nat->Prop}{x:Tn}{cs:List Value}(hw:Same B w w') (h:TnB w B x cs):TnB w' B x cs:=by
 obtain⟨uk,uf,h1,h2,h3,h4⟩:=h;exact⟨uk,uf,h1,h2,h3.keep hw fun _ _ h=>h,h4.keep hw fun _ _ h=>h⟩
theorem TnB.sub {w:World}{B B':Nat->Prop}{x:Tn}{cs:List Value}(hB:∀ b,B b->B' b) (h:TnB w B x cs):TnB w B' x cs:=by
 obtain⟨uk,uf,h1,h2,h3,h4⟩:=h;exact⟨uk,uf,h1,h2,h3.sub hB fun _ _ h=>h,h4.sub hB fun _ _ h=>h⟩
theorem TyB.keep {w w':World}{B:Nat->Prop}{ns:List Tn}{r:Int}{cs:List Value}(hw:Same B w w') (h:TyB w B ns r cs):TyB w' B ns r cs:=by
 obtain⟨u,h1,h2,h3⟩:=h;exact⟨u,h1,h2,h3.keep hw fun _ _ ⟨x,hx,h⟩=>⟨x,hx,h.keep hw⟩⟩
theorem TyB.sub {w:World}{B B':Nat->Prop}{ns:List Tn}{r:Int}{cs:List Value}(hB:∀ b,B b->B' b) (h:TyB w B ns r cs):TyB w B' ns r cs:=by
 obtain⟨u,h1,h2,h3⟩:=h;exact⟨u,h1,h2,h3.sub hB fun _ _ ⟨x,hx,h⟩=>⟨x,hx,h.sub hB⟩⟩
abbrev TyP (w:World) (H:Nat) (ns:List Tn) (r:Int) (cs:List Value):Prop:=TyB w (fun b=>b<H) ns r cs
abbrev TnP (w:World) (H:Nat) (x:Tn) (cs:List Value):Prop:=TnB w (fun b=>b<H) x cs
theorem TyB.on {w w':World}{H:Nat}{ns:List Tn}{r:Int}{cs:List Value}(h:TyP w H ns r cs) (hb:Below H w w'):TyP w' H ns r cs:=h.keep (.of_below hb fun _ h=>h)
theorem TnB.on {w w':World}{H:Nat}{x:Tn}{cs:List Value}(h:TnP w H x cs) (hb:Below H w w'):TnP w' H x cs:=h.keep (.of_below hb fun _ h=>h)
theorem TyB.up {w:World}{H H':Nat}{ns:List Tn}{r:Int}{cs:List Value}(h:TyP w H ns r cs) (hH:H<=H'):TyP w H' ns r cs:=h.sub fun _ h=>Bj h hH
theorem TnB.up {w:World}{H H':Nat}{x:Tn}{cs:List Value}(h:TnP w H x cs) (hH:H<=H'):TnP w H' x cs:=h.sub fun _ h=>Bj h hH
theorem TyB.at8 {w:World}{H:Nat}{ns:List Tn}{u:Value}{j:Nat}{x:Tn}(h:RowP w H 8 u ns.length (tnR w (fun b=>b<H) ns)) (hx:ns[j]?=some x) :
  ∃ b off cap Ak ck Af cf,u=vS (some (aD b off)) ns.length cap/\b<H/\(i64B x.kind/\i64B x.lo/\i64B x.hi/\x.text.length<=maxLen/\i64B x.r0/\i64B x.r1) /\
   RowP w H 1 (vS Ak x.kids.length ck) x.kids.length (kidR x.kids)/\RowP w H 4 (vS Af x.fds.length cf) x.fds.length (fdR x.fds) /\
   w.cell? (aD b (off+j*8))=some (vI i6 x.kind)/\w.cell? (aD b (off+j*8+1))=some (vI i6 x.lo)/\w.cell? (aD b (off+j*8+2))=some (vI i6 x.hi)/\w.cell? (aD b (off+j*8+3))=some (vT ⟨x.text.toArray⟩) /\
   w.cell? (aD b (off+j*8+4))=some (vS Ak x.kids.length ck)/\w.cell? (aD b (off+j*8+5))=some (vS Af x.fds.length cf)/\w.cell? (aD b (off+j*8+6))=some (vI i6 x.r0)/\w.cell? (aD b (off+j*8+7))=some (vI i6 x.r1):=by
 have hj:=(Bx.1 hx).1;obtain⟨A,cap,h1,_,h3⟩:=h;obtain⟨b,off,rfl,h5,_,h7⟩:=h3 (by omega);obtain⟨cs,h8,h9,y,hy,uk,uf,rfl,hw,hk,hf⟩:=h7 j hj;rw[hx]at hy;injection hy with hy;subst hy;obtain⟨Ak,ck,rfl,_⟩:=hk.form;obtain⟨Af,cf,rfl,_⟩:=hf.form;exact⟨b,off,cap,Ak,ck,Af,cf,h1,h5,hw,hk,hf,h9 0 (by omega),h9 1 (by omega),h9 2 (by omega),h9 3 (by omega),h9 4 (by omega),h9 5 (by omega),h9 6 (by omega),h9 7 (by omega)⟩
theorem zDa {w:World}{H n c:Nat}{l:List Int}{A:Option Addr}{j:Nat}{x:Int}(h:RowP w H 1 (vS A n c) l.length (kidR l)) (hx:l[j]?=some x):∃ b off,A=some (aD b off)/\b<H/\w.cell? (aD b (off+j))=some (vI i6 x)/\i64B x:=by
 have hj:=(Bx.1 hx).1;obtain⟨A',cap,h1,_,h3⟩:=h;injection h1 with h1 _ _;obtain⟨b,off,h4,h5,_,h7⟩:=h3 (by omega);obtain⟨cs,h8,h9,y,hy,rfl,hw⟩:=h7 j hj;rw[hx]at hy;injection hy with hy;subst hy;exact⟨b,off,h1.trans h4,h5,by simpa using h9 0 (by omega),hw⟩
theorem fd_at {w:World}{H n c:Nat}{l:List Fd}{A:Option Addr}{j:Nat}{x:Fd}(h:RowP w H 4 (vS A n c) l.length (fdR l)) (hx:l[j]?=some x):∃ b off,A=some (aD b off)/\b<H/\FdOk x/\w.cell? (aD b (off+j*4))=some (vI i6 x.key.1)/\w.cell? (aD b (off+j*4+1))=some (vT ⟨x.key.2.toArray⟩)/\w.cell? (aD b (off+j*4+2))=some (vI i6 x.node)/\w.cell? (aD b (off+j*4+3))=some (.bool x.opt):=by
 have hj:=(Bx.1 hx).1;obtain⟨A',cap,h1,_,h3⟩:=h;injection h1 with h1 _ _;obtain⟨b,off,h4,h5,_,h7⟩:=h3 (by omega);obtain⟨cs,h8,h9,y,hy,rfl,hw⟩:=h7 j hj;rw[hx]at hy;injection hy with hy;subst hy;exact⟨b,off,h1.trans h4,h5,hw,h9 0 (by unfold fdC at h8;simp),h9 1 (by omega),h9 2 (by omega),h9 3 (by omega)⟩
def StrS (w:World) (B:Nat) (A:Option Addr) (n:Nat) (ss:List ByteArray):Prop:=
 n=ss.length/\(∀ s∈ss,s.size<=maxLen)/\(0<n->∃ b off,A=some (aD b off)/\b<B/\∀ j s,ss[j]?=some s->w.cell? (aD b (off+j))=some (vT s))
theorem StrS.below {w w':World}{B:Nat}{A:Option Addr}{n:Nat}{ss:List ByteArray}(h:StrS w B A n ss) (hb:Below B w w'):StrS w' B A n ss:=
 ⟨h.1,h.2.1,fun hn=>by
  obtain⟨b,a,hA,c,hc⟩:=h.2.2 hn;exact⟨b,a,hA,c,fun j s hs=>(hb.cell (p:=(aD b (a+j))) c).trans (hc j s hs)⟩⟩
theorem Tryz.infoStr:(tP.info? 9).map (fun i=>(i.zero,i.size,i.bytes))=some (some (vT ⟨#[]⟩),1,16):=by kernel_rfl
mutual
def dep:Vl->Nat
 | .mk _ _ _ v _ e _=>max (depVs v) (depEs e)+1
def depVs:List Vl->Nat
 | []=>0
 | a::s=>max (dep a) (depVs s)
def depE:En->Nat
 | .mk a _ r=>max (depVs a) (dep r)
def depEs:List En->Nat
 | []=>0
 | a::s=>max (depE a) (depEs s)
end
theorem zGd:∀ {l:List Vl}{x:Vl},x∈l->dep x<=depVs l
 | a::s,x,h=>by
  simp only[depVs];rcases Cs.1 h with rfl|h
  ·omega
  ·have:=zGd h;omega
theorem zGe:∀ {l:List En}{x:En},x∈l->depE x<=depEs l
 | a::s,x,h=>by
  simp only[depEs];rcases Cs.1 h with rfl|h
  ·omega
  ·have:=zGe h;omega
theorem RowB.elem {w:World}{B:Nat->Prop}{c n j:Nat}{u:Value}{R:Nat->List Value->Prop}(h:RowB w B c u n R) (hj:j<n):∃ cs,R j cs:=by
 obtain⟨_,_,_,_,h3⟩:=h;obtain⟨_,_,_,_,_,h7⟩:=h3 (by omega);obtain⟨cs,_,_,a⟩:=h7 j hj;exact⟨cs,a⟩
end Go.Proofs.YteedihhdcbepmaaGreat
