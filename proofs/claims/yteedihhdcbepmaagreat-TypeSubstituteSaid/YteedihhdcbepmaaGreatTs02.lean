/- How the document compares lists of values .. -/
import Derived.Test.YteedihhdcbepmaaGreatTsZ
import Derived.Test.YteedihhdcbepmaaGreatTs01
import Derived.Test.YteedihhdcbepmaaGreatTsShelf
import Derived.Deep.CutRange
import Derived.Lib.AppendZeros
import Derived.Deep.Onto
set_option maxRecDepth 100000
set_option maxHeartbeats 3200000
set_option linter.all false
open Go.Value renaming slice→vS,int→vI,string→vT
open Go.IntKind renaming i64→i6
open Go.Proofs.Tryz
open Go.Proofs.Tryz renaming prog→tP
namespace Go.Proofs.YteedihhdcbepmaaGreat
open Go Go.RowKit
theorem zGf:∀ {p q:List Vl}(l m:List Vl),p.length=q.length->cmpVs (p++l) (q++m)=thn (cmpVs p q) (cmpVs l m)
 | [],[],l,m,_=>by simp[cmpVs,thn]
 | a::p,b::q,l,m,h=>by
  simp only[Dr,cmpVs,zGf l m (show p.length=q.length by simpa using h),zBc]
theorem zLz {l m:List Vl}{j:Nat}{x y:Vl}(hx:l[j]?=some x) (hy:m[j]?=some y) (h0:cmpVs (l.take j) (m.take j)=0) :
  (cmpV x y≠0->cmpVs l m=cmpV x y)/\(cmpV x y=0->cmpVs (l.take (j+1)) (m.take (j+1))=0):=by
 have c:=(Bx.1 hx).1;have b:=(Bx.1 hy).1;have e1:l.take (j+1)=l.take j++[x]:=by rw[Cr,hx];rfl
 have e2:m.take (j+1)=m.take j++[y]:=by rw[Cr,hy];rfl
 have a:(l.take j).length=(m.take j).length:=by rw[Bg,Bg];omega
 have h1:cmpVs (l.take (j+1)) (m.take (j+1))=cmpV x y:=by
  rw[e1,e2,zGf _ _ a,h0];show cmpVs [x] [y]=cmpV x y;simp only[cmpVs,zA8]
 refine⟨fun hne=>?_,fun h=>by rw[h1,h]⟩;have:=zGf (p:=l.take (j+1)) (q:=m.take (j+1)) (l.drop (j+1)) (m.drop (j+1)) (by rw[Bg,Bg];omega);rw[Eo,Eo,h1,zBw hne]at this;exact this
theorem zDi {H:Nat}{W0 w w':World}(h:Below H W0 w) (hz:H<=W0.heap.size) (hb:bW w w'):Below H W0 w':=h.trans (hb.mono (Ba hz h.size))
theorem ret_i {a b:Int}(h:a=b):Ending.returned (vI i6 a)=.returned (vI i6 b):=by rw[h]
theorem zEe (a b:Int) (w:World):Calls tP 153 #[vI i6 a,vI i6 b] w fun e w'=>e=.returned (vI i6 (cmpI a b))/\w=w':=by
 go_enter func153,ntmps153;go_wp2
 all_goals go_ret
 all_goals exact⟨ret_i (by unfold cmpI;(repeat' split)<;>first|rfl|omega),rfl⟩
theorem zDd (a b:Int) (w:World):Calls tP 190 #[vI i6 a,vI i6 b] w fun e w'=>e=.returned (vI i6 (cmpI a b))/\w=w':=by
 go_enter func190,ntmps190;go_wp2_with (go_at_call 153;refine (zEe _ _ _).mono ?_;rintro e w1 ⟨rfl,rfl⟩)
 all_goals go_ret
 all_goals exact⟨rfl,rfl⟩
theorem zGr (k:Nat) (hP:Hid (∀ (a b:Vl) (ca cb:List Value) (w:World),VS k w w.heap.size a ca->VS k w w.heap.size b cb->Calls tP 171 #[.agg ca.toArray,.agg cb.toArray] w fun e w'=>e=.returned (vI i6 (cmpV a b))/\bW w w'))
  (A A':Option Addr) (c c':Nat) (l m:List Vl) (w:World) (hl:RowP w w.heap.size 7 (vS A l.length c) l.length (fun j cs=>∃ x,l[j]?=some x/\VS k w w.heap.size x cs))
  (hm:RowP w w.heap.size 7 (vS A' m.length c') m.length (fun j cs=>∃ x,m[j]?=some x/\VS k w w.heap.size x cs)) :
  Calls tP 182 #[vS A l.length c,vS A' m.length c'] w fun e w'=>e=.returned (vI i6 (thn (cmpI l.length m.length) (cmpVs l m)))/\bW w w':=by
 have HL:=xI hl;have HM:=xI hm;obtain⟨_,_,_,u⟩:=hl.form;obtain⟨_,_,_,t⟩:=hm.form;unfold maxLen at u t;clear hl hm;by_cases he:l.length=m.length
 ·have q:((l.length:Int) != (m.length:Int))=false:=by rw[Dc];omega
  have HT:Hid (thn (cmpI l.length m.length) (cmpVs l m)=cmpVs l m):=xI (by rw[zAo.2 (by omega)];rfl);have HE:=xI he;clear he;go_enter func182,ntmps182;go_wp2_with fail
  go_loopw [5,6] (fun i _ wr=>∃ j:Nat,i=vI i6 j/\j<=l.length/\cmpVs (l.take j) (m.take j)=0/\bW w wr) (fun i _ _=>l.length-(intOf i).toNat)
  case atStart=>exact⟨0,rfl,by omega,by simp[cmpVs],Bw _ _⟩
  case round=>
   obtain⟨j,rfl,hj,h0,hb⟩:=hrel;by_cases hjn:j<l.length
   ·obtain⟨b,g,D,x0,x1,x2,x3,x4,x5,x6,hu,G,⟨x,hx,hv⟩,c0,c1,c2,c3,c4,c5,c6⟩:=(HL.out.on hb (fun _ _ h=>h)).at7 hjn;obtain⟨b',d,r,y0,y1,y2,y3,y4,y5,y6,s,C,⟨y,hy,o⟩,d0,d1,d2,d3,d4,d5,d6⟩:=(HM.out.on hb (fun _ _ h=>h)).at7 (show j<m.length by have:=HE.out;omega);injection hu with hA _ hcap;subst hA hcap;injection s with hA' _ hcap';subst hA' hcap';have kn:(j:Int)<(l.length:Int):=by omega
    have km:(j:Int)<(m.length:Int):=by have:=HE.out;omega
    have k0:(0:Int)<=(j:Int):=by omega
    have HS:=xI (zLz hx hy h0);have HB:=xI hb;have F:Hid (∀ wq,bW wr wq->VS k wq wq.heap.size x [x0,x1,x2,x3,x4,x5,x6]):=xI (fun wq h=>VS.up (Ba hb.size h.size) lR (VS.on (hb.trans (h.mono hb.size)) hv));have E:Hid (∀ wq,bW wr wq->VS k wq wq.heap.size y [y0,y1,y2,y3,y4,y5,y6]):=xI (fun wq h=>VS.up (Ba hb.size h.size) lR (VS.on (hb.trans (h.mono hb.size)) o));have hz:=hb.size;have HK:Hid (∀ wq,bW wr wq->wq.cell? (aD b (g+j*7))=some x0/\wq.cell? (aD b (g+j*7+1))=some x1/\wq.cell? (aD b (g+j*7+2))=some x2/\wq.cell? (aD b (g+j*7+3))=some x3/\wq.cell? (aD b (g+j*7+4))=some x4/\wq.cell? (aD b (g+j*7+5))=some x5/\wq.cell? (aD b (g+j*7+6))=some x6/\wq.cell? (aD b' (d+j*7))=some y0/\wq.cell? (aD b' (d+j*7+1))=some y1/\wq.cell? (aD b' (d+j*7+2))=some y2/\wq.cell? (aD b' (d+j*7+3))=some y3/\wq.cell? (aD b' (d+j*7+4))=some y4/\wq.cell? (aD b' (d+j*7+5))=some y5/\wq.cell? (aD b' (d+j*7+6))=some y6):=xI (fun wq h=>⟨(h.cell (p:=(aD _ _)) (by show b<_;omega)).trans c0,(h.cell (p:=(aD _ _)) (by show b<_;omega)).trans c1,(h.cell (p:=(aD _ _)) (by show b<_;omega)).trans c2,(h.cell (p:=(aD _ _)) (by show b<_;omega)).trans c3,(h.cell (p:=(aD _ _)) (by show b<_;omega)).trans c4,(h.cell (p:=(aD _ _)) (by show b<_;omega)).trans c5,(h.cell (p:=(aD _ _)) (by show b<_;omega)).trans c6,(h.cell (p:=(aD _ _)) (by show b'<_;omega)).trans d0,(h.cell (p:=(aD _ _)) (by show b'<_;omega)).trans d1,(h.cell (p:=(aD _ _)) (by show b'<_;omega)).trans d2,(h.cell (p:=(aD _ _)) (by show b'<_;omega)).trans d3,(h.cell (p:=(aD _ _)) (by show b'<_;omega)).trans d4,(h.cell (p:=(aD _ _)) (by show b'<_;omega)).trans d5,(h.cell (p:=(aD _ _)) (by show b'<_;omega)).trans d6⟩);clear hx hy h0 hb hv o c0 c1 c2 c3 c4 c5 c6 d0 d1 d2 d3 d4 d5 d6;go_wp2_with fail;refine wR HK (by kernel_rfl) (HK.out _ yR.drew) (fun _=>?_);have n:bW wr wr.drew:=yR.drew;refine oT 0 (HK.out _ n) ?_
    (iterate 7 refine oY (HK.out _ n) ?_)
    refine oO 8 fun K hK=>?_;go_simp;refine (hP.out x y _ _ _ (F.out _ n) (E.out _ n)).mono ?_;rintro e w10 ⟨rfl,hb10⟩;have f:bW wr w10:=zDi n lR hb10;clear hb10 n;refine hK _ _ (HK.out _ f) (oP ?_);clear hK K;refine oT 9 (HK.out _ f) ?_;refine wD ?_;generalize cmpV x y=z at HS;by_cases hz0:z=0
    ·have q2:(z != 0)=false:=by rw[Dc];exact hz0
     go_wp2
     go_roundw
     case rel=>exact⟨j+1,by go_num,by omega,HS.out.2 hz0,HB.out.trans (f.mono HB.out.size)⟩
     case measure=>simp[intOf];omega
    ·have q2:(z != 0)=true:=by rw[Dp];exact hz0
     go_wp2;go_ret;exact⟨ret_i (by rw[HT.out,HS.out.1 hz0]),HB.out.trans (f.mono HB.out.size)⟩
   ·have B:l.take j=l:=B8 (by omega);have v:m.take j=m:=B8 (by have:=HE.out;omega);rw[B,v]at h0;have HZ:=xI h0;go_wp2;go_ret;exact⟨ret_i (by rw[HT.out,HZ.out]),hb⟩
 ·have q:((l.length:Int) != (m.length:Int))=true:=by rw[Dp];omega
  have HT:Hid (thn (cmpI l.length m.length) (cmpVs l m)=cmpI l.length m.length):=xI (zBw (fun h=>he (by have:=zAo.1 h;omega)) _);go_enter func182,ntmps182;go_wp2_with (go_at_call 190;refine (zDd _ _ _).mono ?_;rintro e w1 ⟨rfl,rfl⟩)
  all_goals go_ret
  all_goals exact⟨ret_i (by rw[HT.out]),Bw _ _⟩
theorem zAg {w:World}(o:Obj){n:Nat}(h:w.heap.size=n):(w.alloc o).heap[n]?=some o:=by rw[<-h];exact Bl w o
def ES (k:Nat) (w:World) (H:Nat) (e:En) (cs:List Value):Prop:=
 ∃ args fails result,e=.mk args fails result/\∃ ua rs,cs=ua::.bool fails::rs/\RowP w H 7 ua args.length (fun j cs=>∃ x,args[j]?=some x/\VS k w H x cs)/\VS k w H result rs
theorem zC3 (k:Nat) (hP:Hid (∀ (a b:Vl) (ca cb:List Value) (w:World),VS k w w.heap.size a ca->VS k w w.heap.size b cb->Calls tP 171 #[.agg ca.toArray,.agg cb.toArray] w fun e w'=>e=.returned (vI i6 (cmpV a b))/\bW w w'))
  (e e':En) (cs cs':List Value) (w:World) (he:ES k w w.heap.size e cs) (he':ES k w w.heap.size e' cs') :
  Calls tP 155 #[.agg cs.toArray,.agg cs'.toArray] w fun r w'=>r=.returned (vI i6 (cmpE e e'))/\bW w w':=by
 obtain⟨l,f,r,rfl,ua,rs,rfl,hl,hr⟩:=he;obtain⟨m,f',r',rfl,I,J,rfl,hm,t⟩:=he';obtain⟨A,c,rfl,_⟩:=hl.form;obtain⟨A',c',rfl,_⟩:=hm.form;obtain⟨a1,i1,s1,B1,n1,d1,B2,n2,d2,B3,n3,d3,B4,n4,d4,rfl⟩:=hr.form7;obtain⟨C,s,g,G,o,B,F,n,y,E,j,v,D,i,u,rfl⟩:=t.form7;obtain⟨W,hW⟩:∃ W,W=((w.alloc (.cells #[vS A l.length c,.bool f,vI i6 a1,vI i6 i1,vT s1,vS B1 n1 d1,vS B2 n2 d2,vS B3 n3 d3,vS B4 n4 d4] 68)).alloc (.cells #[vS A' m.length c',.bool f',vI i6 C,vI i6 s,vT g,vS G o B,vS F n y,vS E j v,vS D i u] 68)):=⟨_,rfl⟩;have hb:bW w W:=by rw[hW];exact (yR.alloc lR _).alloc (by simp) _
 have hz:W.heap.size=w.heap.size+2:=by rw[hW];simp
 have k1:W.heap[w.heap.size]?=some (.cells #[vS A l.length c,.bool f,vI i6 a1,vI i6 i1,vT s1,vS B1 n1 d1,vS B2 n2 d2,vS B3 n3 d3,vS B4 n4 d4] 68 (0,0)):=by
  rw[hW,Bp _ _ _ (by simp)];exact Bl w _
 have k2:W.heap[w.heap.size+1]?=some (.cells #[vS A' m.length c',.bool f',vI i6 C,vI i6 s,vT g,vS G o B,vS F n y,vS E j v,vS D i u] 68 (0,0)):=by
  rw[hW];exact zAg _ (by simp)
 have hv:=zGr k hP A A' c c' l m W ((hl.on hb fun _ _ ⟨x,h1,h2⟩=>⟨x,h1,VS.up hb.size lR (VS.on hb h2)⟩).mono hb.size fun _ _ h=>h) ((hm.on hb fun _ _ ⟨x,h1,h2⟩=>⟨x,h1,VS.up hb.size lR (VS.on hb h2)⟩).mono hb.size fun _ _ h=>h);have e0:W.cell? (aH w 0)=some (vS A l.length c):=cH k1 0;have e1:W.cell? (aE w 0)=some (vS A' m.length c'):=cH k2 0;have K1:=xI k1;have K2:=xI k2;have HB:=xI hb;have HR:=xI hr;have H:=xI t;have HT:Hid (cmpE (.mk l f r) (.mk m f' r')=thn (thn (cmpI l.length m.length) (cmpVs l m)) (thn (cmpF f f') (cmpV r r'))):=xI (by rw[cmpE,zBc]);generalize thn (cmpI l.length m.length) (cmpVs l m)=z at hv HT;clear hl hm hr t k1 k2 hb;go_enter func155,ntmps155;go_wp2_with fail;rw[<-hW];clear hW;go_wp2_with (go_at_call 182;refine hv.mono ?_;rintro e w1 ⟨rfl,hb1⟩;refine Hid.out ?_);refine xI ?_;have d:=xI (HB.out.trans (hb1.mono HB.out.size));clear hv e0 e1;by_cases h0:z=0
 ·have q:(z != 0)=false:=by rw[Dc];exact h0
  have HU:Hid (cmpE (.mk l f r) (.mk m f' r')=thn (cmpF f f') (cmpV r r')):=xI (by rw[HT.out,h0];rfl);have g1:w1.cell? (aH w 1)=some (.bool f):=(hb1.cell (p:=(aD _ 1)) (by show w.heap.size<_;omega)).trans (cH K1.out 1);have g2:w1.cell? (aE w 1)=some (.bool f'):=(hb1.cell (p:=(aD _ 1)) (by show w.heap.size+1<_;omega)).trans (cH K2.out 1);by_cases hf:f=f'
  ·subst hf;have HV:Hid (cmpE (.mk l f r) (.mk m f r')=cmpV r r'):=xI (by rw[HU.out,cmpF,if_pos rfl];rfl);have p2:w1.cell? (aH w 2)=some (vI i6 a1):=(hb1.cell (p:=(aD _ 2)) (by show w.heap.size<_;omega)).trans (cH K1.out 2);have p3:w1.cell? (aH w 3)=some (vI i6 i1):=(hb1.cell (p:=(aD _ 3)) (by show w.heap.size<_;omega)).trans (cH K1.out 3);have p4:w1.cell? (aH w 4)=some (vT s1):=(hb1.cell (p:=(aD _ 4)) (by show w.heap.size<_;omega)).trans (cH K1.out 4);have p5:w1.cell? (aH w 5)=some (vS B1 n1 d1):=(hb1.cell (p:=(aD _ 5)) (by show w.heap.size<_;omega)).trans (cH K1.out 5);have p6:w1.cell? (aH w 6)=some (vS B2 n2 d2):=(hb1.cell (p:=(aD _ 6)) (by show w.heap.size<_;omega)).trans (cH K1.out 6);have p7:w1.cell? (aH w 7)=some (vS B3 n3 d3):=(hb1.cell (p:=(aD _ 7)) (by show w.heap.size<_;omega)).trans (cH K1.out 7);have p8:w1.cell? (aH w 8)=some (vS B4 n4 d4):=(hb1.cell (p:=(aD _ 8)) (by show w.heap.size<_;omega)).trans (cH K1.out 8);have r2:w1.cell? (aE w 2)=some (vI i6 C):=(hb1.cell (p:=(aD _ 2)) (by show w.heap.size+1<_;omega)).trans (cH K2.out 2);have r3:w1.cell? (aE w 3)=some (vI i6 s):=(hb1.cell (p:=(aD _ 3)) (by show w.heap.size+1<_;omega)).trans (cH K2.out 3);have r4:w1.cell? (aE w 4)=some (vT g):=(hb1.cell (p:=(aD _ 4)) (by show w.heap.size+1<_;omega)).trans (cH K2.out 4);have r5:w1.cell? (aE w 5)=some (vS G o B):=(hb1.cell (p:=(aD _ 5)) (by show w.heap.size+1<_;omega)).trans (cH K2.out 5);have r6:w1.cell? (aE w 6)=some (vS F n y):=(hb1.cell (p:=(aD _ 6)) (by show w.heap.size+1<_;omega)).trans (cH K2.out 6);have r7:w1.cell? (aE w 7)=some (vS E j v):=(hb1.cell (p:=(aD _ 7)) (by show w.heap.size+1<_;omega)).trans (cH K2.out 7);have r8:w1.cell? (aE w 8)=some (vS D i u):=(hb1.cell (p:=(aD _ 8)) (by show w.heap.size+1<_;omega)).trans (cH K2.out 8);have hc:=hP.out r r' _ _ w1 (VS.up d.out.size lR (VS.on d.out HR.out)) (VS.up d.out.size lR (VS.on d.out H.out));clear hb1 h0;cases f
   all_goals
    go_wp2_with (go_at_call 171;refine hc.mono ?_;rintro e w2 ⟨rfl,hb2⟩;refine Hid.out ?_);refine xI ?_;go_wp2;go_ret;exact⟨ret_i (by rw[HV.out]),d.out.trans (hb2.mono d.out.size)⟩
  ·have HV:Hid (cmpE (.mk l f r) (.mk m f' r')=cmpF f f'):=xI (by rw[HU.out];exact zBw (by rw[cmpF,if_neg hf];cases f<;>simp) _);clear hb1 h0;cases f<;>cases f'
   ·exact absurd rfl hf
   ·clear hf;go_wp2;go_ret;exact⟨ret_i (by rw[HV.out];rfl),d.out⟩
   ·clear hf;go_wp2;go_ret;exact⟨ret_i (by rw[HV.out];rfl),d.out⟩
   ·exact absurd rfl hf
 ·have q:(z != 0)=true:=by rw[Dp];exact h0
  have HU:Hid (cmpE (.mk l f r) (.mk m f' r')=z):=xI (by rw[HT.out];exact zBw h0 _);clear h0 hb1;go_wp2;go_ret;exact⟨ret_i (by rw[HU.out]),d.out⟩
theorem zDr:∀ a b:List UInt8,Lib.compareBytes a b=cmpT a b
 | [],[]=>rfl
 | [],_::_=>rfl
 | _::_,[]=>rfl
 | a::s,b::t=>by
  unfold Lib.compareBytes cmpT;rw[zDr s t];unfold thn cmpI;by_cases h1:a<b
  ·have h2:(a.toNat:Int)<b.toNat:=by have:=Em.1 h1;omega
   rw[if_pos h1,if_pos h2];rfl
  ·have h2:¬ (a.toNat:Int)<b.toNat:=fun h=>h1 (Em.2 (by omega));rw[if_neg h1,if_neg h2];by_cases h3:b<a
   ·have h4:(b.toNat:Int)<a.toNat:=by have:=Em.1 h3;omega
    rw[if_pos h3,if_pos h4];rfl
   ·have h4:¬ (b.toNat:Int)<a.toNat:=fun h=>h3 (Em.2 (by omega));rw[if_neg h3,if_neg h4];rfl
theorem zG9 (a b:Int) (w:World):Calls tP 159 #[vI i6 a,vI i6 b] w fun e w'=>e=.returned (vI i6 (cmpI a b))/\w'=w:=by
 refine (Tryz.cmp_Compare_int a b w).mono ?_;rintro e w' ⟨rfl,rfl⟩;exact⟨ret_i (by unfold Lib.compareInt cmpI;(repeat' split)<;>first|rfl|omega),rfl⟩
theorem zGs (a b:ByteArray) (w:World):Calls tP 160 #[vT a,vT b] w fun e w'=>e=.returned (vI i6 (cmpT a.data.toList b.data.toList))/\w'=w:=by
 refine (Tryz.strings_Compare a b w).mono ?_;rintro e w' ⟨rfl,rfl⟩;exact⟨ret_i (zDr _ _),rfl⟩
theorem zJ7 (x y:Int×List UInt8) (w:World) :
  Calls tP 139 #[.agg #[vI i6 x.1,vT ⟨x.2.toArray⟩],.agg #[vI i6 y.1,vT ⟨y.2.toArray⟩]] w fun e w'=>e=.returned (vI i6 (cmpK x y))/\bW w w':=by
 obtain⟨k1,s1⟩:=x;obtain⟨k2,s2⟩:=y;by_cases h:k1=k2
 ·subst h;have hc:cmpI k1 k1=0:=zAo.2 rfl;have HT:Hid (cmpK (k1,s1) (k1,s2)=cmpT s1 s2):=xI (by simp only[cmpK,hc];rfl);go_enter func139,ntmps139;go_wp2_with (first|(go_at_call 159;refine (zG9 _ _ _).mono ?_;rintro e w' ⟨rfl,rfl⟩)|(go_at_call 160;refine (zGs _ _ _).mono ?_;rintro e w' ⟨rfl,rfl⟩))
  go_ret;exact⟨ret_i HT.out.symm,(yR.alloc lR _).alloc (by simp) _⟩
 ·have hz:cmpI k1 k2≠0:=fun h0=>h (zAo.1 h0);have hc:(cmpI k1 k2 != 0)=true:=by rw[Dp];exact hz
  have HT:Hid (cmpK (k1,s1) (k2,s2)=cmpI k1 k2):=xI (by simp only[cmpK,zBw hz]);clear hz;go_enter func139,ntmps139;go_wp2_with (first|(go_at_call 159;refine (zG9 _ _ _).mono ?_;rintro e w' ⟨rfl,rfl⟩)|(go_at_call 160;refine (zGs _ _ _).mono ?_;rintro e w' ⟨rfl,rfl⟩))
  go_ret;exact⟨ret_i HT.out.symm,(yR.alloc lR _).alloc (by simp) _⟩
theorem zOa:∀ l m:List En,cmpEs l m=cmpL cmpE l m
 | a::s,b::t=>by simp only[cmpEs,cmpL,zOa s t]
 | [],_=>by simp[cmpEs,cmpL]
 | _::_,[]=>by simp[cmpEs,cmpL]
theorem zH5 {α:Type}{c:α->α->Int}:∀ {p q:List α}(l m:List α),p.length=q.length->cmpL c (p++l) (q++m)=thn (cmpL c p q) (cmpL c l m)
 | [],[],l,m,_=>by simp[cmpL,thn]
 | a::p,b::q,l,m,h=>by
  simp only[Dr,cmpL,zH5 l m (show p.length=q.length by simpa using h),zBc]
theorem zGh {α:Type}{c:α->α->Int}{l m:List α}{j:Nat}{x y:α}(hx:l[j]?=some x) (hy:m[j]?=some y) (h0:cmpL c (l.take j) (m.take j)=0) :
  (c x y≠0->cmpL c l m=c x y)/\(c x y=0->cmpL c (l.take (j+1)) (m.take (j+1))=0):=by
 have d:=(Bx.1 hx).1;have b:=(Bx.1 hy).1;have e1:l.take (j+1)=l.take j++[x]:=by rw[Cr,hx];rfl
 have e2:m.take (j+1)=m.take j++[y]:=by rw[Cr,hy];rfl
 have a:(l.take j).length=(m.take j).length:=by rw[Bg,Bg];omega
 have h1:cmpL c (l.take (j+1)) (m.take (j+1))=c x y:=by
  rw[e1,e2,zH5 _ _ a,h0];show cmpL c [x] [y]=c x y;simp only[cmpL,zA8]
 refine⟨fun hne=>?_,fun h=>by rw[h1,h]⟩;have:=zH5 (c:=c) (p:=l.take (j+1)) (q:=m.take (j+1)) (l.drop (j+1)) (m.drop (j+1)) (by rw[Bg,Bg];omega);rw[Eo,Eo,h1,zBw hne]at this;exact this
theorem zJg (s:ByteArray):s.toList=s.data.toList:=Lib.toList_data s
theorem zE0:∀ {a b:List UInt8},Op.bytesLess a b=true->Lib.compareBytes a b=-1
 | [],[],h=>by simp[Op.bytesLess]at h
 | [],_::_,_=>rfl
 | _::_,[],h=>by simp[Op.bytesLess]at h
 | a::x,b::y,h=>by
  simp only[Op.bytesLess,Bool.or_eq_true,Bf,Cy,beq_iff_eq]at h;unfold Lib.compareBytes;by_cases h1:a<b
  ·rw[if_pos h1]
  ·rcases h with h|⟨rfl,h⟩
   ·exact absurd h h1
   ·rw[if_neg h1,if_neg h1];exact zE0 h
theorem zLy {a b:List UInt8}(h:a=b):Lib.compareBytes a b=0:=by
 subst h
 induction a with
 | nil=>rfl
 | cons x r ih=>unfold Lib.compareBytes;simp[ih]
theorem zE1:∀ {a b:List UInt8},Op.bytesLess a b=false->a≠b->Lib.compareBytes a b=1
 | [],[],_,h=>absurd rfl h
 | [],_::_,h,_=>by simp[Op.bytesLess]at h
 | _::_,[],_,_=>rfl
 | a::x,b::y,h,hne=>by
  simp only[Op.bytesLess,Bool.or_eq_false_iff,Cu,Bool.and_eq_false_imp,beq_iff_eq]at h;unfold Lib.compareBytes;rw[if_neg h.1];by_cases h1:b<a
  ·rw[if_pos h1]
  ·rw[if_neg h1];have e:a=b:=UInt8.le_antisymm (UInt8.not_lt.1 h1) (UInt8.not_lt.1 h.1);subst e;exact zE1 (h.2 rfl) (fun e=>hne (by rw[e]))
theorem zIp (a b:ByteArray) (w:World) :
  Calls tP 154 #[vT a,vT b] w fun e w'=>e=.returned (vI i6 (Lib.compareBytes a.data.toList b.data.toList))/\w=w':=by
 go_enter func154,ntmps154;go_wp2
 all_goals go_ret
 all_goals simp only[zJg]at *
 ·exact⟨ret_i (zE0 ‹_›).symm,trivial⟩
 ·exact⟨ret_i (zE1 ‹_› (by simp_all)).symm,trivial⟩
 ·exact⟨ret_i (zLy (by simp_all)).symm,trivial⟩
theorem zCv (a b:List UInt8) (w:World) :
  Calls tP 154 #[vT ⟨a.toArray⟩,vT ⟨b.toArray⟩] w fun e w'=>e=.returned (vI i6 (cmpT a b))/\w=w':=by
 refine (zIp ⟨a.toArray⟩ ⟨b.toArray⟩ w).mono ?_;rintro e w' ⟨rfl,rfl⟩;exact⟨ret_i (zDr _ _),rfl⟩
theorem zCx (x y:Int×List UInt8) (w:World) :
  Calls tP 117 #[.agg #[vI i6 x.1,vT ⟨x.2.toArray⟩],.agg #[vI i6 y.1,vT ⟨y.2.toArray⟩]] w fun e w'=>e=.returned (vI i6 (cmpK x y))/\bW w w':=by
 obtain⟨k1,s1⟩:=x;obtain⟨k2,s2⟩:=y;by_cases h:k1=k2
 ·subst h;have hc:cmpI k1 k1=0:=zAo.2 rfl;have HT:Hid (cmpK (k1,s1) (k1,s2)=cmpT s1 s2):=xI (by simp only[cmpK,hc];rfl);go_enter func117,ntmps117;go_wp2_with (first|(go_at_call 153;refine (zEe _ _ _).mono ?_;rintro e w' ⟨rfl,rfl⟩)|(go_at_call 154;refine (zCv _ _ _).mono ?_;rintro e w' ⟨rfl,rfl⟩))
  go_ret;exact⟨ret_i HT.out.symm,(yR.alloc lR _).alloc (by simp) _⟩
 ·have hz:cmpI k1 k2≠0:=fun h0=>h (zAo.1 h0);have HT:Hid (cmpK (k1,s1) (k2,s2)=cmpI k1 k2):=xI (by simp only[cmpK,zBw hz]);clear hz;have hc:(k1 != k2)=true:=by simp[h]
  go_enter func117,ntmps117;go_wp2_with (first|(go_at_call 153;refine (zEe _ _ _).mono ?_;rintro e w' ⟨rfl,rfl⟩)|(go_at_call 154;refine (zCv _ _ _).mono ?_;rintro e w' ⟨rfl,rfl⟩))
  all_goals go_ret
  all_goals exact⟨ret_i HT.out.symm,(yR.alloc lR _).alloc (by simp) _⟩
theorem RowB.at2 {w:World}{H n j:Nat}{u:Value}{R:Nat->List Value->Prop}(h:RowP w H 2 u n R) (hj:j<n) :
  ∃ b off cap x0 x1,u=vS (some (aD b off)) n cap/\b<H/\R j [x0,x1]/\w.cell? (aD b (off+j*2))=some x0/\w.cell? (aD b (off+j*2+1))=some x1:=by
 obtain⟨A,cap,h1,_,h3⟩:=h;obtain⟨b,off,rfl,h5,_,h7⟩:=h3 (by omega);obtain⟨cs,h8,h9,a⟩:=h7 j hj
 match cs,h8 with
 | [x0,x1],_=>exact⟨b,off,cap,x0,x1,h1,h5,a,h9 0 (by omega),h9 1 (by omega)⟩
theorem RowB.at1 {w:World}{H n j:Nat}{u:Value}{R:Nat->List Value->Prop}(h:RowP w H 1 u n R) (hj:j<n) :
  ∃ b off cap x0,u=vS (some (aD b off)) n cap/\b<H/\R j [x0]/\w.cell? (aD b (off+j))=some x0:=by
 obtain⟨A,cap,h1,_,h3⟩:=h;obtain⟨b,off,rfl,h5,_,h7⟩:=h3 (by omega);obtain⟨cs,h8,h9,a⟩:=h7 j hj
 match cs,h8 with
 | [x0],_=>exact⟨b,off,cap,x0,h1,h5,a,by simpa using h9 0 (by omega)⟩
theorem ES.on {w w':World}{H:Nat}(hb:Below H w w'){k:Nat}{v:En}{cs:List Value}(h:ES k w H v cs):ES k w' H v cs:=by
 obtain⟨l,f,r,rfl,ua,rs,rfl,hl,hr⟩:=h;exact⟨l,f,r,rfl,ua,rs,rfl,hl.on hb fun _ _ ⟨x,h1,h2⟩=>⟨x,h1,VS.on hb h2⟩,VS.on hb hr⟩
theorem ES.up {w:World}{H H':Nat}(hH:H<=H'){k k':Nat}{v:En}{cs:List Value}(hk:k<=k') (h:ES k w H v cs):ES k' w H' v cs:=by
 obtain⟨l,f,r,rfl,ua,rs,rfl,hl,hr⟩:=h;exact⟨l,f,r,rfl,ua,rs,rfl,hl.mono hH fun _ _ ⟨x,h1,h2⟩=>⟨x,h1,VS.up hH hk h2⟩,VS.up hH hk hr⟩
theorem ES.form9 {k:Nat}{w:World}{H:Nat}{v:En}{cs:List Value}(h:ES k w H v cs) :
  ∃ A0 n0 c0 f a i s A1 n1 c1 A2 n2 c2 A3 n3 c3 A4 n4 c4,cs=[vS A0 n0 c0,.bool f,vI i6 a,vI i6 i,vT s,vS A1 n1 c1,vS A2 n2 c2,vS A3 n3 c3,vS A4 n4 c4]:=by
 obtain⟨l,f,r,rfl,ua,rs,rfl,hl,hr⟩:=h;obtain⟨A,c,rfl,_⟩:=hl.form;obtain⟨a,i,s,A1,n1,c1,A2,n2,c2,A3,n3,c3,A4,n4,c4,rfl⟩:=hr.form7;exact⟨_,_,_,_,_,_,_,_,_,_,_,_,_,_,_,_,_,_,_,rfl⟩
def Vl.kd':Vl->Int
 | .mk kd _ _ _ _ _ _=>kd
def Vl.it':Vl->Int
 | .mk _ it _ _ _ _ _=>it
def Vl.tx':Vl->List UInt8
 | .mk _ _ tx _ _ _ _=>tx
def Vl.keys':Vl->List (Int×List UInt8)
 | .mk _ _ _ _ keys _ _=>keys
theorem share {G F:Prop}(h:F->G) (hF:F):G:=h hF
open Go.Lib Go.Sort
def bl (a b:List UInt8):Bool:=Op.bytesLess a b
theorem zCg:∀ a,bl a a=false
 | []=>rfl
 | a::x=>by
  have:=zCg x;unfold bl at this ⊢;simp[Op.bytesLess,this]
theorem zH6 (a b:UInt8) (x y:List UInt8):bl (a::x) (b::y)=true↔a<b\/a=b/\bl x y=true:=by
 unfold bl;simp[Op.bytesLess]
theorem zJ9 (x:List UInt8):bl x []=false:=by cases x<;>rfl
theorem zEr:∀ {a b c:List UInt8},bl a b=true->bl b c=true->bl a c=true
 | _,[],_,h,_=>by rw[zJ9]at h;cases h
 | _,_::_,[],_,h=>by rw[zJ9]at h;cases h
 | [],_::_,_::_,_,_=>rfl
 | a::x,b::y,c::z,h,k=>by
  rw[zH6]at *;simp only[Em]at *;rcases h with h|⟨rfl,h⟩
  ·rcases k with k|⟨rfl,k⟩
   ·exact .inl (by omega)
   ·exact .inl h
  ·rcases k with k|⟨rfl,k⟩
   ·exact .inl k
   ·exact .inr ⟨rfl,zEr h k⟩
theorem zK0:∀ (a b:List UInt8),bl a b=true\/a=b\/bl b a=true
 | [],[]=>.inr (.inl rfl)
 | [],_::_=>.inl rfl
 | _::_,[]=>.inr (.inr rfl)
 | a::x,b::y=>by
  rw[zH6,zH6];simp only[Em];by_cases h:a=b
  ·subst h;rcases zK0 x y with h|rfl|h
   ·exact .inl (.inr ⟨rfl,h⟩)
   ·exact .inr (.inl rfl)
   ·exact .inr (.inr (.inr ⟨rfl,h⟩))
  ·have:a.toNat≠b.toNat:=fun e=>h (UInt8.toNat_inj.1 e);by_cases h2:a.toNat<b.toNat
   ·exact .inl (.inl h2)
   ·exact .inr (.inr (.inl (by omega)))
theorem zK2 {a b:List UInt8}(h:bl a b=true):bl b a=false:=by
 cases k:bl b a
 ·rfl
 ·have:=zEr h k;rw[zCg]at this;cases this
theorem bl_ne {a b:List UInt8}(h:bl a b=true):a≠b:=by
 rintro rfl;rw[zCg]at h;cases h
theorem zK1 {a b c:List UInt8}(h:bl b a=false) (k:bl b c=true):bl a c=true:=by
 rcases zK0 a b with e|rfl|e
 ·exact zEr e k
 ·exact k
 ·rw[e]at h;cases h
theorem zQv {a b:List UInt8}(h:bl b a=false) (k:a≠b):bl a b=true:=by
 rcases zK0 a b with e|e|e
 ·exact e
 ·exact absurd e k
 ·rw[e]at h;cases h
def Asc (l:List (List UInt8)):Prop:=l.Pairwise fun a b=>bl a b=true
instance (l:List (List UInt8)):Decidable (Asc l):=inferInstanceAs (Decidable (l.Pairwise _))
theorem zOi:Asc []:=List.Pairwise.nil
theorem zSd (a:List UInt8):Asc [a]:=List.pairwise_singleton _ _
theorem zHb:∀ {a b:List (List UInt8)},Asc a->Asc b->(∀ x,x∈a↔x∈b)->a=b
 | [],[],_,_,_=>rfl
 | [],y::_,_,_,h=>absurd ((h y).2 (by simp)) (by simp)
 | x::_,[],_,_,h=>absurd ((h x).1 (by simp)) (by simp)
 | x::a,y::b,ha,hb,h=>by
  have ha':=Dv.1 ha;have c:=Dv.1 hb;have e:x=y:=by
   rcases Cs.1 ((h x).1 (by simp))with e|e
   ·exact e
   ·rcases Cs.1 ((h y).2 (by simp))with k|k
    ·exact k.symm
    ·have h1:=c.1 x e;have h2:=ha'.1 y k;rw[zK2 h1]at h2;cases h2
  subst e;have ht:a=b:=zHb ha'.2 c.2 fun z=>by
   constructor
   ·intro hz;rcases Cs.1 ((h z).1 (by simp[hz]))with e|e
    ·exact absurd e.symm (bl_ne (ha'.1 z hz))
    ·exact e
   ·intro hz;rcases Cs.1 ((h z).2 (by simp[hz]))with e|e
    ·exact absurd e.symm (bl_ne (c.1 z hz))
    ·exact e
  rw[ht]
theorem zS0 {l:List (List UInt8)}(h:Asc l){i j:Nat}{x y:List UInt8}(hij:i<j) (hx:l[i]?=some x) (hy:l[j]?=some y):bl x y=true:=by
 obtain⟨h1,e1⟩:=Bx.1 hx;obtain⟨h2,e2⟩:=Bx.1 hy;have:=List.pairwise_iff_getElem.1 h i j h1 h2 hij;rw[e1,e2]at this;exact this
theorem zL4 {l:List (List UInt8)}{x:List UInt8}{k:Nat}(h:Asc l) (hlo:∀ y∈l.take k,bl y x=true) (hhi:∀ y,l[k]?=some y->bl x y=true) :
  Asc (l.take k++x::l.drop k):=by
 have e:l.take k++l.drop k=l:=Eo k l;have h':Asc (l.take k++l.drop k):=by rw[e];exact h
 have hp:=List.pairwise_append.1 h';have hd:∀ y∈l.drop k,bl x y=true:=by
  intro y hy;cases hdr:l.drop k with
  | nil=>rw[hdr]at hy;cases hy
  | cons z r=>
   have hz:bl x z=true:=hhi z (by have:=congrArg (fun q=>q[0]?) hdr;simpa using this);rw[hdr]at hy;rcases Cs.1 hy with rfl|hy
   ·exact hz
   ·have h2:=hp.2.1;rw[hdr]at h2;exact zEr hz ((Dv.1 h2).1 y hy)
 refine List.pairwise_append.2 ⟨hp.1,Dv.2 ⟨hd,hp.2.1⟩,fun a ha b hb=>?_⟩;rcases Cs.1 hb with rfl|hb
 ·exact hlo a ha
 ·exact hp.2.2 a ha b hb
theorem zLi {l:List (List UInt8)}{x y:List UInt8}(k:Nat):y∈l.take k++x::l.drop k↔y∈l\/y=x:=by
 have e:y∈l↔y∈l.take k++l.drop k:=by rw[Eo]
 rw[e];simp only[B7,Cs];constructor
 ·rintro (h|h|h)
  ·exact .inl (.inl h)
  ·exact .inr h
  ·exact .inl (.inr h)
 ·rintro ((h|h)|h)
  ·exact .inl h
  ·exact .inr (.inr h)
  ·exact .inr (.inl h)
def inN (co:Bool) (l:List (List UInt8)) (x:List UInt8):Bool:=decide (x∈l) != co
def IsSet (co:Bool) (m:List (List UInt8)) (p:List UInt8->Bool):Prop:=Asc m/\∀ x,inN co m x=p x
theorem IsSet.congr {co co':Bool}{m:List (List UInt8)}{p p':List UInt8->Bool}(h:IsSet co m p) (hc:co=co') (e:∀ x,p x=p' x):IsSet co' m p':=by
 subst hc;exact⟨h.1,fun x=>(h.2 x).trans (e x)⟩
theorem zDe (d:Array (List UInt8)) (hs:∀ i j,i<j->j<d.size->bl d[j]! d[i]! = false):∀ m,m<=d.size->Asc (compactUpTo d m)/\∀ x,x∈compactUpTo d m↔∃ j,j<m/\d[j]! = x
 | 0,_=>⟨by unfold compactUpTo;exact zOi,fun x=>by simp[compactUpTo]⟩
 | m+1,hm=>by
  obtain⟨ih1,ih2⟩:=zDe d hs m (by omega);rw[compactUpTo_succ];by_cases hk:keeps d m=true
  ·rw[if_pos hk];refine⟨List.pairwise_append.2 ⟨ih1,zSd _,fun a ha b hb=>?_⟩,fun x=>?_⟩
   ·obtain⟨j,hj,rfl⟩:=(ih2 a).1 ha;obtain rfl:b=d[m]!:=by simpa using hb
    have c:d[m]!≠d[m-1]!:=by
     have:=hk;unfold keeps at this;rcases of_decide_eq_true this with h|h
     ·omega
     ·exact h
    have h1:bl d[m-1]! d[m]! = true:=zQv (hs (m-1) m (by omega) (by omega)) (fun e=>c e.symm);by_cases e:j=m-1
    ·rw[e];exact h1
    ·exact zK1 (hs j (m-1) (by omega) (by omega)) h1
   ·rw[B7,ih2,Ct];constructor
    ·rintro (⟨j,hj,e⟩|rfl)
     ·exact⟨j,by omega,e⟩
     ·exact⟨m,by omega,rfl⟩
    ·rintro⟨j,hj,e⟩;by_cases h:j=m
     ·subst h;exact .inr e.symm
     ·exact .inl ⟨j,by omega,e⟩
  ·rw[if_neg hk,Do];refine⟨ih1,fun x=>(ih2 x).trans ⟨fun ⟨j,hj,e⟩=>⟨j,by omega,e⟩,fun ⟨j,hj,e⟩=>?_⟩⟩;by_cases h:j=m
   ·subst h;have f:j≠0/\d[j]! = d[j-1]!:=by
     have:¬ (j=0\/d[j]!≠d[j-1]!):=fun h=>hk (by unfold keeps;exact C8 h);exact⟨fun e=>this (.inl e),Decidable.byContradiction fun e=>this (.inr e)⟩
    exact⟨j-1,by omega,by rw[<-f.2];exact e⟩
   ·exact⟨j,by omega,e⟩
theorem zEa (zs:List (List UInt8)) (hs:zs.Pairwise fun a b=>bl b a=false):Asc (compact zs)/\(∀ x,x∈compact zs↔x∈zs)/\(compact zs).length<=zs.length:=by
 have h:=zDe zs.toArray (fun i j hij hj=>by
  have c:j<zs.length:=by simpa using hj
  have:=List.pairwise_iff_getElem.1 hs i j (by omega) c hij;rw[Db zs.toArray j (by simpa using c),Db zs.toArray i (by simp;omega)];simpa using this) zs.length (by simp)
 refine⟨h.1,fun x=>(h.2 x).trans ?_,?_⟩
 ·constructor
  ·rintro⟨j,hj,rfl⟩;rw[Db zs.toArray j (by simpa using hj)];simp
  ·intro hx;obtain⟨j,hj,e⟩:=List.getElem_of_mem hx;exact⟨j,hj,by rw[Db zs.toArray j (by simpa using hj)];simpa using e⟩
 ·unfold compact compactUpTo;rw[Bk];have:=El (keeps zs.toArray) (List.range zs.length);simpa using this
theorem zCt (zs:List (List UInt8)):(zs.mergeSort fun x y=>decide (x<=y)).Pairwise fun a b=>bl b a=false:=by
 have d:∀ a b:List UInt8,decide (a<=b)=!bl b a:=fun a b=>by
  unfold bl;rw[bytesLess_eq];by_cases h:b<a
  ·rw[C8 h,Ci (fun k:a<=b=>k h)];rfl
  ·rw[Ci h,C8 (show a<=b from h)];rfl
 have h:=List.pairwise_mergeSort (le:=fun x y:List UInt8=>decide (x<=y)) (by
  intro a b c h1 h2;rw[d]at *;cases k:bl c a
  ·rfl
  ·simp at h1 h2;have:=zK1 h2 k;rw[this]at h1;cases h1) (by
  intro a b;rw[d,d];cases k:bl b a
  ·simp
  ·rw[zK2 k];simp) zs
 refine h.imp fun {a b} hab=>?_;rw[d]at hab;simpa using hab
theorem zO1 (zs:List (List UInt8)) (x:List UInt8):x∈(zs.mergeSort fun x y=>decide (x<=y))↔x∈zs:=(List.mergeSort_perm zs _).mem_iff
def srt (zs:List (List UInt8)):List (List UInt8):=compact (zs.mergeSort fun x y=>decide (x<=y))
theorem zD2 (zs:List (List UInt8)):Asc (srt zs):=(zEa _ (zCt zs)).1
theorem zBq (zs:List (List UInt8)) (x:List UInt8):x∈srt zs↔x∈zs:=((zEa _ (zCt zs)).2.1 x).trans (zO1 zs x)
theorem zB4 (zs:List (List UInt8)):(srt zs).length<=zs.length:=by
 have:=(zEa _ (zCt zs)).2.2
 rwa [List.length_mergeSort]at this
theorem zNy {m zs:List (List UInt8)}(h:Asc m) (hm:∀ x,x∈m↔x∈zs):m=srt zs:=zHb h (zD2 zs) fun x=>(hm x).trans (zBq zs x).symm
theorem zHy {ss:List (List UInt8)}{k p:Nat}{s:List UInt8}{out:List (List UInt8)}(h:out=srt (ss.take k)) (hs:ss[k]?=some s) (hlo:∀ y∈out.take p,bl y s=true) (hhi:∀ y,out[p]?=some y->bl s y=true) :
  out.take p++s::out.drop p=srt (ss.take (k+1)):=by
 have ha:Asc out:=by rw[h];exact zD2 _
 refine zNy (zL4 ha hlo hhi) fun x=>?_;rw[zLi,h,zBq,Cr,hs];simp
theorem zO3 {ss:List (List UInt8)}{k:Nat}{s:List UInt8}{out:List (List UInt8)}(h:out=srt (ss.take k)) (hs:ss[k]?=some s) (hm:s∈out):out=srt (ss.take (k+1)):=by
 have ha:Asc out:=by rw[h];exact zD2 _
 refine zNy ha fun x=>?_;have e:x∈out↔x∈ss.take k:=by rw[h];exact zBq _ x
 have es:s∈ss.take k:=by rw[<-zBq,<-h];exact hm
 rw[e,Cr,hs];simp only[Option.toList_some,B7,Ct];exact⟨.inl,fun h=>h.elim id fun e=>by rw[e];exact es⟩
theorem zBd (l:List (List UInt8)) (k:Nat):(l.take k).length<=l.length:=by rw[Bg];omega
abbrev Strg:=List UInt8
def mkB (s:Strg):ByteArray:=⟨s.toArray⟩
theorem zFh (s:Strg):(mkB s).data.toList=s:=by simp[mkB]
theorem zRs {s t:Strg}(h:mkB s=mkB t):s=t:=by rw[<-zFh s,h,zFh]
def Short (ss:List Strg):Prop:=∀ s∈ss,s.length<=maxLen
def NmS (w:World) (B:Nat) (A:Option Addr) (n:Nat) (ss:List Strg):Prop:=
 n=ss.length/\Short ss/\(0<n->∃ b off,A=some (aD b off)/\b<B/\∀ j s,ss[j]?=some s->w.cell? (aD b (off+j))=some (encStr s))
theorem NmS.below {w w':World}{B:Nat}{A:Option Addr}{n:Nat}{ss:List Strg}(h:NmS w B A n ss) (hb:Below B w w'):NmS w' B A n ss:=
 ⟨h.1,h.2.1,fun hn=>by
  obtain⟨b,a,hA,c,hc⟩:=h.2.2 hn;exact⟨b,a,hA,c,fun j s hs=>(hb.cell (p:=(aD b (a+j))) c).trans (hc j s hs)⟩⟩
theorem NmS.mono {w:World}{B B':Nat}{A:Option Addr}{n:Nat}{ss:List Strg}(h:NmS w B A n ss) (hB:B<=B'):NmS w B' A n ss:=
 ⟨h.1,h.2.1,fun hn=>by
  obtain⟨b,a,hA,c,hc⟩:=h.2.2 hn;exact⟨b,a,hA,by omega,hc⟩⟩
theorem NmS.nil (w:World) (B:Nat) (A:Option Addr):NmS w B A 0 []:=⟨rfl,by simp[Short],fun h=>by omega⟩
theorem NmS.kept {w w':World}{B:Nat}{A:Option Addr}{n:Nat}{ss:List Strg}(h:NmS w B A n ss) (hb:Below B w w') (hB:B<=w'.heap.size):NmS w' w'.heap.size A n ss:=(h.below hb).mono hB
theorem NmS.on {w w':World}{A:Option Addr}{n:Nat}{ss:List Strg}(h:NmS w w.heap.size A n ss) (hb:bW w w'):NmS w' w'.heap.size A n ss:=h.kept hb hb.size
theorem NmS.drewN {w:World}{B:Nat}{A:Option Addr}{n:Nat}{ss:List Strg}(h:NmS w B A n ss) (q:Nat):NmS (w.drewN q) B A n ss:=h
theorem NmS.at {w:World}{B:Nat}{A:Option Addr}{n:Nat}{ss:List Strg}(h:NmS w B A n ss){k:Nat}(hk:k<n) :
  ∃ b off s,A=some (aD b off)/\b<B/\ss[k]?=some s/\s.length<=maxLen/\w.cell? (aD b (off+k))=some (vT ⟨s.toArray⟩):=by
 obtain⟨b,off,hA,hb,hc⟩:=h.2.2 (by omega);have hx:ss[k]?=some (ss[k]'(by have:=h.1;omega)):=By _;exact⟨b,off,_,hA,hb,hx,h.2.1 _ (Bh hx),hc k _ hx⟩
theorem NmS.take {w:World}{B n g o:Nat}{ss:List Strg}(h:NmS w B (some (aD g o)) n ss){p:Nat}(hp:p<=n):NmS w B (some (aD g o)) p (ss.take p):=by
 refine⟨by rw[Bg,<-h.1];omega,fun s hs=>h.2.1 s (Ey hs),fun hn=>?_⟩;obtain⟨b,a,hA,hb,hc⟩:=h.2.2 (by omega);refine⟨b,a,hA,hb,fun j s hs=>hc j s ?_⟩;rw[List.getElem?_take]at hs;split at hs
 ·exact hs
 ·cases hs
theorem NmS.drop {w:World}{B n g o:Nat}{ss:List Strg}(h:NmS w B (some (aD g o)) n ss){p:Nat}(hp:p<n):NmS w B (some (aD g (o+p))) (n-p) (ss.drop p):=by
 refine⟨by rw[Cc,<-h.1],fun s hs=>h.2.1 s (List.mem_of_mem_drop hs),fun hn=>?_⟩;obtain⟨b,a,hA,hb,hc⟩:=h.2.2 (by omega);injection hA with hA;injection hA with e1 e2 _;subst e1 e2;refine⟨g,o+p,rfl,hb,fun j s hs=>?_⟩;rw[C7]at hs;rw[Da];exact hc (p+j) s hs
def OwnN (w:World) (B:Nat) (v:Value) (ss:List Strg):Prop:=w.ownsRow B 9 1 v ss.length (ss.map encStr)
theorem zNg (ss:List Strg):∀ u∈ss.map encStr,u.oneCell'=true:=by
 intro u hu;obtain⟨s,_,rfl⟩:=Cd.1 hu;rfl
theorem OwnN.nil (w:World) (B:Nat):OwnN w B (vS none 0 0) []:=World.ownsRow_nil _ _ _ _
theorem OwnN.form {w:World}{B:Nat}{v:Value}{ss:List Strg}(h:OwnN w B v ss):∃ A c,v=vS A ss.length c:=by
 rcases h.2 with⟨rfl,h0⟩|⟨g,cap,a,rfl,_⟩
 ·rw[h0];exact⟨_,_,rfl⟩
 ·exact⟨_,_,rfl⟩
theorem OwnN.formG {w:World}{B:Nat}{v:Value}{ss:List Strg}(h:OwnN w B v ss) (hl:0<ss.length) :
  ∃ g cap,v=vS (some (aD g 0)) ss.length cap/\B<=g/\g<w.heap.size/\ss.length<=cap:=by
 have b:=h.lt;rcases h.2 with⟨_,h0⟩|⟨g,cap,c,rfl,hB,hg,a,_⟩
 ·omega
 ·exact⟨g,cap,rfl,hB,(b g rfl).2,a⟩
theorem OwnN.rng {w:World}{B:Nat}{A:Option Addr}{n c:Nat}{ss:List Strg}(h:OwnN w B (vS A n c) ss) (hf:Short ss):NmS w w.heap.size A n ss:=by
 have hl:=h.lt;rcases h.2 with⟨hv,h0⟩|⟨g,cap,i,hv,hB,hg,b,f,e,a⟩
 ·injection hv with e1 e2 e3;subst e1 e2;exact⟨h0.symm,hf,fun h=>by omega⟩
 ·injection hv with e1 e2 e3;subst e1 e2;refine⟨rfl,hf,fun _=>⟨g,0,rfl,(hl g rfl).2,fun j s hj=>?_⟩⟩;have d:j<ss.length:=(Bx.1 hj).1;have:=World.ownsRow.cellAt h j (by omega);rw[Dx,this,Ch,hj];rfl
theorem OwnN.holds {w:World}{B g n cap:Nat}{ss:List Strg}(h:OwnN w B (vS (some (aD g 0)) n cap) ss) (hn:ss.length=n):Holds encStr w g 0 ss.toArray:=by
 subst hn;intro j hj;have a:j<ss.length:=by simpa using hj
 refine⟨?_,by rw[Dx];exact World.ownsRow.frozenAt h j⟩;rw[Dx,World.ownsRow.cellAt h j (by omega),Ch,Db ss.toArray j hj,By a];simp
theorem OwnN.old {w w':World}{B:Nat}{v:Value}{ss:List Strg}(h:OwnN w B v ss) (hb:bW w w'):OwnN w' B v ss:=by
 have hl:=h.lt;refine⟨h.1,?_⟩;rcases h.2 with hn|⟨g,cap,cur,rfl,hB,hg,rest⟩
 ·exact .inl hn
 ·exact .inr ⟨g,cap,cur,rfl,hB,by rw[hb.block g (hl g rfl).2];exact hg,rest⟩
theorem OwnN.drewN {w:World}{B:Nat}{v:Value}{ss:List Strg}(h:OwnN w B v ss) (n:Nat):OwnN (w.drewN n) B v ss:=h
theorem zA0 {B:Nat}{a w:World}(h:Below B a w) (n:Nat):Below B a (w.drewN n):=⟨h.os,h.tape,h.output,h.size,h.block⟩
theorem OwnN.mono {w:World}{B B':Nat}{v:Value}{ss:List Strg}(h:OwnN w B v ss) (hB:B'<=B):OwnN w B' v ss:=by
 refine⟨h.1,?_⟩;rcases h.2 with hn|⟨g,cap,cur,hv,hg,rest⟩
 ·exact .inl hn
 ·exact .inr ⟨g,cap,cur,hv,by omega,rest⟩
theorem OwnN.below {w0 w1:World}{B:Nat}{v:Value}{ss:List Strg}{o:Obj}(h:OwnN w0 B v ss) (hb:B<=w0.heap.size) (hg:(w0.alloc o).grownBy w1 v.ownBlock):Below B w0 w1:=
 ((Bw B w0).alloc hb o).grown hg (by simp;omega) (fun j hj=>(h.lt j hj).1)
theorem OwnN.lit (w:World) (B:Nat) (hB:B<=w.heap.size) (ss:List Strg) (cells:Array Value) (n:Nat) (hn:ss.length=n) (hc:cells.toList=ss.map encStr) (hl:ss.length<=maxLen) :
  OwnN (w.alloc (.cells cells 9)) B (vS (some (aD w.heap.size 0)) n n) ss:=by
 subst hn;have a:cells.size=ss.length:=by rw[<-Array.length_toList,hc,Bk]
 exact⟨by simp,.inr ⟨w.heap.size,ss.length,cells,rfl,hB,Bl w _,Bc _,hl,by omega,by rw[hc];rw[B8];simp⟩⟩
theorem zKc {ops:Array Oper}{rest:List Oper}{o:Oper}{a:Act}{Q:Exit->Act->World->Prop}{w0:World}(hgd:o.guard=none) (s x:Operand)
  (ho:o.op=.call { callee:=.builtin .append,args:=#[s,x],argTypes:=#[31,31] }) (B:Nat) (v:Value) (l:List Strg) (hs:a.eval s=v) (hown:OwnN w0 B v l)
  (l':List Strg) (m c:Nat) (hm:l'.length=m) (cells:Array Value) (hc:cells.toList=l'.map encStr) (H:Nat) (hH:w0.heap.size=H) (hx:a.eval x=vS (some (aD H 0)) m c)
  (hbytes:l.length+m<=1000000000) (hbase:B<=w0.heap.size)
  (h:∀ v' w',OwnN w' B v' (l++l')->Below B w0 w'->wpList tP ops Q rest (a.put o.dst v') w') :
  wpList tP ops Q (o::rest) a (w0.alloc (.cells cells 9)):=by
 obtain⟨i0,hi,e,d,b⟩:=Cp Tryz.infoStr;subst hm;subst hH;refine wpList_append_own _ hgd s x 31 ho B 9 i0 (vT ⟨#[]⟩) 1 16 underlying31 hi e d b rfl (by decide) v l.length (l.map encStr) hs (World.ownsRow.alloc hown _)
  (aH w0 0) l'.length c (l'.map encStr) hx (by simp) ?_ (zNg l') (by unfold maxLen;omega) (by omega) (by simp;omega) ?_
 ·rw[<-hc];exact World.news_of_block (Bl w0 _)
 ·intro v' w' h1 h2 _;exact h v' w' (by unfold OwnN;rw[Bd,Dl];exact h1) (hown.below hbase h2)
theorem zIi {w:World}{B:Nat}{v:Value}{l:List Strg}(h:OwnN w B v l) (c:Nat) (ty:TypeId):(Builtin.append_ #[31,31] ty #[v,vS none 0 c]).run tP w=.ok v w:=by
 obtain⟨i,hi,e,d,b⟩:=Cp Tryz.infoStr;rcases h.2 with⟨rfl,_⟩|⟨g,cap,f,rfl,_,_,a,_⟩
 ·simp[Builtin.append_,run_underlying underlying31,sizeOf,typeInfo,hi,Builtin.lenOf,Builtin.firstCells]
 ·simp[Builtin.append_,run_underlying underlying31,sizeOf,typeInfo,hi,Builtin.lenOf,Builtin.firstCells,a,storeCells]
theorem zK4 (b off q:Nat):((aD b off):Addr).add q=(aD b (off+q)):=by
 unfold Addr.add;rcases Dz q with h|h
 ·subst h;simp
 ·simp[Nat.ne_of_gt h]
theorem zAs {w:World}{B B':Nat}{v:Value}{l:List Strg}(h:OwnN w B v l) (hB:B<=w.heap.size) (A:Option Addr) (m c:Nat) (ss:List Strg) (hR:NmS w B' A m ss) (hbytes:l.length+m<=1000000000) (ty:TypeId) :
  ∃ v' w',(Builtin.append_ #[31,31] ty #[v,vS A m c]).run tP w=.ok v' w'/\OwnN w' B v' (l++ss)/\w.grownBy w' v.ownBlock:=by
 obtain⟨i0,hi,f,e,d⟩:=Cp Tryz.infoStr;rcases Dz m with h0|h0
 ·have hr:ss=[]:=Cf (hR.1.symm.trans h0);subst hr;subst h0;rcases A with _|a
  ·exact⟨v,w,zIi h c ty,by rw[Do];exact h,⟨rfl,rfl,rfl,Bc _,fun _ _ _=>rfl⟩⟩
  ·obtain⟨v',w',h1,h2,h3,_⟩:=run_append_own w B 31 ty 9 i0 (vT ⟨#[]⟩) 1 16 underlying31 hi f e d rfl (by decide) v l.length (l.map encStr) h a 0 c [] rfl (by intro j u hj;simp at hj) (by intro u hu;cases hu) (by unfold maxLen;omega) (by omega) hB;exact⟨v',w',h1,by unfold OwnN;rw[Do];simpa using h2,h3⟩
 ·obtain⟨b,g,rfl,hb,hc⟩:=hR.2.2 h0;have hm:=hR.1;obtain⟨v',w',h1,h2,h3,_⟩:=run_append_own w B 31 ty 9 i0 (vT ⟨#[]⟩) 1 16 underlying31 hi f e d rfl (by decide) v l.length (l.map encStr) h (aD b g) m c (ss.map encStr) (by rw[Bk,hm];omega) (by
   intro j u hj;rw[zK4];rw[Ch]at hj;obtain⟨s,hs,rfl⟩:=Option.map_eq_some_iff.1 hj;exact hc j s hs) (zNg ss) (by unfold maxLen;omega) (by omega) hB
  exact⟨v',w',h1,by unfold OwnN;rw[Bd,Dl,<-hm];exact h2,h3⟩
theorem zEt {ops:Array Oper}{rest:List Oper}{o:Oper}{a:Act}{Q:Exit->Act->World->Prop}{w:World}(hgd:o.guard=none) (s x:Operand)
  (ho:o.op=.call { callee:=.builtin .append,args:=#[s,x],argTypes:=#[31,31] }) (B B':Nat) (v:Value) (l:List Strg) (hs:a.eval s=v) (hown:OwnN w B v l)
  (A:Option Addr) (m c:Nat) (ss:List Strg) (hx:a.eval x=vS A m c) (hR:NmS w B' A m ss) (hbytes:l.length+m<=1000000000) (hbase:B<=w.heap.size)
  (h:∀ v' w',OwnN w' B v' (l++ss)->Below B w w'->wpList tP ops Q rest (a.put o.dst v') w') :
  wpList tP ops Q (o::rest) a w:=by
 obtain⟨v',w',h1,h2,h3⟩:=zAs hown hbase A m c ss hR hbytes o.type;exact Lib.wpList_append_run w hgd s x 31 31 ho v (vS A m c) hs hx v' w' h1 (h v' w' h2 ((Bw B w).grown h3 hbase (fun j hj=>(hown.lt j hj).1)))
theorem OwnN.setLow {w:World}{B:Nat}{v:Value}{ss:List Strg}(h:OwnN w B v ss){r off:Nat}(hr:r<B) (x:Value):OwnN (w.setCell ⟨r,off,none⟩ x) B v ss:=by
 refine⟨h.1,?_⟩;rcases h.2 with hn|⟨g,cap,cur,rfl,hB,hg,rest⟩
 ·exact .inl hn
 ·exact .inr ⟨g,cap,cur,rfl,hB,by rw[Below.heap_setCell _ _ _ _ (by show g≠r;omega)];exact hg,rest⟩
def RetN (co:Bool) (p:Strg->Bool) (k:Nat) (w:World) (e:Ending) (w':World):Prop:=
 ∃ m A c,e=.returned (.agg #[.bool co,vS A m.length c])/\OwnN w' w.heap.size (vS A m.length c) m/\Short m/\IsSet co m p/\m.length<=k/\bW w w'
theorem RetN.congr {co co':Bool}{p p':Strg->Bool}{k k':Nat}{w w':World}{e:Ending}(h:RetN co p k w e w') (hc:co=co') (hp:∀ x,p x=p' x) (hk:k<=k'):RetN co' p' k' w e w':=by
 subst hc;obtain⟨m,A,c,h1,h2,h6,h3,h4,h5⟩:=h;exact⟨m,A,c,h1,h2,h6,h3.congr rfl hp,by omega,h5⟩
theorem RetN.stored {co:Bool}{p:Strg->Bool}{k r:Nat}{w w2:World}{m:List Strg}{A:Option Addr}{c n:Nat}(hn:n=m.length) (ho:OwnN w2 (r+1) (vS A n c) m) (hr:w.heap.size<=r) (hs:Short m) (hp:IsSet co m p) (hk:m.length<=k) (hb:bW w w2) (x y:Value) :
  RetN co p k w (.returned (.agg #[.bool co,vS A n c])) ((w2.setCell ⟨r,0,none⟩ x).setCell ⟨r,1,none⟩ y):=by
 subst hn;exact⟨m,A,c,rfl,((ho.setLow (by omega) x).setLow (by omega) y).mono (by omega),hs,hp,hk,(hb.setCell (p:=(aD r 0)) hr x).setCell (p:=(aD r 1)) hr y⟩
end Go.Proofs.YteedihhdcbepmaaGreat
