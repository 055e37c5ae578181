/- Source.Value at each height that is drawn. -/
import Derived.Test.YteedihhdcbepmaaGreatTsZ
import Derived.Test.YteedihhdcbepmaaGreatTs20
import Derived.Test.YteedihhdcbepmaaGreatTs29
set_option maxRecDepth 100000
set_option maxHeartbeats 12800000
set_option linter.all false
open Go.Value renaming slice→vS,int→vI,string→vT
open Go.IntKind renaming i64→i6
open Go.Proofs.Tryz
open Go.Proofs.Tryz renaming prog→tP
namespace Go.Proofs.YteedihhdcbepmaaGreat
open Go Go.RowKit
theorem zD0:∀ (q:Nat),1<=q->q<=4->∀ (h p:Nat) (w:World),SrcOk h p w->Calls tP 14 #[.pointer (some (aD p 0)),vI i6 q] w (DrawR q h p w)
 | 0,h1,_,_,_,_,_=>absurd h1 (by omega)
 | 1,_,_,h,p,w,hS=>zDs 1 h p 1 w hS fun W hW=>zK7 h p 1 W hW (by omega)
 | q+2,_,hq,h,p,w,hS=>zDs (q+2) h p (q+2:Nat) w hS fun W hW=>
   zOv h p (q+1) W hW (by omega) (by omega) (xI fun W' hW'=>zD0 (q+1) (by omega) (by omega) h p W' hW')
    (xI fun h2 W' hW'=>zD0 q (by omega) (by omega) h p W' hW')
abbrev zV:Obj:=.cells nV 33 (0,0)
def GenT (ns:List Tn):Prop:=ns.length<=100/\∀ j x,ns[j]?=some x->GenN ns.length j x
def NearR (L q h p:Nat) (w:World) (e:Ending) (w':World):Prop:=
 (∃ v cs,e=.returned (.agg cs.toArray)/\VB (q+1) w' (Btw w.heap.size w'.heap.size) v cs/\(zB2 v).length<=L)/\SrcOk h p w'/\Eff p w w'
def NearV (L q h p:Nat) (w:World) (e:Ending) (w':World):Prop:=
 (∃ v cs,e=.returned (.agg cs.toArray)/\VB (q+1) w' (Btw w.heap.size w'.heap.size) v cs/\okV v=true/\(zB2 v).length<=L)/\SrcOk h p w'/\Eff p w w'
abbrev zAl (ns:List Tn) (p:Nat) (A:Option Addr) (c:Nat) (w:World):Prop:=RowP w p 8 (vS A ns.length c) ns.length (tnR w (fun b=>b<p) ns)
theorem zAl.eff {ns:List Tn}{p:Nat}{A:Option Addr}{c:Nat}{w w':World}(h:zAl ns p A c w) (hE:Eff p w w'):zAl ns p A c w':=
 RowB.keep h (hE.same fun _ hb=>D5 hb) fun _ _ ⟨x,hx,ht⟩=>⟨x,hx,ht.keep (hE.same fun _ hb=>D5 hb)⟩
structure NF (p:Nat) (w W:World) (T N:Obj):Prop where
 t:W.heap[w.heap.size]?=some T
 r:W.heap[w.heap.size+1]?=some zV
 n:W.heap[w.heap.size+2]?=some N
 v:W.heap[w.heap.size+3]?=some zV
 eff:Eff p w W
 siz:w.heap.size+4<=W.heap.size
theorem NF.start {h p:Nat}{w:World}(T N:Obj) (hS:SrcOk h p w):NF p w ((((w.alloc T).alloc zV).alloc N).alloc zV) T N/\SrcOk h p ((((w.alloc T).alloc zV).alloc N).alloc zV):=by
 have hl:=hS.lt;have hb:bW w ((((w.alloc T).alloc zV).alloc N).alloc zV):=(((yR.alloc lR _).alloc (by simp) _).alloc (by simp;omega) _).alloc (by simp;omega) _;refine⟨⟨?_,?_,?_,?_,Eff.of_below hb (by omega),by simp⟩,hS.below hb⟩
 ·rw[Bp _ _ _ (by simp;try omega),Bp _ _ _ (by simp;try omega),Bp _ _ _ (by simp;try omega)];exact Bl w _
 ·rw[Bp _ _ _ (by simp;try omega),Bp _ _ _ (by simp;try omega)];exact zAg _ (by simp;try omega)
 ·rw[Bp _ _ _ (by simp;try omega)];exact zAg _ (by simp;try omega)
 ·exact zAg _ (by simp;try omega)
theorem NF.next {p:Nat}{w W W':World}{T N:Obj}(h:NF p w W T N) (hE:Eff p W W') (hp:p<w.heap.size):NF p w W' T N:=by
 have hs:=hE.size;have hz:=h.siz;exact⟨(hE.other _ (by omega) (by omega)).trans h.t,(hE.other _ (by omega) (by omega)).trans h.r,(hE.other _ (by omega) (by omega)).trans h.n,(hE.other _ (by omega) (by omega)).trans h.v,h.eff.trans hE,by omega⟩
theorem box7 {w:World}{g:Nat}{e:TypeId}{z0 z1 z2 z3 z4 z5 z6:Value}(h:w.heap[g]?=some (.cells #[z0,z1,z2,z3,z4,z5,z6] e (0,0))) (v0 v1 v2 v3 v4 v5 v6:Value) (V:World)
  (hV:V=(((((((w.setCell ⟨g,0,none⟩ v0).setCell ⟨g,1,none⟩ v1).setCell ⟨g,2,none⟩ v2).setCell ⟨g,3,none⟩ v3).setCell ⟨g,4,none⟩ v4).setCell ⟨g,5,none⟩ v5).setCell ⟨g,6,none⟩ v6)) :
  V.heap[g]?=some (.cells #[v0,v1,v2,v3,v4,v5,v6] e (0,0))/\V.heap.size=w.heap.size/\(∀ b,b≠g->V.heap[b]?=w.heap[b]?)/\∀ B,B<=g->Below B w V:=by
 subst hV;refine⟨obj7 h v0 v1 v2 v3 v4 v5 v6,by simp,fun b hb=>?_,fun B hB=>((((((((Bw B w).setCell (p:=(aD g 0)) hB _).setCell (p:=(aD g 1)) hB _).setCell (p:=(aD g 2)) hB _).setCell (p:=(aD g 3)) hB _).setCell (p:=(aD g 4)) hB _).setCell (p:=(aD g 5)) hB _).setCell (p:=(aD g 6)) hB _)⟩;iterate 7 rw[Bq _ _ _ _ hb]
theorem ret7 {fn:Func}{R:Ending->World->Prop}{a:Act}{w:World}{s g:Nat}{z0 z1 z2 z3 z4 z5 z6 v0 v1 v2 v3 v4 v5 v6:Value}(hK:w.heap[g]?=some (.cells #[z0,z1,z2,z3,z4,z5,z6] 33 (0,0))) (hr:fn.results=#[.cell s 33]) (ha:a.tmps[s]?=some (.pointer (some ⟨g,0,none⟩))) (hd:a.defers=[])
  (h:∀ V,V.heap.size=w.heap.size->(∀ b,b≠g->V.heap[b]?=w.heap[b]?)->(∀ B,B<=g->Below B w V)->R (.returned (.agg #[v0,v1,v2,v3,v4,v5,v6])) V) :
  bodyPost tP fn R .ret a (((((((w.setCell ⟨g,0,none⟩ v0).setCell ⟨g,1,none⟩ v1).setCell ⟨g,2,none⟩ v2).setCell ⟨g,3,none⟩ v3).setCell ⟨g,4,none⟩ v4).setCell ⟨g,5,none⟩ v5).setCell ⟨g,6,none⟩ v6):=by
 refine nW fun V hV=>?_;obtain⟨h1,h2,h3,h4⟩:=box7 hK _ _ _ _ _ _ _ V hV;obtain⟨c0,c1,c2,c3,c4,c5,c6⟩:=zAc h1;refine Cw (v:=.agg #[v0,v1,v2,v3,v4,v5,v6]) (by simp[results,hr,ha,go_sem,c0,c1,c2,c3,c4,c5,c6]) hd (h V h2 h3 h4)
theorem zAw {L q h p:Nat}{w w9 V:World}{T N:Obj}{v:Vl}{cs:List Value}(hlp:p<w.heap.size) (hF:NF p w w9 T N) (hS:SrcOk h p w9) (hv:VB (q+1) w9 (Btw (w.heap.size+2) w9.heap.size) v cs) (hl:(zB2 v).length<=L)
  (h1:V.heap.size=w9.heap.size) (h2:∀ b,b≠w.heap.size+1->V.heap[b]?=w9.heap[b]?) (h3:∀ B,B<=w.heap.size+1->Below B w9 V):NearR L q h p w (.returned (.agg cs.toArray)) V:=
 ⟨⟨v,cs,rfl,VB.sub (fun b hb=>⟨by have:=hb.1;omega,by have:=hb.2;omega⟩) lR (VB.keep ⟨by omega,fun b j hb _=>Bi (h2 b (by have:=hb.1;omega))⟩ hv),hl⟩,hS.below3 (h3 w.heap.size (Cg _)) hlp,hF.eff.grow (h3 w.heap.size (Cg _)) hlp⟩
def keyI (l:List (Int×List UInt8)) (k:Int×List UInt8):Int:=match l.findIdx? (fun f=>decide (f=k))with|some j=>(j:Int)|none=>-1
theorem zR0 {l:List (Int×List UInt8)}{k:Int×List UInt8}{j:Nat}{f:Int×List UInt8}(hj:l[j]?=some f) (hk:f=k) (hlo:∀ g∈l.take j,g≠k):keyI l k=j:=by
 unfold keyI;have hl:=(Bx.1 hj).1;have h:l.findIdx? (fun f=>decide (f=k))=some j:=by
  rw[List.findIdx?_eq_some_iff_getElem];refine⟨hl,?_,fun i hi=>?_⟩
  ·have:=(Bx.1 hj).2;rw[this];simpa using hk
  ·have hm:l[i]'(by omega)∈l.take j:=List.mem_take_iff_getElem.2 ⟨i,by omega,rfl⟩;simpa using hlo _ hm
 rw[h]
theorem zNl {l:List (Int×List UInt8)}{k:Int×List UInt8}(hlo:∀ g∈l,g≠k):keyI l k=-1:=by
 unfold keyI;have h:l.findIdx? (fun f=>decide (f=k))=none:=by
  rw[List.findIdx?_eq_none_iff];intro g hg;simpa using hlo g hg
 rw[h]
theorem zRz (l:List (Int×List UInt8)) (k:Int×List UInt8) (v0 v1 v2 v3 v5 v6:Value) (A:Option Addr) (c:Nat) (w:World) (hF:RowP w w.heap.size 2 (vS A l.length c) l.length (fun j cs=>∃ x,l[j]?=some x/\cs=[vI i6 x.1,vT ⟨x.2.toArray⟩]/\(Lit.int .i64 x.1).wf=true/\x.2.length<=maxLen)) (hn:l.length<=maxLen) :
  Calls tP 156 #[.agg #[v0,v1,v2,v3,vS A l.length c,v5,v6],.agg #[vI i6 k.1,vT ⟨k.2.toArray⟩]] w fun e w'=>e=.returned (vI i6 (keyI l k))/\bW w w':=by
 obtain⟨k1,k2⟩:=k;obtain⟨W,hW⟩:∃ W,W=(w.alloc (.cells #[v0,v1,v2,v3,vS A l.length c,v5,v6] 33 (0,0))).alloc (.cells #[vI i6 k1,vT ⟨k2.toArray⟩] 131 (0,0)):=⟨_,rfl⟩;have hb:bW w W:=by rw[hW];exact (yR.alloc lR _).alloc (by simp) _
 have t:W.heap[w.heap.size]?=some (.cells #[v0,v1,v2,v3,vS A l.length c,v5,v6] 33 (0,0)):=by rw[hW,Bp _ _ _ (by simp)];exact Bl w _
 have v:W.heap[w.heap.size+1]?=some (.cells #[vI i6 k1,vT ⟨k2.toArray⟩] 131 (0,0)):=by rw[hW];exact zAg _ (by simp)
 have s:W.heap.size=w.heap.size+2:=by rw[hW];simp
 have HB:=xI (aN hb (aN s (aN t v)));have HF:=xI hF;have HN:=xI hn;clear hb t v hF hn s;generalize hL:l.length=n;have HL:=xI hL;rw[hL]at hW;clear hL;go_enter func156,ntmps156;go_wp2_with fail;rw[<-hW];clear hW
 go_loopw [5] (fun iv wr=>∃ (j:Nat),iv=vI i6 j/\j<=n/\(∀ g∈l.take j,g≠(k1,k2))/\bW W wr) (fun iv _=>((n:Int)-intOf iv).toNat)
 case atStart=>exact⟨0,rfl,Bt _,by simp,Bw _ _⟩
 case round=>
  obtain⟨j,rfl,F,u,f⟩:=hrel;have hz:=HB.out.2.1;have D:=f.size;have n1:=(f.block _ (by omega)).trans HB.out.2.2.1;have q1:=(f.block _ (by omega)).trans HB.out.2.2.2;have HC:Hid (∀ wq,bW wr wq->(wq.cell? (aH w 4)=some (vS A n c))/\j2 wq (w.heap.size+1) (vI i6 k1) (vT ⟨k2.toArray⟩)):=xI fun wq h=>⟨(h.cell (p:=(aH w 4)) (by show w.heap.size<_;omega)).trans ((Bv n1 4).trans (by rw[<-HL.out];rfl)),(h.cell (p:=(aE w 0)) (by show w.heap.size+1<_;omega)).trans (cH q1 0),(h.cell (p:=(aE w 1)) (by show w.heap.size+1<_;omega)).trans (cH q1 1)⟩;clear n1 q1;have m:=xI u;have d:=xI f;clear u f;obtain⟨f0,f1,f2⟩:=HC.out _ yR;have m0:(0:Int)<=(j:Int):=by omega
  by_cases hj:j<n
  ·have mp:(j:Int)<(n:Int):=by omega
   have E:IntKind.i64.wrap ((j:Int)+1)=(j:Int)+1:=Br _ (by have:=HN.out;have:=HL.out;unfold maxLen at *;omega);have y:j<l.length:=by have:=HL.out;omega
   obtain⟨b,a,cap,x0,x1,hu,G,⟨⟨r,q⟩,z,B,_⟩,g0,g1⟩:=RowB.at2 HF.out y;injection hu with e1 e2 e3;injection B with e4 e5;injection e5 with e5 _;subst e1 e4 e5;clear e2 e3;have HQ:Hid (∀ wq,bW wr wq->((wq.cell? (aH w 4)=some (vS (some (aD b a)) n c))/\j2 wq (w.heap.size+1) (vI i6 k1) (vT ⟨k2.toArray⟩))/\wq.cell? (aD b (a+j*2))=some (vI i6 r)/\wq.cell? (aD b (a+j*2+1))=some (vT ⟨q.toArray⟩)):=xI fun wq h=>⟨HC.out wq h,((d.out.mono (by omega:w.heap.size<=_)).trans (h.mono (by omega)) |>.cell (p:=(aD b (a+j*2))) (by show b<_;omega)).trans ((HB.out.1.cell (p:=(aD b (a+j*2))) (by show b<_;omega)).trans g0),((d.out.mono (by omega:w.heap.size<=_)).trans (h.mono (by omega)) |>.cell (p:=(aD b (a+j*2+1))) (by show b<_;omega)).trans ((HB.out.1.cell (p:=(aD b (a+j*2+1))) (by show b<_;omega)).trans g1)⟩;have HJ:=xI z;clear z g0 g1 y;go_wp2_with fail;have hd:bW wr wr.drew:=yR.drew;refine wR HQ (by kernel_rfl) (HQ.out _ hd) (fun _=>?_);refine oT 0 (HQ.out _ hd) ?_
   (iterate 5 refine oY (HQ.out _ hd) ?_)
   by_cases h1k:r=k1
   ·by_cases h2k:q=k2
    ·subst h1k h2k;refine oT 6 (HQ.out _ hd) ?_;refine wD ?_;have i:bW W wr.drew:=d.out.drew;go_wp2_with fail;go_ret;exact⟨by rw[zR0 HJ.out rfl m.out];rfl,HB.out.1.trans (i.mono (by have:=HB.out.2.1;omega))⟩
    ·have C:¬ q=k2:=h2k;refine oT 6 (HQ.out _ hd) ?_;refine wD ?_;have i:bW W wr.drew:=d.out.drew;go_wp2_with fail
     go_roundw
     case rel=>
      refine⟨j+1,by go_num,by omega,fun g hg=>?_,i⟩;rw[Cr,HJ.out]at hg;rcases B7.1 hg with hg|hg
      ·exact m.out g hg
      ·obtain rfl:g=_:=by simpa using hg
       intro he;injection he with h1 h2;exact h2k h2
     case measure=>simp[intOf];try omega
   ·have C:¬ r=k1:=h1k;refine oT 6 (HQ.out _ hd) ?_;refine wD ?_;have i:bW W wr.drew:=d.out.drew;go_wp2_with fail
    go_roundw
    case rel=>
     refine⟨j+1,by go_num,by omega,fun g hg=>?_,i⟩;rw[Cr,HJ.out]at hg;rcases B7.1 hg with hg|hg
     ·exact m.out g hg
     ·obtain rfl:g=_:=by simpa using hg
      intro he;injection he with h1 h2;exact h1k h1
    case measure=>simp[intOf];try omega
  ·have mp:¬ (j:Int)<(n:Int):=by omega
   go_wp2_with fail;go_ret;have o:j=l.length:=by have:=HL.out;omega
   have h:=m.out;rw[o,Ek]at h;exact⟨by rw[zNl h];rfl,(HB.out.1).trans (d.out.mono (by have:=HB.out.2.1;omega))⟩
def zDc (l:List Fd) (k:Int×List UInt8):Int:=match l.findIdx? (fun f=>decide (f.key=k))with|some j=>(j:Int)|none=>-1
theorem zNw {l:List Fd}{k:Int×List UInt8}{j:Nat}{f:Fd}(hj:l[j]?=some f) (hk:f.key=k) (hlo:∀ g∈l.take j,g.key≠k):zDc l k=j:=by
 unfold zDc;have hl:=(Bx.1 hj).1;have h:l.findIdx? (fun f=>decide (f.key=k))=some j:=by
  rw[List.findIdx?_eq_some_iff_getElem];refine⟨hl,?_,fun i hi=>?_⟩
  ·have:=(Bx.1 hj).2;rw[this];simpa using hk
  ·have hm:l[i]'(by omega)∈l.take j:=List.mem_take_iff_getElem.2 ⟨i,by omega,rfl⟩;simpa using hlo _ hm
 rw[h]
theorem zJ3 {l:List Fd}{k:Int×List UInt8}(hlo:∀ g∈l,g.key≠k):zDc l k=-1:=by
 unfold zDc;have h:l.findIdx? (fun f=>decide (f.key=k))=none:=by
  rw[List.findIdx?_eq_none_iff];intro g hg;simpa using hlo g hg
 rw[h]
theorem zNv (l:List Fd) (k:Int×List UInt8) (v0 v1 v2 v3 v4 v6 v7:Value) (A:Option Addr) (c:Nat) (w:World) (hF:RowP w w.heap.size 4 (vS A l.length c) l.length (fdR l)) (hn:l.length<=maxLen) :
  Calls tP 157 #[.agg #[v0,v1,v2,v3,v4,vS A l.length c,v6,v7],.agg #[vI i6 k.1,vT ⟨k.2.toArray⟩]] w fun e w'=>e=.returned (vI i6 (zDc l k))/\bW w w':=by
 obtain⟨k1,k2⟩:=k;obtain⟨W,hW⟩:∃ W,W=(w.alloc (.cells #[v0,v1,v2,v3,v4,vS A l.length c,v6,v7] 40 (0,0))).alloc (.cells #[vI i6 k1,vT ⟨k2.toArray⟩] 131 (0,0)):=⟨_,rfl⟩;have hb:bW w W:=by rw[hW];exact (yR.alloc lR _).alloc (by simp) _
 have v:W.heap[w.heap.size]?=some (.cells #[v0,v1,v2,v3,v4,vS A l.length c,v6,v7] 40 (0,0)):=by rw[hW,Bp _ _ _ (by simp)];exact Bl w _
 have y:W.heap[w.heap.size+1]?=some (.cells #[vI i6 k1,vT ⟨k2.toArray⟩] 131 (0,0)):=by rw[hW];exact zAg _ (by simp)
 have u:W.heap.size=w.heap.size+2:=by rw[hW];simp
 have HB:=xI (aN hb (aN u (aN v y)));have HF:=xI hF;have HN:=xI hn;clear hb v y hF hn u;generalize hL:l.length=n;have HL:=xI hL;rw[hL]at hW;clear hL;go_enter func157,ntmps157;go_wp2_with fail;rw[<-hW];clear hW
 go_loopw [5] (fun iv wr=>∃ (j:Nat),iv=vI i6 j/\j<=n/\(∀ g∈l.take j,g.key≠(k1,k2))/\bW W wr) (fun iv _=>((n:Int)-intOf iv).toNat)
 case atStart=>exact⟨0,rfl,Bt _,by simp,Bw _ _⟩
 case round=>
  obtain⟨j,rfl,F,x,i⟩:=hrel;have hz:=HB.out.2.1;have D:=i.size;have n1:=(i.block _ (by omega)).trans HB.out.2.2.1;have q1:=(i.block _ (by omega)).trans HB.out.2.2.2;have HC:Hid (∀ wq,bW wr wq->(wq.cell? (aH w 5)=some (vS A n c))/\j2 wq (w.heap.size+1) (vI i6 k1) (vT ⟨k2.toArray⟩)):=xI fun wq h=>⟨(h.cell (p:=(aH w 5)) (by show w.heap.size<_;omega)).trans ((Bv n1 5).trans (by rw[<-HL.out];rfl)),(h.cell (p:=(aE w 0)) (by show w.heap.size+1<_;omega)).trans (cH q1 0),(h.cell (p:=(aE w 1)) (by show w.heap.size+1<_;omega)).trans (cH q1 1)⟩;clear n1 q1;have q:=xI x;have d:=xI i;clear x i;obtain⟨f0,f1,f2⟩:=HC.out _ yR;have m0:(0:Int)<=(j:Int):=by omega
  by_cases hj:j<n
  ·have mp:(j:Int)<(n:Int):=by omega
   have E:IntKind.i64.wrap ((j:Int)+1)=(j:Int)+1:=Br _ (by have:=HN.out;have:=HL.out;unfold maxLen at *;omega);have z:j<l.length:=by have:=HL.out;omega
   have o:=By z;generalize l[j]=f at o;obtain⟨b,a,rfl,G,B,g0,g1,_,_⟩:=fd_at HF.out o;obtain⟨⟨t,s⟩,fn,fo⟩:=f;have HQ:Hid (∀ wq,bW wr wq->((wq.cell? (aH w 5)=some (vS (some (aD b a)) n c))/\j2 wq (w.heap.size+1) (vI i6 k1) (vT ⟨k2.toArray⟩))/\wq.cell? (aD b (a+j*4))=some (vI i6 t)/\wq.cell? (aD b (a+j*4+1))=some (vT ⟨s.toArray⟩)):=xI fun wq h=>⟨HC.out wq h,((d.out.mono (by omega:w.heap.size<=_)).trans (h.mono (by omega)) |>.cell (p:=(aD b (a+j*4))) (by show b<_;omega)).trans ((HB.out.1.cell (p:=(aD b (a+j*4))) (by show b<_;omega)).trans g0),((d.out.mono (by omega:w.heap.size<=_)).trans (h.mono (by omega)) |>.cell (p:=(aD b (a+j*4+1))) (by show b<_;omega)).trans ((HB.out.1.cell (p:=(aD b (a+j*4+1))) (by show b<_;omega)).trans g1)⟩;have HJ:=xI o;clear o B g0 g1 z;go_wp2_with fail;have hd:bW wr wr.drew:=yR.drew;refine wR HQ (by kernel_rfl) (HQ.out _ hd) (fun _=>?_);refine oT 0 (HQ.out _ hd) ?_
   (iterate 6 refine oY (HQ.out _ hd) ?_)
   by_cases h1k:t=k1
   ·by_cases h2k:s=k2
    ·subst h1k h2k;refine oT 7 (HQ.out _ hd) ?_;refine wD ?_;have m:bW W wr.drew:=d.out.drew;go_wp2_with fail;go_ret;exact⟨by rw[zNw HJ.out rfl q.out];rfl,HB.out.1.trans (m.mono (by have:=HB.out.2.1;omega))⟩
    ·have C:¬ s=k2:=h2k;refine oT 7 (HQ.out _ hd) ?_;refine wD ?_;have m:bW W wr.drew:=d.out.drew;go_wp2_with fail
     go_roundw
     case rel=>
      refine⟨j+1,by go_num,by omega,fun g hg=>?_,m⟩;rw[Cr,HJ.out]at hg;rcases B7.1 hg with hg|hg
      ·exact q.out g hg
      ·obtain rfl:g=_:=by simpa using hg
       intro he;injection he with h1 h2;exact h2k h2
     case measure=>simp[intOf];try omega
   ·have C:¬ t=k1:=h1k;refine oT 7 (HQ.out _ hd) ?_;refine wD ?_;have m:bW W wr.drew:=d.out.drew;go_wp2_with fail
    go_roundw
    case rel=>
     refine⟨j+1,by go_num,by omega,fun g hg=>?_,m⟩;rw[Cr,HJ.out]at hg;rcases B7.1 hg with hg|hg
     ·exact q.out g hg
     ·obtain rfl:g=_:=by simpa using hg
      intro he;injection he with h1 h2;exact h1k h1
    case measure=>simp[intOf];try omega
  ·have mp:¬ (j:Int)<(n:Int):=by omega
   go_wp2_with fail;go_ret;have r:j=l.length:=by have:=HL.out;omega
   have h:=q.out;rw[r,Ek]at h;exact⟨by rw[zJ3 h];rfl,(HB.out.1).trans (d.out.mono (by have:=HB.out.2.1;omega))⟩
theorem zDo {w:World}{H n c:Nat}{l:List Int}{A:Option Addr}(h:RowP w H 1 (vS A n c) l.length (kidR l)) (h0:0<l.length):∃ b off,A=some (aD b off)/\b<H/\∀ j k,l[j]?=some k->w.cell? (aD b (off+j))=some (vI i6 k)/\i64B k:=by
 obtain⟨b,off,hA,hb,_,_⟩:=zDa h (By h0);refine⟨b,off,hA,hb,fun j k hk=>?_⟩;obtain⟨b',d,a,_,hc,hw⟩:=zDa h hk;rw[hA]at a;injection a with a;injection a with e1 e2 _;subst e1 e2;exact⟨hc,hw⟩
theorem zEm {n i:Nat}{k lo hi:Int}{tx:List UInt8}{ks:List Int}{fds:List Fd}{r0 r1:Int}(hg:GenN n i ⟨k,lo,hi,tx,ks,fds,r0,r1⟩):∀ x∈ks,0<=x/\x<n:=by
 intro x hx;have h:=hg.ok;simp only[tnB,Cy,Cz,idxB,Bf]at h;exact h.1.1 x hx
theorem zKs {n i:Nat}{k lo hi:Int}{tx:List UInt8}{ks:List Int}{fds:List Fd}{r0 r1:Int}(hg:GenN n i ⟨k,lo,hi,tx,ks,fds,r0,r1⟩) (hk:k=16\/k=17\/k=14):0<ks.length:=by
 have h:=hg.ok;simp only[tnB,Cy]at h;have h:=h.2;unfold formB at h;rcases hk with rfl|rfl|rfl<;>simp at h<;>omega
theorem zPm (h p q i:Nat) (ns:List Tn) (A:Option Addr) (c:Nat) (w:World) (hS:SrcOk h p w) (hR:zAl ns p A c w) (hG:GenT ns) (hq:1<=q) (hq4:q<=4) (lo hi:Int) (tx:List UInt8) (ks:List Int) (fds:List Fd) (r0 r1:Int) (hx:ns[i]?=some ⟨16,lo,hi,tx,ks,fds,r0,r1⟩) (hI:Hid (∀ (k:Nat) (W:World),i<k->k<ns.length->SrcOk h p W->zAl ns p A c W->Calls tP 88 #[.pointer (some (aD p 0)),.agg #[vS A ns.length c,vI i6 0],vI i6 k,vI i6 q] W (NearR (2+3*(ns.length-k)) q h p W))) :
  Calls tP 88 #[.pointer (some (aD p 0)),.agg #[vS A ns.length c,vI i6 0],vI i6 i,vI i6 q] w (NearR (2+3*(ns.length-i)) q h p w):=by
 have o:=hS.lt;have g:=hG.2 _ _ hx;have X:=(Bx.1 hx).1;have T:=hG.1;obtain⟨b,a,cap,Ak,ck,Af,cf,hu,Y,x,f,D,d0,d1,d2,d3,d4,d5,d6,d7⟩:=TyB.at8 hR hx;injection hu with hA _ hc;subst hA hc;obtain⟨hF,G⟩:=NF.start (oE (some (aD b a)) ns.length c 0) (oX 16 lo hi ⟨tx.toArray⟩ Ak ks.length ck Af fds.length cf r0 r1) hS;have u:bW w ((w.alloc (oE (some (aD b a)) ns.length c 0)).alloc zV):=(yR.alloc lR _).alloc (by simp) _;have N:b<w.heap.size:=by omega
 have K8:=kC8 u N d0 d1 d2 d3 d4 d5 d6 d7;clear d0 d1 d2 d3 d4 d5 d6 d7;obtain⟨d0,d1,d2,d3,d4,d5,d6,d7⟩:=K8;have u0:¬ (q:Int)<=0:=by omega
 have u1:(0:Int)<=(i:Int):=by omega
 have u2:(i:Int)<(ns.length:Int):=by omega
 have HR:=xI hR;have HG:=xI hG;have HX:=xI (aN hx (aN g x));have HK:=xI (aN f D);have HF:=xI hF;have I:=xI G;clear hR hG hx g x f D hF G u hS;obtain⟨W,hW⟩:∃ W,W=((((w.alloc (oE (some (aD b a)) ns.length c 0)).alloc zV).alloc (oX 16 lo hi ⟨tx.toArray⟩ Ak ks.length ck Af fds.length cf r0 r1)).alloc zV):=⟨_,rfl⟩;rw[<-hW]at HF I;go_enter func88,ntmps88;go_wp2_with fail;have M:=zKs HX.out.2.1 (.inl rfl);have z:=zEm HX.out.2.1;have d:=HX.out.2.1.lat rfl;have U:ks.length<=3:=HX.out.2.1.nk;obtain⟨bk,ok,Q,Z,y⟩:=zDo HK.out.1 M;subst Q;have H:∀ wq,Eff p W wq->(jT wq w.heap.size (some (aD b a)) ns.length c 0)/\wq.cell? (aF w 4)=some (vS (some (aD bk ok)) ks.length ck)/\∀ j k,ks[j]?=some k->wq.cell? (aD bk (ok+j))=some (vI i6 k):=by
  intro wq hE;have F:=HF.out.next hE o
  exact⟨zB7 F.t,(zAe F.n).2.2.2.2.1,fun j k hj=>(Bi (F.eff.other bk (by omega) (by omega))).trans (y j k hj).1⟩
 have HQ:=xI H;have hd:Eff p W W.drew:=Eff.of_below yR.drew (by have:=HF.out.siz;omega);have O:=I.out.below yR.drew;have P:=(HR.out.eff HF.out.eff).eff hd;have hc:=zAh h p ks.length W.drew O (by omega) (by omega);have J:=xI (aN z d);clear H y z d;rw[<-hW];clear hW;generalize hkl:ks.length=kl at HQ hc ⊢;have R:=xI hkl;clear hkl d0 d1 d2 d3 d4 d5 d6 d7;refine ub 13 (fun _=>True) (fun wq=>(jT wq w.heap.size (some (aD b a)) ns.length c 0)/\wq.cell? (aF w 4)=some (vS (some (aD bk ok)) kl ck)/\∀ j k,ks[j]?=some k->wq.cell? (aD bk (ok+j))=some (vI i6 k)) ?_;refine oM 0 ⟨trivial,HQ.out _ hd⟩ ?_ (hy:=oA);refine oK 1 ⟨trivial,HQ.out _ hd⟩ ?_ (hy:=Or.inl ⟨by rfl,(by intro w hSw;obtain⟨⟨a1,a2⟩,a3,a4⟩:=hSw;clear a4;go_simp;try with_reducible rfl)⟩)
 refine oM 2 ⟨trivial,HQ.out _ hd⟩ ?_ (hy:=oA);refine oK 3 ⟨trivial,HQ.out _ hd⟩ ?_ (hy:=Or.inl ⟨by rfl,(by intro w hSw;obtain⟨⟨a1,a2⟩,a3,a4⟩:=hSw;clear a4;go_simp;try with_reducible rfl)⟩)
 refine oM 4 ⟨trivial,HQ.out _ hd⟩ ?_ (hy:=oA);refine oM 5 ⟨trivial,HQ.out _ hd⟩ ?_ (hy:=oA);refine oK 6 ⟨trivial,HQ.out _ hd⟩ ?_ (hy:=Or.inl ⟨by rfl,(by intro w hSw;obtain⟨⟨a1,a2⟩,a3,a4⟩:=hSw;clear a4;go_simp;try with_reducible rfl)⟩)
 refine oM 7 ⟨trivial,HQ.out _ hd⟩ ?_ (hy:=oA);refine oM 11 ⟨trivial,HQ.out _ hd⟩ ?_ (hy:=oA);refine uo 8 (fun K hK=>?_);go_simp;refine hc.mono ?_;rintro e w5 ⟨j,rfl,j0,j1,hS5,hE5⟩;clear hc;have l:=hd.trans hE5;obtain⟨j,rfl⟩:∃ m:Nat,j=(m:Int):=⟨j.toNat,by omega⟩;have B:j<ks.length:=by have:=R.out;omega
 have C:=By B;have s:=Cx B;generalize ks[j]=kj at C s;have u:=J.out.1 kj s;have aa:=J.out.2 kj s;obtain⟨kj,rfl⟩:∃ m:Nat,kj=(m:Int):=⟨kj.toNat,by omega⟩;have hc:=hI.out kj w5 (by omega) (by omega) hS5 (P.eff hE5);refine hK _ _ ⟨trivial,fun _=>HQ.out _ l⟩ (oQ ?_);clear hK K;refine oM 9 ⟨trivial,HQ.out _ l⟩ ?_ (hy:=oA);refine oK 10 ⟨trivial,HQ.out _ l⟩ ?_ (hy:=Or.inl ⟨by rfl,(by intro w hSw;have a5:=hSw.2.2 _ _ C;clear hSw;go_simp;try with_reducible rfl)⟩)
 refine uo 12 (fun K hK=>?_);go_simp;refine hc.mono ?_;rintro e w9 ⟨⟨v,cs,rfl,hv,hl⟩,hS9,hE9⟩;clear hc;have E:=l.trans hE9;have hF:=HF.out.next E o
 have S:=l.size;have hz:=HF.out.siz;obtain⟨a1,i1,s1,A1,n1,c1,A2,n2,c2,A3,n3,c3,A4,n4,c4,rfl⟩:=hv.form7;have HV:=xI (aN hv hl);clear hv hl hE9 hE5;refine hK _ _ ⟨trivial,fun _=>HQ.out _ E⟩ (oQ ?_);clear hK K;obtain⟨e0,e1,e2,e3,e4,e5,e6⟩:=zAc hF.r;obtain⟨z0,z1,z2,z3,z4,z5,z6⟩:=zAd hF.r;refine uo 13 (fun K hK=>?_);go_simp;refine hK _ _ ⟨trivial,ug⟩ (oQ ?_);clear hK K;refine (ud ?_) _;have L:=xI hF;clear hF;go_wp2;exact ret7 L.out.r rfl rfl rfl fun V x1 x2 x3=>zAw o L.out hS9 (VB.sub (fun b hb=>⟨by have:=hb.1;omega,hb.2⟩) lR HV.out.1) (by have:=HV.out.2;omega) x1 x2 x3
theorem namV:Nam 28 33 (.agg nV) 7 128:=⟨underlying28,by kernel_rfl,rfl,by decide,by decide⟩
structure KidL (h p q:Nat) (w:World) (T N:Obj) (j:Nat) (A:Option Addr) (c:Nat) (l:List Vl) (wr:World):Prop where
 len:l.length=j
 t:wr.heap[w.heap.size]?=some T
 r:wr.heap[w.heap.size+1]?=some zV
 n:wr.heap[w.heap.size+2]?=some N
 v:wr.heap[w.heap.size+3]?=some (oV 0 0 ⟨#[]⟩ A l.length c none 0 0 none 0 0 none 0 0)
 own:OwnV q wr (w.heap.size+4) (vS A l.length c) l
 src:SrcOk h p wr
 eff:Eff p w wr
 siz:w.heap.size+4<=wr.heap.size
theorem zFz {L q h p:Nat}{w w9 V:World}{v:Vl}{cs:List Value}(hlp:p<w.heap.size) (hE:Eff p w w9) (hS:SrcOk h p w9) (hv:VB (q+1) w9 (Btw (w.heap.size+2) w9.heap.size) v cs) (hl:(zB2 v).length<=L)
  (h1:V.heap.size=w9.heap.size) (h2:∀ b,b≠w.heap.size+1->V.heap[b]?=w9.heap[b]?) (h3:∀ B,B<=w.heap.size+1->Below B w9 V):NearR L q h p w (.returned (.agg cs.toArray)) V:=
 ⟨⟨v,cs,rfl,VB.sub (fun b hb=>⟨by have:=hb.1;omega,by have:=hb.2;omega⟩) lR (VB.keep ⟨by omega,fun b j hb _=>Bi (h2 b (by have:=hb.1;omega))⟩ hv),hl⟩,hS.below3 (h3 w.heap.size (Cg _)) hlp,hE.grow (h3 w.heap.size (Cg _)) hlp⟩
def Low (p m:Nat) (w w':World):Prop:=∀ b,b<m->b≠p->w'.heap[b]?=w.heap[b]?
theorem Low.eff {p m:Nat}{w w':World}(h:Eff p w w') (hm:m<=w.heap.size):Low p m w w':=fun b hb hp=>h.other b hp (by omega)
theorem Low.below {p m:Nat}{w w':World}(h:Below m w w'):Low p m w w':=fun b hb _=>h.block b hb
theorem Low.trans {p m:Nat}{a b c:World}(h:Low p m a b) (h':Low p m b c):Low p m a c:=fun x hx hp=>(h' x hx hp).trans (h x hx hp)
theorem zPn (h p q i:Nat) (ns:List Tn) (A:Option Addr) (c:Nat) (w:World) (hS:SrcOk h p w) (hR:zAl ns p A c w) (hG:GenT ns) (hq:1<=q) (hq4:q<=4) (lo hi:Int) (tx:List UInt8) (ks:List Int) (fds:List Fd) (r0 r1:Int) (hx:ns[i]?=some ⟨10,lo,hi,tx,ks,fds,r0,r1⟩) (hI:Hid (∀ (k:Nat) (W:World),k<ns.length->SrcOk h p W->zAl ns p A c W->Calls tP 46 #[.pointer (some (aD p 0)),.agg #[vS A ns.length c,vI i6 0],vI i6 k,vI i6 ((q-1:Nat):Int)] W (NearV (2+3*ns.length) (q-1) h p W))) :
  Calls tP 88 #[.pointer (some (aD p 0)),.agg #[vS A ns.length c,vI i6 0],vI i6 i,vI i6 q] w (NearR (2) q h p w):=by
 have F:=hS.lt;have B:=hG.2 _ _ hx;have az:=(Bx.1 hx).1;have aw:=hG.1;obtain⟨b,d,cap,Ak,ck,Af,cf,hu,aA,S,z,aa,d0,d1,d2,d3,d4,d5,d6,d7⟩:=TyB.at8 hR hx;injection hu with hA _ hc;subst hA hc;obtain⟨hF,ad⟩:=NF.start (oE (some (aD b d)) ns.length c 0) (oX 10 lo hi ⟨tx.toArray⟩ Ak ks.length ck Af fds.length cf r0 r1) hS;have u:bW w ((w.alloc (oE (some (aD b d)) ns.length c 0)).alloc zV):=(yR.alloc lR _).alloc (by simp) _;have an:b<w.heap.size:=by omega
 have K8:=kC8 u an d0 d1 d2 d3 d4 d5 d6 d7;clear d0 d1 d2 d3 d4 d5 d6 d7;obtain⟨d0,d1,d2,d3,d4,d5,d6,d7⟩:=K8;have u0:¬ (q:Int)<=0:=by omega
 have u1:(0:Int)<=(i:Int):=by omega
 have u2:(i:Int)<(ns.length:Int):=by omega
 have HR:=xI hR;have HG:=xI hG;have HX:=xI (aN hx (aN B S));have HK:=xI (aN z aa);have HF:=xI hF;have P:=xI ad;clear hR hG hx B S z aa hF ad u hS;obtain⟨W,hW⟩:∃ W,W=((((w.alloc (oE (some (aD b d)) ns.length c 0)).alloc zV).alloc (oX 10 lo hi ⟨tx.toArray⟩ Ak ks.length ck Af fds.length cf r0 r1)).alloc zV):=⟨_,rfl⟩;rw[<-hW]at HF P;go_enter func88,ntmps88;go_wp2_with fail;have G:=zEm HX.out.2.1;have ax:ks.length<=3:=HX.out.2.1.nk;have ap:∃ bk ok,(0<ks.length->Ak=some (aD bk ok)/\bk<p)/\∀ j k,ks[j]?=some k->w.cell? (aD bk (ok+j))=some (vI i6 k):=by
  by_cases h0:0<ks.length
  ·obtain⟨bk,ok,h1,h2,h3⟩:=zDo HK.out.1 h0;exact⟨bk,ok,fun _=>⟨h1,h2⟩,fun j k hj=>(h3 j k hj).1⟩
  ·exact⟨0,0,fun h=>absurd h h0,fun j k hj=>absurd (Bx.1 hj).1 (by omega)⟩
 obtain⟨bk,ok,ah,Y⟩:=ap;have R:=xI (aN G (aN ah Y));have au:IntKind.i64.wrap ((q:Int)-1)=((q-1:Nat):Int):=by rw[Br _ (by omega)];omega
 have ag:KidL h p q w (oE (some (aD b d)) ns.length c 0) (oX 10 lo hi ⟨tx.toArray⟩ Ak ks.length ck Af fds.length cf r0 r1) 0 none 0 [] W:=⟨rfl,HF.out.t,HF.out.r,HF.out.n,HF.out.v,OwnE.nil _ _ _ _ _,P.out,HF.out.eff,HF.out.siz⟩;have Q:=xI ag;clear G ah Y ag d0 d1 d2 d3 d4 d5 d6 d7 HF P;rw[<-hW];clear hW
 go_loopw [11] (fun iv wr=>∃ (j:Nat) (A1:Option Addr) (c1:Nat) (l:List Vl),iv=vI i6 j/\j<=ks.length/\KidL h p q w (oE (some (aD b d)) ns.length c 0) (oX 10 lo hi ⟨tx.toArray⟩ Ak ks.length ck Af fds.length cf r0 r1) j A1 c1 l wr) (fun i _=>((ks.length:Int)-intOf i).toNat)
 case atStart=>exact⟨0,none,0,[],rfl,by omega,Q.out⟩
 case round=>
  obtain⟨j,A1,c1,l,rfl,hj,hL⟩:=hrel;have n4:=(zAe hL.n).2.2.2.2.1;by_cases hjn:j<ks.length
  ·have mp:(j:Int)<(ks.length:Int):=by omega
   have m0:(0:Int)<=(j:Int):=by omega
   have av:IntKind.i64.wrap ((j:Int)+1)=(j:Int)+1:=Br _ (by omega);have N:=By hjn;have Z:=Cx hjn;generalize ks[j]=kj at N Z;have u:=R.out.1 kj Z;obtain⟨rfl,ao⟩:=R.out.2.1 (by omega);have hz:=hL.siz;have D:bk≠p:=D5 ao;have hd:Eff p wr wr.drew:=Eff.of_below yR.drew (by omega);have HQ:Hid (∀ wq,Low p (w.heap.size+4) wr wq->((jT wq w.heap.size (some (aD b d)) ns.length c 0)/\wq.cell? (aF w 4)=some (vS (some (aD bk ok)) ks.length ck)/\wq.cell? (aD (w.heap.size+1+1+1) 3)=some (vS A1 l.length c1)/\wq.cell? (aD bk (ok+j))=some (vI i6 kj))):=xI fun wq hw=>⟨zB7 ((hw w.heap.size (by omega) (by omega)).trans hL.t),(zAe ((hw (w.heap.size+2) (by omega) (by omega)).trans hL.n)).2.2.2.2.1,(zAc ((hw (w.heap.size+3) (by omega) (by omega)).trans hL.v)).2.2.2.1,(Bi (hw bk (by omega) D)).trans ((Bi (hL.eff.other bk D (by omega))).trans (R.out.2.2 j kj N))⟩;have ae:=(HR.out.eff hL.eff).eff hd;obtain⟨kj,rfl⟩:∃ m:Nat,kj=(m:Int):=⟨kj.toNat,by omega⟩;have hc:=hI.out kj wr.drew (by omega) (hL.src.below yR.drew) ae;have HL:=xI (aN hL hj);generalize hkl:ks.length=kl at mp n4 HQ;generalize f:l.length=la at HQ;have E:=xI (aN hkl f);clear hL hj hkl f ae N;go_wp2_with fail;clear n4;refine ub 15 (fun _=>True) (fun wq=>((jT wq w.heap.size (some (aD b d)) ns.length c 0)/\wq.cell? (aF w 4)=some (vS (some (aD bk ok)) kl ck)/\wq.cell? (aD (w.heap.size+1+1+1) 3)=some (vS A1 la c1)/\wq.cell? (aD bk (ok+j))=some (vI i6 kj))) ?_;refine oM 0 ⟨trivial,HQ.out _ (Low.eff hd hz)⟩ ?_;refine oK 1 ⟨trivial,HQ.out _ (Low.eff hd hz)⟩ ?_;refine oM 2 ⟨trivial,HQ.out _ (Low.eff hd hz)⟩ ?_;refine oK 3 ⟨trivial,HQ.out _ (Low.eff hd hz)⟩ ?_;refine oM 4 ⟨trivial,HQ.out _ (Low.eff hd hz)⟩ ?_;refine oK 5 ⟨trivial,HQ.out _ (Low.eff hd hz)⟩ ?_;refine oM 6 ⟨trivial,HQ.out _ (Low.eff hd hz)⟩ ?_;refine oM 7 ⟨trivial,HQ.out _ (Low.eff hd hz)⟩ ?_;refine oK 8 ⟨trivial,HQ.out _ (Low.eff hd hz)⟩ ?_;refine oM 9 ⟨trivial,HQ.out _ (Low.eff hd hz)⟩ ?_;refine oM 10 ⟨trivial,HQ.out _ (Low.eff hd hz)⟩ ?_;refine uo 11 (fun K hK=>?_);go_simp;refine hc.mono ?_;rintro e w5 ⟨⟨x,cs,rfl,hv,hok,hl5⟩,hS5,hE5⟩;clear hc;obtain⟨a1,i1,s1,B1,n1,g1,B2,n2,g2,B3,n3,g3,B4,n4,g4,rfl⟩:=hv.form7;have s:=hd.trans hE5;have hL:=HL.out.1;have ak:wr.heap.size<=w5.heap.size:=s.size;have C:=hL.own.blk;have I:VB q w5 (Btw wr.heap.size w5.heap.size) x [vI i6 a1,vI i6 i1,vT s1,vS B1 n1 g1,vS B2 n2 g2,vS B3 n3 g3,vS B4 n4 g4]:=VB.sub (fun _ h=>h) (by omega) hv;obtain⟨g,cap,w7,L,O,H,am,_⟩:=appG (elV q) namV 28 w5 (w.heap.size+4) _ l (hL.own.eff s (by omega)) x _ (VB.sub (fun b hb=>⟨by have:=hb.1;omega,hb.2,fun e=>by have:=C b e.symm;have:=hb.1;omega⟩) lR I) rfl (zBg q x _ _ _ I) (by have:=hL.len;have:=HL.out.2;omega) (by omega) _ rfl 1;rw[E.out.2]at L O;have a:Low p (w.heap.size+4) wr w7:=(Low.eff s hz).trans (Low.below H);have y:=(a (w.heap.size+3) (by omega) (by omega)).trans hL.v;rw[E.out.2]at y;have aj:w7.cell? (aD (w.heap.size+1+1+1) 3)=some (vS A1 la c1):=(zAc y).2.2.2.1;have ai:w7.frozen? (aD (w.heap.size+1+1+1) 3)=false:=(zAd y).2.2.2.1;have af:KidL h p q w (oE (some (aD b d)) ns.length c 0) (oX 10 lo hi ⟨tx.toArray⟩ (some (aD bk ok)) ks.length ck Af fds.length cf r0 r1) (j+1) (some (aD g 0)) cap (l++[x]) (w7.setCell (aD (w.heap.size+1+1+1) 3) (vS (some (aD g 0)) (la+1) cap)):=by
    have X:(l++[x]).length=la+1:=by rw[Bd,E.out.2];rfl
    have G:=Bm w7 (w.heap.size+3) 3 _ _ (vS (some (aD g 0)) (la+1) cap) y;have ab:Below (w.heap.size+3) w5 (w7.setCell (aD (w.heap.size+3) 3) (vS (some (aD g 0)) (la+1) cap)):=(H.mono (show w.heap.size+3<=w.heap.size+4 by omega)).setCell (p:=(aD (w.heap.size+3) 3)) (Bc (w.heap.size+3)) _;have J:∀ b,b≠w.heap.size+3->b<w.heap.size+4->b≠p->(w7.setCell (aD (w.heap.size+3) 3) (vS (some (aD g 0)) (la+1) cap)).heap[b]?=wr.heap[b]?:=fun b h1 h2 h3=>(Bq _ _ _ _ h1).trans (a b h2 h3);exact⟨by rw[Bd,hL.len];rfl,(J _ (by omega) (by omega) (by omega)).trans hL.t,(J _ (by omega) (by omega) (by omega)).trans hL.r,(J _ (by omega) (by omega) (by omega)).trans hL.n,by rw[X];simpa using G,by rw[X];exact OwnE.low O (by omega),hS5.below3 ab (by omega),(hL.eff.trans s).grow (ab.mono (by omega)) F,by simp;have:=H.size;omega⟩
   have aq:=xI af;have U:=HQ.out w5 (Low.eff s hz);have T:=fun o=>HQ.out (w5.alloc o) (Low.eff (s.grow ((Bw wr.heap.size w5).alloc ak o) (by omega)) hz);have M:=HQ.out w7 a;clear af y O H am hL C I hv hok hl5 hS5 hE5 a;refine hK _ _ ⟨trivial,fun _=>U⟩ (oQ ?_);clear hK K;refine uo 12 (fun K hK=>?_);go_simp;refine hK _ _ ⟨trivial,fun _=>T _⟩ (oQ ?_);clear hK K;refine uo 13 (fun K hK=>?_);refine Lib.wp_append_run _ _ _ _ _ rfl _ _ rfl rfl _ w7 L ?_;refine hK _ _ ⟨trivial,fun _=>M⟩ (oQ ?_);clear hK K;refine oM 14 ⟨trivial,M⟩ ?_;refine uo 15 (fun K hK=>?_);go_simp;refine hK _ _ ⟨trivial,ug⟩ (oQ ?_);clear hK K;refine (ud ?_) _;clear aj ai L T U M;go_wp2_with fail
   go_roundw
   case rel=>
    have h7:=aq.out;rw[E.out.1]at h7;exact⟨j+1,_,_,_,by go_num,by omega,h7⟩
   case measure=>have:=E.out.1;simp[intOf];try omega
  ·have mp:¬ (j:Int)<(ks.length:Int):=by omega
   have ay:=hL.len;obtain⟨c0,aB,c2,c3,c4,c5,c6⟩:=zAc hL.v;obtain⟨f0,f1,f2,f3,f4,f5,f6⟩:=zAd hL.v;obtain⟨e0,e1,e2,e3,e4,e5,e6⟩:=zAc hL.r;obtain⟨z0,z1,z2,z3,z4,z5,z6⟩:=zAd hL.r;have n0:=(zAe hL.n).1;have HL:=xI hL;generalize f:l.length=la at c3;have ar:=xI f;clear hL f;go_wp2;have hL:=HL.out;have f:=ar.out;have hz:=hL.siz;have K1:(wr.setCell (aD (w.heap.size+1+1+1) 0) (vI i6 6)).heap[w.heap.size+1]?=some zV:=(Bq _ _ _ _ (show w.heap.size+1≠w.heap.size+1+1+1 by omega)).trans hL.r;have u:Below w.heap.size wr (wr.setCell (aD (w.heap.size+1+1+1) 0) (vI i6 6)):=yR.setCell (p:=(aD (w.heap.size+1+1+1) 0)) (by show w.heap.size<=w.heap.size+1+1+1;omega) _;have al:OwnV q (wr.setCell (aD (w.heap.size+1+1+1) 0) (vI i6 6)) (w.heap.size+4) (vS A1 l.length c1) l:=OwnE.low hL.own (by omega);have hv:VB (q+1) (wr.setCell (aD (w.heap.size+1+1+1) 0) (vI i6 6)) (Btw (w.heap.size+2) (wr.setCell (aD (w.heap.size+1+1+1) 0) (vI i6 6)).heap.size) (.mk 6 0 [] l [] [] []) [vI i6 6,vI i6 0,vT ⟨#[]⟩,vS A1 l.length c1,vS none 0 0,vS none 0 0,vS none 0 0]:=
    ⟨_,_,_,_,rfl,by decide,by decide,by simp,OwnE.rowB al (by decide) (by unfold maxLen;omega) (by omega),RowB.nil _ _ _ _,RowB.nil _ _ _ _,RowB.nil _ _ _ _⟩
   rw[f]at hv;exact ret7 K1 rfl rfl rfl fun V x1 x2 x3=>zFz F (hL.eff.grow u F) (hL.src.below3 u F) hv (by show 0<=_;omega) x1 x2 x3
theorem OwnC.mapJ {α:Type}{Pr Pr':α->List Value->Prop}{e:TypeId}{c:Nat}{w:World}{base:Nat}{v:Value}{l:List α}(h:OwnE (elC Pr) e c w base v l) (hP:∀ x cs,Pr x cs->Pr' x cs):OwnE (elC Pr') e c w base v l:=by
 obtain⟨xs,ho,hx⟩:=h;exact⟨xs,ho,fun j x hj=>hP _ _ (hx j x hj)⟩
structure MapJ (q base:Nat) (w:World) (u1 u2:Value) (keys:List (Int×List UInt8)) (vs:List Vl) (D:Nat->Prop):Prop where
 len:vs.length=keys.length
 ky:OwnY w base u1 keys
 vl:OwnX7 q w D w base u2 vs
 dd:∀ b,D b->base<=b/\b<w.heap.size/\some b≠u1.ownBlock/\some b≠u2.ownBlock
 dj:∀ g,u1.ownBlock=some g->some g≠u2.ownBlock
theorem MapJ.nil (q base:Nat) (w:World):MapJ q base w (vS none 0 0) (vS none 0 0) [] [] (fun _=>False):=
 ⟨rfl,OwnE.nil _ _ _ _ _,OwnE.nil _ _ _ _ _,fun _ h=>h.elim,fun g h=>by simp[Value.ownBlock]at h⟩
theorem MapJ.step2 {q base p:Nat}{w w3 w4 w5:World}{u1 u2:Value}{keys:List (Int×List UInt8)}{vs:List Vl}{D:Nat->Prop}(h:MapJ q base w u1 u2 keys vs D) (hp:p<base) (hE3:Eff p w w3) (hb4:Below base w3 w4) (hk4:∀ b,b<w3.heap.size->some b≠u1.ownBlock->w4.heap[b]?=w3.heap[b]?) (hE5:Eff p w4 w5) :
  OwnX7 q w5 (fun b=>D b\/Btw w4.heap.size w5.heap.size b) w5 base u2 vs:=by
 have j:=hE3.size;have f:=hb4.size;have d:=hE5.size;have a:∀ b,base<=b->b<w.heap.size->some b≠u1.ownBlock->w5.heap[b]?=w.heap[b]?:=fun b h1 h2 h3=>(hE5.other b (by omega) (by omega)).trans ((hk4 b (by omega) h3).trans (hE3.other b (by omega) h2));have c:Same D w w5:=⟨by omega,fun b i hD _=>Bi (a b (h.dd b hD).1 (h.dd b hD).2.1 (h.dd b hD).2.2.1)⟩;refine OwnC.mapJ (OwnC.kept h.vl fun g hg=>?_) fun x cs hv=>VB.sub (fun _ hb=>.inl hb) lR (VB.keep c hv);have hb:=h.vl.blk g hg;exact a g hb.1 hb.2 fun e=>h.dj g e.symm hg.symm
theorem MapJ.step {q base p:Nat}{w w3 w4 w5 w6:World}{u1 u2:Value}{keys:List (Int×List UInt8)}{vs:List Vl}{D:Nat->Prop}{x:Int×List UInt8}{v:Vl}{g cap g2 cap2:Nat}(h:MapJ q base w u1 u2 keys vs D) (hp:p<base) (hE3:Eff p w w3) (hb4:Below base w3 w4) (_hk4:∀ b,b<w3.heap.size->some b≠u1.ownBlock->w4.heap[b]?=w3.heap[b]?)
  (hg4:u1.ownBlock=some g\/w3.heap.size<=g) (ho4:OwnK w4 base (vS (some (aD g 0)) (keys.length+1) cap) (keys++[x])) (hE5:Eff p w4 w5)
  (ho6:OwnE (elC (fun x cs=>VB q w5 (fun b=>D b\/Btw w4.heap.size w5.heap.size b) x cs)) 33 7 w6 base (vS (some (aD g2 0)) (vs.length+1) cap2) (vs++[v])) (hb6:Below base w5 w6) (hk6:∀ b,b<w5.heap.size->some b≠u2.ownBlock->w6.heap[b]?=w5.heap[b]?)
  (hg6:u2.ownBlock=some g2\/w5.heap.size<=g2) :
  MapJ q base w6 (vS (some (aD g 0)) (keys.length+1) cap) (vS (some (aD g2 0)) (vs.length+1) cap2) (keys++[x]) (vs++[v]) (fun b=>D b\/Btw w4.heap.size w5.heap.size b):=by
 have n:=hE3.size;have m:=hb4.size;have l:=hE5.size;have j:=hb6.size;have f:=h.ky.blk;have a:=h.vl.blk;have k:=ho4.blk g rfl;have c:some g≠u2.ownBlock:=by
  intro e;rcases hg4 with h1|h1
  ·exact h.dj g h1 e
  ·have:=a g e.symm;omega
 have d:∀ b,(D b\/Btw w4.heap.size w5.heap.size b)->base<=b/\b<w5.heap.size/\some b≠u2.ownBlock:=by
  rintro b (hb|hb)
  ·have:=h.dd b hb;exact⟨this.1,by omega,this.2.2.2⟩
  ·refine⟨by have:=hb.1;omega,hb.2,fun e=>?_⟩;have:=a b e.symm;have:=hb.1;omega
 refine⟨by simp[h.len],?_,?_,?_,?_⟩
 ·refine OwnC.kept (show OwnY w4 base _ _ from ho4) fun g' hg'=>?_;obtain rfl:g=g':=by simpa [Value.ownBlock] using hg'
  exact (hk6 g (by omega) c).trans (hE5.other g (by omega) k.2)
 ·refine OwnC.mapJ ho6 fun y cs hv=>VB.keep ⟨j,fun b i hD hl=>Bi (hk6 b hl (d b hD).2.2)⟩ hv
 ·intro b hb;have h1:=d b hb;refine⟨h1.1,by omega,?_,?_⟩
  ·simp only[Value.ownBlock,ne_eq,Cq];rintro rfl;rcases hb with hb|hb
   ·have h2:=h.dd b hb;rcases hg4 with h3|h3
    ·exact h2.2.2.1 h3.symm
    ·omega
   ·have:=hb.1;omega
  ·simp only[Value.ownBlock,ne_eq,Cq];rintro rfl;rcases hg6 with h3|h3
   ·exact h1.2.2 h3.symm
   ·omega
 ·intro g' hg';obtain rfl:g=g':=by simpa [Value.ownBlock] using hg'
  simp only[Value.ownBlock,ne_eq,Cq];rintro rfl;rcases hg6 with h3|h3
  ·exact c h3.symm
  ·omega
theorem zRp (q base:Nat) (A1:Option Addr) (c1:Nat) (keys:List (Int×List UInt8)) (A2:Option Addr) (c2:Nat) (vs:List Vl) (w:World){D:Nat->Prop}(hb:base<=w.heap.size) (h:MapJ q base w (vS A1 keys.length c1) (vS A2 keys.length c2) keys vs D) (hn:keys.length<=100000) :
  Calls tP 97 #[vS A1 keys.length c1,vS A2 keys.length c2] w (MapR q base keys vs w):=by
 have hl:=h.len;have e1:vS A2 keys.length c2=vS A2 vs.length c2:=by rw[hl]
 have hr:=h.vl.row (by omega) (by unfold maxLen;omega);rw[e1]at hr ⊢;have a:RowV q base w (vS A2 vs.length c2) vs:=RowB.sub (R':=fun j cs=>∃ x,vs[j]?=some x/\VB q w (Btw base w.heap.size) x cs) hr (fun _ hb=>hb) (fun j cs ⟨x,hx,hv⟩=>⟨x,hx,VB.sub (B:=D) (fun b hD=>⟨(h.dd b hD).1,(h.dd b hD).2.1⟩) lR hv⟩);exact zGv q base A1 c1 keys A2 c2 vs w hb (h.ky.row (by omega) (by unfold maxLen;omega)) a hn
theorem zM9 (h p i n:Nat) (A:Option Addr) (c:Nat) (w:World) (hS:SrcOk h p w) :
  Calls tP 88 #[.pointer (some (aD p 0)),.agg #[vS A n c,vI i6 0],vI i6 i,vI i6 0] w (NearR 0 0 h p w):=by
 have f:=hS.lt;obtain⟨W,hW⟩:∃ W,W=(w.alloc (oE A n c 0)).alloc zV:=⟨_,rfl⟩;have hb:bW w W:=by rw[hW];exact (yR.alloc lR _).alloc (by simp) _
 have d:W.heap.size=w.heap.size+2:=by rw[hW];simp
 have hr:W.heap[w.heap.size+1]?=some zV:=by rw[hW];exact zAg _ (by simp)
 have g:=xI (hS.below hb);have HB:=xI (aN hb (aN d hr));clear hb d hr hS;have u0:(0:Int)<=0:=by omega
 go_enter func88,ntmps88;go_wp2_with fail;rw[<-hW];clear hW;refine (zB0 h p W g.out).mono ?_;rintro e w5 ⟨⟨k,j,t,rfl,hl⟩,hS5,hE5⟩;have hz:=HB.out.2.1;have a:w5.heap[w.heap.size+1]?=some zV:=(hE5.other _ (by omega) (by omega)).trans HB.out.2.2;have HE:=xI ((Eff.of_below HB.out.1 (by omega:p<=w.heap.size)).trans hE5);have l:=xI hS5;have b:=xI (LeafN.all hl);have m:=xI a;obtain⟨e0,e1,e2,e3,e4,e5,e6⟩:=zAc a;obtain⟨z0,z1,z2,z3,z4,z5,z6⟩:=zAd a;clear hl hS5 hE5 hz;simp only[lfC];go_wp2;exact ret7 m.out rfl rfl rfl fun V x1 x2 x3=>⟨⟨lfV k j t,lfC k j t,rfl,lfVB b.out.2.2.1 b.out.2.2.2.1 b.out.2.2.2.2 0 _ _,by show 0<=_;omega⟩,l.out.below3 (x3 w.heap.size (Cg _)) f,HE.out.grow (x3 w.heap.size (Cg _)) f⟩
end Go.Proofs.YteedihhdcbepmaaGreat
