/- The program's WellFormed. -/
import Derived.Test.YteedihhdcbepmaaGreatTsZ
import Derived.Test.YteedihhdcbepmaaGreatTs13
import Derived.Shelf.Spec.SlicesGrow
set_option maxRecDepth 100000
set_option maxHeartbeats 12800000
set_option linter.all false
open Go.Value renaming slice→vS,int→vI,string→vT
open Go.IntKind renaming i64→i6
open Go.Proofs.Tryz
open Go.Proofs.Tryz renaming prog→tP
namespace Go.Proofs.YteedihhdcbepmaaGreat
open Go Go.RowKit
theorem zRr {w U:World}{b:Nat}{K lo hi:Int}{tn:List UInt8}{ks:List Int}{fds:List Fd}{r0 r1:Int}{Ak Af:Option Addr}{ck cf:Nat}{H:Nat}(hk:RowP U H 1 (vS Ak ks.length ck) ks.length (kidR ks)) (hf:RowP U H 4 (vS Af fds.length cf) fds.length (fdR fds)) (hH:H<=U.heap.size)
  (hb:U.heap[b]?=some (oX K lo hi ⟨tn.toArray⟩ Ak ks.length ck Af fds.length cf r0 r1)):NdAt (fun b=>b<U.heap.size) U b 0 ⟨K,lo,hi,tn,ks,fds,r0,r1⟩ Ak Af ck cf:=by
 have a:b<U.heap.size:=(Cv.1 hb).1;exact⟨⟨a,a⟩,cH hb 0,cH hb 4,cH hb 5,cH hb 6,cH hb 7,hk.sub (fun b h=>Bj h hH) fun _ _ h=>h,hf.sub (fun b h=>Bj h hH) fun _ _ h=>h⟩
theorem zMc {ns:List Tn}{root:Int}{A:Option Addr}{c:Nat}(w:World) (hT:TyP w w.heap.size ns root [vS A ns.length c,vI i6 root]) (hn:ns.length<=1000000) :
  Calls tP 12 #[.agg #[vS A ns.length c,vI i6 root]] w fun e w'=>e=.returned (vI i6 (wfC ns root))/\bW w w':=by
 obtain⟨W,hW,H,kW,L⟩:=aW w (oE A ns.length c root)
 obtain⟨u,hu,_,d⟩:=hT;injection hu with hu _;subst hu;have HT:Hid (∀ U,bW W U->RowP U w.heap.size 8 (vS A ns.length c) ns.length (tnR U (fun b=>b<w.heap.size) ns)/\bW w U/\U.cell? (aH w 0)=some (vS A ns.length c)/\U.cell? (aH w 1)=some (vI i6 root)/\w.heap.size+1<=U.heap.size):=xI fun U hU=>by
  have hb:=H.trans (hU.mono (by omega));have hk:=zAf ((hU.block _ (by omega)).trans kW);exact⟨RowB.on d hb fun _ _ ⟨y,hy,h⟩=>⟨y,hy,TnB.on h hb⟩,hb,hk.1,hk.2,by have:=hU.size;omega⟩
 have k:Hid (wfC ns root=if !(idxB ns.length root&&ns.all (tnB ns.length)) then 1 else if (zAk ns ns.length).all id then 0 else 3):=xI rfl;have HN:=xI hn;have hE:=(HT.out W yR).2.2;have r:=fun U=>zEy A ns.length c root U;have R:ns.length<=1000000:=hn;clear H kW L d hn;rw[hW]at hE;obtain⟨t0,t1,_⟩:=hE;cases hir:idxB ns.length root with
 | false=>
  rw[hir]at r;have HI:=xI hir;clear hir;go_enter func12,ntmps12;go_wp2_with (go_at_call 47;refine (r _).mono ?_;rintro e w2 ⟨rfl,rfl⟩);rw[<-hW];go_ret;refine⟨?_,(HT.out W yR).2.1⟩;rw[k.out,HI.out]
  first|rfl|simp
 | true=>
  rw[hir]at r;have HI:=xI hir;clear hir;generalize hnn:ns.length=nn at *;have p:=xI hnn;clear hnn;go_enter func12,ntmps12;go_wp2_with (go_at_call 47;refine (r _).mono ?_;rintro e w2 ⟨rfl,rfl⟩);rw[<-hW];clear hW t0 t1 r
  go_loopw [14] (fun iv wr=>∃ i:Nat,iv=vI i6 i/\i<=nn/\(ns.take i).all (tnB nn)=true/\bW W wr) (fun i _=>((nn:Int)-intOf i).toNat)
  case atStart=>exact⟨0,rfl,by omega,by simp,Bw _ _⟩
  case round=>
   obtain⟨i,rfl,hi,f,F⟩:=hrel;have HL:=xI (aN f F);clear f F;by_cases hlt:i<nn
   ·have mp:(i:Int)<(nn:Int):=by omega
    have m0:(0:Int)<=(i:Int):=by omega
    have Q:IntKind.i64.wrap ((i:Int)+1)=(i:Int)+1:=Br _ (by have:=HN.out;omega);have N:i<ns.length:=by have:=p.out;omega
    have hx:=By N;generalize ns[i]=x at hx;obtain⟨K,lo,j,tn,ks,a,r0,r1⟩:=x;have d:RowP wr w.heap.size 8 (vS A nn c) ns.length (tnR wr (fun b=>b<w.heap.size) ns):=by rw[p.out];exact (HT.out wr HL.out.2).1
    obtain⟨bn,on,O,Ak,ck,Af,cf,hu,S,s,q,C,d0,d1,d2,d3,d4,d5,d6,d7⟩:=TyB.at8 d hx;injection hu with hA hmm hcc;clear hmm;subst hA hcc;obtain⟨X,hX,G,kX,J⟩:=aW wr (oX K lo j ⟨tn.toArray⟩ Ak ks.length ck Af a.length cf r0 r1)
    have P:w.heap.size+1<=wr.heap.size:=(HT.out wr HL.out.2).2.2.2.2;have HX:Hid (∀ U,bW X U->bW W U/\(jN U wr.heap.size K lo j ⟨tn.toArray⟩ Ak ks.length ck Af a.length cf r0 r1)/\U.heap[wr.heap.size]?=some (oX K lo j ⟨tn.toArray⟩ Ak ks.length ck Af a.length cf r0 r1)/\RowP U w.heap.size 1 (vS Ak ks.length ck) ks.length (kidR ks)/\RowP U w.heap.size 4 (vS Af a.length cf) a.length (fdR a)/\w.heap.size<=U.heap.size):=xI fun U hU=>by
     have hb:=G.trans (hU.mono (by omega));have hk:=(hU.block _ (by omega)).trans kX;have o:Below w.heap.size wr U:=hb.mono (by omega);exact⟨HL.out.2.trans (hb.mono HL.out.2.size),zAe hk,hk,RowB.on q o fun _ _ h=>h,RowB.on C o fun _ _ h=>h,by have:=hb.size;omega⟩
    have n:Calls tP 48 #[.agg #[vI i6 K,vI i6 lo,vI i6 j,vT ⟨tn.toArray⟩,vS Ak ks.length ck,vS Af a.length cf,vI i6 r0,vI i6 r1]] X fun e w'=>e=.returned (.bool (useP ⟨K,lo,j,tn,ks,a,r0,r1⟩))/\bW X w':=zOw K lo j tn ks a r0 r1 Ak Af ck cf s.2.2.2.2.1 s.2.2.2.2.2 X;have E:∀ U,bW X U->Calls tP 49 #[.agg #[vI i6 K,vI i6 lo,vI i6 j,vT ⟨tn.toArray⟩,vS Ak ks.length ck,vS Af a.length cf,vI i6 r0,vI i6 r1]] U fun e w'=>e=.returned (.bool (formP ⟨K,lo,j,tn,ks,a,r0,r1⟩))/\bW U w':=fun U hU=>by
     have h:=HX.out U hU;exact zQm K lo j tn ks a r0 r1 Ak Af ck cf U ⟨_,_,rfl,s,h.2.2.2.1.mono h.2.2.2.2.2 fun _ _ h=>h,h.2.2.2.2.1.mono h.2.2.2.2.2 fun _ _ h=>h⟩
    have D:∀ U,bW X U->Calls tP 50 #[.pointer (some (aH wr 0)),vS (some (aD bn on)) nn c] U fun e w'=>e=.returned (.bool (refP nn ⟨K,lo,j,tn,ks,a,r0,r1⟩))/\bW U w':=fun U hU=>by
     have h:=HX.out U hU;exact zLd _ nn c wr.heap.size 0 ⟨K,lo,j,tn,ks,a,r0,r1⟩ Ak Af ck cf U (zRr (w:=w) h.2.2.2.1 h.2.2.2.2.1 h.2.2.2.2.2 h.2.2.1)
    have B:=zSf nn ⟨K,lo,j,tn,ks,a,r0,r1⟩;generalize useP ⟨K,lo,j,tn,ks,a,r0,r1⟩=b1 at *;generalize formP ⟨K,lo,j,tn,ks,a,r0,r1⟩=b2 at *;generalize refP nn ⟨K,lo,j,tn,ks,a,r0,r1⟩=b3 at *;have HW:=xI (aN B hx);have v:=xI E;have I:=xI D;clear hx d s q C G kX J B E D;cases b1 with
    | false=>
     have hE:=(HX.out X yR).2.1;rw[hX]at hE;obtain⟨n0,n1,n2,n3,n4,n5,n6,n7⟩:=hE;go_wp2_with fail;rw[<-hX];clear hX n0 n1 n2 n3 n4 n5 n6 n7 d0 d1 d2 d3 d4 d5 d6 d7;refine n.mono ?_;rintro e w1 ⟨rfl,hb1⟩;have g:=hb1;have q1:=(HX.out w1 g);have g0:=(HT.out w1 q1.1).2.2.1;obtain⟨n0,n1,n2,n3,n4,n5,n6,n7⟩:=q1.2.1;clear q1 n;go_wp2;go_ret;refine⟨?_,(HT.out w1 (HX.out w1 g).1).2.1⟩;have m:ns.all (tnB nn)=false:=by
      rw[Dy];exact⟨_,Bh HW.out.2,by rw[HW.out.1];simp⟩
     rw[k.out,m]
     first|rfl|simp
    | true=>
     cases b2 with
     | false=>
      have hE:=(HX.out X yR).2.1;rw[hX]at hE;obtain⟨n0,n1,n2,n3,n4,n5,n6,n7⟩:=hE;go_wp2_with fail;rw[<-hX];clear hX n0 n1 n2 n3 n4 n5 n6 n7 d0 d1 d2 d3 d4 d5 d6 d7;refine n.mono ?_;rintro e w1 ⟨rfl,hb1⟩;have g:=hb1;have q1:=(HX.out w1 g);have g0:=(HT.out w1 q1.1).2.2.1;obtain⟨n0,n1,n2,n3,n4,n5,n6,n7⟩:=q1.2.1;clear q1 n;go_wp2_with fail;refine (v.out w1 g).mono ?_;rintro e w2 ⟨rfl,o⟩;have l:=g.trans (o.mono g.size);clear g0 n0 n1 n2 n3 n4 n5 n6 n7;have g0:=(HT.out w2 (HX.out w2 l).1).2.2.1;go_wp2;go_ret;refine⟨?_,(HT.out w2 (HX.out w2 l).1).2.1⟩;have m:ns.all (tnB nn)=false:=by
       rw[Dy];exact⟨_,Bh HW.out.2,by rw[HW.out.1];simp⟩
      rw[k.out,m]
      first|rfl|simp
     | true=>
      cases b3 with
      | false=>
       have hE:=(HX.out X yR).2.1;rw[hX]at hE;obtain⟨n0,n1,n2,n3,n4,n5,n6,n7⟩:=hE;go_wp2_with fail;rw[<-hX];clear hX n0 n1 n2 n3 n4 n5 n6 n7 d0 d1 d2 d3 d4 d5 d6 d7;refine n.mono ?_;rintro e w1 ⟨rfl,hb1⟩;have g:=hb1;have q1:=(HX.out w1 g);have g0:=(HT.out w1 q1.1).2.2.1;obtain⟨n0,n1,n2,n3,n4,n5,n6,n7⟩:=q1.2.1;clear q1 n;go_wp2_with fail;refine (v.out w1 g).mono ?_;rintro e w2 ⟨rfl,o⟩;have l:=g.trans (o.mono g.size);clear g0 n0 n1 n2 n3 n4 n5 n6 n7;have g0:=(HT.out w2 (HX.out w2 l).1).2.2.1;go_wp2_with fail;refine (I.out w2 l).mono ?_;rintro e w3 ⟨rfl,hb3⟩;have t:=l.trans (hb3.mono l.size);clear g0;go_wp2;go_ret;refine⟨?_,(HT.out w3 (HX.out w3 t).1).2.1⟩;have m:ns.all (tnB nn)=false:=by
        rw[Dy];exact⟨_,Bh HW.out.2,by rw[HW.out.1];simp⟩
       rw[k.out,m]
       first|rfl|simp
      | true=>
       have hE:=(HX.out X yR).2.1;rw[hX]at hE;obtain⟨n0,n1,n2,n3,n4,n5,n6,n7⟩:=hE;go_wp2_with fail;rw[<-hX];clear hX n0 n1 n2 n3 n4 n5 n6 n7 d0 d1 d2 d3 d4 d5 d6 d7;refine n.mono ?_;rintro e w1 ⟨rfl,hb1⟩;have g:=hb1;have q1:=(HX.out w1 g);have g0:=(HT.out w1 q1.1).2.2.1;obtain⟨n0,n1,n2,n3,n4,n5,n6,n7⟩:=q1.2.1;clear q1 n;go_wp2_with fail;refine (v.out w1 g).mono ?_;rintro e w2 ⟨rfl,o⟩;have l:=g.trans (o.mono g.size);clear g0 n0 n1 n2 n3 n4 n5 n6 n7;have g0:=(HT.out w2 (HX.out w2 l).1).2.2.1;go_wp2_with fail;refine (I.out w2 l).mono ?_;rintro e w3 ⟨rfl,hb3⟩;have t:=l.trans (hb3.mono l.size);clear g0;go_wp2_with fail
       go_roundw
       case rel=>exact⟨i+1,by go_num,by omega,by rw[zAv HW.out.2,HL.out.1,HW.out.1];rfl,(HX.out w3 t).1⟩
       case measure=>simp[intOf];try omega
   ·have mp:¬ (i:Int)<(nn:Int):=by omega
    have f:ns.all (tnB nn)=true:=by
     have h:=HL.out.1
     rwa [B8 (by rw[p.out];omega)]at h
    have g0:=(HT.out wr HL.out.2).2.2.1;have d:=(HT.out wr HL.out.2).1;have M:=(HT.out wr HL.out.2).2.2.2.2;have hc:=zN7 ns A c wr (fun x hx=>by
     rw[Cz]at f;have h:=f x hx;simp only[tnB,Cy]at h;rw[p.out];exact h.1.1) (by rw[p.out];exact HN.out) (by
     rw[p.out];exact RowB.mono d (by omega) fun _ _ ⟨y,hy,h⟩=>⟨y,hy,TnB.up h (by omega)⟩)
    rw[p.out]at hc;rw[f,HI.out]at k;have T:=xI f;clear d M f;cases hb:(zAk ns nn).all id with
    | false=>
     rw[hb]at hc;have z:=xI hb;clear hb;go_wp2_with (go_at_call 51;refine hc.mono ?_;rintro e w5 ⟨rfl,hb5⟩;replace hb5:=xI hb5);go_ret;refine⟨?_,(HT.out w5 (HL.out.2.trans (hb5.out.mono HL.out.2.size))).2.1⟩;rw[k.out,z.out]
     first|rfl|simp
    | true=>
     rw[hb]at hc;have z:=xI hb;clear hb;go_wp2_with (go_at_call 51;refine hc.mono ?_;rintro e w5 ⟨rfl,hb5⟩;replace hb5:=xI hb5);go_ret;refine⟨?_,(HT.out w5 (HL.out.2.trans (hb5.out.mono HL.out.2.size))).2.1⟩;rw[k.out,z.out]
     first|rfl|simp
def Bo (H:Nat) (w w':World) (b:Nat):Prop:=b<H\/(w.heap.size<=b/\b<w'.heap.size)
def TyOut (H:Nat) (w:World) (t:Ty) (e:Ending) (w':World):Prop:=(∃ A c,e=.returned (.agg #[vS A t.1.length c,vI i6 t.2])/\TyB w' (Bo H w w') t.1 t.2 [vS A t.1.length c,vI i6 t.2])/\bW w w'
theorem TyOut.put {H g:Nat}{w W w1 V:World}{ns:List Tn}{r:Int}{cs:List Value}(hT:TyB w1 (Bo H W w1) ns r cs) (hg:H<=g) (hgW:g<W.heap.size) (hw:w.heap.size<=W.heap.size) (hV:V.heap.size=w1.heap.size) (hb:∀ b,b≠g->V.heap[b]?=w1.heap[b]?):TyB V (Bo H w V) ns r cs:=by
 have h:TyB V (Bo H W w1) ns r cs:=hT.keep ⟨by omega,fun b i hB _=>Bi (hb b (by rcases hB with h|h<;>omega))⟩;exact h.sub fun b hB=>by
  rcases hB with h|h
  ·exact .inl h
  ·exact .inr ⟨by omega,by omega⟩
theorem Bo.up {H H':Nat}{w w':World}(h:H<=H'){b:Nat}(hb:Bo H w w' b):Bo H' w w' b:=by
 rcases hb with hb|hb
 ·exact .inl (by omega)
 ·exact .inr hb
theorem ret2 {fn:Func}{R:Ending->World->Prop}{a:Act}{w:World}{s g:Nat}{v0 v1:Value}(hK:w.heap[g]?=some (.cells #[v0,v1] 24 (0,0))) (hr:fn.results=#[.cell s 24]) (ha:a.tmps[s]?=some (.pointer (some (aD g 0)))) (hd:a.defers=[])
  (h:R (.returned (.agg #[v0,v1])) w):bodyPost tP fn R .ret a w:=by
 obtain⟨c0,c1⟩:=zAf hK;exact Cw (v:=.agg #[v0,v1]) (by simp[results,hr,ha,go_sem,c0,c1]) hd h
theorem box2x {w:World}{g:Nat}{e:TypeId}{z0 z1:Value}(h:w.heap[g]?=some (.cells #[z0,z1] e (0,0))) (v0 v1:Value) (V:World) (hV:V=(w.setCell ⟨g,0,none⟩ v0).setCell ⟨g,1,none⟩ v1) :
  V.heap[g]?=some (.cells #[v0,v1] e (0,0))/\V.heap.size=w.heap.size/\(∀ b,b≠g->V.heap[b]?=w.heap[b]?)/\∀ B,B<=g->Below B w V:=by
 subst hV;have h1:=Bm w g 0 _ _ v0 h;have h2:=Bm _ g 1 _ _ v1 h1;refine⟨h2,by simp,fun b hb=>(Bq _ (aD g 1) b v1 hb).trans (Bq _ (aD g 0) b v0 hb),fun B hB=>((Bw B w).setCell (p:=(aD g 0)) hB v0).setCell (p:=(aD g 1)) hB v1⟩
theorem ret2s {fn:Func}{R:Ending->World->Prop}{a:Act}{w:World}{s g:Nat}{z0 z1 v0 v1:Value}(hK:w.heap[g]?=some (.cells #[z0,z1] 24 (0,0))) (hr:fn.results=#[.cell s 24]) (ha:a.tmps[s]?=some (.pointer (some ⟨g,0,none⟩))) (hd:a.defers=[])
  (h:∀ V,V.heap.size=w.heap.size->(∀ b,b≠g->V.heap[b]?=w.heap[b]?)->(∀ B,B<=g->Below B w V)->R (.returned (.agg #[v0,v1])) V):bodyPost tP fn R .ret a ((w.setCell ⟨g,0,none⟩ v0).setCell ⟨g,1,none⟩ v1):=by
 obtain⟨h1,h2,h3,h4⟩:=box2x hK v0 v1 _ rfl;exact ret2 h1 hr ha hd (h _ h2 h3 h4)
theorem zQ6 {W:World}{B:Nat->Prop}{b:Nat}{K lo hi:Int}{tn:List UInt8}{ks:List Int}{fds:List Fd}{r0 r1:Int}{Ak Af:Option Addr}{ck cf:Nat}(hN:TnB W B ⟨K,lo,hi,tn,ks,fds,r0,r1⟩ [vI i6 K,vI i6 lo,vI i6 hi,vT ⟨tn.toArray⟩,vS Ak ks.length ck,vS Af fds.length cf,vI i6 r0,vI i6 r1]) (hb:W.heap[b]?=some (oX K lo hi ⟨tn.toArray⟩ Ak ks.length ck Af fds.length cf r0 r1)) (hB:B b):TyB W B [⟨K,lo,hi,tn,ks,fds,r0,r1⟩] 0 [vS (some (aD b 0)) 1 1,vI i6 0]:=by
 have a:b<W.heap.size:=(Cv.1 hb).1;refine⟨_,rfl,by show i64B 0;decide,some (aD b 0),1,rfl,⟨by show 1<=maxLen;unfold maxLen;decide,Bc _⟩,fun _=>⟨b,0,rfl,hB,a,fun j hj=>?_⟩⟩;obtain rfl:j=0:=by simp at hj;omega
 refine⟨[vI i6 K,vI i6 lo,vI i6 hi,vT ⟨tn.toArray⟩,vS Ak ks.length ck,vS Af fds.length cf,vI i6 r0,vI i6 r1],rfl,fun i hi=>?_,_,rfl,hN⟩;refine (Bv hb _).trans ?_;simp
theorem zHw (K lo hi:Int) (tn:List UInt8) (ks:List Int) (fds:List Fd) (r0 r1:Int) (Ak Af:Option Addr) (ck cf:Nat) (H:Nat) (w:World) (hH:H<=w.heap.size) (hN:TnP w H ⟨K,lo,hi,tn,ks,fds,r0,r1⟩ [vI i6 K,vI i6 lo,vI i6 hi,vT ⟨tn.toArray⟩,vS Ak ks.length ck,vS Af fds.length cf,vI i6 r0,vI i6 r1]):Calls tP 60 #[.agg #[vI i6 K,vI i6 lo,vI i6 hi,vT ⟨tn.toArray⟩,vS Ak ks.length ck,vS Af fds.length cf,vI i6 r0,vI i6 r1]] w (TyOut H w ([⟨K,lo,hi,tn,ks,fds,r0,r1⟩],0)):=by
 have HN:=xI hN;clear hN;go_enter func60,ntmps60;go_wp2;refine nW fun W hW=>?_;have hb:bW w W:=by rw[hW];exact ((yR.alloc lR _).alloc (by simp) _).alloc (by simp;omega) _
 have h1:W.heap[w.heap.size+1]?=some (oE (some (aF w 0)) 1 1 0):=by rw[hW,Bp _ _ _ (by simp)];exact zAg _ (by simp)
 have h2:W.heap[w.heap.size+1+1]?=some (oX K lo hi ⟨tn.toArray⟩ Ak ks.length ck Af fds.length cf r0 r1):=by rw[hW];exact zAg _ (by simp)
 have hz:W.heap.size=w.heap.size+3:=by rw[hW];simp
 clear hW;refine ret2 h1 rfl rfl rfl ⟨⟨_,_,rfl,zQ6 ((HN.out.on (hb.mono hH)).sub fun b h=>.inl h) h2 (.inr ⟨by omega,by omega⟩)⟩,hb⟩
theorem zFg (w:World):Calls tP 39 #[] w (TyOut 0 w noneT):=by
 obtain⟨W,hW,hb,kW,a⟩:=aW w (oE none 0 0 0)
 have hc:Calls tP 60 #[.agg #[vI i6 1,vI i6 0,vI i6 0,vT ⟨#[]⟩,vS none 0 0,vS none 0 0,vI i6 0,vI i6 0]] W (TyOut 0 W noneT):=
  zHw 1 0 0 [] [] [] 0 0 none none 0 0 0 W (by omega) (leafT 1 0 0 [] (by show i64B 1;decide) (by show i64B 0;decide) (by show i64B 0;decide) (by unfold maxLen;decide))
 go_enter func39,ntmps39;go_wp2_with fail;rw[<-hW];clear hW;refine hc.mono ?_;rintro e w1 ⟨⟨A,c,rfl,hT⟩,hB⟩;have HT:=xI hT;clear hT;have kz:=(hB.block _ (by omega)).trans kW;have f0:=Bz kz 0;have f1:=Bz kz 1;have c0:=cH kz 0;have c1:=cH kz 1;go_wp2;exact ret2s kz rfl rfl rfl fun V hz hbb hl=>⟨⟨_,_,rfl,TyOut.put HT.out (Bt _) (by omega) (by omega) hz hbb⟩,(hb.trans (hB.mono (by omega))).trans (hl _ lR)⟩
theorem zHe {ns:List Tn}{root:Int}{A:Option Addr}{c H:Nat}(w:World) (hH:H<=w.heap.size) (hT:TyP w H ns root [vS A ns.length c,vI i6 root]) (hn:ns.length<=1000000) :
  Calls tP 79 #[.agg #[vS A ns.length c,vI i6 root]] w (TyOut H w (accT (ns,root))):=by
 obtain⟨W,hW⟩:∃ W,W=(w.alloc (oE A ns.length c root)).alloc (oE none 0 0 0):=⟨_,rfl⟩;have hb:bW w W:=by rw[hW];exact (yR.alloc lR _).alloc (by simp) _
 have a:W.heap[w.heap.size]?=some (oE A ns.length c root):=by rw[hW,Bp _ _ _ (by simp)];exact Bl w _
 have kW:W.heap[w.heap.size+1]?=some (oE none 0 0 0):=by rw[hW];exact zAg _ (by simp)
 have i:W.heap.size=w.heap.size+2:=by rw[hW];simp
 have hc:=zMc W ((hT.on (hb.mono hH)).up (by omega)) hn;have hE:=zAf a;rw[hW]at hE;obtain⟨t0,t1⟩:=hE;have HT:=xI hT;clear hT;by_cases hz:wfC ns root=0
 ·have HA:Hid (accT (ns,root)=(ns,root)):=xI (if_pos hz);rw[hz]at hc;clear hz;rw[HA.out];go_enter func79,ntmps79;go_wp2_with fail;rw[<-hW];clear hW t0 t1;refine hc.mono ?_;rintro e w1 ⟨rfl,hB⟩;have kz:=(hB.block _ (by omega)).trans kW;have d:=(hB.block _ (by omega)).trans a;have f0:=Bz kz 0;have f1:=Bz kz 1;have c0:=cH kz 0;have c1:=cH kz 1;obtain⟨t0,t1⟩:=zAf d;have g:=hB.size;go_wp2;exact ret2s kz rfl rfl rfl fun V hz hbb hl=>by
   have hV:=(hb.trans (hB.mono (by omega))).trans (hl _ (by omega));exact⟨⟨_,_,rfl,(HT.out.on (hV.mono hH)).sub fun b h=>.inl h⟩,hV⟩
 ·have HA:Hid (accT (ns,root)=noneT):=xI (if_neg hz);rw[HA.out];go_enter func79,ntmps79;go_wp2_with fail;rw[<-hW];clear hW t0 t1;refine hc.mono ?_;rintro e w1 ⟨rfl,hB⟩;clear hc;go_wp2_with (go_at_call 39;refine (zFg _).mono ?_;rintro e w2 ⟨⟨A2,c2,rfl,hT2⟩,hB2⟩;replace hT2:=xI hT2;have hq:=hB.trans (hB2.mono hB.size);have kz:=(hq.block _ (by omega)).trans kW;have f0:=Bz kz 0;have f1:=Bz kz 1;have c0:=cH kz 0;have c1:=cH kz 1);have g:=hB.size;have f:=hB2.size;exact ret2s kz rfl rfl rfl fun V hz hbb hl=>by
   have hV:=(hb.trans (hq.mono (by omega))).trans (hl _ (by omega));exact⟨⟨_,_,rfl,(TyOut.put (w:=w) hT2.out (Bt _) (by omega) (by omega) hz hbb).sub fun b h=>Bo.up (Bt _) h⟩,hV⟩
theorem zFv {ns:List Tn}{root:Int}{A:Option Addr}{c H:Nat}(w:World) (hH:H<=w.heap.size) (hT:TyP w H ns root [vS A ns.length c,vI i6 root]) (hw:WfT (ns,root)) (hn:ns.length<=1000000) :
  Calls tP 93 #[.agg #[vS A ns.length c,vI i6 root]] w fun e w'=>∃ v,e=.returned v/\OwnI w' w.heap.size v (visR ns root.toNat)/\bW w w':=by
 obtain⟨W,hW,V,kW,T⟩:=aW w (oE A ns.length c root)
 have hd:bW W W.drew:=yR.drew;have HQ:Hid (∀ wq,bW W wq->jT wq w.heap.size A ns.length c root):=xI fun U hU=>zAf ((hU.block _ (by omega)).trans kW);have HK:=xI kW;have HT:=xI (aN hH (aN hT (aN hw hn)));clear hH hT hw hn kW;go_enter func93,ntmps93;go_wp2_with fail;rw[<-hW];clear hW;refine ub 8 (fun wq=>jT wq w.heap.size A ns.length c root) (fun _=>True) ?_;refine oM 0 ⟨HQ.out _ hd,trivial⟩ ?_ (hy:=oB);refine oM 1 ⟨HQ.out _ hd,trivial⟩ ?_ (hy:=oB);refine oM 2 ⟨HQ.out _ hd,trivial⟩ ?_ (hy:=oB);refine oM 3 ⟨HQ.out _ hd,trivial⟩ ?_ (hy:=oB);refine oM 4 ⟨HQ.out _ hd,trivial⟩ ?_ (hy:=oB);refine ua [5,7] fun j hj=>?_;have Y:j=5\/j=7:=by simpa using hj
 clear hj;rcases Y with rfl|rfl
 ·obtain⟨w4,F,d,x,G⟩:=zEh W.drew ns.length HT.out.2.2.2;obtain⟨vb,E⟩:∃ vb,vb=w.heap.size+1:=⟨_,rfl⟩;have X:W.drew.heap.size=w.heap.size+1:=T;rw[X]at F d G x;rw[<-E]at F d;refine zAi rfl (by rfl) (fun K9 hK=>?_);go_simp;have t:bW w w4:=V.trans (((Bw w.heap.size W).drew).trans (x.mono (by omega)));have f:w4.heap[w.heap.size]?=some (oE A ns.length c root):=(x.block _ (by omega)).trans HK.out;refine hK _ _ ⟨⟨zAf f,fun _=>trivial⟩,oQ ?_⟩;clear hK K9;refine oM 6 ⟨zAf f,trivial⟩ ?_ (hy:=oA);obtain⟨W4,K⟩:∃ W4,W4=w4.alloc (.cells #[vS none 0 0,vS none 0 0,vS none 0 0] 167 (0,0)):=⟨_,rfl⟩;obtain⟨wb,D⟩:∃ wb,wb=w.heap.size+1+1:=⟨_,rfl⟩;have a:W4.heap[wb]?=some (.cells #[vS none 0 0,vS none 0 0,vS none 0 0] 167 (0,0)):=by rw[K,show wb=w4.heap.size by omega];exact Bl w4 _
  have y:bW w4 W4:=by rw[K];exact yR.alloc lR _
  have r:BRow W4 vb (List.replicate ns.length false):=d.on (y.block _ (by omega));have m:W4.heap[w.heap.size]?=some (oE A ns.length c root):=(y.block _ (by omega)).trans f;have M:bW w W4:=t.trans (y.mono (by omega));have J:W4.heap.size=w.heap.size+3:=by rw[K];simp;omega
  have z:wb≠vb/\wb<w.heap.size+3/\vb<w.heap.size+3/\w.heap.size<wb/\w.heap.size<vb:=by omega
  clear d f t y x;replace d:=r;clear r;refine uo 7 (fun K9 hK=>?_);go_simp;rw[<-K,<-D,<-E];refine hK _ _ ⟨zAf m,fun _=>trivial⟩ (oQ ?_);clear hK K9 K D G E F X;have f0:=Bz a 0;have f1:=Bz a 1;have f2:=Bz a 2;have c0:=cH a 0;have c1:=cH a 1;have c2:=cH a 2;refine uo 8 (fun K9 hK=>?_);go_simp;refine nW fun W8 q=>?_;have P:=Bm W4 wb 0 _ _ (vS A ns.length c) a;have O:=Bm _ wb 1 _ _ (vS (some (aD vb 0)) ns.length ns.length) P;have N:=Bm _ wb 2 _ _ (vS none 0 0) O;have k:W8.heap[wb]?=some (.cells #[vS A ns.length c,vS (some (aD vb 0)) ns.length ns.length,vS none 0 0] 167 (0,0)):=by rw[q];exact N.trans rfl
  have n:∀ b,b≠wb->W8.heap[b]?=W4.heap[b]?:=fun b hb=>by rw[q];exact (Bq _ (aD wb 2) b _ hb).trans ((Bq _ (aD wb 1) b _ hb).trans (Bq _ (aD wb 0) b _ hb))
  have R:W8.heap.size=w.heap.size+3:=by rw[q];simp;omega
  have i:BRow W8 vb (List.replicate ns.length false):=d.on (n vb (fun e=>z.1 e.symm));have l:W8.heap[w.heap.size]?=some (oE A ns.length c root):=(n _ (by omega)).trans m;have C:bW w W8:=by rw[q];exact ((M.setCell (p:=(aD wb 0)) (by show w.heap.size<=wb;omega) _).setCell (p:=(aD wb 1)) (by show w.heap.size<=wb;omega) _).setCell (p:=(aD wb 2)) (by show w.heap.size<=wb;omega) _
  clear q P O N n a d m M;refine hK _ _ ⟨zAf l,ug⟩ (oQ ?_);clear hK K9;refine (ud ?_) _;have Q:=xI (aN k (aN i (aN l (aN C z))));have Z:W8.heap.size=w.heap.size+3:=R;have e1:W8.cell? (aH w 1)=some (vI i6 root):=cH l 1;have S:=(HT.out.2.1).on (C.mono HT.out.1);obtain⟨u,hu,_,s⟩:=S;injection hu with hu _;subst hu;have L:VisW A ns.length c ns.length wb vb (w.heap.size+3) W8 (vS none 0 0) (List.replicate ns.length false,[]):=⟨k,OwnE.nil _ _ _ _ _,i⟩;have B:=HT.out.2.2.1.rt;obtain⟨rn,rfl⟩:∃ rn:Nat,root=(rn:Int):=⟨root.toNat,by simp only at B;omega⟩;have hc:=zIc ns A c ns.length H wb vb (w.heap.size+3) HT.out.2.2.1.wf.edg (by have:=HT.out.1;omega) HT.out.2.2.2 (ns.length+1) (List.replicate ns.length false,[]) rn (vS none 0 0) W8 (by show fls (List.replicate ns.length false)<_;rw[zH1];omega) (by simp) (by simp only at B;omega) (by show [].length+fls (List.replicate ns.length false)<=_;rw[zH1];simp) s (by omega) L;clear k i l C s L B;go_wp2_with (go_at_call 142;refine hc.mono ?_;rintro e w9 ⟨rfl,v9,hV9,hK9,hO9⟩;replace hK9:=xI hK9;replace hO9:=xI hO9;have g2:=cH hV9.box 2;replace hV9:=xI hV9);go_ret;have hB:=Q.out.2.2.2.1;have z:=Q.out.2.2.2.2;refine⟨v9,by first|rfl|simp,?_,hB.trans (hK9.out.below (by omega) (by omega) (fun g h=>by simp[Value.ownBlock]at h) (by omega))⟩
  exact (OwnE.mono hV9.out.own (by omega))
 ·obtain⟨w4,I⟩:∃ w4,w4=(W.alloc (.cells #[vS none 0 0,vS none 0 0,vS none 0 0] 167 (0,0))).drew:=⟨_,rfl⟩;have y:bW W w4:=by rw[I];exact (yR.alloc lR _).drew
  have G:w4.heap.size=w.heap.size+2:=by rw[I];simp;omega
  have o:w4.heap[w.heap.size+1]?=some (.cells #[vS none 0 0,vS none 0 0,vS none 0 0] 167 (0,0)):=by rw[I,<-T];exact Bl W _
  have t:bW w w4:=V.trans (y.mono (by omega));have f:w4.heap[w.heap.size]?=some (oE A ns.length c root):=(y.block _ (by omega)).trans HK.out;refine zAi rfl (by rfl) (fun K9 hK=>?_);go_simp;rw[<-I];refine hK _ _ ⟨⟨zAf f,fun _=>trivial⟩,oQ ?_⟩;clear hK K9 I y;obtain⟨W4,F,d,x,J⟩:=zEh w4 ns.length HT.out.2.2.2;obtain⟨vb,E⟩:∃ vb,vb=w4.heap.size:=⟨_,rfl⟩;obtain⟨wb,D⟩:∃ wb,wb=w.heap.size+1:=⟨_,rfl⟩;rw[<-E]at F d;rw[<-D]at o;have a:W4.heap[wb]?=some (.cells #[vS none 0 0,vS none 0 0,vS none 0 0] 167 (0,0)):=(x.block _ (by omega)).trans o;have m:W4.heap[w.heap.size]?=some (oE A ns.length c root):=(x.block _ (by omega)).trans f;have M:bW w W4:=t.trans (x.mono (by omega));have z:wb≠vb/\wb<w.heap.size+3/\vb<w.heap.size+3/\w.heap.size<wb/\w.heap.size<vb:=by omega
  rw[G]at J;clear E G;refine uo 5 (fun K9 hK=>?_);go_simp;refine hK _ _ ⟨zAf m,fun _=>trivial⟩ (oQ ?_);clear hK K9;rw[<-D];clear D F o f t x;refine oM 6 ⟨zAf m,trivial⟩ ?_ (hy:=oA);have f0:=Bz a 0;have f1:=Bz a 1;have f2:=Bz a 2;have c0:=cH a 0;have c1:=cH a 1;have c2:=cH a 2;refine uo 8 (fun K9 hK=>?_);go_simp;refine nW fun W8 q=>?_;have P:=Bm W4 wb 0 _ _ (vS A ns.length c) a;have O:=Bm _ wb 1 _ _ (vS (some (aD vb 0)) ns.length ns.length) P;have N:=Bm _ wb 2 _ _ (vS none 0 0) O;have k:W8.heap[wb]?=some (.cells #[vS A ns.length c,vS (some (aD vb 0)) ns.length ns.length,vS none 0 0] 167 (0,0)):=by rw[q];exact N.trans rfl
  have n:∀ b,b≠wb->W8.heap[b]?=W4.heap[b]?:=fun b hb=>by rw[q];exact (Bq _ (aD wb 2) b _ hb).trans ((Bq _ (aD wb 1) b _ hb).trans (Bq _ (aD wb 0) b _ hb))
  have R:W8.heap.size=w.heap.size+3:=by rw[q];simp;omega
  have i:BRow W8 vb (List.replicate ns.length false):=d.on (n vb (fun e=>z.1 e.symm));have l:W8.heap[w.heap.size]?=some (oE A ns.length c root):=(n _ (by omega)).trans m;have C:bW w W8:=by rw[q];exact ((M.setCell (p:=(aD wb 0)) (by show w.heap.size<=wb;omega) _).setCell (p:=(aD wb 1)) (by show w.heap.size<=wb;omega) _).setCell (p:=(aD wb 2)) (by show w.heap.size<=wb;omega) _
  clear q P O N n a d m M;refine hK _ _ ⟨zAf l,ug⟩ (oQ ?_);clear hK K9;refine (ud ?_) _;have Q:=xI (aN k (aN i (aN l (aN C z))));have Z:W8.heap.size=w.heap.size+3:=R;have e1:W8.cell? (aH w 1)=some (vI i6 root):=cH l 1;have S:=(HT.out.2.1).on (C.mono HT.out.1);obtain⟨u,hu,_,s⟩:=S;injection hu with hu _;subst hu;have L:VisW A ns.length c ns.length wb vb (w.heap.size+3) W8 (vS none 0 0) (List.replicate ns.length false,[]):=⟨k,OwnE.nil _ _ _ _ _,i⟩;have B:=HT.out.2.2.1.rt;obtain⟨rn,rfl⟩:∃ rn:Nat,root=(rn:Int):=⟨root.toNat,by simp only at B;omega⟩;have hc:=zIc ns A c ns.length H wb vb (w.heap.size+3) HT.out.2.2.1.wf.edg (by have:=HT.out.1;omega) HT.out.2.2.2 (ns.length+1) (List.replicate ns.length false,[]) rn (vS none 0 0) W8 (by show fls (List.replicate ns.length false)<_;rw[zH1];omega) (by simp) (by simp only at B;omega) (by show [].length+fls (List.replicate ns.length false)<=_;rw[zH1];simp) s (by omega) L;clear k i l C s L B;go_wp2_with (go_at_call 142;refine hc.mono ?_;rintro e w9 ⟨rfl,v9,hV9,hK9,hO9⟩;replace hK9:=xI hK9;replace hO9:=xI hO9;have g2:=cH hV9.box 2;replace hV9:=xI hV9);go_ret;have hB:=Q.out.2.2.2.1;have z:=Q.out.2.2.2.2;refine⟨v9,by first|rfl|simp,?_,hB.trans (hK9.out.below (by omega) (by omega) (fun g h=>by simp[Value.ownBlock]at h) (by omega))⟩
  exact (OwnE.mono hV9.out.own (by omega))
theorem zLe (k:Nat) (v:Int) (b g n c:Nat) (w:World) (hk:k<n) (hb:w.cell? (aD b 0)=some (vS (some (aD g 0)) n c)) (hv:w.cell? (aD g k)=some (vI i6 v)):Calls tP 112 #[vI i6 k,.pointer (some (aD b 0))] w fun e w'=>e=.returned (vI i6 v)/\w=w':=by
 have u1:(0:Int)<=(k:Int):=by omega
 have u2:(k:Int)<(n:Int):=by omega
 go_enter func112,ntmps112;go_wp2;go_ret;exact⟨by first|rfl|simp,rfl⟩
theorem zDh (A:Option Addr) (n c b:Nat) (r:Int) (w:World) (hb:w.cell? (aD b 0)=some (vS A n c)):Calls tP 66 #[.pointer (some (aD b 0)),vI i6 r] w fun e w'=>e=.returned (.agg #[vS A n c,vI i6 r])/\bW w w':=by
 have d:(w.alloc (oE none 0 0 0)).cell? (aD b 0)=some (vS A n c):=by
  have a:b<w.heap.size:=by
   rcases Nat.lt_or_ge b w.heap.size with h|h
   ·exact h
   ·simp[World.cell?,Array.getElem?_eq_none h]at hb
  exact (((Bw w.heap.size w).alloc lR _).cell (p:=(aD b 0)) a).trans hb
 go_enter func66,ntmps66;go_wp2;refine ret2 (Bl w _) rfl rfl rfl ⟨rfl,yR.alloc lR _⟩
def JRow (w:World) (g:Nat) (s:List Int):Prop:=w.heap[g]?=some (.cells (s.map (vI i6)).toArray 3 (0,0))
theorem JRow.cell {w:World}{g k:Nat}{s:List Int}{x:Int}(h:JRow w g s) (hk:s[k]?=some x):w.cell? (aD g k)=some (vI i6 x):=by
 refine (Bv h k).trans ?_;simp[hk]
theorem JRow.has {w:World}{g k:Nat}{s:List Int}(h:JRow w g s) (hk:k<s.length):∃ x,w.cell? (aD g k)=some (vI i6 x):=⟨_,h.cell (By hk)⟩
theorem JRow.froz {w:World}{g:Nat}{s:List Int}(h:JRow w g s) (k:Nat):w.frozen? (aD g k)=false:=Bz h k
theorem JRow.set {w:World}{g:Nat}{s:List Int}(h:JRow w g s) (k:Nat) (b:Int):JRow (w.setCell ⟨g,k,none⟩ (vI i6 b)) g (s.set k b):=by
 have h1:=Bm w g k _ _ (vI i6 b) h;unfold JRow;rw[h1];congr 2;apply Array.ext';simp[List.map_set]
theorem JRow.on {w w':World}{g:Nat}{s:List Int}(h:JRow w g s) (hb:w'.heap[g]?=w.heap[g]?):JRow w' g s:=hb.trans h
theorem JRow.lt {w:World}{g:Nat}{s:List Int}(h:JRow w g s):g<w.heap.size:=(Cv.1 h).1
theorem zDm (w:World) (n:Nat) (hn:n<=1000000):∃ W,(Instr.makeSlice 25 (vI i6 n) (vI i6 n)).run tP w=.ok (vS (some (aD w.heap.size 0)) n n) W/\JRow W w.heap.size (List.replicate n 0)/\Below w.heap.size w W/\W.heap.size=w.heap.size+1:=by
 obtain⟨i0,hi,d,b,c⟩:=Cp namI.inf;have a:=run_makeSlice (P:=tP) w 25 3 i0 (vI i6 0) namI.und hi d .i64 .i64 n n (by omega) (Int.le_refl _) (by rw[b];omega) (by rw[c];omega) (by omega);rw[b]at a;simp only[Cb,Nat.mul_one]at a;refine⟨_,a,?_,yR.alloc lR _,by simp⟩;refine (Bl w _).trans ?_;rw[show (vI i6 0).cells=#[vI i6 0]from rfl,made1];simp
theorem TyB.at8B {w:World}{B:Nat->Prop}{ns:List Tn}{u:Value}{j:Nat}{x:Tn}(h:RowB w B 8 u ns.length (tnR w B ns)) (hx:ns[j]?=some x) :
  ∃ b off cap Ak ck Af cf,u=vS (some (aD b off)) ns.length cap/\TnB w B x [vI i6 x.kind,vI i6 x.lo,vI i6 x.hi,vT ⟨x.text.toArray⟩,vS Ak x.kids.length ck,vS Af x.fds.length cf,vI i6 x.r0,vI i6 x.r1] /\
   w.cell? (aD b (off+j*8))=some (vI i6 x.kind)/\w.cell? (aD b (off+j*8+1))=some (vI i6 x.lo)/\w.cell? (aD b (off+j*8+2))=some (vI i6 x.hi)/\w.cell? (aD b (off+j*8+3))=some (vT ⟨x.text.toArray⟩) /\
   w.cell? (aD b (off+j*8+4))=some (vS Ak x.kids.length ck)/\w.cell? (aD b (off+j*8+5))=some (vS Af x.fds.length cf)/\w.cell? (aD b (off+j*8+6))=some (vI i6 x.r0)/\w.cell? (aD b (off+j*8+7))=some (vI i6 x.r1):=by
 have hj:=(Bx.1 hx).1;obtain⟨A,cap,h1,_,h3⟩:=h;obtain⟨b,off,rfl,h5,_,h7⟩:=h3 (by omega);obtain⟨cs,h8,h9,y,hy,uk,uf,rfl,hw,hk,hf⟩:=h7 j hj;rw[hx]at hy;injection hy with hy;subst hy;obtain⟨Ak,ck,rfl,a⟩:=hk.form;obtain⟨Af,cf,rfl,c⟩:=hf.form;exact⟨b,off,cap,Ak,ck,Af,cf,h1,⟨_,_,rfl,hw,hk,hf⟩,h9 0 (by omega),h9 1 (by omega),h9 2 (by omega),h9 3 (by omega),h9 4 (by omega),h9 5 (by omega),h9 6 (by omega),h9 7 (by omega)⟩
theorem zLa (A:Option Addr) (len cap first:Nat) (hA:A=none->len=0) (hf:first<=len) (hc:len<=cap) (h0:∀ a,A=some a->∃ g,a=(aD g 0)):∃ A' c',(∀ V,(Instr.slice 22 (vS A len cap) (some (vI i6 (first:Int))) none none).run tP V=.ok (vS A' (len-first) c') V)/\(first<len->∃ g,A=some (aD g 0)/\A'=some (aD g (first*8))):=by
 have c:tP.underlying 22=some (.slice (tP.elem 22)):=by kernel_rfl
 have he:tP.elem 22=40:=by kernel_rfl
 have d:∀ V,(Go.sizeOf 40).run tP V=.ok 8 V:=fun V=>by kernel_rfl
 have b:=fun V=>run_slice_l V 22 A len cap c .i64 (first:Int) (by omega) (by omega)
 simp only[he,d,Result.andThen,sliced,Cb]at b;refine⟨_,_,b,fun hlt=>?_⟩;cases A with
 | none=>have:=hA rfl;omega
 | some a=>
  obtain⟨g,rfl⟩:=h0 a rfl;refine⟨g,rfl,?_⟩;rw[if_neg (by omega)];by_cases h:first=0
  ·subst h;simp[Addr.add]
  ·simp[Addr.add];omega
theorem zM1 {ns:List Tn}{f:List UInt8->Option Int}{order:List Int}{first:Nat}{n:Int}(hf:∀ s p,f s=some p->0<=p/\p<first):0<=plc ns f order first n/\plc ns f order first n<=first+order.length:=by
 unfold plc;cases hs:sub1 f (nd ns n)with
 | some p=>
  unfold sub1 at hs;split at hs
  ·have:=hf _ _ hs;simp only;omega
  ·cases hs
 | none=>
  have h1:=List.idxOf_le_length (a:=n) (l:=keptL ns f order);have h2:=zEj ns f order;simp only;omega
theorem zL6 {ns:List Tn}{root:Int}(hn:ns.length<=1000000) (hks:∀ x∈ns,x.kids.length<=1048576/\x.fds.length<=1048576):(accT (ns,root)).1.length<=1000000/\∀ x∈(accT (ns,root)).1,x.kids.length<=1048576/\x.fds.length<=1048576:=by
 unfold accT;split
 ·exact⟨hn,hks⟩
 ·refine⟨by simp[noneT],fun x hx=>?_⟩;simp[noneT]at hx;subst hx;exact⟨by simp,by simp⟩
abbrev GD (H Z bb:Nat) (v:Value) (w:World):Nat->Prop:=fun b=>b<w.heap.size/\b≠bb/\v.ownBlock≠some b/\(b<H\/Z<=b)
structure L1S (bb pg base:Nat) (o:Option Nat) (D D2:Nat->Prop) (ys:List Tn) (U wr:World) (vj:Value) (cj:List (List Value)) (xs:List Tn) (ps:List Int):Prop where
 box:wr.heap[bb]?=some (.cells #[vj] 101 (0,0))
 own:OwnQ wr base vj cj
 nds:NdsB wr D cj xs
 pre:NdsB wr D2 (cj.take ys.length) ys
 row:JRow wr pg ps
 vk:VK bb pg o U wr
 ob:∀ g,vj.ownBlock=some g->o=some g\/U.heap.size<=g
structure LNum (bb pg base:Nat) (o:Option Nat) (D D2:Nat->Prop) (U:World):Prop where
 bl:bb<U.heap.size
 pl:pg<U.heap.size
 bp:bb≠pg
 bo:o≠some bb
 po:o≠some pg
 dd:∀ b,D b->b<U.heap.size/\b≠bb/\b≠pg/\o≠some b
 d2:∀ b,D2 b->D b
section
variable {bb pg base:Nat}{o:Option Nat}{D D2:Nat->Prop}{ys:List Tn}{U wr:World}{vj:Value}{cj:List (List Value)}{xs:List Tn}{ps:List Int}
theorem L1S.below (h:L1S bb pg base o D D2 ys U wr vj cj xs ps) (hn:LNum bb pg base o D D2 U){X:World}(hb:bW wr X):L1S bb pg base o D D2 ys U X vj cj xs ps:=by
 have hz:=h.vk.low.size;have h1:=hn.bl;have h2:=hn.pl;exact⟨(hb.block bb (by omega)).trans h.box,OwnE.stay zBs h.own fun g _ hl=>hb.block g hl,h.nds.keep (Same.of_below hb fun b hd=>by have:=(hn.dd b hd).1;omega),h.pre.keep (Same.of_below hb fun b hd=>by have:=(hn.dd b (hn.d2 b hd)).1;omega),h.row.on (hb.block pg (by omega)),
  ⟨h.vk.low.trans (hb.mono (Bt _)),fun b hb' h1 h2 h3=>(hb.block b (by omega)).trans (h.vk.blk b hb' h1 h2 h3)⟩,h.ob⟩
theorem L1S.ne (h:L1S bb pg base o D D2 ys U wr vj cj xs ps) (hn:LNum bb pg base o D D2 U):vj.ownBlock≠some pg/\vj.ownBlock≠some bb/\∀ b,D b->vj.ownBlock≠some b:=by
 refine⟨fun e=>?_,fun e=>?_,fun b hd e=>?_⟩
 ·rcases h.ob _ e with h1|h1
  ·exact hn.po h1
  ·have:=hn.pl;omega
 ·rcases h.ob _ e with h1|h1
  ·exact hn.bo h1
  ·have:=hn.bl;omega
 ·rcases h.ob _ e with h1|h1
  ·exact (hn.dd b hd).2.2.2 h1
  ·have:=(hn.dd b hd).1;omega
theorem L1S.put (h:L1S bb pg base o D D2 ys U wr vj cj xs ps) (hn:LNum bb pg base o D D2 U){X:World}{ps':List Int}(hb:Below 0 wr X) (ho:∀ b,b≠pg->X.heap[b]?=wr.heap[b]?) (hr:JRow X pg ps'):L1S bb pg base o D D2 ys U X vj cj xs ps':=
 ⟨(ho bb hn.bp).trans h.box,OwnE.stay zBs h.own fun g hg _=>ho g fun e=>(h.ne hn).1 (by rw[hg,e]),h.nds.keep ⟨hb.size,fun b i hd _=>Bi (ho b (hn.dd b hd).2.2.1)⟩,h.pre.keep ⟨hb.size,fun b i hd _=>Bi (ho b (hn.dd b (hn.d2 b hd)).2.2.1)⟩,hr,
  ⟨h.vk.low.trans hb,fun b hb' h1 h2 h3=>(ho b h2).trans (h.vk.blk b hb' h1 h2 h3)⟩,h.ob⟩
theorem L1S.push (h:L1S bb pg base o D D2 ys U wr vj cj xs ps) (hn:LNum bb pg base o D D2 U){w4 Y:World}{v':Value}{x:Tn}{cs:List Value}(hx:TnB wr D x cs) (ho4:OwnQ w4 base v' (cj++[cs])) (hb4:Below base wr w4) (hk4:∀ b,b<wr.heap.size->some b≠vj.ownBlock->w4.heap[b]?=wr.heap[b]?) (hg4:∀ g,v'.ownBlock=some g->vj.ownBlock=some g\/wr.heap.size<=g)
  (hY:Y=w4.setCell ⟨bb,0,none⟩ v'):L1S bb pg base o D D2 ys U Y v' (cj++[cs]) (xs++[x]) ps:=by
 have hz:=h.vk.low.size;have h1:=hn.bl;have h2:=hn.pl;have k:=hb4.size;have a:=h.ne hn;have f:∀ b,b≠bb->Y.heap[b]?=w4.heap[b]?:=fun b hb=>by rw[hY];exact Bq _ (aD bb 0) b _ hb
 have l:Y.heap.size=w4.heap.size:=by rw[hY];simp
 have c:∀ b,b<wr.heap.size->b≠bb->vj.ownBlock≠some b->Y.heap[b]?=wr.heap[b]?:=fun b hl hb hv=>(f b hb).trans (hk4 b hl fun e=>hv e.symm);have d:=(hk4 bb (by omega) fun e=>a.2.1 e.symm).trans h.box;refine⟨?_,OwnE.stay zBs ho4 fun g hg _=>f g (fun e=>by
  rcases hg4 g hg with h3|h3
  ·exact a.2.1 (by rw[h3,e])
  ·omega),(h.nds.snoc hx).keep ⟨by omega,fun b i hd _=>Bi ?_⟩,?_,h.row.on (c pg (by omega) (fun e=>hn.bp e.symm) a.1),⟨?_,fun b hb' q1 q2 q3=>?_⟩,fun g hg=>?_⟩
 ·rw[hY];exact (Bm w4 bb 0 _ _ _ d).trans rfl
 ·exact c b (by have:=(hn.dd b hd).1;omega) (hn.dd b hd).2.1 (a.2.2 b hd)
 ·have j:ys.length<=cj.length:=by have h9:=h.pre.1;rw[Bg]at h9;omega
  rw[Fk j];exact h.pre.keep ⟨by omega,fun b i hd _=>Bi (c b (by have:=(hn.dd b (hn.d2 b hd)).1;omega) (hn.dd b (hn.d2 b hd)).2.1 (a.2.2 b (hn.d2 b hd)))⟩
 ·rw[hY];exact (h.vk.low.trans (hb4.mono (Bt _))).setCell (p:=(aD bb 0)) (Bt _) _
 ·refine (c b (by omega) q1 fun e=>?_).trans (h.vk.blk b hb' q1 q2 q3);rcases h.ob b e with h3|h3
  ·exact q3 h3
  ·omega
 ·rcases hg4 g hg with h3|h3
  ·exact h.ob g h3
  ·exact .inr (by omega)
end
theorem OwnE.formA {α:Type}{K:ElK α}{e:TypeId}{c:Nat}{w:World}{base n cap:Nat}{A:Option Addr}{l:List α}(h:OwnE K e c w base (vS A n cap) l):n<=cap/\(A=none->n=0)/\∀ a,A=some a->∃ g,a=(aD g 0):=by
 obtain⟨xs,⟨_,h2⟩,_⟩:=h;rcases h2 with⟨h2,_⟩|⟨g,d,f,h2,_,_,h3,_⟩
 ·injection h2 with a b c;subst a b c;exact⟨Bc _,fun _=>rfl,fun a h=>(by cases h)⟩
 ·injection h2 with a b c;subst a b c;exact⟨h3,fun h=>(by cases h),fun a h=>(by injection h with h;exact⟨g,h.symm⟩)⟩
theorem zHm {α:Type}:∀ (l:List α) (i:Nat) (a:α),i<l.length->(l.set i a).take (i+1)=l.take i++[a]
 | [],_,_,h=>by simp at h
 | x::l,0,a,_=>by simp
 | x::l,i+1,a,h=>by
  rw[Df,List.take_succ_cons,List.take_succ_cons,zHm l i a (by simpa using h)];rfl
theorem zN3 {w:World}:bW w w.drew:=yR.drew
def NRow (w:World) (g n:Nat) (css:List (List Value)):Prop:=∃ arr:Array Value,w.heap[g]?=some (.cells arr 40 (0,0))/\arr.size=n*8/\∀ j cs,css[j]?=some cs->cs.length=8/\∀ i,i<8->arr[j*8+i]?=cs[i]?
theorem NRow.on {w w':World}{g n:Nat}{css:List (List Value)}(h:NRow w g n css) (hb:w'.heap[g]?=w.heap[g]?):NRow w' g n css:=by
 obtain⟨a,h1,h2⟩:=h;exact⟨a,hb.trans h1,h2⟩
theorem NRow.lt {w:World}{g n:Nat}{css:List (List Value)}(h:NRow w g n css):g<w.heap.size:=by
 obtain⟨a,h1,_⟩:=h;exact (Cv.1 h1).1
theorem NRow.cell {w:World}{g n:Nat}{css:List (List Value)}(h:NRow w g n css){k:Nat}(hk:k<n*8):∃ v,w.cell? (aD g k)=some v:=by
 obtain⟨a,h1,h2,_⟩:=h;exact⟨a[k],(Bv h1 k).trans (Fr (by omega))⟩
theorem NRow.froz {w:World}{g n:Nat}{css:List (List Value)}(h:NRow w g n css) (k:Nat):w.frozen? (aD g k)=false:=by
 obtain⟨a,h1,_⟩:=h;exact Bz h1 k
theorem NRow.put {w:World}{g n j:Nat}{css:List (List Value)}(h:NRow w g n css) (hj:css.length=j) (hn:j<n) (v0 v1 v2 v3 v4 v5 v6 v7:Value) (V:World) (hV:V=((((((((w.setCell ⟨g,j*8,none⟩ v0).setCell ⟨g,j*8+1,none⟩ v1).setCell ⟨g,j*8+2,none⟩ v2).setCell ⟨g,j*8+3,none⟩ v3).setCell ⟨g,j*8+4,none⟩ v4).setCell ⟨g,j*8+5,none⟩ v5).setCell ⟨g,j*8+6,none⟩ v6).setCell ⟨g,j*8+7,none⟩ v7)) :
  NRow V g n (css++[[v0,v1,v2,v3,v4,v5,v6,v7]])/\V.heap.size=w.heap.size/\(∀ b,b≠g->V.heap[b]?=w.heap[b]?)/\∀ H,H<=g->Below H w V:=by
 subst hV;obtain⟨c,h1,h2,h3⟩:=h;have e0:=Bm w g (j*8) _ _ v0 h1;have e1:=Bm _ g (j*8+1) _ _ v1 e0;have e2:=Bm _ g (j*8+2) _ _ v2 e1;have e3:=Bm _ g (j*8+3) _ _ v3 e2;have e4:=Bm _ g (j*8+4) _ _ v4 e3;have e5:=Bm _ g (j*8+5) _ _ v5 e4;have e6:=Bm _ g (j*8+6) _ _ v6 e5;have e7:=Bm _ g (j*8+7) _ _ v7 e6;refine⟨⟨_,e7,by simpa using h2,fun m cs hm=>?_⟩,by simp,fun b hb=>?_,fun H hH=>(((((((((Bw H w).setCell (p:=(aD g _)) hH _).setCell (p:=(aD g _)) hH _).setCell (p:=(aD g _)) hH _).setCell (p:=(aD g _)) hH _).setCell (p:=(aD g _)) hH _).setCell (p:=(aD g _)) hH _).setCell (p:=(aD g _)) hH _).setCell (p:=(aD g _)) hH _)⟩
 ·by_cases hmj:m<j
  ·rw[Dt (by omega)]at hm;obtain⟨h4,h5⟩:=h3 m cs hm;refine⟨h4,fun i hi=>?_⟩;rw[<-h5 i hi];simp only[Array.getElem?_setIfInBounds];rw[if_neg (by omega),if_neg (by omega),if_neg (by omega),if_neg (by omega),if_neg (by omega),if_neg (by omega),if_neg (by omega),if_neg (by omega)]
  ·rw[Dw (by omega)]at hm;have a:m=j:=by have:=(Bx.1 hm).1;simp at this;omega
   subst a;rw[hj,Nat.sub_self]at hm;injection hm with hm;subst hm;refine⟨rfl,fun i hi=>?_⟩;have:i=0\/i=1\/i=2\/i=3\/i=4\/i=5\/i=6\/i=7:=by omega
   rcases this with rfl|rfl|rfl|rfl|rfl|rfl|rfl|rfl<;>simp[Array.getElem?_setIfInBounds]<;>omega
 ·iterate 8 rw[Bq _ _ _ _ hb]
end Go.Proofs.YteedihhdcbepmaaGreat
