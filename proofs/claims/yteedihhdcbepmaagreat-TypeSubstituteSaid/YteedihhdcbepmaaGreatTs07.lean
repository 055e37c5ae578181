/- What List of the document returns. -/
import Derived.Test.YteedihhdcbepmaaGreatTsZ
import Derived.Test.YteedihhdcbepmaaGreatTs06
set_option maxRecDepth 100000
set_option maxHeartbeats 3200000
set_option linter.all false
open Go.Value renaming slice→vS,int→vI,string→vT
open Go.IntKind renaming i64→i6
open Go.Proofs.Tryz
open Go.Proofs.Tryz renaming prog→tP
namespace Go.Proofs.YteedihhdcbepmaaGreat
open Go Go.RowKit
theorem zIr (k:Nat) (B:Nat->Prop) (u v:Vl) (ca cb:List Value) (w:World) (hB:∀ b,B b->b<w.heap.size) (ha:VB k w B u ca) (hb:VB k w B v cb) :
  Calls tP 16 #[.agg ca.toArray,.agg cb.toArray] w fun e w'=>∃ cs,e=.returned (.agg cs.toArray)/\VB (k+1) w' (fun b=>B b\/Btw w.heap.size w'.heap.size b) (consV u v) cs/\bW w w':=by
 obtain⟨a,i,s,B1,n1,d1,B2,n2,d2,B3,n3,d3,B4,n4,d4,rfl⟩:=ha.form7;obtain⟨a',i',s',z,l,r,y,g,p,x,f,o,t,d,n,rfl⟩:=hb.form7;go_enter func16,ntmps16;go_wp2;refine nW fun V hV=>?_;have A:bW w V:=by rw[hV];exact (((yR.alloc lR _).alloc (by simp) _).alloc (by simp;omega) _).alloc (by simp;omega) _
 have hz:V.heap.size=w.heap.size+4:=by rw[hV];simp
 have k4:V.heap[w.heap.size+3]?=some (.cells #[vI i6 a,vI i6 i,vT s,vS B1 n1 d1,vS B2 n2 d2,vS B3 n3 d3,vS B4 n4 d4,vI i6 a',vI i6 i',vT s',vS z l r,vS y g p,vS x f o,vS t d n] 33 (0,0)):=by rw[hV];exact zAg _ (by simp)
 have k3:V.heap[w.heap.size+2]?=some (oV 7 0 ⟨#[]⟩ (some (aD (w.heap.size+1+1+1) 0)) 2 2 none 0 0 none 0 0 none 0 0):=by rw[hV,Bp _ _ _ (by simp)];exact zAg _ (by simp)
 obtain⟨e0,e1,e2,e3,e4,e5,e6⟩:=zAc k3;clear hV;refine Cw (v:=.agg #[vI i6 7,vI i6 0,vT ⟨#[]⟩,vS (some (aD (w.heap.size+1+1+1) 0)) 2 2,vS none 0 0,vS none 0 0,vS none 0 0]) (by simp[results,results16,go_sem,e0,e1,e2,e3,e4,e5,e6]) rfl ?_;have hs:Same B w V:=.of_below A hB;have m:∀ b,B b->B b\/Btw w.heap.size V.heap.size b:=fun b h=>.inl h;refine⟨_,rfl,⟨_,_,_,_,rfl,by decide,by decide,Bt _,⟨_,_,rfl,by unfold maxLen;simp,fun _=>⟨w.heap.size+3,0,rfl,.inr ⟨by omega,by omega⟩,by omega,fun j hj=>?_⟩⟩,zBv _ _ _ _,zBv _ _ _ _,zBv _ _ _ _⟩,A⟩;have c:∀ q,V.cell? (aD (w.heap.size+3) q)=(#[vI i6 a,vI i6 i,vT s,vS B1 n1 d1,vS B2 n2 d2,vS B3 n3 d3,vS B4 n4 d4,vI i6 a',vI i6 i',vT s',vS z l r,vS y g p,vS x f o,vS t d n]:Array Value)[q]?:=fun q=>Bv k4 q
 match j,hj with
 | 0,_=>
  refine⟨[vI i6 a,vI i6 i,vT s,vS B1 n1 d1,vS B2 n2 d2,vS B3 n3 d3,vS B4 n4 d4],rfl,fun q hq=>?_,u,rfl,VB.sub m lR (VB.keep hs ha)⟩;rw[show 0+0*7+q=q by omega,c]
  match q,hq with
  | 0,_=>rfl
  | 1,_=>rfl
  | 2,_=>rfl
  | 3,_=>rfl
  | 4,_=>rfl
  | 5,_=>rfl
  | 6,_=>rfl
 | 1,_=>
  refine⟨[vI i6 a',vI i6 i',vT s',vS z l r,vS y g p,vS x f o,vS t d n],rfl,fun q hq=>?_,v,rfl,VB.sub m lR (VB.keep hs hb)⟩;rw[show 0+1*7+q=7+q by omega,c]
  match q,hq with
  | 0,_=>rfl
  | 1,_=>rfl
  | 2,_=>rfl
  | 3,_=>rfl
  | 4,_=>rfl
  | 5,_=>rfl
  | 6,_=>rfl
theorem zLk {l:List Vl}{j:Nat}{x:Vl}(h:l[j]?=some x):listV (l.drop j)=consV x (listV (l.drop (j+1))):=by
 have hj:=(Bx.1 h).1;rw[List.drop_eq_getElem_cons hj];have:l[j]=x:=(Bx.1 h).2;rw[this];rfl
theorem zFu (k lo:Nat) (A:Option Addr) (c:Nat) (l:List Vl) (w:World) (hlo:lo<=w.heap.size) (hl:RowV k lo w (vS A l.length c) l) (hn:l.length<=1000000) :
  Calls tP 17 #[vS A l.length c] w fun e w'=>∃ cs,e=.returned (.agg cs.toArray)/\VB (k+l.length+1) w' (Btw lo w'.heap.size) (listV l) cs/\bW w w':=by
 have HL:=xI hl;obtain⟨W0,U,T,k0,az⟩:=aW w oG
 have hc:=zBj W0;clear hl;generalize hLN:l.length=N at *;have HN:=xI hLN;clear hLN;have aB:IntKind.i64.wrap ((N:Int)-1)=(N:Int)-1:=Br _ (by omega);go_enter func17,ntmps17;go_wp2_with fail;rw[<-U];clear U;refine hc.mono ?_;rintro e w1 ⟨rfl,hb1⟩;clear hc;have ay:=hb1.size;have k1:w1.heap[w.heap.size]?=some oG:=(hb1.block _ (by omega)).trans k0;have O:bW w w1:=T.trans (hb1.mono (by omega));clear T hb1 k0;obtain⟨W,hW,P,kW,ax⟩:=aW w1 (oV 5 0 ⟨#[]⟩ none 0 0 none 0 0 none 0 0 none 0 0)
 have kr:W.heap[w.heap.size]?=some oG:=(P.block _ (by omega)).trans k1;have M:bW w W:=O.trans (P.mono O.size);clear k1 O P;go_wp2_with fail;rw[<-hW];clear hW
 go_loopw [4] (fun i wr=>∃ (j:Nat) (cs:List Value),i=vI i6 ((j:Int)-1)/\j<=N/\wr.heap[w1.heap.size]?=some (.cells cs.toArray 33 (0,0))/\VB (k+(N-j)+1) wr (fun b=>Btw lo wr.heap.size b/\b≠w.heap.size/\b≠w1.heap.size) (listV (l.drop j)) cs/\wr.heap[w.heap.size]?=some oG/\bW w wr/\w1.heap.size<wr.heap.size) (fun i _=>(intOf i+1).toNat)
 case atStart=>
  refine⟨N,_,rfl,Bc _,kW,?_,kr,M,by omega⟩;rw[Fy (by have:=HN.out;omega)];exact nilVB _ _ _
 case round=>
  obtain⟨j,cs,rfl,hj,d,C,n,hb,af⟩:=hrel;obtain⟨a,i,s,B1,n1,d1,B2,n2,d2,B3,n3,d3,B4,n4,d4,rfl⟩:=C.form7;by_cases hj0:j=0
  ·subst hj0;have Q:=n;obtain⟨e0,e1,e2,e3,e4,e5,e6⟩:=zAc n;obtain⟨z0,z1,z2,z3,z4,z5,z6⟩:=zAd n;obtain⟨g0,g1,g2,g3,g4,g5,g6⟩:=zAc d;have HA:=xI (aN C (aN hb Q));clear C hb Q d n;go_wp2;refine nW fun V hV=>?_;have F:V.heap[w.heap.size]?=some (oV a i s B1 n1 d1 B2 n2 d2 B3 n3 d3 B4 n4 d4):=by rw[hV];exact obj7 HA.out.2.2 (vI i6 a) (vI i6 i) (vT s) (vS B1 n1 d1) (vS B2 n2 d2) (vS B3 n3 d3) (vS B4 n4 d4)
   have G:bW w V:=by rw[hV];exact Bu (Bu (Bu (Bu (Bu (Bu (Bu (HA.out.2.1) (p:=(aH w 0)) lR _) (p:=(aH w 1)) lR _) (p:=(aH w 2)) lR _) (p:=(aH w 3)) lR _) (p:=(aH w 4)) lR _) (p:=(aH w 5)) lR _) (p:=(aH w 6)) lR _
   have I:V.heap.size=wr.heap.size:=by rw[hV];simp
   have r:∀ B:Nat->Prop,¬ B w.heap.size->Same B wr V:=fun B h=>by rw[hV];exact zAa (zAa (zAa (zAa (zAa (zAa (zAa (Same.refl _ _) h) h) h) h) h) h) h
   clear hV e0 z0 e1 z1 e2 z2 e3 z3 e4 z4 e5 z5 e6 z6 g0 g1 g2 g3 g4 g5 g6;obtain⟨ae,ad,ab,aa,Z,Y,X⟩:=zAc F;refine Cw (v:=.agg #[vI i6 a,vI i6 i,vT s,vS B1 n1 d1,vS B2 n2 d2,vS B3 n3 d3,vS B4 n4 d4]) (by simp[results,results17,go_sem,ae,ad,ab,aa,Z,Y,X]) rfl ?_;exact⟨_,rfl,VB.sub (fun b hb=>⟨hb.1.1,by have:=hb.1.2;omega⟩) (by omega) (VB.keep (r _ (fun h=>h.2.1 rfl)) HA.out.1),G⟩
  ·obtain⟨q,rfl⟩:∃ q,j=q+1:=⟨j-1,by omega⟩;obtain⟨b,m,ao,x0,x1,x2,x3,x4,x5,x6,hu,z,⟨x,hx,hv⟩,c0,c1,c2,c3,c4,c5,c6⟩:=RowB.at7 (H:=w.heap.size) (j:=q) (RowB.sub HL.out (fun _ h=>h.2) (fun _ _ h=>h)) (by have:=HN.out;omega);injection hu with hA hNN hcc;subst hA;clear hNN hcc;have hi:((q+1:Nat):Int)-1=(q:Int):=by omega
   rw[hi];have aC:wr.drew.heap.size=wr.heap.size:=rfl;have L:=hb.size;have u:=zIr (k+(N-(q+1))+1) (fun b=>Btw lo wr.heap.size b/\b≠w.heap.size/\b≠w1.heap.size) x (listV (l.drop (q+1))) _ _ wr.drew (fun b h=>h.1.2)
    (VB.sub (fun b h=>⟨⟨h.1,by have:=h.2;omega⟩,by have:=h.2;omega,by have:=h.2;omega⟩) (by omega) (VB.keep (Same.of_below hb.drew (B:=Btw lo w.heap.size) fun _ h=>h.2) hv)) (VB.keep (Same.of_below ((Bw wr.heap.size wr).drew) fun _ h=>h.1.2) C)
   have HS:∀ wq,bW w wq->wq.cell? (aD b (m+q*7))=some x0/\wq.cell? (aD b (m+q*7+1))=some x1/\wq.cell? (aD b (m+q*7+2))=some x2/\wq.cell? (aD b (m+q*7+3))=some x3/\wq.cell? (aD b (m+q*7+4))=some x4/\wq.cell? (aD b (m+q*7+5))=some x5/\wq.cell? (aD b (m+q*7+6))=some x6:=fun wq h=>⟨(h.cell (p:=(aD b _)) z).trans c0,(h.cell (p:=(aD b _)) z).trans c1,(h.cell (p:=(aD b _)) z).trans c2,(h.cell (p:=(aD b _)) z).trans c3,(h.cell (p:=(aD b _)) z).trans c4,(h.cell (p:=(aD b _)) z).trans c5,(h.cell (p:=(aD b _)) z).trans c6⟩;have kn:(q:Int)<(N:Int):=by omega
   have aw:q<l.length:=by have:=HN.out;omega
   have av:(q:Int)<(l.length:Int):=by omega
   have au:q<N:=by omega
   have k0:(0:Int)<=(q:Int):=by omega
   have aA:IntKind.i64.wrap ((q:Int)-1)=(q:Int)-1:=Br _ (by omega);have aq:=xI (zLk hx);have ar:=xI (aN d (aN n (aN hb af)));have g0:wr.drew.cell? (aH w1 0)=some (vI i6 a):=(Bv (show wr.drew.heap[w1.heap.size]?=_ from d) 0).trans rfl;have g1:wr.drew.cell? (aH w1 1)=some (vI i6 i):=(Bv (show wr.drew.heap[w1.heap.size]?=_ from d) 1).trans rfl;have g2:wr.drew.cell? (aH w1 2)=some (vT s):=(Bv (show wr.drew.heap[w1.heap.size]?=_ from d) 2).trans rfl;have g3:wr.drew.cell? (aH w1 3)=some (vS B1 n1 d1):=(Bv (show wr.drew.heap[w1.heap.size]?=_ from d) 3).trans rfl;have g4:wr.drew.cell? (aH w1 4)=some (vS B2 n2 d2):=(Bv (show wr.drew.heap[w1.heap.size]?=_ from d) 4).trans rfl;have g5:wr.drew.cell? (aH w1 5)=some (vS B3 n3 d3):=(Bv (show wr.drew.heap[w1.heap.size]?=_ from d) 5).trans rfl;have g6:wr.drew.cell? (aH w1 6)=some (vS B4 n4 d4):=(Bv (show wr.drew.heap[w1.heap.size]?=_ from d) 6).trans rfl;clear d n c0 c1 c2 c3 c4 c5 c6 hv C hx;go_wp2_with fail;refine Be (S:=fun wq=>wq.cell? (aD b (m+q*7))=some x0/\wq.cell? (aD b (m+q*7+1))=some x1/\wq.cell? (aD b (m+q*7+2))=some x2/\wq.cell? (aD b (m+q*7+3))=some x3/\wq.cell? (aD b (m+q*7+4))=some x4/\wq.cell? (aD b (m+q*7+5))=some x5/\wq.cell? (aD b (m+q*7+6))=some x6) (by kernel_rfl) (HS _ hb.drew) (fun hHeld=>?_);refine oT 0 hHeld ?_
   (iterate 3 refine oY hHeld ?_)
   refine oO 4 fun K hK=>?_;go_simp;refine hK _ _ (HS _ hb.drew) (oP ?_);refine oO 5 fun K hK=>?_;go_simp;refine u.mono ?_;rintro e w10 ⟨cs',rfl,hvb',hb10⟩;clear u;obtain⟨ra,ri,rs,R1,r1,q1,R2,r2,q2,R3,r3,q3,R4,r4,q4,rfl⟩:=hvb'.form7;have D:bW w w10:=hb.drew.trans (hb10.mono L);refine hK _ _ (HS _ D) (oP ?_);have y:=ar.out;have E:w10.heap[w1.heap.size]?=some (oV a i s B1 n1 d1 B2 n2 d2 B3 n3 d3 B4 n4 d4):=(hb10.block _ y.2.2.2).trans y.1;have o:w10.heap[w.heap.size]?=some oG:=(hb10.block _ (by have:=y.2.2.2;show w.heap.size<wr.heap.size;omega)).trans y.2.1;obtain⟨an,am,al,ak,aj,ai,ah⟩:=zAc E;obtain⟨z0,z1,z2,z3,z4,z5,z6⟩:=zAd E;have g:w.heap.size≠w1.heap.size:=by omega
   have f:w.heap.size<=w1.heap.size:=by omega
   obtain⟨V,hV⟩:∃ V,V=(((((((w10.setCell (aH w1 0) (vI i6 ra)).setCell (aH w1 1) (vI i6 ri)).setCell (aH w1 2) (vT rs)).setCell (aH w1 3) (vS R1 r1 q1)).setCell (aH w1 4) (vS R2 r2 q2)).setCell (aH w1 5) (vS R3 r3 q3)).setCell (aH w1 6) (vS R4 r4 q4)):=⟨_,rfl⟩;have F:V.heap[w1.heap.size]?=some (oV ra ri rs R1 r1 q1 R2 r2 q2 R3 r3 q3 R4 r4 q4):=by rw[hV];exact obj7 E (vI i6 ra) (vI i6 ri) (vT rs) (vS R1 r1 q1) (vS R2 r2 q2) (vS R3 r3 q3) (vS R4 r4 q4)
   have G:bW w V:=by rw[hV];exact Bu (Bu (Bu (Bu (Bu (Bu (Bu (D) (p:=(aH w1 0)) f _) (p:=(aH w1 1)) f _) (p:=(aH w1 2)) f _) (p:=(aH w1 3)) f _) (p:=(aH w1 4)) f _) (p:=(aH w1 5)) f _) (p:=(aH w1 6)) f _
   have I:V.heap.size=w10.heap.size:=by rw[hV];simp
   have r:∀ B:Nat->Prop,¬ B w1.heap.size->Same B w10 V:=fun B h=>by rw[hV];exact zAa (zAa (zAa (zAa (zAa (zAa (zAa (Same.refl _ _) h) h) h) h) h) h) h
   have t:V.heap[w.heap.size]?=some oG:=by rw[hV];exact (Bq _ _ _ _ g).trans ((Bq _ _ _ _ g).trans ((Bq _ _ _ _ g).trans ((Bq _ _ _ _ g).trans ((Bq _ _ _ _ g).trans ((Bq _ _ _ _ g).trans ((Bq _ _ _ _ g).trans (o)))))))
   have HF:=xI (aN F (aN G (aN I (aN r t))));have ap:=xI hvb';have J:=hb10.size;clear F G I r t hvb' o E;refine oO 6 fun K hK=>?_;go_simp;rw[<-hV];clear hV;refine hK _ _ (HS _ HF.out.2.1) (oP ?_);refine wD ?_;clear an am al ak aj ai ah z0 z1 z2 z3 z4 z5 z6 g0 g1 g2 g3 g4 g5 g6;go_wp2_with fail
   go_roundw
   case rel=>
    have R:wr.heap.size<=w10.heap.size:=J;refine⟨q,_,by go_num,by omega,HF.out.1,?_,HF.out.2.2.2.2,HF.out.2.1,by have:=HF.out.2.2.1;have:=y.2.2.2;omega⟩;rw[aq.out];have hq:=VB.keep (HF.out.2.2.2.1 (fun b=>(Btw lo wr.heap.size b/\b≠w.heap.size/\b≠w1.heap.size)\/Btw wr.heap.size w10.heap.size b) (fun h=>by
     rcases h with h|h
     ·exact h.2.2 rfl
     ·have:=h.1;have:=y.2.2.2;omega)) ap.out
    refine VB.sub (fun b hb'=>?_) (by omega) hq;have h1:=HF.out.2.2.1;have h2:=y.2.2.2;rcases hb' with⟨h,h',ag⟩|h
    ·exact⟨⟨h.1,by have:=h.2;omega⟩,h',ag⟩
    ·exact⟨⟨by have:=h.1;omega,by have:=h.2;omega⟩,by have:=h.1;omega,by have:=h.1;omega⟩
   case measure=>simp[intOf];try omega
theorem OwnE.blk {α:Type}{K:ElK α}{e:TypeId}{c:Nat}{w:World}{base:Nat}{v:Value}{l:List α}(h:OwnE K e c w base v l):∀ b,v.ownBlock=some b->base<=b/\b<w.heap.size:=by
 intro b hb;obtain⟨xs,ho,_⟩:=h;rcases ho.2 with⟨rfl,_⟩|⟨g',a,d,rfl,hB,hg,_⟩
 ·simp[Value.ownBlock]at hb
 ·simp[Value.ownBlock]at hb;subst hb;exact⟨hB,(Cv.1 hg).1⟩
theorem zA4 {h p g i:Nat}{w0 w:World}{x:Value}(hs:SrcOk h p w/\Eff p w0 w) (hg:w0.heap.size<=g) (hp:p<g):SrcOk h p (w.setCell ⟨g,i,none⟩ x)/\Eff p w0 (w.setCell ⟨g,i,none⟩ x):=zBe hs.1 hs.2 hg hp
theorem zJl {l:List Vl}(h:∀ x∈l,okV x=true/\sml x):okVs l=true/\smlVs l:=⟨by rw[zCa,Cz];exact fun x hx=>(h x hx).1,zFr.2 fun x hx=>(h x hx).2⟩
theorem zN0 (k h p:Nat) (n:Nat) (ht:Int) (w:World) (hS:SrcOk h p w) (hn:n<=2) (hk:0<k) (hv:Hid (∀ W,SrcOk h p W->Calls tP 14 #[.pointer (some (aD p 0)),vI i6 ht] W (DrawR k h p W))) :
  Calls tP 98 #[.pointer (some (aD p 0)),vI i6 n,vI i6 ht] w fun e w'=>(∃ x cs,e=.returned (.agg cs.toArray)/\EnB k x w' (Btw w.heap.size w'.heap.size) cs/\entB n x=true/\okE x=true/\smlE x)/\SrcOk h p w'/\Eff p w w':=by
 have t:=hS.lt;obtain⟨W,hW⟩:∃ W,W=(w.alloc (.cells #[vS none 0 0,.bool false,vI i6 0,vI i6 0,vT ⟨#[]⟩,vS none 0 0,vS none 0 0,vS none 0 0,vS none 0 0] 68)).alloc (.cells #[vS none 0 0,.bool false,vI i6 0,vI i6 0,vT ⟨#[]⟩,vS none 0 0,vS none 0 0,vS none 0 0,vS none 0 0] 68):=⟨_,rfl⟩;have a1:bW w W:=by rw[hW];exact (yR.alloc lR _).alloc (by simp) _
 have ba:W.heap.size=w.heap.size+2:=by rw[hW];simp
 have kr:W.heap[w.heap.size]?=some (.cells #[vS none 0 0,.bool false,vI i6 0,vI i6 0,vT ⟨#[]⟩,vS none 0 0,vS none 0 0,vS none 0 0,vS none 0 0] 68 (0,0)):=by rw[hW,Bp _ _ _ (by simp)];exact Bl w _
 have kb:W.heap[w.heap.size+1]?=some (.cells #[vS none 0 0,.bool false,vI i6 0,vI i6 0,vT ⟨#[]⟩,vS none 0 0,vS none 0 0,vS none 0 0,vS none 0 0] 68 (0,0)):=by rw[hW];exact zAg _ (by simp)
 have a8:=hS.below a1;have a9:=Eff.of_below a1 (Du t);clear hS a1;go_enter func98,ntmps98;go_wp2_with fail;rw[<-hW];clear hW
 go_loopw [1] (fun i wr=>∃ (m:Nat) (A:Option Addr) (c:Nat) (a:List Vl),i=vI i6 m/\a.length+m=n/\wr.heap[w.heap.size+1]?=some (.cells #[vS A a.length c,.bool false,vI i6 0,vI i6 0,vT ⟨#[]⟩,vS none 0 0,vS none 0 0,vS none 0 0,vS none 0 0] 68 (0,0))/\wr.heap[w.heap.size]?=some (.cells #[vS none 0 0,.bool false,vI i6 0,vI i6 0,vT ⟨#[]⟩,vS none 0 0,vS none 0 0,vS none 0 0,vS none 0 0] 68 (0,0))/\OwnV k wr (w.heap.size+2) (vS A a.length c) a/\(∀ x∈a,okV x=true/\sml x)/\SrcOk h p wr/\Eff p w wr/\w.heap.size+2<=wr.heap.size) (fun i _=>(intOf i).toNat)
 case atStart=>exact⟨n,none,0,[],rfl,by simp,kb,kr,OwnE.nil _ _ _ _ _,by simp,a8,a9,by omega⟩
 case round=>
  obtain⟨m,A,c,a,rfl,hm,an,aj,hO,u,aG,X,ax⟩:=hrel;by_cases hm0:m=0
  ·subst hm0;have hN:=zAh h p 4 wr aG (by omega) (by omega);have HE:=xI (aN an (aN aj (aN hO (aN u (aN X (aN ax hm))))));have mp:((0:Nat):Int)=0:=rfl;clear an aj hO u aG X hm;go_wp2_with fail;refine hN.mono ?_;rintro e w2 ⟨j,rfl,j0,j1,hS2,hE2⟩;clear hN;have av:=hE2.size;have f:=HE.out;have l:w2.heap[w.heap.size+1]?=some (.cells #[vS A a.length c,.bool false,vI i6 0,vI i6 0,vT ⟨#[]⟩,vS none 0 0,vS none 0 0,vS none 0 0,vS none 0 0] 68 (0,0)):=(hE2.other _ (by omega) (by omega)).trans f.1;have s:w2.heap[w.heap.size]?=some (.cells #[vS none 0 0,.bool false,vI i6 0,vI i6 0,vT ⟨#[]⟩,vS none 0 0,vS none 0 0,vS none 0 0,vS none 0 0] 68 (0,0)):=(hE2.other _ (by omega) (by omega)).trans f.2.1;have aI:=f.2.2.1.eff hE2 (by omega);have ao:=f.2.2.2.2.1.trans hE2;generalize hLA:a.length=la at l;have P:=xI hLA;clear hLA;by_cases hj:j=1
   ·subst hj;have HX:=xI (aN aI (aN ao (aN hS2 (aN l s))));clear aI ao hS2 f hE2;have e0:w2.cell? (aH w 0)=some (vS none 0 0):=cH s 0;have z0:=Bz s 0;have e1:w2.cell? (aH w 1)=some (.bool false):=cH s 1;have z1:=Bz s 1;have e2:w2.cell? (aH w 2)=some (vI i6 0):=cH s 2;have z2:=Bz s 2;have e3:w2.cell? (aH w 3)=some (vI i6 0):=cH s 3;have z3:=Bz s 3;have e4:w2.cell? (aH w 4)=some (vT ⟨#[]⟩):=cH s 4;have z4:=Bz s 4;have e5:w2.cell? (aH w 5)=some (vS none 0 0):=cH s 5;have z5:=Bz s 5;have e6:w2.cell? (aH w 6)=some (vS none 0 0):=cH s 6;have z6:=Bz s 6;have e7:w2.cell? (aH w 7)=some (vS none 0 0):=cH s 7;have z7:=Bz s 7;have e8:w2.cell? (aH w 8)=some (vS none 0 0):=cH s 8;have z8:=Bz s 8;have g0:w2.cell? (aE w 0)=some (vS A la c):=cH l 0;have y0:=Bz l 0;have g1:w2.cell? (aE w 1)=some (.bool false):=cH l 1;have y1:=Bz l 1;have g2:w2.cell? (aE w 2)=some (vI i6 0):=cH l 2;have y2:=Bz l 2;have g3:w2.cell? (aE w 3)=some (vI i6 0):=cH l 3;have y3:=Bz l 3;have g4:w2.cell? (aE w 4)=some (vT ⟨#[]⟩):=cH l 4;have y4:=Bz l 4;have g5:w2.cell? (aE w 5)=some (vS none 0 0):=cH l 5;have y5:=Bz l 5;have g6:w2.cell? (aE w 6)=some (vS none 0 0):=cH l 6;have y6:=Bz l 6;have g7:w2.cell? (aE w 7)=some (vS none 0 0):=cH l 7;have y7:=Bz l 7;have g8:w2.cell? (aE w 8)=some (vS none 0 0):=cH l 8;have y8:=Bz l 8;clear l s;go_wp2;have a3:SrcOk h p w2/\Eff p w w2:=⟨HX.out.2.2.1,HX.out.2.1⟩;have a4:=HX.out.1;have au:=HE.out.2.2.2.1;have aY:a.length=n:=by have:=HE.out.2.2.2.2.2.2;omega
    refine nW fun V hV=>?_;have am:w.heap.size<=w.heap.size+1:=by omega
    have ak:p<w.heap.size+1:=by omega
    have al:w.heap.size+1<w.heap.size+2:=by omega
    have F:w.heap.size<w.heap.size+2:=by omega
    have aC:(w2.setCell (aE w 1) (Value.bool true)).heap[w.heap.size]?=some (.cells #[vS none 0 0,.bool false,vI i6 0,vI i6 0,vT ⟨#[]⟩,vS none 0 0,vS none 0 0,vS none 0 0,vS none 0 0] 68 (0,0)):=(Bq _ _ _ _ (show w.heap.size≠w.heap.size+1 by omega)).trans (HX.out.2.2.2.2);have E:V.heap[w.heap.size]?=some (.cells #[vS A la c,.bool true,vI i6 0,vI i6 0,vT ⟨#[]⟩,vS none 0 0,vS none 0 0,vS none 0 0,vS none 0 0] 68 (0,0)):=by rw[hV];exact obj9 aC (vS A la c) (Value.bool true) (vI i6 0) (vI i6 0) (vT ⟨#[]⟩) (vS none 0 0) (vS none 0 0) (vS none 0 0) (vS none 0 0)
    have ar:SrcOk h p V/\Eff p w V:=by rw[hV];exact zA4 (zA4 (zA4 (zA4 (zA4 (zA4 (zA4 (zA4 (zA4 (zA4 (a3) am ak) lR t) lR t) lR t) lR t) lR t) lR t) lR t) lR t) lR t
    have a2:OwnV k V (w.heap.size+2) (vS A a.length c) a:=by rw[hV];exact OwnE.low (OwnE.low (OwnE.low (OwnE.low (OwnE.low (OwnE.low (OwnE.low (OwnE.low (OwnE.low (OwnE.low (a4) al) F) F) F) F) F) F) F) F) F
    have a6:V.heap.size=w2.heap.size:=by rw[hV];simp
    have aB:∀ B:Nat->Prop,¬ B w.heap.size->¬ B (w.heap.size+1)->Same B w2 V:=fun B h0 h1=>by rw[hV];exact zAa (zAa (zAa (zAa (zAa (zAa (zAa (zAa (zAa (zAa (Same.refl _ _) h1) h0) h0) h0) h0) h0) h0) h0) h0) h0
    clear hV aC e0 z0 e1 z1 e2 z2 e3 z3 e4 z4 e5 z5 e6 z6 e7 z7 e8 z8 g0 g1 g2 g3 g4 g5 g6 g7 g8 y0 y1 y2 y3 y4 y5 y6 y7 y8;have aT:V.cell? (aH w 0)=some (vS A la c):=cH E 0;have aS:V.cell? (aH w 1)=some (Value.bool true):=cH E 1;have aR:V.cell? (aH w 2)=some (vI i6 0):=cH E 2;have aQ:V.cell? (aH w 3)=some (vI i6 0):=cH E 3;have aP:V.cell? (aH w 4)=some (vT ⟨#[]⟩):=cH E 4;have aO:V.cell? (aH w 5)=some (vS none 0 0):=cH E 5;have aM:V.cell? (aH w 6)=some (vS none 0 0):=cH E 6;have aL:V.cell? (aH w 7)=some (vS none 0 0):=cH E 7;have aK:V.cell? (aH w 8)=some (vS none 0 0):=cH E 8;refine Cw (v:=.agg #[vS A la c,.bool true,vI i6 0,vI i6 0,vT ⟨#[]⟩,vS none 0 0,vS none 0 0,vS none 0 0,vS none 0 0]) (by simp[results,results98,go_sem,aT,aS,aR,aQ,aP,aO,aM,aL,aK]) rfl ?_;have aZ:=P.out;subst aZ;obtain⟨o1,o2⟩:=zJl au;have ap:RowB V (Btw w.heap.size V.heap.size) 7 (vS A a.length c) a.length (fun j cs=>∃ x,a[j]?=some x/\VB k V (Btw w.heap.size V.heap.size) x cs):=RowB.sub (a2.row (by omega) (by unfold maxLen;omega)) (fun b hb=>⟨by have:=hb.1;omega,hb.2⟩) (by
     rintro j cs ⟨x,hx,hv⟩;exact⟨x,hx,VB.sub (fun b hb=>⟨by have:=hb.1;omega,hb.2⟩) lR hv⟩)
    obtain⟨k,rfl⟩:∃ q,k=q+1:=⟨k-1,by omega⟩;refine⟨⟨.mk a true zeroV,_,rfl,⟨a,true,zeroV,rfl,_,_,rfl,ap,zKb k V _⟩,?_,?_,?_⟩,ar⟩
    ·have hz:isZ zeroV=true:=zR1.2 rfl;simp[entB,zHc,zH3,resOf,hz,aY]
    ·simp[okE,o1]
    ·exact⟨by omega,o2,by simp[sml,zeroV,smlVs,smlEs]⟩
   ·have be:(j==1)=false:=by rw[Cm];exact hj
    have aA:=hv.out w2 hS2;have HX:=xI (aN aI (aN ao (aN hS2 (aN l s))));clear aI ao hS2 f hE2 l s;go_wp2_with fail;refine aA.mono ?_;rintro e w3 ⟨⟨r,rs,rfl,hvb,hok,hsm⟩,hS3,hE3⟩;clear aA;obtain⟨a',i',s',ag,U,ab,af,T,aa,ae,R,Z,ad,Q,Y,rfl⟩:=hvb.form7;have bb:=hE3.size;have z:w3.heap[w.heap.size+1]?=some (.cells #[vS A la c,.bool false,vI i6 0,vI i6 0,vT ⟨#[]⟩,vS none 0 0,vS none 0 0,vS none 0 0,vS none 0 0] 68 (0,0)):=(hE3.other _ (by omega) (by omega)).trans HX.out.2.2.2.1;have y:w3.heap[w.heap.size]?=some (.cells #[vS none 0 0,.bool false,vI i6 0,vI i6 0,vT ⟨#[]⟩,vS none 0 0,vS none 0 0,vS none 0 0,vS none 0 0] 68 (0,0)):=(hE3.other _ (by omega) (by omega)).trans HX.out.2.2.2.2;have HY:=xI (aN (HX.out.1.eff hE3 (by omega)) (aN (HX.out.2.1.trans hE3) (aN hS3 (aN z (aN y (aN hvb (aN hok hsm)))))));clear hvb hok hsm hS3 hE3;have e0:w3.cell? (aH w 0)=some (vS none 0 0):=cH y 0;have z0:=Bz y 0;have g0:w3.cell? (aE w 0)=some (vS A la c):=cH z 0;have y0:=Bz z 0;have e1:w3.cell? (aH w 1)=some (.bool false):=cH y 1;have z1:=Bz y 1;have g1:w3.cell? (aE w 1)=some (.bool false):=cH z 1;have y1:=Bz z 1;have e2:w3.cell? (aH w 2)=some (vI i6 0):=cH y 2;have z2:=Bz y 2;have g2:w3.cell? (aE w 2)=some (vI i6 0):=cH z 2;have y2:=Bz z 2;have e3:w3.cell? (aH w 3)=some (vI i6 0):=cH y 3;have z3:=Bz y 3;have g3:w3.cell? (aE w 3)=some (vI i6 0):=cH z 3;have y3:=Bz z 3;have e4:w3.cell? (aH w 4)=some (vT ⟨#[]⟩):=cH y 4;have z4:=Bz y 4;have g4:w3.cell? (aE w 4)=some (vT ⟨#[]⟩):=cH z 4;have y4:=Bz z 4;have e5:w3.cell? (aH w 5)=some (vS none 0 0):=cH y 5;have z5:=Bz y 5;have g5:w3.cell? (aE w 5)=some (vS none 0 0):=cH z 5;have y5:=Bz z 5;have e6:w3.cell? (aH w 6)=some (vS none 0 0):=cH y 6;have z6:=Bz y 6;have g6:w3.cell? (aE w 6)=some (vS none 0 0):=cH z 6;have y6:=Bz z 6;have e7:w3.cell? (aH w 7)=some (vS none 0 0):=cH y 7;have z7:=Bz y 7;have g7:w3.cell? (aE w 7)=some (vS none 0 0):=cH z 7;have y7:=Bz z 7;have e8:w3.cell? (aH w 8)=some (vS none 0 0):=cH y 8;have z8:=Bz y 8;have g8:w3.cell? (aE w 8)=some (vS none 0 0):=cH z 8;have y8:=Bz z 8;clear z y;go_wp2;have a3:SrcOk h p w3/\Eff p w w3:=⟨HY.out.2.2.1,HY.out.2.1⟩;have a4:=HY.out.1;have au:=HE.out.2.2.2.1;have aY:a.length=n:=by have:=HE.out.2.2.2.2.2.2;omega
    refine nW fun V hV=>?_;have am:w.heap.size<=w.heap.size+1:=by omega
    have ak:p<w.heap.size+1:=by omega
    have al:w.heap.size+1<w.heap.size+2:=by omega
    have F:w.heap.size<w.heap.size+2:=by omega
    have aC:(((((((w3.setCell (aE w 2) (vI i6 a')).setCell (aE w 3) (vI i6 i')).setCell (aE w 4) (vT s')).setCell (aE w 5) (vS ag U ab)).setCell (aE w 6) (vS af T aa)).setCell (aE w 7) (vS ae R Z)).setCell (aE w 8) (vS ad Q Y)).heap[w.heap.size]?=some (.cells #[vS none 0 0,.bool false,vI i6 0,vI i6 0,vT ⟨#[]⟩,vS none 0 0,vS none 0 0,vS none 0 0,vS none 0 0] 68 (0,0)):=(Bq _ _ _ _ (show w.heap.size≠w.heap.size+1 by omega)).trans ((Bq _ _ _ _ (show w.heap.size≠w.heap.size+1 by omega)).trans ((Bq _ _ _ _ (show w.heap.size≠w.heap.size+1 by omega)).trans ((Bq _ _ _ _ (show w.heap.size≠w.heap.size+1 by omega)).trans ((Bq _ _ _ _ (show w.heap.size≠w.heap.size+1 by omega)).trans ((Bq _ _ _ _ (show w.heap.size≠w.heap.size+1 by omega)).trans ((Bq _ _ _ _ (show w.heap.size≠w.heap.size+1 by omega)).trans (HY.out.2.2.2.2.1)))))));have E:V.heap[w.heap.size]?=some (.cells #[vS A la c,.bool false,vI i6 a',vI i6 i',vT s',vS ag U ab,vS af T aa,vS ae R Z,vS ad Q Y] 68 (0,0)):=by rw[hV];exact obj9 aC (vS A la c) (Value.bool false) (vI i6 a') (vI i6 i') (vT s') (vS ag U ab) (vS af T aa) (vS ae R Z) (vS ad Q Y)
    have ar:SrcOk h p V/\Eff p w V:=by rw[hV];exact zA4 (zA4 (zA4 (zA4 (zA4 (zA4 (zA4 (zA4 (zA4 (zA4 (zA4 (zA4 (zA4 (zA4 (zA4 (zA4 (a3) am ak) am ak) am ak) am ak) am ak) am ak) am ak) lR t) lR t) lR t) lR t) lR t) lR t) lR t) lR t) lR t
    have a2:OwnV k V (w.heap.size+2) (vS A a.length c) a:=by rw[hV];exact OwnE.low (OwnE.low (OwnE.low (OwnE.low (OwnE.low (OwnE.low (OwnE.low (OwnE.low (OwnE.low (OwnE.low (OwnE.low (OwnE.low (OwnE.low (OwnE.low (OwnE.low (OwnE.low (a4) al) al) al) al) al) al) al) F) F) F) F) F) F) F) F) F
    have a6:V.heap.size=w3.heap.size:=by rw[hV];simp
    have aB:∀ B:Nat->Prop,¬ B w.heap.size->¬ B (w.heap.size+1)->Same B w3 V:=fun B h0 h1=>by rw[hV];exact zAa (zAa (zAa (zAa (zAa (zAa (zAa (zAa (zAa (zAa (zAa (zAa (zAa (zAa (zAa (zAa (Same.refl _ _) h1) h1) h1) h1) h1) h1) h1) h0) h0) h0) h0) h0) h0) h0) h0) h0
    clear hV aC e0 z0 e1 z1 e2 z2 e3 z3 e4 z4 e5 z5 e6 z6 e7 z7 e8 z8 g0 g1 g2 g3 g4 g5 g6 g7 g8 y0 y1 y2 y3 y4 y5 y6 y7 y8;have aT:V.cell? (aH w 0)=some (vS A la c):=cH E 0;have aS:V.cell? (aH w 1)=some (Value.bool false):=cH E 1;have aR:V.cell? (aH w 2)=some (vI i6 a'):=cH E 2;have aQ:V.cell? (aH w 3)=some (vI i6 i'):=cH E 3;have aP:V.cell? (aH w 4)=some (vT s'):=cH E 4;have aO:V.cell? (aH w 5)=some (vS ag U ab):=cH E 5;have aM:V.cell? (aH w 6)=some (vS af T aa):=cH E 6;have aL:V.cell? (aH w 7)=some (vS ae R Z):=cH E 7;have aK:V.cell? (aH w 8)=some (vS ad Q Y):=cH E 8;refine Cw (v:=.agg #[vS A la c,.bool false,vI i6 a',vI i6 i',vT s',vS ag U ab,vS af T aa,vS ae R Z,vS ad Q Y]) (by simp[results,results98,go_sem,aT,aS,aR,aQ,aP,aO,aM,aL,aK]) rfl ?_;have aZ:=P.out;subst aZ;obtain⟨o1,o2⟩:=zJl au;have ap:RowB V (Btw w.heap.size V.heap.size) 7 (vS A a.length c) a.length (fun j cs=>∃ x,a[j]?=some x/\VB k V (Btw w.heap.size V.heap.size) x cs):=RowB.sub (a2.row (by omega) (by unfold maxLen;omega)) (fun b hb=>⟨by have:=hb.1;omega,hb.2⟩) (by
     rintro j cs ⟨x,hx,hv⟩;exact⟨x,hx,VB.sub (fun b hb=>⟨by have:=hb.1;omega,hb.2⟩) lR hv⟩)
    have a7:=VB.sub (B':=Btw w.heap.size V.heap.size) (fun b hb=>⟨by have:=hb.1;omega,by have:=hb.2;omega⟩) lR (VB.keep (aB _ (fun h=>by have:=h.1;omega) (fun h=>by have:=h.1;omega)) HY.out.2.2.2.2.2.1);refine⟨⟨.mk a false r,_,rfl,⟨a,false,r,rfl,_,_,rfl,ap,a7⟩,?_,?_,?_⟩,ar⟩
    ·simp[entB,zHc,zH3,resOf,aY]
    ·simp[okE,o1,HY.out.2.2.2.2.2.2.1]
    ·exact⟨by omega,o2,HY.out.2.2.2.2.2.2.2⟩
  ·have mp:(0:Int)<(m:Int):=by omega
   have bc:IntKind.i64.wrap ((m:Int)-1)=(m:Int)-1:=Br _ (by omega);have aF:=xI hm;have hL:=xI (aN an (aN aj (aN hO (aN u (aN aG (aN X ax))))));clear hm an aj hO u aG X;generalize hLA:a.length=la;have P:=xI hLA;rw[hLA]at hL;clear hLA;go_wp2_with fail;refine Be (S:=fun _=>True) (by kernel_rfl) trivial (fun hHeld=>?_);refine oT 0 hHeld ?_;refine oT 2 hHeld ?_;refine oT 3 hHeld ?_;have bd:wr.drew.heap.size=wr.heap.size:=rfl;have f:=hL.out;have aV:wr.drew.heap[w.heap.size+1]?=some (.cells #[vS A la c,.bool false,vI i6 0,vI i6 0,vT ⟨#[]⟩,vS none 0 0,vS none 0 0,vS none 0 0,vS none 0 0] 68 (0,0)):=f.1;have aU:wr.drew.cell? (aE w 0)=some (vS A la c):=cH aV 0;have aA:=hv.out wr.drew (f.2.2.2.2.1.below yR.drew);have aJ:Eff p wr wr.drew:=Eff.of_below yR.drew (by omega);refine C5 (rs:=[1,4]) (by kernel_rfl) (by simp) fun j hj=>?_;have a0:j=1\/j=4:=by simpa using hj
   clear hj;rcases a0 with rfl|rfl
   ·refine zAi rfl (by rfl) (fun K hK=>?_);go_simp;refine hK _ _ ⟨trivial,oP ?_⟩;refine oO 4 fun K hK=>?_;go_simp;refine aA.mono ?_;rintro e w10 ⟨⟨v,cs,rfl,hvb,hok,hsm⟩,hS10,hE10⟩;obtain⟨a',i',s',ag,U,ab,af,T,aa,ae,R,Z,ad,Q,Y,rfl⟩:=hvb.form7;have aX:wr.heap.size<=w10.heap.size:=hE10.size;have d:Eff p wr w10:=aJ.trans hE10;have kb:w10.heap[w.heap.size+1]?=some (.cells #[.slice A la c,.bool false,.int .i64 0,.int .i64 0,.string ⟨#[]⟩,.slice none 0 0,.slice none 0 0,.slice none 0 0,.slice none 0 0] 68 (0,0)):=(d.other _ (by omega) (by have:=f.2.2.2.2.2.2;omega)).trans f.1;have kr:w10.heap[w.heap.size]?=some (.cells #[.slice none 0 0,.bool false,.int .i64 0,.int .i64 0,.string ⟨#[]⟩,.slice none 0 0,.slice none 0 0,.slice none 0 0,.slice none 0 0] 68 (0,0)):=(d.other _ (by omega) (by have:=f.2.2.2.2.2.2;omega)).trans f.2.1;have O:=f.2.2.1.eff d (by omega);have M:=f.2.2.1.blk;obtain⟨i0,hi,az,ay,av⟩:=Cp Tryz.infoV;obtain⟨g,cap,H,D,I,o,aq,_⟩:=zBi (elV k) 28 28 33 i0 (.agg nV) 7 128 underlying28 hi az ay av rfl (by decide) (by decide) w10 (w.heap.size+2) _ a O v _ (VB.sub (fun b hb=>⟨by have:=hb.1;have:=f.2.2.2.2.2.2;omega,hb.2,fun e=>by have:=M b e.symm;have:=hb.1;omega⟩) lR hvb) rfl (zBg k v _ _ _ hvb) (by have:=aF.out;omega) (by omega) _ rfl 1;rw[show a.length=la from P.out]at D I;have C:H.heap[w.heap.size+1]?=some (.cells #[.slice A la c,.bool false,.int .i64 0,.int .i64 0,.string ⟨#[]⟩,.slice none 0 0,.slice none 0 0,.slice none 0 0,.slice none 0 0] 68 (0,0)):=(o.block _ (by omega)).trans kb;have J:H.heap[w.heap.size]?=some (.cells #[.slice none 0 0,.bool false,.int .i64 0,.int .i64 0,.string ⟨#[]⟩,.slice none 0 0,.slice none 0 0,.slice none 0 0,.slice none 0 0] 68 (0,0)):=(o.block _ (by omega)).trans kr;have HR:=xI (aN C (aN J (aN I (aN o (aN hok (aN hsm (aN hS10 d)))))));have ai:H.cell? (aE w 0)=some (.slice A la c):=cH C 0;have ah:=Bz C 0;have aW:=o.size;clear hvb hok hsm hS10 hE10 d kb kr O M I o aq C J f aJ hi az ay av aV;refine hK _ _ trivial (oP ?_);refine oO 5 fun K hK=>?_;go_simp;refine hK _ _ trivial (oP ?_);refine oO 6 fun K hK=>?_;refine Lib.wp_append_run _ _ _ _ _ rfl _ _ rfl rfl _ H D ?_;refine hK _ _ trivial (oP ?_);refine oO 7 fun K hK=>?_;go_simp;refine hK _ _ trivial (oP ?_);refine oO 8 fun K hK=>?_;go_simp;refine hK _ _ trivial (oP ?_);refine wD ?_;clear aU ai ah D;go_wp2_with fail
    go_roundw
    case rel=>
     obtain⟨q1,q2,q3,q4,q5,q6,q7,q8⟩:=HR.out;obtain⟨_,_,_,u,_,X,ax⟩:=hL.out;have L:(a++[v]).length=la+1:=by rw[Bd,P.out];rfl
     have G:=(X.trans q8).grow (q4.mono (by omega)) t;have N:SrcOk h p H:=q7.below3 q4 (by omega);obtain⟨r1,r2⟩:=zBe (g:=w.heap.size+1) (i:=0) (x:=vS (some (aD g 0)) (la+1) cap) N G (by omega) (by omega);refine⟨m-1,some (aD g 0),cap,a++[v],by go_num,by rw[L];have:=aF.out;have:=P.out;omega,?_,(Bq _ _ _ _ (show w.heap.size≠w.heap.size+1 by omega)).trans q2,by rw[L];exact OwnE.low q3 (by omega),?_,r1,r2,by simp;omega⟩
     ·rw[L];have:=Bm H (w.heap.size+1) 0 _ _ (vS (some (aD g 0)) (la+1) cap) q1;simpa using this
     ·intro x hx;rcases B7.1 hx with hx|hx
      ·exact u x hx
      ·rw[Ct.1 hx];exact⟨q5,q6⟩
    case measure=>simp[intOf];try omega
   ·refine zAi rfl (by rfl) (fun K hK=>?_);go_simp;refine aA.mono ?_;rintro e w10 ⟨⟨v,cs,rfl,hvb,hok,hsm⟩,hS10,hE10⟩;obtain⟨a',i',s',ag,U,ab,af,T,aa,ae,R,Z,ad,Q,Y,rfl⟩:=hvb.form7;have aX:wr.heap.size<=w10.heap.size:=hE10.size;have d:Eff p wr w10:=aJ.trans hE10;have kb:w10.heap[w.heap.size+1]?=some (.cells #[.slice A la c,.bool false,.int .i64 0,.int .i64 0,.string ⟨#[]⟩,.slice none 0 0,.slice none 0 0,.slice none 0 0,.slice none 0 0] 68 (0,0)):=(d.other _ (by omega) (by have:=f.2.2.2.2.2.2;omega)).trans f.1;have kr:w10.heap[w.heap.size]?=some (.cells #[.slice none 0 0,.bool false,.int .i64 0,.int .i64 0,.string ⟨#[]⟩,.slice none 0 0,.slice none 0 0,.slice none 0 0,.slice none 0 0] 68 (0,0)):=(d.other _ (by omega) (by have:=f.2.2.2.2.2.2;omega)).trans f.2.1;have O:=f.2.2.1.eff d (by omega);have M:=f.2.2.1.blk;obtain⟨i0,hi,az,ay,av⟩:=Cp Tryz.infoV;obtain⟨g,cap,H,D,I,o,aq,_⟩:=zBi (elV k) 28 28 33 i0 (.agg nV) 7 128 underlying28 hi az ay av rfl (by decide) (by decide) w10 (w.heap.size+2) _ a O v _ (VB.sub (fun b hb=>⟨by have:=hb.1;have:=f.2.2.2.2.2.2;omega,hb.2,fun e=>by have:=M b e.symm;have:=hb.1;omega⟩) lR hvb) rfl (zBg k v _ _ _ hvb) (by have:=aF.out;omega) (by omega) _ rfl 1;rw[show a.length=la from P.out]at D I;have C:H.heap[w.heap.size+1]?=some (.cells #[.slice A la c,.bool false,.int .i64 0,.int .i64 0,.string ⟨#[]⟩,.slice none 0 0,.slice none 0 0,.slice none 0 0,.slice none 0 0] 68 (0,0)):=(o.block _ (by omega)).trans kb;have J:H.heap[w.heap.size]?=some (.cells #[.slice none 0 0,.bool false,.int .i64 0,.int .i64 0,.string ⟨#[]⟩,.slice none 0 0,.slice none 0 0,.slice none 0 0,.slice none 0 0] 68 (0,0)):=(o.block _ (by omega)).trans kr;have HR:=xI (aN C (aN J (aN I (aN o (aN hok (aN hsm (aN hS10 d)))))));have ai:H.cell? (aE w 0)=some (.slice A la c):=cH C 0;have ah:=Bz C 0;have aW:=o.size;have aw:w10.cell? (aE w 0)=some (.slice A la c):=cH kb 0;have a5:(w10.alloc (.cells #[.int .i64 a',.int .i64 i',.string s',.slice ag U ab,.slice af T aa,.slice ae R Z,.slice ad Q Y] 33)).cell? (aE w 0)=some (.slice A la c):=(Bv ((Bp _ _ _ (by omega)).trans kb) 0).trans rfl;clear hvb hok hsm hS10 hE10 d kb kr O M I o aq C J f aJ hi az ay av aV;refine hK _ _ ⟨trivial,oP ?_⟩;refine C5 (rs:=[1,5]) (by kernel_rfl) (by simp) fun j hj=>?_;have a0:j=1\/j=5:=by simpa using hj
    clear hj;rcases a0 with rfl|rfl
    ·refine zAi rfl (by rfl) (fun K hK=>?_);go_simp;refine hK _ _ ⟨trivial,?_⟩;clear aw a5
     (try simp only[pK])
     refine oO 5 fun K hK=>?_;go_simp;refine hK _ _ trivial (oP ?_);refine oO 6 fun K hK=>?_;refine Lib.wp_append_run _ _ _ _ _ rfl _ _ rfl rfl _ H D ?_;refine hK _ _ trivial (oP ?_);refine oO 7 fun K hK=>?_;go_simp;refine hK _ _ trivial (oP ?_);refine oO 8 fun K hK=>?_;go_simp;refine hK _ _ trivial (oP ?_);refine wD ?_;clear aU ai ah D;go_wp2_with fail
     go_roundw
     case rel=>
      obtain⟨q1,q2,q3,q4,q5,q6,q7,q8⟩:=HR.out;obtain⟨_,_,_,u,_,X,ax⟩:=hL.out;have L:(a++[v]).length=la+1:=by rw[Bd,P.out];rfl
      have G:=(X.trans q8).grow (q4.mono (by omega)) t;have N:SrcOk h p H:=q7.below3 q4 (by omega);obtain⟨r1,r2⟩:=zBe (g:=w.heap.size+1) (i:=0) (x:=vS (some (aD g 0)) (la+1) cap) N G (by omega) (by omega);refine⟨m-1,some (aD g 0),cap,a++[v],by go_num,by rw[L];have:=aF.out;have:=P.out;omega,?_,(Bq _ _ _ _ (show w.heap.size≠w.heap.size+1 by omega)).trans q2,by rw[L];exact OwnE.low q3 (by omega),?_,r1,r2,by simp;omega⟩
      ·rw[L];have:=Bm H (w.heap.size+1) 0 _ _ (vS (some (aD g 0)) (la+1) cap) q1;simpa using this
      ·intro x hx;rcases B7.1 hx with hx|hx
       ·exact u x hx
       ·rw[Ct.1 hx];exact⟨q5,q6⟩
     case measure=>simp[intOf];try omega
    ·refine zAi rfl (by rfl) (fun K hK=>?_);go_simp;refine hK _ _ ⟨trivial,oP ?_⟩;refine oO 1 fun K hK=>?_;go_simp;refine hK _ _ trivial ?_;clear aw a5
     (try simp only[pK])
     refine oO 6 fun K hK=>?_;refine Lib.wp_append_run _ _ _ _ _ rfl _ _ rfl rfl _ H D ?_;refine hK _ _ trivial (oP ?_);refine oO 7 fun K hK=>?_;go_simp;refine hK _ _ trivial (oP ?_);refine oO 8 fun K hK=>?_;go_simp;refine hK _ _ trivial (oP ?_);refine wD ?_;clear aU ai ah D;go_wp2_with fail
     go_roundw
     case rel=>
      obtain⟨q1,q2,q3,q4,q5,q6,q7,q8⟩:=HR.out;obtain⟨_,_,_,u,_,X,ax⟩:=hL.out;have L:(a++[v]).length=la+1:=by rw[Bd,P.out];rfl
      have G:=(X.trans q8).grow (q4.mono (by omega)) t;have N:SrcOk h p H:=q7.below3 q4 (by omega);obtain⟨r1,r2⟩:=zBe (g:=w.heap.size+1) (i:=0) (x:=vS (some (aD g 0)) (la+1) cap) N G (by omega) (by omega);refine⟨m-1,some (aD g 0),cap,a++[v],by go_num,by rw[L];have:=aF.out;have:=P.out;omega,?_,(Bq _ _ _ _ (show w.heap.size≠w.heap.size+1 by omega)).trans q2,by rw[L];exact OwnE.low q3 (by omega),?_,r1,r2,by simp;omega⟩
      ·rw[L];have:=Bm H (w.heap.size+1) 0 _ _ (vS (some (aD g 0)) (la+1) cap) q1;simpa using this
      ·intro x hx;rcases B7.1 hx with hx|hx
       ·exact u x hx
       ·rw[Ct.1 hx];exact⟨q5,q6⟩
     case measure=>simp[intOf];try omega
end Go.Proofs.YteedihhdcbepmaaGreat
