/- The leaves of the source: what Int, String, .. -/
import Derived.Test.YteedihhdcbepmaaGreatTsZ
import Derived.Test.YteedihhdcbepmaaGreatTs04
import Derived.Test.YteedihhdcbepmaaGreatTsShelfN
set_option maxRecDepth 100000
set_option maxHeartbeats 3200000
set_option linter.all false
open Go.Value renaming slice→vS,int→vI,string→vT
open Go.IntKind renaming i64→i6
open Go.Proofs.Tryz
open Go.Proofs.Tryz renaming prog→tP
namespace Go.Proofs.YteedihhdcbepmaaGreat
open Go Go.RowKit
def lfV (k i:Int) (t:List UInt8):Vl:=.mk k i t [] [] [] []
theorem zHg (w:World) (B:Nat->Prop) (c:Nat) (R:Nat->List Value->Prop):RowB w B c (vS none 0 0) 0 R:=⟨none,0,rfl,⟨Bt _,Bc _⟩,fun h=>absurd h (by omega)⟩
def lfC (k i:Int) (t:List UInt8):List Value:=[vI i6 k,vI i6 i,vT ⟨t.toArray⟩,vS none 0 0,vS none 0 0,vS none 0 0,vS none 0 0]
theorem lfVB {k i:Int}{t:List UInt8}(hk:(Lit.int .i64 k).wf=true) (hi:(Lit.int .i64 i).wf=true) (ht:t.length<=maxLen) (n:Nat) (V:World) (B:Nat->Prop):VB (n+1) V B (lfV k i t) (lfC k i t):=
 ⟨_,_,_,_,rfl,hk,hi,ht,zHg _ _ _ _,zHg _ _ _ _,zHg _ _ _ _,zHg _ _ _ _⟩
theorem zCo (n:Int) (w:World):Calls tP 42 #[vI i6 n] w fun e w'=>e=.returned (.agg #[vI i6 1,vI i6 n,vT ⟨#[]⟩,vS none 0 0,vS none 0 0,vS none 0 0,vS none 0 0])/\bW w w':=by
 go_enter func42,ntmps42;go_wp2;refine Cw (v:=.agg #[vI i6 1,vI i6 n,vT ⟨#[]⟩,vS none 0 0,vS none 0 0,vS none 0 0,vS none 0 0]) (by simp[results,results42,go_sem]) rfl ?_;exact⟨rfl,yR.alloc lR _⟩
theorem zCw (s:List UInt8) (w:World):Calls tP 131 #[vT ⟨s.toArray⟩] w fun e w'=>e=.returned (.agg #[vI i6 2,vI i6 0,vT ⟨s.toArray⟩,vS none 0 0,vS none 0 0,vS none 0 0,vS none 0 0])/\bW w w':=by
 go_enter func131,ntmps131;go_wp2;refine Cw (v:=.agg #[vI i6 2,vI i6 0,vT ⟨s.toArray⟩,vS none 0 0,vS none 0 0,vS none 0 0,vS none 0 0]) (by simp[results,results131,go_sem]) rfl ?_;exact⟨rfl,yR.alloc lR _⟩
theorem zD3 (s:List UInt8) (w:World):Calls tP 132 #[vT ⟨s.toArray⟩] w fun e w'=>e=.returned (.agg #[vI i6 3,vI i6 0,vT ⟨s.toArray⟩,vS none 0 0,vS none 0 0,vS none 0 0,vS none 0 0])/\bW w w':=by
 go_enter func132,ntmps132;go_wp2;refine Cw (v:=.agg #[vI i6 3,vI i6 0,vT ⟨s.toArray⟩,vS none 0 0,vS none 0 0,vS none 0 0,vS none 0 0]) (by simp[results,results132,go_sem]) rfl ?_;exact⟨rfl,yR.alloc lR _⟩
theorem zGu (n:Int) (w:World):Calls tP 133 #[vI i6 n] w fun e w'=>e=.returned (.agg #[vI i6 4,vI i6 n,vT ⟨#[]⟩,vS none 0 0,vS none 0 0,vS none 0 0,vS none 0 0])/\bW w w':=by
 go_enter func133,ntmps133;go_wp2;refine Cw (v:=.agg #[vI i6 4,vI i6 n,vT ⟨#[]⟩,vS none 0 0,vS none 0 0,vS none 0 0,vS none 0 0]) (by simp[results,results133,go_sem]) rfl ?_;exact⟨rfl,yR.alloc lR _⟩
theorem zBj (w:World):Calls tP 58 #[] w fun e w'=>e=.returned (.agg #[vI i6 5,vI i6 0,vT ⟨#[]⟩,vS none 0 0,vS none 0 0,vS none 0 0,vS none 0 0])/\bW w w':=by
 go_enter func58,ntmps58;go_wp2;refine Cw (v:=.agg #[vI i6 5,vI i6 0,vT ⟨#[]⟩,vS none 0 0,vS none 0 0,vS none 0 0,vS none 0 0]) (by simp[results,results58,go_sem]) rfl ?_;exact⟨rfl,yR.alloc lR _⟩
theorem Tryz.infoV:(tP.info? 33).map (fun i=>(i.zero,i.size,i.bytes))=some (some (.agg nV),7,128):=by kernel_rfl
theorem zLc (ty:TypeId) (w:World):(Builtin.append_ #[28,28] ty #[vS none 0 0,vS none 0 0]).run tP w=.ok (vS none 0 0) w:=by
 obtain⟨i,hi,c,b,a⟩:=Cp Tryz.infoV;simp[Builtin.append_,run_underlying underlying28,sizeOf,typeInfo,hi,Builtin.lenOf,Builtin.firstCells]
theorem zLw (w:World):Calls tP 57 #[vS none 0 0] w fun e w'=>e=.returned (vS none 0 0)/\bW w w':=by
 go_enter func57,ntmps57;go_wp2_with (refine Lib.wpList_append_run _ rfl _ _ 28 28 rfl (vS none 0 0) (vS none 0 0) rfl rfl (vS none 0 0) _ (zLc _ _) ?_);go_ret;exact⟨rfl,Bw _ _⟩
theorem zIm (w:World):Calls tP 15 #[vS none 0 0] w fun e w'=>e=.returned (.agg #[vI i6 6,vI i6 0,vT ⟨#[]⟩,vS none 0 0,vS none 0 0,vS none 0 0,vS none 0 0])/\bW w w':=by
 have hc:=zLw (w.alloc oG);have k0:=Bl w oG;have a:bW w (w.alloc oG):=yR.alloc lR _;go_enter func15,ntmps15;go_wp2_with fail;refine hc.mono ?_;rintro e w1 ⟨rfl,hb1⟩;clear hc;have k1:w1.heap[w.heap.size]?=some oG:=(hb1.block _ (by simp)).trans k0;have k:bW w w1:=a.trans (hb1.mono (by simp));clear k0 a hb1;obtain⟨e0,e1,e2,e3,e4,e5,e6⟩:=zAc k1;obtain⟨z0,z1,z2,z3,z4,z5,z6⟩:=zAd k1;go_wp2;refine nW fun V hV=>?_;have j:V.heap[w.heap.size]?=some (oV 6 0 ⟨#[]⟩ none 0 0 none 0 0 none 0 0 none 0 0):=by rw[hV];exact obj7 k1 (vI i6 6) (vI i6 0) (vT ⟨#[]⟩) (vS none 0 0) (vS none 0 0) (vS none 0 0) (vS none 0 0)
 have l:bW w V:=by rw[hV];exact Bu (Bu (Bu (Bu (Bu (Bu (Bu (k) (p:=(aH w 0)) lR _) (p:=(aH w 1)) lR _) (p:=(aH w 2)) lR _) (p:=(aH w 3)) lR _) (p:=(aH w 4)) lR _) (p:=(aH w 5)) lR _) (p:=(aH w 6)) lR _
 clear hV e0 z0 e1 z1 e2 z2 e3 z3 e4 z4 e5 z5 e6 z6;obtain⟨i,h,g,f,d,c,b⟩:=zAc j;refine Cw (v:=.agg #[vI i6 6,vI i6 0,vT ⟨#[]⟩,vS none 0 0,vS none 0 0,vS none 0 0,vS none 0 0]) (by simp[results,results15,go_sem,i,h,g,f,d,c,b]) rfl ?_;exact⟨rfl,l⟩
theorem obj2 {w:World}{g:Nat}{a b:Value}{t:TypeId}(hg:w.heap[g]?=some (.cells #[a,b] t (0,0))) (x y:Value):((w.setCell ⟨g,0,none⟩ x).setCell ⟨g,1,none⟩ y).heap[g]?=some (.cells #[x,y] t (0,0)):=by
 have h1:=Bm w g 0 _ _ x hg;have h2:=Bm _ g 1 _ _ y h1;simpa using h2
theorem zBe {h p g i:Nat}{w0 w:World}{x:Value}(hS:SrcOk h p w) (hE:Eff p w0 w) (hg:w0.heap.size<=g) (hp:p<g):SrcOk h p (w.setCell ⟨g,i,none⟩ x)/\Eff p w0 (w.setCell ⟨g,i,none⟩ x):=by
 have hb:Below (p+1) w (w.setCell (aD g i) x):=(Bw (p+1) w).setCell (p:=(aD g i)) hp _;refine⟨?_,hE.below.trans (hb.mono (by omega)),fun b hb' hl=>?_⟩
 ·obtain⟨A,n,c,q,h1,h2,h3,h4,h5⟩:=hS;exact⟨A,n,c,q,(hb.block p (by omega)).trans h1,h2,h3,h4,h5.on (hb.mono (by omega)) fun _ _ h=>h⟩
 ·rw[Bq _ _ _ _ (show b≠g by omega)];exact hE.other b hb' hl
theorem zKh {h p g:Nat}{w0 w:World}(hS:SrcOk h p w) (hE:Eff p w0 w) (hg:w0.heap.size<=g) (hp:p<g) (x y:Value):SrcOk h p ((w.setCell ⟨g,0,none⟩ x).setCell ⟨g,1,none⟩ y)/\Eff p w0 ((w.setCell ⟨g,0,none⟩ x).setCell ⟨g,1,none⟩ y):=by
 obtain⟨h1,h2⟩:=zBe (i:=0) (x:=x) hS hE hg hp;exact zBe h1 h2 hg hp
theorem zB9 {h p g:Nat}{w0 w:World}(hS:SrcOk h p w) (hE:Eff p w0 w) (hg:w0.heap.size<=g) (hp:p<g) (x0 x1 x2 x3 x4 x5 x6:Value) :
  SrcOk h p (((((((w.setCell ⟨g,0,none⟩ x0).setCell ⟨g,1,none⟩ x1).setCell ⟨g,2,none⟩ x2).setCell ⟨g,3,none⟩ x3).setCell ⟨g,4,none⟩ x4).setCell ⟨g,5,none⟩ x5).setCell ⟨g,6,none⟩ x6)/\Eff p w0 (((((((w.setCell ⟨g,0,none⟩ x0).setCell ⟨g,1,none⟩ x1).setCell ⟨g,2,none⟩ x2).setCell ⟨g,3,none⟩ x3).setCell ⟨g,4,none⟩ x4).setCell ⟨g,5,none⟩ x5).setCell ⟨g,6,none⟩ x6):=by
 obtain⟨a0,b0⟩:=zBe (i:=0) (x:=x0) hS hE hg hp;obtain⟨a1,b1⟩:=zBe (i:=1) (x:=x1) a0 b0 hg hp;obtain⟨a2,b2⟩:=zBe (i:=2) (x:=x2) a1 b1 hg hp;obtain⟨a3,b3⟩:=zBe (i:=3) (x:=x3) a2 b2 hg hp;obtain⟨a4,b4⟩:=zBe (i:=4) (x:=x4) a3 b3 hg hp;obtain⟨a5,b5⟩:=zBe (i:=5) (x:=x5) a4 b4 hg hp;exact zBe a5 b5 hg hp
def KeyN (x:Int×List UInt8):Prop:=(x.1=0/\AtomN x.2)\/(x.1=1/\WordN x.2)
theorem KeyN.ok {x:Int×List UInt8}(h:KeyN x):keyB x.1 x.2=true:=by
 obtain⟨k,s⟩:=x;rcases h with⟨rfl,h⟩|⟨rfl,h⟩
 ·rcases h with rfl|rfl|rfl|rfl<;>decide
 ·rcases h with rfl|rfl|rfl|rfl<;>decide
theorem AtomN.ok {s:List UInt8} (h:AtomN s):atomB s=true:=by rcases h with rfl|rfl|rfl|rfl<;>decide
theorem AtomN.len {s:List UInt8} (h:AtomN s):s.length<=5:=by rcases h with rfl|rfl|rfl|rfl<;>decide
theorem WordN.len {s:List UInt8} (h:WordN s):s.length<=5:=by rcases h with rfl|rfl|rfl|rfl<;>decide
theorem LabN.len {s:List UInt8} (h:LabN s):s.length<=5:=by rcases h with rfl|rfl|rfl<;>decide
theorem LabN.ok {s:List UInt8} (h:LabN s):varB s=true:=by rcases h with rfl|rfl|rfl<;>decide
theorem zRy (h p:Nat) (w:World) (hS:SrcOk h p w):Calls tP 96 #[.pointer (some (aD p 0))] w fun e w'=>(∃ x:Int×List UInt8,e=.returned (.agg #[vI i6 x.1,vT ⟨x.2.toArray⟩])/\KeyN x)/\SrcOk h p w'/\Eff p w w':=by
 have d:=hS.lt;have f:bW w (w.alloc (.cells #[vI i6 0,vT ⟨#[]⟩] 131)):=yR.alloc lR _;have hc:=zAh h p 2 _ (hS.below f) (by omega) (by omega);have k0:=Bl w (.cells #[vI i6 0,vT ⟨#[]⟩] 131);have i:=Eff.of_below f (Du d);go_enter func96,ntmps96;go_wp2_with fail;refine hc.mono ?_;rintro e w1 ⟨j,rfl,j0,j1,hS1,hE⟩;have k1:w1.heap[w.heap.size]?=some (.cells #[vI i6 0,vT ⟨#[]⟩] 131 (0,0)):=(hE.other _ (by omega) (by simp)).trans k0;have c:=i.trans hE;clear hc hE f i k0 hS;have hA:=zCm h p w1 hS1;have hW:=zFa h p w1 hS1;have k:=c.size;have g:=(Cv.1 k1).1;have hj:j=0\/j=1:=by omega
 rcases hj with rfl|rfl
 ·go_wp2_with fail;refine hA.mono ?_;rintro e w2 ⟨⟨s,rfl,hs⟩,hS2,hE2⟩;have k2:w2.heap[w.heap.size]?=some (.cells #[vI i6 0,vT ⟨#[]⟩] 131 (0,0)):=(hE2.other _ (by omega) g).trans k1;have HF:=xI (aN hS2 (c.trans hE2));have HK:=xI k2;have e0:w2.cell? (aH w 0)=some (vI i6 0):=cH k2 0;have e1:w2.cell? (aH w 1)=some (vT ⟨#[]⟩):=cH k2 1;have z0:=Bz k2 0;have z1:=Bz k2 1;clear hA hW k1 k2 hS1 hS2 c hE2;go_wp2;refine nW fun V hV=>?_;have b:V.heap[w.heap.size]?=some (.cells #[vI i6 0,vT ⟨s.toArray⟩] 131 (0,0)):=by rw[hV];exact obj2 HK.out (vI i6 0) (vT ⟨s.toArray⟩)
  have a:SrcOk h p V/\Eff p w V:=by rw[hV];exact zKh HF.out.1 HF.out.2 lR d _ _
  clear hV e0 e1 z0 z1;have e0:V.cell? (aH w 0)=some (vI i6 0):=cH b 0;have e1:V.cell? (aH w 1)=some (vT ⟨s.toArray⟩):=cH b 1;refine Cw (v:=.agg #[vI i6 0,vT ⟨s.toArray⟩]) (by simp[results,results96,go_sem,e0,e1]) rfl ?_;exact⟨⟨(0,s),rfl,.inl ⟨rfl,hs⟩⟩,a⟩
 ·go_wp2_with fail;refine hW.mono ?_;rintro e w2 ⟨⟨s,rfl,hs⟩,hS2,hE2⟩;have k2:w2.heap[w.heap.size]?=some (.cells #[vI i6 0,vT ⟨#[]⟩] 131 (0,0)):=(hE2.other _ (by omega) g).trans k1;have HF:=xI (aN hS2 (c.trans hE2));have HK:=xI k2;have e0:w2.cell? (aH w 0)=some (vI i6 0):=cH k2 0;have e1:w2.cell? (aH w 1)=some (vT ⟨#[]⟩):=cH k2 1;have z0:=Bz k2 0;have z1:=Bz k2 1;clear hA hW k1 k2 hS1 hS2 c hE2;go_wp2;refine nW fun V hV=>?_;have b:V.heap[w.heap.size]?=some (.cells #[vI i6 1,vT ⟨s.toArray⟩] 131 (0,0)):=by rw[hV];exact obj2 HK.out (vI i6 1) (vT ⟨s.toArray⟩)
  have a:SrcOk h p V/\Eff p w V:=by rw[hV];exact zKh HF.out.1 HF.out.2 lR d _ _
  clear hV e0 e1 z0 z1;have e0:V.cell? (aH w 0)=some (vI i6 1):=cH b 0;have e1:V.cell? (aH w 1)=some (vT ⟨s.toArray⟩):=cH b 1;refine Cw (v:=.agg #[vI i6 1,vT ⟨s.toArray⟩]) (by simp[results,results96,go_sem,e0,e1]) rfl ?_;exact⟨⟨(1,s),rfl,.inr ⟨rfl,hs⟩⟩,a⟩
def LeafN (k i:Int) (t:List UInt8):Prop:=k=1/\NumN i/\t=[]\/k=3/\i=0/\AtomN t\/k=2/\i=0/\WordN t\/k=4/\(0<=i/\i<=2)/\t=[]\/k=5/\i=0/\t=[]\/k=6/\i=0/\t=[]
theorem zB0 (h p:Nat) (w:World) (hS:SrcOk h p w):Calls tP 89 #[.pointer (some (aD p 0))] w fun e w'=>(∃ (k i:Int) (t:List UInt8),e=.returned (.agg (lfC k i t).toArray)/\LeafN k i t)/\SrcOk h p w'/\Eff p w w':=by
 have u:=hS.lt;have y:bW w (w.alloc oG):=yR.alloc lR _;have hc:=zAh h p 6 _ (hS.below y) (by omega) (by omega);have k0:=Bl w oG;have A:=Eff.of_below y (Du u);go_enter func89,ntmps89;go_wp2_with fail;refine hc.mono ?_;rintro e w1 ⟨j,rfl,j0,j1,hS1,hE⟩;have k1:w1.heap[w.heap.size]?=some oG:=(hE.other _ (by omega) (by simp)).trans k0;have z:=A.trans hE;clear hc hE y A k0 hS;have B:=z.size;have r:=(Cv.1 k1).1;have HA:=xI (aN k1 (aN hS1 z));clear k1 z;have hj:j=0\/j=1\/j=2\/j=3\/j=4\/j=5:=by omega
 rcases hj with rfl|rfl|rfl|rfl|rfl|rfl
 ·have hN:=zLg h p w1 HA.out.2.1;go_wp2_with fail;refine hN.mono ?_;rintro e w2 ⟨⟨x,rfl,hv⟩,hS2,hE2⟩;have b:=xI (aN ((hE2.other _ (by omega) r).trans HA.out.1) (aN hS2 (HA.out.2.2.trans hE2)));clear hN;have hR:=zCo x w2;have q:=Bj r hE2.size;clear hS2 hE2;go_wp2_with fail;refine hR.mono ?_;rintro e w3 ⟨rfl,hb3⟩;have HB:Hid (w3.heap[w.heap.size]?=some oG/\SrcOk h p w3/\Eff p w w3):=xI ⟨(hb3.block _ q).trans b.out.1,b.out.2.1.below hb3,b.out.2.2.trans (Eff.of_below hb3 (by omega))⟩;clear hR hb3;have k1:w3.heap[w.heap.size]?=some oG:=HB.out.1;obtain⟨e0,e1,e2,e3,e4,e5,e6⟩:=zAc k1;obtain⟨z0,z1,z2,z3,z4,z5,z6⟩:=zAd k1;clear k1;go_wp2;refine nW fun V hV=>?_;have o:V.heap[w.heap.size]?=some (oV 1 x ⟨#[]⟩ none 0 0 none 0 0 none 0 0 none 0 0):=by rw[hV];exact obj7 HB.out.1 (vI i6 1) (vI i6 x) (vT ⟨#[]⟩) (vS none 0 0) (vS none 0 0) (vS none 0 0) (vS none 0 0)
  have a:SrcOk h p V/\Eff p w V:=by rw[hV];exact zB9 HB.out.2.1 HB.out.2.2 lR u _ _ _ _ _ _ _
  clear hV e0 z0 e1 z1 e2 z2 e3 z3 e4 z4 e5 z5 e6 z6;obtain⟨n,m,l,g,f,d,c⟩:=zAc o;refine Cw (v:=.agg #[vI i6 1,vI i6 x,vT ⟨#[]⟩,vS none 0 0,vS none 0 0,vS none 0 0,vS none 0 0]) (by simp[results,results89,go_sem,n,m,l,g,f,d,c]) rfl ?_;exact⟨⟨1,x,[],rfl,by unfold LeafN;simp[hv]⟩,a⟩
 ·have hN:=zCm h p w1 HA.out.2.1;go_wp2_with fail;refine hN.mono ?_;rintro e w2 ⟨⟨s,rfl,hv⟩,hS2,hE2⟩;have b:=xI (aN ((hE2.other _ (by omega) r).trans HA.out.1) (aN hS2 (HA.out.2.2.trans hE2)));clear hN;have hR:=zD3 s w2;have q:=Bj r hE2.size;clear hS2 hE2;go_wp2_with fail;refine hR.mono ?_;rintro e w3 ⟨rfl,hb3⟩;have HB:Hid (w3.heap[w.heap.size]?=some oG/\SrcOk h p w3/\Eff p w w3):=xI ⟨(hb3.block _ q).trans b.out.1,b.out.2.1.below hb3,b.out.2.2.trans (Eff.of_below hb3 (by omega))⟩;clear hR hb3;have k1:w3.heap[w.heap.size]?=some oG:=HB.out.1;obtain⟨e0,e1,e2,e3,e4,e5,e6⟩:=zAc k1;obtain⟨z0,z1,z2,z3,z4,z5,z6⟩:=zAd k1;clear k1;go_wp2;refine nW fun V hV=>?_;have o:V.heap[w.heap.size]?=some (oV 3 0 ⟨s.toArray⟩ none 0 0 none 0 0 none 0 0 none 0 0):=by rw[hV];exact obj7 HB.out.1 (vI i6 3) (vI i6 0) (vT ⟨s.toArray⟩) (vS none 0 0) (vS none 0 0) (vS none 0 0) (vS none 0 0)
  have a:SrcOk h p V/\Eff p w V:=by rw[hV];exact zB9 HB.out.2.1 HB.out.2.2 lR u _ _ _ _ _ _ _
  clear hV e0 z0 e1 z1 e2 z2 e3 z3 e4 z4 e5 z5 e6 z6;obtain⟨n,m,l,g,f,d,c⟩:=zAc o;refine Cw (v:=.agg #[vI i6 3,vI i6 0,vT ⟨s.toArray⟩,vS none 0 0,vS none 0 0,vS none 0 0,vS none 0 0]) (by simp[results,results89,go_sem,n,m,l,g,f,d,c]) rfl ?_;exact⟨⟨3,0,s,rfl,by unfold LeafN;simp[hv]⟩,a⟩
 ·have hN:=zFa h p w1 HA.out.2.1;go_wp2_with fail;refine hN.mono ?_;rintro e w2 ⟨⟨s,rfl,hv⟩,hS2,hE2⟩;have b:=xI (aN ((hE2.other _ (by omega) r).trans HA.out.1) (aN hS2 (HA.out.2.2.trans hE2)));clear hN;have hR:=zCw s w2;have q:=Bj r hE2.size;clear hS2 hE2;go_wp2_with fail;refine hR.mono ?_;rintro e w3 ⟨rfl,hb3⟩;have HB:Hid (w3.heap[w.heap.size]?=some oG/\SrcOk h p w3/\Eff p w w3):=xI ⟨(hb3.block _ q).trans b.out.1,b.out.2.1.below hb3,b.out.2.2.trans (Eff.of_below hb3 (by omega))⟩;clear hR hb3;have k1:w3.heap[w.heap.size]?=some oG:=HB.out.1;obtain⟨e0,e1,e2,e3,e4,e5,e6⟩:=zAc k1;obtain⟨z0,z1,z2,z3,z4,z5,z6⟩:=zAd k1;clear k1;go_wp2;refine nW fun V hV=>?_;have o:V.heap[w.heap.size]?=some (oV 2 0 ⟨s.toArray⟩ none 0 0 none 0 0 none 0 0 none 0 0):=by rw[hV];exact obj7 HB.out.1 (vI i6 2) (vI i6 0) (vT ⟨s.toArray⟩) (vS none 0 0) (vS none 0 0) (vS none 0 0) (vS none 0 0)
  have a:SrcOk h p V/\Eff p w V:=by rw[hV];exact zB9 HB.out.2.1 HB.out.2.2 lR u _ _ _ _ _ _ _
  clear hV e0 z0 e1 z1 e2 z2 e3 z3 e4 z4 e5 z5 e6 z6;obtain⟨n,m,l,g,f,d,c⟩:=zAc o;refine Cw (v:=.agg #[vI i6 2,vI i6 0,vT ⟨s.toArray⟩,vS none 0 0,vS none 0 0,vS none 0 0,vS none 0 0]) (by simp[results,results89,go_sem,n,m,l,g,f,d,c]) rfl ?_;exact⟨⟨2,0,s,rfl,by unfold LeafN;simp[hv]⟩,a⟩
 ·have hN:=zAh h p 3 w1 HA.out.2.1 (by omega) (by omega);go_wp2_with fail;refine hN.mono ?_;rintro e w2 ⟨x,rfl,x0,x1,hS2,hE2⟩;have b:=xI (aN ((hE2.other _ (by omega) r).trans HA.out.1) (aN hS2 (HA.out.2.2.trans hE2)));have hR:=zGu x w2;have q:=Bj r hE2.size;clear hN hS2 hE2;go_wp2_with fail;refine hR.mono ?_;rintro e w3 ⟨rfl,hb3⟩;have HB:Hid (w3.heap[w.heap.size]?=some oG/\SrcOk h p w3/\Eff p w w3):=xI ⟨(hb3.block _ q).trans b.out.1,b.out.2.1.below hb3,b.out.2.2.trans (Eff.of_below hb3 (by omega))⟩;clear hR hb3;have k1:w3.heap[w.heap.size]?=some oG:=HB.out.1;obtain⟨e0,e1,e2,e3,e4,e5,e6⟩:=zAc k1;obtain⟨z0,z1,z2,z3,z4,z5,z6⟩:=zAd k1;clear k1;go_wp2;refine nW fun V hV=>?_;have o:V.heap[w.heap.size]?=some (oV 4 x ⟨#[]⟩ none 0 0 none 0 0 none 0 0 none 0 0):=by rw[hV];exact obj7 HB.out.1 (vI i6 4) (vI i6 x) (vT ⟨#[]⟩) (vS none 0 0) (vS none 0 0) (vS none 0 0) (vS none 0 0)
  have a:SrcOk h p V/\Eff p w V:=by rw[hV];exact zB9 HB.out.2.1 HB.out.2.2 lR u _ _ _ _ _ _ _
  clear hV e0 z0 e1 z1 e2 z2 e3 z3 e4 z4 e5 z5 e6 z6;obtain⟨n,m,l,g,f,d,c⟩:=zAc o;refine Cw (v:=.agg #[vI i6 4,vI i6 x,vT ⟨#[]⟩,vS none 0 0,vS none 0 0,vS none 0 0,vS none 0 0]) (by simp[results,results89,go_sem,n,m,l,g,f,d,c]) rfl ?_;exact⟨⟨4,x,[],rfl,by unfold LeafN;have:=x0;have:=x1;simp;omega⟩,a⟩
 ·have hR:=zBj w1;have q:=r;have b:=HA;go_wp2_with fail;refine hR.mono ?_;rintro e w3 ⟨rfl,hb3⟩;have HB:Hid (w3.heap[w.heap.size]?=some oG/\SrcOk h p w3/\Eff p w w3):=xI ⟨(hb3.block _ q).trans b.out.1,b.out.2.1.below hb3,b.out.2.2.trans (Eff.of_below hb3 (by omega))⟩;clear hR hb3;have k1:w3.heap[w.heap.size]?=some oG:=HB.out.1;obtain⟨e0,e1,e2,e3,e4,e5,e6⟩:=zAc k1;obtain⟨z0,z1,z2,z3,z4,z5,z6⟩:=zAd k1;clear k1;go_wp2;refine nW fun V hV=>?_;have o:V.heap[w.heap.size]?=some (oV 5 0 ⟨#[]⟩ none 0 0 none 0 0 none 0 0 none 0 0):=by rw[hV];exact obj7 HB.out.1 (vI i6 5) (vI i6 0) (vT ⟨#[]⟩) (vS none 0 0) (vS none 0 0) (vS none 0 0) (vS none 0 0)
  have a:SrcOk h p V/\Eff p w V:=by rw[hV];exact zB9 HB.out.2.1 HB.out.2.2 lR u _ _ _ _ _ _ _
  clear hV e0 z0 e1 z1 e2 z2 e3 z3 e4 z4 e5 z5 e6 z6;obtain⟨n,m,l,g,f,d,c⟩:=zAc o;refine Cw (v:=.agg #[vI i6 5,vI i6 0,vT ⟨#[]⟩,vS none 0 0,vS none 0 0,vS none 0 0,vS none 0 0]) (by simp[results,results89,go_sem,n,m,l,g,f,d,c]) rfl ?_;exact⟨⟨5,0,[],rfl,by unfold LeafN;simp⟩,a⟩
 ·have hR:=zIm w1;have q:=r;have b:=HA;go_wp2_with fail;refine hR.mono ?_;rintro e w3 ⟨rfl,hb3⟩;have HB:Hid (w3.heap[w.heap.size]?=some oG/\SrcOk h p w3/\Eff p w w3):=xI ⟨(hb3.block _ q).trans b.out.1,b.out.2.1.below hb3,b.out.2.2.trans (Eff.of_below hb3 (by omega))⟩;clear hR hb3;have k1:w3.heap[w.heap.size]?=some oG:=HB.out.1;obtain⟨e0,e1,e2,e3,e4,e5,e6⟩:=zAc k1;obtain⟨z0,z1,z2,z3,z4,z5,z6⟩:=zAd k1;clear k1;go_wp2;refine nW fun V hV=>?_;have o:V.heap[w.heap.size]?=some (oV 6 0 ⟨#[]⟩ none 0 0 none 0 0 none 0 0 none 0 0):=by rw[hV];exact obj7 HB.out.1 (vI i6 6) (vI i6 0) (vT ⟨#[]⟩) (vS none 0 0) (vS none 0 0) (vS none 0 0) (vS none 0 0)
  have a:SrcOk h p V/\Eff p w V:=by rw[hV];exact zB9 HB.out.2.1 HB.out.2.2 lR u _ _ _ _ _ _ _
  clear hV e0 z0 e1 z1 e2 z2 e3 z3 e4 z4 e5 z5 e6 z6;obtain⟨n,m,l,g,f,d,c⟩:=zAc o;refine Cw (v:=.agg #[vI i6 6,vI i6 0,vT ⟨#[]⟩,vS none 0 0,vS none 0 0,vS none 0 0,vS none 0 0]) (by simp[results,results89,go_sem,n,m,l,g,f,d,c]) rfl ?_;exact⟨⟨6,0,[],rfl,by unfold LeafN;simp⟩,a⟩
theorem zDq:∀ {a b:List UInt8},bl a b=true->cmpT a b<0
 | [],[],h=>by simp[zCg]at h
 | [],_::_,_=>by simp[cmpT]
 | _::_,[],h=>by rw[zJ9]at h;cases h
 | x::s,y::t,h=>by
  rcases (zH6 x y s t).1 h with h'|⟨rfl,h'⟩
  ·have h1:=Em.1 h';have h2:cmpI (x.toNat:Int) y.toNat=-1:=by unfold cmpI;rw[if_pos (by omega)]
   simp[cmpT,h2,thn]
  ·have:=zDq h';have h2:cmpI (x.toNat:Int) x.toNat=0:=by unfold cmpI;simp
   simpa [cmpT,h2,thn] using this
theorem zJs {ss:List (List UInt8)}(h:∀ x,x∈ss->LabN x):zAj (srt ss)=true:=by
 unfold zAj;rw[Cy,Cz,decide_eq_true_iff];exact⟨fun x hx=>(h x ((zBq ss x).1 hx)).ok,List.Pairwise.imp (fun h=>zDq h) (zD2 ss)⟩
theorem OwnN.eff {p:Nat}{w w':World}{B:Nat}{v:Value}{ss:List Strg}(h:OwnN w B v ss) (hE:Eff p w w') (hp:p<B):OwnN w' B v ss:=by
 refine⟨h.1,?_⟩;rcases h.2 with hn|⟨g,cap,cur,rfl,hB,hg,rest⟩
 ·exact .inl hn
 ·exact .inr ⟨g,cap,cur,rfl,hB,(hE.other g (by omega) (Cv.1 hg).1).trans hg,rest⟩
theorem SrcOk.below3 {h p B:Nat}{w w':World}(hs:SrcOk h p w) (hb:Below B w w') (hp:p<B):SrcOk h p w':=by
 have hl:=hs.lt;obtain⟨A,n,c,q,h1,h2,h3,h4,h5⟩:=hs;exact⟨A,n,c,q,(hb.block p hp).trans h1,h2,h3,h4,h5.on (hb.mono (by omega)) fun _ _ h=>h⟩
theorem Eff.grow {p:Nat}{w w1 w2:World}(h:Eff p w w1) (hb:Below w.heap.size w1 w2) (hp:p<w.heap.size):Eff p w w2:=
 ⟨h.below.trans (hb.mono (by omega)),fun b hb' hl=>(hb.block b hl).trans (h.other b hb' hl)⟩
def LabsR (h p:Nat) (w:World) (e:Ending) (w':World):Prop:=
 (∃ A n c,∃ ls:List (List UInt8),e=.returned (vS A n c)/\ls.length=n/\n<=2/\zAj ls=true/\(∀ x,x∈ls->LabN x)/\RowB w' (Btw w.heap.size w'.heap.size) 1 (vS A n c) n (fun j cs=>∃ x,ls[j]?=some x/\cs=[vT ⟨x.toArray⟩]/\x.length<=maxLen))/\SrcOk h p w'/\Eff p w w'
theorem zFj {h p:Nat}{w wc w9:World}{ss:List Strg}{A:Option Addr}{c:Nat}(ha:∀ x,x∈ss->LabN x) (hl:ss.length<=2) (hS:SrcOk h p wc) (hE:Eff p w wc) (hlp:p<w.heap.size)
  (ho:OwnN w9 wc.heap.size (vS A (srt ss).length c) (srt ss)) (hb:bW wc w9):LabsR h p w (.returned (vS A (srt ss).length c)) w9:=by
 have hn:(srt ss).length<=2:=Ba (zB4 ss) hl;have hs:=hE.size;refine⟨⟨A,_,c,srt ss,rfl,rfl,hn,zJs ha,fun x hx=>ha x ((zBq ss x).1 hx),?_⟩,hS.below hb,hE.trans (Eff.of_below hb (by omega))⟩;refine zCu ho (by unfold maxLen;omega) (fun g _ h1 h2=>⟨by omega,h2⟩) (fun j hj=>?_) (by omega);refine⟨(srt ss)[j],By hj,?_,?_⟩
 ·apply Dq;intro i
  match i with
  | 0=>rw[Co (by omega),C7];simp[encStr,By hj]
  | i+1=>rw[List.getElem?_take_eq_none (by omega),Ce (by simp)]
 ·have:=(ha _ ((zBq ss _).1 (Cx hj))).len;unfold maxLen;omega
theorem zDn (h p:Nat) (w:World) (hS:SrcOk h p w):Calls tP 56 #[.pointer (some (aD p 0))] w (LabsR h p w):=by
 have c:=hS.lt;have hc:=zAh h p 3 _ hS (by omega) (by omega);go_enter func56,ntmps56;go_wp2_with fail;refine hc.mono ?_;rintro e w1 ⟨j,rfl,j0,j1,hS1,hE1⟩;have u:=hE1.size;clear hc hS;have HA:=xI (aN hS1 hE1);clear hS1 hE1;have hj:j=0\/j=1\/j=2:=by omega
 rcases hj with rfl|rfl|rfl
 ·have hT:=zBo none 0 0 [] w1 (NmS.nil _ _ _) (by omega);go_wp2_with fail;refine hT.mono ?_;rintro e w9 ⟨A',c',rfl,ho,hb⟩;clear hT;have a:=xI (zFj (by simp) (by simp) HA.out.1 HA.out.2 c ho hb);clear ho hb;go_wp2;go_ret;exact a.out
 ·have hL:=zF2 h p w1 HA.out.1;go_wp2_with fail;refine hL.mono ?_;rintro e w2 ⟨⟨s,rfl,hs⟩,hS2,hE2⟩;have r:=hE2.size;have HB:=xI (aN hS2 (HA.out.2.trans hE2));clear hL hS2 hE2;go_wp2_with (refine zKc rfl _ _ rfl w.heap.size (vS none 0 0) [] rfl (OwnN.nil _ _) [s] 1 1 rfl #[vT ⟨s.toArray⟩] rfl _ rfl rfl (by simp) (by omega) ?_);intro v3 w3 ho3 hb3;have q:=hb3.size;have b:SrcOk h p w3/\Eff p w w3:=⟨HB.out.1.below3 hb3 (by omega),HB.out.2.grow hb3 c⟩;clear hb3;have f:OwnN w3 w.heap.size v3 [s]:=ho3;clear ho3;obtain⟨A3,c3,l⟩:∃ A3 c3,v3=vS A3 1 c3:=f.form;subst l;have HC:=xI b;have HO:=xI f;clear b f;have i:=zAh h p 2 w3 HC.out.1 (by omega) (by omega);go_wp2_with fail;refine i.mono ?_;rintro e w4 ⟨j,rfl,j0,j1,hS4,hE4⟩;have o:=hE4.size;have HD:=xI (aN hS4 (aN (HC.out.2.trans hE4) (HO.out.eff hE4 c)));clear i hS4 hE4;have hj:j=0\/j=1:=by omega
  rcases hj with rfl|rfl
  ·have hT:=zBo A3 1 c3 [s] w4 (HD.out.2.2.rng (by intro x hx;simp at hx;subst hx;have:=hs.len;unfold maxLen;omega)) (by omega);go_wp2_with fail;refine hT.mono ?_;rintro e w9 ⟨A',c',rfl,ho,hb⟩;clear hT;have a:=xI (zFj (by intro x hx;simp at hx;subst hx;exact hs) (by simp) HD.out.1 HD.out.2.1 c ho hb);clear ho hb;go_wp2;go_ret;exact a.out
  ·have hL:=zF2 h p w4 HD.out.1;go_wp2_with fail;refine hL.mono ?_;rintro e w5 ⟨⟨t,rfl,ht⟩,hS5,hE5⟩;have n:=hE5.size;have HF:=xI (aN hS5 (aN (HD.out.2.1.trans hE5) (HD.out.2.2.eff hE5 c)));clear hL hS5 hE5;go_wp2_with (refine zKc rfl _ _ rfl w.heap.size (vS A3 1 c3) [s] rfl HF.out.2.2 [t] 1 1 rfl #[vT ⟨t.toArray⟩] rfl _ rfl rfl (by simp) (by omega) ?_);intro v6 w6 ho6 hb6;have m:=hb6.size;have g:∀ x,x∈[s,t]->LabN x:=by
    intro x hx;simp at hx;rcases hx with rfl|rfl<;>assumption
   have b:SrcOk h p w6/\Eff p w w6:=⟨HF.out.1.below3 hb6 (by omega),HF.out.2.1.grow hb6 c⟩;clear hb6;have d:OwnN w6 w.heap.size v6 [s,t]:=ho6;clear ho6;obtain⟨A6,c6,k⟩:∃ A6 c6,v6=vS A6 2 c6:=d.form;subst k;have HG:=xI (aN b d);clear b d;have hT:=zBo A6 2 c6 [s,t] w6 (HG.out.2.rng (fun x hx=>by have:=(g x hx).len;unfold maxLen;omega)) (by omega);go_wp2_with fail;refine hT.mono ?_;rintro e w9 ⟨A',c',rfl,ho,hb⟩;clear hT;have a:=xI (zFj g (by simp) HG.out.1.1 HG.out.1.2 c ho hb);clear ho hb;go_wp2;go_ret;exact a.out
 ·have hT:=zBo none 0 0 [] w1 (NmS.nil _ _ _) (by omega);go_wp2_with fail;refine hT.mono ?_;rintro e w9 ⟨A',c',rfl,ho,hb⟩;clear hT;have a:=xI (zFj (by simp) (by simp) HA.out.1 HA.out.2 c ho hb);clear ho hb;go_wp2;go_ret;exact a.out
structure ElK (α:Type) where
 E:α->World->(Nat->Prop)->List Value->Prop
 keep:∀ {x w w' B cs},Same B w w'->E x w B cs->E x w' B cs
 sub:∀ {x w B B' cs},(∀ b,B b->B' b)->E x w B cs->E x w B' cs
def OwnE {α:Type}(K:ElK α) (e:TypeId) (c:Nat) (w:World) (base:Nat) (v:Value) (l:List α):Prop:=
 ∃ xs,w.ownsRow base e c v l.length xs/\∀ j x,l[j]?=some x->K.E x w (fun b=>base<=b/\b<w.heap.size/\some b≠v.ownBlock) ((xs.drop (j*c)).take c)
theorem OwnE.nil {α:Type}(K:ElK α) (e:TypeId) (c:Nat) (w:World) (base:Nat):OwnE K e c w base (vS none 0 0) []:=⟨[],World.ownsRow_nil _ _ _ _,fun j x h=>by simp at h⟩
theorem OwnE.form {α:Type}{K:ElK α}{e:TypeId}{c:Nat}{w:World}{base:Nat}{v:Value}{l:List α}(h:OwnE K e c w base v l):∃ A cap,v=vS A l.length cap:=by
 obtain⟨xs,⟨_,hc⟩,_⟩:=h;rcases hc with⟨rfl,hn⟩|⟨g,cap,a,rfl,_⟩
 ·exact⟨none,0,by rw[hn]⟩
 ·exact⟨_,cap,rfl⟩
theorem OwnE.row {α:Type}{K:ElK α}{e:TypeId}{c:Nat}{w:World}{base:Nat}{v:Value}{l:List α}(h:OwnE K e c w base v l) (hc:0<c) (hn:l.length<=maxLen) :
  RowB w (Btw base w.heap.size) c v l.length (fun j cs=>∃ x,l[j]?=some x/\K.E x w (Btw base w.heap.size) cs):=by
 obtain⟨xs,ho,hx⟩:=h;exact zCu ho hn (fun g _ h1 h2=>⟨h1,h2⟩) (fun j hj=>⟨l[j],By hj,K.sub (fun b hb=>⟨hb.1,hb.2.1⟩) (hx j _ (By hj))⟩) hc
theorem OwnE.kept {α:Type}{K:ElK α}{e:TypeId}{c:Nat}{w w':World}{base:Nat}{v:Value}{l:List α}(h:OwnE K e c w base v l) (hs:w.heap.size<=w'.heap.size) (hb:∀ b,base<=b->b<w.heap.size->w'.heap[b]?=w.heap[b]?):OwnE K e c w' base v l:=by
 obtain⟨xs,ho,hx⟩:=h;refine⟨xs,⟨ho.1,?_⟩,fun j x hj=>K.sub (fun b hb=>⟨hb.1,by have:=hb.2.1;omega,hb.2.2⟩) (K.keep ⟨hs,fun b i hB hl=>Bi (hb b hB.1 hl)⟩ (hx j x hj))⟩;rcases ho.2 with hn|⟨g,cap,cur,rfl,hB,hg,rest⟩
 ·exact .inl hn
 ·exact .inr ⟨g,cap,cur,rfl,hB,(hb g hB (Cv.1 hg).1).trans hg,rest⟩
theorem OwnE.eff {α:Type}{K:ElK α}{e:TypeId}{c p:Nat}{w w':World}{base:Nat}{v:Value}{l:List α}(h:OwnE K e c w base v l) (hE:Eff p w w') (hp:p<base):OwnE K e c w' base v l:=
 h.kept hE.size fun b h1 h2=>hE.other b (by omega) h2
theorem OwnE.old {α:Type}{K:ElK α}{e:TypeId}{c:Nat}{w w':World}{base:Nat}{v:Value}{l:List α}(h:OwnE K e c w base v l) (hb:bW w w'):OwnE K e c w' base v l:=
 h.kept hb.size fun b _ h2=>hb.block b h2
theorem OwnE.low {α:Type}{K:ElK α}{e:TypeId}{c:Nat}{w:World}{base g i:Nat}{v u:Value}{l:List α}(h:OwnE K e c w base v l) (hg:g<base):OwnE K e c (w.setCell ⟨g,i,none⟩ u) base v l:=
 h.kept (by simp) fun b h1 _=>Bq _ _ _ _ (show b≠g by omega)
theorem zBi {α:Type}(K:ElK α) (t ty:TypeId) (e:TypeId) (i:TypeInfo) (z:Value) (c bytes:Nat) (ht:tP.underlying t=some (.slice e)) (hi:tP.info? e=some i) (hz:i.zero=some z)
  (hsize:i.size=c) (hby:i.bytes=bytes) (hzs:z.cells.size=c) (hc:0<c) (hb8:bytes<=1000)
  (w0:World) (base:Nat) (v:Value) (l:List α) (h:OwnE K e c w0 base v l) (x:α) (cs:List Value) (hx:K.E x w0 (fun b=>base<=b/\b<w0.heap.size/\some b≠v.ownBlock) cs) (hcs:cs.length=c) (h1c:∀ u∈cs,u.oneCell'=true)
  (hn:l.length<=300000000) (hbase:base<=w0.heap.size) (H:Nat) (hH:w0.heap.size=H) (cap1:Nat) :
  ∃ g cap w',(Builtin.append_ #[t,t] ty #[v,vS (some (aD H 0)) 1 cap1]).run tP (w0.alloc (.cells cs.toArray e))=.ok (vS (some (aD g 0)) (l.length+1) cap) w' /\
   OwnE K e c w' base (vS (some (aD g 0)) (l.length+1) cap) (l++[x])/\Below base w0 w'/\(∀ b,b<w0.heap.size->some b≠v.ownBlock->w'.heap[b]?=w0.heap[b]?)/\(v.ownBlock=some g\/H<=g):=by
 subst hH;obtain⟨xs,ho,o⟩:=h;have n:(w0.alloc (.cells cs.toArray e)).heap.size=w0.heap.size+1:=by simp
 obtain⟨g,cap,w',hr,h2,h3,h4,h5⟩:=run_append_lies (P:=tP) (w:=w0.alloc (.cells cs.toArray e)) t ty base e i z c bytes ht hi hz hsize hby hzs hc v l.length xs (World.ownsRow.alloc ho _) (aH w0 0) 1 cap1 cs (by simpa using hcs)
  (World.news_of_block (cs:=cs.toArray) (Bl w0 _)) h1c (by omega) (by unfold maxLen;omega) (Ba (Nat.mul_le_mul (show l.length+1<=300000001 by omega) hb8) (by omega)) (by omega) _ n
 have a:∀ b,b<w0.heap.size->some b≠v.ownBlock->w'.heap[b]?=w0.heap[b]?:=fun b hb hne=>(h3.block b (by omega) hne).trans (Bp _ _ _ hb);have f:∀ b,v.ownBlock=some b->base<=b/\b<w0.heap.size:=by
  intro b hb;rcases ho.2 with⟨rfl,_⟩|⟨g',s,D,rfl,hB,hg,_⟩
  ·simp[Value.ownBlock]at hb
  ·simp[Value.ownBlock]at hb;subst hb;exact⟨hB,(Cv.1 hg).1⟩
 have B:=h3.size;have m:Same (fun b=>base<=b/\b<w0.heap.size/\some b≠v.ownBlock) w0 w':=⟨by omega,fun b i hB hl=>Bi (a b hl hB.2.2)⟩;have d:∀ b,(base<=b/\b<w0.heap.size/\some b≠v.ownBlock)->(base<=b/\b<w'.heap.size/\some b≠(vS (some (aD g 0)) (l.length+1) cap).ownBlock):=by
  intro b ⟨a1,a2,a3⟩;refine⟨a1,by omega,?_⟩;simp only[Value.ownBlock,ne_eq,Cq];intro e;rcases h4 with h4|h4
  ·exact a3 (by rw[h4,e])
  ·omega
 have p:(l++[x]).length=l.length+1:=by simp
 refine⟨g,cap,w',hr,⟨xs++cs,by rw[p];exact h2,fun j y hj=>?_⟩,((Bw base w0).alloc hbase _).grown h3 (by omega) (fun k hk=>(f k hk).1),a,h4.imp_right fun h=>by omega⟩;have C:j<l.length+1:=by have:=(Bx.1 hj).1;omega
 by_cases hjn:j<l.length
 ·rw[Dt hjn]at hj;have q:(j+1)*c<=l.length*c:=Di c hjn;rw[C6,Nat.one_mul]at q;have A:=ho.1;rw[show ((xs++cs).drop (j*c)).take c=(xs.drop (j*c)).take c by rw[List.drop_append_of_le_length (by omega),Fk (by rw[Cc];omega)]];exact K.sub d (K.keep m (o j y hj))
 ·have r:j=l.length:=by omega
  subst r;rw[Dw lR,Nat.sub_self]at hj;simp only[D0,Cq]at hj;subst hj;rw[<-ho.1,List.drop_left,<-hcs,Ek];exact K.sub d (K.keep m hx)
def elV (k:Nat):ElK Vl:=⟨fun x w B cs=>VB k w B x cs,fun h h'=>VB.keep h h',fun h h'=>VB.sub h lR h'⟩
def elK:ElK (Int×List UInt8):=⟨fun x _ _ cs=>cs=[vI i6 x.1,vT ⟨x.2.toArray⟩]/\(Lit.int .i64 x.1).wf=true/\x.2.length<=maxLen,fun _ h=>h,fun _ h=>h⟩
def EnB (k:Nat) (x:En) (w:World) (B:Nat->Prop) (cs:List Value):Prop:=
 ∃ args fails result,x=.mk args fails result/\∃ ua rs,cs=ua::.bool fails::rs/\RowB w B 7 ua args.length (fun j cs=>∃ x,args[j]?=some x/\VB k w B x cs)/\VB k w B result rs
def elE (k:Nat):ElK En:=⟨EnB k,fun hs ⟨a,f,r,h1,ua,rs,h2,h3,h4⟩=>⟨a,f,r,h1,ua,rs,h2,h3.keep hs fun _ _ ⟨x,hx,hv⟩=>⟨x,hx,VB.keep hs hv⟩,VB.keep hs h4⟩,fun hs ⟨a,f,r,h1,ua,rs,h2,h3,h4⟩=>⟨a,f,r,h1,ua,rs,h2,h3.sub hs fun _ _ ⟨x,hx,hv⟩=>⟨x,hx,VB.sub hs lR hv⟩,VB.sub hs lR h4⟩⟩
abbrev OwnV (k:Nat) (w:World) (base:Nat) (v:Value) (l:List Vl):Prop:=OwnE (elV k) 33 7 w base v l
abbrev OwnK (w:World) (base:Nat) (v:Value) (l:List (Int×List UInt8)):Prop:=OwnE elK 131 2 w base v l
abbrev OwnEn (k:Nat) (w:World) (base:Nat) (v:Value) (l:List En):Prop:=OwnE (elE k) 68 9 w base v l
theorem Tryz.infoK:(tP.info? 131).map (fun i=>(i.zero,i.size,i.bytes))=some (some (.agg #[vI i6 0,vT ⟨#[]⟩]),2,24):=by kernel_rfl
theorem Tryz.infoE:(tP.info? 68).map (fun i=>(i.zero,i.size,i.bytes))=some (some (.agg #[vS none 0 0,.bool false,vI i6 0,vI i6 0,vT ⟨#[]⟩,vS none 0 0,vS none 0 0,vS none 0 0,vS none 0 0]),9,160):=by kernel_rfl
theorem zOo {ops:Array Oper}{rest:List Oper}{o:Oper}{a:Act}{Q:Exit->Act->World->Prop}{w0:World}(hgd:o.guard=none) (s x:Operand)
  (ho:o.op=.call { callee:=.builtin .append,args:=#[s,x],argTypes:=#[28,28] }) (k:Nat) (base:Nat) (v:Value) (l:List Vl) (hs:a.eval s=v) (hown:OwnV k w0 base v l)
  (y:Vl) (cs:List Value) (cap1:Nat) (H:Nat) (hH:w0.heap.size=H) (hx:a.eval x=vS (some (aD H 0)) 1 cap1) (cells:Array Value) (hcells:cells=cs.toArray)
  (hy:(elV k).E y w0 (fun b=>base<=b/\b<w0.heap.size/\some b≠v.ownBlock) cs) (hcs:cs.length=7) (h1c:∀ u∈cs,u.oneCell'=true) (hn:l.length<=300000000) (hbase:base<=w0.heap.size)
  (h:∀ g cap w',OwnV k w' base (vS (some (aD g 0)) (l.length+1) cap) (l++[y])->Below base w0 w'->(∀ b,b<w0.heap.size->some b≠v.ownBlock->w'.heap[b]?=w0.heap[b]?)->(v.ownBlock=some g\/H<=g)->wpList tP ops Q rest (a.put o.dst (vS (some (aD g 0)) (l.length+1) cap)) w') :
  wpList tP ops Q (o::rest) a (w0.alloc (.cells cells 33)):=by
 subst hcells;obtain⟨i0,hi,e,d,c⟩:=Cp Tryz.infoV;obtain⟨g,cap,w',h1,h2,h3,h4,h5⟩:=zBi (elV k) 28 o.type 33 i0 (.agg nV) 7 128 underlying28 hi e d c rfl (by decide) (by decide) w0 base v l hown y cs hy hcs h1c hn hbase H hH cap1;exact Lib.wpList_append_run _ hgd s x 28 28 ho v _ hs hx _ w' h1 (h g cap w' h2 h3 h4 h5)
theorem zHi {ops:Array Oper}{rest:List Oper}{o:Oper}{a:Act}{Q:Exit->Act->World->Prop}{w0:World}(hgd:o.guard=none) (s x:Operand)
  (ho:o.op=.call { callee:=.builtin .append,args:=#[s,x],argTypes:=#[29,29] }) (base:Nat) (v:Value) (l:List (Int×List UInt8)) (hs:a.eval s=v) (hown:OwnK w0 base v l)
  (y:(Int×List UInt8)) (cs:List Value) (cap1:Nat) (H:Nat) (hH:w0.heap.size=H) (hx:a.eval x=vS (some (aD H 0)) 1 cap1) (cells:Array Value) (hcells:cells=cs.toArray)
  (hy:(elK).E y w0 (fun b=>base<=b/\b<w0.heap.size/\some b≠v.ownBlock) cs) (hcs:cs.length=2) (h1c:∀ u∈cs,u.oneCell'=true) (hn:l.length<=300000000) (hbase:base<=w0.heap.size)
  (h:∀ g cap w',OwnK w' base (vS (some (aD g 0)) (l.length+1) cap) (l++[y])->Below base w0 w'->(∀ b,b<w0.heap.size->some b≠v.ownBlock->w'.heap[b]?=w0.heap[b]?)->(v.ownBlock=some g\/H<=g)->wpList tP ops Q rest (a.put o.dst (vS (some (aD g 0)) (l.length+1) cap)) w') :
  wpList tP ops Q (o::rest) a (w0.alloc (.cells cells 131)):=by
 subst hcells;obtain⟨i0,hi,e,d,c⟩:=Cp Tryz.infoK;obtain⟨g,cap,w',h1,h2,h3,h4,h5⟩:=zBi (elK) 29 o.type 131 i0 (.agg #[vI i6 0,vT ⟨#[]⟩]) 2 24 underlying29 hi e d c rfl (by decide) (by decide) w0 base v l hown y cs hy hcs h1c hn hbase H hH cap1;exact Lib.wpList_append_run _ hgd s x 29 29 ho v _ hs hx _ w' h1 (h g cap w' h2 h3 h4 h5)
theorem zHj {ops:Array Oper}{rest:List Oper}{o:Oper}{a:Act}{Q:Exit->Act->World->Prop}{w0:World}(hgd:o.guard=none) (s x:Operand)
  (ho:o.op=.call { callee:=.builtin .append,args:=#[s,x],argTypes:=#[30,30] }) (k:Nat) (base:Nat) (v:Value) (l:List En) (hs:a.eval s=v) (hown:OwnEn k w0 base v l)
  (y:En) (cs:List Value) (cap1:Nat) (H:Nat) (hH:w0.heap.size=H) (hx:a.eval x=vS (some (aD H 0)) 1 cap1) (cells:Array Value) (hcells:cells=cs.toArray)
  (hy:(elE k).E y w0 (fun b=>base<=b/\b<w0.heap.size/\some b≠v.ownBlock) cs) (hcs:cs.length=9) (h1c:∀ u∈cs,u.oneCell'=true) (hn:l.length<=300000000) (hbase:base<=w0.heap.size)
  (h:∀ g cap w',OwnEn k w' base (vS (some (aD g 0)) (l.length+1) cap) (l++[y])->Below base w0 w'->(∀ b,b<w0.heap.size->some b≠v.ownBlock->w'.heap[b]?=w0.heap[b]?)->(v.ownBlock=some g\/H<=g)->wpList tP ops Q rest (a.put o.dst (vS (some (aD g 0)) (l.length+1) cap)) w') :
  wpList tP ops Q (o::rest) a (w0.alloc (.cells cells 68)):=by
 subst hcells;obtain⟨i0,hi,e,d,c⟩:=Cp Tryz.infoE;obtain⟨g,cap,w',h1,h2,h3,h4,h5⟩:=zBi (elE k) 30 o.type 68 i0 (.agg #[vS none 0 0,.bool false,vI i6 0,vI i6 0,vT ⟨#[]⟩,vS none 0 0,vS none 0 0,vS none 0 0,vS none 0 0]) 9 160 underlying30 hi e d c rfl (by decide) (by decide) w0 base v l hown y cs hy hcs h1c hn hbase H hH cap1;exact Lib.wpList_append_run _ hgd s x 30 30 ho v _ hs hx _ w' h1 (h g cap w' h2 h3 h4 h5)
open Go.Sort
theorem zKi (x:Strg):∀ l,Asc l->∃ k,k<=l.length/\(∀ t,t<k->bl (l.getD t x) x=true)/\(∀ t,k<=t->bl (l.getD t x) x=false)
 | [],_=>⟨0,Bc _,fun t ht=>by omega,fun t _=>by simpa using zCg x⟩
 | a::l,h=>by
  have h':=Dv.1 h;by_cases ha:bl a x=true
  ·obtain⟨k,h1,h2,h3⟩:=zKi x l h'.2;refine⟨k+1,by simp;omega,fun t ht=>?_,fun t ht=>?_⟩
   ·cases t with
    | zero=>simpa using ha
    | succ t=>simpa using h2 t (by omega)
   ·cases t with
    | zero=>omega
    | succ t=>simpa using h3 t (by omega)
  ·refine⟨0,Bt _,fun t ht=>by omega,fun t _=>?_⟩;cases t with
   | zero=>simpa using ha
   | succ t=>
    cases hq:bl ((a::l).getD (t+1) x) x
    ·rfl
    ·exfalso;simp only[List.getD_cons_succ]at hq;rw[Ed]at hq;cases e:l[t]? with
     | none=>rw[e]at hq;simp only[Option.getD_none]at hq;rw[zCg]at hq;cases hq
     | some y=>
      rw[e]at hq;exact ha (zEr (h'.1 y (Bh e)) hq)
theorem zJ8 (A:Option Addr) (n cap:Nat) (ss:List Strg) (x:Strg) (w:World) (B:Nat) (hR:NmS w B A n ss) (ha:Asc ss) (hn:n<=1000000000) :
  Calls tP 84 #[vS A n cap,vT ⟨x.toArray⟩] w fun e w'=>∃ k:Int,e=.returned (.tuple #[vI i6 k,.bool (decide (x∈ss))])/\∃ q,w'=w.drewN q:=by
 rcases Dz n with h0|h0
 ·have hr:ss=[]:=Cf (hR.1.symm.trans h0);subst hr;subst h0;have h:=Any2.slices_BinarySearch_string_empty Tryz.laysNm226 A cap ⟨x.toArray⟩ w;exact Calls.mono (f:=84) h fun e w' ⟨he,hw⟩=>⟨0,he,0,hw⟩
 ·obtain⟨b,l,rfl,hb,hc⟩:=hR.2.2 h0;obtain⟨k,hk,c,i⟩:=zKi x ss ha;have hl:=hR.1;have h:=Any2.slices_BinarySearch_string Tryz.laysNm226 b l n cap (fun j=>mkB (ss.getD j x)) ⟨x.toArray⟩ w (by omega) (fun j hj=>by
   have g:j<ss.length:=by omega
   rw[hc j _ (By g),Ed,By g];rfl)
  have m:Lib.bsGo (fun t=>Op.bytesLess (mkB (ss.getD t x)).toList (⟨x.toArray⟩:ByteArray).toList) n 0 n=k:=by
   refine Lib.bsGo_spec _ k (fun t ht=>?_) (fun t ht=>?_) n 0 n (by omega) (by omega) (by omega)
   ·rw[Lib.toList_data,Lib.toList_data,zFh];exact c t ht
   ·rw[Lib.toList_data,Lib.toList_data,zFh];exact i t ht
  rw[m]at h;refine Calls.mono (f:=84) h fun e w' ⟨he,q,hw⟩=>⟨k,?_,q,hw⟩;rw[he];refine congrArg (fun q=>Ending.returned (.tuple #[vI i6 (k:Int),.bool q])) ?_;rw[decide_eq_decide];constructor
  ·rintro⟨h1,h2⟩;have e:ss.getD k x=x:=zRs h2;rw[Ed,By (show k<ss.length by omega)]at e;rw[<-e];exact Cx _
  ·intro hx;obtain⟨j,hj,e⟩:=List.getElem_of_mem hx;have a:ss[j]?=some x:=by rw[By hj,e]
   have p:¬ j<k:=fun hlt=>by
    have:=c j hlt;rw[Ed,a]at this;simp only[Option.getD_some]at this;rw[zCg]at this;cases this
   have o:¬ k<j:=fun hlt=>by
    have d:k<ss.length:=by omega
    have h1:=zS0 ha hlt (By d) a;have h2:=i k lR;rw[Ed,By d]at h2;simp only[Option.getD_some]at h2;rw[h1]at h2;cases h2
   obtain rfl:j=k:=by omega
   refine⟨by omega,?_⟩;rw[Ed,a];rfl
end Go.Proofs.YteedihhdcbepmaaGreat
