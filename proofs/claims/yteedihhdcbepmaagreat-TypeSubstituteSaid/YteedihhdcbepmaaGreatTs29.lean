/- Source.value, given Source.Value at smaller .. -/
import Derived.Test.YteedihhdcbepmaaGreatTsZ
import Derived.Test.YteedihhdcbepmaaGreatTs28
set_option maxRecDepth 100000
set_option maxHeartbeats 12800000
set_option linter.all false
open Go.Value renaming slice→vS,int→vI,string→vT
open Go.IntKind renaming i64→i6
open Go.Proofs.Tryz renaming prog→tP
namespace Go.Proofs.YteedihhdcbepmaaGreat
open Go Go.RowKit
theorem LeafN.all {k i:Int}{t:List UInt8}(h:LeafN k i t):okV (lfV k i t)=true/\sml (lfV k i t)/\(Lit.int .i64 k).wf=true/\(Lit.int .i64 i).wf=true/\t.length<=maxLen:=by
 have hs:sml (lfV k i t):=⟨by simp,by simp,by simp,by simp,by simp[smlVs],by simp[smlEs]⟩;rcases h with⟨rfl,hn,rfl⟩|⟨rfl,rfl,hn⟩|⟨rfl,rfl,hn⟩|⟨rfl,hn,rfl⟩|⟨rfl,rfl,rfl⟩|⟨rfl,rfl,rfl⟩
 ·exact⟨by simp[okV,lfV,zAj,AscC,usesB,kindB,okVs,okEs],hs,by decide,hn,by simp⟩
 ·have h1:=hn.ok;have h2:=hn.len;exact⟨by simp[okV,lfV,zAj,AscC,usesB,kindB,okVs,okEs,h1],hs,by decide,by decide,by unfold maxLen;omega⟩
 ·have h2:=hn.len;exact⟨by simp[okV,lfV,zAj,AscC,usesB,kindB,okVs,okEs];omega,hs,by decide,by decide,by unfold maxLen;omega⟩
 ·have h3:i=0\/i=1\/i=2:=by omega
  refine⟨by simp[okV,lfV,zAj,AscC,usesB,kindB,okVs,okEs];omega,hs,by decide,?_,by simp⟩;rcases h3 with rfl|rfl|rfl<;>decide
 ·exact⟨by simp[okV,lfV,zAj,AscC,usesB,kindB,okVs,okEs],hs,by decide,by decide,by simp⟩
 ·exact⟨by simp[okV,lfV,zAj,AscC,usesB,kindB,okVs,okEs],hs,by decide,by decide,by simp⟩
theorem KeyN.wf {x:Int×List UInt8}(h:KeyN x):(Lit.int .i64 x.1).wf=true:=by
 rcases h with⟨h,_⟩|⟨h,_⟩<;>rw[h]<;>decide
theorem KeyN.len {x:Int×List UInt8}(h:KeyN x):x.2.length<=maxLen:=by
 rcases h with⟨_,h⟩|⟨_,h⟩<;>(have:=h.len;unfold maxLen;omega)
theorem OwnC.map {α:Type}{Pr Pr':α->List Value->Prop}{e:TypeId}{c:Nat}{w:World}{base:Nat}{v:Value}{l:List α}(h:OwnE (elC Pr) e c w base v l) (hP:∀ x cs,Pr x cs->Pr' x cs):OwnE (elC Pr') e c w base v l:=by
 obtain⟨xs,ho,hx⟩:=h;exact⟨xs,ho,fun j x hj=>hP _ _ (hx j x hj)⟩
structure MapI (q base:Nat) (w:World) (u1 u2:Value) (keys:List (Int×List UInt8)) (vs:List Vl) (D:Nat->Prop):Prop where
 len:vs.length=keys.length
 ky:OwnY w base u1 keys
 vl:OwnX7 q w D w base u2 vs
 dd:∀ b,D b->base<=b/\b<w.heap.size/\some b≠u1.ownBlock/\some b≠u2.ownBlock
 dj:∀ g,u1.ownBlock=some g->some g≠u2.ownBlock
 kn:∀ x∈keys,KeyN x
 ok:∀ x∈vs,okV x=true/\sml x
theorem MapI.nil (q base:Nat) (w:World):MapI q base w (vS none 0 0) (vS none 0 0) [] [] (fun _=>False):=
 ⟨rfl,OwnE.nil _ _ _ _ _,OwnE.nil _ _ _ _ _,fun _ h=>h.elim,fun g h=>by simp[Value.ownBlock]at h,by simp,by simp⟩
theorem MapI.step2 {q base p:Nat}{w0 w w3 w4 w5:World}{u1 u2:Value}{keys:List (Int×List UInt8)}{vs:List Vl}{D:Nat->Prop}(h:MapI q base w u1 u2 keys vs D) (hp:p<w0.heap.size) (hE3:Eff p w w3) (hb4:Below base w3 w4) (hk4:∀ b,b<w3.heap.size->some b≠u1.ownBlock->w4.heap[b]?=w3.heap[b]?) (hE5:Eff p w4 w5) (hbase:w0.heap.size+1=base:=by rfl) :
  OwnX7 q w5 (fun b=>D b\/Btw w4.heap.size w5.heap.size b) w5 base u2 vs:=by
 have j:=hE3.size;have f:=hb4.size;have d:=hE5.size;have a:∀ b,base<=b->b<w.heap.size->some b≠u1.ownBlock->w5.heap[b]?=w.heap[b]?:=fun b h1 h2 h3=>(hE5.other b (by omega) (by omega)).trans ((hk4 b (by omega) h3).trans (hE3.other b (by omega) h2));have c:Same D w w5:=⟨by omega,fun b i hD _=>Bi (a b (h.dd b hD).1 (h.dd b hD).2.1 (h.dd b hD).2.2.1)⟩;refine OwnC.map (OwnC.kept h.vl fun g hg=>?_) fun x cs hv=>VB.sub (fun _ hb=>.inl hb) lR (VB.keep c hv);have hb:=h.vl.blk g hg;exact a g hb.1 hb.2 fun e=>h.dj g e.symm hg.symm
theorem MapI.step {q base p:Nat}{w0 w w3 w4 w5 w6:World}{u1 u2:Value}{keys:List (Int×List UInt8)}{vs:List Vl}{D:Nat->Prop}{x:Int×List UInt8}{v:Vl}{g cap g2 cap2:Nat}(h:MapI q base w u1 u2 keys vs D) (hp:p<w0.heap.size) (hE3:Eff p w w3) (hb4:Below base w3 w4) (_hk4:∀ b,b<w3.heap.size->some b≠u1.ownBlock->w4.heap[b]?=w3.heap[b]?)
  (hg4:u1.ownBlock=some g\/w3.heap.size<=g) (ho4:OwnK w4 base (vS (some (aD g 0)) (keys.length+1) cap) (keys++[x])) (hkn:KeyN x) (hE5:Eff p w4 w5)
  (ho6:OwnE (elC (fun x cs=>VB q w5 (fun b=>D b\/Btw w4.heap.size w5.heap.size b) x cs)) 33 7 w6 base (vS (some (aD g2 0)) (vs.length+1) cap2) (vs++[v])) (hb6:Below base w5 w6) (hk6:∀ b,b<w5.heap.size->some b≠u2.ownBlock->w6.heap[b]?=w5.heap[b]?)
  (hg6:u2.ownBlock=some g2\/w5.heap.size<=g2) (hok:okV v=true) (hsm:sml v) (hbase:w0.heap.size+1=base:=by rfl) :
  MapI q base w6 (vS (some (aD g 0)) (keys.length+1) cap) (vS (some (aD g2 0)) (vs.length+1) cap2) (keys++[x]) (vs++[v]) (fun b=>D b\/Btw w4.heap.size w5.heap.size b):=by
 have n:=hE3.size;have m:=hb4.size;have l:=hE5.size;have j:=hb6.size;have f:=h.ky.blk;have a:=h.vl.blk;have k:=ho4.blk g rfl;have c:some g≠u2.ownBlock:=by
  intro e;rcases hg4 with h1|h1
  ·exact h.dj g h1 e
  ·have:=a g e.symm;omega
 have d:∀ b,(D b\/Btw w4.heap.size w5.heap.size b)->base<=b/\b<w5.heap.size/\some b≠u2.ownBlock:=by
  rintro b (hb|hb)
  ·have:=h.dd b hb;exact⟨this.1,by omega,this.2.2.2⟩
  ·refine⟨by have:=hb.1;omega,hb.2,fun e=>?_⟩;have:=a b e.symm;have:=hb.1;omega
 refine⟨by simp[h.len],?_,?_,?_,?_,?_,?_⟩
 ·refine OwnC.kept (show OwnY w4 base _ _ from ho4) fun g' hg'=>?_;obtain rfl:g=g':=by simpa [Value.ownBlock] using hg'
  exact (hk6 g (by omega) c).trans (hE5.other g (by omega) k.2)
 ·refine OwnC.map ho6 fun y cs hv=>VB.keep ⟨j,fun b i hD hl=>Bi (hk6 b hl (d b hD).2.2)⟩ hv
 ·intro b hb;have h1:=d b hb;refine⟨h1.1,by omega,?_,?_⟩
  ·simp only[Value.ownBlock,ne_eq,Cq];rintro rfl;rcases hb with hb|hb
   ·have h2:=h.dd b hb;rcases hg4 with h3|h3
    ·exact h2.2.2.1 h3.symm
    ·omega
   ·have:=hb.1;omega
  ·simp only[Value.ownBlock,ne_eq,Cq];rintro rfl;rcases hg6 with h3|h3
   ·exact h1.2.2 h3.symm
   ·omega
 ·intro g' hg';obtain rfl:g=g':=by simpa [Value.ownBlock] using hg'
  simp only[Value.ownBlock,ne_eq,Cq];rintro rfl;rcases hg6 with h3|h3
  ·exact c h3.symm
  ·omega
 ·intro y hy;rcases B7.1 hy with hy|hy
  ·exact h.kn y hy
  ·rw[Ct.1 hy];exact hkn
 ·intro y hy;rcases B7.1 hy with hy|hy
  ·exact h.ok y hy
  ·rw[Ct.1 hy];exact⟨hok,hsm⟩
theorem zRo (q base:Nat) (A1:Option Addr) (c1:Nat) (keys:List (Int×List UInt8)) (A2:Option Addr) (c2:Nat) (vs:List Vl) (w:World){D:Nat->Prop}(hb:base<=w.heap.size) (h:MapI q base w (vS A1 keys.length c1) (vS A2 keys.length c2) keys vs D) (hn:keys.length<=100000) :
  Calls tP 97 #[vS A1 keys.length c1,vS A2 keys.length c2] w (MapR q base keys vs w):=by
 have hl:=h.len;have e1:vS A2 keys.length c2=vS A2 vs.length c2:=by rw[hl]
 have hr:=h.vl.row (by omega) (by unfold maxLen;omega);rw[e1]at hr ⊢;have a:RowV q base w (vS A2 vs.length c2) vs:=RowB.sub (R':=fun j cs=>∃ x,vs[j]?=some x/\VB q w (Btw base w.heap.size) x cs) hr (fun _ hb=>hb) (fun j cs ⟨x,hx,hv⟩=>⟨x,hx,VB.sub (B:=D) (fun b hD=>⟨(h.dd b hD).1,(h.dd b hD).2.1⟩) lR hv⟩);exact zGv q base A1 c1 keys A2 c2 vs w hb (h.ky.row (by omega) (by unfold maxLen;omega)) a hn
theorem goZ {p:Nat}{w X Y:World}{o:Obj}(hp:p<w.heap.size) (hz:w.heap.size+1<=X.heap.size) (hF:Eff p w X) (k:X.heap[w.heap.size]?=some o) (hE:Eff p X Y):w.heap.size+1<=Y.heap.size/\Eff p w Y/\Y.heap[w.heap.size]?=some o:=
 ⟨Ba hz hE.size,hF.trans hE,(hE.other _ (by omega) (by omega)).trans k⟩
theorem fin7 {h p:Nat}{w X V:World}{e:TypeId}{z0 z1 z2 z3 z4 z5 z6 v0 v1 v2 v3 v4 v5 v6:Value}(hV:V=(((((((X.setCell ⟨w.heap.size,0,none⟩ v0).setCell ⟨w.heap.size,1,none⟩ v1).setCell ⟨w.heap.size,2,none⟩ v2).setCell ⟨w.heap.size,3,none⟩ v3).setCell ⟨w.heap.size,4,none⟩ v4).setCell ⟨w.heap.size,5,none⟩ v5).setCell ⟨w.heap.size,6,none⟩ v6)) (k:X.heap[w.heap.size]?=some (.cells #[z0,z1,z2,z3,z4,z5,z6] e (0,0))) (hS:SrcOk h p X) (hF:Eff p w X) (hp:p<w.heap.size) :
  V.heap[w.heap.size]?=some (.cells #[v0,v1,v2,v3,v4,v5,v6] e (0,0))/\(SrcOk h p V/\Eff p w V)/\V.heap.size=X.heap.size/\∀ B:Nat->Prop,¬ B w.heap.size->Same B X V:=by
 subst hV;exact⟨obj7 k _ _ _ _ _ _ _,zB9 hS hF lR hp _ _ _ _ _ _ _,by simp,fun B h=>zAa (zAa (zAa (zAa (zAa (zAa (zAa ((Same.refl _ _)) h) h) h) h) h) h) h⟩
theorem retB {fn:Func}{R:Ending->World->Prop}{a:Act}{w:World}{s g:Nat}{v0 v1 v2 v3 v4 v5 v6:Value}(hK:w.heap[g]?=some (.cells #[v0,v1,v2,v3,v4,v5,v6] 33 (0,0))) (hr:fn.results=#[.cell s 33]) (ha:a.tmps[s]?=some (.pointer (some (aD g 0)))) (hd:a.defers=[])
  (h:R (.returned (.agg #[v0,v1,v2,v3,v4,v5,v6])) w):bodyPost tP fn R .ret a w:=by
 obtain⟨c0,c1,c2,c3,c4,c5,c6⟩:=zAc hK;exact Cw (v:=.agg #[v0,v1,v2,v3,v4,v5,v6]) (by simp[results,hr,ha,go_sem,c0,c1,c2,c3,c4,c5,c6]) hd h
theorem zK7 (h p:Nat) (n:Int) (w:World) (hS:SrcOk h p w) (hn:n<=1):Calls tP 55 #[.pointer (some (aD p 0)),vI i6 n] w (zOl 1 h p w):=by
 have b:=hS.lt;obtain⟨w0,a,d,k0,_⟩:=aW w oG
 have g:w.heap.size+1<=w0.heap.size:=by rw[a];simp
 have k:=hS.below d;have m:Eff p w w0:=Eff.of_below d (Du b);clear hS d;have q1:decide (n<=1)=true:=by simpa using hn
 go_enter Tryz.func55,Tryz.ntmps55;go_wp2_with fail;rw[<-a];clear a;have f:=zB0 h p w0 k;go_wp2_with fail;refine f.mono ?_;rintro e w9 ⟨⟨kk,ii,tt,rfl,hLf⟩,hS9,hE9⟩;simp only[lfC];clear f;obtain⟨o,l,k9⟩:=goZ b g m k0 hE9;obtain⟨e0,e1,e2,e3,e4,e5,e6⟩:=zAc k9;obtain⟨z0,z1,z2,z3,z4,z5,z6⟩:=zAd k9;go_wp2;refine nW fun V hV=>?_;obtain⟨j,c,i,q⟩:=fin7 hV k9 hS9 l b;clear hV e0 z0 e1 z1 e2 z2 e3 z3 e4 z4 e5 z5 e6 z6;refine retB j rfl rfl rfl ?_;obtain⟨l1,l2,l3,l4,l5⟩:=hLf.all;exact⟨⟨lfV kk ii tt,_,rfl,lfVB l3 l4 l5 0 V _,l1,l2,rfl⟩,c⟩
theorem zOv (h p:Nat) (q:Nat) (w:World) (hS:SrcOk h p w) (hq:1<=q) (hq3:q<=3) (hV1:Hid (∀ W,SrcOk h p W->Calls tP 14 #[.pointer (some (aD p 0)),vI i6 q] W (DrawR q h p W)))
  (hV2:Hid (2<=q->∀ W,SrcOk h p W->Calls tP 14 #[.pointer (some (aD p 0)),vI i6 (q-1:Nat)] W (DrawR (q-1) h p W))) :
  Calls tP 55 #[.pointer (some (aD p 0)),vI i6 (q+1:Nat)] w (zOl (q+1) h p w):=by
 have n:=hS.lt;obtain⟨w0,bH,bN,k0,_⟩:=aW w oG
 have co:w.heap.size+1<=w0.heap.size:=by rw[bH];simp
 have bY:=hS.below bN;have b2:Eff p w w0:=Eff.of_below bN (Du n);clear hS bN;have q1:decide (((q+1:Nat):Int)<=1)=false:=by simp;omega
 have qw:IntKind.i64.wrap (((q+1:Nat):Int)-1)=(q:Int):=by rw[Br _ (by omega)];omega
 have hN:=zAh h p 6 w0 bY (by omega) (by omega);generalize hq':((q+1:Nat):Int)=qq at *;have HQ:=xI hq';clear hq';go_enter Tryz.func55,Tryz.ntmps55;go_wp2_with fail;rw[<-bH];clear bH;refine hN.mono ?_;rintro e w1 ⟨j,rfl,j0,j1,hS1,hE1⟩;clear hN;obtain⟨bc,aO,k1⟩:=goZ n co b2 k0 hE1;have cu:j=0\/j=1\/j=2\/j=3\/j=4\/j=5:=by omega
 clear j0 j1 k0 b2 bY;rcases cu with rfl|rfl|rfl|rfl|rfl|rfl
 ·clear q1;have af:=zB0 h p w1 hS1;go_wp2_with fail;refine af.mono ?_;rintro e w9 ⟨⟨kk,ii,tt,rfl,hLf⟩,hS9,hE9⟩;simp only[lfC];clear af;obtain⟨bw,aR,k9⟩:=goZ n bc aO k1 hE9;obtain⟨e0,e1,e2,e3,e4,e5,e6⟩:=zAc k9;obtain⟨z0,z1,z2,z3,z4,z5,z6⟩:=zAd k9;go_wp2;refine nW fun V hV=>?_;obtain⟨O,t,N,L⟩:=fin7 hV k9 hS9 aR n;clear hV e0 z0 e1 z1 e2 z2 e3 z3 e4 z4 e5 z5 e6 z6;refine retB O rfl rfl rfl ?_;obtain⟨l1,l2,l3,l4,l5⟩:=hLf.all;exact⟨⟨lfV kk ii tt,_,rfl,lfVB l3 l4 l5 q V _,l1,l2,rfl⟩,t⟩
 ·have hN:=zAh h p 4 w1 hS1 (by omega) (by omega);go_wp2_with fail;refine hN.mono ?_;rintro e w2 ⟨i,rfl,i0,i1,aQ,ba⟩;clear hN;obtain⟨aM,aS,k2⟩:=goZ n bc aO k1 ba;obtain⟨i',rfl⟩:∃ i':Nat,i=i':=⟨i.toNat,by omega⟩;clear k1 aO hS1;go_wp2_with fail
  go_loopw [5,6] (fun l i wr=>∃ (m:Nat) (A:Option Addr) (c:Nat) (E:List Vl),l=vS A E.length c/\i=vI i6 m/\E.length+m<=3/\OwnV q wr (w.heap.size+1) (vS A E.length c) E/\(∀ x∈E,okV x=true/\sml x)/\SrcOk h p wr/\Eff p w wr/\w.heap.size+1<=wr.heap.size/\wr.heap[w.heap.size]?=some oG) (fun _ i _=>(intOf i).toNat)
  case atStart=>exact⟨i',none,0,[],rfl,rfl,by simp;omega,OwnE.nil _ _ _ _ _,by simp,aQ,aS,aM,k2⟩
  case round=>
   obtain⟨m,A,c,E,rfl,rfl,hm,hO,T,aw,aJ,aZ,kr⟩:=hrel;by_cases hm0:m=0
   ·subst hm0;have mp:((0:Nat):Int)=0:=rfl;have hT:=zIn q (w.heap.size+1) A c E wr (by omega) (hO.row (by omega) (by unfold maxLen;omega)) (by omega);have aK:=xI (aN hm T);clear hO T hm;generalize hla:E.length=la at hT;clear hla;go_wp2_with fail;refine hT.mono ?_;rintro e w3 ⟨cs,rfl,r,Y⟩;clear hT;have C:Eff p wr w3:=Eff.of_below Y (by omega);have P:SrcOk h p w3:=aw.below Y;have Q:Eff p w w3:=aJ.trans C;have R:w.heap.size+1<=w3.heap.size:=Ba aZ C.size;have k3:w3.heap[w.heap.size]?=some oG:=(Y.block _ (by omega)).trans kr;obtain⟨ca,ci,U,B1,n1,d1,B2,n2,d2,B3,n3,d3,B4,n4,d4,rfl⟩:=r.form7;have HV:=xI r;clear r kr;obtain⟨e0,e1,e2,e3,e4,e5,e6⟩:=zAc k3;obtain⟨z0,z1,z2,z3,z4,z5,z6⟩:=zAd k3;go_wp2;refine nW fun V hV=>?_;obtain⟨O,t,N,L⟩:=fin7 hV k3 P Q n;clear hV e0 z0 e1 z1 e2 z2 e3 z3 e4 z4 e5 z5 e6 z6;refine retB O rfl rfl rfl ?_;obtain⟨o1,o2⟩:=zJl aK.out.2;refine⟨⟨tupV E,_,rfl,VB.sub (B:=Btw (w.heap.size+1) w3.heap.size) (fun b hb=>⟨by have:=hb.1;omega,by have:=hb.2;omega⟩) lR (VB.keep (L _ (fun h=>by have:=h.1;omega)) HV.out),?_,?_,rfl⟩,t⟩
    ·have:=aK.out.1;simp[okV,tupV,zAj,AscC,usesB,kindB,okEs,o1];omega
    ·have:=aK.out.1;exact⟨by omega,by simp,by simp,by simp,o2,by simp[smlEs]⟩
   ·have mp:(0:Int)<(m:Int):=by omega
    have bQ:IntKind.i64.wrap ((m:Int)-1)=(m:Int)-1:=Br _ (by omega);have M:=hV1.out wr aw;have bb:=xI T;have HO:=xI hO;have HM:=xI hm;generalize hla:E.length=la at *;have ad:=xI hla;clear T hO hla hm;go_wp2_with fail;refine M.mono ?_;rintro e w3 ⟨⟨v,cs,rfl,r,hok,L⟩,P,C⟩;clear M;obtain⟨ca,ci,U,B1,n1,d1,B2,n2,d2,B3,n3,d3,B4,n4,d4,rfl⟩:=r.form7;have Q:Eff p w w3:=aJ.trans C;have R:w.heap.size+1<=w3.heap.size:=Ba aZ C.size;have k3:w3.heap[w.heap.size]?=some oG:=(C.other _ (by omega) (by omega)).trans kr;have bp:=HO.out.eff C (by omega);have av:=HO.out.blk;have bG:=C.size;have a8:=ad.out;have a7:=HM.out;go_wp2_with (at_builtin;refine zOo rfl _ _ rfl q (w.heap.size+1) _ E rfl bp v _ 1 _ rfl rfl _ rfl (VB.sub (fun b hb=>⟨by have:=hb.1;omega,hb.2,fun e=>by have:=av b e.symm;have:=hb.1;omega⟩) lR r) rfl (zBg q v _ _ _ r) (by omega) R ?_;intro g cap w4 ho4 hb4 _ _;refine Hid.out ?_);refine xI ?_;have ay:SrcOk h p w4:=P.below3 hb4 (by omega);have aE:Eff p w w4:=Q.grow (hb4.mono (by omega)) n;have aL:w.heap.size+1<=w4.heap.size:=Ba R hb4.size;have k4:w4.heap[w.heap.size]?=some oG:=(hb4.block _ (by omega)).trans k3;have HR:=xI (aN ho4 (aN hok (aN L (aN ay (aN aE (aN aL k4))))));clear ho4 hok L ay aE aL k4 r bp av hb4 Q k3 P C kr aw aJ a8 a7;go_wp2_with fail
    go_roundw
    case rel=>
     obtain⟨q1,q2,q3,q4,q5,q6,q7⟩:=HR.out;have ae:(E++[v]).length=la+1:=by rw[Bd,ad.out];rfl
     refine⟨m-1,some (aD g 0),cap,E++[v],by rw[ae,<-ad.out],by go_num,by have:=HM.out;omega,by rw[ae,<-ad.out];exact q1,?_,q4,q5,q6,q7⟩;intro x hx;rcases B7.1 hx with hx|hx
     ·exact bb.out x hx
     ·rw[Ct.1 hx];exact⟨q2,q3⟩
    case measure=>simp[intOf];try omega
 ·have aB:=zBj w1;go_wp2_with fail;refine aB.mono ?_;rintro e w2 ⟨rfl,hb2⟩;clear aB;have ba:Eff p w1 w2:=Eff.of_below hb2 (by omega);have aQ:SrcOk h p w2:=hS1.below hb2;obtain⟨aM,aS,k2⟩:=goZ n bc aO k1 ba;obtain⟨w3,bi,Y,bF,_⟩:=aW w2 (oV 5 0 ⟨#[]⟩ none 0 0 none 0 0 none 0 0 none 0 0)
  have cC:w2.heap.size+1<=w3.heap.size:=by rw[bi];simp
  have C:Eff p w2 w3:=Eff.of_below Y (by omega);have P:SrcOk h p w3:=aQ.below Y;obtain⟨R,Q,k3⟩:=goZ n aM aS k2 C;obtain⟨tv,aU⟩:∃ tv,Hid (lfV 5 0 []=tv):=⟨_,xI rfl⟩;clear hb2 Y k1 k2 hS1 aQ aO aS;by_cases hq2:2<=q
  ·have cl:decide ((2:Int)<qq)=true:=by simp;have:=HQ.out;omega
   have hN:=zAh h p 2 w3 P (by omega) (by omega);go_wp2_with fail;rw[<-bi];clear bi;refine hN.mono ?_;rintro e w4 ⟨i,rfl,i0,i1,ay,hE4⟩;clear hN;obtain⟨aL,aE,k4⟩:=goZ n R Q k3 hE4;have bP:w4.heap[w2.heap.size]?=some (oV 5 0 ⟨#[]⟩ none 0 0 none 0 0 none 0 0 none 0 0):=(hE4.other _ (by omega) (by omega)).trans bF;have cB:=hE4.size;have cv:i=0\/i=1:=by omega
   clear i0 i1 k3 bF P Q;rcases cv with rfl|rfl
   ·have bt:Hid (w2.heap.size<w4.heap.size):=xI (by omega);have HT:Hid (VB q w4 (fun b=>w.heap.size+1<=b/\b<w4.heap.size/\b≠w2.heap.size) tv [vI i6 5,vI i6 0,vT ⟨#[]⟩,vS none 0 0,vS none 0 0,vS none 0 0,vS none 0 0]/\okV tv=true/\sml tv):=xI ⟨by rw[<-aU.out];exact VB.sub (fun _ h=>h) hq (lfVB (by decide) (by decide) (by simp) 0 _ _),by rw[<-aU.out];decide,by rw[<-aU.out];exact⟨by simp,by simp,by simp,by simp,by simp[smlVs],by simp[smlEs]⟩⟩;have be:Hid ((decide (zAn tv=5)||decide (zAn tv=7))=true):=xI (by rw[<-aU.out];decide);have hl:=zDn h p w4 ay;go_wp2_with fail;refine hl.mono ?_;rintro e w20 ⟨⟨LA,ln,lc,ls,rfl,hln,ae,hlb,_,hlR⟩,hS20,hE20⟩;clear hl;obtain⟨au,aa,aX⟩:=goZ n aL aE k4 hE20;have aY:w2.heap.size<w4.heap.size:=bt.out;have F:w20.heap[w2.heap.size]?=some (oV 5 0 ⟨#[]⟩ none 0 0 none 0 0 none 0 0 none 0 0):=(hE20.other _ (by have:=aM;omega) aY).trans bP;have z:w.heap.size≠w2.heap.size:=by omega
    obtain⟨d,f⟩:∃ d,d=w20.setCell (aH w2 6) (vS LA ln lc):=⟨_,rfl⟩;obtain⟨aA,aI⟩:SrcOk h p d/\Eff p w d:=by rw[f];exact zBe hS20 aa (by omega) (by omega)
    have aq:w.heap.size+1<=d.heap.size:=by rw[f];simpa using au
    have H:d.heap.size=w20.heap.size:=by rw[f];simp
    have bu:=xI H;have J:w2.heap.size<d.heap.size:=by rw[H];exact Bj aY hE20.size
    have bg:d.heap[w.heap.size]?=some oG:=by rw[f];exact (Bq _ _ _ _ z).trans aX
    have ao:d.heap[w2.heap.size]?=some (oV 5 0 ⟨#[]⟩ none 0 0 none 0 0 none 0 0 LA ln lc):=by rw[f];simpa using Bm w20 w2.heap.size 6 _ _ (vS LA ln lc) F
    have Z:VB q d (fun b=>w.heap.size+1<=b/\b<d.heap.size/\b≠w2.heap.size) (withL ls tv) [vI i6 5,vI i6 0,vT ⟨#[]⟩,vS none 0 0,vS none 0 0,vS none 0 0,vS LA ln lc]:=by
     have h1:VB q w20 (fun b=>w.heap.size+1<=b/\b<w20.heap.size/\b≠w2.heap.size) tv [vI i6 5,vI i6 0,vT ⟨#[]⟩,vS none 0 0,vS none 0 0,vS none 0 0,vS none 0 0]:=VB.sub (fun b hb=>⟨hb.1,Bj hb.2.1 hE20.size,hb.2.2⟩) lR (VB.keep (hE20.same (B:=fun b=>w.heap.size+1<=b/\b<w4.heap.size/\b≠w2.heap.size) fun b hb=>by have:=hb.1;omega) HT.out.1);subst hln;have h2:=zCc h1 (RowB.sub hlR (fun b hb=>⟨by have:=hb.1;omega,hb.2,by have:=hb.1;omega⟩) fun _ _ h=>h);have h3:=VB.keep (w':=d) (by rw[f];exact zAa (Same.refl _ _) (fun hb=>hb.2.2 rfl)) h2;exact VB.sub (fun b hb=>⟨hb.1,by rw[H];exact hb.2.1,hb.2.2⟩) lR h3
    have a3:=xI (aN Z (aN (zEf HT.out.2.1 hlb) (zEc HT.out.2.2 (by rw[hln];omega))));have y6:=Bz F 6;have g6:w20.cell? (aH w2 6)=some (vS none 0 0):=cH F 6;have M:=fun W (hW:SrcOk h p W)=>hV1.out W hW;have bs:=xI M;clear M hlR hlb Z hln H ae;go_wp2_with fail;rw[<-f];clear f y6 g6 F aX hS20 hE20 aa;have ag:Hid (∀ V,Eff p d V->jV V w2.heap.size 5 0 ⟨#[]⟩ none 0 0 none 0 0 none 0 0 LA ln lc):=xI fun V hV=>by
     have kk:=(hV.other _ (by omega) J).trans ao;exact⟨cH kk 0,cH kk 1,cH kk 2,cH kk 3,cH kk 4,cH kk 5,cH kk 6⟩
    have bj:=bs.out d.drew (aA.below (yR.drew));refine Be (S:=fun V=>jV V w2.heap.size 5 0 ⟨#[]⟩ none 0 0 none 0 0 none 0 0 LA ln lc) (by kernel_rfl) (ag.out _ ⟨(Bw p d).drew,fun _ _ _=>rfl⟩) (fun hHeld=>?_);refine oT 0 hHeld ?_
    (iterate 2 refine oY hHeld ?_)
    refine oT 4 hHeld ?_;refine oO 3 fun K hK=>?_;go_simp;with_reducible refine bj.mono ?_
    rintro e w22 ⟨⟨v,cs,rfl,r,hok,hsm1⟩,hS22,hE22d⟩;have o:Eff p d w22:=⟨((Bw p d).drew).trans hE22d.below,fun b hb hl=>hE22d.other b hb hl⟩;obtain⟨a,i,s,B1,n1,d1,B2,n2,d2,B3,n3,d3,B4,n4,d4,rfl⟩:=r.form7;refine hK _ _ (ag.out _ o) (oP ?_);refine oO 5 fun K hK=>?_;obtain⟨X,aG,bf⟩:=goZ n aq aI bg o;have ah:=zCz q (w.heap.size+1) v (withL ls tv) _ _ w22 X (VB.sub (fun b hb=>⟨by have h1:d.heap.size<=b:=hb.1;omega,hb.2⟩) lR r) (VB.sub (B:=fun b=>w.heap.size+1<=b/\b<d.heap.size/\b≠w2.heap.size) (fun b hb=>⟨hb.1,Bj hb.2.1 o.size⟩) lR (VB.keep (o.same fun b hb=>by have:=hb.1;omega) a3.out.1));go_simp;with_reducible refine ah.mono ?_
    rintro e w23 ⟨cs,rfl,hvc3,hb23⟩;clear ah;obtain⟨ca,ci,U,C1,m1,f1,C2,m2,f2,C3,m3,f3,C4,m4,f4,rfl⟩:=hvc3.form7;have I:Eff p w22 w23:=Eff.of_below hb23 (by omega);have az:SrcOk h p w23:=hS22.below hb23;obtain⟨bh,aF,ap⟩:=goZ n X aG bf I;have br:=xI (aN hvc3 (aN hok hsm1));clear r hok hsm1 hvc3;refine hK _ _ (ag.out _ (o.trans I)) (oP ?_);refine oO 6 fun K hK=>?_;obtain⟨e0,e1,e2,e3,e4,e5,e6⟩:=zAc ap;obtain⟨z0,z1,z2,z3,z4,z5,z6⟩:=zAd ap;obtain⟨V,hV⟩:∃ V,V=(((((((w23.setCell (aH w 0) (vI i6 ca)).setCell (aH w 1) (vI i6 ci)).setCell (aH w 2) (vT U)).setCell (aH w 3) (vS C1 m1 f1)).setCell (aH w 4) (vS C2 m2 f2)).setCell (aH w 5) (vS C3 m3 f3)).setCell (aH w 6) (vS C4 m4 f4)):=⟨_,rfl⟩;obtain⟨O,t,N,L⟩:=fin7 hV ap az aF n;have bq:jV V w2.heap.size 5 0 ⟨#[]⟩ none 0 0 none 0 0 none 0 0 LA ln lc:=by
     have hk:=ag.out _ (o.trans I);have hc:∀ i,V.cell? (aH w2 i)=w23.cell? (aH w2 i):=fun i=>(L (fun b=>b=w2.heap.size) (fun e=>z e)).cell _ i rfl (Bj (Bj J o.size) I.size);simp only[jV,jN,jT,j2,j7,j8,hc];exact hk
    go_simp;rw[<-hV];clear hV e0 z0 e1 z1 e2 z2 e3 z3 e4 z4 e5 z5 e6 z6;refine hK _ _ bq (oP ?_);refine wD ?_;go_wp2;refine retB O rfl rfl rfl ?_;obtain⟨p1,p2,p3⟩:=br.out;obtain⟨p4,p5,p6⟩:=a3.out;have bo:=be.out;refine⟨⟨consV v (withL ls tv),_,rfl,VB.sub (B:=Btw (w.heap.size+1) w23.heap.size) (fun b hb=>⟨by have:=hb.1;omega,by have:=hb.2;omega⟩) lR (VB.keep (L _ (fun h=>by have:=h.1;omega)) p1),?_,?_,rfl⟩,t⟩
    ·have bn:zAn (withL ls tv)=zAn tv:=by cases tv;rfl
     have a9:consB [v,withL ls tv]=true:=by
      show (decide (zAn (withL ls tv)=5)||decide (zAn (withL ls tv)=7))=true;rw[bn];exact bo
     simp[okV,consV,zAj,AscC,usesB,kindB,okVs,okEs,p2,p5,a9]
    ·exact⟨by simp,by simp,by simp,by simp,⟨p3,p6,trivial⟩,by simp[smlEs]⟩
   ·have cA:IntKind.i64.wrap (qq-2)=((q-1:Nat):Int):=by rw[Br _ (by have:=HQ.out;omega)];have:=HQ.out;omega
    have M:=hV2.out hq2 w4 ay;go_wp2_with fail;refine M.mono ?_;rintro e w5 ⟨⟨v0,cs,rfl,r,hok,hsm0⟩,hS5,hE5⟩;clear M;obtain⟨a,i,s,B1,n1,d1,B2,n2,d2,B3,n3,d3,B4,n4,d4,rfl⟩:=r.form7;obtain⟨bz,bC,k5⟩:=goZ n aL aE k4 hE5;have aB:=zBj w5;go_wp2_with fail;refine aB.mono ?_;rintro e w6 ⟨rfl,hb6⟩;clear aB;have bd:Eff p w5 w6:=Eff.of_below hb6 (by omega);have bA:SrcOk h p w6:=hS5.below hb6;obtain⟨bx,bB,k6⟩:=goZ n bz bC k5 bd;have ah:=zCz (q-1) w4.heap.size v0 (lfV 5 0 []) _ (lfC 5 0 []) w6 (Ba hE5.size bd.size) (VB.sub (fun b hb=>⟨hb.1,Bj hb.2 bd.size⟩) lR (VB.keep (.of_below hb6 fun _ hb=>hb.2) r)) (VB.sub (fun _ hb=>hb) (show 0+1<=q-1 by omega) (lfVB (by decide) (by decide) (by simp) 0 _ _));simp only[lfC]at ah;have b4:=xI (aN hok hsm0);clear hok hsm0 r;go_wp2_with fail;refine ah.mono ?_;rintro e w7 ⟨cs,rfl,hvc7,hb7⟩;clear ah;obtain⟨ta,ti,ts,T1,ak,an,T2,aj,am,T3,ai,al,T4,a4,a5,rfl⟩:=hvc7.form7;have bO:Eff p w6 w7:=Eff.of_below hb7 (by omega);have bX:SrcOk h p w7:=bA.below hb7;obtain⟨cn,b1,k7⟩:=goZ n bx bB k6 bO;have bv:w7.heap[w2.heap.size]?=some (oV 5 0 ⟨#[]⟩ none 0 0 none 0 0 none 0 0 none 0 0):=(bO.other _ (by omega) (by have:=hE5.size;have:=bd.size;omega)).trans ((bd.other _ (by omega) (by have:=hE5.size;omega)).trans ((hE5.other _ (by omega) (by omega)).trans bP));have cq:w4.heap.size<=w7.heap.size:=Ba hE5.size (Ba bd.size bO.size);have bK:w2.heap.size<w7.heap.size:=by omega
    have cr:w2.heap.size<w4.heap.size:=by omega
    have z:w.heap.size≠w2.heap.size:=by omega
    obtain⟨ck,cj,ch,cg,cf,ce,cd⟩:=zAc bv;obtain⟨cc,cb,b9,b8,b7,b6,b5⟩:=zAd bv;obtain⟨w8,G⟩:∃ w8,w8=(((((((w7.setCell (aH w2 0) (vI i6 ta)).setCell (aH w2 1) (vI i6 ti)).setCell (aH w2 2) (vT ts)).setCell (aH w2 3) (vS T1 ak an)).setCell (aH w2 4) (vS T2 aj am)).setCell (aH w2 5) (vS T3 ai al)).setCell (aH w2 6) (vS T4 a4 a5)):=⟨_,rfl⟩;have bE:w8.heap[w2.heap.size]?=some (oV ta ti ts T1 ak an T2 aj am T3 ai al T4 a4 a5):=by rw[G];exact obj7 bv (vI i6 ta) (vI i6 ti) (vT ts) (vS T1 ak an) (vS T2 aj am) (vS T3 ai al) (vS T4 a4 a5)
    obtain⟨ax,aC⟩:SrcOk h p w8/\Eff p w w8:=by rw[G];exact zB9 bX b1 (by omega) (by omega) _ _ _ _ _ _ _
    have a6:w8.heap.size=w7.heap.size:=by rw[G];simp
    have bk:∀ B:Nat->Prop,¬ B w2.heap.size->Same B w7 w8:=fun B hb=>by rw[G];exact zAa (zAa (zAa (zAa (zAa (zAa (zAa ((Same.refl _ _)) hb) hb) hb) hb) hb) hb) hb
    have k8:w8.heap[w.heap.size]?=some oG:=by rw[G];exact (Bq _ _ _ _ z).trans ((Bq _ _ _ _ z).trans ((Bq _ _ _ _ z).trans ((Bq _ _ _ _ z).trans ((Bq _ _ _ _ z).trans ((Bq _ _ _ _ z).trans ((Bq _ _ _ _ z).trans (k7)))))))
    have aP:w.heap.size+1<=w8.heap.size:=by rw[a6];exact cn
    have bt:Hid (w2.heap.size<w8.heap.size):=xI (by rw[a6];exact bK);have HT:Hid (VB q w8 (fun b=>w.heap.size+1<=b/\b<w8.heap.size/\b≠w2.heap.size) (consV v0 (lfV 5 0 [])) [vI i6 ta,vI i6 ti,vT ts,vS T1 ak an,vS T2 aj am,vS T3 ai al,vS T4 a4 a5]/\okV (consV v0 (lfV 5 0 []))=true/\sml (consV v0 (lfV 5 0 []))):=xI ⟨VB.sub (B:=Btw w4.heap.size w7.heap.size) (fun b hb=>⟨by have:=hb.1;omega,by rw[a6];exact hb.2,by have:=hb.1;omega⟩) (show q-1+1<=q by omega) (VB.keep (bk _ (fun hb=>by have:=hb.1;omega)) hvc7),by
     have a9:consB [v0,lfV 5 0 []]=true:=rfl;have h5:okV (lfV 5 0 [])=true:=by decide
     simp[okV,consV,zAj,AscC,usesB,kindB,okVs,okEs,b4.out.1,h5,a9],⟨by simp,by simp,by simp,by simp,⟨b4.out.2,⟨by simp,by simp,by simp,by simp,by simp[smlVs],by simp[smlEs]⟩,trivial⟩,by simp[smlEs]⟩⟩
    have be:Hid ((decide (zAn (consV v0 (lfV 5 0 []))=5)||decide (zAn (consV v0 (lfV 5 0 []))=7))=true):=xI rfl;clear aU;clear tv;generalize consV v0 (lfV 5 0 [])=tv at HT be;have cE:=xI a6;clear hvc7 a6 bk k7 bX b1 bv;have hl:=zDn h p w8 ax;go_wp2_with fail;rw[<-G];clear G ck cc cj cb ch b9 cg b8 cf b7 ce b6 cd b5;refine hl.mono ?_;rintro e w20 ⟨⟨LA,ln,lc,ls,rfl,hln,ae,hlb,_,hlR⟩,hS20,hE20⟩;clear hl;obtain⟨au,aa,aX⟩:=goZ n aP aC k8 hE20;have aY:w2.heap.size<w8.heap.size:=bt.out;have F:w20.heap[w2.heap.size]?=some (oV ta ti ts T1 ak an T2 aj am T3 ai al T4 a4 a5):=(hE20.other _ (by have:=aM;omega) aY).trans bE;have z:w.heap.size≠w2.heap.size:=by omega
    obtain⟨d,f⟩:∃ d,d=w20.setCell (aH w2 6) (vS LA ln lc):=⟨_,rfl⟩;obtain⟨aA,aI⟩:SrcOk h p d/\Eff p w d:=by rw[f];exact zBe hS20 aa (by omega) (by omega)
    have aq:w.heap.size+1<=d.heap.size:=by rw[f];simpa using au
    have H:d.heap.size=w20.heap.size:=by rw[f];simp
    have bu:=xI H;have J:w2.heap.size<d.heap.size:=by rw[H];exact Bj aY hE20.size
    have bg:d.heap[w.heap.size]?=some oG:=by rw[f];exact (Bq _ _ _ _ z).trans aX
    have ao:d.heap[w2.heap.size]?=some (oV ta ti ts T1 ak an T2 aj am T3 ai al LA ln lc):=by rw[f];simpa using Bm w20 w2.heap.size 6 _ _ (vS LA ln lc) F
    have Z:VB q d (fun b=>w.heap.size+1<=b/\b<d.heap.size/\b≠w2.heap.size) (withL ls tv) [vI i6 ta,vI i6 ti,vT ts,vS T1 ak an,vS T2 aj am,vS T3 ai al,vS LA ln lc]:=by
     have h1:VB q w20 (fun b=>w.heap.size+1<=b/\b<w20.heap.size/\b≠w2.heap.size) tv [vI i6 ta,vI i6 ti,vT ts,vS T1 ak an,vS T2 aj am,vS T3 ai al,vS T4 a4 a5]:=VB.sub (fun b hb=>⟨hb.1,Bj hb.2.1 hE20.size,hb.2.2⟩) lR (VB.keep (hE20.same (B:=fun b=>w.heap.size+1<=b/\b<w8.heap.size/\b≠w2.heap.size) fun b hb=>by have:=hb.1;omega) HT.out.1);subst hln;have h2:=zCc h1 (RowB.sub hlR (fun b hb=>⟨by have:=hb.1;omega,hb.2,by have:=hb.1;omega⟩) fun _ _ h=>h);have h3:=VB.keep (w':=d) (by rw[f];exact zAa (Same.refl _ _) (fun hb=>hb.2.2 rfl)) h2;exact VB.sub (fun b hb=>⟨hb.1,by rw[H];exact hb.2.1,hb.2.2⟩) lR h3
    have a3:=xI (aN Z (aN (zEf HT.out.2.1 hlb) (zEc HT.out.2.2 (by rw[hln];omega))));have y6:=Bz F 6;have g6:w20.cell? (aH w2 6)=some (vS T4 a4 a5):=cH F 6;have M:=fun W (hW:SrcOk h p W)=>hV1.out W hW;have bs:=xI M;clear M hlR hlb Z hln H ae;go_wp2_with fail;rw[<-f];clear f y6 g6 F aX hS20 hE20 aa;have ag:Hid (∀ V,Eff p d V->jV V w2.heap.size ta ti ts T1 ak an T2 aj am T3 ai al LA ln lc):=xI fun V hV=>by
     have kk:=(hV.other _ (by omega) J).trans ao;exact⟨cH kk 0,cH kk 1,cH kk 2,cH kk 3,cH kk 4,cH kk 5,cH kk 6⟩
    have bj:=bs.out d.drew (aA.below (yR.drew));refine Be (S:=fun V=>jV V w2.heap.size ta ti ts T1 ak an T2 aj am T3 ai al LA ln lc) (by kernel_rfl) (ag.out _ ⟨(Bw p d).drew,fun _ _ _=>rfl⟩) (fun hHeld=>?_);refine oT 0 hHeld ?_
    (iterate 2 refine oY hHeld ?_)
    refine oT 4 hHeld ?_;refine oO 3 fun K hK=>?_;go_simp;with_reducible refine bj.mono ?_
    rintro e w22 ⟨⟨v,cs,rfl,r,hok,hsm1⟩,hS22,hE22d⟩;have o:Eff p d w22:=⟨((Bw p d).drew).trans hE22d.below,fun b hb hl=>hE22d.other b hb hl⟩;obtain⟨a,i,s,B1,n1,d1,B2,n2,d2,B3,n3,d3,B4,n4,d4,rfl⟩:=r.form7;refine hK _ _ (ag.out _ o) (oP ?_);refine oO 5 fun K hK=>?_;obtain⟨X,aG,bf⟩:=goZ n aq aI bg o;have ah:=zCz q (w.heap.size+1) v (withL ls tv) _ _ w22 X (VB.sub (fun b hb=>⟨by have h1:d.heap.size<=b:=hb.1;omega,hb.2⟩) lR r) (VB.sub (B:=fun b=>w.heap.size+1<=b/\b<d.heap.size/\b≠w2.heap.size) (fun b hb=>⟨hb.1,Bj hb.2.1 o.size⟩) lR (VB.keep (o.same fun b hb=>by have:=hb.1;omega) a3.out.1));go_simp;with_reducible refine ah.mono ?_
    rintro e w23 ⟨cs,rfl,hvc3,hb23⟩;clear ah;obtain⟨ca,ci,U,C1,m1,f1,C2,m2,f2,C3,m3,f3,C4,m4,f4,rfl⟩:=hvc3.form7;have I:Eff p w22 w23:=Eff.of_below hb23 (by omega);have az:SrcOk h p w23:=hS22.below hb23;obtain⟨bh,aF,ap⟩:=goZ n X aG bf I;have br:=xI (aN hvc3 (aN hok hsm1));clear r hok hsm1 hvc3;refine hK _ _ (ag.out _ (o.trans I)) (oP ?_);refine oO 6 fun K hK=>?_;obtain⟨e0,e1,e2,e3,e4,e5,e6⟩:=zAc ap;obtain⟨z0,z1,z2,z3,z4,z5,z6⟩:=zAd ap;obtain⟨V,hV⟩:∃ V,V=(((((((w23.setCell (aH w 0) (vI i6 ca)).setCell (aH w 1) (vI i6 ci)).setCell (aH w 2) (vT U)).setCell (aH w 3) (vS C1 m1 f1)).setCell (aH w 4) (vS C2 m2 f2)).setCell (aH w 5) (vS C3 m3 f3)).setCell (aH w 6) (vS C4 m4 f4)):=⟨_,rfl⟩;obtain⟨O,t,N,L⟩:=fin7 hV ap az aF n;have bq:jV V w2.heap.size ta ti ts T1 ak an T2 aj am T3 ai al LA ln lc:=by
     have hk:=ag.out _ (o.trans I);have hc:∀ i,V.cell? (aH w2 i)=w23.cell? (aH w2 i):=fun i=>(L (fun b=>b=w2.heap.size) (fun e=>z e)).cell _ i rfl (Bj (Bj J o.size) I.size);simp only[jV,jN,jT,j2,j7,j8,hc];exact hk
    go_simp;rw[<-hV];clear hV e0 z0 e1 z1 e2 z2 e3 z3 e4 z4 e5 z5 e6 z6;refine hK _ _ bq (oP ?_);refine wD ?_;go_wp2;refine retB O rfl rfl rfl ?_;obtain⟨p1,p2,p3⟩:=br.out;obtain⟨p4,p5,p6⟩:=a3.out;have bo:=be.out;refine⟨⟨consV v (withL ls tv),_,rfl,VB.sub (B:=Btw (w.heap.size+1) w23.heap.size) (fun b hb=>⟨by have:=hb.1;omega,by have:=hb.2;omega⟩) lR (VB.keep (L _ (fun h=>by have:=h.1;omega)) p1),?_,?_,rfl⟩,t⟩
    ·have bn:zAn (withL ls tv)=zAn tv:=by cases tv;rfl
     have a9:consB [v,withL ls tv]=true:=by
      show (decide (zAn (withL ls tv)=5)||decide (zAn (withL ls tv)=7))=true;rw[bn];exact bo
     simp[okV,consV,zAj,AscC,usesB,kindB,okVs,okEs,p2,p5,a9]
    ·exact⟨by simp,by simp,by simp,by simp,⟨p3,p6,trivial⟩,by simp[smlEs]⟩
  ·have cl:decide ((2:Int)<qq)=false:=by simp;have:=HQ.out;omega
   go_wp2_with fail;rw[<-bi];clear bi;have bt:Hid (w2.heap.size<w3.heap.size):=xI (by omega);have HT:Hid (VB q w3 (fun b=>w.heap.size+1<=b/\b<w3.heap.size/\b≠w2.heap.size) tv [vI i6 5,vI i6 0,vT ⟨#[]⟩,vS none 0 0,vS none 0 0,vS none 0 0,vS none 0 0]/\okV tv=true/\sml tv):=xI ⟨by rw[<-aU.out];exact VB.sub (fun _ h=>h) hq (lfVB (by decide) (by decide) (by simp) 0 _ _),by rw[<-aU.out];decide,by rw[<-aU.out];exact⟨by simp,by simp,by simp,by simp,by simp[smlVs],by simp[smlEs]⟩⟩;have be:Hid ((decide (zAn tv=5)||decide (zAn tv=7))=true):=xI (by rw[<-aU.out];decide);have hl:=zDn h p w3 P;go_wp2_with fail;refine hl.mono ?_;rintro e w20 ⟨⟨LA,ln,lc,ls,rfl,hln,ae,hlb,_,hlR⟩,hS20,hE20⟩;clear hl;obtain⟨au,aa,aX⟩:=goZ n R Q k3 hE20;have aY:w2.heap.size<w3.heap.size:=bt.out;have F:w20.heap[w2.heap.size]?=some (oV 5 0 ⟨#[]⟩ none 0 0 none 0 0 none 0 0 none 0 0):=(hE20.other _ (by have:=aM;omega) aY).trans bF;have z:w.heap.size≠w2.heap.size:=by omega
   obtain⟨d,f⟩:∃ d,d=w20.setCell (aH w2 6) (vS LA ln lc):=⟨_,rfl⟩;obtain⟨aA,aI⟩:SrcOk h p d/\Eff p w d:=by rw[f];exact zBe hS20 aa (by omega) (by omega)
   have aq:w.heap.size+1<=d.heap.size:=by rw[f];simpa using au
   have H:d.heap.size=w20.heap.size:=by rw[f];simp
   have bu:=xI H;have J:w2.heap.size<d.heap.size:=by rw[H];exact Bj aY hE20.size
   have bg:d.heap[w.heap.size]?=some oG:=by rw[f];exact (Bq _ _ _ _ z).trans aX
   have ao:d.heap[w2.heap.size]?=some (oV 5 0 ⟨#[]⟩ none 0 0 none 0 0 none 0 0 LA ln lc):=by rw[f];simpa using Bm w20 w2.heap.size 6 _ _ (vS LA ln lc) F
   have Z:VB q d (fun b=>w.heap.size+1<=b/\b<d.heap.size/\b≠w2.heap.size) (withL ls tv) [vI i6 5,vI i6 0,vT ⟨#[]⟩,vS none 0 0,vS none 0 0,vS none 0 0,vS LA ln lc]:=by
    have h1:VB q w20 (fun b=>w.heap.size+1<=b/\b<w20.heap.size/\b≠w2.heap.size) tv [vI i6 5,vI i6 0,vT ⟨#[]⟩,vS none 0 0,vS none 0 0,vS none 0 0,vS none 0 0]:=VB.sub (fun b hb=>⟨hb.1,Bj hb.2.1 hE20.size,hb.2.2⟩) lR (VB.keep (hE20.same (B:=fun b=>w.heap.size+1<=b/\b<w3.heap.size/\b≠w2.heap.size) fun b hb=>by have:=hb.1;omega) HT.out.1);subst hln;have h2:=zCc h1 (RowB.sub hlR (fun b hb=>⟨by have:=hb.1;omega,hb.2,by have:=hb.1;omega⟩) fun _ _ h=>h);have h3:=VB.keep (w':=d) (by rw[f];exact zAa (Same.refl _ _) (fun hb=>hb.2.2 rfl)) h2;exact VB.sub (fun b hb=>⟨hb.1,by rw[H];exact hb.2.1,hb.2.2⟩) lR h3
   have a3:=xI (aN Z (aN (zEf HT.out.2.1 hlb) (zEc HT.out.2.2 (by rw[hln];omega))));have y6:=Bz F 6;have g6:w20.cell? (aH w2 6)=some (vS none 0 0):=cH F 6;have M:=fun W (hW:SrcOk h p W)=>hV1.out W hW;have bs:=xI M;clear M hlR hlb Z hln H ae;go_wp2_with fail;rw[<-f];clear f y6 g6 F aX hS20 hE20 aa;have ag:Hid (∀ V,Eff p d V->jV V w2.heap.size 5 0 ⟨#[]⟩ none 0 0 none 0 0 none 0 0 LA ln lc):=xI fun V hV=>by
    have kk:=(hV.other _ (by omega) J).trans ao;exact⟨cH kk 0,cH kk 1,cH kk 2,cH kk 3,cH kk 4,cH kk 5,cH kk 6⟩
   have bj:=bs.out d.drew (aA.below (yR.drew));refine Be (S:=fun V=>jV V w2.heap.size 5 0 ⟨#[]⟩ none 0 0 none 0 0 none 0 0 LA ln lc) (by kernel_rfl) (ag.out _ ⟨(Bw p d).drew,fun _ _ _=>rfl⟩) (fun hHeld=>?_);refine oT 0 hHeld ?_
   (iterate 2 refine oY hHeld ?_)
   refine oT 4 hHeld ?_;refine oO 3 fun K hK=>?_;go_simp;with_reducible refine bj.mono ?_
   rintro e w22 ⟨⟨v,cs,rfl,r,hok,hsm1⟩,hS22,hE22d⟩;have o:Eff p d w22:=⟨((Bw p d).drew).trans hE22d.below,fun b hb hl=>hE22d.other b hb hl⟩;obtain⟨a,i,s,B1,n1,d1,B2,n2,d2,B3,n3,d3,B4,n4,d4,rfl⟩:=r.form7;refine hK _ _ (ag.out _ o) (oP ?_);refine oO 5 fun K hK=>?_;obtain⟨X,aG,bf⟩:=goZ n aq aI bg o;have ah:=zCz q (w.heap.size+1) v (withL ls tv) _ _ w22 X (VB.sub (fun b hb=>⟨by have h1:d.heap.size<=b:=hb.1;omega,hb.2⟩) lR r) (VB.sub (B:=fun b=>w.heap.size+1<=b/\b<d.heap.size/\b≠w2.heap.size) (fun b hb=>⟨hb.1,Bj hb.2.1 o.size⟩) lR (VB.keep (o.same fun b hb=>by have:=hb.1;omega) a3.out.1));go_simp;with_reducible refine ah.mono ?_
   rintro e w23 ⟨cs,rfl,hvc3,hb23⟩;clear ah;obtain⟨ca,ci,U,C1,m1,f1,C2,m2,f2,C3,m3,f3,C4,m4,f4,rfl⟩:=hvc3.form7;have I:Eff p w22 w23:=Eff.of_below hb23 (by omega);have az:SrcOk h p w23:=hS22.below hb23;obtain⟨bh,aF,ap⟩:=goZ n X aG bf I;have br:=xI (aN hvc3 (aN hok hsm1));clear r hok hsm1 hvc3;refine hK _ _ (ag.out _ (o.trans I)) (oP ?_);refine oO 6 fun K hK=>?_;obtain⟨e0,e1,e2,e3,e4,e5,e6⟩:=zAc ap;obtain⟨z0,z1,z2,z3,z4,z5,z6⟩:=zAd ap;obtain⟨V,hV⟩:∃ V,V=(((((((w23.setCell (aH w 0) (vI i6 ca)).setCell (aH w 1) (vI i6 ci)).setCell (aH w 2) (vT U)).setCell (aH w 3) (vS C1 m1 f1)).setCell (aH w 4) (vS C2 m2 f2)).setCell (aH w 5) (vS C3 m3 f3)).setCell (aH w 6) (vS C4 m4 f4)):=⟨_,rfl⟩;obtain⟨O,t,N,L⟩:=fin7 hV ap az aF n;have bq:jV V w2.heap.size 5 0 ⟨#[]⟩ none 0 0 none 0 0 none 0 0 LA ln lc:=by
    have hk:=ag.out _ (o.trans I);have hc:∀ i,V.cell? (aH w2 i)=w23.cell? (aH w2 i):=fun i=>(L (fun b=>b=w2.heap.size) (fun e=>z e)).cell _ i rfl (Bj (Bj J o.size) I.size);simp only[jV,jN,jT,j2,j7,j8,hc];exact hk
   go_simp;rw[<-hV];clear hV e0 z0 e1 z1 e2 z2 e3 z3 e4 z4 e5 z5 e6 z6;refine hK _ _ bq (oP ?_);refine wD ?_;go_wp2;refine retB O rfl rfl rfl ?_;obtain⟨p1,p2,p3⟩:=br.out;obtain⟨p4,p5,p6⟩:=a3.out;have bo:=be.out;refine⟨⟨consV v (withL ls tv),_,rfl,VB.sub (B:=Btw (w.heap.size+1) w23.heap.size) (fun b hb=>⟨by have:=hb.1;omega,by have:=hb.2;omega⟩) lR (VB.keep (L _ (fun h=>by have:=h.1;omega)) p1),?_,?_,rfl⟩,t⟩
   ·have bn:zAn (withL ls tv)=zAn tv:=by cases tv;rfl
    have a9:consB [v,withL ls tv]=true:=by
     show (decide (zAn (withL ls tv)=5)||decide (zAn (withL ls tv)=7))=true;rw[bn];exact bo
    simp[okV,consV,zAj,AscC,usesB,kindB,okVs,okEs,p2,p5,a9]
   ·exact⟨by simp,by simp,by simp,by simp,⟨p3,p6,trivial⟩,by simp[smlEs]⟩
 ·have hN:=zAh h p 3 w1 hS1 (by omega) (by omega);go_wp2_with fail;refine hN.mono ?_;rintro e w2 ⟨i,rfl,i0,i1,aQ,ba⟩;clear hN;obtain⟨aM,aS,k2⟩:=goZ n bc aO k1 ba;obtain⟨i',rfl⟩:∃ i':Nat,i=i':=⟨i.toNat,by omega⟩;clear k1 aO hS1;go_wp2_with fail
  go_loopw [8,9,10] (fun ky l i wr=>∃ (m:Nat) (A1:Option Addr) (c1:Nat) (A2:Option Addr) (c2:Nat) (k:List (Int×List UInt8)) (vs:List Vl) (D:Nat->Prop),ky=vS A1 k.length c1/\l=vS A2 k.length c2/\i=vI i6 m/\k.length+m<=2/\MapI q (w.heap.size+1) wr (vS A1 k.length c1) (vS A2 k.length c2) k vs D/\SrcOk h p wr/\Eff p w wr/\w.heap.size+1<=wr.heap.size/\wr.heap[w.heap.size]?=some oG) (fun _ _ i _=>(intOf i).toNat)
  case atStart=>exact⟨i',none,0,none,0,[],[],fun _=>False,rfl,rfl,rfl,by simp;omega,MapI.nil q _ _,aQ,aS,aM,k2⟩
  case round=>
   obtain⟨m,A1,c1,A2,c2,k,vs,D,rfl,rfl,rfl,hm,hI,aw,aJ,aZ,kr⟩:=hrel;by_cases hm0:m=0
   ·subst hm0;have mp:((0:Nat):Int)=0:=rfl;have hT:=zRo q (w.heap.size+1) A1 c1 k A2 c2 vs wr (by omega) hI (by omega);have aK:=xI (aN hm hI);clear hm hI;generalize hla:k.length=la at hT;clear hla;go_wp2_with fail;refine hT.mono ?_;rintro e w3 ⟨Y,hcase⟩;clear hT;have C:Eff p wr w3:=Eff.of_below Y (by omega);have P:SrcOk h p w3:=aw.below Y;have Q:Eff p w w3:=aJ.trans C;have R:w.heap.size+1<=w3.heap.size:=Ba aZ C.size;have k3:w3.heap[w.heap.size]?=some oG:=(Y.block _ (by omega)).trans kr;clear kr Y;rcases hcase with⟨_,rfl⟩|⟨_,_,_,rfl⟩|⟨_,_,_,cs,rfl,r⟩
    ·obtain⟨w8,G⟩:∃ w8,w8=w3.alloc oG:=⟨_,rfl⟩;have ab:bW w3 w8:=by rw[G];exact yR.alloc lR _
     have aT:Eff p w3 w8:=Eff.of_below ab (by omega);have ax:SrcOk h p w8:=P.below ab;obtain⟨aP,aC,k8⟩:=goZ n R Q k3 aT;have af:=zB0 h p w8 ax;go_wp2_with fail;rw[<-G];clear G;refine af.mono ?_;rintro e w9 ⟨⟨kk,ii,tt,rfl,hLf⟩,hS9,hE9⟩;simp only[lfC];clear af;obtain⟨bw,aR,k9⟩:=goZ n aP aC k8 hE9;obtain⟨e0,e1,e2,e3,e4,e5,e6⟩:=zAc k9;obtain⟨z0,z1,z2,z3,z4,z5,z6⟩:=zAd k9;go_wp2;refine nW fun V hV=>?_;obtain⟨O,t,N,L⟩:=fin7 hV k9 hS9 aR n;clear hV e0 z0 e1 z1 e2 z2 e3 z3 e4 z4 e5 z5 e6 z6;refine retB O rfl rfl rfl ?_;obtain⟨l1,l2,l3,l4,l5⟩:=hLf.all;exact⟨⟨lfV kk ii tt,_,rfl,lfVB l3 l4 l5 q V _,l1,l2,rfl⟩,t⟩
    ·obtain⟨w8,G⟩:∃ w8,w8=w3.alloc oG:=⟨_,rfl⟩;have ab:bW w3 w8:=by rw[G];exact yR.alloc lR _
     have aT:Eff p w3 w8:=Eff.of_below ab (by omega);have ax:SrcOk h p w8:=P.below ab;obtain⟨aP,aC,k8⟩:=goZ n R Q k3 aT;have af:=zB0 h p w8 ax;go_wp2_with fail;rw[<-G];clear G;refine af.mono ?_;rintro e w9 ⟨⟨kk,ii,tt,rfl,hLf⟩,hS9,hE9⟩;simp only[lfC];clear af;obtain⟨bw,aR,k9⟩:=goZ n aP aC k8 hE9;obtain⟨e0,e1,e2,e3,e4,e5,e6⟩:=zAc k9;obtain⟨z0,z1,z2,z3,z4,z5,z6⟩:=zAd k9;go_wp2;refine nW fun V hV=>?_;obtain⟨O,t,N,L⟩:=fin7 hV k9 hS9 aR n;clear hV e0 z0 e1 z1 e2 z2 e3 z3 e4 z4 e5 z5 e6 z6;refine retB O rfl rfl rfl ?_;obtain⟨l1,l2,l3,l4,l5⟩:=hLf.all;exact⟨⟨lfV kk ii tt,_,rfl,lfVB l3 l4 l5 q V _,l1,l2,rfl⟩,t⟩
    ·obtain⟨ca,ci,U,C1,m1,f1,C2,m2,f2,C3,m3,f3,C4,m4,f4,rfl⟩:=r.form7;have HV:=xI r;clear r;obtain⟨w8,G,ab,bE,_⟩:=aW w3 (oV ca ci U C1 m1 f1 C2 m2 f2 C3 m3 f3 C4 m4 f4)
     have a6:w3.heap.size+1<=w8.heap.size:=by rw[G];simp
     have aT:Eff p w3 w8:=Eff.of_below ab (by omega);have ax:SrcOk h p w8:=P.below ab;obtain⟨aP,aC,k8⟩:=goZ n R Q k3 aT;have z:¬ w3.heap.size=w.heap.size:=by omega
     have bI:¬ w.heap.size=w3.heap.size:=by omega
     obtain⟨e0,e1,e2,e3,e4,e5,e6⟩:=zAc k8;obtain⟨z0,z1,z2,z3,z4,z5,z6⟩:=zAd k8;rw[G]at e0 z0 e1 z1 e2 z2 e3 z3 e4 z4 e5 z5 e6 z6
     go_wp2;refine nW fun V hV=>?_;rw[<-G]at hV;obtain⟨O,t,N,L⟩:=fin7 hV k8 ax aC n;clear hV G e0 z0 e1 z1 e2 z2 e3 z3 e4 z4 e5 z5 e6 z6;refine retB O rfl rfl rfl ?_;have ct:=aK.out.1;have bV:=aK.out.2.len;have bS:=zFc (c:=cK) (k.zip vs);rw[List.length_zip]at bS;have bJ:∀ x∈srtC cK (k.zip vs),keyB x.1.1 x.1.2=true/\okV x.2=true/\sml x.2:=by
      rintro⟨x,y⟩ hx;have hz:=List.of_mem_zip (zIw hx);exact⟨(aK.out.2.kn x hz.1).ok,aK.out.2.ok y hz.2⟩
     refine⟨⟨mapV (srtC cK (k.zip vs)),_,rfl,VB.sub (B:=Btw (w.heap.size+1) w3.heap.size) (fun b hb=>⟨by have:=hb.1;omega,by have:=hb.2;omega⟩) lR (VB.keep (L _ (fun h=>by have:=h.1;omega)) (VB.keep (.of_below ab fun _ h=>h.2) HV.out)),?_,?_,rfl⟩,t⟩
     ·have h1:okVs ((srtC cK (k.zip vs)).map Prod.snd)=true:=by
       rw[zCa,Cz];intro y hy;obtain⟨u,hu,rfl⟩:=Cd.1 hy;exact (bJ u hu).2.1
      have h2:((srtC cK (k.zip vs)).map Prod.fst).all (fun x=>keyB x.1 x.2)=true:=by
       rw[Cz];intro y hy;obtain⟨u,hu,rfl⟩:=Cd.1 hy;exact (bJ u hu).1
      have h3:AscC cmpK ((srtC cK (k.zip vs)).map Prod.fst):=by rw[zRl];exact zK3 totK _
      have h4:zAj []=true:=by decide
      have h5:kindB 8 0 [] ((srtC cK (k.zip vs)).map Prod.snd) ((srtC cK (k.zip vs)).map Prod.fst) []=true:=by
       unfold kindB;rw[if_neg (by decide),if_neg (by decide),if_neg (by decide),if_neg (by decide),if_neg (by decide),if_neg (by decide),if_pos rfl,h2];simp[h3]
      show (zAj []&&usesB 8 0 [] _ ((srtC cK (k.zip vs)).map Prod.fst) []&&kindB 8 0 [] _ ((srtC cK (k.zip vs)).map Prod.fst) []&&okVs ((srtC cK (k.zip vs)).map Prod.snd)&&okEs [])=true;rw[h5,h4,h1];simp[usesB,okEs]
     ·refine⟨by rw[Bk];omega,by rw[Bk];omega,by simp,by simp,zFr.2 fun y hy=>?_,by simp[smlEs]⟩;obtain⟨u,hu,rfl⟩:=Cd.1 hy;exact (bJ u hu).2.2
   ·have mp:(0:Int)<(m:Int):=by omega
    have bQ:IntKind.i64.wrap ((m:Int)-1)=(m:Int)-1:=Br _ (by omega);have M:=zRy h p wr aw;have HI:=xI hI;have HM:=xI hm;clear hI hm;generalize hla:k.length=la at *;have ad:=xI hla;clear hla;go_wp2_with fail;refine M.mono ?_;rintro e w3 ⟨⟨x,rfl,hkn⟩,P,C⟩;clear M;have Q:Eff p w w3:=aJ.trans C;have R:w.heap.size+1<=w3.heap.size:=Ba aZ C.size;have k3:w3.heap[w.heap.size]?=some oG:=(C.other _ (by omega) (by omega)).trans kr;have bG:=C.size;have a8:=ad.out;have a7:=HM.out;have b0:OwnK w3 (w.heap.size+1) (vS A1 la c1) k:=OwnC.kept HI.out.ky (fun g hg=>C.other _ (by have:=(HI.out.ky.blk g hg).1;omega) (HI.out.ky.blk g hg).2);have bL:kyC x [vI i6 x.1,vT ⟨x.2.toArray⟩]:=⟨rfl,hkn.wf,hkn.len⟩;go_wp2_with (at_builtin;refine zHi rfl _ _ rfl (w.heap.size+1) _ k rfl b0 x _ 1 _ rfl rfl _ rfl bL rfl (zB5 bL) (by omega) R ?_;intro g cap w4 ho4 hb4 hk4 hg4;refine Hid.out ?_);refine xI ?_;have ay:SrcOk h p w4:=P.below3 hb4 (by omega);have aE:Eff p w w4:=Q.grow (hb4.mono (by omega)) n;have aL:w.heap.size+1<=w4.heap.size:=Ba R hb4.size;have k4:w4.heap[w.heap.size]?=some oG:=(hb4.block _ (by omega)).trans k3;have M:=hV1.out w4 ay;have aV:=xI (aN ho4 (aN hk4 (aN hg4 (aN hkn (aN C hb4)))));clear ho4 hk4 hg4 hkn b0 bL k3 Q P C kr aw aJ a8 a7 bG;go_wp2_with fail;refine M.mono ?_;rintro e w5 ⟨⟨v,cs,rfl,r,hok,L⟩,hS5,hE5⟩;clear M;have bC:Eff p w w5:=aE.trans hE5;have bz:w.heap.size+1<=w5.heap.size:=Ba aL hE5.size;have k5:w5.heap[w.heap.size]?=some oG:=(hE5.other _ (by omega) (by omega)).trans k4;have bZ:=HI.out.step2 n aV.out.2.2.2.2.1 aV.out.2.2.2.2.2 aV.out.2.1 hE5;have bR:VB q w5 (fun b=>D b\/Btw w4.heap.size w5.heap.size b) v cs:=VB.sub (fun _ hb=>.inr hb) lR r;obtain⟨ca,ci,U,B1,n1,d1,B2,n2,d2,B3,n3,d3,B4,n4,d4,rfl⟩:=r.form7;have bV:=HI.out.len;have a8:=ad.out;have a7:=HM.out;go_wp2_with (at_builtin;refine zMb (elC (fun x cs=>VB q w5 (fun b=>D b\/Btw w4.heap.size w5.heap.size b) x cs)) rfl _ _ rfl (w.heap.size+1) _ vs rfl bZ v _ 1 _ rfl rfl _ rfl bR rfl (zBg q v _ _ _ r) (by omega) bz ?_;intro g2 cap2 w6 ho6 hb6 hk6 hg6;refine Hid.out ?_);refine xI ?_;have bA:SrcOk h p w6:=hS5.below3 hb6 (by omega);have bB:Eff p w w6:=bC.grow (hb6.mono (by omega)) n;have bx:w.heap.size+1<=w6.heap.size:=Ba bz hb6.size;have k6:w6.heap[w.heap.size]?=some oG:=(hb6.block _ (by omega)).trans k5;have a2:=HI.out.step (x:=x) (v:=v) n aV.out.2.2.2.2.1 aV.out.2.2.2.2.2 aV.out.2.1 aV.out.2.2.1 aV.out.1 aV.out.2.2.2.1 hE5 ho6 hb6 hk6 hg6 hok L;have HR:=xI (aN a2 (aN bA (aN bB (aN bx k6))));clear a2 bA bB bx k6 ho6 hb6 hk6 hg6 hok L bR bZ r hS5 hE5 bC k5 ay aE k4 a8 a7 bV hb4;go_wp2_with fail
    go_roundw
    case rel=>
     obtain⟨q1,q4,q5,q6,q7⟩:=HR.out;have ae:(k++[x]).length=la+1:=by rw[Bd,ad.out];rfl
     have bm:vs.length=la:=HI.out.len.trans ad.out;rw[ad.out,bm]at q1;exact⟨m-1,some (aD g 0),cap,some (aD g2 0),cap2,k++[x],vs++[v],_,by rw[ae,<-ad.out],by rw[ae,<-bm],by go_num,by have:=HM.out;omega,by rw[ae];exact q1,q4,q5,q6,q7⟩
    case measure=>simp[intOf];try omega
 ·have hN:=zAh h p 3 w1 hS1 (by omega) (by omega);go_wp2_with fail;refine hN.mono ?_;rintro e w2 ⟨ar,rfl,a0,a1,aQ,ba⟩;clear hN;obtain⟨aM,aS,k2⟩:=goZ n bc aO k1 ba;obtain⟨a,rfl⟩:∃ a:Nat,ar=a:=⟨ar.toNat,by omega⟩;have cy:a<=2:=by omega
  have cx:(Lit.int .i64 (a:Int)).wf=true:=by
   have h3:a=0\/a=1\/a=2:=by omega
   rcases h3 with rfl|rfl|rfl<;>decide
  have hN:=zAh h p 3 w2 aQ (by omega) (by omega);clear k1 aO hS1 a0 a1;go_wp2_with fail;refine hN.mono ?_;rintro e wx ⟨i,rfl,i0,i1,hSx,hEx⟩;clear hN;obtain⟨cm,cz,kx⟩:=goZ n aM aS k2 hEx;obtain⟨i',rfl⟩:∃ i':Nat,i=i':=⟨i.toNat,by omega⟩;clear k2 aS aQ;go_wp2_with fail
  go_loopw [14,15] (fun l i wr=>∃ (m:Nat) (A:Option Addr) (c:Nat) (es:List En),l=vS A es.length c/\i=vI i6 m/\es.length+m<=2/\OwnEn q wr (w.heap.size+1) (vS A es.length c) es/\(∀ x∈es,entB a x=true/\okE x=true/\smlE x)/\SrcOk h p wr/\Eff p w wr/\w.heap.size+1<=wr.heap.size/\wr.heap[w.heap.size]?=some oG) (fun _ i _=>(intOf i).toNat)
  case atStart=>exact⟨i',none,0,[],rfl,rfl,by simp;omega,OwnE.nil _ _ _ _ _,by simp,hSx,cz,cm,kx⟩
  case round=>
   obtain⟨m,A,c,es,rfl,rfl,hm,hO,T,aw,aJ,aZ,kr⟩:=hrel;by_cases hm0:m=0
   ·subst hm0;have mp:((0:Nat):Int)=0:=rfl;have hT:=zC9 q (w.heap.size+1) a A c es wr (by omega) (hO.row (by omega) (by unfold maxLen;omega)) (by omega) cx;have aK:=xI (aN hm T);clear hO T hm;generalize hla:es.length=la at hT;clear hla;go_wp2_with fail;refine hT.mono ?_;rintro e w3 ⟨Y,hcase⟩;clear hT;have C:Eff p wr w3:=Eff.of_below Y (by omega);have P:SrcOk h p w3:=aw.below Y;have Q:Eff p w w3:=aJ.trans C;have R:w.heap.size+1<=w3.heap.size:=Ba aZ C.size;have k3:w3.heap[w.heap.size]?=some oG:=(Y.block _ (by omega)).trans kr;clear kr Y;rcases hcase with⟨cw,cs,rfl,r⟩|⟨cw,rfl⟩
    ·obtain⟨ca,ci,U,C1,m1,f1,C2,m2,f2,C3,m3,f3,C4,m4,f4,rfl⟩:=r.form7;have HV:=xI r;clear r;obtain⟨w8,G,ab,bE,_⟩:=aW w3 (oV ca ci U C1 m1 f1 C2 m2 f2 C3 m3 f3 C4 m4 f4)
     have a6:w3.heap.size+1<=w8.heap.size:=by rw[G];simp
     have aT:Eff p w3 w8:=Eff.of_below ab (by omega);have ax:SrcOk h p w8:=P.below ab;obtain⟨aP,aC,k8⟩:=goZ n R Q k3 aT;have z:¬ w3.heap.size=w.heap.size:=by omega
     have bI:¬ w.heap.size=w3.heap.size:=by omega
     obtain⟨e0,e1,e2,e3,e4,e5,e6⟩:=zAc k8;obtain⟨z0,z1,z2,z3,z4,z5,z6⟩:=zAd k8;rw[G]at e0 z0 e1 z1 e2 z2 e3 z3 e4 z4 e5 z5 e6 z6
     go_wp2;refine nW fun V hV=>?_;rw[<-G]at hV;obtain⟨O,t,N,L⟩:=fin7 hV k8 ax aC n;clear hV G e0 z0 e1 z1 e2 z2 e3 z3 e4 z4 e5 z5 e6 z6;refine retB O rfl rfl rfl ?_;have bM:∀ x∈srtC cmpE es,entB a x=true/\okE x=true/\smlE x:=fun x hx=>aK.out.2 x ((zQa totE _ _).1 hx);have bS:=zFc (c:=cmpE) es;have ct:=aK.out.1;refine⟨⟨funV a (srtC cmpE es),_,rfl,VB.sub (B:=Btw (w.heap.size+1) w3.heap.size) (fun b hb=>⟨by have:=hb.1;omega,by have:=hb.2;omega⟩) lR (VB.keep (L _ (fun h=>by have:=h.1;omega)) (VB.keep (.of_below ab fun _ h=>h.2) HV.out)),?_,?_,rfl⟩,t⟩
     ·have h1:okEs (srtC cmpE es)=true:=by rw[zFf,Cz];exact fun x hx=>(bM x hx).2.1
      have h2:(srtC cmpE es).all (entB a)=true:=by rw[Cz];exact fun x hx=>(bM x hx).1
      have h3:=zK3 totE es;simp[okV,funV,zAj,usesB,kindB,okVs,h1,h2,h3];refine⟨by simp[AscC],by omega⟩
     ·exact⟨by simp,by simp,by omega,by simp,by simp[smlVs],zIh.2 fun x hx=>(bM x hx).2.2⟩
    ·obtain⟨w8,G⟩:∃ w8,w8=w3.alloc oG:=⟨_,rfl⟩;have ab:bW w3 w8:=by rw[G];exact yR.alloc lR _
     have aT:Eff p w3 w8:=Eff.of_below ab (by omega);have ax:SrcOk h p w8:=P.below ab;obtain⟨aP,aC,k8⟩:=goZ n R Q k3 aT;have af:=zB0 h p w8 ax;go_wp2_with fail;rw[<-G];clear G;refine af.mono ?_;rintro e w9 ⟨⟨kk,ii,tt,rfl,hLf⟩,hS9,hE9⟩;simp only[lfC];clear af;obtain⟨bw,aR,k9⟩:=goZ n aP aC k8 hE9;obtain⟨e0,e1,e2,e3,e4,e5,e6⟩:=zAc k9;obtain⟨z0,z1,z2,z3,z4,z5,z6⟩:=zAd k9;go_wp2;refine nW fun V hV=>?_;obtain⟨O,t,N,L⟩:=fin7 hV k9 hS9 aR n;clear hV e0 z0 e1 z1 e2 z2 e3 z3 e4 z4 e5 z5 e6 z6;refine retB O rfl rfl rfl ?_;obtain⟨l1,l2,l3,l4,l5⟩:=hLf.all;exact⟨⟨lfV kk ii tt,_,rfl,lfVB l3 l4 l5 q V _,l1,l2,rfl⟩,t⟩
   ·have mp:(0:Int)<(m:Int):=by omega
    have bQ:IntKind.i64.wrap ((m:Int)-1)=(m:Int)-1:=Br _ (by omega);have M:=zN0 q h p a q wr aw cy (by omega) hV1;have bb:=xI T;have HO:=xI hO;have HM:=xI hm;generalize hla:es.length=la at *;have ad:=xI hla;clear T hO hla hm;go_wp2_with fail;refine M.mono ?_;rintro e w3 ⟨⟨x,cs,rfl,r,hok⟩,P,C⟩;clear M;obtain⟨E,b3,bD,cp,ua,rs,rfl,bU,bT⟩:=r.toK;obtain⟨Aa,cD,rfl,_⟩:=bU.form;obtain⟨ca,ci,U,B1,n1,d1,B2,n2,d2,B3,n3,d3,B4,n4,d4,rfl⟩:=bT.form7;clear bU bT;generalize hlaa:E.length=laa at r;clear hlaa cp;have Q:Eff p w w3:=aJ.trans C;have R:w.heap.size+1<=w3.heap.size:=Ba aZ C.size;have k3:w3.heap[w.heap.size]?=some oG:=(C.other _ (by omega) (by omega)).trans kr;have bp:=HO.out.eff C (by omega);have av:=HO.out.blk;have bG:=C.size;have a8:=ad.out;have a7:=HM.out;go_wp2_with (at_builtin;refine zHj rfl _ _ rfl q (w.heap.size+1) _ es rfl bp x _ 1 _ rfl rfl _ rfl (EnB.sub r (fun b hb=>⟨by have:=hb.1;omega,hb.2,fun e=>by have:=av b e.symm;have:=hb.1;omega⟩)) rfl (zBt q x _ _ _ r) (by omega) R ?_;intro g cap w4 ho4 hb4 _ _;refine Hid.out ?_);refine xI ?_;have ay:SrcOk h p w4:=P.below3 hb4 (by omega);have aE:Eff p w w4:=Q.grow (hb4.mono (by omega)) n;have aL:w.heap.size+1<=w4.heap.size:=Ba R hb4.size;have k4:w4.heap[w.heap.size]?=some oG:=(hb4.block _ (by omega)).trans k3;have HR:=xI (aN ho4 (aN hok (aN ay (aN aE (aN aL k4)))));clear ho4 hok ay aE aL k4 r bp av hb4 Q k3 P C kr aw aJ a8 a7;go_wp2_with fail
    go_roundw
    case rel=>
     obtain⟨q1,q2,q4,q5,q6,q7⟩:=HR.out;have ae:(es++[x]).length=la+1:=by rw[Bd,ad.out];rfl
     refine⟨m-1,some (aD g 0),cap,es++[x],by rw[ae,<-ad.out],by go_num,by have:=HM.out;omega,by rw[ae,<-ad.out];exact q1,?_,q4,q5,q6,q7⟩;intro y hy;rcases B7.1 hy with hy|hy
     ·exact bb.out y hy
     ·rw[Ct.1 hy];exact q2
    case measure=>simp[intOf];try omega
 ·clear q1;have af:=zB0 h p w1 hS1;go_wp2_with fail;refine af.mono ?_;rintro e w9 ⟨⟨kk,ii,tt,rfl,hLf⟩,hS9,hE9⟩;simp only[lfC];clear af;obtain⟨bw,aR,k9⟩:=goZ n bc aO k1 hE9;obtain⟨e0,e1,e2,e3,e4,e5,e6⟩:=zAc k9;obtain⟨z0,z1,z2,z3,z4,z5,z6⟩:=zAd k9;go_wp2;refine nW fun V hV=>?_;obtain⟨O,t,N,L⟩:=fin7 hV k9 hS9 aR n;clear hV e0 z0 e1 z1 e2 z2 e3 z3 e4 z4 e5 z5 e6 z6;refine retB O rfl rfl rfl ?_;obtain⟨l1,l2,l3,l4,l5⟩:=hLf.all;exact⟨⟨lfV kk ii tt,_,rfl,lfVB l3 l4 l5 q V _,l1,l2,rfl⟩,t⟩
end Go.Proofs.YteedihhdcbepmaaGreat
