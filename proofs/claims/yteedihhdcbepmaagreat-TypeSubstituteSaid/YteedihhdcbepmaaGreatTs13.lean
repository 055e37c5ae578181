/- Rows of Booleans and of small numbers in a .. -/
import Derived.Test.YteedihhdcbepmaaGreatTsZ
import Derived.Test.YteedihhdcbepmaaGreatTs10
import Derived.Test.YteedihhdcbepmaaGreatTs12
set_option maxRecDepth 100000
set_option maxHeartbeats 12800000
set_option linter.all false
open Go.Value renaming slice→vS,int→vI,string→vT
open Go.IntKind renaming i64→i6
open Go.Proofs.Tryz
open Go.Proofs.Tryz renaming prog→tP
namespace Go.Proofs.YteedihhdcbepmaaGreat
open Go Go.RowKit
theorem zK5 {ns:List Tn}{root:Int}{cs:List Value}{x:Tn}{xs:List Value}(w:World) (hT:TyP w w.heap.size ns root cs) (hN:TnP w w.heap.size x xs) :
  Calls tP 75 #[.agg cs.toArray,.agg xs.toArray] w fun e w'=>e=.returned (.bool (tnB ns.length x))/\bW w w':=by
 have d:=hT;have f:=hN;obtain⟨u,rfl,hr,b⟩:=d;obtain⟨A,c,rfl,_⟩:=b.form;obtain⟨uk,uf,rfl,_,hk,hf⟩:=f;obtain⟨Ak,ck,rfl,_⟩:=hk.form;obtain⟨Af,cf,rfl,_⟩:=hf.form;obtain⟨kd,lo,hi,tx,ks,a,r0,r1⟩:=x;cases hkids:ks.all (idxB ns.length)with
 | false=>exact zRg ns root A c kd lo hi tx ks a r0 r1 Ak ck Af cf w hT hN hkids
 | true=>
  by_cases h1:kd=1\/kd=2\/kd=3\/kd=4\/kd=5\/kd=7\/kd=8\/kd=9\/kd=10\/kd=11\/kd=12\/kd=14\/kd=15\/kd=16\/kd=17\/kd=18
  ·exact zOq ns root A c kd lo hi tx ks a r0 r1 Ak ck Af cf w hT hN hkids h1
  by_cases h6:kd=6
  ·exact zOr ns root A c kd lo hi tx ks a r0 r1 Ak ck Af cf w hT hN hkids h6
  by_cases h19:kd=19
  ·exact zRf ns root A c kd lo hi tx ks a r0 r1 Ak ck Af cf w hT hN hkids h19
  by_cases h13:kd=13
  ·exact zRh ns root A c kd lo hi tx ks a r0 r1 Ak ck Af cf w hT hN hkids h13
  exact zMd ns root A c kd lo hi tx ks a r0 r1 Ak ck Af cf w hT hN hkids (by omega)
structure Kx (g:Nat) (w w':World):Prop where
 low:Below 0 w w'
 blk:∀ b,b<w.heap.size->b≠g->w'.heap[b]?=w.heap[b]?
theorem Kx.refl (g:Nat) (w:World):Kx g w w:=⟨Bw _ _,fun _ _ _=>rfl⟩
theorem Kx.trans {g:Nat}{w w' w'':World}(h:Kx g w w') (h':Kx g w' w''):Kx g w w'':=⟨h.low.trans h'.low,fun b hb hg=>(h'.blk b (Bj hb h.low.size) hg).trans (h.blk b hb hg)⟩
theorem Kx.of_below {g:Nat}{w w':World}(h:bW w w'):Kx g w w':=⟨h.mono (Bt _),fun b hb _=>h.block b hb⟩
theorem Kx.below {g H:Nat}{w w':World}(h:Kx g w w') (hg:H<=g) (hH:H<=w.heap.size):Below H w w':=⟨h.low.os,h.low.tape,h.low.output,h.low.size,fun k hk=>h.blk k (Bj hk hH) (by omega)⟩
theorem Kx.set (g i:Nat) (w:World) (v:Value):Kx g w (w.setCell ⟨g,i,none⟩ v):=⟨(Bw 0 w).setCell (p:=⟨g,i,none⟩) (Bt _) v,fun b _ hg=>Bq w ⟨g,i,none⟩ b v hg⟩
theorem Kx.drew (g:Nat) (w:World):Kx g w w.drew:=⟨(Bw 0 w).drew,fun _ _ _=>rfl⟩
def IRow (w:World) (g:Nat) (s:List Int):Prop:=w.heap[g]?=some (.cells (s.map (Value.int .i8)).toArray 165 (0,0))
theorem IRow.cell {w:World}{g k:Nat}{s:List Int}(h:IRow w g s) (hk:k<s.length):w.cell? (aD g k)=some (.int .i8 (sn s k)):=by
 refine (Bv h k).trans ?_;unfold sn;simp[hk]
theorem IRow.froz {w:World}{g:Nat}{s:List Int}(h:IRow w g s) (k:Nat):w.frozen? (aD g k)=false:=Bz h k
theorem IRow.set {w:World}{g:Nat}{s:List Int}(h:IRow w g s) (k:Nat) (b:Int):IRow (w.setCell ⟨g,k,none⟩ (.int .i8 b)) g (s.set k b):=by
 have h1:=Bm w g k _ _ (.int .i8 b) h;unfold IRow;rw[h1];congr 2;apply Array.ext';simp[List.map_set]
theorem IRow.on {w w':World}{g:Nat}{s:List Int}(h:IRow w g s) (hb:w'.heap[g]?=w.heap[g]?):IRow w' g s:=hb.trans h
theorem IRow.lt {w:World}{g:Nat}{s:List Int}(h:IRow w g s):g<w.heap.size:=(Cv.1 h).1
def Mono (s s':List Int):Prop:=s'.length=s.length/\(∀ i,sn s' i=0->sn s i=0)/\((∀ i,0<=sn s i/\sn s i<=2)->∀ i,0<=sn s' i/\sn s' i<=2)
theorem Mono.refl (s:List Int):Mono s s:=⟨rfl,fun _ h=>h,fun h=>h⟩
theorem Mono.trans {s s' s'':List Int}(h:Mono s s') (h':Mono s' s''):Mono s s'':=⟨h'.1.trans h.1,fun i hi=>h.2.1 i (h'.2.1 i hi),fun hs=>h'.2.2 (h.2.2 hs)⟩
theorem Mono.set (s:List Int) (n:Nat) (b:Int) (hb:b=1\/b=2):Mono s (s.set n b):=by
 refine⟨Ck,fun i hi=>?_,fun hs i=>?_⟩
 ·rw[zB6]at hi;split at hi
  ·omega
  ·exact hi
 ·rw[zB6];split
  ·omega
  ·exact hs i
theorem zJ2 (c:List Int->Nat->Bool×List Int) (k:Int) (l s:List Int):zBx c (k::l) s=match c s k.toNat with
  | (true,s')=>(true,s')
  | (false,s')=>zBx c l s':=rfl
theorem zJ1 {c:List Int->Nat->Bool×List Int}(hc:∀ s n,Mono s (c s n).2):∀ (l s:List Int),Mono s (zBx c l s).2:=by
 intro l
 induction l with
 | nil=>intro s;exact Mono.refl s
 | cons k l ih=>
  intro s;have h:=hc s k.toNat;unfold zBx;rcases hq:c s k.toNat with⟨b,s'⟩;rw[hq]at h;cases b with
  | true=>exact h
  | false=>exact h.trans (ih s')
theorem zKy (ns:List Tn):∀ (u:Nat) (s:List Int) (n:Nat),Mono s (clC ns u s n).2:=by
 intro u
 induction u with
 | zero=>intro s n;exact Mono.refl s
 | succ u ih=>
  intro s n;unfold clC;cases ns[n]? with
  | none=>exact Mono.refl s
  | some x=>
   simp only;split
   ·exact Mono.refl s
   split
   ·exact Mono.refl s
   have h:=zJ1 ih x.kids (s.set n 1);rcases hq:zBx (clC ns u) x.kids (s.set n 1)with⟨b,s'⟩;rw[hq]at h;have h2:=(Mono.set s n 1 (.inl rfl)).trans h;cases b with
   | true=>exact h2
   | false=>exact h2.trans (Mono.set s' n 2 (.inr rfl))
theorem zL0 (ns:List Tn) (A:Option Addr) (c cp H cb sb:Nat) (hv:∀ x∈ns,x.kids.all (idxB ns.length)=true) (hH:H<=sb) (hcs:cb≠sb):∀ (u:Nat) (s:List Int) (n:Nat) (w:World),zer s<u->s.length=ns.length->(∀ i,0<=sn s i/\sn s i<=2)->n<ns.length ->
  RowP w H 8 (vS A ns.length c) ns.length (tnR w (fun b=>b<H) ns)->w.heap[cb]?=some (.cells #[vS A ns.length c,vS (some (aD sb 0)) ns.length cp] 126 (0,0))->IRow w sb s ->
  Calls tP 92 #[.pointer (some (aD cb 0)),vI i6 n] w fun e w'=>e=.returned (.bool (clC ns u s n).1)/\IRow w' sb (clC ns u s n).2/\Kx sb w w':=by
 intro u
 induction u with
 | zero=>intro s n w h;omega
 | succ u ih=>
  intro s n w hz hsl hs2 hn hrow hbox m;have hx:=By hn;have v:=Cx hn;generalize ns[n]=x at hx v;have M:=hv x v;obtain⟨bn,on,X,Ak,ck,Af,cf,hu,V,_,o,_,d0,_,_,_,d4,_,_,_⟩:=TyB.at8 hrow hx;injection hu with hA hmm hcc;clear hmm;subst hA hcc;have e0:w.cell? (aD cb 0)=some (vS (some (aD bn on)) ns.length c):=cH hbox 0;have e1:w.cell? (aD cb 1)=some (vS (some (aD sb 0)) ns.length cp):=cH hbox 1;have st:=m.cell (k:=n) (by omega);have u1:(0:Int)<=(n:Int):=by omega
  have u2:(n:Int)<(ns.length:Int):=by omega
  have g:=fun U=>zLs x.kind U;have HC:Hid (conn x=decide (x.kind=16\/x.kind=17\/x.kind=18)):=xI rfl;rw[<-HC.out]at g;have HX:=xI (aN hx (aN M (aN hs2 (aN hz hsl))));have HR:=xI (aN hrow (aN hbox (aN m o)));clear hx v M hs2 hz hsl hrow hbox m o;cases hcx:conn x with
  | false=>
   rw[hcx]at g;have a:Hid (clC ns (u+1) s n=(false,s)):=xI (by unfold clC;rw[HX.out.1];simp[hcx]);have G:=xI hcx;clear hcx;go_enter func92,ntmps92;go_wp2_with (go_at_call 141;refine (g _).mono ?_;rintro e w5 ⟨rfl,rfl⟩);go_ret;rw[a.out];exact⟨by first|rfl|simp,HR.out.2.2.1,Kx.refl _ _⟩
  | true=>
   rw[hcx]at g;by_cases h2:sn s n=2
   ·have a:Hid (clC ns (u+1) s n=(false,s)):=xI (by unfold clC;rw[HX.out.1];simp[h2]);rw[h2]at st;have G:=xI (aN hcx h2);clear hcx h2;go_enter func92,ntmps92;go_wp2_with (go_at_call 141;refine (g _).mono ?_;rintro e w5 ⟨rfl,rfl⟩);go_ret;rw[a.out];exact⟨by first|rfl|simp,HR.out.2.2.1,Kx.refl _ _⟩
   by_cases h1:sn s n=1
   ·have a:Hid (clC ns (u+1) s n=(true,s)):=xI (by unfold clC;rw[HX.out.1];simp[h2,h1,hcx]);rw[h1]at st;have G:=xI (aN hcx (aN h1 h2));clear hcx h2 h1;go_enter func92,ntmps92;go_wp2_with (go_at_call 141;refine (g _).mono ?_;rintro e w5 ⟨rfl,rfl⟩);go_ret;rw[a.out];exact⟨by first|rfl|simp,HR.out.2.2.1,Kx.refl _ _⟩
   have h0:sn s n=0:=by have:=HX.out.2.2.1 n;omega
   rw[h0]at st;have P:=HR.out.2.2.1.froz n;obtain⟨w1,l⟩:∃ w1,w1=w.setCell (aD sb n) (.int .i8 1):=⟨_,rfl⟩;have q:Kx sb w w1:=by rw[l];exact Kx.set _ _ _ _
   have E:H<=w.heap.size:=by have:=HR.out.2.2.1.lt;omega
   have R:Below H w w1:=q.below hH E;have Q:cb<w.heap.size:=(Cv.1 HR.out.2.1).1;have r:IRow w1 sb (s.set n 1):=by rw[l];exact HR.out.2.2.1.set n 1
   have t:Hid (∀ U,Kx sb w U->U.heap[cb]?=some (.cells #[vS (some (aD bn on)) ns.length c,vS (some (aD sb 0)) ns.length cp] 126 (0,0))):=xI fun U hU=>(hU.blk cb Q hcs).trans HR.out.2.1;have S:Hid (∀ U,Kx sb w U->RowP U H 8 (vS (some (aD bn on)) ns.length c) ns.length (tnR U (fun b=>b<H) ns)/\RowP U H 1 (vS Ak x.kids.length ck) x.kids.length (kidR x.kids)):=xI fun U hU=>by
    have hb:=hU.below hH E;exact⟨RowB.on HR.out.1 hb fun _ _ ⟨y,hy,h⟩=>⟨y,hy,TnB.on h hb⟩,RowB.on HR.out.2.2.2 hb fun _ _ h=>h⟩
   have g0:w1.cell? (aD cb 0)=some (vS (some (aD bn on)) ns.length c):=(Bv (t.out _ q) 0).trans rfl;have g1:w1.cell? (aD cb 1)=some (vS (some (aD sb 0)) ns.length cp):=(Bv (t.out _ q) 1).trans rfl;have g4:=(R.cell (p:=(aD bn (on+n*8+4))) V).trans d4;have a:Hid (∀ b s',zBx (clC ns u) x.kids (s.set n 1)=(b,s')->clC ns (u+1) s n=(b,if b=true then s' else s'.set n 2)):=xI fun b s' h=>by
    unfold clC;rw[HX.out.1];simp only[hcx,h2,h1,h,Bool.true_eq_false,false_or,if_false];cases b<;>rfl
   have J:zer (s.set n 1)<u:=by
    have h:=zL7 (b:=1) (s:=s) (n:=n) (by have:=HX.out.2.2.2.2;omega) h0 (by decide);have:=HX.out.2.2.2.1;omega
   have Z:=xI (Mono.set s n 1 (.inl rfl));have F:=xI (aN q (aN r (aN J h0)));have G:=xI (aN hcx (aN h1 h2));have N:x.kids.length<=maxLen:=by obtain⟨_,_,_,h,_⟩:=HR.out.2.2.2;exact h.1
   have aa:=xI N;clear hcx h2 h1 h0 q E R Q r J N;rw[l]at g0 g1 g4;go_enter func92,ntmps92;go_wp2_with (go_at_call 141;refine (g _).mono ?_;rintro e w5 ⟨rfl,rfl⟩);rw[<-l];clear l g0 g1 g4 st P e0 e1 d0 d4 g
   go_loopw [50] (fun iv wr=>∃ (j:Nat) (s':List Int),iv=vI i6 j/\j<=x.kids.length/\Mono (s.set n 1) s'/\zBx (clC ns u) (x.kids.drop j) s'=zBx (clC ns u) x.kids (s.set n 1)/\IRow wr sb s'/\Kx sb w wr) (fun i _=>((x.kids.length:Int)-intOf i).toNat)
   case atStart=>exact⟨0,s.set n 1,rfl,by omega,Mono.refl _,rfl,F.out.2.1,F.out.1⟩
   case round=>
    obtain⟨j,s',rfl,hj,K,d,m,L⟩:=hrel;have HI:=xI (aN K (aN d (aN m L)));clear K d m L;by_cases hjl:j<x.kids.length
    ·have mp:(j:Int)<(x.kids.length:Int):=by omega
     have m0:(0:Int)<=(j:Int):=by omega
     have l:IntKind.i64.wrap ((j:Int)+1)=(j:Int)+1:=Br _ (by have:=aa.out;unfold maxLen at this;omega);have C:=By hjl;have B:=Cx hjl;have D:=List.drop_eq_getElem_cons hjl;generalize x.kids[j]=kj at C B D;have T:0<=kj/\kj<ns.length:=by
      have h:=HX.out.2.1;rw[Cz]at h;have h:=h kj B;simp only[idxB,Cy,Bf]at h;exact h
     obtain⟨kn,rfl⟩:∃ kn:Nat,kj=(kn:Int):=⟨kj.toNat,by omega⟩;obtain⟨bk,ok,rfl,W,f0,_⟩:=zDa (S.out _ HI.out.2.2.2).2 C;have f:s'.length=ns.length:=by rw[HI.out.1.1,Ck];exact HX.out.2.2.2.2
     have I:zer s'<u:=Nat.lt_of_le_of_lt (zL8 HI.out.1.1.symm HI.out.1.2.1) F.out.2.2.1;have hc:=ih s' kn wr I f (HI.out.1.2.2 (Z.out.2.2 HX.out.2.2.1)) (by omega) (S.out _ HI.out.2.2.2).1 (t.out _ HI.out.2.2.2) HI.out.2.2.1;have z:=zKy ns u s' kn;have d:=HI.out.2.1;rw[D,zJ2]at d;simp only[Cb]at d;rcases hq:clC ns u s' kn with⟨b,s2⟩;rw[hq]at hc z d;have HN:=xI (aN z d);clear C B D T f I z d hq W;cases b with
     | true=>
      go_wp2_with (go_at_call 92;refine hc.mono ?_;rintro e w2 ⟨rfl,hir2,hkx2⟩;replace hir2:=xI hir2;replace hkx2:=xI hkx2);go_ret;rw[a.out true s2 HN.out.2.symm];exact⟨by first|rfl|simp,hir2.out,HI.out.2.2.2.trans hkx2.out⟩
     | false=>
      go_wp2_with (go_at_call 92;refine hc.mono ?_;rintro e w2 ⟨rfl,hir2,hkx2⟩;replace hir2:=xI hir2;replace hkx2:=xI hkx2)
      go_roundw
      case rel=>exact⟨j+1,s2,by go_num,by omega,HI.out.1.trans HN.out.1,HN.out.2,hir2.out,HI.out.2.2.2.trans hkx2.out⟩
      case measure=>simp[intOf];try omega
    ·have mp:¬ (j:Int)<(x.kids.length:Int):=by omega
     have O:x.kids.drop j=[]:=Fy (by omega);have d:=HI.out.2.1;rw[O]at d;have Y:=xI (a.out false s' d.symm);have g1:wr.cell? (aD cb 1)=some (vS (some (aD sb 0)) ns.length cp):=(Bv (t.out _ HI.out.2.2.2) 1).trans rfl;have f:s'.length=ns.length:=by rw[HI.out.1.1,Ck];exact HX.out.2.2.2.2
     have st:=HI.out.2.2.1.cell (k:=n) (by omega);have P:=HI.out.2.2.1.froz n;clear d O f;go_wp2;go_ret;rw[Y.out];exact⟨by first|rfl|simp,HI.out.2.2.1.set n 2,HI.out.2.2.2.trans (Kx.set _ _ _ _)⟩
theorem zSo:(tP.info? 165).map (fun i=>(i.zero,i.size,i.bytes))=some (some (.int .i8 0),1,1):=by kernel_rfl
theorem zRu (w:World) (n:Nat) (hn:n<=1000000):∃ W,(Instr.makeSlice 124 (vI i6 n) (vI i6 n)).run tP w=.ok (vS (some (aD w.heap.size 0)) n n) W/\IRow W w.heap.size (List.replicate n 0)/\Below w.heap.size w W/\W.heap.size=w.heap.size+1:=by
 obtain⟨i0,hi,d,b,c⟩:=Cp zSo;have a:=run_makeSlice (P:=tP) w 124 165 i0 (.int .i8 0) underlying124 hi d .i64 .i64 n n (by omega) (Int.le_refl _) (by rw[b];omega) (by rw[c];omega) (by omega);rw[b]at a;simp only[Cb,Nat.mul_one]at a;refine⟨_,a,?_,yR.alloc lR _,by simp⟩;refine (Bl w _).trans ?_;rw[show (Value.int .i8 0).cells=#[.int .i8 0]from rfl,made1];simp
theorem zOk (ns:List Tn) (u n:Nat) (l:List Nat) (s:List Int):allC ns u (n::l) s=match clC ns u s n with
  | (true,_)=>true
  | (false,s')=>allC ns u l s':=rfl
theorem zN7 (ns:List Tn) (A:Option Addr) (c:Nat) (w:World) (hv:∀ x∈ns,x.kids.all (idxB ns.length)=true) (hnl:ns.length<=1000000) (hrow:RowP w w.heap.size 8 (vS A ns.length c) ns.length (tnR w (fun b=>b<w.heap.size) ns)) :
  Calls tP 51 #[vS A ns.length c] w fun e w'=>e=.returned (.bool ((zAk ns ns.length).all id))/\bW w w':=by
 have o:Hid ((zAk ns ns.length).all id=!allC ns (ns.length+1) (List.range ns.length) (List.replicate ns.length 0)):=xI (by rw[zQ1 hv];simp);generalize (zAk ns ns.length).all id=res at *;obtain⟨W0,D,k,z,q⟩:=zRu w ns.length hnl;obtain⟨W,hW⟩:∃ W,W=W0.alloc (.cells #[vS A ns.length c,vS (some (aH w 0)) ns.length ns.length] 126 (0,0)):=⟨_,rfl⟩;have s:bW W0 W:=by rw[hW];exact yR.alloc lR _
 have n:W.heap[w.heap.size+1]?=some (.cells #[vS A ns.length c,vS (some (aH w 0)) ns.length ns.length] 126 (0,0)):=by rw[hW,<-q];exact Bl W0 _
 have m:IRow W w.heap.size (List.replicate ns.length 0):=k.on (s.block _ (by omega));have B:W.heap.size=w.heap.size+2:=by rw[hW];simp;omega
 have v:bW w W:=z.trans (s.mono (by omega));have HT:Hid (∀ U,Kx w.heap.size W U->bW w U/\RowP U w.heap.size 8 (vS A ns.length c) ns.length (tnR U (fun b=>b<w.heap.size) ns)/\U.heap[w.heap.size+1]?=some (.cells #[vS A ns.length c,vS (some (aH w 0)) ns.length ns.length] 126 (0,0))):=xI fun U hU=>by
  have hb:=v.trans (hU.below lR (by omega));exact⟨hb,RowB.on hrow hb fun _ _ ⟨y,hy,h⟩=>⟨y,hy,TnB.on h hb⟩,(hU.blk _ (by omega) (by omega)).trans n⟩
 have HV:=xI (aN hv hnl);have HI:=xI m;have C:W0.heap.size=w.heap.size+1:=q;clear hv hnl hrow k z s n m B v q;go_enter func51,ntmps51;go_wp2_with fail;rw[<-hW];clear hW D C;generalize hnn:ns.length=nn at *;have HN:=xI hnn;clear hnn
 go_loopw [12] (fun iv wr=>∃ (i:Nat) (s':List Int),iv=vI i6 i/\i<=nn/\Mono (List.replicate nn 0) s'/\allC ns (nn+1) ((List.range nn).drop i) s'=allC ns (nn+1) (List.range nn) (List.replicate nn 0)/\IRow wr w.heap.size s'/\Kx w.heap.size W wr) (fun i _=>((nn:Int)-intOf i).toNat)
 case atStart=>exact⟨0,_,rfl,by omega,Mono.refl _,rfl,HI.out,Kx.refl _ _⟩
 case round=>
  obtain⟨i,s',rfl,hi,u,a,m,j⟩:=hrel;have HL:=xI (aN u (aN a (aN m j)));clear u a m j;by_cases hlt:i<nn
  ·have mp:(i:Int)<(nn:Int):=by omega
   have m0:(0:Int)<=(i:Int):=by omega
   have F:IntKind.i64.wrap ((i:Int)+1)=(i:Int)+1:=Br _ (by have:=HV.out.2;omega);have g:s'.length=nn:=by rw[HL.out.1.1,D8]
   have hz:zer s'<nn+1:=by
    have h:=List.countP_le_length (p:=fun x:Int=>x==0) (l:=s');rw[g]at h;show List.countP _ s'<nn+1;omega
   have t:∀ i,0<=sn s' i/\sn s' i<=2:=HL.out.1.2.2 fun i=>by unfold sn;rw[Eh];split<;>simp
   have j:=HL.out.2.2.2;have d:=(HT.out wr j).2.1;have f:=(HT.out wr j).2.2;have hc:=zL0 ns A c nn w.heap.size (w.heap.size+1) w.heap.size (by rw[HN.out];exact HV.out.1) lR (by omega) (nn+1) s' i wr hz (by rw[HN.out];exact g) t (by rw[HN.out];exact hlt) (by rw[HN.out];exact d) (by rw[HN.out];exact f) HL.out.2.2.1;have r:=zKy ns (nn+1) s' i;have a:=HL.out.2.1;rw[List.drop_eq_getElem_cons (by rw[List.length_range];exact hlt),List.getElem_range,zOk]at a;rcases hq:clC ns (nn+1) s' i with⟨b,s2⟩;rw[hq]at hc r a;have HQ:=xI (aN r a);clear g hz t j d f r a hq;cases b with
   | true=>
    go_wp2_with (go_at_call 92;refine hc.mono ?_;rintro e w2 ⟨rfl,hir2,hkx2⟩;replace hir2:=xI hir2;replace hkx2:=xI hkx2);go_ret;refine⟨?_,(HT.out _ (HL.out.2.2.2.trans hkx2.out)).1⟩;rw[o.out,<-HQ.out.2]
    first|rfl|simp
   | false=>
    go_wp2_with (go_at_call 92;refine hc.mono ?_;rintro e w2 ⟨rfl,hir2,hkx2⟩;replace hir2:=xI hir2;replace hkx2:=xI hkx2)
    go_roundw
    case rel=>exact⟨i+1,s2,by go_num,by omega,HL.out.1.trans HQ.out.1,HQ.out.2,hir2.out,HL.out.2.2.2.trans hkx2.out⟩
    case measure=>simp[intOf];try omega
  ·have mp:¬ (i:Int)<(nn:Int):=by omega
   have a:=HL.out.2.1;rw[Fy (by rw[List.length_range];omega)]at a;have E:=xI a;clear a;go_wp2;go_ret;refine⟨?_,(HT.out _ HL.out.2.2.2).1⟩;rw[o.out,<-E.out]
   first|rfl|simp[allC]
theorem zH2 (l:List Fd):zDw l=zA5 (fun x=>keyB x.1 x.2) cmpK (l.map Fd.key):=by
 unfold zDw zA5;rw[List.all_map];rfl
theorem zJu (fds:List Fd) (Af:Option Addr) (cf:Nat) (w:World) (hfd:RowP w w.heap.size 4 (vS Af fds.length cf) fds.length (fdR fds)) :
  Calls tP 90 #[vS Af fds.length cf] w fun e w'=>e=.returned (.bool (zDw fds))/\bW w w':=by
 rw[zH2];have C:fds.length<=maxLen:=by obtain⟨_,_,_,h,_⟩:=hfd;exact h.1
 have V:=xI hfd;clear hfd;generalize hfn:fds.length=nf at *;have HN:=xI hfn;have O:=xI C;clear hfn C;go_enter func90,ntmps90;go_wp2_with fail
 go_loopw [7] (fun iv wr=>∃ j:Nat,iv=vI i6 j/\j<=nf/\zA5 (fun x=>keyB x.1 x.2) cmpK ((fds.map Fd.key).take j)=true/\bW w wr) (fun i _=>((nf:Int)-intOf i).toNat)
 case atStart=>exact⟨0,rfl,by omega,by rw[List.take_zero];exact zHd _ _,Bw _ _⟩
 case round=>
  obtain⟨j,rfl,hj,o,I⟩:=hrel;have l:=xI o;have k:=xI I;clear o I;by_cases hjn:j<nf
  ·have P:(j:Int)<(nf:Int):=by omega
   have m0:(0:Int)<=(j:Int):=by omega
   have Y:IntKind.i64.wrap ((j:Int)+1)=(j:Int)+1:=Br _ (by have:=O.out;unfold maxLen at this;omega);have E:j<fds.length:=by have:=HN.out;omega
   have y:=By E;generalize fds[j]=f at y;have d:RowP w w.heap.size 4 (vS Af nf cf) fds.length (fdR fds):=by have:=V.out;rw[HN.out];exact this
   obtain⟨bf,of,rfl,m,H,f0,f1,f2,f3⟩:=fd_at d y;obtain⟨⟨k1,k2⟩,fn,fo⟩:=f;have D:k2.length<=maxLen:=H.2.1;have s:(fds.map Fd.key)[j]?=some (k1,k2):=by rw[Ch,y];rfl
   obtain⟨X,hX,J,kX,_⟩:=aW wr (.cells #[vI i6 k1,vT ⟨k2.toArray⟩,vI i6 fn,.bool fo] 150 (0,0))
   have B:wr.heap.size<X.heap.size:=by rw[hX];simp
   have hd:bW X X.drew:=yR.drew;have n:bW w X:=k.out.trans (J.mono k.out.size);have r:Hid (∀ U,bW X U->bW w U/\bW w U):=xI fun U hU=>by
    have h1:=n.trans (hU.mono n.size);exact⟨h1,h1⟩
   have N:Hid (∀ wq,bW X wq->∀ q (v:Value),w.cell? (aD bf q)=some v->wq.cell? (aD bf q)=some v):=xI fun wq h q v hv=>((r.out wq h).1.cell (p:=(aD bf q)) m).trans hv;have l0:=(k.out.cell (p:=(aD bf (of+j*4))) m).trans f0;have l1:=(k.out.cell (p:=(aD bf (of+j*4+1))) m).trans f1;have l2:=(k.out.cell (p:=(aD bf (of+j*4+2))) m).trans f2;have l3:=(k.out.cell (p:=(aD bf (of+j*4+3))) m).trans f3;have HQ:Hid (∀ wq,bW X wq->(j2 wq wr.heap.size (vI i6 k1) (vT ⟨k2.toArray⟩))):=xI fun wq h=>by
    have kq:=(h.block _ B).trans kX;exact⟨cH kq 0,cH kq 1⟩
   have T:=xI d;have b:∀ U,Calls tP 138 #[.agg #[vI i6 k1,vT ⟨k2.toArray⟩]] U fun e w'=>e=.returned (.bool (keyB k1 k2))/\bW U w':=fun U=>zHk (k1,k2) U D;clear f0 f1 f2 f3 d J kX B H E D m;cases hkv:keyB k1 k2
   case false=>
    rw[hkv]at b;go_wp2_with fail;rw[<-hX];clear hX;refine wR HQ (by kernel_rfl) (HQ.out _ hd) (fun _=>?_);refine oT 0 (HQ.out _ hd) ?_;refine oT 1 (HQ.out _ hd) ?_;refine oO 2 fun K hK=>?_;go_simp;refine (b _).mono ?_;rintro e w2 ⟨rfl,hb2⟩;have a:=hd.trans (hb2.mono hd.size);clear b;refine hK _ _ (HQ.out _ a) (oP ?_);clear hK K;refine oT 3 (HQ.out _ a) ?_;refine oT 4 (HQ.out _ a) ?_;refine oU 5 (HQ.out _ a) ?_
    (iterate 10 refine oZ (HQ.out _ a) ?_)
    refine zAu 16 (by kernel_rfl) rfl (by rfl) (HQ.out _ a) (oP ?_);refine oU 17 (HQ.out _ a) ?_;refine oU 18 (HQ.out _ a) ?_;refine oT 19 (HQ.out _ a) ?_;refine wD ?_;go_wp2_with fail;go_ret;exact⟨by rw[zBl (x:=(k1,k2)) s (.inl hkv)];first|rfl|simp,(r.out _ a).1⟩
   case true=>
    rw[hkv]at b;by_cases hj0:j=0
    case pos=>
     subst hj0;have q0:decide ((0:Int)<((0:Nat):Int))=false:=rfl;simp only[Nat.zero_mul,Ds]at l0 l1 l2 l3;go_wp2_with fail;rw[<-hX];clear hX;refine wR HQ (by kernel_rfl) (HQ.out _ hd) (fun _=>?_);refine oT 0 (HQ.out _ hd) ?_;refine oT 1 (HQ.out _ hd) ?_;refine oO 2 fun K hK=>?_;go_simp;refine (b _).mono ?_;rintro e w2 ⟨rfl,hb2⟩;have a:=hd.trans (hb2.mono hd.size);clear b;refine hK _ _ (HQ.out _ a) (oP ?_);clear hK K;refine oT 3 (HQ.out _ a) ?_
     (iterate 4 refine oY (HQ.out _ a) ?_)
     refine oU 8 (HQ.out _ a) ?_
     (iterate 7 refine oZ (HQ.out _ a) ?_)
     refine zAu 16 (by kernel_rfl) rfl (by rfl) (HQ.out _ a) (oP ?_);refine oU 17 (HQ.out _ a) ?_;refine oT 18 (HQ.out _ a) ?_;refine oT 19 (HQ.out _ a) ?_;refine wD ?_;go_wp2_with fail
     go_roundw
     case rel=>exact⟨0+1,by go_num,by omega,zA1 totK s l.out hkv (.inl rfl),(r.out _ a).2⟩
     case measure=>simp[intOf];try omega
    case neg=>
     have F:j-1<fds.length:=by have:=HN.out;omega
     have t:=By F;generalize fds[j-1]=g at t;obtain⟨bg,og,z,R,Q,M,L,_,_⟩:=fd_at T.out t;injection z with z;injection z with e1 e2 _;subst e1 e2;obtain⟨⟨g1,g2⟩,gn,go⟩:=g;have G:(fds.map Fd.key)[j-1]?=some (g1,g2):=by rw[Ch,t];rfl
     have W:IntKind.i64.wrap ((j:Int)-1)=((j-1:Nat):Int):=by rw[Br _ (by have:=O.out;unfold maxLen at this;omega)];omega
     have p0:(0:Int)<(j:Int):=by omega
     have q0:decide (0<j)=true:=C8 (by omega);have q9:decide ((0:Int)<(j:Int))=true:=C8 (by omega);have p1:(0:Int)<=((j-1:Nat):Int):=by omega
     have p2:((j-1:Nat):Int)<(nf:Int):=by omega
     have u:∀ U,Calls tP 139 #[.agg #[vI i6 g1,vT ⟨g2.toArray⟩],.agg #[vI i6 k1,vT ⟨k2.toArray⟩]] U fun e w'=>e=.returned (vI i6 (cmpK (g1,g2) (k1,k2)))/\bW U w':=fun U=>zJ7 (g1,g2) (k1,k2) U;replace HQ:Hid (∀ wq,bW X wq->((j2 wq wr.heap.size (vI i6 k1) (vT ⟨k2.toArray⟩))/\wq.cell? (aD bf (of+(j-1)*4))=some (vI i6 g1)/\wq.cell? (aD bf (of+(j-1)*4+1))=some (vT ⟨g2.toArray⟩))):=xI fun wq h=>⟨HQ.out wq h,N.out wq h _ _ M,N.out wq h _ _ L⟩;clear Q M L F t R;generalize hcc:cmpK (g1,g2) (k1,k2)=cc at *;by_cases hc0:0<=cc
     ·have A:=xI hcc;clear hcc;go_wp2_with fail;rw[<-hX];clear hX;refine Be (S:=fun wq=>((j2 wq wr.heap.size (vI i6 k1) (vT ⟨k2.toArray⟩))/\wq.cell? (aD bf (of+(j-1)*4))=some (vI i6 g1)/\wq.cell? (aD bf (of+(j-1)*4+1))=some (vT ⟨g2.toArray⟩))) (by kernel_rfl) (HQ.out _ hd) (fun _=>?_);refine oT 0 (HQ.out _ hd) ?_;refine oT 1 (HQ.out _ hd) ?_;refine oO 2 fun K hK=>?_;go_simp;refine (b _).mono ?_;rintro e w2 ⟨rfl,hb2⟩;have a:=hd.trans (hb2.mono hd.size);clear b;refine hK _ _ (HQ.out _ a) (oP ?_);clear hK K;refine oT 3 (HQ.out _ a) ?_
      (iterate 12 refine oY (HQ.out _ a) ?_)
      refine oO 16 fun K hK=>?_;go_simp;refine (u _).mono ?_;rintro e w3 ⟨rfl,hb3⟩;have c:=a.trans (hb3.mono a.size);clear u;refine hK _ _ (HQ.out _ c) (oP ?_);clear hK K;refine oT 17 (HQ.out _ c) ?_
      (iterate 2 refine oY (HQ.out _ c) ?_)
      refine wD ?_;go_wp2_with fail;go_ret;exact⟨by rw[zBl (x:=(k1,k2)) s (.inr ⟨by omega,(g1,g2),G,by rw[A.out];omega⟩)];first|rfl|simp,(r.out _ c).1⟩
     ·have Z:¬ 0<=cc:=hc0;have A:=xI hcc;clear hcc;go_wp2_with fail;rw[<-hX];clear hX;refine Be (S:=fun wq=>((j2 wq wr.heap.size (vI i6 k1) (vT ⟨k2.toArray⟩))/\wq.cell? (aD bf (of+(j-1)*4))=some (vI i6 g1)/\wq.cell? (aD bf (of+(j-1)*4+1))=some (vT ⟨g2.toArray⟩))) (by kernel_rfl) (HQ.out _ hd) (fun _=>?_);refine oT 0 (HQ.out _ hd) ?_;refine oT 1 (HQ.out _ hd) ?_;refine oO 2 fun K hK=>?_;go_simp;refine (b _).mono ?_;rintro e w2 ⟨rfl,hb2⟩;have a:=hd.trans (hb2.mono hd.size);clear b;refine hK _ _ (HQ.out _ a) (oP ?_);clear hK K;refine oT 3 (HQ.out _ a) ?_
      (iterate 12 refine oY (HQ.out _ a) ?_)
      refine oO 16 fun K hK=>?_;go_simp;refine (u _).mono ?_;rintro e w3 ⟨rfl,hb3⟩;have c:=a.trans (hb3.mono a.size);clear u;refine hK _ _ (HQ.out _ c) (oP ?_);clear hK K;refine oT 17 (HQ.out _ c) ?_
      (iterate 2 refine oY (HQ.out _ c) ?_)
      refine wD ?_;go_wp2_with fail
      go_roundw
      case rel=>exact⟨j+1,by go_num,by omega,zA1 totK s l.out hkv (.inr ⟨(g1,g2),G,by rw[A.out];omega⟩),(r.out _ c).2⟩
      case measure=>simp[intOf];try omega
  ·have P:¬ (j:Int)<(nf:Int):=by omega
   go_wp2;go_ret;refine⟨?_,k.out⟩;have h:=l.out;rw[B8 (by rw[Bk,HN.out];omega)]at h;rw[h]
   first|rfl|simp
theorem zQm (K lo hi:Int) (tn:List UInt8) (ks:List Int) (fds:List Fd) (r0 r1:Int) (Ak Af:Option Addr) (ck cf:Nat) (w:World) (hN:TnP w w.heap.size ⟨K,lo,hi,tn,ks,fds,r0,r1⟩ [vI i6 K,vI i6 lo,vI i6 hi,vT ⟨tn.toArray⟩,vS Ak ks.length ck,vS Af fds.length cf,vI i6 r0,vI i6 r1]):Calls tP 49 #[.agg #[vI i6 K,vI i6 lo,vI i6 hi,vT ⟨tn.toArray⟩,vS Ak ks.length ck,vS Af fds.length cf,vI i6 r0,vI i6 r1]] w fun e w'=>e=.returned (.bool (formP ⟨K,lo,hi,tn,ks,fds,r0,r1⟩))/\bW w w':=by
 obtain⟨W,hW⟩:∃ W,W=w.alloc (oX K lo hi ⟨tn.toArray⟩ Ak ks.length ck Af fds.length cf r0 r1):=⟨_,rfl⟩;have f:bW w W:=by rw[hW];exact yR.alloc lR _
 obtain⟨uk,uf,l,j,_,k⟩:=hN;simp only[Bb,and_true,true_and]at l;obtain⟨rfl,rfl⟩:=l;have o:Calls tP 90 #[vS Af fds.length cf] W fun e w'=>e=.returned (.bool (zDw fds))/\bW W w':=zJu fds Af cf W (RowB.mono (RowB.on (R':=fdR fds) k f fun _ _ h=>h) f.size fun _ _ h=>h);have d:tn.length<=maxLen:=j.2.2.2.1;have c:=xI f;obtain⟨g,a⟩:∃ g,g=formP ⟨K,lo,hi,tn,ks,fds,r0,r1⟩:=⟨_,rfl⟩;rw[<-a];have HM:=xI a;clear a;clear j k f;by_cases i:K=13
 ·subst i;clear d;have q:Hid (g=zDw fds):=xI (by rw[HM.out];rfl);clear HM;generalize zDw fds=b at *;go_enter func49,ntmps49;go_wp2_with fail;rw[<-hW];clear hW;refine o.mono ?_;rintro e w1 ⟨rfl,hb1⟩;have r:=c.out.trans (hb1.mono c.out.size);go_wp2;go_ret;exact⟨by rw[q.out];first|rfl|simp,r⟩
 have s:=xI i;have n:=fun U=>zLr tn U;have p:=fun U=>zG0 ⟨tn.toArray⟩ U (by simpa [ByteArray.size] using d);have m:=fun U=>zDu ⟨tn.toArray⟩ U (by simpa [ByteArray.size] using d);clear o d;go_enter func49,ntmps49;go_wp2_with (first|(go_at_call 62;refine (n _).mono ?_;rintro e w5 ⟨rfl,rfl⟩)|(go_at_call 63;refine (p _).mono ?_;rintro e w5 ⟨rfl,rfl⟩)|(go_at_call 67;refine (m _).mono ?_;rintro e w5 ⟨rfl,rfl⟩))
 all_goals go_ret
 all_goals refine⟨?_,by rw[hW]at c;exact c.out⟩
 all_goals rw[HM.out]
 all_goals have i:=s.out
 all_goals unfold formP
 all_goals simp only
 all_goals clear HM c n p m hW
 all_goals first|(simp[*];done)|(simp_all;done)|(simp_all;omega)|(simp_all;rw[Dk];simp;done)|(simp_all;rw[Dk];simp;omega)
abbrev TyAt (w:World) (ns:List Tn) (root:Int) (A:Option Addr) (c:Nat):Prop:=TyP w w.heap.size ns root [vS A ns.length c,vI i6 root]
def MemC (ns:List Tn) (root:Int) (A:Option Addr) (c:Nat) (v:Vl) (k:Nat):Prop:=
 ∀ (q:Nat) (cs:List Value) (w:World),VS q w w.heap.size v cs->okV v=true->TyAt w ns root A c ->
  Calls tP 83 #[.agg cs.toArray,.agg #[vS A ns.length c,vI i6 root],vI i6 k] w fun e w'=>e=.returned (.bool (memB ns v k))/\bW w w'
theorem TyAt.on {w w':World}{ns:List Tn}{root:Int}{A:Option Addr}{c:Nat}(h:TyAt w ns root A c) (hb:bW w w'):TyAt w' ns root A c:=(TyB.on h hb).up hb.size
theorem VS.later {q:Nat}{w w':World}{v:Vl}{cs:List Value}(h:VS q w w.heap.size v cs) (hb:bW w w'):VS q w' w'.heap.size v cs:=VS.up hb.size lR (VS.on hb h)
theorem zAv {α:Type}{l:List α}{p:α->Bool}{k:Nat}{x:α}(h:l[k]?=some x):(l.take (k+1)).all p=((l.take k).all p&&p x):=by
 rw[Cr,h,List.all_append];simp
abbrev RowVs (q:Nat) (w:World) (H:Nat) (u:Value) (l:List Vl):Prop:=RowP w H 7 u l.length (fun j cs=>∃ x,l[j]?=some x/\VS q w H x cs)
theorem zD5 (ns:List Tn) (root:Int) (A:Option Addr) (c q:Nat) (l:List Vl) (ks:List Int) (Al:Option Addr) (cl:Nat) (Ak:Option Addr) (ck:Nat) (w:World) (hT:TyAt w ns root A c)
  (hl:RowVs q w w.heap.size (vS Al l.length cl) l) (hk:RowP w w.heap.size 1 (vS Ak ks.length ck) ks.length (kidR ks)) (hok:∀ x∈l,okV x=true) (hkv:∀ k∈ks,0<=k) (hM:Hid (∀ x∈l,∀ k∈ks,MemC ns root A c x k.toNat)) :
  Calls tP 121 #[vS Al l.length cl,.agg #[vS A ns.length c,vI i6 root],vS Ak ks.length ck] w fun e w'=>e=.returned (.bool (zA7 (memB ns) l ks))/\bW w w':=by
 obtain⟨W,hW,B,kW,D⟩:=aW w (oE A ns.length c root)
 have y:l.length<=maxLen:=by obtain⟨_,_,_,h,_⟩:=hl;exact h.1
 have HT:Hid (∀ U,bW W U->TyAt U ns root A c/\bW w U/\jT U w.heap.size A ns.length c root):=xI fun U hU=>by
  have hb:=B.trans (hU.mono (by omega));have hk:=zAf ((hU.block _ (by omega)).trans kW);exact⟨hT.on hb,hb,hk.1,hk.2⟩
 have HL:=xI (aN hl (aN hk (aN hok (aN hkv y))));clear hT B kW D hl hk hok hkv y;generalize hln:l.length=m at *;generalize hkn:ks.length=p at *;have HN:=xI (aN hln hkn);clear hln hkn;by_cases hmp:m=p
 case neg=>
  have E:¬ (m:Int)=(p:Int):=by omega
  go_enter func121,ntmps121;go_wp2;rw[<-hW];go_ret;exact⟨by unfold zA7;rw[HN.out.1,HN.out.2,Ci hmp];rfl,(HT.out W yR).2.1⟩
 case pos=>
 subst hmp;go_enter func121,ntmps121;go_wp2_with fail;rw[<-hW];clear hW
 go_loopw [7] (fun iv wr=>∃ i:Nat,iv=vI i6 i/\i<=m/\((l.zip ks).take i).all (fun p=>memB ns p.1 p.2.toNat)=true/\bW W wr) (fun i _=>((m:Int)-intOf i).toNat)
 case atStart=>exact⟨0,rfl,by omega,by simp,Bw _ _⟩
 case round=>
  obtain⟨i,rfl,hi,b,z⟩:=hrel;have d:=xI b;have C:=xI z;clear b z;by_cases him:i<m
  ·have mp:(i:Int)<(m:Int):=by omega
   have m0:(0:Int)<=(i:Int):=by omega
   have G:IntKind.i64.wrap ((i:Int)+1)=(i:Int)+1:=Br _ (by have:=HL.out.2.2.2.2;unfold maxLen at this;omega);obtain⟨bl,ol,I,x0,x1,x2,x3,x4,x5,x6,s,a,⟨x,hx,v⟩,e0,e1,e2,e3,e4,e5,e6⟩:=RowB.at7 (j:=i) HL.out.1 (by have:=HN.out.1;omega);injection s with s hmm hcl;clear hmm;subst s hcl;have o:i<ks.length:=by have:=HN.out.2;omega
   have g:=By o;have f:=Cx o;generalize ks[i]=kj at g f;obtain⟨bk,ok,rfl,F,f0,_⟩:=zDa (HN.out.2.symm ▸ HL.out.2.1:RowP w w.heap.size 1 (vS Ak m ck) ks.length (kidR ks)) g;have H:=HL.out.2.2.2.1 kj f;obtain⟨kn,rfl⟩:∃ kn:Nat,kj=(kn:Int):=⟨kj.toNat,by omega⟩;have hd:bW W wr.drew:=C.out.drew;have HQ:Hid (∀ wq,bW W wq->((jT wq w.heap.size A ns.length c root)/\(wq.cell? (aD bl (ol+i*7))=some x0/\wq.cell? (aD bl (ol+i*7+1))=some x1/\wq.cell? (aD bl (ol+i*7+2))=some x2/\wq.cell? (aD bl (ol+i*7+3))=some x3/\wq.cell? (aD bl (ol+i*7+4))=some x4/\wq.cell? (aD bl (ol+i*7+5))=some x5/\wq.cell? (aD bl (ol+i*7+6))=some x6)/\wq.cell? (aD bk (ok+i))=some (vI i6 kn))):=xI fun wq h=>by
    obtain⟨_,hb,q0,q1⟩:=HT.out wq h;exact⟨⟨q0,q1⟩,⟨(hb.cell (p:=(aD bl _)) a).trans e0,(hb.cell (p:=(aD bl _)) a).trans e1,(hb.cell (p:=(aD bl _)) a).trans e2,(hb.cell (p:=(aD bl _)) a).trans e3,(hb.cell (p:=(aD bl _)) a).trans e4,(hb.cell (p:=(aD bl _)) a).trans e5,(hb.cell (p:=(aD bl _)) a).trans e6⟩,(hb.cell (p:=(aD bk _)) F).trans f0⟩
   have r:=HT.out _ hd;have hc:Calls tP 83 #[.agg #[x0,x1,x2,x3,x4,x5,x6],.agg #[vS A ns.length c,vI i6 root],vI i6 (kn:Int)] wr.drew fun e w'=>e=.returned (.bool (memB ns x kn))/\Below wr.drew.heap.size wr.drew w':=by
    have h:=hM.out x (Bh hx) (kn:Int) f q _ wr.drew (v.later r.2.1) (HL.out.2.2.1 x (Bh hx)) r.1;rw[Cb]at h;exact h
   have HZ:Hid ((l.zip ks)[i]?=some (x,(kn:Int))):=xI (by rw[List.getElem?_zip_eq_some];exact⟨hx,g⟩);clear e0 e1 e2 e3 e4 e5 e6 f0 v hx g f o r;go_wp2_with fail;refine wR HQ (by kernel_rfl) (HQ.out _ hd) (fun _=>?_);refine oT 0 (HQ.out _ hd) ?_
   (iterate 8 refine oY (HQ.out _ hd) ?_)
   refine oO 9 fun K hK=>?_;go_simp;refine (hc).mono ?_;rintro e w2 ⟨rfl,hb2⟩;have n:=hd.trans (hb2.mono hd.size);clear hc;refine hK _ _ (HQ.out _ n) (oP ?_);clear hK K;refine oT 10 (HQ.out _ n) ?_;refine wD ?_;have u:=HZ.out;cases hmx:memB ns x kn with
   | false=>
    have t:=xI hmx;clear hmx u;go_wp2;go_ret;refine⟨?_,(HT.out _ n).2.1⟩;have hf:(l.zip ks).all (fun p=>memB ns p.1 p.2.toNat)=false:=by
     rw[Dy];exact⟨_,Bh HZ.out,by simp[t.out]⟩
    unfold zA7;rw[hf];simp
   | true=>
    have t:=xI hmx;clear hmx u;go_wp2_with fail
    go_roundw
    case rel=>exact⟨i+1,by go_num,by omega,by rw[zAv HZ.out,d.out];simp[t.out],n⟩
    case measure=>simp[intOf];try omega
  ·have mp:¬ (i:Int)<(m:Int):=by omega
   go_wp2;go_ret;refine⟨?_,(HT.out _ C.out).2.1⟩;have h:=d.out;rw[B8 (by rw[List.length_zip,HN.out.1,HN.out.2];omega)]at h;unfold zA7;rw[h,HN.out.1,HN.out.2];simp
def elN:ElK (List Value):=⟨fun x _ _ cs=>cs=x/\x.length=8/\∀ u∈x,u.oneCell'=true,fun _ h=>h,fun _ h=>h⟩
theorem zBs:∀ x (w w':World) (B B':Nat->Prop) cs,elN.E x w B cs->elN.E x w' B' cs:=fun _ _ _ _ _ _ h=>h
abbrev OwnQ (w:World) (base:Nat) (v:Value) (css:List (List Value)):Prop:=OwnE elN 40 8 w base v css
def NdsB (w:World) (B:Nat->Prop) (css:List (List Value)) (xs:List Tn):Prop:=css.length=xs.length/\∀ (j:Nat) cs x,css[j]?=some cs->xs[j]?=some x->TnB w B x cs
theorem NdsB.keep {w w':World}{B:Nat->Prop}{css:List (List Value)}{xs:List Tn}(h:NdsB w B css xs) (hs:Same B w w'):NdsB w' B css xs:=⟨h.1,fun j cs x h1 h2=>(h.2 j cs x h1 h2).keep hs⟩
theorem NdsB.sub {w:World}{B B':Nat->Prop}{css:List (List Value)}{xs:List Tn}(h:NdsB w B css xs) (hs:∀ b,B b->B' b):NdsB w B' css xs:=⟨h.1,fun j cs x h1 h2=>(h.2 j cs x h1 h2).sub hs⟩
theorem NdsB.nil (w:World) (B:Nat->Prop):NdsB w B [] []:=⟨rfl,fun j cs x h=>by simp at h⟩
theorem NdsB.snoc {w:World}{B:Nat->Prop}{css:List (List Value)}{xs:List Tn}{cs:List Value}{x:Tn}(h:NdsB w B css xs) (hx:TnB w B x cs):NdsB w B (css++[cs]) (xs++[x]):=by
 refine⟨by simp[h.1],fun j c y h1 h2=>?_⟩;by_cases hj:j<css.length
 ·rw[Dt hj]at h1;rw[Dt (by rw[<-h.1];exact hj)]at h2;exact h.2 j c y h1 h2
 ·rw[Dw (by omega)]at h1;rw[Dw (by rw[<-h.1];omega)]at h2;have hz:j-css.length=0:=by have:=(Bx.1 h1).1;simp at this;omega
  have a:j-xs.length=0:=by rw[<-h.1];exact hz
  rw[hz]at h1;rw[a]at h2;injection h1 with h1;injection h2 with h2;subst h1 h2;exact hx
theorem NdsB.set {w:World}{B:Nat->Prop}{css:List (List Value)}{xs:List Tn}{cs:List Value}{x:Tn}(h:NdsB w B css xs) (j:Nat) (hx:TnB w B x cs):NdsB w B (css.set j cs) (xs.set j x):=by
 refine⟨by simp[h.1],fun i c y h1 h2=>?_⟩;by_cases hij:j=i
 ·subst hij;have hj:j<css.length:=by have:=(Bx.1 h1).1;simpa using this
  rw[Ev hj]at h1;rw[Ev (by rw[<-h.1];exact hj)]at h2;injection h1 with h1;injection h2 with h2;subst h1 h2;exact hx
 ·rw[D3 hij]at h1;rw[D3 hij]at h2;exact h.2 i c y h1 h2
theorem OwnE.nodes {w:World}{base:Nat}{v:Value}{css:List (List Value)}{xs:List Tn}{B B':Nat->Prop}(h:OwnQ w base v css) (hn:NdsB w B css xs) (hl:xs.length<=maxLen) (hB:∀ b,B b->B' b) (hO:∀ b,base<=b->b<w.heap.size->B' b):RowB w B' 8 v xs.length (tnR w B' xs):=by
 have hr:=OwnE.row h (by decide) (by rw[hn.1];exact hl);rw[hn.1]at hr;refine hr.sub (fun b hb=>hO b hb.1 hb.2) fun j cs ⟨x,hx,hv⟩=>?_;obtain⟨rfl,_⟩:=hv;have hj:j<xs.length:=by rw[<-hn.1];exact (Bx.1 hx).1
 exact⟨_,By hj,(hn.2 j _ _ hx (By hj)).sub hB⟩
theorem OwnE.at8N {w:World}{base g n cap:Nat}{css:List (List Value)}{cs:List Value}{j:Nat}(h:OwnQ w base (vS (some ⟨g,0,none⟩) n cap) css) (hj:css[j]?=some cs) :
  n=css.length/\base<=g/\g<w.heap.size/\(∀ i,i<8->w.cell? ⟨g,j*8+i,none⟩=cs[i]?)/\(∀ i,w.frozen? ⟨g,i,none⟩=false)/\cs.length=8/\∀ (r:Nat) (u:Value),r<8->u.oneCell'=true->OwnQ (w.setCell ⟨g,j*8+r,none⟩ u) base (vS (some ⟨g,0,none⟩) n cap) (css.set j (cs.set r u)):=by
 obtain⟨g',a,b,hv,hb,hl,hE,hc,hf,hs⟩:=OwnE.setc zBs h hj (by decide);obtain⟨rfl,h8,h1⟩:=hE;injection hv with hg hn hcp;injection hg with hg;injection hg with hg _ _;subst hg hn hcp;refine⟨rfl,hb,hl,hc,hf,h8,fun r u hr hu=>hs r u _ hr ⟨rfl,by simpa using h8,fun x hx=>?_⟩⟩;rcases List.mem_or_eq_of_mem_set hx with hx|rfl
 ·exact h1 x hx
 ·exact hu
theorem OwnE.put8 {w:World}{base g n cap:Nat}{css:List (List Value)}{j:Nat}(h:OwnQ w base (vS (some ⟨g,0,none⟩) n cap) css) (hj:j<css.length) (v0 v1 v2 v3 v4 v5 v6 v7:Value)
  (h0:v0.oneCell'=true) (h1:v1.oneCell'=true) (h2:v2.oneCell'=true) (h3:v3.oneCell'=true) (h4:v4.oneCell'=true) (h5:v5.oneCell'=true) (h6:v6.oneCell'=true) (h7:v7.oneCell'=true) (V:World) (hV:V=((((((((w.setCell ⟨g,j*8,none⟩ v0).setCell ⟨g,j*8+1,none⟩ v1).setCell ⟨g,j*8+2,none⟩ v2).setCell ⟨g,j*8+3,none⟩ v3).setCell ⟨g,j*8+4,none⟩ v4).setCell ⟨g,j*8+5,none⟩ v5).setCell ⟨g,j*8+6,none⟩ v6).setCell ⟨g,j*8+7,none⟩ v7)) :
  OwnQ V base (vS (some ⟨g,0,none⟩) n cap) (css.set j [v0,v1,v2,v3,v4,v5,v6,v7])/\V.heap.size=w.heap.size/\(∀ b,b≠g->V.heap[b]?=w.heap[b]?)/\∀ H,H<=g->Below H w V:=by
 subst hV;have hx:=By hj;generalize css[j]=cs at hx;have step:∀ (w:World) (l:List (List Value)) (cs:List Value) (r:Nat) (u:Value),OwnQ w base (vS (some (aD g 0)) n cap) l->l[j]?=some cs->r<8->u.oneCell'=true->OwnQ (w.setCell (aD g (j*8+r)) u) base (vS (some (aD g 0)) n cap) (l.set j (cs.set r u))/\(l.set j (cs.set r u))[j]?=some (cs.set r u):=fun w l cs r u h hx hr hu=>
  ⟨(h.at8N hx).2.2.2.2.2.2 r u hr hu,Ev (Bx.1 hx).1⟩
 have a:=(h.at8N hx).2.2.2.2.2.1;have s0:=step _ _ _ 0 v0 h hx (by decide) h0;have s1:=step _ _ _ 1 v1 s0.1 s0.2 (by decide) h1;have s2:=step _ _ _ 2 v2 s1.1 s1.2 (by decide) h2;have s3:=step _ _ _ 3 v3 s2.1 s2.2 (by decide) h3;have s4:=step _ _ _ 4 v4 s3.1 s3.2 (by decide) h4;have s5:=step _ _ _ 5 v5 s4.1 s4.2 (by decide) h5;have s6:=step _ _ _ 6 v6 s5.1 s5.2 (by decide) h6;have s7:=(step _ _ _ 7 v7 s6.1 s6.2 (by decide) h7).1;obtain⟨a0,a1,a2,a3,a4,a5,a6,a7,rfl⟩:∃ a0 a1 a2 a3 a4 a5 a6 a7,cs=[a0,a1,a2,a3,a4,a5,a6,a7]:=by
  match cs,a with
  | [a0,a1,a2,a3,a4,a5,a6,a7],_=>exact⟨a0,a1,a2,a3,a4,a5,a6,a7,rfl⟩
 simp only[List.set_set,List.set_cons_zero,Df,Ds]at s7;refine⟨s7,by simp,fun b hb=>?_,fun H hH=>(((((((((Bw H w).setCell (p:=(aD g _)) hH _).setCell (p:=(aD g _)) hH _).setCell (p:=(aD g _)) hH _).setCell (p:=(aD g _)) hH _).setCell (p:=(aD g _)) hH _).setCell (p:=(aD g _)) hH _).setCell (p:=(aD g _)) hH _).setCell (p:=(aD g _)) hH _)⟩;iterate 8 rw[Bq _ _ _ _ hb]
end Go.Proofs.YteedihhdcbepmaaGreat
