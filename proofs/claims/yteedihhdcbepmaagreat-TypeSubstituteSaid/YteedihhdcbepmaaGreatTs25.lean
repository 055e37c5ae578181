/- Function of the document. -/
import Derived.Test.YteedihhdcbepmaaGreatTsZ
import Derived.Test.YteedihhdcbepmaaGreatTs11
import Derived.Test.YteedihhdcbepmaaGreatTs24
set_option maxRecDepth 100000
set_option maxHeartbeats 3200000
set_option linter.all false
open Go.Value renaming slice→vS,int→vI,string→vT
open Go.IntKind renaming i64→i6
open Go.Proofs.Tryz
open Go.Proofs.Tryz renaming prog→tP
namespace Go.Proofs.YteedihhdcbepmaaGreat
open Go Go.RowKit
abbrev RowE (k lo:Nat) (w:World) (v:Value) (l:List En):Prop:=RowB w (Btw lo w.heap.size) 9 v l.length (fun j cs=>∃ x,l[j]?=some x/\EnB k x w (Btw lo w.heap.size) cs)
theorem EnB.keep {k:Nat}{x:En}{w w':World}{B:Nat->Prop}{cs:List Value}(h:EnB k x w B cs) (hs:Same B w w'):EnB k x w' B cs:=(elE k).keep hs h
theorem EnB.sub {k:Nat}{x:En}{w:World}{B B':Nat->Prop}{cs:List Value}(h:EnB k x w B cs) (hs:∀ b,B b->B' b):EnB k x w B' cs:=(elE k).sub hs h
theorem EnB.toK {k:Nat}{x:En}{w:World}{B:Nat->Prop}{cs:List Value}(h:EnB k x w B cs):∃ args fails result,x=.mk args fails result/\∃ ua rs,cs=ua::.bool fails::rs/\RowB w B 7 ua args.length (fun j cs=>∃ x,args[j]?=some x/\VB k w B x cs)/\VB k w B result rs:=h
def funB (a:Int) (l:List En):Bool:=decide (0<=a/\a<=4)&&l.all (entB a)
def funV (a:Int) (l:List En):Vl:=.mk 9 a [] [] [] l []
def FunR (k lo:Nat) (a:Int) (l:List En) (w:World) (e:Ending) (w':World):Prop:=
 bW w w'/\((funB a l=true/\∃ cs,e=.returned (.tuple #[.agg cs.toArray,vI i6 0])/\VB (k+1) w' (Btw lo w'.heap.size) (funV a (srtC cmpE l)) cs)\/(funB a l=false/\e=.returned (.tuple #[.agg nV,vI i6 1])))
theorem zC9 (k lo:Nat) (a:Int) (A:Option Addr) (c:Nat) (l:List En) (w:World) (hlo:lo<=w.heap.size) (hl:RowE k lo w (vS A l.length c) l) (hn:l.length<=100000000) (haw:(Lit.int .i64 a).wf=true) :
  Calls tP 99 #[vI i6 a,vS A l.length c] w (FunR k lo a l w):=by
 obtain⟨W0,L,U,k0,aq⟩:=aW w oG
 have HL:=xI hl;clear hl;by_cases ha1:a<0
 ·have q1:decide (a<0)=true:=by simpa using ha1
  have P:funB a l=false:=by unfold funB;simp;omega
  have HF:=xI P;clear P;generalize hLN:l.length=n at *;go_enter func99,ntmps99;go_wp2_with fail;rw[<-L];clear L;obtain⟨e0,e1,e2,e3,e4,e5,e6⟩:=zAc k0;obtain⟨z0,z1,z2,z3,z4,z5,z6⟩:=zAd k0;go_wp2;have I:bW w W0:=U;clear z0 z1 z2 z3 z4 z5 z6;obtain⟨F,E,D,C,y,u,t⟩:=zAc k0;refine Cw (v:=.tuple #[.agg nV,vI i6 1]) (by simp[results,results99,go_sem,F,E,D,C,y,u,t]) rfl ?_;exact⟨I,.inr ⟨HF.out,rfl⟩⟩
 have q1:decide (a<0)=false:=by simpa using ha1
 by_cases ha4:4<a
 ·have q4:decide (4<a)=true:=by simpa using ha4
  have P:funB a l=false:=by unfold funB;simp;omega
  have HF:=xI P;clear P;generalize hLN:l.length=n at *;go_enter func99,ntmps99;go_wp2_with fail;rw[<-L];clear L;obtain⟨e0,e1,e2,e3,e4,e5,e6⟩:=zAc k0;obtain⟨z0,z1,z2,z3,z4,z5,z6⟩:=zAd k0;go_wp2;have I:bW w W0:=U;clear z0 z1 z2 z3 z4 z5 z6;obtain⟨F,E,D,C,y,u,t⟩:=zAc k0;refine Cw (v:=.tuple #[.agg nV,vI i6 1]) (by simp[results,results99,go_sem,F,E,D,C,y,u,t]) rfl ?_;exact⟨I,.inr ⟨HF.out,rfl⟩⟩
 have q4:decide (4<a)=false:=by simpa using ha4
 have ae:decide (0<=a/\a<=4)=true:=by simp;omega
 have ao:=xI ae;clear ae;generalize hLN:l.length=n at *;have HN:=xI hLN;clear hLN;go_enter func99,ntmps99;go_wp2_with fail;rw[<-L];clear L
 go_loopw [6] (fun i wr=>∃ (j:Nat),i=vI i6 j/\j<=n/\(∀ x∈l.take j,entB a x=true)/\bW W0 wr) (fun i _=>n-(intOf i).toNat)
 case atStart=>exact⟨0,rfl,by omega,by simp,Bw _ _⟩
 case round=>
  obtain⟨j,rfl,hj,S,hb⟩:=hrel;have f:bW w wr:=U.trans (hb.mono U.size);have k1:wr.heap[w.heap.size]?=some oG:=(hb.block _ (by omega)).trans k0;have HA:=xI S;clear S;by_cases hjn:j<n
  ·obtain⟨bs,g,am,v0,v1,t0,t1,t2,t3,t4,t5,t6,hu,G,⟨x,hx,hE⟩,c0,c1,c2,c3,c4,c5,c6,c7,c8⟩:=RowB.at9 (H:=w.heap.size) (j:=j) (RowB.sub HL.out (fun _ h=>h.2) (fun _ _ h=>h)) (by have:=HN.out;omega);injection hu with hA hNN hcc;subst hA;clear hNN hcc;have kn:(j:Int)<(n:Int):=by omega
   have kp:(0:Int)<=(j:Int):=by omega
   have aj:=EnB.keep hE (.of_below f fun _ h=>h.2);obtain⟨s,r,d,rfl,ua,rs,ad,Z,W⟩:=hE.toK;simp only[Bb]at ad;obtain⟨rfl,rfl,rfl⟩:=ad;obtain⟨Aa,ca,rfl,_⟩:=Z.form;have s0:wr.cell? (aD bs (g+j*9))=some (vS Aa s.length ca):=(f.cell (p:=(aD bs _)) G).trans c0;have s1:wr.cell? (aD bs (g+j*9+1))=some (.bool r):=(f.cell (p:=(aD bs _)) G).trans c1;have s2:wr.cell? (aD bs (g+j*9+2))=some (t0):=(f.cell (p:=(aD bs _)) G).trans c2;have s3:wr.cell? (aD bs (g+j*9+3))=some (t1):=(f.cell (p:=(aD bs _)) G).trans c3;have s4:wr.cell? (aD bs (g+j*9+4))=some (t2):=(f.cell (p:=(aD bs _)) G).trans c4;have s5:wr.cell? (aD bs (g+j*9+5))=some (t3):=(f.cell (p:=(aD bs _)) G).trans c5;have s6:wr.cell? (aD bs (g+j*9+6))=some (t4):=(f.cell (p:=(aD bs _)) G).trans c6;have s7:wr.cell? (aD bs (g+j*9+7))=some (t5):=(f.cell (p:=(aD bs _)) G).trans c7;have s8:wr.cell? (aD bs (g+j*9+8))=some (t6):=(f.cell (p:=(aD bs _)) G).trans c8;clear c0 c1 c2 c3 c4 c5 c6 c7 c8;have HX:=xI (aN hx hE);have av:0<k:=by
    cases k with
    | zero=>exact W.elim
    | succ k=>omega
   have hq:∀ V,bW w V->Calls tP 145 #[.agg #[t0,t1,t2,t3,t4,t5,t6],.agg nV] V fun e w'=>e=.returned (.bool (isZ d))/\bW V w':=fun V hV=>by
    have hh:=VB.sub (B':=fun b=>b<V.heap.size) (fun b (hb:Btw lo w.heap.size b)=>by have:=hb.2;have:=hV.size;omega) (Bc k) (VB.keep (.of_below hV fun _ h=>h.2) W);obtain⟨q,rfl⟩:∃ q,k=q+1:=⟨k-1,by omega⟩;exact zE4 (q+1) d zeroV _ _ V hh (zKb q V _)
   have X:=hq wr f;have M:Hid (entB a (.mk s r d)=(decide ((s.length:Int)=a)&&(!r||isZ d))):=xI rfl;clear hx hE aj Z W hq;generalize hz:isZ d=zr at X M;clear hz;generalize hla:s.length=la at s0 M;clear hla;by_cases hlen:(la:Int)=a
   ·have ah:((la:Int) != a)=false:=by simpa using hlen
    cases r
    ·have HT:Hid (entB a (.mk s false d)=true):=xI (by rw[M.out];simp[hlen]);go_wp2_with fail
     go_roundw
     case rel=>
      refine⟨j+1,by go_num,by omega,fun z hz=>?_,hb⟩;rw[Cr,HX.out.1]at hz;rcases B7.1 hz with hz|hz
      ·exact HA.out z hz
      ·have K:=Option.mem_toList.1 hz;injection K with K;rw[<-K];exact HT.out
     case measure=>simp[intOf];try omega
    ·go_wp2_with fail;refine X.mono ?_;rintro e w10 ⟨rfl,hb10⟩;have J:bW W0 w10:=hb.trans (hb10.mono hb.size);have R:bW w w10:=f.trans (hb10.mono f.size);have k2:w10.heap[w.heap.size]?=some oG:=(J.block _ (by omega)).trans k0;clear X;cases zr
     ·have HF:Hid (funB a l=false):=xI (by
       unfold funB;rw[Bool.and_eq_false_iff];right;rw[Dy];exact⟨_,Bh HX.out.1,by rw[M.out];simp⟩)
      obtain⟨e0,e1,e2,e3,e4,e5,e6⟩:=zAc k2;obtain⟨z0,z1,z2,z3,z4,z5,z6⟩:=zAd k2;go_wp2;refine nW fun V hV=>?_;have O:V.heap[w.heap.size]?=some oG:=by rw[hV];exact obj7 k2 (vI i6 0) (vI i6 0) (vT ⟨#[]⟩) (vS none 0 0) (vS none 0 0) (vS none 0 0) (vS none 0 0)
      have I:bW w V:=by rw[hV];exact Bu (Bu (Bu (Bu (Bu (Bu (Bu (R) (p:=(aH w 0)) lR _) (p:=(aH w 1)) lR _) (p:=(aH w 2)) lR _) (p:=(aH w 3)) lR _) (p:=(aH w 4)) lR _) (p:=(aH w 5)) lR _) (p:=(aH w 6)) lR _
      have N:V.heap.size=w10.heap.size:=by rw[hV];simp
      have T:∀ B:Nat->Prop,¬ B w.heap.size->Same B w10 V:=fun B h=>by rw[hV];exact zAa (zAa (zAa (zAa (zAa (zAa (zAa ((Same.refl _ _)) h) h) h) h) h) h) h
      clear hV e0 z0 e1 z1 e2 z2 e3 z3 e4 z4 e5 z5 e6 z6;obtain⟨F,E,D,C,y,u,t⟩:=zAc O;refine Cw (v:=.tuple #[.agg nV,vI i6 1]) (by simp[results,results99,go_sem,F,E,D,C,y,u,t]) rfl ?_;exact⟨I,.inr ⟨HF.out,rfl⟩⟩
     ·have HT:Hid (entB a (.mk s true d)=true):=xI (by rw[M.out];simp[hlen]);clear k1 k2;go_wp2_with fail
      go_roundw
      case rel=>
       refine⟨j+1,by go_num,by omega,fun z hz=>?_,J⟩;rw[Cr,HX.out.1]at hz;rcases B7.1 hz with hz|hz
       ·exact HA.out z hz
       ·have K:=Option.mem_toList.1 hz;injection K with K;rw[<-K];exact HT.out
      case measure=>simp[intOf];try omega
   ·have ah:((la:Int) != a)=true:=by simpa using hlen
    have HF:Hid (funB a l=false):=xI (by
     unfold funB;rw[Bool.and_eq_false_iff];right;rw[Dy];exact⟨_,Bh HX.out.1,by rw[M.out];simp[hlen]⟩)
    obtain⟨e0,e1,e2,e3,e4,e5,e6⟩:=zAc k1;obtain⟨z0,z1,z2,z3,z4,z5,z6⟩:=zAd k1;go_wp2;refine nW fun V hV=>?_;have O:V.heap[w.heap.size]?=some oG:=by rw[hV];exact obj7 k1 (vI i6 0) (vI i6 0) (vT ⟨#[]⟩) (vS none 0 0) (vS none 0 0) (vS none 0 0) (vS none 0 0)
    have I:bW w V:=by rw[hV];exact Bu (Bu (Bu (Bu (Bu (Bu (Bu (f) (p:=(aH w 0)) lR _) (p:=(aH w 1)) lR _) (p:=(aH w 2)) lR _) (p:=(aH w 3)) lR _) (p:=(aH w 4)) lR _) (p:=(aH w 5)) lR _) (p:=(aH w 6)) lR _
    have N:V.heap.size=wr.heap.size:=by rw[hV];simp
    have T:∀ B:Nat->Prop,¬ B w.heap.size->Same B wr V:=fun B h=>by rw[hV];exact zAa (zAa (zAa (zAa (zAa (zAa (zAa ((Same.refl _ _)) h) h) h) h) h) h) h
    clear hV e0 z0 e1 z1 e2 z2 e3 z3 e4 z4 e5 z5 e6 z6;obtain⟨F,E,D,C,y,u,t⟩:=zAc O;refine Cw (v:=.tuple #[.agg nV,vI i6 1]) (by simp[results,results99,go_sem,F,E,D,C,y,u,t]) rfl ?_;exact⟨I,.inr ⟨HF.out,rfl⟩⟩
  ·have ab:l.take j=l:=B8 (by have:=HN.out;omega);have HF:Hid (funB a l=true):=xI (by
    unfold funB;rw[ao.out,Et,Cz];have:=HA.out;rw[ab]at this;exact this)
   clear ab;have hc:Calls tP 146 #[vS A n c] wr fun e w'=>∃ A' c',e=.returned (vS A' (srtC cmpE l).length c')/\OwnX k wr (Btw lo w.heap.size) w' wr.heap.size (vS A' (srtC cmpE l).length c') (srtC cmpE l)/\bW wr w':=by
    have aa:=HN.out;have ai:=HL.out;have Y:=f.size;subst aa;exact zGn k (Btw lo w.heap.size) A c l wr (fun b hb=>Bj hb.2 Y) (RowB.sub (B:=Btw lo w.heap.size) (RowB.keep ai (.of_below f fun _ h=>h.2) (fun _ _ h=>h)) (fun b hb=>Bj hb.2 Y) (fun q cs ⟨x,hx,hE⟩=>⟨x,hx,hE.keep (.of_below f fun _ h=>h.2)⟩)) hn
   go_wp2_with fail;refine hc.mono ?_;rintro e w11 ⟨A',c',rfl,hO,o⟩;clear hc;have Q:bW w w11:=f.trans (o.mono f.size);have k2:w11.heap[w.heap.size]?=some oG:=(o.block _ (by have:=hb.size;omega)).trans k1;have HO:=xI (aN hO o);clear hO o k1;generalize hLS:(srtC cmpE l).length=m at *;have an:=xI hLS;clear hLS;obtain⟨e0,e1,e2,e3,e4,e5,e6⟩:=zAc k2;obtain⟨z0,z1,z2,z3,z4,z5,z6⟩:=zAd k2;go_wp2;refine nW fun V hV=>?_;have O:V.heap[w.heap.size]?=some (oV 9 a ⟨#[]⟩ none 0 0 none 0 0 A' m c' none 0 0):=by rw[hV];exact obj7 k2 (vI i6 9) (vI i6 a) (vT ⟨#[]⟩) (vS none 0 0) (vS none 0 0) (vS A' m c') (vS none 0 0)
   have I:bW w V:=by rw[hV];exact Bu (Bu (Bu (Bu (Bu (Bu (Bu (Q) (p:=(aH w 0)) lR _) (p:=(aH w 1)) lR _) (p:=(aH w 2)) lR _) (p:=(aH w 3)) lR _) (p:=(aH w 4)) lR _) (p:=(aH w 5)) lR _) (p:=(aH w 6)) lR _
   have N:V.heap.size=w11.heap.size:=by rw[hV];simp
   have T:∀ B:Nat->Prop,¬ B w.heap.size->Same B w11 V:=fun B h=>by rw[hV];exact zAa (zAa (zAa (zAa (zAa (zAa (zAa ((Same.refl _ _)) h) h) h) h) h) h) h
   clear hV e0 z0 e1 z1 e2 z2 e3 z3 e4 z4 e5 z5 e6 z6;obtain⟨F,E,D,C,y,u,t⟩:=zAc O;refine Cw (v:=.tuple #[.agg #[vI i6 9,vI i6 a,vT ⟨#[]⟩,vS none 0 0,vS none 0 0,vS A' m c',vS none 0 0],vI i6 0]) (by simp[results,results99,go_sem,F,E,D,C,y,u,t]) rfl ?_;have hm:=an.out;subst hm;obtain⟨hO,o⟩:=HO.out;have aa:=HN.out;have au:=zFc (c:=cmpE) l;have ap:=f.size;have af:=o.size;refine⟨I,.inl ⟨HF.out,_,rfl,_,_,_,_,rfl,by decide,haw,Bt _,zBv _ _ _ _,zBv _ _ _ _,?_,zBv _ _ _ _⟩⟩;have ag:=hO.row (by omega) (by unfold maxLen;omega);refine RowB.sub (RowB.keep ag (T _ (fun h=>by have:=h.1;have:=hb.size;omega)) (fun _ _ h=>h)) (fun b hb=>⟨by have:=hb.1;omega,by have:=hb.2;omega⟩) (fun q cs ⟨x,hx,hE⟩=>?_);have al:EnB k x wr (Btw lo w.heap.size) cs:=hE;have ak:=((al.keep (.of_below o (fun b h=>by have:=h.2;omega))).keep (T _ (fun h=>by have:=h.2;omega))).sub (B':=Btw lo V.heap.size) (fun b h=>⟨h.1,by have:=h.2;omega⟩);obtain⟨ar,fa,re,rfl,ua,rs,rfl,h1,h2⟩:=ak;exact⟨ar,fa,re,hx,ua,rs,rfl,h1,h2⟩
abbrev Kv:=(Int×List UInt8)×Vl
def cK (p q:Kv):Int:=cmpK p.1 q.1
def mapV (z:List Kv):Vl:=.mk 8 0 [] (z.map Prod.snd) (z.map Prod.fst) [] []
theorem zQ8 {α:Type}{c:α->α->Int}{x a:α}{l:List α}(h:c a x<0):ins c x (a::l)=a::ins c x l:=by simp[ins,h]
theorem zRa {α:Type}{c:α->α->Int}{x a:α}{l:List α}(h:c a x=0):ins c x (a::l)=a::l:=by simp[ins,h]
theorem zQ9 {α:Type}{c:α->α->Int}{x a:α}{l:List α}(h:¬ c a x<0) (h2:¬ c a x=0):ins c x (a::l)=x::a::l:=by rw[ins,if_neg h,if_neg h2]
theorem zNo (x:Kv):∀ l:List Kv,(ins cK x l).map Prod.fst=ins cmpK x.1 (l.map Prod.fst)
 | []=>rfl
 | a::l=>by
  by_cases h1:cmpK a.1 x.1<0
  ·rw[zQ8 (c:=cK) h1,Dm,Dm,zQ8 (c:=cmpK) h1,zNo x l]
  ·by_cases h2:cmpK a.1 x.1=0
   ·rw[zRa (c:=cK) h2,Dm,zRa (c:=cmpK) h2]
   ·rw[zQ9 (c:=cK) h1 h2,Dm,Dm,zQ9 (c:=cmpK) h1 h2]
theorem zRl (z:List Kv):(srtC cK z).map Prod.fst=srtC cmpK (z.map Prod.fst):=by
 have h:∀ (z acc:List Kv),(z.foldl (fun acc x=>ins cK x acc) acc).map Prod.fst=(z.map Prod.fst).foldl (fun acc x=>ins cmpK x acc) (acc.map Prod.fst):=by
  intro z
  induction z with
  | nil=>intro acc;rfl
  | cons a z ih=>intro acc;rw[Dn,ih,zNo,Dm,Dn]
 exact h z []
theorem zR2 {α:Type}{c:α->α->Int}(x:α) (m:List α):(ins c x m).length<=m.length+1:=by
 induction m with
 | nil=>simp[ins]
 | cons a m ih=>
  unfold ins;split
  ·simp;omega
  ·split<;>simp
theorem zMs {α:Type}{c:α->α->Int}(l:List α) (j:Nat):(srtC c l).length<=(srtC c (l.take j)).length+(l.length-j):=by
 have hf:∀ (l m:List α),(l.foldl (fun acc x=>ins c x acc) m).length<=m.length+l.length:=by
  intro l
  induction l with
  | nil=>intro m;simp
  | cons a l ih=>
   intro m;rw[Dn];have:=ih (ins c a m);have:=zR2 (c:=c) a m;rw[Cj];omega
 have:=hf (l.drop j) (srtC c (l.take j));rw[<-Cc];have e:srtC c l=(l.drop j).foldl (fun acc x=>ins c x acc) (srtC c (l.take j)):=by
  unfold srtC;rw[<-List.foldl_append,Eo]
 rw[e];exact this
theorem zF0 {α:Type}{c:α->α->Int}{x y:α}:∀ {l:List α},y∈ins c x l->y=x\/y∈l
 | [],h=>by simpa [ins] using h
 | a::l,h=>by
  unfold ins at h;split at h
  ·rcases Cs.1 h with h|h
   ·exact .inr (h ▸ Ca ..)
   ·rcases zF0 h with h|h
    ·exact .inl h
    ·exact .inr (C0 _ h)
  ·split at h
   ·exact .inr h
   ·rcases Cs.1 h with h|h
    ·exact .inl h
    ·exact .inr h
theorem zIw {α:Type}{c:α->α->Int}{y:α}{l:List α}(h:y∈srtC c l):y∈l:=by
 have hf:∀ (l m:List α),y∈l.foldl (fun acc x=>ins c x acc) m->y∈l\/y∈m:=by
  intro l
  induction l with
  | nil=>intro m h;exact .inr h
  | cons a l ih=>
   intro m h;rw[Dn]at h;rcases ih _ h with h|h
   ·exact .inl (C0 _ h)
   ·rcases zF0 h with h|h
    ·exact .inl (h ▸ Ca ..)
    ·exact .inr h
 rcases hf l [] h with h|h
 ·exact h
 ·simp at h
theorem OwnC.kept {α:Type}{Pr:α->List Value->Prop}{e:TypeId}{c:Nat}{w w':World}{base:Nat}{v:Value}{l:List α}(h:OwnE (elC Pr) e c w base v l) (hb:∀ g,v.ownBlock=some g->w'.heap[g]?=w.heap[g]?):OwnE (elC Pr) e c w' base v l:=by
 obtain⟨xs,ho,hx⟩:=h;refine⟨xs,⟨ho.1,?_⟩,fun j x hj=>hx j x hj⟩;rcases ho.2 with hn|⟨g,cap,cur,rfl,hB,hg,rest⟩
 ·exact .inl hn
 ·exact .inr ⟨g,cap,cur,rfl,hB,(hb g rfl).trans hg,rest⟩
def kyC (x:Int×List UInt8) (cs:List Value):Prop:=cs=[vI i6 x.1,vT ⟨x.2.toArray⟩]/\(Lit.int .i64 x.1).wf=true/\x.2.length<=maxLen
theorem zB5 {x:Int×List UInt8}{cs:List Value}(h:kyC x cs):∀ u∈cs,u.oneCell'=true:=by
 obtain⟨rfl,_⟩:=h;intro u hu;simp only[Cs,List.not_mem_nil,or_false]at hu;rcases hu with rfl|rfl<;>rfl
abbrev OwnY (w:World) (base:Nat) (v:Value) (l:List (Int×List UInt8)):Prop:=OwnE (elC kyC) 131 2 w base v l
abbrev OwnX7 (k:Nat) (w0:World) (B0:Nat->Prop) (w:World) (base:Nat) (v:Value) (l:List Vl):Prop:=OwnE (elC (fun x cs=>VB k w0 B0 x cs)) 33 7 w base v l
theorem zLv (k:Nat) (w0:World) (B0:Nat->Prop) (Bs:Nat->Prop) (A:Option Addr) (c:Nat) (l:List Vl) (w:World) (hl:RowB w Bs 7 (vS A l.length c) l.length (fun j cs=>∃ x,l[j]?=some x/\VB k w0 B0 x cs)) (hn:l.length<=300000000) :
  Calls tP 57 #[vS A l.length c] w fun e w'=>∃ A' c',e=.returned (vS A' l.length c')/\OwnX7 k w0 B0 w' w.heap.size (vS A' l.length c') l/\bW w w':=by
 have HL:=xI hl;clear hl;go_enter func57,ntmps57;go_wp2_with (refine zL9 (elC (fun x cs=>VB k w0 B0 x cs)) (fun x w' B cs h=>zBg k x w0 B0 cs h) rfl _ _ rfl w.heap.size (vS none 0 0) [] rfl (OwnE.nil _ _ _ _ _) A l.length c l rfl Bs rfl HL.out (by simpa using hn) lR ?_);intro v' w' ho hb hk hg;have a:OwnX7 k w0 B0 w' w.heap.size v' l:=ho;obtain⟨A',c',rfl⟩:=a.form;have HF:=xI (aN a hb);clear ho a hb hk hg;go_wp2;go_ret;exact⟨A',c',rfl,HF.out⟩
theorem zD9 (k:Nat) (w0:World) (B0:Nat->Prop) (Bs:Nat->Prop) (A:Option Addr) (c:Nat) (l:List Vl) (w:World) (m:Nat) (hm:l.length=m) (hl:RowB w Bs 7 (vS A m c) m (fun j cs=>∃ x,l[j]?=some x/\VB k w0 B0 x cs)) (hn:m<=300000000) :
  Calls tP 57 #[vS A m c] w fun e w'=>∃ A' c',e=.returned (vS A' m c')/\OwnX7 k w0 B0 w' w.heap.size (vS A' m c') l/\bW w w':=by
 subst hm;exact zLv k w0 B0 Bs A c l w hl hn
theorem OwnE.rowN {α:Type}{K:ElK α}{e:TypeId}{c:Nat}{w:World}{base m:Nat}{v:Value}{l:List α}(h:OwnE K e c w base v l) (hc:0<c) (hn:l.length<=maxLen) (hm:l.length=m) :
  RowB w (Btw base w.heap.size) c v m (fun j cs=>∃ x,l[j]?=some x/\K.E x w (Btw base w.heap.size) cs):=by
 subst hm;exact h.row hc hn
theorem OwnE.formN {α:Type}{K:ElK α}{e:TypeId}{c:Nat}{w:World}{base m:Nat}{v:Value}{l:List α}(h:OwnE K e c w base v l) (hm:l.length=m) (hl:0<m):∃ g cap,v=vS (some (aD g 0)) m cap/\base<=g/\g<w.heap.size/\m<=cap:=by
 subst hm;exact h.formG hl
theorem zMb {ops:Array Oper}{rest:List Oper}{o:Oper}{a:Act}{Q:Exit->Act->World->Prop}{w0:World}(K:ElK Vl) (hgd:o.guard=none) (s x:Operand)
  (ho:o.op=.call { callee:=.builtin .append,args:=#[s,x],argTypes:=#[28,28] }) (base:Nat) (v:Value) (l:List Vl) (hs:a.eval s=v) (hown:OwnE K 33 7 w0 base v l)
  (y:Vl) (cs:List Value) (cap1:Nat) (H:Nat) (hH:w0.heap.size=H) (hx:a.eval x=vS (some (aD H 0)) 1 cap1) (cells:Array Value) (hcells:cells=cs.toArray)
  (hy:K.E y w0 (fun b=>base<=b/\b<w0.heap.size/\some b≠v.ownBlock) cs) (hcs:cs.length=7) (h1c:∀ u∈cs,u.oneCell'=true) (hn:l.length<=300000000) (hbase:base<=w0.heap.size)
  (h:∀ g cap w',OwnE K 33 7 w' base (vS (some (aD g 0)) (l.length+1) cap) (l++[y])->Below base w0 w'->(∀ b,b<w0.heap.size->some b≠v.ownBlock->w'.heap[b]?=w0.heap[b]?)->(v.ownBlock=some g\/H<=g)->wpList tP ops Q rest (a.put o.dst (vS (some (aD g 0)) (l.length+1) cap)) w') :
  wpList tP ops Q (o::rest) a (w0.alloc (.cells cells 33)):=by
 subst hcells;obtain⟨i0,hi,e,d,c⟩:=Cp Tryz.infoV;obtain⟨g,cap,w',h1,h2,h3,h4,h5⟩:=zBi K 28 o.type 33 i0 (.agg nV) 7 128 underlying28 hi e d c rfl (by decide) (by decide) w0 base v l hown y cs hy hcs h1c hn hbase H hH cap1;exact Lib.wpList_append_run _ hgd s x 28 28 ho v _ hs hx _ w' h1 (h g cap w' h2 h3 h4 h5)
abbrev RowY (w:World) (B:Nat->Prop) (v:Value) (l:List (Int×List UInt8)):Prop:=RowB w B 2 v l.length (fun j cs=>∃ x,l[j]?=some x/\kyC x cs)
def keysB (keys:List (Int×List UInt8)):Bool:=keys.all (fun x=>keyB x.1 x.2)
def MapR (k lo:Nat) (keys:List (Int×List UInt8)) (l:List Vl) (w:World) (e:Ending) (w':World):Prop:=
 bW w w'/\((¬ (keys.length=l.length/\keysB keys=true)/\e=.returned (.tuple #[.agg nV,vI i6 1])) \/
  (keys.length=l.length/\keysB keys=true/\(srtC cK (keys.zip l)).length≠keys.length/\e=.returned (.tuple #[.agg nV,vI i6 6])) \/
  (keys.length=l.length/\keysB keys=true/\(srtC cK (keys.zip l)).length=keys.length/\∃ cs,e=.returned (.tuple #[.agg cs.toArray,vI i6 0])/\VB (k+1) w' (Btw lo w'.heap.size) (mapV (srtC cK (keys.zip l))) cs))
end Go.Proofs.YteedihhdcbepmaaGreat
