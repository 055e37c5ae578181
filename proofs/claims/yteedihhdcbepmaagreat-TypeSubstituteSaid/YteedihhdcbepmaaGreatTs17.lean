/- What compose's walk needs: rows of types; .. -/
import Derived.Test.YteedihhdcbepmaaGreatTsZ
import Derived.Test.YteedihhdcbepmaaGreatTs16
import Derived.Test.YteedihhdcbepmaaGreatTsShelfR
set_option maxRecDepth 100000
set_option maxHeartbeats 12800000
set_option linter.all false
open Go.Value renaming slice→vS,int→vI,string→vT
open Go.IntKind renaming i64→i6
open Go.Proofs.Tryz
open Go.Proofs.Tryz renaming prog→tP
namespace Go.Proofs.YteedihhdcbepmaaGreat
open Go Go.RowKit
def tyR (w:World) (B:Nat->Prop) (l:List Ty) (j:Nat) (cs:List Value):Prop:=∃ t,l[j]?=some t/\TyB w B t.1 t.2 cs
theorem tyR.at {w:World}{P B:Nat->Prop}{l:List Ty}{u:Value}{j:Nat}{t:Ty}(h:RowB w P 2 u l.length (tyR w B l)) (ht:l[j]?=some t) :
  ∃ b off cap A c,u=vS (some (aD b off)) l.length cap/\w.cell? (aD b (off+j*2))=some (vS A t.1.length c)/\w.cell? (aD b (off+j*2+1))=some (vI i6 t.2)/\TyB w B t.1 t.2 [vS A t.1.length c,vI i6 t.2]:=by
 have hj:=(Bx.1 ht).1;obtain⟨A',cap,h1,_,h3⟩:=h;obtain⟨b,off,rfl,_,_,h7⟩:=h3 (by omega);obtain⟨cs,_,h9,t',a,hT⟩:=h7 j hj;rw[ht]at a;injection a with a;subst a;have e:=hT;obtain⟨uu,rfl,_,d⟩:=e;obtain⟨A,c,rfl,_⟩:=d.form;exact⟨b,off,cap,A,c,h1,h9 0 (by omega),h9 1 (by omega),hT⟩
theorem tyR.keep {w w':World}{P B:Nat->Prop}{l:List Ty}{u:Value}(h:RowB w P 2 u l.length (tyR w B l)) (hs:Same P w w') (hB:∀ b,B b->P b):RowB w' P 2 u l.length (tyR w' B l):=RowB.keep h hs fun _ _ ⟨t,ht,hT⟩=>⟨t,ht,hT.keep ⟨hs.size,fun b i hb hl=>hs.cell b i (hB b hb) hl⟩⟩
theorem JRow.row {w:World}{B:Nat->Prop}{g n:Nat}{s:List Int}(h:JRow w g s) (hn:s.length=n) (hs:∀ x∈s,i64B x) (hm:n<=maxLen) (hB:B g):RowB w B 1 (vS (some (aD g 0)) n n) s.length (kidR s):=by
 subst hn;refine⟨_,_,rfl,⟨hm,Bc _⟩,fun _=>⟨g,0,rfl,hB,h.lt,fun j hj=>?_⟩⟩;have hx:=By hj;refine⟨[vI i6 s[j]],rfl,fun i hi=>?_,s[j],hx,rfl,hs _ (Cx hj)⟩;obtain rfl:i=0:=by omega
 have:=h.cell hx;simpa using this
theorem zG5 (t:Ty):∀ (l:List Ty) (bs:List Tn),grAll (l++[t]) bs=((gr (fun _=>none) t (grAll l bs).1).1,(grAll l bs).2++[(gr (fun _=>none) t (grAll l bs).1).2]):=by
 intro l
 induction l with
 | nil=>intro bs;rfl
 | cons s l ih=>
  intro bs;rw[Dr];unfold grAll;rw[ih];rfl
theorem zLt {x:Tn}:∀ (l:List Ty) (bs:List Tn),bs[0]?=some x->(grAll l bs).1[0]?=some x:=by
 intro l
 induction l with
 | nil=>intro bs h;exact h
 | cons t l ih=>intro bs h;exact ih _ (zI3 h)
theorem zNs {n:Nat}:∀ (l:List Ty) (bs:List Tn) (m:Nat),(∀ t∈l,WfT t/\SmT n t)->bs.length<=m->(∀ x∈bs,kidOk x)->(grAll l bs).1.length<=m+l.length*n/\(∀ x∈(grAll l bs).1,kidOk x)/\(grAll l bs).2.length=l.length/\∀ k∈(grAll l bs).2,0<=k/\k<=((m+l.length*n:Nat):Int):=by
 intro l
 induction l with
 | nil=>intro bs m _ hb hk;exact⟨by simpa [grAll] using hb,hk,rfl,fun k hk=>by simp[grAll]at hk⟩
 | cons t l ih=>
  intro bs m hl hb hk;have ht:=hl t (Ca ..);have h1:=zKr (f:=fun _=>none) ht.1 ht.2 hb hk;have h2:=zNr (f:=fun _=>none) (bs:=bs) ht.1 (fun s p h=>by cases h);have h3:=ih (gr (fun _=>none) t bs).1 (m+n) (fun t ht=>hl t (C0 _ ht)) h1.1 h1.2;have h4:=ht.2.1;unfold grAll;simp only[Cj,C6,Nat.one_mul];refine⟨by omega,h3.2.1,by rw[h3.2.2.1],fun k hk=>?_⟩;rcases Cs.1 hk with rfl|hk
  ·omega
  ·have:=h3.2.2.2 k hk;omega
def kn0 (kind:Int):Tn:=⟨kind,0,0,[],[],[],0,0⟩
theorem zN8 (kind:Int) (l:List Ty):compT kind l=((grAll l [kn0 kind]).1.set 0 ⟨kind,0,0,[],(grAll l [kn0 kind]).2,[],0,0⟩,0):=rfl
theorem zJ5 {l:List Ty}{Al:Option Addr}{cl H:Nat}(kind:Int) (w:World) (hH:H<=w.heap.size) (hl:RowB w (fun b=>b<w.heap.size) 2 (vS Al l.length cl) l.length (tyR w (fun b=>b<H) l)) (hs:∀ t∈l,SmT 1000000 t) (hn:l.length<=50) (hkd:i64B kind) :
  Calls tP 64 #[vI i6 kind,vS Al l.length cl] w (TyOut 0 w (compT kind (l.map accT))):=by
 obtain⟨la,L⟩:∃ la,la=l.map accT:=⟨_,rfl⟩;rw[<-L];have S:Hid (la=l.map accT/\la.length=l.length/\∀ t∈la,WfT t/\SmT 1000000 t):=xI ⟨L,by rw[L,Bk],fun t ht=>by
  rw[L]at ht;obtain⟨s,aM,rfl⟩:=Cd.1 ht;exact⟨zCi s,zC5 (hs s aM) (by decide)⟩⟩
 clear L;obtain⟨Wa,z⟩:∃ Wa,Wa=((w.alloc (oE none 0 0 0)).alloc (oX kind 0 0 ⟨#[]⟩ none 0 0 none 0 0 0 0)).alloc (.cells #[vS (some (aE w 0)) 1 1] 101 (0,0)):=⟨_,rfl⟩;have ax:bW w Wa:=by rw[z];exact ((yR.alloc lR _).alloc (by simp) _).alloc (by simp;omega) _
 have kR:Wa.heap[w.heap.size]?=some (oE none 0 0 0):=by rw[z,Bp _ _ _ (by simp;omega),Bp _ _ _ (by simp)];exact Bl w _
 have kN:Wa.heap[w.heap.size+1]?=some (oX kind 0 0 ⟨#[]⟩ none 0 0 none 0 0 0 0):=by rw[z,Bp _ _ _ (by simp)];exact zAg _ (by simp)
 have kB:Wa.heap[w.heap.size+1+1]?=some (.cells #[vS (some (aE w 0)) 1 1] 101 (0,0)):=by rw[z];exact zAg _ (by simp)
 have am:Wa.heap.size=w.heap.size+3:=by rw[z];simp
 obtain⟨W0,ap,ak,Q,B⟩:=zDm Wa l.length (by omega);rw[am]at ap ak B;have ay:bW w W0:=ax.trans (Q.mono (by omega));have k0:=(Q.block w.heap.size (by omega)).trans kR;have k1:=(Q.block (w.heap.size+1) (by omega)).trans kN;have k2:=(Q.block (w.heap.size+1+1) (by omega)).trans kB;have f:OwnQ W0 (w.heap.size+1) (vS (some (aE w 0)) 1 1) [[vI i6 kind,vI i6 0,vI i6 0,vT ⟨#[]⟩,vS none 0 0,vS none 0 0,vI i6 0,vI i6 0]]:=by
  refine⟨[vI i6 kind,vI i6 0,vI i6 0,vT ⟨#[]⟩,vS none 0 0,vS none 0 0,vI i6 0,vI i6 0],⟨rfl,.inr ⟨w.heap.size+1,1,_,rfl,Bc _,k1,Bc _,by unfold maxLen;decide,rfl,rfl⟩⟩,fun j x hj=>?_⟩;cases j with
  | zero=>
   simp at hj;subst hj;exact⟨rfl,rfl,fun u hu=>by simp at hu;rcases hu with rfl|rfl|rfl|rfl|rfl|rfl|rfl|rfl<;>rfl⟩
  | succ j=>simp at hj
 have J:NdsB W0 (GD 0 (w.heap.size+4) (w.heap.size+1+1) (vS (some (aE w 0)) 1 1) W0) [[vI i6 kind,vI i6 0,vI i6 0,vT ⟨#[]⟩,vS none 0 0,vS none 0 0,vI i6 0,vI i6 0]] [kn0 kind]:=by
  refine⟨rfl,fun j cs x h1 h2=>?_⟩;cases j with
  | zero=>
   simp at h1 h2;subst h1 h2;exact⟨_,_,rfl,⟨hkd,by show i64B 0;decide,by show i64B 0;decide,by simp[kn0],by show i64B 0;decide,by show i64B 0;decide⟩,RowB.nil ..,RowB.nil ..⟩
  | succ j=>simp at h1
 have HW:Hid (W0.heap[w.heap.size+1+1]?=some (.cells #[(vS (some (aE w 0)) 1 1)] 101 (0,0))/\OwnQ W0 (w.heap.size+1) (vS (some (aE w 0)) 1 1) [[vI i6 kind,vI i6 0,vI i6 0,vT ⟨#[]⟩,vS none 0 0,vS none 0 0,vI i6 0,vI i6 0]]/\NdsB W0 (GD 0 (w.heap.size+4) (w.heap.size+1+1) (vS (some (aE w 0)) 1 1) W0) [[vI i6 kind,vI i6 0,vI i6 0,vT ⟨#[]⟩,vS none 0 0,vS none 0 0,vI i6 0,vI i6 0]] (grAll (la.take 0) [kn0 kind]).1/\JRow W0 (w.heap.size+3) ((grAll (la.take 0) [kn0 kind]).2++List.replicate (l.length-0) 0)/\VK (w.heap.size+1+1) (w.heap.size+3) (some (w.heap.size+1)) W0 W0/\∀ g,Value.ownBlock (vS (some (aE w 0)) 1 1)=some g->g=w.heap.size+1\/W0.heap.size<=g):=xI ⟨k2,f,J,ak,VK.of_below yR,fun g h=>.inl (by simpa [Value.ownBlock] using h.symm)⟩;have HP:=xI (aN hl (aN hs (aN hn (aN ay (aN k0 (aN B hkd))))));rw[z]at ap;clear ax kR kN kB am ak Q ay k0 k1 k2 f J hl hs hkd B z;go_enter func64,ntmps64;go_wp2_with fail
 go_loopw [18] (fun i wr=>∃ (j:Nat) (v:Value) (css:List (List Value)),i=vI i6 j/\j<=l.length/\wr.heap[w.heap.size+1+1]?=some (.cells #[v] 101 (0,0))/\OwnQ wr (w.heap.size+1) v css/\NdsB wr (GD 0 (w.heap.size+4) (w.heap.size+1+1) v wr) css (grAll (la.take j) [kn0 kind]).1/\JRow wr (w.heap.size+3) ((grAll (la.take j) [kn0 kind]).2++List.replicate (l.length-j) 0)/\VK (w.heap.size+1+1) (w.heap.size+3) (some (w.heap.size+1)) W0 wr/\∀ g,Value.ownBlock v=some g->g=w.heap.size+1\/W0.heap.size<=g) (fun i _=>((l.length:Int)-intOf i).toNat)
 case atStart=>exact⟨0,_,_,rfl,Bt _,HW.out⟩
 case round=>
  obtain⟨j,v,css,rfl,hj,hrel⟩:=hrel;have HR:=xI hrel;have o:=zNs (n:=1000000) (la.take j) [kn0 kind] 1 (fun t ht=>S.out.2.2 t (Ey ht)) (by simp) (fun x hx=>by simp at hx;subst hx;exact⟨by simp[kn0],by simp[kn0]⟩);have aa:(la.take j).length=j:=by rw[Bg];have:=S.out.2.1;omega
  rw[aa]at o;have K:=HP.out.2.2.1;have B:=HP.out.2.2.2.2.2.1;have HS:=xI o;have ao:∀ g,v.ownBlock=some g->g≠w.heap.size+1+1/\g≠w.heap.size+3/\w.heap.size<g/\g<wr.heap.size:=fun g hg=>by
   have h1:=(OwnE.ltB hrel.2.1 hg);rcases hrel.2.2.2.2.2 g hg with h|h<;>exact⟨by omega,by omega,by omega,h1.2⟩
  have E:=hrel.2.2.2.2.1.low.size;have ag:∀ b,b<W0.heap.size->b<w.heap.size+1->wr.heap[b]?=W0.heap[b]?:=fun b hb hb2=>hrel.2.2.2.2.1.blk b hb (by omega) (by omega) (fun e=>by injection e with e;omega);have ae:Same (fun b=>b<w.heap.size) w wr:=⟨by have:=HP.out.2.2.2.1.size;omega,fun b i hb _=>Bi ((ag b (by omega) (by omega)).trans (HP.out.2.2.2.1.block b (by omega)))⟩;have HO:=xI (aN ao (aN E (aN ag (aN B (aN K aa)))));clear hrel o ao E ag K B aa;by_cases hlt:j<l.length
  ·have mp:(j:Int)<(l.length:Int):=by omega
   have m0:(0:Int)<=(j:Int):=by omega
   have a0:IntKind.i64.wrap ((j:Int)+1)=(j:Int)+1:=Br _ (by have:=HO.out.2.2.2.2.1;omega);have ht:=By hlt;have G:=Cx hlt;generalize l[j]=t at ht G;obtain⟨ta,ad⟩:∃ ta,ta=accT t:=⟨_,rfl⟩;have R:la.take (j+1)=la.take j++[ta]:=by rw[Cr,S.out.1,Ch,ht,ad];rfl
   have aI:=xI R;obtain⟨bl,ol,aY,A,c,hu,e0,e1,aB⟩:=tyR.at (tyR.keep HP.out.1 ae fun b hb=>by omega) ht;injection hu with hA hq1 hq2;clear hq1;subst hA hq2;obtain⟨X,hX,C,kX,an⟩:=aW wr (oE A t.1.length c t.2)
   have hO:=HO.out;have hR:=HR.out;have hc:=zEl (ns:=t.1) (root:=t.2) (H:=H) (Z:=w.heap.size+4) (bb:=w.heap.size+1+1) (base:=w.heap.size+1) (v:=v) (css:=css) (bs:=(grAll (la.take j) [kn0 kind]).1) X (aB.keep (Same.of_below C fun b hb=>by omega)) (HP.out.2.1 t G).1 (HP.out.2.1 t G).2 ⟨by omega,by omega,by omega,by omega⟩ (fun e=>(hO.1 _ e).1 rfl) (by omega) ((C.block _ (by omega)).trans hR.1) (OwnE.stay zBs hR.2.1 fun g _ hl=>C.block g hl) ((hR.2.2.1.keep (Same.of_below C fun b hb=>hb.1)).sub fun b hb=>⟨by have:=hb.1;omega,hb.2⟩) (by
    have h1:=hR.2.2.1.1;have h2:=HS.out.1;omega)
   rw[show accT (t.1,t.2)=ta from ad.symm]at hc;obtain⟨x0,x1⟩:=zAf kX;rw[hX]at x0 x1;have HX:=xI (aN C (aN an G));clear C kX an G ht ad R aB hO hR ae;go_wp2_with fail;rw[<-hX];clear hX x0 x1 e0 e1;refine hc.mono ?_;rintro e w5 ⟨rfl,v5,css5,hG⟩;clear hc;have hO:=HO.out;have hR:=HR.out;have W:JRow w5 (w.heap.size+3) ((grAll (la.take j) [kn0 kind]).2++List.replicate (l.length-j) 0):=hR.2.2.2.1.on ((hG.vk.blk _ (by have:=HX.out;omega) (by omega) (by omega) (fun e=>(hO.1 _ e).2.1 rfl)).trans (HX.out.1.block _ (by omega)));have M:=HS.out.2.2.1;obtain⟨pv,aP⟩:=W.has (k:=j) (by rw[Bd,D8];omega);have aQ:=W.froz j;obtain⟨V,hV⟩:∃ V,V=w5.setCell (aD (w.heap.size+3) j) (vI i6 (gr (fun _=>none) ta (grAll (la.take j) [kn0 kind]).1).2):=⟨_,rfl⟩;have d:∀ b,b≠w.heap.size+3->V.heap[b]?=w5.heap[b]?:=fun b hb=>by rw[hV];exact Bq _ (aD _ j) b _ hb
   have U:V.heap.size=w5.heap.size:=by rw[hV];simp
   have aA:Below 0 w5 V:=by rw[hV];exact (Bw 0 w5).setCell (p:=(aD _ j)) (Bt _) _
   have aJ:=hG.vk.low.size;have r:∀ g,v5.ownBlock=some g->g=w.heap.size+1\/W0.heap.size<=g:=fun g hg=>by
    rcases hG.ob g hg with h|h
    ·exact hR.2.2.2.2.2 g h
    ·have:=HX.out;exact .inr (by omega)
   have HV:Hid (V.heap[w.heap.size+1+1]?=some (.cells #[v5] 101 (0,0))/\OwnQ V (w.heap.size+1) v5 css5/\NdsB V (GD 0 (w.heap.size+4) (w.heap.size+1+1) v5 V) css5 (grAll (la.take (j+1)) [kn0 kind]).1/\JRow V (w.heap.size+3) ((grAll (la.take (j+1)) [kn0 kind]).2++List.replicate (l.length-(j+1)) 0)/\VK (w.heap.size+1+1) (w.heap.size+3) (some (w.heap.size+1)) W0 V/\∀ g,Value.ownBlock v5=some g->g=w.heap.size+1\/W0.heap.size<=g):=xI (by
    have az:=HX.out;refine⟨(d _ (by omega)).trans hG.box,OwnE.stay zBs hG.own fun g hg _=>d g (by have:=r g hg;omega),?_,?_,hR.2.2.2.2.1.trans (o':=v.ownBlock) ⟨(az.1.mono (Bt _)).trans (hG.vk.low.trans aA),fun b hb h1 h2 h3=>(d b h2).trans ((hG.vk.blk b (by omega) h1 h1 h3).trans (az.1.block b hb))⟩ fun g hg=>?_,r⟩
    ·rw[aI.out,zG5];exact (hG.nds.keep ⟨by omega,fun b i hb _=>Bi (d b (by have:=hb.2.2.2;omega))⟩).sub fun b hb=>⟨by have:=hb.1;omega,hb.2⟩
    ·rw[aI.out,zG5];have hs:=W.set j (gr (fun _=>none) ta (grAll (la.take j) [kn0 kind]).1).2;rw[<-hV,List.set_append_right _ _ (by omega),M,Nat.sub_self,show l.length-j=(l.length-(j+1))+1 by omega,List.replicate_succ,List.set_cons_zero]at hs;simpa using hs
    ·rcases hR.2.2.2.2.2 g hg with h|h
     ·exact .inl (by rw[h])
     ·exact .inr h)
   clear hG W M d U aA aJ r hO hR;go_wp2_with fail;rw[<-hV];clear hV aP aQ
   go_roundw
   case rel=>exact⟨j+1,v5,css5,by go_num,by omega,HV.out⟩
   case measure=>simp[intOf];omega
  ·obtain rfl:j=l.length:=by omega
   have mp:¬ ((l.length:Nat):Int)<(l.length:Int):=by omega
   have hR:=HR.out;have hO:=HO.out;have hS:=HS.out;have ab:la.take l.length=la:=B8 (by have:=S.out.2.1;omega);rw[ab]at hR hS;obtain⟨q1,q2,q3,q4,q5,q6⟩:=hR;rw[Nat.sub_self,List.replicate_zero,Do]at q4;generalize hxs:(grAll la [kn0 kind]).1=xs at *;generalize hks:(grAll la [kn0 kind]).2=ks at *;have Y:xs[0]?=some (kn0 kind):=by rw[<-hxs];exact zLt la _ rfl
   have aj:=q3.1;have aK:0<xs.length:=(Bx.1 Y).1;obtain⟨g,cp,rfl,aU,aR,aT⟩:=OwnE.formG q2 (by omega);have T:=By (l:=css) (i:=0) (by omega);generalize css[0]'(by omega)=cs at T;obtain⟨uk,uf,aS,F,ar,ai⟩:=q3.2 0 cs _ T Y;obtain⟨Ak,ck,aV,_⟩:=ar.form;obtain⟨Af,cf,aX,_⟩:=ai.form;subst aV aX aS;obtain⟨aO,_,_,m,N,_,I⟩:=q2.at8N T;have d4:=m 4 (by decide);have f4:=N 4;simp only[Nat.zero_mul,Dx,D0,D1]at d4;have e3:wr.cell? (aF w 0)=some (vS (some (aD g 0)) css.length cp):=cH q1 0;have au:=hO.1 g rfl;obtain⟨V1,D⟩:∃ V1,V1=wr.setCell (aD g 4) (vS (some (aD (w.heap.size+3) 0)) l.length l.length):=⟨_,rfl⟩;have d:∀ b,b≠g->V1.heap[b]?=wr.heap[b]?:=fun b hb=>by rw[D];exact Bq _ (aD g 4) b _ hb
   have U:V1.heap.size=wr.heap.size:=by rw[D];simp
   have a:=I 4 (vS (some (aD (w.heap.size+3) 0)) l.length l.length) (by decide) rfl;rw[show 0*8+4=4 by rfl,<-D]at a;have aH:JRow V1 (w.heap.size+3) ks:=q4.on (d _ (by omega));have aq:=hS.2.2.1;have aG:RowB V1 (fun b=>b<V1.heap.size/\(b<0\/w.heap.size+1<=b)) 1 (vS (some (aD (w.heap.size+3) 0)) l.length l.length) ks.length (kidR ks):=aH.row aq (fun x hx=>by have:=hS.2.2.2 x hx;have:=hO.2.2.2.2.1;have:=S.out.2.1;exact zB3 (by omega) (by omega)) (by have:=hO.2.2.2.2.1;unfold maxLen;omega) ⟨by omega,.inr (by omega)⟩;have ah:Same (GD 0 (w.heap.size+4) (w.heap.size+1+1) (vS (some (aD g 0)) css.length cp) wr) wr V1:=⟨by omega,fun b i hb _=>Bi (d b fun e=>hb.2.2.1 (by rw[e];rfl))⟩;have af:∀ b,GD 0 (w.heap.size+4) (w.heap.size+1+1) (vS (some (aD g 0)) css.length cp) wr b->b<V1.heap.size/\(b<0\/w.heap.size+1<=b):=fun b hb=>⟨by have:=hb.1;omega,by
    rcases hb.2.2.2 with h|h
    ·exact .inl h
    ·exact .inr (by omega)⟩
   have aC:TnB V1 (fun b=>b<V1.heap.size/\(b<0\/w.heap.size+1<=b)) ⟨kind,0,0,[],ks,[],0,0⟩ [vI i6 kind,vI i6 0,vI i6 0,vT ⟨#[]⟩,vS (some (aD (w.heap.size+3) 0)) l.length l.length,vS Af 0 cf,vI i6 0,vI i6 0]:=⟨_,_,rfl,⟨F.1,F.2.1,F.2.2.1,by simp,F.2.2.2.2⟩,aG,(ai.keep ah fun _ _ h=>h).sub af fun _ _ h=>h⟩;have y:=((q3.keep ah).sub af).set 0 aC;have q:=OwnE.nodes a (B':=fun b=>b<V1.heap.size/\(b<0\/w.heap.size+1<=b)) y (by have h1:=y.1;rw[Ck]at h1;rw[<-h1];have:=hS.1;have:=hO.2.2.2.2.1;unfold maxLen;omega) (fun b hb=>hb) fun b h1 h2=>⟨h2,.inr (by omega)⟩;rw[Ck,<-aj]at q;have O:compT kind la=(xs.set 0 ⟨kind,0,0,[],ks,[],0,0⟩,0):=by rw[zN8,hxs,hks]
   have P:=(d _ (fun e=>au.1 e.symm)).trans q1;have av:=zDh (some (aD g 0)) css.length cp (w.heap.size+1+1) 0 V1 (cH P 0);have al:=(d w.heap.size (by omega)).trans ((hO.2.2.1 w.heap.size (by omega) (by omega)).trans HP.out.2.2.2.2.1);have aw:bW w V1:=by
    have h1:=q5.below (H:=w.heap.size) (by omega) (by omega) (fun g h=>by injection h with h;omega) (by omega);have h2:=HP.out.2.2.2.1.trans h1;rw[D];exact h2.setCell (p:=(aD g 4)) (by show w.heap.size<=g;omega) _
   have HF:=xI (aN q (aN O (aN al (aN aw (aN U (aN hO.2.1 (aN hO.2.2.2.1 aj)))))));have aZ:Hid (0<css.length):=xI (by omega);have u9:(0:Int)<(css.length:Int):=by have:=aZ.out;omega
   clear q O al aw U q1 q2 q3 q4 q5 q6 P a aH aq aG y aC ah af m N I aO F ar ai T Y aK aj aU aR aT au d hO hS hxs hks ae HS HR HO HW;go_wp2_with fail;rw[<-D];clear D d4 f4 e3;refine av.mono ?_;rintro e w2 ⟨rfl,hb2⟩;clear av;have h9:=HF.out.2.2.2.2;have kz:=(hb2.block w.heap.size (by omega)).trans HF.out.2.2.1;have f0:=Bz kz 0;have f1:=Bz kz 1;have c0:=cH kz 0;have c1:=cH kz 1;have HB:=xI hb2;have H9:=xI h9;clear hb2 h9;go_wp2;have h9:=H9.out;have a1:=HB.out.size;refine ret2s kz rfl rfl rfl fun V hz hbb hl=>⟨⟨some (aD g 0),cp,?_,?_⟩,?_⟩
   ·rw[HF.out.2.1,h9.2.2.2];simp
   ·have aL:TyB V1 (fun b=>b<V1.heap.size/\(b<0\/w.heap.size+1<=b)) (xs.set 0 ⟨kind,0,0,[],ks,[],0,0⟩) 0 [vS (some (aD g 0)) css.length cp,vI i6 0]:=⟨_,rfl,by show i64B 0;decide,by rw[Ck,<-h9.2.2.2];exact HF.out.1⟩;rw[HF.out.2.1];simp only[Ck];rw[<-h9.2.2.2];refine (aL.keep (w':=V) ⟨by omega,fun b i hb2 hl2=>Bi ((hbb b (by rcases hb2.2 with h|h<;>omega)).trans (HB.out.block b hl2))⟩).sub fun b hb2=>?_;rcases hb2.2 with h|h
    ·exact .inl h
    ·exact .inr ⟨by omega,by have:=hb2.1;omega⟩
   ·exact (HF.out.2.2.2.1.trans (HB.out.mono (by omega))).trans (hl _ lR)
def conT (kind:Int) (o:Ty) (l:List Ty):Ty:=match l with
 | []=>o
 | [t]=>pruT t
 | l=>compT kind (l.map accT)
theorem TyOut.up {H H':Nat}{w:World}{t:Ty}{e:Ending}{w':World}(h:TyOut H w t e w') (hH:H<=H'):TyOut H' w t e w':=by
 obtain⟨⟨A,c,h1,h2⟩,h3⟩:=h;exact⟨⟨A,c,h1,h2.sub fun b hb=>Bo.up hH hb⟩,h3⟩
def TyOZ (H Z:Nat) (w:World) (t:Ty) (e:Ending) (w':World):Prop:=(∃ A c,e=.returned (.agg #[vS A t.1.length c,vI i6 t.2])/\TyB w' (fun b=>(b<H\/Z<=b)/\b<w'.heap.size) t.1 t.2 [vS A t.1.length c,vI i6 t.2])/\bW w w'
theorem TyOut.oz {H Z:Nat}{w V:World}{ns:List Tn}{r:Int}{cs:List Value}(h:TyB V (Bo H w V) ns r cs) (hw:w.heap.size<=V.heap.size) (hZ:Z<=w.heap.size) (hH:H<=w.heap.size):TyB V (fun b=>(b<H\/Z<=b)/\b<V.heap.size) ns r cs:=h.sub fun b hb=>by
 rcases hb with h|h
 ·exact⟨.inl h,by omega⟩
 ·exact⟨.inr (by omega),h.2⟩
theorem zJ4 {l:List Ty}{Al Ao:Option Addr}{cl co H Z:Nat}(kind:Int) (o:Ty) (w:World) (hH:H<=w.heap.size) (hZ:Z<=w.heap.size) (ho:TyB w (fun b=>(b<0\/Z<=b)/\b<w.heap.size) o.1 o.2 [vS Ao o.1.length co,vI i6 o.2]) (hl:RowB w (fun b=>b<w.heap.size) 2 (vS Al l.length cl) l.length (tyR w (fun b=>b<H) l)) (hs:∀ t∈l,SmT 1000000 t) (hn:l.length<=50) (hkd:i64B kind) :
  Calls tP 77 #[vI i6 kind,.agg #[vS Ao o.1.length co,vI i6 o.2],vS Al l.length cl] w (TyOZ 0 Z w (conT kind o l)):=by
 obtain⟨W,hW⟩:∃ W,W=(w.alloc (oE Ao o.1.length co o.2)).alloc (oE none 0 0 0):=⟨_,rfl⟩;have hb:bW w W:=by rw[hW];exact (yR.alloc lR _).alloc (by simp) _
 have k0:W.heap[w.heap.size]?=some (oE Ao o.1.length co o.2):=by rw[hW,Bp _ _ _ (by simp)];exact Bl w _
 have kR:W.heap[w.heap.size+1]?=some (oE none 0 0 0):=by rw[hW];exact zAg _ (by simp)
 have d:W.heap.size=w.heap.size+2:=by rw[hW];simp
 have g:True:=trivial;have a:RowB W (fun b=>b<W.heap.size) 2 (vS Al l.length cl) l.length (tyR W (fun b=>b<H) l):=(tyR.keep hl (Same.of_below hb fun b hb=>hb) fun b hb=>by omega).sub (fun b hb=>by omega) fun _ _ h=>h
 match l,hs,hn,a with
 | [],hs,hn,a=>
  obtain⟨e0,e1⟩:=zAf k0;obtain⟨r0,r1⟩:=zAf kR;have f0:=Bz kR 0;have f1:=Bz kR 1;rw[hW]at e0 e1 r0 r1 f0 f1;have HP:=xI (aN ho hb);have HW:=xI hW;clear g hb kR d hl a hs hn k0 ho;simp only[Cl];clear hW;go_enter func77,ntmps77;go_wp2_with fail;refine nW fun V hV=>?_;have i:bW w V:=by rw[hV];exact (yR.alloc lR _).alloc (by simp) _
  have kV:V.heap[w.heap.size+1]?=some (oE Ao o.1.length co o.2):=by rw[hV];exact zAg _ (by simp)
  exact ret2 kV rfl rfl rfl ⟨⟨_,_,rfl,(HP.out.1.keep (Same.of_below i fun b hb=>hb.2)).sub fun b h=>⟨h.1,by have:=i.size;have:=h.2;omega⟩⟩,i⟩
 | [t],hs,hn,a=>
  obtain⟨bl,ol,n,A,c,hu,e0,e1,k⟩:=tyR.at a (j:=0) rfl;injection hu with hA hq1 hq2;clear hq1;subst hA hq2;simp only[Nat.zero_mul,Ds]at e0 e1;have hc:=zM0 W (by omega) k (hs t (by simp));have p:=hs t (by simp);rw[hW]at e0 e1;clear g hl a k k0 ho;simp only[Cj,Cl,Dx];go_enter func77,ntmps77;go_wp2_with fail;rw[<-hW];clear hW e0 e1;refine hc.mono ?_;clear hc;rintro e w2 ⟨⟨A2,c2,rfl,hT2⟩,hb2⟩;have kz:=(hb2.block (w.heap.size+1) (by omega)).trans kR;have f0:=Bz kz 0;have f1:=Bz kz 1;have c0:=cH kz 0;have c1:=cH kz 1;have HB:=xI (aN hT2 (aN hb2 (aN hb d)));clear hT2 hb2 d hb;go_wp2;exact ret2s kz rfl rfl rfl fun V hz hbb hl=>⟨⟨_,_,rfl,TyOut.oz (H:=0) (w:=w) (V:=V) (TyOut.put HB.out.1 (by have:=HB.out;omega) (by have:=HB.out;omega) (by have:=HB.out;omega) hz hbb) (by have h1:=HB.out;have h2:=h1.2.1.size;omega) hZ (Bt _)⟩,(HB.out.2.2.1.trans (HB.out.2.1.mono (by have:=HB.out;omega))).trans (hl _ (by omega))⟩
 | t1::t2::l,hs,hn,a=>
  have hc:=zJ5 kind W (by omega) a hs hn hkd;have r:¬ (((t1::t2::l).length:Nat):Int)=0:=by simp;omega
  have q:¬ (((t1::t2::l).length:Nat):Int)=1:=by simp;omega
  have f:conT kind o (t1::t2::l)=compT kind ((t1::t2::l).map accT):=rfl;rw[f];clear g hl a k0 ho f hs hn;generalize compT kind ((t1::t2::l).map accT)=res at *;generalize (t1::t2::l).length=m at *;go_enter func77,ntmps77;go_wp2_with fail;rw[<-hW];clear hW;refine hc.mono ?_;clear hc;rintro e w2 ⟨⟨A2,c2,rfl,hT2⟩,hb2⟩;have kz:=(hb2.block (w.heap.size+1) (by omega)).trans kR;have f0:=Bz kz 0;have f1:=Bz kz 1;have c0:=cH kz 0;have c1:=cH kz 1;have HB:=xI (aN hT2 (aN hb2 (aN hb d)));clear hT2 hb2 d hb;go_wp2;exact ret2s kz rfl rfl rfl fun V hz hbb hl=>⟨⟨_,_,rfl,TyOut.oz (H:=0) (w:=w) (V:=V) (TyOut.put HB.out.1 (by have:=HB.out;omega) (by have:=HB.out;omega) (by have:=HB.out;omega) hz hbb) (by have h1:=HB.out;have h2:=h1.2.1.size;omega) hZ (Bt _)⟩,(HB.out.2.2.1.trans (HB.out.2.1.mono (by have:=HB.out;omega))).trans (hl _ (by omega))⟩
theorem zMk {l:List Ty}{Al:Option Addr}{cl H:Nat}(w:World) (hH:H<=w.heap.size) (hl:RowB w (fun b=>b<w.heap.size) 2 (vS Al l.length cl) l.length (tyR w (fun b=>b<H) l)) (hs:∀ t∈l,SmT 1000000 t) (hn:l.length<=50) :
  Calls tP 33 #[vS Al l.length cl] w (TyOut 0 w (conT 16 noneT l)):=by
 obtain⟨W,hW,hb,kR,c⟩:=aW w (oE none 0 0 0)
 have hc:=zFg W;have HP:=xI (aN hl (aN hs (aN hn (aN hb kR))));clear hl hs hn hb kR;go_enter func33,ntmps33;go_wp2_with fail;rw[<-hW];clear hW;refine hc.mono ?_;rintro e w1 ⟨⟨Ao,co,rfl,hTo⟩,hb1⟩;clear hc;have a:bW w w1:=HP.out.2.2.2.1.trans (hb1.mono (by omega));have hc:=zJ4 (H:=H) (Z:=w.heap.size+1) 16 noneT w1 (by have:=a.size;omega) (by have:=hb1.size;omega) (hTo.sub fun b hb=>by
  rcases hb with h|h
  ·omega
  ·exact⟨.inr (by omega),h.2⟩) ((tyR.keep HP.out.1 (Same.of_below a fun b hb=>hb) fun b hb=>by omega).sub (fun b hb=>by have:=a.size;omega) fun _ _ h=>h) HP.out.2.1 HP.out.2.2.1 (by decide)
 have HB:=xI (aN a (aN hb1 c));clear hTo a hb1 c;go_wp2_with fail;refine hc.mono ?_;clear hc;rintro e w2 ⟨⟨A2,c2,rfl,hT2⟩,hb2⟩;have kz:=(hb2.block w.heap.size (by have:=HB.out.2.1.size;have:=HB.out.2.2;omega)).trans ((HB.out.2.1.block w.heap.size (by have:=HB.out.2.2;omega)).trans HP.out.2.2.2.2);have f0:=Bz kz 0;have f1:=Bz kz 1;have c0:=cH kz 0;have c1:=cH kz 1;have HC:=xI (aN hT2 hb2);clear hT2 hb2;go_wp2;refine ret2s kz rfl rfl rfl fun V hz hbb hl=>⟨⟨_,_,rfl,?_⟩,(HB.out.1.trans (HC.out.2.mono HB.out.1.size)).trans (hl _ lR)⟩;refine (HC.out.1.keep (w':=V) ⟨by omega,fun b i hb2 _=>Bi (hbb b (by rcases hb2.1 with h|h<;>omega))⟩).sub fun b hb2=>?_;rcases hb2.1 with h|h
 ·exact .inl h
 ·exact .inr ⟨by omega,by have:=hb2.2;omega⟩
end Go.Proofs.YteedihhdcbepmaaGreat
namespace Go.Proofs.YteedihhdcbepmaaGreat.Iv
open Go.RowKit
theorem zL1 (a:Addr) (c:Nat) (w:World) :
  Calls tP 102 #[vS (some a) 0 c] w fun e w'=>∃ v',e=.returned v'/\OwnR w' w.heap.size v' []/\bW w w':=by
 obtain⟨i0,hi,f,d,b⟩:=Cp Tryz.infoR;have g:∀ (w:World) (a:Option Addr) (n c n' c':Nat),(binOp .eql 44 (vS a n c) (vS none n' c')).run tP w=.ok (.bool a.isNone) w:=fun w a n c n' c'=>Lib.run_eql_slice_nil w _ _ a n c n' c' underlying44;go_enter func102,ntmps102;go_wp2_with (at_builtin;refine wpList_append_own _ rfl _ _ 44 rfl w.heap.size 83 i0 (.agg #[vI i6 0,vI i6 0]) 2 16 underlying44 hi f d b rfl (by decide) _ _ _ rfl (World.ownsRow_made w #[] 0 lR (Bt _) rfl) a 0 c [] rfl rfl (by intro j u hj;simp at hj) (by intro u hu;cases hu) (by unfold maxLen;omega) (by omega) (by simp) ?_);intro v' w1 hown hgrow hnil;go_wp2;go_ret;refine⟨v',rfl,?_,?_⟩
 ·have:w1.ownsRow w.heap.size 83 2 v' 0 []:=by simpa using hown
  exact this
 ·exact ((Bw _ w).alloc lR _).grown hgrow (by simp) (by intro k hk;simp[Value.ownBlock]at hk;omega)
theorem zQn {w:World}{b off:Nat}{rs:List Rg}(h:∀ j r,rs[j]?=some r->w.cell? (aD b (off+j*2))=some (vI i6 r.1)/\w.cell? (aD b (off+j*2+1))=some (vI i6 r.2)) :
  ∀ j u,(flatR rs)[j]?=some u->w.cell? (aD b (off+j))=some u:=by
 intro j u hj;have hl:j<rs.length*2:=by
  have:=(Bx.1 hj).1
  rwa [zAm]at this
 have hx:rs[j / 2]?=some (rs[j / 2]'(by omega)):=By _;have h1:=zC2 rs _ _ hx;have h2:=zDp rs _ _ hx;have hc:=h _ _ hx;rcases Nat.mod_two_eq_zero_or_one j with e|e
 ·have:j / 2*2=j:=by omega
  rw[this]at h1 hc;rw[h1]at hj;exact hc.1.trans hj
 ·have:j / 2*2+1=j:=by omega
  rw[Da,this]at hc;rw[this]at h2;rw[h2]at hj;exact hc.2.trans hj
theorem zOd (A:Option Addr) (n cap:Nat) (rs:List Rg) (w:World) (B:Nat) (hR:RngS w B A n rs) (hn:n<=1000000000) :
  Calls tP 102 #[vS A n cap] w fun e w'=>∃ v',e=.returned v'/\OwnR w' w.heap.size v' rs/\bW w w':=by
 rcases Dz n with h0|h0
 ·have hr:rs=[]:=Cf (hR.1.symm.trans h0);subst hr;subst h0;rcases A with _|a
  ·have:=AnyE.slices_Clone_nil Tryz.cloneR 0 cap w;change Calls tP 102 _ _ _ at this;exact this.mono fun e w' ⟨he,hw⟩=>⟨_,he,OwnR.nil _ _,by rw[hw];exact Bw _ _⟩
  ·exact zL1 a cap w
 ·obtain⟨b,c,rfl,hb,hc⟩:=hR.2.2 h0;obtain⟨i0,hi,g,f,d⟩:=Cp Tryz.infoR;have:=AnyE.slices_Clone Tryz.cloneR i0 (.agg #[vI i6 0,vI i6 0]) 2 16 hi g f d rfl (by decide) sizeOf83 b c n cap (flatR rs) w (by rw[zAm,<-hR.1]) (by unfold maxLen;omega) (by omega) (zQn hc) (zEp rs);change Calls tP 102 _ _ _ at this;refine this.mono fun e w' ⟨v',he,ho,_,hbl⟩=>⟨v',he,?_,hbl⟩;unfold OwnR;rw[<-hR.1];exact ho
theorem zF8:∀ (l:List Rg) (j:Nat) (r:Rg),((flatR l).set (j*2) (vI i6 r.1)).set (j*2+1) (vI i6 r.2)=flatR (l.set j r)
 | [],j,r=>by simp[flatR]
 | x::l,0,r=>by
  rw[zAx];show vI i6 r.1::vI i6 r.2::flatR l=flatR (r::l);rw[zAx]
 | x::l,j+1,r=>by
  rw[zAx,show (j+1)*2+1=(j*2+1)+1+1 by omega,show (j+1)*2=j*2+1+1 by omega];rw[Df,Df,Df,Df,zF8 l j r,Df,zAx]
theorem zG7:∀ (l:List Rg) (i:Nat),(flatR l).take (i*2)=flatR (l.take i)
 | l,0=>by simp[flatR]
 | [],i+1=>by simp[flatR]
 | x::l,i+1=>by
  rw[List.take_succ_cons,zAx,zAx,show (i+1)*2=i*2+1+1 by omega,List.take_succ_cons,List.take_succ_cons,zG7 l i]
section
variable {w:World}{B g n cap:Nat}{rs:List Rg}
theorem OwnR.formG {v:Value}(h:OwnR w B v rs) (h0:0<rs.length):∃ g c,v=vS (some (aD g 0)) rs.length c/\B<=g/\g<w.heap.size/\rs.length<=c:=by
 have hl:=h.lt;rcases h.2 with⟨rfl,hz⟩|⟨g,cap,b,rfl,hB,hg,a,_⟩
 ·omega
 ·exact⟨g,cap,rfl,hB,(hl g rfl).2,a⟩
theorem OwnR.lo (h:OwnR w B (vS (some (aD g 0)) n cap) rs) (hn:rs.length=n){j:Nat}{r:Rg}(hj:rs[j]?=some r):w.cell? (aD g (j*2))=some (vI i6 r.1):=by
 subst hn;have a:=(Bx.1 hj).1;rw[World.ownsRow.cellAt h (j*2) (by omega),zC2 rs j r hj]
theorem OwnR.hi (h:OwnR w B (vS (some (aD g 0)) n cap) rs) (hn:rs.length=n){j:Nat}{r:Rg}(hj:rs[j]?=some r):w.cell? (aD g (j*2+1))=some (vI i6 r.2):=by
 subst hn;have a:=(Bx.1 hj).1;rw[World.ownsRow.cellAt h (j*2+1) (by omega),zDp rs j r hj]
theorem OwnR.free (h:OwnR w B (vS (some (aD g 0)) n cap) rs) (hn:rs.length=n) (j:Nat):w.frozen? (aD g j)=false:=by
 subst hn;exact World.ownsRow.frozenAt h j
theorem OwnR.set (h:OwnR w B (vS (some ⟨g,0,none⟩) n cap) rs) (hn:rs.length=n) (j:Nat) (r:Rg) :
  OwnR ((w.setCell ⟨g,j*2,none⟩ (vI i6 r.1)).setCell ⟨g,j*2+1,none⟩ (vI i6 r.2)) B (vS (some ⟨g,0,none⟩) n cap) (rs.set j r):=by
 subst hn;unfold OwnR;rw[Ck,<-zF8];exact (World.ownsRow.stored (World.ownsRow.stored h (j*2) (vI i6 r.1)).1 (j*2+1) (vI i6 r.2)).1
theorem OwnR.setHi (h:OwnR w B (vS (some ⟨g,0,none⟩) n cap) rs) (hn:rs.length=n) (j:Nat) (r:Rg) (y:Int) (hj:rs[j]?=some r) :
  OwnR (w.setCell ⟨g,j*2+1,none⟩ (vI i6 y)) B (vS (some ⟨g,0,none⟩) n cap) (rs.set j (r.1,y)):=by
 subst hn;unfold OwnR;rw[Ck,<-zF8];have e:(flatR rs).set (j*2) (vI i6 r.1)=flatR rs:=by
  have h1:=zC2 rs j r hj;apply Dq;intro i;rw[Er];split
  ·rename_i hi;subst hi;rw[h1];split
   ·rfl
   ·rename_i hh;exact absurd (Bx.1 h1).1 hh
  ·rfl
 simp only;rw[e];exact (World.ownsRow.stored h (j*2+1) (vI i6 y)).1
end
theorem zGp (n:Nat):(Builtin.zeroCells #[vI i6 0,vI i6 0] n).toList=flatR (List.replicate n (0,0)):=by
 apply Dq;intro j;by_cases hj:j<n*2
 ·have hx:(List.replicate n ((0:Int),(0:Int)))[j / 2]?=some (0,0):=by rw[Eh];simp;omega
  have h1:=zC2 _ _ _ hx;have h2:=zDp _ _ _ hx;have e1:(Builtin.zeroCells #[vI i6 0,vI i6 0] n).toList[j]?=some (vI i6 0):=by
   simp[Builtin.zeroCells,hj];rcases Nat.mod_two_eq_zero_or_one j with e|e<;>rw[e]<;>rfl
  rw[e1];rcases Nat.mod_two_eq_zero_or_one j with e|e
  ·rw[show j / 2*2=j by omega]at h1;exact h1.symm
  ·rw[show j / 2*2+1=j by omega]at h2;exact h2.symm
 ·rw[Ce (by simp[Builtin.zeroCells];omega),Ce (by rw[zAm];simp;omega)]
theorem zLb {w:World}{B g n cap:Nat}{rs:List Rg}(h:OwnR w B (vS (some (aD g 0)) n cap) rs) (hn:rs.length=n) (i c:Nat) (hi:i<n) :
  ∃ w',(∀ ty,(Builtin.clear_ #[44] ty #[vS (some (aD g (i*2))) (n-i) c]).run tP w=.ok (.tuple #[]) w')/\OwnR w' B (vS (some (aD g 0)) i cap) (rs.take i)/\w.grownBy w' (some g):=by
 subst hn;have hl:(rs.take i).length=i:=by rw[Bg];omega
 rcases h.2 with⟨h',_⟩|⟨g',j,d,h',hb,hg,l,f,o,a⟩
 ·simp at h'
 ·simp only[Value.slice.injEq,Cq,Addr.mk.injEq,and_true,true_and]at h';obtain⟨rfl,rfl⟩:=h';have b:=run_storeCells_at (P:=tP) g (i*2) 83 (flatR (List.replicate (rs.length-i) (0,0))) 0 d w hg (by rw[zAm];simp;omega) (zEp _);simp only[Ds]at b;have hv:=zeroValue83;obtain⟨m,hm⟩:∃ m,rs.length-i=m+1:=⟨rs.length-i-1,by omega⟩;refine⟨w.setRow g (d.toList.take (i*2)++flatR (List.replicate (rs.length-i) (0,0))++d.toList.drop (i*2+(flatR (List.replicate (rs.length-i) (0,0))).length)).toArray,?_,⟨zAm _,.inr ⟨g,cap,_,by rw[hl],hb,setRow_heap w g d _ 83 (0,0) hg,by rw[hl];omega,f,?_,?_⟩⟩,⟨rfl,rfl,rfl,by simp,fun k _ hk=>setRow_other w g k _ (fun e=>hk (by simp[e]))⟩⟩
  ·intro ty;rw[<-zGp]at b;rw[hm]at b ⊢;simp[Builtin.clear_,run_underlying underlying44,hv,Value.cells,b];rw[<-zGp];simp
  ·simp only[Dh,Bd,Bg,Cc,Array.length_toList,zAm,D8];omega
  ·rw[hl,D6];rw[Fk (by simp;omega),List.take_take,Nat.min_self,<-zG7,<-a,List.take_take,show min (i*2) (rs.length*2)=i*2 by omega]
theorem zF6 (A:Option Addr) (n cap:Nat) (rs:List Rg) (w:World) (hR:RngS w w.heap.size A n rs) (hn:n<=1000000000) (h:∀ r∈rs,zBb r=false) :
  Calls tP 147 #[vS A n cap,.func (.func 103) #[] #[]] w fun e w'=>e=.returned (vI i6 (-1))/\bW w w':=by
 have HR:=xI hR;have HE:=xI h;clear hR h;go_enter func147,ntmps147;go_wp2
 go_loopw [5,8] (fun _ i wr=>∃ k:Nat,i=vI i6 k/\k<=n/\bW w wr) (fun _ i _=>n-(intOf i).toNat)
 case atStart=>exact⟨0,rfl,by omega,Bw _ _⟩
 case round=>
  obtain⟨k,rfl,hk,hb⟩:=hrel;by_cases hkn:k<n
  ·obtain⟨b,a,r1,r2,rfl,c,hx,hf,c1,c2⟩:=(HR.out.below hb).at hkn;have q1:=HE.out _ (Bh hx);have hm:=fun w=>zD8 r1 r2 w;rw[q1]at hm;have HX:=xI hx;clear hx q1;go_wp2_with (first|(go_at_call 103;refine (hm _).mono ?_;rintro e w' ⟨rfl,hb1⟩))
   all_goals go_roundw
   case rel=>exact⟨k+1,by go_num,by omega,hb.trans (hb1.mono hb.size)⟩
   case measure=>simp[intOf];omega
  ·go_wp2;go_ret;exact⟨rfl,hb⟩
theorem zF5 (A:Option Addr) (n cap:Nat) (rs:List Rg) (w:World) (m:Nat) (x:Rg) (hR:RngS w w.heap.size A n rs) (hn:n<=1000000000) (hx:rs[m]?=some x) (hxe:zBb x=true) (h:∀ j r,j<m->rs[j]?=some r->zBb r=false) :
  Calls tP 147 #[vS A n cap,.func (.func 103) #[] #[]] w fun e w'=>e=.returned (vI i6 m)/\bW w w':=by
 have d:m<n:=by have:=(Bx.1 hx).1;rw[hR.1];exact this
 have HR:=xI hR;have HE:=xI h;have HM:=xI hx;clear hR h hx;go_enter func147,ntmps147;go_wp2
 go_loopw [5,8] (fun _ i wr=>∃ k:Nat,i=vI i6 k/\k<=m/\bW w wr) (fun _ i _=>n-(intOf i).toNat)
 case atStart=>exact⟨0,rfl,by omega,Bw _ _⟩
 case round=>
  obtain⟨k,rfl,hk,hb⟩:=hrel;have a:k<n:=by omega
  obtain⟨b,c,r1,r2,rfl,f,hx,hf,c1,c2⟩:=(HR.out.below hb).at a;have hm:=fun w=>zD8 r1 r2 w;by_cases hkm:k<m
  ·have q1:=HE.out k _ hkm hx;rw[q1]at hm;have HX:=xI hx;clear hx q1;go_wp2_with (first|(go_at_call 103;refine (hm _).mono ?_;rintro e w' ⟨rfl,hb1⟩))
   all_goals go_roundw
   case rel=>exact⟨k+1,by go_num,by omega,hb.trans (hb1.mono hb.size)⟩
   case measure=>simp[intOf];omega
  ·obtain rfl:k=m:=by omega
   have q1:zBb (r1,r2)=true:=by
    have:=HM.out;rw[hx]at this;injection this with this;rw[this];exact hxe
   rw[q1]at hm;have HX:=xI hx;clear hx q1;go_wp2_with (first|(go_at_call 103;refine (hm _).mono ?_;rintro e w' ⟨rfl,hb1⟩))
   all_goals go_ret
   all_goals exact⟨rfl,hb.trans (hb1.mono hb.size)⟩
def neB (r:Rg):Bool:=!zBb r
theorem zF9 {rs:List Rg}(h:∀ r∈rs,zBb r=false):rs.filter neB=rs:=by
 rw[List.filter_eq_self];intro r hr;simp[neB,h r hr]
theorem zJ0 (rs:List Rg):(∀ r∈rs,zBb r=false)\/∃ (m:Nat) (x:Rg),rs[m]?=some x/\zBb x=true/\∀ (j:Nat) (r:Rg),j<m->rs[j]?=some r->zBb r=false:=by
 induction rs with
 | nil=>exact .inl (by simp)
 | cons y l ih=>
  by_cases hy:zBb y=true
  ·exact .inr ⟨0,y,rfl,hy,fun j r hj=>by omega⟩
  ·have a:zBb y=false:=by simpa using hy
   rcases ih with h|⟨m,x,h1,h2,h3⟩
   ·refine .inl ?_;intro r hr;rcases Cs.1 hr with rfl|hr
    ·exact a
    ·exact h r hr
   ·refine .inr ⟨m+1,x,by simpa using h1,h2,?_⟩;intro j r hj hr;cases j with
    | zero=>simp at hr;subst hr;exact a
    | succ j=>exact h3 j r (by omega) (by simpa using hr)
theorem zEz {rs:List Rg}{m:Nat}{x:Rg}(hx:rs[m]?=some x) (hxe:zBb x=true) (h:∀ j r,j<m->rs[j]?=some r->zBb r=false):(rs.take (m+1)).filter neB=rs.take m:=by
 rw[Cr,hx,List.filter_append];have:(rs.take m).filter neB=rs.take m:=by
  refine zF9 fun r hr=>?_;obtain⟨j,hj⟩:=D4.1 hr;rw[List.getElem?_take]at hj;split at hj
  ·exact h j r (by assumption) hj
  ·cases hj
 rw[this];simp[neB,hxe]
theorem zE8 {rs:List Rg}{j:Nat}{x:Rg}(hx:rs[j]?=some x) (hxe:zBb x=false):(rs.take (j+1)).filter neB=(rs.take j).filter neB++[x]:=by
 rw[Cr,hx,List.filter_append];simp[neB,hxe]
theorem zE9 {rs:List Rg}{j:Nat}{x:Rg}(hx:rs[j]?=some x) (hxe:zBb x=true):(rs.take (j+1)).filter neB=(rs.take j).filter neB:=by
 rw[Cr,hx,List.filter_append];simp[neB,hxe]
structure zDy (rs M:List Rg) (i j:Nat):Prop where
 len:M.length=rs.length
 lt:i<j
 le:j<=rs.length
 done:M.take i=(rs.take j).filter neB
 rest:∀ k,j<=k->M[k]?=rs[k]?
theorem zDy.start {rs:List Rg}{m:Nat}{x:Rg}(hx:rs[m]?=some x) (hxe:zBb x=true) (h:∀ j r,j<m->rs[j]?=some r->zBb r=false):zDy rs rs m (m+1):=
 ⟨rfl,by omega,by have:=(Bx.1 hx).1;omega,(zEz hx hxe h).symm,fun _ _=>rfl⟩
theorem zDy.skip {rs M:List Rg}{i j:Nat}{x:Rg}(h:zDy rs M i j) (hx:rs[j]?=some x) (hxe:zBb x=true):zDy rs M i (j+1):=
 ⟨h.len,by have:=h.lt;omega,by have:=(Bx.1 hx).1;omega,by rw[zE9 hx hxe];exact h.done,fun k hk=>h.rest k (by omega)⟩
theorem zDy.keep {rs M:List Rg}{i j:Nat}{x:Rg}(h:zDy rs M i j) (hx:rs[j]?=some x) (hxe:zBb x=false):zDy rs (M.set i x) (i+1) (j+1):=by
 have hl:=h.len;have a:=h.lt;have hj:=(Bx.1 hx).1;refine⟨by simpa using hl,by omega,by omega,?_,?_⟩
 ·rw[zE8 hx hxe,<-h.done,Cr,Ev (by omega),List.take_set_of_le lR];rfl
 ·intro k hk;rw[D3 (by omega)];exact h.rest k (by omega)
theorem bcell {W w1:World}(hb:bW W w1):(∀ b o,b<W.heap.size->w1.cell? (aD b o)=W.cell? (aD b o))/\(∀ b o,b<W.heap.size->w1.frozen? (aD b o)=W.frozen? (aD b o)):=
 ⟨fun b o h=>hb.cell (p:=(aD b o)) h,fun b o h=>hb.frozen (p:=(aD b o)) h⟩
theorem zGo (v:Value) (rs:List Rg) (w:World) (B:Nat) (hO:OwnR w B v rs) (hf:Fit rs) (hB:B<=w.heap.size) (hn:rs.length<=1000000000) :
  Calls tP 101 #[v,.func (.func 103) #[] #[]] w fun e w'=>∃ v',e=.returned v'/\OwnR w' B v' (rs.filter neB)/\Below B w w':=by
 rcases zJ0 rs with h|⟨m,x,hx,hxe,h⟩
 ·obtain⟨A,c,rfl⟩:=hO.form;have hc:=fun w' (hb:bW w w')=>zF6 A rs.length c rs w' ((hO.rng hf).kept hb hb.size) hn h;have HO:=xI hO;have HE:=xI (zF9 h);clear hO h;have d:=hc w yR;clear hc;go_enter func101,ntmps101;go_wp2_with (go_at_call 147;refine d.mono ?_;rintro e w' ⟨rfl,hb⟩)
  all_goals go_ret
  all_goals exact⟨_,rfl,by rw[HE.out];exact HO.out.old hb,hb.mono hB⟩
 ·have a:0<rs.length:=by have:=(Bx.1 hx).1;omega
  have s:m<rs.length:=(Bx.1 hx).1;obtain⟨g,c,rfl,r,H,t⟩:=hO.formG a;have d:=zF5 (some (aD g 0)) rs.length c rs w m x (hO.rng hf) hn hx hxe h;have HS:=xI (zDy.start hx hxe h);have HF:=xI hf;have HO:=xI hO;clear hO h hx hf;obtain⟨n,b⟩:∃ n,n=rs.length:=⟨_,rfl⟩;rw[<-b]at d hn a s t;have HN:=xI b;rw[<-b];have q1:((m:Int)==-1)=false:=by rw[Cm];omega
  clear b;go_enter func101,ntmps101;go_wp2_with (go_at_call 147;refine d.mono ?_;rintro e w' ⟨rfl,hb⟩)
  go_loopw [5,6,7] (fun s5 s6 _ wr=>∃ (i j:Nat) (M:List Rg),s5=vI i6 i/\s6=vI i6 j/\zDy rs M i j/\OwnR wr B (vS (some (aD g 0)) n c) M/\Below B w wr) (fun _ s6 _ _=>n-(intOf s6).toNat)
  case atStart=>exact⟨m,m+1,rs,rfl,by go_num,HS.out,by rw[HN.out];exact HO.out.old hb,hb.mono hB⟩
  case round=>
   obtain⟨i,j,M,rfl,rfl,hI,hM,f⟩:=hrel;have HI:=xI hI;have HM:=xI hM;have u:=hI.lt;have F:j<=n:=by rw[HN.out];exact hI.le
   have HL:Hid (M.length=n):=xI (by rw[HN.out];exact hI.len);have E:=f.size;clear hI hM;have G:g<wr.heap.size:=by omega
   by_cases hlt:j<n
   ·obtain⟨r1,r2,hx⟩:∃ r1 r2,rs[j]?=some (r1,r2):=⟨_,_,By (by have:=HN.out;omega)⟩;have hy:M[j]?=some (r1,r2):=(HI.out.rest j lR).trans hx;have c1:=HM.out.lo HL.out hy;have c2:=HM.out.hi HL.out hy;have HX:=xI hx;clear hx hy;simp only at c1 c2;have hm:=fun w=>zD8 r1 r2 w;cases he:zBb (r1,r2)
    ·rw[he]at hm;have HE:=xI he;clear he;obtain⟨y1,y2,hz⟩:∃ y1 y2,M[i]?=some (y1,y2):=⟨_,_,By (by have:=HL.out;omega)⟩;have d1:=HM.out.lo HL.out hz;have d2:=HM.out.hi HL.out hz;have f1:=HM.out.free HL.out (i*2);have f2:=HM.out.free HL.out (i*2+1);simp only at d1 d2;clear hz;go_wp2_with (go_at_call 103;refine (hm _).mono ?_;rintro e w' ⟨rfl,hb1⟩;refine Hid.out ?_);refine xI ?_;obtain⟨K,I⟩:=bcell hb1;have y:g<wr.heap.size+1:=by omega
     go_wp2
     all_goals go_roundw
     case rel=>
      have q:bW wr w':=(yR.alloc lR _).trans (hb1.mono (by simp));exact⟨i+1,j+1,M.set i (r1,r2),by go_num,by go_num,HI.out.keep HX.out HE.out,(HM.out.old q).set HL.out i (r1,r2),((f.trans (q.mono (by omega))).setCell (p:=(aD g (i*2))) r _).setCell (p:=(aD g (i*2+1))) r _⟩
     case measure=>simp[intOf];omega
    ·rw[he]at hm;have HE:=xI he;clear he;go_wp2_with (go_at_call 103;refine (hm _).mono ?_;rintro e w' ⟨rfl,hb1⟩)
     all_goals go_roundw
     case rel=>exact⟨i,j+1,M,rfl,by go_num,HI.out.skip HX.out HE.out,HM.out.old ((yR.alloc lR _).trans (hb1.mono (by simp))),f.trans (((yR.alloc lR _).trans (hb1.mono (by simp))).mono (by omega))⟩
     case measure=>simp[intOf];omega
   ·obtain rfl:j=n:=by omega
    obtain⟨w2,J,l,o⟩:=zLb HM.out HL.out i (c-i) u;have HT:Hid (M.take i=rs.filter neB):=xI (by rw[HI.out.done,HN.out,B8 lR]);have z:=xI l;have C:=xI o;clear l o;have ic:(i:Int)<=(j:Int):=by omega
    have jc:(j:Int)<=(c:Int):=by omega
    have D:¬ (c=i):=by omega
    go_wp2
    all_goals go_ret
    all_goals exact⟨_,rfl,by rw[<-HT.out];exact z.out,f.grown C.out (by omega) (fun k hk=>by injection hk with hk;omega)⟩
end Go.Proofs.YteedihhdcbepmaaGreat.Iv
namespace Go.Proofs.YteedihhdcbepmaaGreat
open Go Go.RowKit
open Go.Maps Go.WideMaps
def kvS (s:List UInt8):Value:=vT ⟨s.toArray⟩
theorem zRw {x y:List UInt8}(h:kvS x=kvS y):x=y:=by
 unfold kvS at h;injection h with h;injection h with h;injection h
theorem zIz:Keyed tP 9:=string_keyed underlying9
theorem zNk (s:List UInt8) (hs:s.length<=maxLen):∃ l,keyOf tP 9 (kvS s)=some l:=⟨_,keyOf_string_mk underlying9 (s:=⟨s.toArray⟩) (by show s.toArray.size<=maxLen;simpa using hs)⟩
theorem zOn (w:World):(zeroValue 3).run tP w=.ok (vI i6 0) w:=by kernel_rfl
def MapS (w:World) (b n:Nat) (m:List UInt8->Option Int):Prop:=
 ∃ D:DataW Unit,w.ownsMap tP 9 (plainElem tP 3) b n D/\∀ x l,keyOf tP 9 (kvS x)=some l->Maps.has D l=(m x).isSome/\∀ y,m x=some y->∀ z,D.atKey l z=.lit (.int .i64 y)
theorem MapS.lt {w:World}{b n:Nat}{m:List UInt8->Option Int}(h:MapS w b n m):b<w.heap.size:=by
 obtain⟨D,h1,_⟩:=h;exact World.ownsMap.lt h1
theorem MapS.kept {w w':World}{b n:Nat}{m:List UInt8->Option Int}(h:MapS w b n m) (hb:w'.heap[b]?=w.heap[b]?):MapS w' b n m:=by
 obtain⟨D,⟨es,a,hh,F,hs,hD⟩,h2⟩:=h;exact⟨D,⟨es,a,hb.trans hh,F,hs,hD⟩,h2⟩
theorem MapS.made (w:World):MapS (w.alloc (.map #[] 0)) w.heap.size 0 (fun _=>none):=
 ⟨.map [],World.ownsMap_made _ _ _ _,fun x l _=>⟨rfl,fun y hy=>by cases hy⟩⟩
theorem MapS.look {w:World}{b n:Nat}{m:List UInt8->Option Int}(h:MapS w b n m) (x:List UInt8) (hx:x.length<=maxLen) :
  (Instr.lookup 114 (.map (some b)) (vT ⟨x.toArray⟩) true).run tP w=.ok (.tuple #[vI i6 ((m x).getD 0),.bool (m x).isSome]) w:=by
 obtain⟨D,⟨es,g,hb,F,hs,rfl⟩,h2⟩:=h;obtain⟨l,hl⟩:=zNk x hx;obtain⟨g1,g2⟩:=h2 x l hl;rcases Maps.fit_look true zIz underlying114 (zOn w) hb F hl with⟨a,_,d⟩|⟨e0,y,_,_,a,j,d,_⟩
 ·have i:=has_false_of_atKey d;rw[i]at g1;have hn:m x=none:=by cases hm:m x with
   | none=>rfl
   | some y=>rw[hm]at g1;cases g1
  rw[hn];exact a
 ·obtain⟨c,hc,f,_⟩:=plainElem_int_inv underlying3 j;have e:=has_true_of_atKey d;rw[e]at g1;cases hm:m x with
  | none=>rw[hm]at g1;cases g1
  | some y'=>
   have h3:=g2 y' hm (.lit (.int .i64 0));rw[d]at h3;have h4:=congrArg Prod.fst f;rw[h3]at h4;have h5:(DataW.lit (Lit.int .i64 y'):DataW Unit)=.lit (Lit.int .i64 c):=h4;simp only[DataW.lit.injEq,Lit.int.injEq,true_and]at h5;show (Instr.lookup 114 (.map (some b)) (kvS x) true).run tP w=.ok (.tuple #[vI i6 y',.bool true]) w;rw[a,hc,h5];rfl
theorem MapS.put {w:World}{b n:Nat}{m:List UInt8->Option Int}(h:MapS w b n m) (hn:n<maxLen) (x:List UInt8) (hx:x.length<=maxLen) (y:Int) (hy:(Lit.int .i64 y).wf=true) :
  ∃ w',(Instr.mapUpdate 114 (.map (some b)) (vT ⟨x.toArray⟩) (vI i6 y)).run tP w=.ok () w'/\MapS w' b (n+1) (fun z=>if z=x then some y else m z)/\w.grownBy w' (some b):=by
 obtain⟨D,c,h2⟩:=h;obtain⟨l,hl⟩:=zNk x hx;obtain⟨w',d,a,hg⟩:=c.update zIz underlying114 hn hl (plainElem_int underlying3 hy);have hM:=c.isMap;refine⟨w',d,⟨_,a,fun z l' hl'=>?_⟩,hg⟩;dsimp only;by_cases hzx:z=x
 ·subst hzx;rw[hl]at hl';injection hl' with hl';subst hl';rw[if_pos rfl];exact⟨has_put_same hM (zIz.key hl) _,fun y' hy' z'=>by rw[<-Option.some.inj hy'];exact atKey_put_same hM (zIz.key hl) _ _⟩
 ·rw[if_neg hzx];have f:l'≠l:=fun e=>hzx (zRw (zIz.inj (e ▸ hl') hl));rw[has_put_other f];exact⟨(h2 z l' hl').1,fun y' hy' z'=>by rw[atKey_put_other f];exact (h2 z l' hl').2 y' hy' z'⟩
end Go.Proofs.YteedihhdcbepmaaGreat
