/- The program's compose. -/
import Derived.Test.YteedihhdcbepmaaGreatTfZ
import Derived.Test.YteedihhdcbepmaaGreatTf16
import Derived.Test.YteedihhdcbepmaaGreatTfShelfR
import Derived.Shelf.Spec.SlicesGrow
set_option maxRecDepth 100000
set_option maxHeartbeats 12800000
set_option linter.all false
open Go.Value renaming slice→vS,int→vI,string→vT
open Go.IntKind renaming i64→i6
open Go.Proofs.Tryz
open Go.Proofs.Tryz renaming prog→tP
namespace Go.Proofs.YteedihhdcbepmaaGreat
open Go Go.RowKit
theorem zF9 {l:List Ty}{Al:Option Addr}{cl H:Nat}(kind:Int) (w:World) (hH:H<=w.heap.size) (hl:RowB w (fun b=>b<w.heap.size) 2 (vS Al l.length cl) l.length (tyR w (fun b=>b<H) l)) (hs:∀ t∈l,SmT 1000000 t) (hn:l.length<=50) (hkd:i64B kind) :
  Calls tP 64 #[vI i6 kind,vS Al l.length cl] w (TyOut 0 w (compT kind (l.map accT))):=by
 obtain⟨la,L⟩:∃ la,la=l.map accT:=⟨_,rfl⟩;rw[<-L];have S:Hid (la=l.map accT/\la.length=l.length/\∀ t∈la,WfT t/\SmT 1000000 t):=xI ⟨L,by rw[L,Bj],fun t ht=>by
  rw[L]at ht;obtain⟨s,aM,rfl⟩:=Ca.1 ht;exact⟨zD5 s,zFb (hs s aM) (by decide)⟩⟩
 clear L;obtain⟨Wa,z⟩:∃ Wa,Wa=((w.alloc (oE none 0 0 0)).alloc (oX kind 0 0 ⟨#[]⟩ none 0 0 none 0 0 0 0)).alloc (.cells #[vS (some (aE w 0)) 1 1] 101 (0,0)):=⟨_,rfl⟩;have ax:bW w Wa:=by rw[z];exact ((yR.alloc lR _).alloc (by simp) _).alloc (by simp;omega) _
 have kR:Wa.heap[w.heap.size]?=some (oE none 0 0 0):=by rw[z,Bt _ _ _ (by simp;omega),Bt _ _ _ (by simp)];exact Bk w _
 have kN:Wa.heap[w.heap.size+1]?=some (oX kind 0 0 ⟨#[]⟩ none 0 0 none 0 0 0 0):=by rw[z,Bt _ _ _ (by simp)];exact zAf _ (by simp)
 have kB:Wa.heap[w.heap.size+1+1]?=some (.cells #[vS (some (aE w 0)) 1 1] 101 (0,0)):=by rw[z];exact zAf _ (by simp)
 have am:Wa.heap.size=w.heap.size+3:=by rw[z];simp
 obtain⟨W0,ap,ak,Q,B⟩:=zDj Wa l.length (by omega);rw[am]at ap ak B;have ay:bW w W0:=ax.trans (Q.mono (by omega));have k0:=(Q.block w.heap.size (by omega)).trans kR;have k1:=(Q.block (w.heap.size+1) (by omega)).trans kN;have k2:=(Q.block (w.heap.size+1+1) (by omega)).trans kB;have f:OwnQ W0 (w.heap.size+1) (vS (some (aE w 0)) 1 1) [[vI i6 kind,vI i6 0,vI i6 0,vT ⟨#[]⟩,vS none 0 0,vS none 0 0,vI i6 0,vI i6 0]]:=by
  refine⟨[vI i6 kind,vI i6 0,vI i6 0,vT ⟨#[]⟩,vS none 0 0,vS none 0 0,vI i6 0,vI i6 0],⟨rfl,.inr ⟨w.heap.size+1,1,_,rfl,Bb _,k1,Bb _,by unfold maxLen;decide,rfl,rfl⟩⟩,fun j x hj=>?_⟩;cases j with
  | zero=>
   simp at hj;subst hj;exact⟨rfl,rfl,fun u hu=>by simp at hu;rcases hu with rfl|rfl|rfl|rfl|rfl|rfl|rfl|rfl<;>rfl⟩
  | succ j=>simp at hj
 have J:NdsB W0 (GD 0 (w.heap.size+4) (w.heap.size+1+1) (vS (some (aE w 0)) 1 1) W0) [[vI i6 kind,vI i6 0,vI i6 0,vT ⟨#[]⟩,vS none 0 0,vS none 0 0,vI i6 0,vI i6 0]] [kn0 kind]:=by
  refine⟨rfl,fun j cs x h1 h2=>?_⟩;cases j with
  | zero=>
   simp at h1 h2;subst h1 h2;exact⟨_,_,rfl,⟨hkd,by show i64B 0;decide,by show i64B 0;decide,by simp[kn0],by show i64B 0;decide,by show i64B 0;decide⟩,RowB.nil ..,RowB.nil ..⟩
  | succ j=>simp at h1
 have HW:Hid (W0.heap[w.heap.size+1+1]?=some (.cells #[(vS (some (aE w 0)) 1 1)] 101 (0,0))/\OwnQ W0 (w.heap.size+1) (vS (some (aE w 0)) 1 1) [[vI i6 kind,vI i6 0,vI i6 0,vT ⟨#[]⟩,vS none 0 0,vS none 0 0,vI i6 0,vI i6 0]]/\NdsB W0 (GD 0 (w.heap.size+4) (w.heap.size+1+1) (vS (some (aE w 0)) 1 1) W0) [[vI i6 kind,vI i6 0,vI i6 0,vT ⟨#[]⟩,vS none 0 0,vS none 0 0,vI i6 0,vI i6 0]] (grAll (la.take 0) [kn0 kind]).1/\JRow W0 (w.heap.size+3) ((grAll (la.take 0) [kn0 kind]).2++List.replicate (l.length-0) 0)/\VK (w.heap.size+1+1) (w.heap.size+3) (some (w.heap.size+1)) W0 W0/\∀ g,Value.ownBlock (vS (some (aE w 0)) 1 1)=some g->g=w.heap.size+1\/W0.heap.size<=g):=xI ⟨k2,f,J,ak,VK.of_below yR,fun g h=>.inl (by simpa [Value.ownBlock] using h.symm)⟩;have HP:=xI (aN hl (aN hs (aN hn (aN ay (aN k0 (aN B hkd))))));rw[z]at ap;clear ax kR kN kB am ak Q ay k0 k1 k2 f J hl hs hkd B z;go_enter func64,ntmps64;go_wp2_with fail
 go_loopw [18] (fun i wr=>∃ (j:Nat) (v:Value) (css:List (List Value)),i=vI i6 j/\j<=l.length/\wr.heap[w.heap.size+1+1]?=some (.cells #[v] 101 (0,0))/\OwnQ wr (w.heap.size+1) v css/\NdsB wr (GD 0 (w.heap.size+4) (w.heap.size+1+1) v wr) css (grAll (la.take j) [kn0 kind]).1/\JRow wr (w.heap.size+3) ((grAll (la.take j) [kn0 kind]).2++List.replicate (l.length-j) 0)/\VK (w.heap.size+1+1) (w.heap.size+3) (some (w.heap.size+1)) W0 wr/\∀ g,Value.ownBlock v=some g->g=w.heap.size+1\/W0.heap.size<=g) (fun i _=>((l.length:Int)-intOf i).toNat)
 case atStart=>exact⟨0,_,_,rfl,Bq _,HW.out⟩
 case round=>
  obtain⟨j,v,css,rfl,hj,hrel⟩:=hrel;have HR:=xI hrel;have o:=zIj (n:=1000000) (la.take j) [kn0 kind] 1 (fun t ht=>S.out.2.2 t (Ex ht)) (by simp) (fun x hx=>by simp at hx;subst hx;exact⟨by simp[kn0],by simp[kn0]⟩);have aa:(la.take j).length=j:=by rw[Bh];have:=S.out.2.1;omega
  rw[aa]at o;have K:=HP.out.2.2.1;have B:=HP.out.2.2.2.2.2.1;have HS:=xI o;have ao:∀ g,v.ownBlock=some g->g≠w.heap.size+1+1/\g≠w.heap.size+3/\w.heap.size<g/\g<wr.heap.size:=fun g hg=>by
   have h1:=(OwnE.ltB hrel.2.1 hg);rcases hrel.2.2.2.2.2 g hg with h|h<;>exact⟨by omega,by omega,by omega,h1.2⟩
  have E:=hrel.2.2.2.2.1.low.size;have ag:∀ b,b<W0.heap.size->b<w.heap.size+1->wr.heap[b]?=W0.heap[b]?:=fun b hb hb2=>hrel.2.2.2.2.1.blk b hb (by omega) (by omega) (fun e=>by injection e with e;omega);have ae:Same (fun b=>b<w.heap.size) w wr:=⟨by have:=HP.out.2.2.2.1.size;omega,fun b i hb _=>Bg ((ag b (by omega) (by omega)).trans (HP.out.2.2.2.1.block b (by omega)))⟩;have HO:=xI (aN ao (aN E (aN ag (aN B (aN K aa)))));clear hrel o ao E ag K B aa;by_cases hlt:j<l.length
  ·have mp:(j:Int)<(l.length:Int):=by omega
   have m0:(0:Int)<=(j:Int):=by omega
   have a0:IntKind.i64.wrap ((j:Int)+1)=(j:Int)+1:=Br _ (by have:=HO.out.2.2.2.2.1;omega);have ht:=Bw hlt;have G:=Cv hlt;generalize l[j]=t at ht G;obtain⟨ta,ad⟩:∃ ta,ta=accT t:=⟨_,rfl⟩;have R:la.take (j+1)=la.take j++[ta]:=by rw[Ct,S.out.1,Cg,ht,ad];rfl
   have aI:=xI R;obtain⟨bl,ol,aY,A,c,hu,e0,e1,aB⟩:=tyR.at (tyR.keep HP.out.1 ae fun b hb=>by omega) ht;injection hu with hA hq1 hq2;clear hq1;subst hA hq2;obtain⟨X,hX,C,kX,an⟩:=aW wr (oE A t.1.length c t.2)
   have hO:=HO.out;have hR:=HR.out;have hc:=zFz (ns:=t.1) (root:=t.2) (H:=H) (Z:=w.heap.size+4) (bb:=w.heap.size+1+1) (base:=w.heap.size+1) (v:=v) (css:=css) (bs:=(grAll (la.take j) [kn0 kind]).1) X (aB.keep (Same.of_below C fun b hb=>by omega)) (HP.out.2.1 t G).1 (HP.out.2.1 t G).2 ⟨by omega,by omega,by omega,by omega⟩ (fun e=>(hO.1 _ e).1 rfl) (by omega) ((C.block _ (by omega)).trans hR.1) (OwnE.stay zB8 hR.2.1 fun g _ hl=>C.block g hl) ((hR.2.2.1.keep (Same.of_below C fun b hb=>hb.1)).sub fun b hb=>⟨by have:=hb.1;omega,hb.2⟩) (by
    have h1:=hR.2.2.1.1;have h2:=HS.out.1;omega)
   rw[show accT (t.1,t.2)=ta from ad.symm]at hc;obtain⟨x0,x1⟩:=zAh kX;rw[hX]at x0 x1;have HX:=xI (aN C (aN an G));clear C kX an G ht ad R aB hO hR ae;go_wp2_with fail;rw[<-hX];clear hX x0 x1 e0 e1;refine hc.mono ?_;rintro e w5 ⟨rfl,v5,css5,hG⟩;clear hc;have hO:=HO.out;have hR:=HR.out;have W:JRow w5 (w.heap.size+3) ((grAll (la.take j) [kn0 kind]).2++List.replicate (l.length-j) 0):=hR.2.2.2.1.on ((hG.vk.blk _ (by have:=HX.out;omega) (by omega) (by omega) (fun e=>(hO.1 _ e).2.1 rfl)).trans (HX.out.1.block _ (by omega)));have M:=HS.out.2.2.1;obtain⟨pv,aP⟩:=W.has (k:=j) (by rw[Bd,Dm];omega);have aQ:=W.froz j;obtain⟨V,hV⟩:∃ V,V=w5.setCell (aD (w.heap.size+3) j) (vI i6 (gr (fun _=>none) ta (grAll (la.take j) [kn0 kind]).1).2):=⟨_,rfl⟩;have d:∀ b,b≠w.heap.size+3->V.heap[b]?=w5.heap[b]?:=fun b hb=>by rw[hV];exact Bp _ (aD _ j) b _ hb
   have U:V.heap.size=w5.heap.size:=by rw[hV];simp
   have aA:Below 0 w5 V:=by rw[hV];exact (By 0 w5).setCell (p:=(aD _ j)) (Bq _) _
   have aJ:=hG.vk.low.size;have r:∀ g,v5.ownBlock=some g->g=w.heap.size+1\/W0.heap.size<=g:=fun g hg=>by
    rcases hG.ob g hg with h|h
    ·exact hR.2.2.2.2.2 g h
    ·have:=HX.out;exact .inr (by omega)
   have HV:Hid (V.heap[w.heap.size+1+1]?=some (.cells #[v5] 101 (0,0))/\OwnQ V (w.heap.size+1) v5 css5/\NdsB V (GD 0 (w.heap.size+4) (w.heap.size+1+1) v5 V) css5 (grAll (la.take (j+1)) [kn0 kind]).1/\JRow V (w.heap.size+3) ((grAll (la.take (j+1)) [kn0 kind]).2++List.replicate (l.length-(j+1)) 0)/\VK (w.heap.size+1+1) (w.heap.size+3) (some (w.heap.size+1)) W0 V/\∀ g,Value.ownBlock v5=some g->g=w.heap.size+1\/W0.heap.size<=g):=xI (by
    have az:=HX.out;refine⟨(d _ (by omega)).trans hG.box,OwnE.stay zB8 hG.own fun g hg _=>d g (by have:=r g hg;omega),?_,?_,hR.2.2.2.2.1.trans (o':=v.ownBlock) ⟨(az.1.mono (Bq _)).trans (hG.vk.low.trans aA),fun b hb h1 h2 h3=>(d b h2).trans ((hG.vk.blk b (by omega) h1 h1 h3).trans (az.1.block b hb))⟩ fun g hg=>?_,r⟩
    ·rw[aI.out,zGs];exact (hG.nds.keep ⟨by omega,fun b i hb _=>Bg (d b (by have:=hb.2.2.2;omega))⟩).sub fun b hb=>⟨by have:=hb.1;omega,hb.2⟩
    ·rw[aI.out,zGs];have hs:=W.set j (gr (fun _=>none) ta (grAll (la.take j) [kn0 kind]).1).2;rw[<-hV,List.set_append_right _ _ (by omega),M,Nat.sub_self,show l.length-j=(l.length-(j+1))+1 by omega,List.replicate_succ,List.set_cons_zero]at hs;simpa using hs
    ·rcases hR.2.2.2.2.2 g hg with h|h
     ·exact .inl (by rw[h])
     ·exact .inr h)
   clear hG W M d U aA aJ r hO hR;go_wp2_with fail;rw[<-hV];clear hV aP aQ
   go_roundw
   case rel=>exact⟨j+1,v5,css5,by go_num,by omega,HV.out⟩
   case measure=>simp[intOf];omega
  ·obtain rfl:j=l.length:=by omega
   have mp:¬ ((l.length:Nat):Int)<(l.length:Int):=by omega
   have hR:=HR.out;have hO:=HO.out;have hS:=HS.out;have ab:la.take l.length=la:=Cz (by have:=S.out.2.1;omega);rw[ab]at hR hS;obtain⟨q1,q2,q3,q4,q5,q6⟩:=hR;rw[Nat.sub_self,List.replicate_zero,Dk]at q4;generalize hxs:(grAll la [kn0 kind]).1=xs at *;generalize hks:(grAll la [kn0 kind]).2=ks at *;have Y:xs[0]?=some (kn0 kind):=by rw[<-hxs];exact zK7 la _ rfl
   have aj:=q3.1;have aK:0<xs.length:=(Bx.1 Y).1;obtain⟨g,cp,rfl,aU,aR,aT⟩:=OwnE.formG q2 (by omega);have T:=Bw (l:=css) (i:=0) (by omega);generalize css[0]'(by omega)=cs at T;obtain⟨uk,uf,aS,F,ar,ai⟩:=q3.2 0 cs _ T Y;obtain⟨Ak,ck,aV,_⟩:=ar.form;obtain⟨Af,cf,aX,_⟩:=ai.form;subst aV aX aS;obtain⟨aO,_,_,m,N,_,I⟩:=q2.at8N T;have d4:=m 4 (by decide);have f4:=N 4;simp only[Nat.zero_mul,Dw,D4,De]at d4;have e3:wr.cell? (aF w 0)=some (vS (some (aD g 0)) css.length cp):=cH q1 0;have au:=hO.1 g rfl;obtain⟨V1,D⟩:∃ V1,V1=wr.setCell (aD g 4) (vS (some (aD (w.heap.size+3) 0)) l.length l.length):=⟨_,rfl⟩;have d:∀ b,b≠g->V1.heap[b]?=wr.heap[b]?:=fun b hb=>by rw[D];exact Bp _ (aD g 4) b _ hb
   have U:V1.heap.size=wr.heap.size:=by rw[D];simp
   have a:=I 4 (vS (some (aD (w.heap.size+3) 0)) l.length l.length) (by decide) rfl;rw[show 0*8+4=4 by rfl,<-D]at a;have aH:JRow V1 (w.heap.size+3) ks:=q4.on (d _ (by omega));have aq:=hS.2.2.1;have aG:RowB V1 (fun b=>b<V1.heap.size/\(b<0\/w.heap.size+1<=b)) 1 (vS (some (aD (w.heap.size+3) 0)) l.length l.length) ks.length (kidR ks):=aH.row aq (fun x hx=>by have:=hS.2.2.2 x hx;have:=hO.2.2.2.2.1;have:=S.out.2.1;exact zB4 (by omega) (by omega)) (by have:=hO.2.2.2.2.1;unfold maxLen;omega) ⟨by omega,.inr (by omega)⟩;have ah:Same (GD 0 (w.heap.size+4) (w.heap.size+1+1) (vS (some (aD g 0)) css.length cp) wr) wr V1:=⟨by omega,fun b i hb _=>Bg (d b fun e=>hb.2.2.1 (by rw[e];rfl))⟩;have af:∀ b,GD 0 (w.heap.size+4) (w.heap.size+1+1) (vS (some (aD g 0)) css.length cp) wr b->b<V1.heap.size/\(b<0\/w.heap.size+1<=b):=fun b hb=>⟨by have:=hb.1;omega,by
    rcases hb.2.2.2 with h|h
    ·exact .inl h
    ·exact .inr (by omega)⟩
   have aC:TnB V1 (fun b=>b<V1.heap.size/\(b<0\/w.heap.size+1<=b)) ⟨kind,0,0,[],ks,[],0,0⟩ [vI i6 kind,vI i6 0,vI i6 0,vT ⟨#[]⟩,vS (some (aD (w.heap.size+3) 0)) l.length l.length,vS Af 0 cf,vI i6 0,vI i6 0]:=⟨_,_,rfl,⟨F.1,F.2.1,F.2.2.1,by simp,F.2.2.2.2⟩,aG,(ai.keep ah fun _ _ h=>h).sub af fun _ _ h=>h⟩;have y:=((q3.keep ah).sub af).set 0 aC;have q:=OwnE.nodes a (B':=fun b=>b<V1.heap.size/\(b<0\/w.heap.size+1<=b)) y (by have h1:=y.1;rw[Cn]at h1;rw[<-h1];have:=hS.1;have:=hO.2.2.2.2.1;unfold maxLen;omega) (fun b hb=>hb) fun b h1 h2=>⟨h2,.inr (by omega)⟩;rw[Cn,<-aj]at q;have O:compT kind la=(xs.set 0 ⟨kind,0,0,[],ks,[],0,0⟩,0):=by rw[zIq,hxs,hks]
   have P:=(d _ (fun e=>au.1 e.symm)).trans q1;have av:=zEm (some (aD g 0)) css.length cp (w.heap.size+1+1) 0 V1 (cH P 0);have al:=(d w.heap.size (by omega)).trans ((hO.2.2.1 w.heap.size (by omega) (by omega)).trans HP.out.2.2.2.2.1);have aw:bW w V1:=by
    have h1:=q5.below (H:=w.heap.size) (by omega) (by omega) (fun g h=>by injection h with h;omega) (by omega);have h2:=HP.out.2.2.2.1.trans h1;rw[D];exact h2.setCell (p:=(aD g 4)) (by show w.heap.size<=g;omega) _
   have HF:=xI (aN q (aN O (aN al (aN aw (aN U (aN hO.2.1 (aN hO.2.2.2.1 aj)))))));have aZ:Hid (0<css.length):=xI (by omega);have u9:(0:Int)<(css.length:Int):=by have:=aZ.out;omega
   clear q O al aw U q1 q2 q3 q4 q5 q6 P a aH aq aG y aC ah af m N I aO F ar ai T Y aK aj aU aR aT au d hO hS hxs hks ae HS HR HO HW;go_wp2_with fail;rw[<-D];clear D d4 f4 e3;refine av.mono ?_;rintro e w2 ⟨rfl,hb2⟩;clear av;have h9:=HF.out.2.2.2.2;have kz:=(hb2.block w.heap.size (by omega)).trans HF.out.2.2.1;have f0:=Bz kz 0;have f1:=Bz kz 1;have c0:=cH kz 0;have c1:=cH kz 1;have HB:=xI hb2;have H9:=xI h9;clear hb2 h9;go_wp2;have h9:=H9.out;have a1:=HB.out.size;refine ret2s kz rfl rfl rfl fun V hz hbb hl=>⟨⟨some (aD g 0),cp,?_,?_⟩,?_⟩
   ·rw[HF.out.2.1,h9.2.2.2];simp
   ·have aL:TyB V1 (fun b=>b<V1.heap.size/\(b<0\/w.heap.size+1<=b)) (xs.set 0 ⟨kind,0,0,[],ks,[],0,0⟩) 0 [vS (some (aD g 0)) css.length cp,vI i6 0]:=⟨_,rfl,by show i64B 0;decide,by rw[Cn,<-h9.2.2.2];exact HF.out.1⟩;rw[HF.out.2.1];simp only[Cn];rw[<-h9.2.2.2];refine (aL.keep (w':=V) ⟨by omega,fun b i hb2 hl2=>Bg ((hbb b (by rcases hb2.2 with h|h<;>omega)).trans (HB.out.block b hl2))⟩).sub fun b hb2=>?_;rcases hb2.2 with h|h
    ·exact .inl h
    ·exact .inr ⟨by omega,by have:=hb2.1;omega⟩
   ·exact (HF.out.2.2.2.1.trans (HB.out.mono (by omega))).trans (hl _ lR)
def conT (kind:Int) (o:Ty) (l:List Ty):Ty:=match l with
 | []=>o
 | [t]=>pruT t
 | l=>compT kind (l.map accT)
theorem TyOut.up {H H':Nat}{w:World}{t:Ty}{e:Ending}{w':World}(h:TyOut H w t e w') (hH:H<=H'):TyOut H' w t e w':=by
 obtain⟨⟨A,c,h1,h2⟩,h3⟩:=h;exact⟨⟨A,c,h1,h2.sub fun b hb=>Bo.up hH hb⟩,h3⟩
def TyOZ (H Z:Nat) (w:World) (t:Ty) (e:Ending) (w':World):Prop:=(∃ A c,e=.returned (.agg #[vS A t.1.length c,vI i6 t.2])/\TyB w' (fun b=>(b<H\/Z<=b)/\b<w'.heap.size) t.1 t.2 [vS A t.1.length c,vI i6 t.2])/\bW w w'
theorem TyOut.oz {H Z:Nat}{w V:World}{ns:List Tn}{r:Int}{cs:List Value}(h:TyB V (Bo H w V) ns r cs) (hw:w.heap.size<=V.heap.size) (hZ:Z<=w.heap.size) (hH:H<=w.heap.size):TyB V (fun b=>(b<H\/Z<=b)/\b<V.heap.size) ns r cs:=h.sub fun b hb=>by
 rcases hb with h|h
 ·exact⟨.inl h,by omega⟩
 ·exact⟨.inr (by omega),h.2⟩
theorem zJn {l:List Ty}{Al Ao:Option Addr}{cl co H Z:Nat}(kind:Int) (o:Ty) (w:World) (hH:H<=w.heap.size) (hZ:Z<=w.heap.size) (ho:TyB w (fun b=>(b<0\/Z<=b)/\b<w.heap.size) o.1 o.2 [vS Ao o.1.length co,vI i6 o.2]) (hl:RowB w (fun b=>b<w.heap.size) 2 (vS Al l.length cl) l.length (tyR w (fun b=>b<H) l)) (hs:∀ t∈l,SmT 1000000 t) (hn:l.length<=50) (hkd:i64B kind) :
  Calls tP 77 #[vI i6 kind,.agg #[vS Ao o.1.length co,vI i6 o.2],vS Al l.length cl] w (TyOZ 0 Z w (conT kind o l)):=by
 obtain⟨W,hW⟩:∃ W,W=(w.alloc (oE Ao o.1.length co o.2)).alloc (oE none 0 0 0):=⟨_,rfl⟩;have hb:bW w W:=by rw[hW];exact (yR.alloc lR _).alloc (by simp) _
 have k0:W.heap[w.heap.size]?=some (oE Ao o.1.length co o.2):=by rw[hW,Bt _ _ _ (by simp)];exact Bk w _
 have kR:W.heap[w.heap.size+1]?=some (oE none 0 0 0):=by rw[hW];exact zAf _ (by simp)
 have d:W.heap.size=w.heap.size+2:=by rw[hW];simp
 have g:True:=trivial;have a:RowB W (fun b=>b<W.heap.size) 2 (vS Al l.length cl) l.length (tyR W (fun b=>b<H) l):=(tyR.keep hl (Same.of_below hb fun b hb=>hb) fun b hb=>by omega).sub (fun b hb=>by omega) fun _ _ h=>h
 match l,hs,hn,a with
 | [],hs,hn,a=>
  obtain⟨e0,e1⟩:=zAh k0;obtain⟨r0,r1⟩:=zAh kR;have f0:=Bz kR 0;have f1:=Bz kR 1;rw[hW]at e0 e1 r0 r1 f0 f1;have HP:=xI (aN ho hb);have HW:=xI hW;clear g hb kR d hl a hs hn k0 ho;simp only[Ch];clear hW;go_enter func77,ntmps77;go_wp2_with fail;obtain⟨V,hV⟩:∃ V,V=(w.alloc (oE Ao o.1.length co o.2)).alloc (oE Ao o.1.length co o.2):=⟨_,rfl⟩;rw[<-hV];have i:bW w V:=by rw[hV];exact (yR.alloc lR _).alloc (by simp) _
  have kV:V.heap[w.heap.size+1]?=some (oE Ao o.1.length co o.2):=by rw[hV];exact zAf _ (by simp)
  exact ret2 kV rfl rfl rfl ⟨⟨_,_,rfl,(HP.out.1.keep (Same.of_below i fun b hb=>hb.2)).sub fun b h=>⟨h.1,by have:=i.size;have:=h.2;omega⟩⟩,i⟩
 | [t],hs,hn,a=>
  obtain⟨bl,ol,n,A,c,hu,e0,e1,k⟩:=tyR.at a (j:=0) rfl;injection hu with hA hq1 hq2;clear hq1;subst hA hq2;simp only[Nat.zero_mul,Dv]at e0 e1;have hc:=zL5 W (by omega) k (hs t (by simp));have p:=hs t (by simp);rw[hW]at e0 e1;clear g hl a k k0 ho;simp only[Ci,Ch,Dw];go_enter func77,ntmps77;go_wp2_with fail;rw[<-hW];clear hW e0 e1;refine hc.mono ?_;clear hc;rintro e w2 ⟨⟨A2,c2,rfl,hT2⟩,hb2⟩;have kz:=(hb2.block (w.heap.size+1) (by omega)).trans kR;have f0:=Bz kz 0;have f1:=Bz kz 1;have c0:=cH kz 0;have c1:=cH kz 1;have HB:=xI (aN hT2 (aN hb2 (aN hb d)));clear hT2 hb2 d hb;go_wp2;exact ret2s kz rfl rfl rfl fun V hz hbb hl=>⟨⟨_,_,rfl,TyOut.oz (H:=0) (w:=w) (V:=V) (TyOut.put HB.out.1 (by have:=HB.out;omega) (by have:=HB.out;omega) (by have:=HB.out;omega) hz hbb) (by have h1:=HB.out;have h2:=h1.2.1.size;omega) hZ (Bq _)⟩,(HB.out.2.2.1.trans (HB.out.2.1.mono (by have:=HB.out;omega))).trans (hl _ (by omega))⟩
 | t1::t2::l,hs,hn,a=>
  have hc:=zF9 kind W (by omega) a hs hn hkd;have r:¬ (((t1::t2::l).length:Nat):Int)=0:=by simp;omega
  have q:¬ (((t1::t2::l).length:Nat):Int)=1:=by simp;omega
  have f:conT kind o (t1::t2::l)=compT kind ((t1::t2::l).map accT):=rfl;rw[f];clear g hl a k0 ho f hs hn;generalize compT kind ((t1::t2::l).map accT)=res at *;generalize (t1::t2::l).length=m at *;go_enter func77,ntmps77;go_wp2_with fail;rw[<-hW];clear hW;refine hc.mono ?_;clear hc;rintro e w2 ⟨⟨A2,c2,rfl,hT2⟩,hb2⟩;have kz:=(hb2.block (w.heap.size+1) (by omega)).trans kR;have f0:=Bz kz 0;have f1:=Bz kz 1;have c0:=cH kz 0;have c1:=cH kz 1;have HB:=xI (aN hT2 (aN hb2 (aN hb d)));clear hT2 hb2 d hb;go_wp2;exact ret2s kz rfl rfl rfl fun V hz hbb hl=>⟨⟨_,_,rfl,TyOut.oz (H:=0) (w:=w) (V:=V) (TyOut.put HB.out.1 (by have:=HB.out;omega) (by have:=HB.out;omega) (by have:=HB.out;omega) hz hbb) (by have h1:=HB.out;have h2:=h1.2.1.size;omega) hZ (Bq _)⟩,(HB.out.2.2.1.trans (HB.out.2.1.mono (by have:=HB.out;omega))).trans (hl _ (by omega))⟩
theorem zLv {l:List Ty}{Al:Option Addr}{cl H:Nat}(w:World) (hH:H<=w.heap.size) (hl:RowB w (fun b=>b<w.heap.size) 2 (vS Al l.length cl) l.length (tyR w (fun b=>b<H) l)) (hs:∀ t∈l,SmT 1000000 t) (hn:l.length<=50) :
  Calls tP 33 #[vS Al l.length cl] w (TyOut 0 w (conT 16 noneT l)):=by
 obtain⟨W,hW,hb,kR,c⟩:=aW w (oE none 0 0 0)
 have hc:=zHe W;have HP:=xI (aN hl (aN hs (aN hn (aN hb kR))));clear hl hs hn hb kR;go_enter func33,ntmps33;go_wp2_with fail;rw[<-hW];clear hW;refine hc.mono ?_;rintro e w1 ⟨⟨Ao,co,rfl,hTo⟩,hb1⟩;clear hc;have a:bW w w1:=HP.out.2.2.2.1.trans (hb1.mono (by omega));have hc:=zJn (H:=H) (Z:=w.heap.size+1) 16 noneT w1 (by have:=a.size;omega) (by have:=hb1.size;omega) (hTo.sub fun b hb=>by
  rcases hb with h|h
  ·omega
  ·exact⟨.inr (by omega),h.2⟩) ((tyR.keep HP.out.1 (Same.of_below a fun b hb=>hb) fun b hb=>by omega).sub (fun b hb=>by have:=a.size;omega) fun _ _ h=>h) HP.out.2.1 HP.out.2.2.1 (by decide)
 have HB:=xI (aN a (aN hb1 c));clear hTo a hb1 c;go_wp2_with fail;refine hc.mono ?_;clear hc;rintro e w2 ⟨⟨A2,c2,rfl,hT2⟩,hb2⟩;have kz:=(hb2.block w.heap.size (by have:=HB.out.2.1.size;have:=HB.out.2.2;omega)).trans ((HB.out.2.1.block w.heap.size (by have:=HB.out.2.2;omega)).trans HP.out.2.2.2.2);have f0:=Bz kz 0;have f1:=Bz kz 1;have c0:=cH kz 0;have c1:=cH kz 1;have HC:=xI (aN hT2 hb2);clear hT2 hb2;go_wp2;refine ret2s kz rfl rfl rfl fun V hz hbb hl=>⟨⟨_,_,rfl,?_⟩,(HB.out.1.trans (HC.out.2.mono HB.out.1.size)).trans (hl _ lR)⟩;refine (HC.out.1.keep (w':=V) ⟨by omega,fun b i hb2 _=>Bg (hbb b (by rcases hb2.1 with h|h<;>omega))⟩).sub fun b hb2=>?_;rcases hb2.1 with h|h
 ·exact .inl h
 ·exact .inr ⟨by omega,by have:=hb2.2;omega⟩
end Go.Proofs.YteedihhdcbepmaaGreat
namespace Go.Proofs.YteedihhdcbepmaaGreat.Iv
open Go.RowKit
theorem zAb {a b:Bool}(h:a=b):Ending.returned (.bool a)=.returned (.bool b):=by rw[h]
theorem zL3 {k:IntKind}{a b:Int}(h:a=b):Ending.returned (.int k a)=.returned (.int k b):=by rw[h]
theorem Tryz.infoR:(tP.info? 83).map (fun i=>(i.zero,i.size,i.bytes))=some (some (.agg #[vI i6 0,vI i6 0]),2,16):=by kernel_rfl
def zCg (r:Rg):List Value:=[vI i6 r.1,vI i6 r.2]
def flatR (l:List Rg):List Value:=l.flatMap zCg
theorem zIk (a b:List Rg):flatR (a++b)=flatR a++flatR b:=by simp[flatR]
theorem zAx (r:Rg) (b:List Rg):flatR (r::b)=vI i6 r.1::vI i6 r.2::flatR b:=by simp[flatR,zCg]
theorem zAn:∀ (l:List Rg),(flatR l).length=l.length*2
 | []=>rfl
 | r::l=>by rw[zAx];simp[zAn l];omega
theorem zEg:∀ (l:List Rg),∀ u∈flatR l,u.oneCell'=true
 | [],u,h=>by simp[flatR]at h
 | r::l,u,h=>by
  rw[zAx]at h;rcases Cs.1 h with rfl|h
  ·rfl
  ·rcases Cs.1 h with rfl|h
   ·rfl
   ·exact zEg l u h
theorem zCx:∀ (l:List Rg) (j:Nat) (r:Rg),l[j]?=some r->(flatR l)[j*2]?=some (vI i6 r.1)
 | [],j,r,h=>by simp at h
 | x::l,0,r,h=>by simp at h;subst h;rw[zAx];rfl
 | x::l,j+1,r,h=>by
  rw[zAx,show (j+1)*2=j*2+1+1 by omega,De,De];exact zCx l j r (by simpa using h)
theorem zDm:∀ (l:List Rg) (j:Nat) (r:Rg),l[j]?=some r->(flatR l)[j*2+1]?=some (vI i6 r.2)
 | [],j,r,h=>by simp at h
 | x::l,0,r,h=>by simp at h;subst h;rw[zAx];rfl
 | x::l,j+1,r,h=>by
  rw[zAx,show (j+1)*2+1=(j*2+1)+1+1 by omega,De,De];exact zDm l j r (by simpa using h)
def RngS (w:World) (B:Nat) (A:Option Addr) (n:Nat) (rs:List Rg):Prop:=
 n=rs.length/\Fit rs/\(0<n->∃ b off,A=some (aD b off)/\b<B/\∀ j r,rs[j]?=some r->w.cell? (aD b (off+j*2))=some (vI i6 r.1)/\w.cell? (aD b (off+j*2+1))=some (vI i6 r.2))
theorem RngS.below {w w':World}{B:Nat}{A:Option Addr}{n:Nat}{rs:List Rg}(h:RngS w B A n rs) (hb:Below B w w'):RngS w' B A n rs:=
 ⟨h.1,h.2.1,fun hn=>by
  obtain⟨b,a,hA,c,hc⟩:=h.2.2 hn;exact⟨b,a,hA,c,fun j k hk=>⟨(hb.cell (p:=(aD b (a+j*2))) c).trans (hc j k hk).1,(hb.cell (p:=(aD b (a+j*2+1))) c).trans (hc j k hk).2⟩⟩⟩
theorem RngS.mono {w:World}{B B':Nat}{A:Option Addr}{n:Nat}{rs:List Rg}(h:RngS w B A n rs) (hB:B<=B'):RngS w B' A n rs:=
 ⟨h.1,h.2.1,fun hn=>by
  obtain⟨b,a,hA,c,hc⟩:=h.2.2 hn;exact⟨b,a,hA,by omega,hc⟩⟩
theorem RngS.nil (w:World) (B:Nat) (A:Option Addr):RngS w B A 0 []:=⟨rfl,by simp[Fit],fun h=>by omega⟩
theorem RngS.kept {w w':World}{B:Nat}{A:Option Addr}{n:Nat}{rs:List Rg}(h:RngS w B A n rs) (hb:Below B w w') (hB:B<=w'.heap.size):RngS w' w'.heap.size A n rs:=(h.below hb).mono hB
theorem RngS.at {w:World}{B:Nat}{A:Option Addr}{n:Nat}{rs:List Rg}(h:RngS w B A n rs){k:Nat}(hk:k<n) :
  ∃ b off r1 r2,A=some (aD b off)/\b<B/\rs[k]?=some (r1,r2)/\Fit1 (r1,r2)/\w.cell? (aD b (off+k*2))=some (vI i6 r1)/\w.cell? (aD b (off+k*2+1))=some (vI i6 r2):=by
 obtain⟨b,off,hA,hb,hc⟩:=h.2.2 (by omega);have hx:rs[k]?=some (rs[k]'(by have:=h.1;omega)):=Bw _;have:=hc k _ hx;exact⟨b,off,_,_,hA,hb,hx,h.2.1 _ (Bi hx),this.1,this.2⟩
def OwnR (w:World) (B:Nat) (v:Value) (rs:List Rg):Prop:=w.ownsRow B 83 2 v rs.length (flatR rs)
theorem OwnR.nil (w:World) (B:Nat):OwnR w B (vS none 0 0) []:=World.ownsRow_nil _ _ _ _
theorem OwnR.form {w:World}{B:Nat}{v:Value}{rs:List Rg}(h:OwnR w B v rs):∃ A c,v=vS A rs.length c:=by
 rcases h.2 with⟨rfl,h0⟩|⟨g,cap,a,rfl,_⟩
 ·rw[h0];exact⟨_,_,rfl⟩
 ·exact⟨_,_,rfl⟩
theorem OwnR.rng {w:World}{B:Nat}{A:Option Addr}{n c:Nat}{rs:List Rg}(h:OwnR w B (vS A n c) rs) (hf:Fit rs):RngS w w.heap.size A n rs:=by
 have hl:=h.lt;have d:∀ g,(vS A n c).ownBlock=some g->∀ j u,(flatR rs)[j]?=some u->w.cell? (((aD g 0):Addr).add j)=some u:=fun g hg=>World.ownsRow.cells h hg;rcases h.2 with⟨hv,h0⟩|⟨g,cap,l,hv,hB,hg,f,k,i,e⟩
 ·injection hv with e1 e2 e3;subst e1 e2;exact⟨h0.symm,hf,fun h=>by omega⟩
 ·injection hv with e1 e2 e3;subst e1 e2;refine⟨rfl,hf,fun _=>⟨g,0,rfl,(hl g rfl).2,fun j r hj=>?_⟩⟩;have az:∀ q:Nat,((aD g 0):Addr).add q=(aD g (0+q)):=by
   intro q;unfold Addr.add;rcases C7 q with h|h
   ·subst h;simp
   ·simp[Nat.ne_of_gt h]
  have a:=d g rfl (j*2) _ (zCx rs j r hj);have b:=d g rfl (j*2+1) _ (zDm rs j r hj);rw[az]at a b;exact⟨a,by rw[Ew];exact b⟩
theorem OwnR.old {w w':World}{B:Nat}{v:Value}{rs:List Rg}(h:OwnR w B v rs) (hb:bW w w'):OwnR w' B v rs:=by
 have hl:=h.lt;refine⟨h.1,?_⟩;rcases h.2 with hn|⟨g,cap,cur,rfl,hB,hg,rest⟩
 ·exact .inl hn
 ·exact .inr ⟨g,cap,cur,rfl,hB,by rw[hb.block g (hl g rfl).2];exact hg,rest⟩
theorem OwnR.drewN {w:World}{B:Nat}{v:Value}{rs:List Rg}(h:OwnR w B v rs) (n:Nat):OwnR (w.drewN n) B v rs:=h
theorem zA6 {B:Nat}{a w:World}(h:Below B a w) (n:Nat):Below B a (w.drewN n):=⟨h.os,h.tape,h.output,h.size,h.block⟩
theorem OwnR.mono {w:World}{B B':Nat}{v:Value}{rs:List Rg}(h:OwnR w B v rs) (hB:B'<=B):OwnR w B' v rs:=by
 refine⟨h.1,?_⟩;rcases h.2 with hn|⟨g,cap,cur,hv,hg,rest⟩
 ·exact .inl hn
 ·exact .inr ⟨g,cap,cur,hv,by omega,rest⟩
theorem OwnR.below {w0 w1:World}{B:Nat}{v:Value}{rs:List Rg}{o:Obj}(h:OwnR w0 B v rs) (hb:B<=w0.heap.size) (hg:(w0.alloc o).grownBy w1 v.ownBlock):Below B w0 w1:=
 ((By B w0).alloc hb o).grown hg (by simp;omega) (fun j hj=>(h.lt j hj).1)
theorem OwnR.lit (w:World) (B:Nat) (hB:B<=w.heap.size) (rs:List Rg) (cells:Array Value) (n:Nat) (hn:rs.length=n) (hc:cells.toList=flatR rs) (hl:rs.length<=maxLen) :
  OwnR (w.alloc (.cells cells 83)) B (vS (some (aD w.heap.size 0)) n n) rs:=by
 subst hn;have a:cells.size=rs.length*2:=by rw[<-Array.length_toList,hc,zAn]
 exact⟨zAn rs,.inr ⟨w.heap.size,rs.length,cells,rfl,hB,Bk w _,Bb _,hl,a,by rw[hc];rw[Cz];rw[zAn];exact Bb _⟩⟩
theorem zNm {ops:Array Oper}{rest:List Oper}{o:Oper}{a:Act}{Q:Exit->Act->World->Prop}{w0:World}(hgd:o.guard=none) (s x:Operand)
  (ho:o.op=.call { callee:=.builtin .append,args:=#[s,x],argTypes:=#[44,44] }) (B:Nat) (v:Value) (l:List Rg) (hs:a.eval s=v) (hown:OwnR w0 B v l)
  (l':List Rg) (m c:Nat) (hm:l'.length=m) (cells:Array Value) (hc:cells.toList=flatR l') (hx:a.eval x=vS (some (aD w0.heap.size 0)) m c)
  (hbytes:l.length+m<=1000000000) (hbase:B<=w0.heap.size)
  (h:∀ v' w',OwnR w' B v' (l++l')->Below B w0 w'->wpList tP ops Q rest (a.put o.dst v') w') :
  wpList tP ops Q (o::rest) a (w0.alloc (.cells cells 83)):=by
 obtain⟨i0,hi,e,d,b⟩:=Cr Tryz.infoR;subst hm;refine wpList_append_own _ hgd s x 44 ho B 83 i0 (.agg #[vI i6 0,vI i6 0]) 2 16 underlying44 hi e d b rfl (by decide) v l.length (flatR l) hs (World.ownsRow.alloc hown _)
  (aH w0 0) l'.length c (flatR l') hx (zAn l') ?_ (zEg l') (by unfold maxLen;omega) (by omega) (by simp;omega) ?_
 ·rw[<-hc];exact World.news_of_block (Bk w0 _)
 ·intro v' w' h1 h2 _;exact h v' w' (by unfold OwnR;rw[Bd,zIk];exact h1) (hown.below hbase h2)
theorem zHu {ops:Array Oper}{rest:List Oper}{o:Oper}{a:Act}{Q:Exit->Act->World->Prop}{w0:World}(hgd:o.guard=none) (s x:Operand)
  (ho:o.op=.call { callee:=.builtin .append,args:=#[s,x],argTypes:=#[44,44] }) (B:Nat) (v:Value) (l:List Rg) (hs:a.eval s=v) (hown:OwnR w0 B v l)
  (l':List Rg) (m c:Nat) (hm:l'.length=m) (cells:Array Value) (hc:cells.toList=flatR l') (H:Nat) (hH:w0.heap.size=H) (hx:a.eval x=vS (some (aD H 0)) m c)
  (hbytes:l.length+m<=1000000000) (hbase:B<=w0.heap.size)
  (h:∀ v' w',OwnR w' B v' (l++l')->Below B w0 w'->wpList tP ops Q rest (a.put o.dst v') w') :
  wpList tP ops Q (o::rest) a (w0.alloc (.cells cells 83)):=by
 subst hH;exact zNm hgd s x ho B v l hs hown l' m c hm cells hc hx hbytes hbase h
def RetR (rs:List Rg) (w:World) (e:Ending) (w':World):Prop:=∃ A n c,e=.returned (vS A n c)/\RngS w' w'.heap.size A n rs/\bW w w'
def zBa (r:Rg):Bool:=decide (r.2<r.1)
def gapB (x r:Rg):Bool:=decide (x.2+1<r.1)
theorem zD1 (a b:Int) (w:World) :
  Calls tP 103 #[.agg #[vI i6 a,vI i6 b]] w fun e w'=>e=.returned (.bool (zBa (a,b)))/\bW w w':=by
 go_enter func103,ntmps103;go_wp2
 all_goals go_ret
 all_goals exact⟨zAb (by unfold zBa;simp),yR.alloc lR _⟩
theorem zMp (a b c d:Int) (w:World) (h:Fit1 (a,b)) (h':Fit1 (c,d)) :
  Calls tP 107 #[.agg #[vI i6 a,vI i6 b],.agg #[vI i6 c,vI i6 d]] w fun e w'=>e=.returned (.bool (gapB (a,b) (c,d)))/\bW w w':=by
 unfold Fit1 LO HI at h h';obtain⟨h1,h2,h3,h4⟩:=h;obtain⟨k1,k2,k3,k4⟩:=h';simp only at h1 h2 h3 h4 k1 k2 k3 k4;by_cases hlt:b<c
 ·have q:decide (b<c)=true:=by simpa using hlt
  go_enter func107,ntmps107;go_wp2
  all_goals go_ret
  all_goals exact⟨zAb (by unfold gapB;simp;omega),(yR.alloc lR _).alloc (by simp) _⟩
 ·have q:decide (b<c)=false:=by simpa using hlt
  go_enter func107,ntmps107;go_wp2
  all_goals go_ret
  all_goals exact⟨zAb (by unfold gapB;simp;omega),(yR.alloc lR _).alloc (by simp) _⟩
def cmpI (a b:Int):Int:=if a<b then -1 else if b<a then 1 else 0
theorem zJc (a:Int) (w:World) :
  Calls tP 149 #[vI i6 a] w fun e w'=>e=.returned (.bool false)/\w=w':=by
 go_enter func149,ntmps149;go_wp2
 all_goals go_ret
 all_goals exact⟨zAb (by simp),rfl⟩
theorem zNb (a b:Int) (w:World) :
  Calls tP 106 #[vI i6 a,vI i6 b] w fun e w'=>e=.returned (vI i6 (cmpI a b))/\w=w':=by
 go_enter func106,ntmps106;go_wp2_with (first|(go_at_call 149;refine (zJc _ _).mono ?_;rintro e w' ⟨rfl,rfl⟩))
 all_goals go_ret
 all_goals exact⟨zL3 (by unfold cmpI;split<;>simp_all<;>omega),rfl⟩
theorem zLg (a:Addr) (c:Nat) (w:World) :
  Calls tP 102 #[vS (some a) 0 c] w fun e w'=>∃ v',e=.returned v'/\OwnR w' w.heap.size v' []/\bW w w':=by
 obtain⟨i0,hi,f,d,b⟩:=Cr Tryz.infoR;have g:∀ (w:World) (a:Option Addr) (n c n' c':Nat),(binOp .eql 44 (vS a n c) (vS none n' c')).run tP w=.ok (.bool a.isNone) w:=fun w a n c n' c'=>Lib.run_eql_slice_nil w _ _ a n c n' c' underlying44;go_enter func102,ntmps102;go_wp2_with (at_builtin;refine wpList_append_own _ rfl _ _ 44 rfl w.heap.size 83 i0 (.agg #[vI i6 0,vI i6 0]) 2 16 underlying44 hi f d b rfl (by decide) _ _ _ rfl (World.ownsRow_made w #[] 0 lR (Bq _) rfl) a 0 c [] rfl rfl (by intro j u hj;simp at hj) (by intro u hu;cases hu) (by unfold maxLen;omega) (by omega) (by simp) ?_);intro v' w1 hown hgrow hnil;go_wp2;go_ret;refine⟨v',rfl,?_,?_⟩
 ·have:w1.ownsRow w.heap.size 83 2 v' 0 []:=by simpa using hown
  exact this
 ·exact ((By _ w).alloc lR _).grown hgrow (by simp) (by intro k hk;simp[Value.ownBlock]at hk;omega)
theorem zPj {w:World}{b off:Nat}{rs:List Rg}(h:∀ j r,rs[j]?=some r->w.cell? (aD b (off+j*2))=some (vI i6 r.1)/\w.cell? (aD b (off+j*2+1))=some (vI i6 r.2)) :
  ∀ j u,(flatR rs)[j]?=some u->w.cell? (aD b (off+j))=some u:=by
 intro j u hj;have hl:j<rs.length*2:=by
  have:=(Bx.1 hj).1
  rwa [zAn]at this
 have hx:rs[j / 2]?=some (rs[j / 2]'(by omega)):=Bw _;have h1:=zCx rs _ _ hx;have h2:=zDm rs _ _ hx;have hc:=h _ _ hx;rcases Nat.mod_two_eq_zero_or_one j with e|e
 ·have:j / 2*2=j:=by omega
  rw[this]at h1 hc;rw[h1]at hj;exact hc.1.trans hj
 ·have:j / 2*2+1=j:=by omega
  rw[Ew,this]at hc;rw[this]at h2;rw[h2]at hj;exact hc.2.trans hj
theorem zNc (A:Option Addr) (n cap:Nat) (rs:List Rg) (w:World) (B:Nat) (hR:RngS w B A n rs) (hn:n<=1000000000) :
  Calls tP 102 #[vS A n cap] w fun e w'=>∃ v',e=.returned v'/\OwnR w' w.heap.size v' rs/\bW w w':=by
 rcases C7 n with h0|h0
 ·have hr:rs=[]:=Cd (hR.1.symm.trans h0);subst hr;subst h0;rcases A with _|a
  ·have:=AnyE.slices_Clone_nil Tryz.cloneR 0 cap w;change Calls tP 102 _ _ _ at this;exact this.mono fun e w' ⟨he,hw⟩=>⟨_,he,OwnR.nil _ _,by rw[hw];exact By _ _⟩
  ·exact zLg a cap w
 ·obtain⟨b,c,rfl,hb,hc⟩:=hR.2.2 h0;obtain⟨i0,hi,g,f,d⟩:=Cr Tryz.infoR;have:=AnyE.slices_Clone Tryz.cloneR i0 (.agg #[vI i6 0,vI i6 0]) 2 16 hi g f d rfl (by decide) sizeOf83 b c n cap (flatR rs) w (by rw[zAn,<-hR.1]) (by unfold maxLen;omega) (by omega) (zPj hc) (zEg rs);change Calls tP 102 _ _ _ at this;refine this.mono fun e w' ⟨v',he,ho,_,hbl⟩=>⟨v',he,?_,hbl⟩;unfold OwnR;rw[<-hR.1];exact ho
theorem zF2:∀ (l:List Rg) (j:Nat) (r:Rg),((flatR l).set (j*2) (vI i6 r.1)).set (j*2+1) (vI i6 r.2)=flatR (l.set j r)
 | [],j,r=>by simp[flatR]
 | x::l,0,r=>by
  rw[zAx];show vI i6 r.1::vI i6 r.2::flatR l=flatR (r::l);rw[zAx]
 | x::l,j+1,r=>by
  rw[zAx,show (j+1)*2+1=(j*2+1)+1+1 by omega,show (j+1)*2=j*2+1+1 by omega];rw[Da,Da,Da,Da,zF2 l j r,Da,zAx]
theorem zGu:∀ (l:List Rg) (i:Nat),(flatR l).take (i*2)=flatR (l.take i)
 | l,0=>by simp[flatR]
 | [],i+1=>by simp[flatR]
 | x::l,i+1=>by
  rw[List.take_succ_cons,zAx,zAx,show (i+1)*2=i*2+1+1 by omega,List.take_succ_cons,List.take_succ_cons,zGu l i]
section
variable {w:World}{B g n cap:Nat}{rs:List Rg}
theorem OwnR.formG {v:Value}(h:OwnR w B v rs) (h0:0<rs.length):∃ g c,v=vS (some (aD g 0)) rs.length c/\B<=g/\g<w.heap.size/\rs.length<=c:=by
 have hl:=h.lt;rcases h.2 with⟨rfl,hz⟩|⟨g,cap,b,rfl,hB,hg,a,_⟩
 ·omega
 ·exact⟨g,cap,rfl,hB,(hl g rfl).2,a⟩
theorem OwnR.lo (h:OwnR w B (vS (some (aD g 0)) n cap) rs) (hn:rs.length=n){j:Nat}{r:Rg}(hj:rs[j]?=some r):w.cell? (aD g (j*2))=some (vI i6 r.1):=by
 subst hn;have a:=(Bx.1 hj).1;rw[World.ownsRow.cellAt h (j*2) (by omega),zCx rs j r hj]
theorem OwnR.hi (h:OwnR w B (vS (some (aD g 0)) n cap) rs) (hn:rs.length=n){j:Nat}{r:Rg}(hj:rs[j]?=some r):w.cell? (aD g (j*2+1))=some (vI i6 r.2):=by
 subst hn;have a:=(Bx.1 hj).1;rw[World.ownsRow.cellAt h (j*2+1) (by omega),zDm rs j r hj]
theorem OwnR.free (h:OwnR w B (vS (some (aD g 0)) n cap) rs) (hn:rs.length=n) (j:Nat):w.frozen? (aD g j)=false:=by
 subst hn;exact World.ownsRow.frozenAt h j
theorem OwnR.set (h:OwnR w B (vS (some ⟨g,0,none⟩) n cap) rs) (hn:rs.length=n) (j:Nat) (r:Rg) :
  OwnR ((w.setCell ⟨g,j*2,none⟩ (vI i6 r.1)).setCell ⟨g,j*2+1,none⟩ (vI i6 r.2)) B (vS (some ⟨g,0,none⟩) n cap) (rs.set j r):=by
 subst hn;unfold OwnR;rw[Cn,<-zF2];exact (World.ownsRow.stored (World.ownsRow.stored h (j*2) (vI i6 r.1)).1 (j*2+1) (vI i6 r.2)).1
theorem OwnR.setHi (h:OwnR w B (vS (some ⟨g,0,none⟩) n cap) rs) (hn:rs.length=n) (j:Nat) (r:Rg) (y:Int) (hj:rs[j]?=some r) :
  OwnR (w.setCell ⟨g,j*2+1,none⟩ (vI i6 y)) B (vS (some ⟨g,0,none⟩) n cap) (rs.set j (r.1,y)):=by
 subst hn;unfold OwnR;rw[Cn,<-zF2];have e:(flatR rs).set (j*2) (vI i6 r.1)=flatR rs:=by
  have h1:=zCx rs j r hj;apply Dr;intro i;rw[Eq];split
  ·rename_i hi;subst hi;rw[h1];split
   ·rfl
   ·rename_i hh;exact absurd (Bx.1 h1).1 hh
  ·rfl
 simp only;rw[e];exact (World.ownsRow.stored h (j*2+1) (vI i6 y)).1
end
theorem zGh (n:Nat):(Builtin.zeroCells #[vI i6 0,vI i6 0] n).toList=flatR (List.replicate n (0,0)):=by
 apply Dr;intro j;by_cases hj:j<n*2
 ·have hx:(List.replicate n ((0:Int),(0:Int)))[j / 2]?=some (0,0):=by rw[Eh];simp;omega
  have h1:=zCx _ _ _ hx;have h2:=zDm _ _ _ hx;have e1:(Builtin.zeroCells #[vI i6 0,vI i6 0] n).toList[j]?=some (vI i6 0):=by
   simp[Builtin.zeroCells,hj];rcases Nat.mod_two_eq_zero_or_one j with e|e<;>rw[e]<;>rfl
  rw[e1];rcases Nat.mod_two_eq_zero_or_one j with e|e
  ·rw[show j / 2*2=j by omega]at h1;exact h1.symm
  ·rw[show j / 2*2+1=j by omega]at h2;exact h2.symm
 ·rw[Ce (by simp[Builtin.zeroCells];omega),Ce (by rw[zAn];simp;omega)]
theorem zKn {w:World}{B g n cap:Nat}{rs:List Rg}(h:OwnR w B (vS (some (aD g 0)) n cap) rs) (hn:rs.length=n) (i c:Nat) (hi:i<n) :
  ∃ w',(∀ ty,(Builtin.clear_ #[44] ty #[vS (some (aD g (i*2))) (n-i) c]).run tP w=.ok (.tuple #[]) w')/\OwnR w' B (vS (some (aD g 0)) i cap) (rs.take i)/\w.grownBy w' (some g):=by
 subst hn;have hl:(rs.take i).length=i:=by rw[Bh];omega
 rcases h.2 with⟨h',_⟩|⟨g',j,d,h',hb,hg,l,f,o,a⟩
 ·simp at h'
 ·simp only[Value.slice.injEq,Cu,Addr.mk.injEq,and_true,true_and]at h';obtain⟨rfl,rfl⟩:=h';have b:=run_storeCells_at (P:=tP) g (i*2) 83 (flatR (List.replicate (rs.length-i) (0,0))) 0 d w hg (by rw[zAn];simp;omega) (zEg _);simp only[Dv]at b;have hv:=zeroValue83;obtain⟨m,hm⟩:∃ m,rs.length-i=m+1:=⟨rs.length-i-1,by omega⟩;refine⟨w.setRow g (d.toList.take (i*2)++flatR (List.replicate (rs.length-i) (0,0))++d.toList.drop (i*2+(flatR (List.replicate (rs.length-i) (0,0))).length)).toArray,?_,⟨zAn _,.inr ⟨g,cap,_,by rw[hl],hb,setRow_heap w g d _ 83 (0,0) hg,by rw[hl];omega,f,?_,?_⟩⟩,⟨rfl,rfl,rfl,by simp,fun k _ hk=>setRow_other w g k _ (fun e=>hk (by simp[e]))⟩⟩
  ·intro ty;rw[<-zGh]at b;rw[hm]at b ⊢;simp[Builtin.clear_,run_underlying underlying44,hv,Value.cells,b];rw[<-zGh];simp
  ·simp only[Dg,Bd,Bh,Cc,Array.length_toList,zAn,Dm];omega
  ·rw[hl,Er];rw[Fp (by simp;omega),List.take_take,Nat.min_self,<-zGu,<-a,List.take_take,show min (i*2) (rs.length*2)=i*2 by omega]
theorem zFy (A:Option Addr) (n cap:Nat) (rs:List Rg) (w:World) (hR:RngS w w.heap.size A n rs) (hn:n<=1000000000) (h:∀ r∈rs,zBa r=false) :
  Calls tP 147 #[vS A n cap,.func (.func 103) #[] #[]] w fun e w'=>e=.returned (vI i6 (-1))/\bW w w':=by
 have HR:=xI hR;have HE:=xI h;clear hR h;go_enter func147,ntmps147;go_wp2
 go_loopw [5,8] (fun _ i wr=>∃ k:Nat,i=vI i6 k/\k<=n/\bW w wr) (fun _ i _=>n-(intOf i).toNat)
 case atStart=>exact⟨0,rfl,by omega,By _ _⟩
 case round=>
  obtain⟨k,rfl,hk,hb⟩:=hrel;by_cases hkn:k<n
  ·obtain⟨b,a,r1,r2,rfl,c,hx,hf,c1,c2⟩:=(HR.out.below hb).at hkn;have q1:=HE.out _ (Bi hx);have hm:=fun w=>zD1 r1 r2 w;rw[q1]at hm;have HX:=xI hx;clear hx q1;go_wp2_with (first|(go_at_call 103;refine (hm _).mono ?_;rintro e w' ⟨rfl,hb1⟩))
   all_goals go_roundw
   case rel=>exact⟨k+1,by go_num,by omega,hb.trans (hb1.mono hb.size)⟩
   case measure=>simp[intOf];omega
  ·go_wp2;go_ret;exact⟨rfl,hb⟩
theorem zFx (A:Option Addr) (n cap:Nat) (rs:List Rg) (w:World) (m:Nat) (x:Rg) (hR:RngS w w.heap.size A n rs) (hn:n<=1000000000) (hx:rs[m]?=some x) (hxe:zBa x=true) (h:∀ j r,j<m->rs[j]?=some r->zBa r=false) :
  Calls tP 147 #[vS A n cap,.func (.func 103) #[] #[]] w fun e w'=>e=.returned (vI i6 m)/\bW w w':=by
 have d:m<n:=by have:=(Bx.1 hx).1;rw[hR.1];exact this
 have HR:=xI hR;have HE:=xI h;have HM:=xI hx;clear hR h hx;go_enter func147,ntmps147;go_wp2
 go_loopw [5,8] (fun _ i wr=>∃ k:Nat,i=vI i6 k/\k<=m/\bW w wr) (fun _ i _=>n-(intOf i).toNat)
 case atStart=>exact⟨0,rfl,by omega,By _ _⟩
 case round=>
  obtain⟨k,rfl,hk,hb⟩:=hrel;have a:k<n:=by omega
  obtain⟨b,c,r1,r2,rfl,f,hx,hf,c1,c2⟩:=(HR.out.below hb).at a;have hm:=fun w=>zD1 r1 r2 w;by_cases hkm:k<m
  ·have q1:=HE.out k _ hkm hx;rw[q1]at hm;have HX:=xI hx;clear hx q1;go_wp2_with (first|(go_at_call 103;refine (hm _).mono ?_;rintro e w' ⟨rfl,hb1⟩))
   all_goals go_roundw
   case rel=>exact⟨k+1,by go_num,by omega,hb.trans (hb1.mono hb.size)⟩
   case measure=>simp[intOf];omega
  ·obtain rfl:k=m:=by omega
   have q1:zBa (r1,r2)=true:=by
    have:=HM.out;rw[hx]at this;injection this with this;rw[this];exact hxe
   rw[q1]at hm;have HX:=xI hx;clear hx q1;go_wp2_with (first|(go_at_call 103;refine (hm _).mono ?_;rintro e w' ⟨rfl,hb1⟩))
   all_goals go_ret
   all_goals exact⟨rfl,hb.trans (hb1.mono hb.size)⟩
end Go.Proofs.YteedihhdcbepmaaGreat.Iv
namespace Go.Proofs.YteedihhdcbepmaaGreat
open Go Go.RowKit
def NRow (w:World) (g n:Nat) (css:List (List Value)):Prop:=∃ arr:Array Value,w.heap[g]?=some (.cells arr 40 (0,0))/\arr.size=n*8/\∀ j cs,css[j]?=some cs->cs.length=8/\∀ i,i<8->arr[j*8+i]?=cs[i]?
theorem NRow.on {w w':World}{g n:Nat}{css:List (List Value)}(h:NRow w g n css) (hb:w'.heap[g]?=w.heap[g]?):NRow w' g n css:=by
 obtain⟨a,h1,h2⟩:=h;exact⟨a,hb.trans h1,h2⟩
theorem NRow.lt {w:World}{g n:Nat}{css:List (List Value)}(h:NRow w g n css):g<w.heap.size:=by
 obtain⟨a,h1,_⟩:=h;exact (Cp.1 h1).1
theorem NRow.cell {w:World}{g n:Nat}{css:List (List Value)}(h:NRow w g n css){k:Nat}(hk:k<n*8):∃ v,w.cell? (aD g k)=some v:=by
 obtain⟨a,h1,h2,_⟩:=h;exact⟨a[k],(Bu h1 k).trans (Fw (by omega))⟩
theorem NRow.froz {w:World}{g n:Nat}{css:List (List Value)}(h:NRow w g n css) (k:Nat):w.frozen? (aD g k)=false:=by
 obtain⟨a,h1,_⟩:=h;exact Bz h1 k
theorem NRow.put {w:World}{g n j:Nat}{css:List (List Value)}(h:NRow w g n css) (hj:css.length=j) (hn:j<n) (v0 v1 v2 v3 v4 v5 v6 v7:Value) (V:World) (hV:V=((((((((w.setCell ⟨g,j*8,none⟩ v0).setCell ⟨g,j*8+1,none⟩ v1).setCell ⟨g,j*8+2,none⟩ v2).setCell ⟨g,j*8+3,none⟩ v3).setCell ⟨g,j*8+4,none⟩ v4).setCell ⟨g,j*8+5,none⟩ v5).setCell ⟨g,j*8+6,none⟩ v6).setCell ⟨g,j*8+7,none⟩ v7)) :
  NRow V g n (css++[[v0,v1,v2,v3,v4,v5,v6,v7]])/\V.heap.size=w.heap.size/\(∀ b,b≠g->V.heap[b]?=w.heap[b]?)/\∀ H,H<=g->Below H w V:=by
 subst hV;obtain⟨c,h1,h2,h3⟩:=h;have e0:=Bm w g (j*8) _ _ v0 h1;have e1:=Bm _ g (j*8+1) _ _ v1 e0;have e2:=Bm _ g (j*8+2) _ _ v2 e1;have e3:=Bm _ g (j*8+3) _ _ v3 e2;have e4:=Bm _ g (j*8+4) _ _ v4 e3;have e5:=Bm _ g (j*8+5) _ _ v5 e4;have e6:=Bm _ g (j*8+6) _ _ v6 e5;have e7:=Bm _ g (j*8+7) _ _ v7 e6;refine⟨⟨_,e7,by simpa using h2,fun m cs hm=>?_⟩,by simp,fun b hb=>?_,fun H hH=>(((((((((By H w).setCell (p:=(aD g _)) hH _).setCell (p:=(aD g _)) hH _).setCell (p:=(aD g _)) hH _).setCell (p:=(aD g _)) hH _).setCell (p:=(aD g _)) hH _).setCell (p:=(aD g _)) hH _).setCell (p:=(aD g _)) hH _).setCell (p:=(aD g _)) hH _)⟩
 ·by_cases hmj:m<j
  ·rw[Do (by omega)]at hm;obtain⟨h4,h5⟩:=h3 m cs hm;refine⟨h4,fun i hi=>?_⟩;rw[<-h5 i hi];simp only[Array.getElem?_setIfInBounds];rw[if_neg (by omega),if_neg (by omega),if_neg (by omega),if_neg (by omega),if_neg (by omega),if_neg (by omega),if_neg (by omega),if_neg (by omega)]
  ·rw[Dz (by omega)]at hm;have a:m=j:=by have:=(Bx.1 hm).1;simp at this;omega
   subst a;rw[hj,Nat.sub_self]at hm;injection hm with hm;subst hm;refine⟨rfl,fun i hi=>?_⟩;have:i=0\/i=1\/i=2\/i=3\/i=4\/i=5\/i=6\/i=7:=by omega
   rcases this with rfl|rfl|rfl|rfl|rfl|rfl|rfl|rfl<;>simp[Array.getElem?_setIfInBounds]<;>omega
 ·iterate 8 rw[Bp _ _ _ _ hb]
end Go.Proofs.YteedihhdcbepmaaGreat
