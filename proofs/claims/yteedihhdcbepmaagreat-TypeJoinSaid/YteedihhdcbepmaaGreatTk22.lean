/- The program's Join, at well-formed types. -/
import Derived.Test.YteedihhdcbepmaaGreatTk21
set_option maxRecDepth 100000
set_option maxHeartbeats 12800000
open Go.Value renaming slice→vS,int→vI,string→vT
open Go.IntKind renaming i64→i6
open Go.Proofs.Tryz renaming prog→tP
set_option linter.all false
namespace Go.Proofs.YteedihhdcbepmaaGreat
open Go Go.RowKit
theorem zPh {ns ms:List Tn}{r1 r2:Int}{A1 A2:Option Addr}{c1 c2 H:Nat}(w:World) (hH:H<=w.heap.size) (hs:TyP w H ns r1 [vS A1 ns.length c1,vI i6 r1]) (ht:TyP w H ms r2 [vS A2 ms.length c2,vI i6 r2]) (hws:WfT (ns,r1)) (hwt:WfT (ms,r2)) (hn:ns.length<=1000000) (hm:ms.length<=1000000)
  (hks:∀ x∈ns,x.kids.length<=1048576/\x.fds.length<=1048576) (hkt:∀ x∈ms,x.kids.length<=1048576/\x.fds.length<=1048576) :
  Calls tP 37 #[.agg #[vS A1 ns.length c1,vI i6 r1],.agg #[vS A2 ms.length c2,vI i6 r2]] w fun e w'=>(∃ A c,e=.returned (.tuple #[.agg #[vS A (joinN ns ms).length c,vI i6 r1],vI i6 (ns.length+r2)])/\TyB w' (Btw w.heap.size w'.heap.size) (joinN ns ms) r1 [vS A (joinN ns ms).length c,vI i6 r1])/\bW w w':=by
 obtain⟨W,hW⟩:∃ W,W=(((w.alloc (oE A1 ns.length c1 r1)).alloc (oE A2 ms.length c2 r2)).alloc (oE none 0 0 0)):=⟨_,rfl⟩;have C:bW w W:=by rw[hW];exact ((yR.alloc lR _).alloc (by simp) _).alloc (by simp;omega) _
 have k0:W.heap[w.heap.size]?=some (oE A1 ns.length c1 r1):=by rw[hW,Below.heap_alloc _ _ _ (by simp;omega),Below.heap_alloc _ _ _ (by simp)];exact heap_alloc_new w _
 have k1:W.heap[w.heap.size+1]?=some (oE A2 ms.length c2 r2):=by rw[hW,Below.heap_alloc _ _ _ (by simp)];exact zAg _ (by simp)
 have k2:W.heap[w.heap.size+1+1]?=some (oE none 0 0 0):=by rw[hW];exact zAg _ (by simp)
 have M:W.heap.size=w.heap.size+3:=by rw[hW];simp
 have hd:bW W W.drew:=yR.drew;have HQ:Hid (∀ wq,bW W wq->(jT wq w.heap.size A1 ns.length c1 r1)/\(jT wq (w.heap.size+1) A2 ms.length c2 r2)):=xI fun U hU=>⟨zAf ((hU.block _ (by omega)).trans k0),zAf ((hU.block _ (by omega)).trans k1)⟩;have Z:Calls tP 79 #[.agg #[vS A1 ns.length c1,vI i6 r1]] W.drew (TyOut H W.drew (ns,r1)):=by
  have h:=zDk (H:=H) W.drew (by show H<=W.heap.size;omega) (TyB.on hs ((C.mono hH).trans (hd.mono (by omega)))) hn
  rwa [zNl hws]at h
 have X:Hid (∀ U,bW W U->Calls tP 79 #[.agg #[vS A2 ms.length c2,vI i6 r2]] U (TyOut H U (ms,r2))):=xI fun U hU=>by
  have h:=zDk (H:=H) U (by have:=hU.size;omega) (TyB.on ht ((C.mono hH).trans (hU.mono (by omega)))) hm
  rwa [zNl hwt]at h
 have HK:=xI (aN k0 (aN k1 k2));have HP:=xI (aN C (aN hws (aN hwt (aN hn (aN hm (aN hks hkt))))));clear C k0 k1 k2 hs ht hws hwt hn hm hks hkt;go_enter Tryz.func37,Tryz.ntmps37;go_wp2_with fail;rw[<-hW];clear hW;have hq:=HQ.out _ hd;obtain⟨⟨a1,a2⟩,a3,a4⟩:=hq;refine ub 5 (fun _=>True) (fun wq=>jT wq (w.heap.size+1) A2 ms.length c2 r2) ?_;refine oK 2 ⟨trivial,(HQ.out _ hd).2⟩ ?_ (hy:=Or.inl ⟨by rfl,(by intro w hSw;obtain⟨a3,a4⟩:=hSw;go_simp;try with_reducible rfl)⟩)
 refine uo 0 (fun K9 hK=>?_);go_simp;refine hK _ _ ⟨trivial,fun _=>(HQ.out _ hd).2⟩ (oQ ?_);clear hK K9 a1 a2 a3 a4;refine uo 1 (fun K9 hK=>?_);go_simp;refine Z.mono ?_;rintro e w1 ⟨⟨Aa,ca,rfl,hTa⟩,hb1⟩;clear Z;have f:=hd.trans (hb1.mono hd.size);refine hK _ _ ⟨trivial,fun _=>(HQ.out _ f).2⟩ (oQ ?_);clear hK K9;refine uo 3 (fun K9 hK=>?_);go_simp;refine (X.out _ f).mono ?_;rintro e w2 ⟨⟨Ab,cb,rfl,hTb⟩,hb2⟩;have d:=f.trans (hb2.mono f.size);refine hK _ _ ⟨trivial,fun _=>(HQ.out _ d).2⟩ (oQ ?_);clear hK K9;have k0:=(d.block _ (by omega)).trans HK.out.1;have k1:=(d.block _ (by omega)).trans HK.out.2.1;have k2:=(d.block _ (by omega)).trans HK.out.2.2;obtain⟨e0,e1⟩:=zAf k0;obtain⟨e2,e3⟩:=zAf k1;have f0:=Lib.frozen_of_heap k0 0;have f1:=Lib.frozen_of_heap k0 1;refine uo 4 (fun K9 hK=>?_);go_simp;obtain⟨V1,I⟩:∃ V1,V1=(w2.setCell (aH w 0) (vS Aa ns.length ca)).setCell (aH w 1) (vI i6 r1):=⟨_,rfl⟩;rw[<-I];obtain⟨p1,p2,p3,p4⟩:=box2x k0 _ _ V1 I;clear I e0 e1 f0 f1;have o:=(p3 (w.heap.size+1) (by omega)).trans k1;have L:=(p3 (w.heap.size+1+1) (by omega)).trans k2;refine hK _ _ ⟨trivial,fun _=>zAf o⟩ (oQ ?_);clear hK K9;obtain⟨e2,e3⟩:=zAf o;have f2:=Lib.frozen_of_heap o 0;have f3:=Lib.frozen_of_heap o 1;refine uo 5 (fun K9 hK=>?_);go_simp;obtain⟨V2,G⟩:∃ V2,V2=(V1.setCell (aE w 0) (vS Ab ms.length cb)).setCell (aE w 1) (vI i6 r2):=⟨_,rfl⟩;rw[<-G];obtain⟨q1,q2,q3,q4⟩:=box2x o _ _ V2 G;clear G e2 e3 f2 f3;refine hK _ _ ⟨trivial,ug⟩ (oQ ?_);clear hK K9;refine (ud ?_) _;have T:=hd.size;have R:=hb1.size;have Q:=hb2.size;have kA:=(q3 w.heap.size (by omega)).trans p1;have kR:=(q3 (w.heap.size+1+1) (by omega)).trans L;have N:bW w V2:=((HP.out.1.trans (d.mono HP.out.1.size)).trans (p4 _ lR)).trans (q4 _ (by omega));have aq:W.drew.heap.size=W.heap.size:=rfl;have t:V2.heap.size=w2.heap.size:=by omega
 have ag:TyP V2 V2.heap.size ns r1 [vS Aa ns.length ca,vI i6 r1]:=(hTa.keep (w':=V2) ⟨by omega,fun b i hb hl=>World.cell?_of_block (((q3 b (by rcases hb with h|h<;>omega)).trans (p3 b (by rcases hb with h|h<;>omega))).trans (hb2.block b hl))⟩).sub fun b hb=>by rcases hb with h|h<;>omega
 have af:TyP V2 V2.heap.size ms r2 [vS Ab ms.length cb,vI i6 r2]:=(hTb.keep (w':=V2) ⟨by omega,fun b i hb hl=>World.cell?_of_block ((q3 b (by rcases hb with h|h<;>omega)).trans (p3 b (by rcases hb with h|h<;>omega)))⟩).sub fun b hb=>by rcases hb with h|h<;>omega
 have HZ:Hid (∀ U,bW V2 U->((jT U w.heap.size Aa ns.length ca r1)/\jT U (w.heap.size+1) Ab ms.length cb r2)):=xI fun U hU=>⟨zAf ((hU.block _ (by omega)).trans kA),zAf ((hU.block _ (by omega)).trans q1)⟩;have HY:=xI (aN ag (aN af (aN kR (aN N (aN t (aN M (aN T (aN R Q))))))));clear ag af kA kR N p1 p2 p3 p4 q1 q2 q3 q4 hTa hTb hb1 hb2 f d k0 k1 k2 o L T R Q HQ X HK t;generalize V2=Y at *;clear hd M;have hz:=(HZ.out Y yR).1.1;have hd:bW Y Y.drew:=yR.drew;have z:0<=r2/\r2<(ms.length:Int):=HP.out.2.2.1.rt;have r:1<=ms.length:=by have:=z;omega
 have ad:Calls tP 81 #[vS Aa ns.length ca,vI i6 0] Y.drew fun e w'=>∃ (g:Nat) (css:List (List Value)),e=.returned (vS (some (aD g 0)) ns.length ns.length)/\NRow w' g ns.length css/\css.length=ns.length/\(∀ (j:Nat) (cs:List Value) (x:Tn),css[j]?=some cs->ns[j]?=some x->TnB w' (fun b=>Y.heap.size<=b/\b<w'.heap.size/\b≠g) x cs)/\Y.heap.size<=g/\Below Y.heap.size Y.drew w':=by
  obtain⟨u,hu,_,n⟩:=HY.out.1.on hd;injection hu with hu _;subst hu;have h:=zGv ns Aa ca Y.heap.size 0 Y.drew lR n HP.out.2.2.2.1 (by omega) HP.out.2.1.wf.edg HP.out.2.2.2.2.2.1;rw[show upI 0=id from by funext k;unfold upI;simp]at h;simp only[zP7]at h;exact h
 clear z;generalize hnn:ns.length=nn at *;generalize hmm:ms.length=mm at *;have HL:=xI (aN hnn (aN hmm r));clear hnn hmm r;go_wp2_with fail;clear hz;refine wp_region_held_drew (S:=fun wq=>((jT wq w.heap.size Aa nn ca r1)/\jT wq (w.heap.size+1) Ab mm cb r2)) (by kernel_rfl) (HZ.out _ hd) (fun _=>?_);refine oT 0 (HZ.out _ hd) ?_;refine oT 1 (HZ.out _ hd) ?_;refine oT 3 (HZ.out _ hd) ?_
 (iterate 2 refine oY (HZ.out _ hd) ?_)
 refine zDm 2 (by kernel_rfl) rfl (by rfl) (fun K9 hK=>?_);go_simp;refine ad.mono ?_;rintro e w1 ⟨g,css,rfl,hnr,hcl,htn,hg,hb1⟩;clear ad;have f:=hd.trans (hb1.mono hd.size);refine hK _ _ (HZ.out _ f) (oP ?_);clear hK K9;have ab:Calls tP 80 #[vS (some (aD g 0)) nn nn,vI i6 mm] w1 fun e w'=>∃ v,e=.returned v/\OwnT w' Y.heap.size v ns/\bW w1 w':=by
  have ap:w.heap.size<=Y.heap.size:=HY.out.2.2.2.1.size;have h:=zPj ns css g Y.heap.size mm w1 (by rw[HL.out.1];exact hnr) (by rw[HL.out.1];exact hcl) (by rw[HL.out.1];exact HP.out.2.2.2.1) HL.out.2.2 HP.out.2.2.2.2.1 f.size (fun j cs x h1 h2=>(htn j cs x h1 h2).sub fun b hb=>⟨hb.1,hb.2.1⟩)
  rwa [HL.out.1]at h
 refine zDm 6 (by kernel_rfl) rfl (by rfl) (fun K9 hK=>?_);go_simp;refine ab.mono ?_;rintro e w2 ⟨v,rfl,hown,hb2⟩;clear ab;have d:=f.trans (hb2.mono f.size);refine hK _ _ (HZ.out _ d) (oP ?_);clear hK K9;refine oT 7 (HZ.out _ d) ?_;refine (wD ?_) _;have hD:bW Y w2.drew:=d.drew;obtain⟨Av,cv,O⟩:=hown.form;rw[HL.out.1]at O;subst O;have z:0<=r2/\r2<(ms.length:Int):=HP.out.2.2.1.rt;have al:IntKind.i64.wrap ((nn:Int)+r2)=(nn:Int)+r2:=IntWalk.i64_in _ (by have h1:=HP.out.2.2.2.1;have h2:=HP.out.2.2.2.2.1;have h3:=HL.out.1;have h4:=HL.out.2.1;omega);have aa:Calls tP 81 #[vS Ab mm cb,vI i6 nn] w2.drew fun e w'=>∃ g,e=.returned (vS (some (aD g 0)) mm mm)/\RowB w' (Btw w2.drew.heap.size w'.heap.size) 8 (vS (some (aD g 0)) mm mm) mm (tnR w' (Btw w2.drew.heap.size w'.heap.size) (ms.map (mvd (upI nn))))/\Below w2.drew.heap.size w2.drew w':=by
  obtain⟨u,hu,_,n⟩:=HY.out.2.1.on hD;injection hu with hu _;subst hu;have h:=zLd ms Ab cb Y.heap.size nn w2.drew hD.size (by have h9:=n;rw[HL.out.2.1]at h9 ⊢;exact h9) (by rw[HL.out.2.1];exact HP.out.2.2.2.2.1) HP.out.2.2.2.1 HP.out.2.2.1.wf.edg HP.out.2.2.2.2.2.2
  rwa [HL.out.2.1]at h
 clear z hnr hcl htn hg;go_wp2_with fail;refine wp_region_held_drew (S:=fun wq=>((jT wq w.heap.size Aa nn ca r1)/\jT wq (w.heap.size+1) Ab mm cb r2)) (by kernel_rfl) (HZ.out _ hD) (fun _=>?_);refine oT 0 (HZ.out _ hD) ?_
 (iterate 3 refine oY (HZ.out _ hD) ?_)
 refine oT 6 (HZ.out _ hD) ?_;refine oT 7 (HZ.out _ hD) ?_;refine oT 9 (HZ.out _ hD) ?_
 (iterate 3 refine oY (HZ.out _ hD) ?_)
 refine zDm 4 (by kernel_rfl) rfl (by rfl) (fun K9 hK=>?_);go_simp;refine aa.mono ?_;rintro e w3 ⟨g2,rfl,hrow3,hb3⟩;clear aa;have K:=hD.trans (hb3.mono hD.size);refine hK _ _ (HZ.out _ K) (oP ?_);clear hK K9;obtain⟨i0,hi,ak,aj,ai⟩:=info_parts namT.inf;have m:OwnT w3 Y.heap.size (vS Av nn cv) ns:=OwnE.old (OwnE.old hown yR.drew) hb3;have a:=fun g (hg:(vS Av nn cv).ownBlock=some g)=>OwnE.ltB hown hg;obtain⟨v4,w4,V,J,ae,an,ao⟩:=zBg elT 22 22 40 i0 _ 8 104 namT.und hi ak aj ai namT.siz (by decide) (by decide) (fun x w B cs h=>zM2 h) w3 Y.heap.size (vS Av nn cv) ns m (some (aD g2 0)) mm mm (ms.map (mvd (upI nn))) (by rw[List.length_map];exact HL.out.2.1) (Btw w2.drew.heap.size w3.heap.size)
  (RowB.sub hrow3 (fun b hb=>hb) fun j cs ⟨x,hx,h⟩=>⟨x,hx,h.sub fun b hb=>⟨by have:=hb.1;have:=hD.size;omega,hb.2,fun he=>by have h1:=a _ he.symm;have h2:=hb.1;have h3:w2.drew.heap.size=w2.heap.size:=rfl;omega⟩⟩)
  (by have h1:=HP.out.2.2.2.1;have h2:=HP.out.2.2.2.2.1;have h3:=HL.out.2.1;have h4:=HL.out.1;omega) K.size
 have p:bW Y w4:=K.trans ae;have D:(ns++ms.map (mvd (upI nn))).length<=maxLen:=by rw[List.length_append,List.length_map];have h1:=HP.out.2.2.2.1;have h2:=HP.out.2.2.2.2.1;have h3:=HL.out.2.1;have h4:=HL.out.1;unfold maxLen;omega
 have HJ:Hid (joinN ns ms=ns++ms.map (mvd (upI nn))):=xI (by unfold joinN;rw[HL.out.1]);generalize ns++ms.map (mvd (upI nn))=jl at *;refine zDm 5 (by kernel_rfl) rfl (by rfl) (fun K9 hK=>?_);refine Lib.wp_append_run _ _ _ _ _ rfl _ _ rfl rfl _ w4 V ?_;obtain⟨A4,c4,rfl⟩:=J.form;refine hK _ _ (HZ.out _ p) (oP ?_);clear hK K9;refine oT 8 (HZ.out _ p) ?_;have k2:=(p.block (w.heap.size+1+1) (by have h1:=HY.out.2.2.2.2.1;have h2:=HY.out.2.2.2.2.2.1;have h3:=HY.out.2.2.2.2.2.2;have h4:W.drew.heap.size=W.heap.size:=rfl;omega)).trans HY.out.2.2.1;obtain⟨e0,e1⟩:=zAf k2;have f0:=Lib.frozen_of_heap k2 0;have f1:=Lib.frozen_of_heap k2 1;refine zDm 13 (by kernel_rfl) rfl (by rfl) (fun K9 hK=>?_);go_simp;obtain⟨V4,F⟩:∃ V4,V4=(w4.setCell (aF w 0) (vS A4 jl.length c4)).setCell (aF w 1) (vI i6 r1):=⟨_,rfl⟩;rw[<-F];obtain⟨p1,p2,p3,p4⟩:=box2x k2 _ _ V4 F;have y:=HZ.out _ p;have ah:((jT V4 w.heap.size Aa nn ca r1)/\jT V4 (w.heap.size+1) Ab mm cb r2):=
  ⟨⟨(World.cell?_of_block (p3 w.heap.size (by omega))).trans y.1.1,(World.cell?_of_block (p3 w.heap.size (by omega))).trans y.1.2⟩,(World.cell?_of_block (p3 (w.heap.size+1) (by omega))).trans y.2.1,(World.cell?_of_block (p3 (w.heap.size+1) (by omega))).trans y.2.2⟩
 have am:w.heap.size+3<=Y.heap.size:=by have h1:=HY.out.2.2.2.2.1;have h2:=HY.out.2.2.2.2.2.1;have h3:=HY.out.2.2.2.2.2.2;have h4:W.drew.heap.size=W.heap.size:=rfl;omega
 have E:=p.size;have s:bW w V4:=(HY.out.2.2.2.1.trans (p.mono (by omega))).trans (p4 _ (by omega));have q:i64B r1:=by obtain⟨_,_,h,_⟩:=HY.out.1;exact h
 have hj:joinN ns ms=jl:=HJ.out;have l:RowB V4 (Btw w.heap.size V4.heap.size) 8 (vS A4 jl.length c4) jl.length (tnR V4 (Btw w.heap.size V4.heap.size) jl):=by
  have h:=OwnT.row J D;have P:Same (Btw Y.heap.size w4.heap.size) w4 V4:=⟨by omega,fun b i hb _=>World.cell?_of_block (p3 b (by have:=hb.1;omega))⟩;exact (h.keep (R':=tnR V4 (Btw Y.heap.size w4.heap.size) jl) P fun _ _ ⟨x,hx,h⟩=>⟨x,hx,h.keep P⟩).sub (fun b hb=>⟨by have:=hb.1;omega,by have:=hb.2;omega⟩) fun _ _ ⟨x,hx,h⟩=>⟨x,hx,h.sub fun b hb=>⟨by have:=hb.1;omega,by have:=hb.2;omega⟩⟩
 have HF:=xI (aN p1 (aN s (aN q (aN hj l))));clear p1 p2 p3 p4 y am E s q hj l F e0 e1 f0 f1 k2 m a J ae an ao V;refine hK _ _ ah (oP ?_);clear hK K9;refine oT 14 ah ?_;refine (wD ?_) _;go_wp2;obtain⟨z0,z1⟩:=zAf HF.out.1;refine bodyPost_ret (v:=.tuple #[.agg #[vS A4 jl.length c4,vI i6 r1],vI i6 (nn+r2)]) (by simp[results,Tryz.f37,go_sem,z0,z1,al]) rfl ⟨⟨A4,c4,?_,?_⟩,HF.out.2.1⟩
 ·rw[HF.out.2.2.2.1,HL.out.1]
 ·rw[HF.out.2.2.2.1];exact⟨_,rfl,HF.out.2.2.1,HF.out.2.2.2.2⟩
theorem zN6 (k:Nat) (v:Vl) (cs:List Value) (w:World) (h:VS k w w.heap.size v cs) (hkd:zAn v=8):Calls tP 120 #[.agg cs.toArray] w fun e w'=>e=.returned (.bool (nodeV v))/\bW w w':=by
 cases k with
 | zero=>exact h.elim
 | succ k=>
 obtain⟨t,C,r,c,a,d,n⟩:=v;have aG:=xI hkd;clear hkd;obtain⟨uk,uy,ue,ul,rfl,aP,aO,ax,hk,al,he,am⟩:=h;obtain⟨A,cA,rfl,az⟩:=hk.form;obtain⟨Y,cY,rfl,ay⟩:=al.form;obtain⟨E,cE,rfl,aA⟩:=he.form;obtain⟨L,cL,rfl,Z⟩:=am.form;have aW:=xI hk;have aF:=xI al;have aX:=xI he;have aE:=xI am;have ai:=xI (aN ax (aN az (aN ay (aN aA Z))));clear hk al he am aP aO ax az ay aA Z;have HR:Hid (nodeV (.mk t C r c a d n)=(zAj n&&usesB t C r c a d&&kindB t C r c a d)):=xI rfl;generalize nodeV (.mk t C r c a d n)=y at HR ⊢;obtain⟨W,hW⟩:∃ W,W=w.alloc (oV t C ⟨r.toArray⟩ A c.length cA Y a.length cY E d.length cE L n.length cL):=⟨_,rfl⟩;have aB:bW w W:=by rw[hW];exact yR.alloc lR _
 have d0:W.cell? (aH w 0)=some (vI i6 t):=by rw[hW];simp
 have d1:W.cell? (aH w 1)=some (vI i6 C):=by rw[hW];simp
 have d2:W.cell? (aH w 2)=some (vT ⟨r.toArray⟩):=by rw[hW];simp
 have d3:W.cell? (aH w 3)=some (vS A c.length cA):=by rw[hW];simp
 have d4:W.cell? (aH w 4)=some (vS Y a.length cY):=by rw[hW];simp
 have d5:W.cell? (aH w 5)=some (vS E d.length cE):=by rw[hW];simp
 have d6:W.cell? (aH w 6)=some (vS L n.length cL):=by rw[hW];simp
 have H:w.heap.size<W.heap.size:=by rw[hW];simp
 have HB:=xI aB;clear aB;go_enter Tryz.func120,Tryz.ntmps120;go_wp2_with fail;rw[<-hW];clear hW;generalize hnl:n.length=nl at *;have ae:=xI hnl;clear hnl
 go_loopw [3] (fun i wr=>∃ j:Nat,i=vI i6 j/\j<=nl/\zAj (n.take j)=true/\bW W wr) (fun i _=>nl-(intOf i).toNat)
 case atStart=>exact⟨0,rfl,by omega,by simp[zAj,AscC],Below.refl _ _⟩
 case round=>
  obtain⟨j,rfl,hj,F,hb⟩:=hrel;have s:=xI F;clear F;have e6:wr.cell? (aH w 6)=some (vS L nl cL):=(hb.cell (p:=(aH w 6)) H).trans d6;by_cases hjn:j<nl
  ·have ap:bW w wr:=HB.out.trans (hb.mono HB.out.size);obtain⟨b,o,au,x0,hu,aq,⟨x,hx,R,ah⟩,c0⟩:=(aE.out.on ap (fun _ _ h=>h)).at1 (j:=j) (by have:=ae.out;omega);injection hu with hA hNN hcc;subst hA hcc;clear hNN;simp only[List.cons.injEq,and_true]at R;subst R;have D:=zBj ⟨x.toArray⟩ wr.drew (by simpa [ByteArray.size] using ah);rw[show (⟨x.toArray⟩:ByteArray).data.toList=x from rfl]at D;have HX:=xI hx;have HV:=xI hb;have u:=xI ap;have kn:(j:Int)<(nl:Int):=by omega
   have k0:(0:Int)<=(j:Int):=by omega
   have aT:Hid (varB x=varB x):=xI rfl;generalize hvx:varB x=z at D;have O:=xI hvx;clear hx hb ap hvx aT;cases z
   ·have HU:Hid (y=false):=xI (by rw[HR.out,zCa HX.out (.inl O.out)];rfl);go_wp2_with fail;refine wp_region_held_drew (S:=fun V=>V.cell? (aH w 6)=some (vS (some (aD b o)) nl cL)/\V.cell? (aD b (o+j))=some (vT ⟨x.toArray⟩)) (by kernel_rfl) ⟨e6,c0⟩ (fun hHeld=>?_);refine oT 0 hHeld ?_
    (iterate 4 refine oY hHeld ?_)
    refine oO 5 fun K hK=>?_;go_simp;refine D.mono ?_;rintro e w2 ⟨rfl,hw2⟩;subst hw2;refine hK _ _ hHeld (oP ?_);refine oT 6 hHeld ?_;refine oT 7 hHeld ?_;refine oU 8 hHeld ?_
    (iterate 15 refine oZ hHeld ?_)
    refine oT 24 hHeld ?_;refine (wD ?_) _;go_wp2;go_ret;exact⟨zAb HU.out.symm,u.out.drew⟩
   ·by_cases hj0:j=0
    ·subst hj0;have P:=xI (zBn HX.out s.out O.out (.inl rfl));have q0:decide ((0:Int)<((0:Nat):Int))=false:=rfl;go_wp2_with fail;refine wp_region_held_drew (S:=fun V=>V.cell? (aH w 6)=some (vS (some (aD b o)) nl cL)/\V.cell? (aD b o)=some (vT ⟨x.toArray⟩)) (by kernel_rfl) ⟨e6,by simpa using c0⟩ (fun hHeld=>?_);refine oT 0 hHeld ?_
     (iterate 4 refine oY hHeld ?_)
     refine oO 5 fun K hK=>?_;go_simp;refine D.mono ?_;rintro e w2 ⟨rfl,hw2⟩;subst hw2;refine hK _ _ hHeld (oP ?_);refine oT 6 hHeld ?_
     (iterate 4 refine oY hHeld ?_)
     refine oU 11 hHeld ?_
     (iterate 11 refine oZ hHeld ?_)
     refine oT 23 hHeld ?_;refine oT 24 hHeld ?_;refine (wD ?_) _;go_wp2_with fail
     go_roundw
     case rel=>exact⟨0+1,by go_num,by omega,P.out,HV.out.drew⟩
     case measure=>simp[intOf];omega
    ·obtain⟨m,hm⟩:∃ m,j=m+1:=⟨j-1,by omega⟩;obtain⟨b',ak,ar,x1,hu,_,⟨p,hp,T,aV⟩,c1⟩:=(aE.out.on u.out (fun _ _ h=>h)).at1 (j:=m) (by have:=ae.out;omega);injection hu with hA hNN hcc;injection hA with hA;injection hA with g1 g2;subst g1 g2;clear hNN hcc;simp only[List.cons.injEq,and_true]at T;subst T;have HP:Hid (n[j-1]?=some p):=xI (by rw[hm,Nat.add_sub_cancel];exact hp);have aw:Hid (0<j):=xI (by omega);have q0:decide (0<j)=true:=by rw[decide_eq_true_eq];omega
     have qm:IntKind.i64.wrap ((j:Int)-1)=(m:Int):=by rw[IntWalk.i64_in _ (by have:=ai.out.2.2.2.2;have:=ae.out;unfold maxLen at *;omega)];omega
     have km:(m:Int)<(nl:Int):=by omega
     have aQ:(0:Int)<=(m:Int):=by omega
     have an:=zFs p x;generalize hgz:Op.bytesLess p x=g at an;have aJ:=xI an;clear hp hm an hj0;cases g
     ·have HU:Hid (y=false):=xI (by rw[HR.out,zCa HX.out (.inr ⟨aw.out,p,HP.out,by have:=aJ.out;simpa using this.symm⟩)];rfl);go_wp2_with fail;refine wp_region_held_drew (S:=fun V=>V.cell? (aH w 6)=some (vS (some (aD b o)) nl cL)/\V.cell? (aD b (o+j))=some (vT ⟨x.toArray⟩)/\V.cell? (aD b (o+m))=some (vT ⟨p.toArray⟩)) (by kernel_rfl) ⟨e6,c0,c1⟩ (fun hHeld=>?_);refine oT 0 hHeld ?_
      (iterate 4 refine oY hHeld ?_)
      refine oO 5 fun K hK=>?_;go_simp;refine D.mono ?_;rintro e w2 ⟨rfl,hw2⟩;subst hw2;refine hK _ _ hHeld (oP ?_);refine oT 6 hHeld ?_
      (iterate 18 refine oY hHeld ?_)
      refine (wD ?_) _;go_wp2;go_ret;exact⟨zAb HU.out.symm,u.out.drew⟩
     ·have P:=xI (zBn HX.out s.out O.out (.inr ⟨p,HP.out,by have:=aJ.out;simpa using this.symm⟩));have qj:IntKind.i64.wrap ((j:Int)+1)=(j:Int)+1:=IntWalk.i64_in _ (by have:=ai.out.2.2.2.2;have:=ae.out;unfold maxLen at *;omega);go_wp2_with fail;refine wp_region_held_drew (S:=fun V=>V.cell? (aH w 6)=some (vS (some (aD b o)) nl cL)/\V.cell? (aD b (o+j))=some (vT ⟨x.toArray⟩)/\V.cell? (aD b (o+m))=some (vT ⟨p.toArray⟩)) (by kernel_rfl) ⟨e6,c0,c1⟩ (fun hHeld=>?_);refine oT 0 hHeld ?_
      (iterate 4 refine oY hHeld ?_)
      refine oO 5 fun K hK=>?_;go_simp;refine D.mono ?_;rintro e w2 ⟨rfl,hw2⟩;subst hw2;refine hK _ _ hHeld (oP ?_);refine oT 6 hHeld ?_
      (iterate 18 refine oY hHeld ?_)
      refine (wD ?_) _;go_wp2_with fail
      go_roundw
      case rel=>exact⟨j+1,by go_num,by omega,P.out,HV.out.drew⟩
      case measure=>simp[intOf];omega
  ·have aU:Hid (zAj n=true):=xI (by
    have ao:n.take j=n:=List.take_of_length_le (by have:=ae.out;omega);rw[<-ao];exact s.out)
   have u:=xI (HB.out.trans (hb.mono HB.out.size));have Q:=xI (Nat.lt_of_lt_of_le H hb.size);have e0:wr.cell? (aH w 0)=some (vI i6 t):=(hb.cell (p:=(aH w 0)) H).trans d0;have e1:wr.cell? (aH w 1)=some (vI i6 C):=(hb.cell (p:=(aH w 1)) H).trans d1;have e2:wr.cell? (aH w 2)=some (vT ⟨r.toArray⟩):=(hb.cell (p:=(aH w 2)) H).trans d2;have e3:wr.cell? (aH w 3)=some (vS A c.length cA):=(hb.cell (p:=(aH w 3)) H).trans d3;have e4:wr.cell? (aH w 4)=some (vS Y a.length cY):=(hb.cell (p:=(aH w 4)) H).trans d4;have e5:wr.cell? (aH w 5)=some (vS E d.length cE):=(hb.cell (p:=(aH w 5)) H).trans d5;clear d0 d1 d2 d3 d4 d5 d6 hb H hj s;have jf:decide ((j:Int)<(nl:Int))=false:=by simp;omega
   have aS:t=8:=aG.out;clear aG;subst aS;have ad:Hid (y=(usesN 8 C r c.length a.length d.length&&kindB 8 C r c a d)):=xI (by rw[HR.out,aU.out,zCl];rfl);clear HR;by_cases hc:C=0
   case neg=>
    have HU:Hid (y=false):=xI (by rw[ad.out];simp[usesN,hc]);have fi:(C != 0)=true:=by simpa using hc
    clear hc;go_wp2;go_ret;exact⟨zAb HU.out.symm,u.out⟩
   have av:=xI hc;have fi:(C != 0)=false:=by simpa using hc
   clear hc;by_cases hc:r=[]
   case neg=>
    have HU:Hid (y=false):=xI (by rw[ad.out];simp[usesN,hc]);have ft:=hc;clear hc;go_wp2;go_ret;exact⟨zAb HU.out.symm,u.out⟩
   have aa:=xI hc;have ft:=hc;clear hc;by_cases hc:d.length=0
   case neg=>
    have HU:Hid (y=false):=xI (by rw[ad.out];simp[usesN,hc]);have J:0<d.length:=by omega
    have I:decide ((0:Int)<(d.length:Int))=true:=by rw[decide_eq_true_eq];omega
    clear hc;go_wp2;go_ret;exact⟨zAb HU.out.symm,u.out⟩
   have ab:=xI hc;have J:¬ 0<d.length:=by omega
   have I:decide ((0:Int)<(d.length:Int))=false:=by rw[decide_eq_false_iff_not];omega
   clear hc;have aj:Hid (y=(zA3 (fun x=>keyB x.1 x.2) cmpK a&&decide (a.length=c.length))):=xI (by rw[ad.out];simp[usesN,kindB,zA3,av.out,aa.out,ab.out]);clear ad;generalize hnk:a.length=nk at *;have af:=xI hnk;clear hnk;go_wp2_with fail;clear fi ft J I jf hjn e6;rename World=>X
   go_loopw [7] (fun i w2=>∃ q:Nat,i=vI i6 q/\q<=nk/\zA3 (fun x=>keyB x.1 x.2) cmpK (a.take q)=true/\bW X w2) (fun i _=>nk-(intOf i).toNat)
   case atStart=>exact⟨0,rfl,by omega,by simp[zA3,AscC],Below.refl _ _⟩
   case round=>
    obtain⟨q,rfl,hq,F,hb⟩:=hrel;have s:=xI F;clear F;have g4:wr.cell? (aH w 4)=some (vS Y nk cY):=(hb.cell (p:=(aH w 4)) Q.out).trans e4;by_cases hqn:q<nk
    ·obtain⟨b,o,au,x0,x1,hu,aq,⟨x,hx,R,aR,ah⟩,c0,c1⟩:=(aF.out.on u.out (fun _ _ h=>h)).at2 (j:=q) (by have:=af.out;omega);injection hu with hA hNN hcc;subst hA hcc;clear hNN aR;simp only[List.cons.injEq,and_true]at R;obtain⟨rfl,rfl⟩:=R;have aC:b<X.heap.size:=Nat.lt_of_lt_of_le aq u.out.size;have D:Hid (∀ U,Calls tP 116 #[.agg #[vI i6 x.1,vT ⟨x.2.toArray⟩]] U fun e w'=>e=.returned (.bool (keyB x.1 x.2))/\bW U w'):=xI fun U=>zBd x.1 ⟨x.2.toArray⟩ U (by simpa [ByteArray.size] using ah);have HX:=xI hx;have l:=xI hb;have kn:(q:Int)<(nk:Int):=by omega
     have k0:(0:Int)<=(q:Int):=by omega
     generalize hvx:keyB x.1 x.2=z at D;have O:=xI hvx;have G:=xI (aN Q.out aC);have HD:=xI (aN e4 (aN c0 c1));have aY:=xI e3;clear hx hb hvx aq aC ah e0 e1 e2 e3 e4 e5 c0 c1;cases z
     ·have HU:Hid (y=false):=xI (by rw[aj.out,zBl HX.out (.inl O.out)];rfl);have HS:Hid (∀ V,bW X V->V.cell? (aH w 4)=some (vS (some (aD b o)) nk cY)/\V.cell? (aD b (o+q*2))=some (vI i6 x.1)/\V.cell? (aD b (o+q*2+1))=some (vT ⟨x.2.toArray⟩)):=xI fun V hV=>by
       have hz:X.heap.size<=V.heap.size:=hV.size;exact⟨(hV.cell (p:=(aH w 4)) G.out.1).trans HD.out.1,(hV.cell (p:=(aD b _)) G.out.2).trans HD.out.2.1,(hV.cell (p:=(aD b _)) G.out.2).trans HD.out.2.2⟩
      go_wp2_with fail;refine wR HS (by kernel_rfl) (HS.out _ l.out.drew) (fun hHeld=>?_);refine oT 0 hHeld ?_
      (iterate 4 refine oY hHeld ?_)
      refine oO 5 fun K hK=>?_;go_simp;refine (D.out _).mono ?_;rintro e w2 ⟨rfl,hb2⟩;have B:=xI (l.out.drew.trans (hb2.mono l.out.drew.size));have f:=HS.out w2 B.out;refine hK _ _ f (oP ?_);refine oT 6 f ?_;refine oT 7 f ?_;refine oU 8 f ?_
      (iterate 13 refine oZ f ?_)
      refine zAu 22 (by kernel_rfl) rfl (by rfl) f (oP ?_);refine oU 23 f ?_;refine oU 24 f ?_;refine oT 25 f ?_;refine (wD ?_) _;go_wp2;go_ret;exact⟨zAb HU.out.symm,u.out.trans (B.out.mono u.out.size)⟩
     ·by_cases hj0:q=0
      ·subst hj0;have P:=xI (zA0 totK (p:=fun x=>keyB x.1 x.2) HX.out s.out O.out (.inl rfl));have q0:decide ((0:Int)<((0:Nat):Int))=false:=rfl;have HS:Hid (∀ V,bW X V->V.cell? (aH w 4)=some (vS (some (aD b o)) nk cY)/\V.cell? (aD b o)=some (vI i6 x.1)/\V.cell? (aD b (o+1))=some (vT ⟨x.2.toArray⟩)):=xI fun V hV=>by
        have hz:X.heap.size<=V.heap.size:=hV.size;have h1:=(hV.cell (p:=(aD b _)) G.out.2).trans HD.out.2.1;have h2:=(hV.cell (p:=(aD b _)) G.out.2).trans HD.out.2.2;exact⟨(hV.cell (p:=(aH w 4)) G.out.1).trans HD.out.1,by simpa using h1,by simpa using h2⟩
       go_wp2_with fail;refine wR HS (by kernel_rfl) (HS.out _ l.out.drew) (fun hHeld=>?_);refine oT 0 hHeld ?_
       (iterate 4 refine oY hHeld ?_)
       refine oO 5 fun K hK=>?_;go_simp;refine (D.out _).mono ?_;rintro e w2 ⟨rfl,hb2⟩;have B:=xI (l.out.drew.trans (hb2.mono l.out.drew.size));have f:=HS.out w2 B.out;refine hK _ _ f (oP ?_);refine oT 6 f ?_
       (iterate 4 refine oY f ?_)
       refine oU 11 f ?_
       (iterate 10 refine oZ f ?_)
       refine zAu 22 (by kernel_rfl) rfl (by rfl) f (oP ?_);refine oU 23 f ?_;refine oT 24 f ?_;refine oT 25 f ?_;refine (wD ?_) _;go_wp2_with fail
       go_roundw
       case rel=>exact⟨0+1,by go_num,by omega,P.out,B.out⟩
       case measure=>simp[intOf];omega
      ·obtain⟨m,hm⟩:∃ m,q=m+1:=⟨q-1,by omega⟩;obtain⟨b',ak,ar,y0,y1,hu,_,⟨p,hp,T,_,_⟩,d0,d1⟩:=(aF.out.on u.out (fun _ _ h=>h)).at2 (j:=m) (by have:=af.out;omega);injection hu with hA hNN hcc;injection hA with hA;injection hA with g1 g2;subst g1 g2;clear hNN hcc;simp only[List.cons.injEq,and_true]at T;obtain⟨rfl,rfl⟩:=T;have HP:Hid (a[q-1]?=some p):=xI (by rw[hm,Nat.add_sub_cancel];exact hp);have aw:Hid (0<q):=xI (by omega);have q0:decide (0<q)=true:=by rw[decide_eq_true_eq];omega
       have qm:IntKind.i64.wrap ((q:Int)-1)=(m:Int):=by rw[IntWalk.i64_in _ (by have:=ai.out.2.2.1;have:=af.out;unfold maxLen at *;omega)];omega
       have km:(m:Int)<(nk:Int):=by omega
       have aQ:(0:Int)<=(m:Int):=by omega
       have M:Hid (∀ U,Calls tP 117 #[.agg #[vI i6 p.1,vT ⟨p.2.toArray⟩],.agg #[vI i6 x.1,vT ⟨x.2.toArray⟩]] U fun e w'=>e=.returned (vI i6 (cmpK p x))/\bW U w'):=xI fun U=>zCr p x U;generalize hcz:cmpK p x=cz at M;have aL:=xI hcz;have aK:=xI (aN d0 d1);clear hcz hp hm hj0 d0 d1;have HS:Hid (∀ V,bW X V->V.cell? (aH w 4)=some (vS (some (aD b o)) nk cY)/\V.cell? (aD b (o+q*2))=some (vI i6 x.1)/\V.cell? (aD b (o+q*2+1))=some (vT ⟨x.2.toArray⟩)/\V.cell? (aD b (o+m*2))=some (vI i6 p.1)/\V.cell? (aD b (o+m*2+1))=some (vT ⟨p.2.toArray⟩)):=xI fun V hV=>by
        have hz:X.heap.size<=V.heap.size:=hV.size;exact⟨(hV.cell (p:=(aH w 4)) G.out.1).trans HD.out.1,(hV.cell (p:=(aD b _)) G.out.2).trans HD.out.2.1,(hV.cell (p:=(aD b _)) G.out.2).trans HD.out.2.2,(hV.cell (p:=(aD b _)) G.out.2).trans aK.out.1,(hV.cell (p:=(aD b _)) G.out.2).trans aK.out.2⟩
       by_cases hcg:cz<0
       ·have qg:decide ((0:Int)<=cz)=false:=by rw[decide_eq_false_iff_not];omega
        have P:=xI (zA0 totK (p:=fun x=>keyB x.1 x.2) HX.out s.out O.out (.inr ⟨p,HP.out,by rw[aL.out];exact hcg⟩));have qj:IntKind.i64.wrap ((q:Int)+1)=(q:Int)+1:=IntWalk.i64_in _ (by have:=ai.out.2.2.1;have:=af.out;unfold maxLen at *;omega);clear hcg;go_wp2_with fail;refine wR HS (by kernel_rfl) (HS.out _ l.out.drew) (fun hHeld=>?_);refine oT 0 hHeld ?_
        (iterate 4 refine oY hHeld ?_)
        refine oO 5 fun K hK=>?_;go_simp;refine (D.out _).mono ?_;rintro e w2 ⟨rfl,hb2⟩;have B:=xI (l.out.drew.trans (hb2.mono l.out.drew.size));have f:=HS.out w2 B.out;refine hK _ _ f (oP ?_);refine oT 6 f ?_
        (iterate 15 refine oY f ?_)
        refine oO 22 fun K hK=>?_;go_simp;refine (M.out w2).mono ?_;rintro e w3 ⟨rfl,hb3⟩;have ag:=xI (B.out.trans (hb3.mono B.out.size));have N:=HS.out w3 ag.out;refine hK _ _ N (oP ?_);refine oT 23 N ?_
        (iterate 2 refine oY N ?_)
        refine (wD ?_) _;go_wp2_with fail
        go_roundw
        case rel=>exact⟨q+1,by go_num,by omega,P.out,ag.out⟩
        case measure=>simp[intOf];omega
       ·have qg:decide ((0:Int)<=cz)=true:=by rw[decide_eq_true_eq];omega
        have HU:Hid (y=false):=xI (by rw[aj.out,zBl HX.out (.inr ⟨aw.out,p,HP.out,by rw[aL.out];exact hcg⟩)];rfl);clear hcg;go_wp2_with fail;refine wR HS (by kernel_rfl) (HS.out _ l.out.drew) (fun hHeld=>?_);refine oT 0 hHeld ?_
        (iterate 4 refine oY hHeld ?_)
        refine oO 5 fun K hK=>?_;go_simp;refine (D.out _).mono ?_;rintro e w2 ⟨rfl,hb2⟩;have B:=xI (l.out.drew.trans (hb2.mono l.out.drew.size));have f:=HS.out w2 B.out;refine hK _ _ f (oP ?_);refine oT 6 f ?_
        (iterate 15 refine oY f ?_)
        refine oO 22 fun K hK=>?_;go_simp;refine (M.out w2).mono ?_;rintro e w3 ⟨rfl,hb3⟩;have ag:=xI (B.out.trans (hb3.mono B.out.size));have N:=HS.out w3 ag.out;refine hK _ _ N (oP ?_);refine oT 23 N ?_
        (iterate 2 refine oY N ?_)
        refine (wD ?_) _;go_wp2;go_ret;exact⟨zAb HU.out.symm,u.out.trans (ag.out.mono u.out.size)⟩
    ·have aI:Hid (zA3 (fun x=>keyB x.1 x.2) cmpK a=true):=xI (by
      have ao:a.take q=a:=List.take_of_length_le (by have:=af.out;omega);rw[<-ao];exact s.out)
     have g3:wr.cell? (aH w 3)=some (vS A c.length cA):=(hb.cell (p:=(aH w 3)) Q.out).trans e3;have aM:=xI (u.out.trans (hb.mono u.out.size));clear hb e0 e1 e2 e3 e4 e5 s;by_cases hl:nk=c.length
     ·have HU:Hid (y=true):=xI (by rw[aj.out,aI.out];simp[hl]);have fl:((nk:Int)==(c.length:Int))=true:=by rw[beq_iff_eq];omega
      clear hl;go_wp2;go_ret;exact⟨zAb HU.out.symm,aM.out⟩
     ·have HU:Hid (y=false):=xI (by rw[aj.out,aI.out];simp[hl]);have fl:((nk:Int)==(c.length:Int))=false:=by rw[beq_eq_false_iff_ne];omega
      clear hl;go_wp2;go_ret;exact⟨zAb HU.out.symm,aM.out⟩
end Go.Proofs.YteedihhdcbepmaaGreat
