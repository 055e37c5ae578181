/- The program's moved: a node in new memory, .. -/
import Derived.Test.YteedihhdcbepmaaGreatTfZ
import Derived.Test.YteedihhdcbepmaaGreatTf09
set_option maxRecDepth 100000
set_option maxHeartbeats 12800000
set_option linter.all false
open Go.Value renaming slice→vS,int→vI,string→vT
open Go.IntKind renaming i64→i6
open Go.Proofs.Tryz
open Go.Proofs.Tryz renaming prog→tP
namespace Go.Proofs.YteedihhdcbepmaaGreat
open Go Go.RowKit
section
variable {α:Type}
def part (h:α->α) (l:List α) (j:Nat):List α:=(l.take j).map h++l.drop j
theorem zD7 (h:α->α) (l:List α):part h l 0=l:=by simp[part]
theorem zE6 (h:α->α) (l:List α) (j:Nat):(part h l j).length=l.length:=by simp[part];omega
theorem zHc (h:α->α) (l:List α):part h l l.length=l.map h:=by simp[part]
theorem zHb (h:α->α){l:List α}{j:Nat}{x:α}(hx:l[j]?=some x):(part h l j)[j]?=some x:=by
 have hj:=(Bx.1 hx).1;unfold part;rw[Dz (by rw[Bj,Bh];omega),Bj,Bh,C6,Nat.min_eq_left (by omega),Nat.sub_self,Dv];exact hx
theorem zE5 (h:α->α){l:List α}{j:Nat}{x:α}(hx:l[j]?=some x):(part h l j).set j (h x)=part h l (j+1):=by
 have hj:=(Bx.1 hx).1;have hd:l.drop j=x::l.drop (j+1):=by
  rw[List.drop_eq_getElem_cons hj];have:=Bw hj;rw[hx]at this;injection this with this;rw[<-this]
 have ht:(l.take (j+1)).map h=(l.take j).map h++[h x]:=by rw[Ct,hx];simp
 unfold part;rw[ht,hd,List.set_append_right _ _ (by rw[Bj,Bh];omega),Bj,Bh,Nat.min_eq_left (by omega),Nat.sub_self];simp
end
def mvF (g:Int->Int) (f:Fd):Fd:=⟨f.key,g f.node,f.opt⟩
theorem zMa {g:Int->Int}{l:List Fd}{j:Nat}{x:Fd}(hx:l[j]?=some x):(part (mvF g) l j).set j (mvF g x)=part (mvF g) l (j+1):=zE5 (mvF g) hx
theorem OwnE.baseLe {α:Type}{K:ElK α}{e:TypeId}{c:Nat}{w:World}{base base':Nat}{v:Value}{l:List α}(hfree:∀ x (w w':World) (B B':Nat->Prop) cs,K.E x w B cs->K.E x w' B' cs) (h:OwnE K e c w base v l) (hb:base'<=base):OwnE K e c w base' v l:=by
 obtain⟨xs,⟨h1,h2⟩,h3⟩:=h;refine⟨xs,⟨h1,?_⟩,fun j x hx=>hfree _ _ _ _ _ _ (h3 j x hx)⟩;rcases h2 with h2|⟨g,cap,cur,hv,hg,hr⟩
 ·exact .inl h2
 ·exact .inr ⟨g,cap,cur,hv,by omega,hr⟩
theorem OwnE.stay {α:Type}{K:ElK α}{e:TypeId}{c:Nat}{w w':World}{base:Nat}{v:Value}{l:List α}(hfree:∀ x (w w':World) (B B':Nat->Prop) cs,K.E x w B cs->K.E x w' B' cs) (h:OwnE K e c w base v l) (hb:∀ g,v.ownBlock=some g->g<w.heap.size->w'.heap[g]?=w.heap[g]?):OwnE K e c w' base v l:=by
 obtain⟨xs,⟨h1,h2⟩,h3⟩:=h;refine⟨xs,⟨h1,?_⟩,fun j x hx=>hfree _ _ _ _ _ _ (h3 j x hx)⟩;rcases h2 with h2|⟨g,cap,cur,hv,hg,hc,hr⟩
 ·exact .inl h2
 ·exact .inr ⟨g,cap,cur,hv,hg,(hb g (by rw[hv];rfl) (Cp.1 hc).1).trans hc,hr⟩
theorem OwnE.ltB {α:Type}{K:ElK α}{e:TypeId}{c:Nat}{w:World}{base:Nat}{v:Value}{l:List α}(h:OwnE K e c w base v l){g:Nat}(hg:v.ownBlock=some g):base<=g/\g<w.heap.size:=by
 obtain⟨xs,⟨h1,h2⟩,h3⟩:=h;rcases h2 with⟨rfl,_⟩|⟨g',cap,a,rfl,hb,hc,hr⟩
 ·simp[Value.ownBlock]at hg
 ·simp only[Value.ownBlock,Cu]at hg;subst hg;exact⟨hb,(Cp.1 hc).1⟩
theorem zMg (K lo hi:Int) (tn:List UInt8) (ks:List Int) (fds:List Fd) (r0 r1:Int) (Ak Af:Option Addr) (ck cf:Nat) (H F:Nat) (cap:Value) (g:Int->Int) (w:World) (hH:H<=w.heap.size) (hN:TnP w H ⟨K,lo,hi,tn,ks,fds,r0,r1⟩ [vI i6 K,vI i6 lo,vI i6 hi,vT ⟨tn.toArray⟩,vS Ak ks.length ck,vS Af fds.length cf,vI i6 r0,vI i6 r1]) (hkl:ks.length<=1048576) (hfl:fds.length<=1048576)
  (eg:∀ args w,(callFunc F args).run tP w=.ok (.enter F args) w) (hg:∀ k∈edg ⟨K,lo,hi,tn,ks,fds,r0,r1⟩,i64B (g k))
  (hF:Hid (∀ k∈edg ⟨K,lo,hi,tn,ks,fds,r0,r1⟩,∀ U,Below w.heap.size w U->Calls tP F #[vI i6 k,cap] U fun e w'=>e=.returned (vI i6 (g k))/\U=w')) :
  Calls tP 111 #[.agg #[vI i6 K,vI i6 lo,vI i6 hi,vT ⟨tn.toArray⟩,vS Ak ks.length ck,vS Af fds.length cf,vI i6 r0,vI i6 r1],.func (.func F) #[] #[cap]] w fun e w'=>(∃ cs,e=.returned (.agg cs.toArray)/\TnB w' (Btw w.heap.size w'.heap.size) (mvd g ⟨K,lo,hi,tn,ks,fds,r0,r1⟩) cs)/\Below w.heap.size w w':=by
 obtain⟨W,hW⟩:∃ W,W=(w.alloc (oX K lo hi ⟨tn.toArray⟩ Ak ks.length ck Af fds.length cf r0 r1)).alloc oH:=⟨_,rfl⟩;have aB:bW w W:=by rw[hW];exact (yR.alloc lR _).alloc (by simp) _
 have kW:W.heap[w.heap.size]?=some (oX K lo hi ⟨tn.toArray⟩ Ak ks.length ck Af fds.length cf r0 r1):=by rw[hW,Bt _ _ _ (by simp)];exact Bk w _
 have kZ:W.heap[w.heap.size+1]?=some oH:=by rw[hW];exact zAf _ (by simp)
 have aU:W.heap.size=w.heap.size+2:=by rw[hW];simp
 obtain⟨uk,uf,P,aI,I,aM⟩:=hN;simp only[Bc,and_true,true_and]at P;obtain⟨rfl,rfl⟩:=P;have aj:Calls tP 151 #[vS Ak ks.length ck] W fun e w'=>∃ u,e=.returned u/\OwnI w' W.heap.size u ks/\bW W w':=zLh Ak ck ks W (RowB.mono (RowB.on (R':=kidR ks) I (aB.mono hH) fun _ _ h=>h) (by omega) fun _ _ h=>h) hkl;have hE:=zAe kW;rw[hW]at hE;obtain⟨n0,n1,n2,n3,n4,n5,n6,n7⟩:=hE;have HN:=xI (aN aI (aN I aM));have HL:=xI (aN hkl (aN hfl hg));clear aI I aM hkl hfl hg;go_enter func111,ntmps111;go_wp2_with fail;rw[<-hW];clear hW n0 n1 n2 n3 n4 n5 n6 n7;refine aj.mono ?_;rintro e w1 ⟨u,rfl,hu,hb1⟩;obtain⟨Au,cu,rfl⟩:=hu.form;clear aj;have k1:=(hb1.block _ (by omega)).trans kW;have f4:=Bz k1 4;obtain⟨n0,n1,n2,n3,n4,n5,n6,n7⟩:=zAe k1;obtain⟨X,hX⟩:∃ X,X=w1.setCell (aH w 4) (vS Au ks.length cu):=⟨_,rfl⟩;have kX:X.heap[w.heap.size]?=some (oX K lo hi ⟨tn.toArray⟩ Au ks.length cu Af fds.length cf r0 r1):=by rw[hX];exact (Bm w1 w.heap.size 4 _ _ _ k1).trans rfl
 have E:∀ b,b≠w.heap.size->X.heap[b]?=w1.heap[b]?:=fun b hb=>by rw[hX];exact Bp w1 (aH w 4) b _ hb
 have R:X.heap[w.heap.size+1]?=some oH:=((E _ (by omega)).trans (hb1.block _ (by omega))).trans kZ;have t:bW w X:=by rw[hX];exact (aB.trans (hb1.mono (by omega))).setCell (p:=(aH w 4)) lR _
 have aF:w.heap.size+2<=X.heap.size:=by rw[hX];have:=hb1.size;simp;omega
 have aa:OwnI X (w.heap.size+2) (vS Au ks.length cu) ks:=(OwnE.baseLe zAp (OwnE.stay zAp hu fun g hg _=>E g (by have:=(OwnE.ltB hu hg).1;omega)) (by omega));have g4:=(zAe kX).2.2.2.2.1;have HX:=xI (aN kX (aN R (aN t (aN aF aa))));clear kX R t aF aa E hu aB kW kZ hb1 k1;rw[hX]at g4;generalize hnk:ks.length=nk at *;have aq:=xI hnk;clear hnk;go_wp2_with fail;rw[<-hX];clear hX g4 n0 n1 n2 n3 n4 n5 n6 n7 f4 aU
 go_loopw [16] (fun iv wr=>∃ j:Nat,iv=vI i6 j/\j<=nk/\OwnI wr (w.heap.size+2) (vS Au nk cu) (part g ks j)/\wr.heap[w.heap.size]?=some (oX K lo hi ⟨tn.toArray⟩ Au nk cu Af fds.length cf r0 r1)/\wr.heap[w.heap.size+1]?=some oH/\bW w wr) (fun i _=>((nk:Int)-intOf i).toNat)
 case atStart=>exact⟨0,rfl,by omega,by rw[zD7];exact HX.out.2.2.2.2,HX.out.1,HX.out.2.1,HX.out.2.2.1⟩
 case round=>
  obtain⟨j,rfl,hj,A,l,s,o⟩:=hrel;by_cases hjn:j<nk
  ·have mp:(j:Int)<(nk:Int):=by omega
   have m0:(0:Int)<=(j:Int):=by omega
   have aW:IntKind.i64.wrap ((j:Int)+1)=(j:Int)+1:=Br _ (by have:=HL.out.1;omega);have ae:j<ks.length:=by have:=aq.out;omega
   have hx:=Bw ae;generalize ks[j]=kj at hx;clear ae;obtain⟨gb,cp,cs,hv,n,af,⟨P,ax⟩,a,ap,v⟩:=OwnE.setc zAp A (zHb g hx) (by decide);injection hv with hA hm hcu;subst hA hcu;subst P;have q0:wr.cell? (aD gb j)=some (vI i6 kj):=by have:=a 0 (by decide);simpa using this
   have aT:wr.drew.cell? (aD gb j)=some (vI i6 kj):=q0;have q4:wr.drew.cell? (aH w 4)=some (vS (some (aD gb 0)) nk cu):=(zAe l).2.2.2.2.1;have J:=ap j;have L:kj∈edg ⟨K,lo,hi,tn,ks,fds,r0,r1⟩:=by unfold edg;simp[Bi hx]
   have ag:=HL.out.2.2 kj L;have ai:=hF.out kj L wr.drew (o.trans yR.drew);have HS:=xI (aN (v 0 (vI i6 (g kj)) (g kj) (by decide) ⟨rfl,ag⟩) (aN hx (aN n af)));have HB:=xI (aN l (aN s o));clear hx A a ap v hm L ag l s o n af ax;go_wp2_with fail;refine Bf (S:=fun wq=>(wq.cell? (aH w 4)=some (vS (some (aD gb 0)) nk cu))) (by kernel_rfl) q4 (fun _=>?_);refine oT 0 q4 ?_
   (iterate 4 refine oY q4 ?_)
   refine zIb 5 (by kernel_rfl) rfl (by rfl) (fun K9 hK=>?_);go_simp;refine ai.mono ?_;rintro e w2 ⟨rfl,rfl⟩;refine hK _ _ q4 (oP ?_);clear hK K9;refine oT 6 q4 ?_;refine zIb 7 (by kernel_rfl) rfl (by rfl) (fun K9 hK=>?_);go_simp;have r:∀ b,b≠gb->(wr.setCell (aD gb j) (vI i6 (g kj))).drew.heap[b]?=wr.heap[b]?:=fun b hb=>Bp wr (aD gb j) b _ hb;have az:=HS.out.2.2;have kV:=(r w.heap.size (by omega)).trans HB.out.1;have T:=(r (w.heap.size+1) (by omega)).trans HB.out.2.1;have G:bW w (wr.setCell (aD gb j) (vI i6 (g kj))).drew:=(HB.out.2.2.setCell (p:=(aD gb j)) (by show w.heap.size<=gb;omega) _).drew;have HO:OwnI (wr.setCell (aD gb j) (vI i6 (g kj))).drew (w.heap.size+2) (vS (some (aD gb 0)) nk cu) (part g ks (j+1)):=by
    have h:=HS.out.1;rw[zE5 g HS.out.2.1,Nat.mul_one,Dv]at h;exact h
   have HV:=xI (aN HO (aN kV (aN T G)));have Q:=(zAe kV).2.2.2.2.1;clear r az kV T G HO;refine hK _ _ Q (oP ?_);clear hK K9;refine wD ?_;generalize (wr.setCell (aD gb j) (vI i6 (g kj))).drew=V at *;clear Q q0 aT q4 J ai;go_wp2_with fail
   go_roundw
   case rel=>exact⟨j+1,by go_num,by omega,HV.out⟩
   case measure=>simp[intOf];try omega
  ·have mp:¬ (j:Int)<(nk:Int):=by omega
   have C:OwnI wr (w.heap.size+2) (vS Au nk cu) (ks.map g):=by
    have h:=zHc g ks;rw[aq.out]at h;rw[<-h,show nk=j from by omega];have h2:j=nk:=by omega
    subst h2;exact A
   have aV:w.heap.size+2<=wr.heap.size:=by have:=(Cp.1 s).1;omega
   have aO:Calls tP 152 #[vS Af fds.length cf] wr fun e w'=>∃ u,e=.returned u/\OwnF w' wr.heap.size u fds/\bW wr w':=zLi Af cf fds wr (RowB.mono (RowB.on (R':=fdR fds) HN.out.2.2 (o.mono hH) fun _ _ h=>h) (by omega) fun _ _ h=>h) HL.out.2.1;obtain⟨n0,n1,n2,n3,n4,n5,n6,n7⟩:=zAe l;have HB:=xI (aN C (aN l (aN s o)));clear A C l s o;generalize hnf:fds.length=nf at *;have am:=xI hnf;clear hnf;go_wp2_with fail;refine aO.mono ?_;rintro e w2 ⟨u2,rfl,hu2,hb2⟩;obtain⟨z,q,rfl⟩:=hu2.form;rw[am.out]at hu2 ⊢;clear aO n0 n1 n2 n3 n4 n5 n6 n7;rename_i wq0;obtain⟨X,hX⟩:∃ X,X=w2.setCell (aH w 5) (vS z nf q):=⟨_,rfl⟩;have k2:=(hb2.block _ (by omega)).trans HB.out.2.1;have f5:=Bz k2 5;obtain⟨n0,n1,n2,n3,n4,n5,n6,n7⟩:=zAe k2;have kX:X.heap[w.heap.size]?=some (oX K lo hi ⟨tn.toArray⟩ Au nk cu z nf q r0 r1):=by rw[hX];exact (Bm w2 w.heap.size 5 _ _ _ k2).trans rfl
   have E:∀ b,b≠w.heap.size->X.heap[b]?=w2.heap[b]?:=fun b hb=>by rw[hX];exact Bp w2 (aH w 5) b _ hb
   have R:X.heap[w.heap.size+1]?=some oH:=((E _ (by omega)).trans (hb2.block _ (by omega))).trans HB.out.2.2.1;have t:bW w X:=by rw[hX];exact (HB.out.2.2.2.trans (hb2.mono (by omega))).setCell (p:=(aH w 5)) lR _
   have aa:OwnF X wr.heap.size (vS z nf q) fds:=OwnE.stay zCz hu2 fun g hg _=>E g (by have:=(OwnE.ltB hu2 hg).1;omega);have aJ:OwnI X (w.heap.size+2) (vS Au nk cu) (ks.map g):=OwnE.stay zAp (OwnE.stay zAp HB.out.1 fun g hg hl=>hb2.block g hl) fun g hg _=>E g (by have:=(OwnE.ltB HB.out.1 hg).1;omega);have HZ:Hid (∀ gb,(vS Au nk cu).ownBlock=some gb->gb<wr.heap.size):=xI fun gb hg=>(OwnE.ltB HB.out.1 hg).2;have g5:=(zAe kX).2.2.2.2.2.1;have ak:=xI (aN kX (aN R (aN t (aN aa aJ))));clear kX R t aa aJ E hu2 hb2 k2;rw[hX]at g5;go_wp2_with fail;rw[<-hX];have al:=xI aV;generalize hzz:wr.heap.size=Z at *;clear hX g5 n0 n1 n2 n3 n4 n5 n6 n7 f5 hzz;clear mp
   go_loopw [36] (fun iv wr=>∃ j:Nat,iv=vI i6 j/\j<=nf/\OwnF wr Z (vS z nf q) (part (mvF g) fds j)/\OwnI wr (w.heap.size+2) (vS Au nk cu) (ks.map g)/\wr.heap[w.heap.size]?=some (oX K lo hi ⟨tn.toArray⟩ Au nk cu z nf q r0 r1)/\wr.heap[w.heap.size+1]?=some oH/\bW w wr) (fun i _=>((nf:Int)-intOf i).toNat)
   case atStart=>exact⟨0,rfl,by omega,by rw[zD7];exact ak.out.2.2.2.1,ak.out.2.2.2.2,ak.out.1,ak.out.2.1,ak.out.2.2.1⟩
   case round=>
    rename World=>wrOld;rename_i hmpOld _;obtain⟨j,rfl,hj,d,c,l,s,o⟩:=hrel;rename World=>wr;by_cases hjn:j<nf
    ·have mp:(j:Int)<(nf:Int):=by omega
     have m0:(0:Int)<=(j:Int):=by omega
     have aW:IntKind.i64.wrap ((j:Int)+1)=(j:Int)+1:=Br _ (by have:=HL.out.2.1;omega);have ae:j<fds.length:=by have:=am.out;omega
     have hx:=Bw ae;generalize fds[j]=f at hx;clear ae;obtain⟨gb,cp,cs,hv,n,af,⟨P,ar⟩,a,ap,_⟩:=OwnE.setc zCz d (zHb (mvF g) hx) (by decide);injection hv with hA hm hcu;subst hA hcu;subst P;obtain⟨⟨k1,k2⟩,fn,fo⟩:=f;have q0:wr.cell? (aD gb (j*4))=some (vI i6 k1):=a 0 (by decide);have q1:wr.cell? (aD gb (j*4+1))=some (vT ⟨k2.toArray⟩):=a 1 (by decide);have q2:wr.cell? (aD gb (j*4+2))=some (vI i6 fn):=a 2 (by decide);have q3:wr.cell? (aD gb (j*4+3))=some (.bool fo):=a 3 (by decide);obtain⟨ao,Y⟩:∃ ao,ao=wr.heap.size:=⟨_,rfl⟩;obtain⟨X,hX⟩:∃ X,X=wr.alloc (.cells #[vI i6 k1,vT ⟨k2.toArray⟩,vI i6 fn,.bool fo] 150 (0,0)):=⟨_,rfl⟩;have t:bW wr X:=by rw[hX];exact yR.alloc lR _
     have kF:X.heap[ao]?=some (.cells #[vI i6 k1,vT ⟨k2.toArray⟩,vI i6 fn,.bool fo] 150 (0,0)):=by rw[hX,Y];exact Bk wr _
     have O:w.heap.size+1<wr.heap.size:=(Cp.1 s).1;have kB:=(t.block _ (by omega)).trans l;have kR:=(t.block _ O).trans s;have y:OwnF X Z (vS (some (aD gb 0)) nf q) (part (mvF g) fds j):=OwnE.stay zCz d fun gg hg hl=>t.block gg hl;have x:OwnI X (w.heap.size+2) (vS Au nk cu) (ks.map g):=OwnE.stay zAp c fun gg hg hl=>t.block gg hl;obtain⟨aY,a0,aZ,aX,N,ay,⟨aA,_⟩,_,ah,v⟩:=OwnE.setc zCz y (zHb (mvF g) hx) (by decide);injection aX with hA' hm' hcu';injection hA' with hA';injection hA' with hA';subst hA' hcu' aA;have q4:X.drew.cell? (aH w 5)=some (vS (some (aD gb 0)) nf q)/\X.drew.cell? (aD ao 2)=some (vI i6 fn):=⟨(zAe kB).2.2.2.2.2.1,cH kF 2⟩;have J:=ah (j*4+2);have L:fn∈edg ⟨K,lo,hi,tn,ks,fds,r0,r1⟩:=by unfold edg;simp;exact .inr (.inl ⟨_,Bi hx,rfl⟩)
     have ag:=HL.out.2.2 fn L;have M:=o.trans (t.mono o.size);have ai:=hF.out fn L X.drew (M.trans yR.drew);have HS:=xI (aN (v 2 (vI i6 (g fn)) (mvF g ⟨(k1,k2),fn,fo⟩) (by decide) ⟨rfl,ar.1,ar.2.1,ag⟩) (aN hx (aN n (aN af O))));have an:=xI (aN kB (aN kR (aN M (aN x kF))));subst Y;clear d c l s o a ap t kF kB kR y x v ah hm hm' L ag M hx O n af ar N ay;go_wp2_with fail;rw[<-hX];clear hX q0 q1 q2 q3;refine Bf (S:=fun wq=>(wq.cell? (aH w 5)=some (vS (some (aD gb 0)) nf q)/\wq.cell? (aH wr 2)=some (vI i6 fn))) (by kernel_rfl) q4 (fun _=>?_);refine oT 0 q4 ?_
     (iterate 5 refine oY q4 ?_)
     refine zIb 6 (by kernel_rfl) rfl (by rfl) (fun K9 hK=>?_);go_simp;refine ai.mono ?_;rintro e w5 ⟨rfl,rfl⟩;refine hK _ _ q4 (oP ?_);clear hK K9;refine oT 7 q4 ?_;refine oT 8 q4 ?_;refine zIb 9 (by kernel_rfl) rfl (by rfl) (fun K9 hK=>?_);go_simp;have r:∀ b,b≠gb->(X.setCell (aD gb (j*4+2)) (vI i6 (g fn))).drew.heap[b]?=X.heap[b]?:=fun b hb=>Bp X (aD gb (j*4+2)) b _ hb;have az:=HS.out.2.2;have kV:=(r w.heap.size (by omega)).trans an.out.1;have T:=(r (w.heap.size+1) (by omega)).trans an.out.2.1;have aE:=(r wr.heap.size (by omega)).trans an.out.2.2.2.2;have G:bW w (X.setCell (aD gb (j*4+2)) (vI i6 (g fn))).drew:=(an.out.2.2.1.setCell (p:=(aD gb (j*4+2))) (by show w.heap.size<=gb;omega) _).drew;have aQ:OwnI (X.setCell (aD gb (j*4+2)) (vI i6 (g fn))).drew (w.heap.size+2) (vS Au nk cu) (ks.map g):=OwnE.stay zAp an.out.2.2.2.1 fun gg hg _=>r gg (by have:=HZ.out gg hg;omega);have HO:OwnF (X.setCell (aD gb (j*4+2)) (vI i6 (g fn))).drew Z (vS (some (aD gb 0)) nf q) (part (mvF g) fds (j+1)):=by
      have h:=HS.out.1;rw[zMa HS.out.2.1]at h;exact h
     have HV:=xI (aN HO (aN aQ (aN kV (aN T G))));have Q:(X.setCell (aD gb (j*4+2)) (vI i6 (g fn))).drew.cell? (aH w 5)=some (vS (some (aD gb 0)) nf q)/\(X.setCell (aD gb (j*4+2)) (vI i6 (g fn))).drew.cell? (aH wr 2)=some (vI i6 fn):=⟨(zAe kV).2.2.2.2.2.1,cH aE 2⟩;clear r az kV T G HO aQ aE;refine hK _ _ Q (oP ?_);clear hK K9;refine wD ?_;generalize (X.setCell (aD gb (j*4+2)) (vI i6 (g fn))).drew=V at *;clear Q q4 ai J;go_wp2_with fail
     go_roundw
     case rel=>exact⟨j+1,by go_num,by omega,HV.out⟩
     case measure=>simp[intOf];try omega
    ·have mp:¬ (j:Int)<(nf:Int):=by omega
     have D:OwnF wr Z (vS z nf q) (fds.map (mvF g)):=by
      have h:=zHc (mvF g) fds;rw[am.out]at h;have h2:j=nf:=by omega
      rw[<-h,<-h2];rw[<-h2]at d;exact d
     clear d;by_cases h13:K=13
     ·subst h13;have aw:r0∈edg ⟨13,lo,hi,tn,ks,fds,r0,r1⟩:=by unfold edg;simp
      have av:r1∈edg ⟨13,lo,hi,tn,ks,fds,r0,r1⟩:=by unfold edg;simp
      have aL:=HL.out.2.2 r0 aw;have aK:=HL.out.2.2 r1 av;have aP:=hF.out r0 aw wr.drew (o.trans yR.drew);have aj:=hF.out r1 av wr.drew (o.trans yR.drew);have m:wr.drew.cell? (aH w 6)=some (vI i6 r0)/\wr.drew.cell? (aH w 7)=some (vI i6 r1):=⟨(zAe l).2.2.2.2.2.2.1,(zAe l).2.2.2.2.2.2.2⟩;have n0:=(zAe l).1;have f6:=Bz l 6;have f7:=Bz l 7;have B:=xI (aN l (aN s (aN c (aN D (aN o (aN aL aK))))));clear l s c D o aw av aL aK;go_wp2_with fail;refine ub 12 (fun _=>True) (fun wq=>wq.cell? (aH w 6)=some (vI i6 r0)/\wq.cell? (aH w 7)=some (vI i6 r1)) ?_;refine oM 0 ⟨trivial,m⟩ ?_ (hy:=oA);refine oM 1 ⟨trivial,m⟩ ?_ (hy:=oA);refine oM 2 ⟨trivial,m⟩ ?_ (hy:=oA);refine oK 3 ⟨trivial,m⟩ ?_ (hy:=oB);refine oM 5 ⟨trivial,m⟩ ?_ (hy:=oA);refine oM 6 ⟨trivial,m⟩ ?_ (hy:=oA);refine oM 7 ⟨trivial,m⟩ ?_ (hy:=oA);refine oK 8 ⟨trivial,m⟩ ?_ (hy:=oB);refine uo 4 (fun K9 hK=>?_);go_simp;refine (aP).mono ?_;rintro e w5 ⟨rfl,rfl⟩;refine hK _ _ ⟨trivial,fun _=>m⟩ (oQ ?_);clear hK K9;refine uo 9 (fun K9 hK=>?_);go_simp;refine (aj).mono ?_;rintro e w5 ⟨rfl,rfl⟩;refine hK _ _ ⟨trivial,fun _=>m⟩ (oQ ?_);clear hK K9;refine oM 10 ⟨trivial,m⟩ ?_ (hy:=oA);refine oM 11 ⟨trivial,m⟩ ?_ (hy:=oA);have s6:=m.1;have s7:=m.2;have aS:wr.cell? (aH w 6)=some (vI i6 r0):=m.1;have aR:wr.cell? (aH w 7)=some (vI i6 r1):=m.2;refine uo 12 (fun K9 hK=>?_);go_simp;obtain⟨V,hV⟩:∃ V,V=((wr.setCell (aH w 6) (vI i6 (g r0))).setCell (aH w 7) (vI i6 (g r1))).drew:=⟨_,rfl⟩;rw[<-hV];have aG:=Bm wr w.heap.size 6 _ _ (vI i6 (g r0)) B.out.1;have O:=Bm _ w.heap.size 7 _ _ (vI i6 (g r1)) aG;have kV:V.heap[w.heap.size]?=some (oX 13 lo hi ⟨tn.toArray⟩ Au nk cu z nf q (g r0) (g r1)):=by rw[hV];exact O.trans rfl
      have r:∀ b,b≠w.heap.size->V.heap[b]?=wr.heap[b]?:=fun b hb=>by rw[hV];exact (Bp _ (aH w 7) b _ hb).trans (Bp wr (aH w 6) b _ hb)
      have aC:=(r (w.heap.size+1) (by omega)).trans B.out.2.1;have G:bW w V:=by rw[hV];exact ((B.out.2.2.2.2.1.setCell (p:=(aH w 6)) lR _).setCell (p:=(aH w 7)) lR _).drew
      have ab:OwnI V (w.heap.size+2) (vS Au nk cu) (ks.map g):=OwnE.stay zAp B.out.2.2.1 fun gg hg _=>r gg (by have:=(OwnE.ltB B.out.2.2.1 hg).1;omega);have ad:OwnF V Z (vS z nf q) (fds.map (mvF g)):=OwnE.stay zCz B.out.2.2.2.1 fun gg hg _=>r gg (by have:=(OwnE.ltB B.out.2.2.2.1 hg).1;have:=al.out;omega);have TV:=xI (aN kV (aN aC (aN ab (aN ad G))));clear aG O kV r aC G ab ad hV s6 s7 aS aR m f6 f7 n0 aP aj;refine hK _ _ ⟨trivial,ug⟩ (oQ ?_);clear hK K9;refine (ud ?_) _;obtain⟨n0,n1,n2,n3,n4,n5,n6,n7⟩:=zAe TV.out.1;obtain⟨z0,z1,z2,z3,z4,z5,z6,z7⟩:=zAe TV.out.2.1;have f0:=Bz TV.out.2.1 0;have f1:=Bz TV.out.2.1 1;have f2:=Bz TV.out.2.1 2;have f3:=Bz TV.out.2.1 3;have f4:=Bz TV.out.2.1 4;have f5:=Bz TV.out.2.1 5;have f6:=Bz TV.out.2.1 6;have f7:=Bz TV.out.2.1 7;go_wp2;refine ret8 TV.out.2.1 rfl rfl rfl fun V9 h1 h2 h3=>⟨⟨[vI i6 13,vI i6 lo,vI i6 hi,vT ⟨tn.toArray⟩,vS Au nk cu,vS z nf q,vI i6 (g r0),vI i6 (g r1)],rfl,?_⟩,TV.out.2.2.2.2.trans (h3 _ (by omega))⟩;rw[show mvd g ⟨13,lo,hi,tn,ks,fds,r0,r1⟩=⟨13,lo,hi,tn,ks.map g,fds.map (mvF g),g r0,g r1⟩from rfl];have au:=OwnE.stay zAp TV.out.2.2.1 fun gg hg _=>h2 gg (by have:=(OwnE.ltB TV.out.2.2.1 hg).1;omega);have D:=OwnE.stay zCz TV.out.2.2.2.1 fun gg hg _=>h2 gg (by have:=(OwnE.ltB TV.out.2.2.2.1 hg).1;have:=al.out;omega);exact⟨_,_,rfl,⟨HN.out.1.1,HN.out.1.2.1,HN.out.1.2.2.1,HN.out.1.2.2.2.1,B.out.2.2.2.2.2.1,B.out.2.2.2.2.2.2⟩,OwnE.rowB au (by decide) (by rw[Bj];have:=HL.out.1;rw[<-aq.out]at this;unfold maxLen;omega) (by omega),OwnE.rowB D (by decide) (by rw[Bj];have:=HL.out.2.1;rw[<-am.out]at this;unfold maxLen;omega) (by have:=al.out;omega)⟩
     ·have TV:=xI (aN l (aN s (aN c (aN D o))));clear l s c D o;obtain⟨n0,n1,n2,n3,n4,n5,n6,n7⟩:=zAe TV.out.1;obtain⟨z0,z1,z2,z3,z4,z5,z6,z7⟩:=zAe TV.out.2.1;have f0:=Bz TV.out.2.1 0;have f1:=Bz TV.out.2.1 1;have f2:=Bz TV.out.2.1 2;have f3:=Bz TV.out.2.1 3;have f4:=Bz TV.out.2.1 4;have f5:=Bz TV.out.2.1 5;have f6:=Bz TV.out.2.1 6;have f7:=Bz TV.out.2.1 7;go_wp2;refine ret8 TV.out.2.1 rfl rfl rfl fun V9 h1 h2 h3=>⟨⟨[vI i6 K,vI i6 lo,vI i6 hi,vT ⟨tn.toArray⟩,vS Au nk cu,vS z nf q,vI i6 r0,vI i6 r1],rfl,?_⟩,TV.out.2.2.2.2.trans (h3 _ (by omega))⟩;rw[show mvd g ⟨K,lo,hi,tn,ks,fds,r0,r1⟩=⟨K,lo,hi,tn,ks.map g,fds.map (mvF g),r0,r1⟩from by unfold mvd;rw[if_neg h13,if_neg h13];rfl];have au:=OwnE.stay zAp TV.out.2.2.1 fun gg hg _=>h2 gg (by have:=(OwnE.ltB TV.out.2.2.1 hg).1;omega);have D:=OwnE.stay zCz TV.out.2.2.2.1 fun gg hg _=>h2 gg (by have:=(OwnE.ltB TV.out.2.2.2.1 hg).1;have:=al.out;omega);exact⟨_,_,rfl,⟨HN.out.1.1,HN.out.1.2.1,HN.out.1.2.2.1,HN.out.1.2.2.2.1,HN.out.1.2.2.2.2.1,HN.out.1.2.2.2.2.2⟩,OwnE.rowB au (by decide) (by rw[Bj];have:=HL.out.1;rw[<-aq.out]at this;unfold maxLen;omega) (by omega),OwnE.rowB D (by decide) (by rw[Bj];have:=HL.out.2.1;rw[<-am.out]at this;unfold maxLen;omega) (by have:=al.out;omega)⟩
def plF (ns:List Tn) (f:List UInt8->Option Int):List Int->Nat->List Int->List Int
 | [],_,ps=>ps
 | n::l,c,ps=>match sub1 f (nd ns n)with
  | some p=>plF ns f l c (ps.set n.toNat p)
  | none=>plF ns f l (c+1) (ps.set n.toNat (c:Int))
theorem zQr (ns:List Tn) (f:List UInt8->Option Int):∀ (l:List Int) (c:Nat) (ps:List Int),(plF ns f l c ps).length=ps.length:=by
 intro l
 induction l with
 | nil=>intro c ps;rfl
 | cons n l ih=>
  intro c ps;unfold plF;split<;>rw[ih,Cn]
theorem zL7 (ns:List Tn) (f:List UInt8->Option Int):∀ (l:List Int) (c:Nat) (ps:List Int) (i:Nat),(∀ n∈l,n.toNat≠i)->(plF ns f l c ps)[i]?=ps[i]?:=by
 intro l
 induction l with
 | nil=>intro c ps i _;rfl
 | cons n l ih=>
  intro c ps i h;have h1:=h n (Cb ..);have h2:∀ n∈l,n.toNat≠i:=fun n hn=>h n (C0 _ hn);unfold plF;split
  ·rw[ih _ _ _ h2,Dn h1]
  ·rw[ih _ _ _ h2,Dn h1]
theorem zP5 (ns:List Tn) (f:List UInt8->Option Int):∀ (l:List Int) (c:Nat) (ps:List Int),l.Nodup->(∀ n∈l,0<=n/\n.toNat<ps.length)->∀ n∈l,(plF ns f l c ps)[n.toNat]?=some (plc ns f l c n):=by
 intro l
 induction l with
 | nil=>intro c ps _ _ n hn;simp at hn
 | cons m l ih=>
  intro c ps hd hl n hn;have hm:=hl m (Cb ..);have g:=(List.nodup_cons.1 hd).1;have d:=(List.nodup_cons.1 hd).2;have a:∀ n∈l,0<=n/\n.toNat<ps.length:=fun n hn=>hl n (C0 _ hn);have b:∀ k∈l,k.toNat≠m.toNat:=fun k hk e=>g (by
   have:k=m:=by have:=(a k hk).1;omega
   rw[<-this];exact hk)
  unfold plF;cases hs:sub1 f (nd ns m)with
  | some p=>
   simp only;have hk:keptL ns f (m::l)=keptL ns f l:=by unfold keptL;rw[List.filter_cons,hs];rfl
   rcases Cs.1 hn with rfl|hn
   ·rw[zL7 _ _ _ _ _ _ b,Df hm.2];unfold plc;rw[hs]
   ·rw[ih c _ d (fun n hn=>by rw[Cn];exact a n hn) n hn];unfold plc;rw[hk]
  | none=>
   simp only;have hk:keptL ns f (m::l)=m::keptL ns f l:=by unfold keptL;rw[List.filter_cons,hs];rfl
   rcases Cs.1 hn with rfl|hn
   ·rw[zL7 _ _ _ _ _ _ b,Df hm.2];unfold plc;rw[hs,hk];simp
   ·rw[ih (c+1) _ d (fun n hn=>by rw[Cn];exact a n hn) n hn];have h:m≠n:=fun e=>g (e ▸ hn);unfold plc;rw[hk];cases sub1 f (nd ns n)with
    | some p=>rfl
    | none=>
     simp only;rw[List.idxOf_cons,show (m==n)=false from Ck.2 h];simp only[cond_false,Cu];omega
theorem zIg (ns:List Tn) (f:List UInt8->Option Int) (l m:List Int):keptL ns f (l++m)=keptL ns f l++keptL ns f m:=by unfold keptL;rw[List.filter_append]
theorem zEc (ns:List Tn) (f:List UInt8->Option Int) (l:List Int):(keptL ns f l).length<=l.length:=E2 _ _
theorem zN5 (ns:List Tn) (f:List UInt8->Option Int) (n:Int):∀ (l:List Int) (c:Nat) (ps:List Int),plF ns f (l++[n]) c ps=(plF ns f l c ps).set n.toNat (match sub1 f (nd ns n)with|some p=>p|none=>((c+(keptL ns f l).length:Nat):Int)):=by
 intro l
 induction l with
 | nil=>
  intro c ps;rw[Cl];unfold plF;cases sub1 f (nd ns n)<;>rfl
 | cons m l ih=>
  intro c ps;rw[Dt];unfold plF;cases hs:sub1 f (nd ns m)with
  | some p=>
   have hk:keptL ns f (m::l)=keptL ns f l:=by unfold keptL;rw[List.filter_cons,hs];rfl
   simp only;rw[ih,hk]
  | none=>
   have hk:keptL ns f (m::l)=m::keptL ns f l:=by unfold keptL;rw[List.filter_cons,hs];rfl
   simp only;rw[ih,hk,Ci,show c+1+(keptL ns f l).length=c+((keptL ns f l).length+1) by omega]
theorem zK1 (ns:List Tn) (f:List UInt8->Option Int) (n:Int) (l:List Int):keptL ns f (l++[n])=keptL ns f l++(if (sub1 f (nd ns n)).isNone then [n] else []):=by
 rw[zIg];congr 1;unfold keptL;rw[List.filter_cons];rfl
theorem zHg:∀ (n:Nat) (l:List Int),l.Nodup->(∀ k∈l,0<=k/\k<n)->l.length<=n:=by
 intro n
 induction n with
 | zero=>
  intro l _ hl;cases l with
  | nil=>simp
  | cons a l=>have:=hl a (Cb ..);omega
 | succ n ih=>
  intro l hd hl;have h1:=ih (l.erase (n:Int)) (hd.erase _) (fun k hk=>by
   have h2:=hl k (List.mem_of_mem_erase hk);have h3:k≠(n:Int):=fun e=>by
    subst e;exact (List.Nodup.not_mem_erase hd) hk
   omega)
  have h4:=List.length_erase_le (a:=(n:Int)) (l:=l);rw[List.length_erase]at h1;split at h1<;>omega
def VLen (ns:List Tn) (s s':List Bool×List Int):Prop:=s'.1.length=ns.length/\fls s'.1<=fls s.1/\s'.2.length+fls s'.1=s.2.length+fls s.1
theorem zHw {ns:List Tn}{u:Nat}(ih:∀ (s:List Bool×List Int) (n:Nat),s.1.length=ns.length->n<ns.length->VLen ns s (visC ns u s n)):∀ (l:List Int) (t:List Bool×List Int),(∀ k∈l,0<=k/\k<ns.length)->t.1.length=ns.length->VLen ns t (l.foldl (fun s k=>visC ns u s k.toNat) t):=by
 intro l
 induction l with
 | nil=>intro t _ ht;exact⟨ht,Bb _,rfl⟩
 | cons k l ihl=>
  intro t hl ht;have hk:=hl k (Cb ..);have h1:=ih t k.toNat ht (by omega);have h2:=ihl (visC ns u t k.toNat) (fun k hk=>hl k (C0 _ hk)) h1.1;rw[Dc];exact⟨h2.1,Ba h2.2.1 h1.2.1,h2.2.2.trans h1.2.2⟩
theorem zNp {ns:List Tn}(he:EdgOk ns):∀ (u:Nat) (s:List Bool×List Int) (n:Nat),s.1.length=ns.length->n<ns.length->VLen ns s (visC ns u s n):=by
 intro u
 induction u with
 | zero=>intro s n h _;exact⟨h,Bb _,rfl⟩
 | succ u ih=>
  intro s n hs hn;unfold visC;split
  ·exact⟨hs,Bb _,rfl⟩
  rename_i hd;rw[Bw hn];simp only;have h0:dn s.1 n=false:=Ep.2 hd;have hz:=zJh (hs ▸ hn) h0;have h1:=zHw ih (edg ns[n]) (s.1.set n true,s.2++[(n:Int)]) (fun k hk=>he _ (Cv hn) k hk) (by simpa using hs);refine⟨h1.1,?_,?_⟩
  ·have:=h1.2.1;simp only at this;omega
  ·have:=h1.2.2;simp only[Bd,Ci,Ch]at this;omega
theorem zHm (n:Nat):fls (List.replicate n false)=n:=by
 unfold fls;rw[List.countP_replicate];rfl
theorem zEb (c:Int) (w:World) :
  Calls tP 71 #[.int .u8 c] w fun e w'=>e=.returned (.bool (lowB c))/\w=w':=by
 go_enter func71,ntmps71;go_wp2
 all_goals go_ret
 all_goals exact⟨zAb (by unfold lowB;simp;omega),rfl⟩
theorem zFd (c:Int) (w:World) :
  Calls tP 70 #[.int .u8 c] w fun e w'=>e=.returned (.bool (upB c))/\w=w':=by
 go_enter func70,ntmps70;go_wp2
 all_goals go_ret
 all_goals exact⟨zAb (by unfold upB;simp;omega),rfl⟩
theorem zIn (c:Int) (w:World) :
  Calls tP 72 #[.int .u8 c] w fun e w'=>e=.returned (.bool (digB c))/\w=w':=by
 go_enter func72,ntmps72;go_wp2
 all_goals go_ret
 all_goals exact⟨zAb (by unfold digB;simp;omega),rfl⟩
theorem zCt (s:ByteArray) (w:World) (hs:s.size<=maxLen) :
  Calls tP 115 #[vT s] w fun e w'=>e=.returned (.bool (atomB s.data.toList))/\w=w':=by
 unfold maxLen at hs;unfold atomB;by_cases h1:s.size<1
 ·go_enter func115,ntmps115;go_wp2;go_ret;exact⟨zAb (zAq _ _ _ (by omega)).symm,rfl⟩
 ·by_cases h2:16<s.size
  ·go_enter func115,ntmps115;go_wp2;go_ret;exact⟨zAb (zAq _ _ _ (by omega)).symm,rfl⟩
  ·have h3:0<s.size:=by omega
   cases h4:lowB (s[0]'h3).toNat
   ·go_enter func115,ntmps115;go_wp2_with (go_at_call 71;refine (zEb _ _).mono ?_;rintro e w' ⟨rfl,rfl⟩);go_ret;exact⟨zAb (zAq _ _ _ (.inr (.inr (.inl ⟨h3,h4⟩)))).symm,rfl⟩
   ·go_enter func115,ntmps115;go_wp2_with (go_at_call 71;refine (zEb _ _).mono ?_;rintro e w' ⟨rfl,rfl⟩)
    go_loop [3] (fun i=>∃ k:Nat,1<=k/\k<=s.size/\i=vI i6 k/\∀ j (h:j<s.size),1<=j->j<k->atomT (s[j]'h).toNat=true) (fun i=>s.size-(intOf i).toNat)
    case atStart=>exact⟨1,by omega,by omega,rfl,fun j h a b=>by omega⟩
    case round=>
     obtain⟨k,d,hk,rfl,c⟩:=hrel;have HA:=xI c;clear c;go_wp2_with (first|(go_at_call 71;refine (zEb _ _).mono ?_;rintro e w' ⟨rfl,rfl⟩)|(go_at_call 72;refine (zIn _ _).mono ?_;rintro e w' ⟨rfl,rfl⟩))
     ·go_round
      case rel=>exact⟨k+1,by omega,by omega,by go_num,zA9 HA ‹_› (by simp_all [atomT])⟩
      case measure=>simp[intOf];omega
     ·go_round
      case rel=>exact⟨k+1,by omega,by omega,by go_num,zA9 HA ‹_› (by simp_all [atomT])⟩
      case measure=>simp[intOf];omega
     ·go_ret;exact⟨zAb (zAq _ _ _ (.inr (.inr (.inr ⟨k,‹_›,d,by simp_all [atomT]⟩)))).symm,rfl⟩
     ·go_round
      case rel=>exact⟨k+1,by omega,by omega,by go_num,zA9 HA ‹_› (by simp_all [atomT])⟩
      case measure=>simp[intOf];omega
     ·go_ret;exact⟨zAb (zDh _ _ _ h3 (by omega) h4 (fun j h a=>HA.out j h a (by omega))).symm,rfl⟩
theorem zBj (s:ByteArray) (w:World) (hs:s.size<=maxLen) :
  Calls tP 29 #[vT s] w fun e w'=>e=.returned (.bool (varB s.data.toList))/\w=w':=by
 unfold maxLen at hs;unfold varB;by_cases h1:s.size<1
 ·go_enter func29,ntmps29;go_wp2;go_ret;exact⟨zAb (zAq _ _ _ (by omega)).symm,rfl⟩
 ·by_cases h2:16<s.size
  ·go_enter func29,ntmps29;go_wp2;go_ret;exact⟨zAb (zAq _ _ _ (by omega)).symm,rfl⟩
  ·have h3:0<s.size:=by omega
   cases h4:upB (s[0]'h3).toNat
   ·go_enter func29,ntmps29;go_wp2_with (go_at_call 70;refine (zFd _ _).mono ?_;rintro e w' ⟨rfl,rfl⟩);go_ret;exact⟨zAb (zAq _ _ _ (.inr (.inr (.inl ⟨h3,h4⟩)))).symm,rfl⟩
   ·go_enter func29,ntmps29;go_wp2_with (go_at_call 70;refine (zFd _ _).mono ?_;rintro e w' ⟨rfl,rfl⟩)
    go_loop [3] (fun i=>∃ k:Nat,1<=k/\k<=s.size/\i=vI i6 k/\∀ j (h:j<s.size),1<=j->j<k->varT (s[j]'h).toNat=true) (fun i=>s.size-(intOf i).toNat)
    case atStart=>exact⟨1,by omega,by omega,rfl,fun j h a b=>by omega⟩
    case round=>
     obtain⟨k,d,hk,rfl,c⟩:=hrel;have HA:=xI c;clear c;go_wp2_with (first|(go_at_call 71;refine (zEb _ _).mono ?_;rintro e w' ⟨rfl,rfl⟩)|(go_at_call 70;refine (zFd _ _).mono ?_;rintro e w' ⟨rfl,rfl⟩)|(go_at_call 72;refine (zIn _ _).mono ?_;rintro e w' ⟨rfl,rfl⟩))
     ·go_round
      case rel=>exact⟨k+1,by omega,by omega,by go_num,zA9 HA ‹_› (by simp_all [varT])⟩
      case measure=>simp[intOf];omega
     ·go_round
      case rel=>exact⟨k+1,by omega,by omega,by go_num,zA9 HA ‹_› (by simp_all [varT])⟩
      case measure=>simp[intOf];omega
     ·go_round
      case rel=>exact⟨k+1,by omega,by omega,by go_num,zA9 HA ‹_› (by simp_all [varT])⟩
      case measure=>simp[intOf];omega
     ·go_ret;exact⟨zAb (zAq _ _ _ (.inr (.inr (.inr ⟨k,‹_›,d,by simp_all [varT]⟩)))).symm,rfl⟩
     ·go_round
      case rel=>exact⟨k+1,by omega,by omega,by go_num,zA9 HA ‹_› (by simp_all [varT])⟩
      case measure=>simp[intOf];omega
     ·go_ret;exact⟨zAb (zDh _ _ _ h3 (by omega) h4 (fun j h a=>HA.out j h a (by omega))).symm,rfl⟩
theorem zBe (k:Int) (s:ByteArray) (w:World) (hs:s.size<=maxLen) :
  Calls tP 116 #[.agg #[vI i6 k,vT s]] w fun e w'=>e=.returned (.bool (keyB k s.data.toList))/\bW w w':=by
 have a:=hs;unfold maxLen at a;have b:s.data.toList.length=s.size:=by simp
 by_cases h0:k=0
 ·subst h0;go_enter func116,ntmps116;go_wp2_with (go_at_call 115;refine (zCt _ _ hs).mono ?_;rintro e w' ⟨rfl,rfl⟩)
  all_goals go_ret
  all_goals exact⟨zAb (by simp_all [keyB]),yR.alloc lR _⟩
 ·by_cases h1:k=1
  ·subst h1;go_enter func116,ntmps116;go_wp2;go_ret;exact⟨zAb (by simp[keyB]<;>omega),yR.alloc lR _⟩
  ·go_enter func116,ntmps116;go_wp2;go_ret;exact⟨zAb (by simp[keyB,h0,h1]),yR.alloc lR _⟩
theorem zE9 {n:Nat}{k:Int}:idxB n k=true↔0<=k/\k<n:=by simp[idxB]
theorem zAy {H:Nat}{ns:List Tn}{root:Int}{cs:List Value}(k:Int) (w:World) (hT:TyP w H ns root cs):Calls tP 74 #[.agg cs.toArray,vI i6 k] w fun e w'=>e=.returned (.bool (idxB ns.length k))/\bW w w':=by
 obtain⟨u,rfl,hr,a⟩:=hT;obtain⟨A,c,rfl,b⟩:=a.form;clear a;obtain⟨W,hW⟩:∃ W,W=w.alloc (oE A ns.length c root):=⟨_,rfl⟩;have hb:bW w W:=by rw[hW];exact yR.alloc lR _
 have e0:W.cell? (aH w 0)=some (vS A ns.length c):=(Bu (by rw[hW];exact Bk w _) 0).trans rfl;generalize hn:ns.length=n at *;by_cases h0:0<=k
 ·by_cases h1:k<(n:Int)
  ·have hr:idxB n k=true:=zE9.2 ⟨h0,h1⟩;go_enter func74,ntmps74;go_wp2;rw[<-hW];go_ret;exact⟨by first|rfl|(rw[hr];rfl),hb⟩
  ·have hr:idxB n k=false:=by rw[Ep];intro h;exact h1 (zE9.1 h).2
   go_enter func74,ntmps74;go_wp2;rw[<-hW];go_ret;exact⟨by first|rfl|(rw[hr];rfl),hb⟩
 ·have hr:idxB n k=false:=by rw[Ep];intro h;exact h0 (zE9.1 h).1
  go_enter func74,ntmps74;go_wp2;rw[<-hW];go_ret;exact⟨by first|rfl|(rw[hr];rfl),hb⟩
theorem zDz {w:World}{H n c:Nat}{l:List Int}{A:Option Addr}(h:RowP w H 1 (vS A n c) l.length (kidR l)):∃ b off,(0<l.length->A=some (aD b off)/\b<H)/\∀ j k,l[j]?=some k->w.cell? (aD b (off+j))=some (vI i6 k)/\i64B k:=by
 by_cases h0:0<l.length
 ·obtain⟨b,off,hA,hb,_,_⟩:=zC6 h (Bw h0);refine⟨b,off,fun _=>⟨hA,hb⟩,fun j k hk=>?_⟩;obtain⟨b',d,a,_,hc,hw⟩:=zC6 h hk;rw[hA]at a;injection a with a;injection a with e1 e2 _;subst e1 e2;exact⟨hc,hw⟩
 ·exact⟨0,0,fun h=>absurd h h0,fun j k hk=>absurd (Bx.1 hk).1 (by omega)⟩
structure WF (w W:World) (T N:Obj):Prop where
 t:W.heap[w.heap.size]?=some T
 n:W.heap[w.heap.size+1]?=some N
 bel:bW w W
 siz:w.heap.size+2<=W.heap.size
theorem WF.start (w:World) (T N:Obj):WF w ((w.alloc T).alloc N) T N:=by
 refine⟨by rw[Bt _ _ _ (by simp)];exact Bk w _,zAf _ (by simp),(yR.alloc lR _).alloc (by simp) _,by simp⟩
theorem WF.next {w W W':World}{T N:Obj}(h:WF w W T N) (hb:bW W W'):WF w W' T N:=by
 have hz:=h.siz;have hs:=hb.size;exact⟨(hb.block _ (by omega)).trans h.t,(hb.block _ (by omega)).trans h.n,h.bel.trans (hb.mono (by omega)),by omega⟩
theorem zQh (ns:List Tn) (root:Int) (A:Option Addr) (c:Nat) (kd lo hi:Int) (tx:List UInt8) (ks:List Int) (fds:List Fd) (r0 r1:Int) (Ak:Option Addr) (ck:Nat) (Af:Option Addr) (cf:Nat) (w:World)
  (hT:TyP w w.heap.size ns root [vS A ns.length c,vI i6 root]) (hN:TnP w w.heap.size ⟨kd,lo,hi,tx,ks,fds,r0,r1⟩ [vI i6 kd,vI i6 lo,vI i6 hi,vT ⟨tx.toArray⟩,vS Ak ks.length ck,vS Af fds.length cf,vI i6 r0,vI i6 r1])
  (hkids:ks.all (idxB ns.length)=false) :
  Calls tP 75 #[.agg #[vS A ns.length c,vI i6 root],.agg #[vI i6 kd,vI i6 lo,vI i6 hi,vT ⟨tx.toArray⟩,vS Ak ks.length ck,vS Af fds.length cf,vI i6 r0,vI i6 r1]] w fun e w'=>e=.returned (.bool (tnB ns.length ⟨kd,lo,hi,tx,ks,fds,r0,r1⟩))/\bW w w':=by
 obtain⟨uk,uf,x,q,b,v⟩:=hN;simp only[Bc,and_true]at x;obtain⟨_,_,_,_,rfl,rfl,_,_⟩:=x;obtain⟨bk,ok,f,u⟩:=zDz b;have f:0<ks.length->Ak=some (aD bk ok)/\bk<w.heap.size:=f;have s:ks.length<=maxLen:=by obtain⟨_,_,h,h',_⟩:=b;exact h'.1
 have hF:=WF.start w (oE A ns.length c root) (oX kd lo hi ⟨tx.toArray⟩ Ak ks.length ck Af fds.length cf r0 r1);obtain⟨W,hW⟩:∃ W,W=((w.alloc (oE A ns.length c root)).alloc (oX kd lo hi ⟨tx.toArray⟩ Ak ks.length ck Af fds.length cf r0 r1)):=⟨_,rfl⟩;rw[<-hW]at hF;have HQ:Hid (∀ wq,bW W wq->((jT wq w.heap.size A ns.length c root)/\wq.cell? (aE w 4)=some (vS Ak ks.length ck)/\∀ j k,ks[j]?=some k->wq.cell? (aD bk (ok+j))=some (vI i6 k))):=xI fun wq hb=>by
  have F:=hF.next hb
  refine⟨⟨cH F.t 0,cH F.t 1⟩,cH F.n 4,fun j k hj=>(F.bel.cell (p:=(aD bk (ok+j))) (f (by have:=(Bx.1 hj).1;omega)).2).trans (u j k hj).1⟩
 have HT:Hid (∀ wq,bW W wq->TyP wq w.heap.size ns root [vS A ns.length c,vI i6 root]):=xI fun wq hb=>hT.on (hF.next hb).bel
 have HF:=xI hF;have HK:=xI (aN s (aN f (aN v q)));clear hF hT u b f v q;unfold maxLen at s;go_enter func75,ntmps75;go_wp2_with fail;rw[<-hW];clear hW
 go_loopw [5] (fun iv wr=>∃ j:Nat,iv=vI i6 j/\j<=ks.length/\(∀ m k,m<j->ks[m]?=some k->idxB ns.length k=true)/\bW W wr) (fun i _=>((ks.length:Int)-intOf i).toNat)
 case atStart=>exact⟨0,rfl,by omega,fun m k hm=>absurd hm (by omega),By _ _⟩
 case round=>
  obtain⟨j,rfl,hj,d,g⟩:=hrel;have r:=(HQ.out wr g).2.1;by_cases hjn:j<ks.length
  ·have mp:(j:Int)<(ks.length:Int):=by omega
   have m0:(0:Int)<=(j:Int):=by omega
   have z:IntKind.i64.wrap ((j:Int)+1)=(j:Int)+1:=Br _ (by omega);have l:=Bw hjn;generalize ks[j]=kj at l;obtain⟨rfl,B⟩:=HK.out.2.1 (by omega);have hd:bW W wr.drew:=g.drew;have hq:=HQ.out _ hd;have HA:=xI (aN hj (aN d g));have hc:=zAy kj wr.drew (HT.out _ hd);have a:Hid (∀ wq,Below wr.drew.heap.size wr.drew wq->((jT wq w.heap.size A ns.length c root)/\wq.cell? (aE w 4)=some (vS (some (aD bk ok)) ks.length ck)/\wq.cell? (aD bk (ok+j))=some (vI i6 kj))):=xI fun wq hb=>by
    have h:=HQ.out wq (hd.trans (hb.mono hd.size));exact⟨h.1,h.2.1,h.2.2 j kj l⟩
   clear d g hq;generalize hkn:ks.length=kl at mp r a;have y:=xI hkn;clear hkn;go_wp2_with fail;clear r;refine ub 7 (fun wq=>((jT wq w.heap.size A ns.length c root)/\wq.cell? (aE w 4)=some (vS (some (aD bk ok)) kl ck)/\wq.cell? (aD bk (ok+j))=some (vI i6 kj))) (fun _=>True) ?_;refine oM 0 ⟨a.out _ yR,trivial⟩ ?_;refine oM 1 ⟨a.out _ yR,trivial⟩ ?_;refine oM 2 ⟨a.out _ yR,trivial⟩ ?_;refine oM 3 ⟨a.out _ yR,trivial⟩ ?_;refine oM 4 ⟨a.out _ yR,trivial⟩ ?_;refine oM 5 ⟨a.out _ yR,trivial⟩ ?_;refine uo 6 (fun K hK=>?_);go_simp;refine hc.mono ?_;rintro e w5 ⟨rfl,hb5⟩;clear hc;refine hK _ _ ⟨a.out _ hb5,fun _=>trivial⟩ (oQ ?_);clear hK K;refine uo 7 (fun K hK=>?_);go_simp;refine hK _ _ ⟨a.out _ hb5,fun _=>trivial⟩ (oQ ?_);clear hK K;refine (ud ?_) _;cases hix:idxB ns.length kj with
   | false=>
    go_wp2;go_ret;have o:tnB ns.length ⟨kd,lo,hi,tx,ks,fds,r0,r1⟩=false:=by simp[tnB,hkids]
    exact⟨by rw[o];rfl,HF.out.bel.trans ((HA.out.2.2.drew.trans (hb5.mono HA.out.2.2.drew.size)).mono (by have:=HF.out.siz;omega))⟩
   | true=>
    go_wp2_with fail
    go_roundw
    case rel=>
     refine⟨j+1,by go_num,by omega,fun m k hm hk=>?_,hd.trans (hb5.mono hd.size)⟩;by_cases hmj:m=j
     ·subst hmj;rw[l]at hk;injection hk with hk;rw[<-hk];exact hix
     ·exact HA.out.2.1 m k (by omega) hk
    case measure=>have:=y.out;simp[intOf];omega
  ·exfalso;have hq:ks.all (idxB ns.length)=true:=by
    rw[B7];intro k hk;obtain⟨m,hm,rfl⟩:=List.mem_iff_getElem.1 hk;exact d m _ (by omega) (Bw hm)
   rw[hkids]at hq;simp at hq
end Go.Proofs.YteedihhdcbepmaaGreat
