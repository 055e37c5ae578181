/- The program's moved: a node in new memory, .. -/
import Derived.Test.YteedihhdcbepmaaGreatTsZ
import Derived.Test.YteedihhdcbepmaaGreatTs09
set_option maxRecDepth 100000
set_option maxHeartbeats 12800000
set_option linter.all false
open Go.Value renaming slice→vS,int→vI,string→vT
open Go.IntKind renaming i64→i6
open Go.Proofs.Tryz
open Go.Proofs.Tryz renaming prog→tP
namespace Go.Proofs.YteedihhdcbepmaaGreat
open Go Go.RowKit
section
variable {α:Type}
def part (h:α->α) (l:List α) (j:Nat):List α:=(l.take j).map h++l.drop j
theorem zEd (h:α->α) (l:List α):part h l 0=l:=by simp[part]
theorem zFe (h:α->α) (l:List α) (j:Nat):(part h l j).length=l.length:=by simp[part];omega
theorem zHr (h:α->α) (l:List α):part h l l.length=l.map h:=by simp[part]
theorem zHq (h:α->α){l:List α}{j:Nat}{x:α}(hx:l[j]?=some x):(part h l j)[j]?=some x:=by
 have hj:=(Bx.1 hx).1;unfold part;rw[Dw (by rw[Bk,Bg];omega),Bk,Bg,C7,Nat.min_eq_left (by omega),Nat.sub_self,Ds];exact hx
theorem zFd (h:α->α){l:List α}{j:Nat}{x:α}(hx:l[j]?=some x):(part h l j).set j (h x)=part h l (j+1):=by
 have hj:=(Bx.1 hx).1;have hd:l.drop j=x::l.drop (j+1):=by
  rw[List.drop_eq_getElem_cons hj];have:=By hj;rw[hx]at this;injection this with this;rw[<-this]
 have ht:(l.take (j+1)).map h=(l.take j).map h++[h x]:=by rw[Cr,hx];simp
 unfold part;rw[ht,hd,List.set_append_right _ _ (by rw[Bk,Bg];omega),Bk,Bg,Nat.min_eq_left (by omega),Nat.sub_self];simp
end
def mvF (g:Int->Int) (f:Fd):Fd:=⟨f.key,g f.node,f.opt⟩
theorem zM6 {g:Int->Int}{l:List Fd}{j:Nat}{x:Fd}(hx:l[j]?=some x):(part (mvF g) l j).set j (mvF g x)=part (mvF g) l (j+1):=zFd (mvF g) hx
theorem OwnE.baseLe {α:Type}{K:ElK α}{e:TypeId}{c:Nat}{w:World}{base base':Nat}{v:Value}{l:List α}(hfree:∀ x (w w':World) (B B':Nat->Prop) cs,K.E x w B cs->K.E x w' B' cs) (h:OwnE K e c w base v l) (hb:base'<=base):OwnE K e c w base' v l:=by
 obtain⟨xs,⟨h1,h2⟩,h3⟩:=h;refine⟨xs,⟨h1,?_⟩,fun j x hx=>hfree _ _ _ _ _ _ (h3 j x hx)⟩;rcases h2 with h2|⟨g,cap,cur,hv,hg,hr⟩
 ·exact .inl h2
 ·exact .inr ⟨g,cap,cur,hv,by omega,hr⟩
theorem OwnE.stay {α:Type}{K:ElK α}{e:TypeId}{c:Nat}{w w':World}{base:Nat}{v:Value}{l:List α}(hfree:∀ x (w w':World) (B B':Nat->Prop) cs,K.E x w B cs->K.E x w' B' cs) (h:OwnE K e c w base v l) (hb:∀ g,v.ownBlock=some g->g<w.heap.size->w'.heap[g]?=w.heap[g]?):OwnE K e c w' base v l:=by
 obtain⟨xs,⟨h1,h2⟩,h3⟩:=h;refine⟨xs,⟨h1,?_⟩,fun j x hx=>hfree _ _ _ _ _ _ (h3 j x hx)⟩;rcases h2 with h2|⟨g,cap,cur,hv,hg,hc,hr⟩
 ·exact .inl h2
 ·exact .inr ⟨g,cap,cur,hv,hg,(hb g (by rw[hv];rfl) (Cv.1 hc).1).trans hc,hr⟩
theorem OwnE.ltB {α:Type}{K:ElK α}{e:TypeId}{c:Nat}{w:World}{base:Nat}{v:Value}{l:List α}(h:OwnE K e c w base v l){g:Nat}(hg:v.ownBlock=some g):base<=g/\g<w.heap.size:=by
 obtain⟨xs,⟨h1,h2⟩,h3⟩:=h;rcases h2 with⟨rfl,_⟩|⟨g',cap,a,rfl,hb,hc,hr⟩
 ·simp[Value.ownBlock]at hg
 ·simp only[Value.ownBlock,Cq]at hg;subst hg;exact⟨hb,(Cv.1 hc).1⟩
theorem zNc (K lo hi:Int) (tn:List UInt8) (ks:List Int) (fds:List Fd) (r0 r1:Int) (Ak Af:Option Addr) (ck cf:Nat) (H F:Nat) (cap:Value) (g:Int->Int) (w:World) (hH:H<=w.heap.size) (hN:TnP w H ⟨K,lo,hi,tn,ks,fds,r0,r1⟩ [vI i6 K,vI i6 lo,vI i6 hi,vT ⟨tn.toArray⟩,vS Ak ks.length ck,vS Af fds.length cf,vI i6 r0,vI i6 r1]) (hkl:ks.length<=1048576) (hfl:fds.length<=1048576)
  (eg:∀ args w,(callFunc F args).run tP w=.ok (.enter F args) w) (hg:∀ k∈edg ⟨K,lo,hi,tn,ks,fds,r0,r1⟩,i64B (g k))
  (hF:Hid (∀ k∈edg ⟨K,lo,hi,tn,ks,fds,r0,r1⟩,∀ U,Below w.heap.size w U->Calls tP F #[vI i6 k,cap] U fun e w'=>e=.returned (vI i6 (g k))/\U=w')) :
  Calls tP 111 #[.agg #[vI i6 K,vI i6 lo,vI i6 hi,vT ⟨tn.toArray⟩,vS Ak ks.length ck,vS Af fds.length cf,vI i6 r0,vI i6 r1],.func (.func F) #[] #[cap]] w fun e w'=>(∃ cs,e=.returned (.agg cs.toArray)/\TnB w' (Btw w.heap.size w'.heap.size) (mvd g ⟨K,lo,hi,tn,ks,fds,r0,r1⟩) cs)/\Below w.heap.size w w':=by
 obtain⟨W,hW⟩:∃ W,W=(w.alloc (oX K lo hi ⟨tn.toArray⟩ Ak ks.length ck Af fds.length cf r0 r1)).alloc oH:=⟨_,rfl⟩;have aB:bW w W:=by rw[hW];exact (yR.alloc lR _).alloc (by simp) _
 have kW:W.heap[w.heap.size]?=some (oX K lo hi ⟨tn.toArray⟩ Ak ks.length ck Af fds.length cf r0 r1):=by rw[hW,Bp _ _ _ (by simp)];exact Bl w _
 have kZ:W.heap[w.heap.size+1]?=some oH:=by rw[hW];exact zAg _ (by simp)
 have aU:W.heap.size=w.heap.size+2:=by rw[hW];simp
 obtain⟨uk,uf,P,aI,I,aM⟩:=hN;simp only[Bb,and_true,true_and]at P;obtain⟨rfl,rfl⟩:=P;have aj:Calls tP 151 #[vS Ak ks.length ck] W fun e w'=>∃ u,e=.returned u/\OwnI w' W.heap.size u ks/\bW W w':=zL2 Ak ck ks W (RowB.mono (RowB.on (R':=kidR ks) I (aB.mono hH) fun _ _ h=>h) (by omega) fun _ _ h=>h) hkl;have hE:=zAe kW;rw[hW]at hE;obtain⟨n0,n1,n2,n3,n4,n5,n6,n7⟩:=hE;have HN:=xI (aN aI (aN I aM));have HL:=xI (aN hkl (aN hfl hg));clear aI I aM hkl hfl hg;go_enter func111,ntmps111;go_wp2_with fail;rw[<-hW];clear hW n0 n1 n2 n3 n4 n5 n6 n7;refine aj.mono ?_;rintro e w1 ⟨u,rfl,hu,hb1⟩;obtain⟨Au,cu,rfl⟩:=hu.form;clear aj;have k1:=(hb1.block _ (by omega)).trans kW;have f4:=Bz k1 4;obtain⟨n0,n1,n2,n3,n4,n5,n6,n7⟩:=zAe k1;obtain⟨X,hX⟩:∃ X,X=w1.setCell (aH w 4) (vS Au ks.length cu):=⟨_,rfl⟩;have kX:X.heap[w.heap.size]?=some (oX K lo hi ⟨tn.toArray⟩ Au ks.length cu Af fds.length cf r0 r1):=by rw[hX];exact (Bm w1 w.heap.size 4 _ _ _ k1).trans rfl
 have E:∀ b,b≠w.heap.size->X.heap[b]?=w1.heap[b]?:=fun b hb=>by rw[hX];exact Bq w1 (aH w 4) b _ hb
 have R:X.heap[w.heap.size+1]?=some oH:=((E _ (by omega)).trans (hb1.block _ (by omega))).trans kZ;have t:bW w X:=by rw[hX];exact (aB.trans (hb1.mono (by omega))).setCell (p:=(aH w 4)) lR _
 have aF:w.heap.size+2<=X.heap.size:=by rw[hX];have:=hb1.size;simp;omega
 have aa:OwnI X (w.heap.size+2) (vS Au ks.length cu) ks:=(OwnE.baseLe zAp (OwnE.stay zAp hu fun g hg _=>E g (by have:=(OwnE.ltB hu hg).1;omega)) (by omega));have g4:=(zAe kX).2.2.2.2.1;have HX:=xI (aN kX (aN R (aN t (aN aF aa))));clear kX R t aF aa E hu aB kW kZ hb1 k1;rw[hX]at g4;generalize hnk:ks.length=nk at *;have aq:=xI hnk;clear hnk;go_wp2_with fail;rw[<-hX];clear hX g4 n0 n1 n2 n3 n4 n5 n6 n7 f4 aU
 go_loopw [16] (fun iv wr=>∃ j:Nat,iv=vI i6 j/\j<=nk/\OwnI wr (w.heap.size+2) (vS Au nk cu) (part g ks j)/\wr.heap[w.heap.size]?=some (oX K lo hi ⟨tn.toArray⟩ Au nk cu Af fds.length cf r0 r1)/\wr.heap[w.heap.size+1]?=some oH/\bW w wr) (fun i _=>((nk:Int)-intOf i).toNat)
 case atStart=>exact⟨0,rfl,by omega,by rw[zEd];exact HX.out.2.2.2.2,HX.out.1,HX.out.2.1,HX.out.2.2.1⟩
 case round=>
  obtain⟨j,rfl,hj,A,l,s,o⟩:=hrel;by_cases hjn:j<nk
  ·have mp:(j:Int)<(nk:Int):=by omega
   have m0:(0:Int)<=(j:Int):=by omega
   have aW:IntKind.i64.wrap ((j:Int)+1)=(j:Int)+1:=Br _ (by have:=HL.out.1;omega);have ae:j<ks.length:=by have:=aq.out;omega
   have hx:=By ae;generalize ks[j]=kj at hx;clear ae;obtain⟨gb,cp,cs,hv,n,af,⟨P,ax⟩,a,ap,v⟩:=OwnE.setc zAp A (zHq g hx) (by decide);injection hv with hA hm hcu;subst hA hcu;subst P;have q0:wr.cell? (aD gb j)=some (vI i6 kj):=by have:=a 0 (by decide);simpa using this
   have aT:wr.drew.cell? (aD gb j)=some (vI i6 kj):=q0;have q4:wr.drew.cell? (aH w 4)=some (vS (some (aD gb 0)) nk cu):=(zAe l).2.2.2.2.1;have J:=ap j;have L:kj∈edg ⟨K,lo,hi,tn,ks,fds,r0,r1⟩:=by unfold edg;simp[Bh hx]
   have ag:=HL.out.2.2 kj L;have ai:=hF.out kj L wr.drew (o.trans yR.drew);have HS:=xI (aN (v 0 (vI i6 (g kj)) (g kj) (by decide) ⟨rfl,ag⟩) (aN hx (aN n af)));have HB:=xI (aN l (aN s o));clear hx A a ap v hm L ag l s o n af ax;go_wp2_with fail;refine Be (S:=fun wq=>(wq.cell? (aH w 4)=some (vS (some (aD gb 0)) nk cu))) (by kernel_rfl) q4 (fun _=>?_);refine oT 0 q4 ?_
   (iterate 4 refine oY q4 ?_)
   refine zIt 5 (by kernel_rfl) rfl (by rfl) (fun K9 hK=>?_);go_simp;refine ai.mono ?_;rintro e w2 ⟨rfl,rfl⟩;refine hK _ _ q4 (oP ?_);clear hK K9;refine oT 6 q4 ?_;refine zIt 7 (by kernel_rfl) rfl (by rfl) (fun K9 hK=>?_);go_simp;have r:∀ b,b≠gb->(wr.setCell (aD gb j) (vI i6 (g kj))).drew.heap[b]?=wr.heap[b]?:=fun b hb=>Bq wr (aD gb j) b _ hb;have az:=HS.out.2.2;have kV:=(r w.heap.size (by omega)).trans HB.out.1;have T:=(r (w.heap.size+1) (by omega)).trans HB.out.2.1;have G:bW w (wr.setCell (aD gb j) (vI i6 (g kj))).drew:=(HB.out.2.2.setCell (p:=(aD gb j)) (by show w.heap.size<=gb;omega) _).drew;have HO:OwnI (wr.setCell (aD gb j) (vI i6 (g kj))).drew (w.heap.size+2) (vS (some (aD gb 0)) nk cu) (part g ks (j+1)):=by
    have h:=HS.out.1;rw[zFd g HS.out.2.1,Nat.mul_one,Ds]at h;exact h
   have HV:=xI (aN HO (aN kV (aN T G)));have Q:=(zAe kV).2.2.2.2.1;clear r az kV T G HO;refine hK _ _ Q (oP ?_);clear hK K9;refine wD ?_;generalize (wr.setCell (aD gb j) (vI i6 (g kj))).drew=V at *;clear Q q0 aT q4 J ai;go_wp2_with fail
   go_roundw
   case rel=>exact⟨j+1,by go_num,by omega,HV.out⟩
   case measure=>simp[intOf];try omega
  ·have mp:¬ (j:Int)<(nk:Int):=by omega
   have C:OwnI wr (w.heap.size+2) (vS Au nk cu) (ks.map g):=by
    have h:=zHr g ks;rw[aq.out]at h;rw[<-h,show nk=j from by omega];have h2:j=nk:=by omega
    subst h2;exact A
   have aV:w.heap.size+2<=wr.heap.size:=by have:=(Cv.1 s).1;omega
   have aO:Calls tP 152 #[vS Af fds.length cf] wr fun e w'=>∃ u,e=.returned u/\OwnF w' wr.heap.size u fds/\bW wr w':=zL3 Af cf fds wr (RowB.mono (RowB.on (R':=fdR fds) HN.out.2.2 (o.mono hH) fun _ _ h=>h) (by omega) fun _ _ h=>h) HL.out.2.1;obtain⟨n0,n1,n2,n3,n4,n5,n6,n7⟩:=zAe l;have HB:=xI (aN C (aN l (aN s o)));clear A C l s o;generalize hnf:fds.length=nf at *;have am:=xI hnf;clear hnf;go_wp2_with fail;refine aO.mono ?_;rintro e w2 ⟨u2,rfl,hu2,hb2⟩;obtain⟨z,q,rfl⟩:=hu2.form;rw[am.out]at hu2 ⊢;clear aO n0 n1 n2 n3 n4 n5 n6 n7;rename_i wq0;obtain⟨X,hX⟩:∃ X,X=w2.setCell (aH w 5) (vS z nf q):=⟨_,rfl⟩;have k2:=(hb2.block _ (by omega)).trans HB.out.2.1;have f5:=Bz k2 5;obtain⟨n0,n1,n2,n3,n4,n5,n6,n7⟩:=zAe k2;have kX:X.heap[w.heap.size]?=some (oX K lo hi ⟨tn.toArray⟩ Au nk cu z nf q r0 r1):=by rw[hX];exact (Bm w2 w.heap.size 5 _ _ _ k2).trans rfl
   have E:∀ b,b≠w.heap.size->X.heap[b]?=w2.heap[b]?:=fun b hb=>by rw[hX];exact Bq w2 (aH w 5) b _ hb
   have R:X.heap[w.heap.size+1]?=some oH:=((E _ (by omega)).trans (hb2.block _ (by omega))).trans HB.out.2.2.1;have t:bW w X:=by rw[hX];exact (HB.out.2.2.2.trans (hb2.mono (by omega))).setCell (p:=(aH w 5)) lR _
   have aa:OwnF X wr.heap.size (vS z nf q) fds:=OwnE.stay zC4 hu2 fun g hg _=>E g (by have:=(OwnE.ltB hu2 hg).1;omega);have aJ:OwnI X (w.heap.size+2) (vS Au nk cu) (ks.map g):=OwnE.stay zAp (OwnE.stay zAp HB.out.1 fun g hg hl=>hb2.block g hl) fun g hg _=>E g (by have:=(OwnE.ltB HB.out.1 hg).1;omega);have HZ:Hid (∀ gb,(vS Au nk cu).ownBlock=some gb->gb<wr.heap.size):=xI fun gb hg=>(OwnE.ltB HB.out.1 hg).2;have g5:=(zAe kX).2.2.2.2.2.1;have ak:=xI (aN kX (aN R (aN t (aN aa aJ))));clear kX R t aa aJ E hu2 hb2 k2;rw[hX]at g5;go_wp2_with fail;rw[<-hX];have al:=xI aV;generalize hzz:wr.heap.size=Z at *;clear hX g5 n0 n1 n2 n3 n4 n5 n6 n7 f5 hzz;clear mp
   go_loopw [36] (fun iv wr=>∃ j:Nat,iv=vI i6 j/\j<=nf/\OwnF wr Z (vS z nf q) (part (mvF g) fds j)/\OwnI wr (w.heap.size+2) (vS Au nk cu) (ks.map g)/\wr.heap[w.heap.size]?=some (oX K lo hi ⟨tn.toArray⟩ Au nk cu z nf q r0 r1)/\wr.heap[w.heap.size+1]?=some oH/\bW w wr) (fun i _=>((nf:Int)-intOf i).toNat)
   case atStart=>exact⟨0,rfl,by omega,by rw[zEd];exact ak.out.2.2.2.1,ak.out.2.2.2.2,ak.out.1,ak.out.2.1,ak.out.2.2.1⟩
   case round=>
    rename World=>wrOld;rename_i hmpOld _;obtain⟨j,rfl,hj,d,c,l,s,o⟩:=hrel;rename World=>wr;by_cases hjn:j<nf
    ·have mp:(j:Int)<(nf:Int):=by omega
     have m0:(0:Int)<=(j:Int):=by omega
     have aW:IntKind.i64.wrap ((j:Int)+1)=(j:Int)+1:=Br _ (by have:=HL.out.2.1;omega);have ae:j<fds.length:=by have:=am.out;omega
     have hx:=By ae;generalize fds[j]=f at hx;clear ae;obtain⟨gb,cp,cs,hv,n,af,⟨P,ar⟩,a,ap,_⟩:=OwnE.setc zC4 d (zHq (mvF g) hx) (by decide);injection hv with hA hm hcu;subst hA hcu;subst P;obtain⟨⟨k1,k2⟩,fn,fo⟩:=f;have q0:wr.cell? (aD gb (j*4))=some (vI i6 k1):=a 0 (by decide);have q1:wr.cell? (aD gb (j*4+1))=some (vT ⟨k2.toArray⟩):=a 1 (by decide);have q2:wr.cell? (aD gb (j*4+2))=some (vI i6 fn):=a 2 (by decide);have q3:wr.cell? (aD gb (j*4+3))=some (.bool fo):=a 3 (by decide);obtain⟨ao,Y⟩:∃ ao,ao=wr.heap.size:=⟨_,rfl⟩;obtain⟨X,hX⟩:∃ X,X=wr.alloc (.cells #[vI i6 k1,vT ⟨k2.toArray⟩,vI i6 fn,.bool fo] 150 (0,0)):=⟨_,rfl⟩;have t:bW wr X:=by rw[hX];exact yR.alloc lR _
     have kF:X.heap[ao]?=some (.cells #[vI i6 k1,vT ⟨k2.toArray⟩,vI i6 fn,.bool fo] 150 (0,0)):=by rw[hX,Y];exact Bl wr _
     have O:w.heap.size+1<wr.heap.size:=(Cv.1 s).1;have kB:=(t.block _ (by omega)).trans l;have kR:=(t.block _ O).trans s;have y:OwnF X Z (vS (some (aD gb 0)) nf q) (part (mvF g) fds j):=OwnE.stay zC4 d fun gg hg hl=>t.block gg hl;have x:OwnI X (w.heap.size+2) (vS Au nk cu) (ks.map g):=OwnE.stay zAp c fun gg hg hl=>t.block gg hl;obtain⟨aY,a0,aZ,aX,N,ay,⟨aA,_⟩,_,ah,v⟩:=OwnE.setc zC4 y (zHq (mvF g) hx) (by decide);injection aX with hA' hm' hcu';injection hA' with hA';injection hA' with hA';subst hA' hcu' aA;have q4:X.drew.cell? (aH w 5)=some (vS (some (aD gb 0)) nf q)/\X.drew.cell? (aD ao 2)=some (vI i6 fn):=⟨(zAe kB).2.2.2.2.2.1,cH kF 2⟩;have J:=ah (j*4+2);have L:fn∈edg ⟨K,lo,hi,tn,ks,fds,r0,r1⟩:=by unfold edg;simp;exact .inr (.inl ⟨_,Bh hx,rfl⟩)
     have ag:=HL.out.2.2 fn L;have M:=o.trans (t.mono o.size);have ai:=hF.out fn L X.drew (M.trans yR.drew);have HS:=xI (aN (v 2 (vI i6 (g fn)) (mvF g ⟨(k1,k2),fn,fo⟩) (by decide) ⟨rfl,ar.1,ar.2.1,ag⟩) (aN hx (aN n (aN af O))));have an:=xI (aN kB (aN kR (aN M (aN x kF))));subst Y;clear d c l s o a ap t kF kB kR y x v ah hm hm' L ag M hx O n af ar N ay;go_wp2_with fail;rw[<-hX];clear hX q0 q1 q2 q3;refine Be (S:=fun wq=>(wq.cell? (aH w 5)=some (vS (some (aD gb 0)) nf q)/\wq.cell? (aH wr 2)=some (vI i6 fn))) (by kernel_rfl) q4 (fun _=>?_);refine oT 0 q4 ?_
     (iterate 5 refine oY q4 ?_)
     refine zIt 6 (by kernel_rfl) rfl (by rfl) (fun K9 hK=>?_);go_simp;refine ai.mono ?_;rintro e w5 ⟨rfl,rfl⟩;refine hK _ _ q4 (oP ?_);clear hK K9;refine oT 7 q4 ?_;refine oT 8 q4 ?_;refine zIt 9 (by kernel_rfl) rfl (by rfl) (fun K9 hK=>?_);go_simp;have r:∀ b,b≠gb->(X.setCell (aD gb (j*4+2)) (vI i6 (g fn))).drew.heap[b]?=X.heap[b]?:=fun b hb=>Bq X (aD gb (j*4+2)) b _ hb;have az:=HS.out.2.2;have kV:=(r w.heap.size (by omega)).trans an.out.1;have T:=(r (w.heap.size+1) (by omega)).trans an.out.2.1;have aE:=(r wr.heap.size (by omega)).trans an.out.2.2.2.2;have G:bW w (X.setCell (aD gb (j*4+2)) (vI i6 (g fn))).drew:=(an.out.2.2.1.setCell (p:=(aD gb (j*4+2))) (by show w.heap.size<=gb;omega) _).drew;have aQ:OwnI (X.setCell (aD gb (j*4+2)) (vI i6 (g fn))).drew (w.heap.size+2) (vS Au nk cu) (ks.map g):=OwnE.stay zAp an.out.2.2.2.1 fun gg hg _=>r gg (by have:=HZ.out gg hg;omega);have HO:OwnF (X.setCell (aD gb (j*4+2)) (vI i6 (g fn))).drew Z (vS (some (aD gb 0)) nf q) (part (mvF g) fds (j+1)):=by
      have h:=HS.out.1;rw[zM6 HS.out.2.1]at h;exact h
     have HV:=xI (aN HO (aN aQ (aN kV (aN T G))));have Q:(X.setCell (aD gb (j*4+2)) (vI i6 (g fn))).drew.cell? (aH w 5)=some (vS (some (aD gb 0)) nf q)/\(X.setCell (aD gb (j*4+2)) (vI i6 (g fn))).drew.cell? (aH wr 2)=some (vI i6 fn):=⟨(zAe kV).2.2.2.2.2.1,cH aE 2⟩;clear r az kV T G HO aQ aE;refine hK _ _ Q (oP ?_);clear hK K9;refine wD ?_;generalize (X.setCell (aD gb (j*4+2)) (vI i6 (g fn))).drew=V at *;clear Q q4 ai J;go_wp2_with fail
     go_roundw
     case rel=>exact⟨j+1,by go_num,by omega,HV.out⟩
     case measure=>simp[intOf];try omega
    ·have mp:¬ (j:Int)<(nf:Int):=by omega
     have D:OwnF wr Z (vS z nf q) (fds.map (mvF g)):=by
      have h:=zHr (mvF g) fds;rw[am.out]at h;have h2:j=nf:=by omega
      rw[<-h,<-h2];rw[<-h2]at d;exact d
     clear d;by_cases h13:K=13
     ·subst h13;have aw:r0∈edg ⟨13,lo,hi,tn,ks,fds,r0,r1⟩:=by unfold edg;simp
      have av:r1∈edg ⟨13,lo,hi,tn,ks,fds,r0,r1⟩:=by unfold edg;simp
      have aL:=HL.out.2.2 r0 aw;have aK:=HL.out.2.2 r1 av;have aP:=hF.out r0 aw wr.drew (o.trans yR.drew);have aj:=hF.out r1 av wr.drew (o.trans yR.drew);have m:wr.drew.cell? (aH w 6)=some (vI i6 r0)/\wr.drew.cell? (aH w 7)=some (vI i6 r1):=⟨(zAe l).2.2.2.2.2.2.1,(zAe l).2.2.2.2.2.2.2⟩;have n0:=(zAe l).1;have f6:=Bz l 6;have f7:=Bz l 7;have B:=xI (aN l (aN s (aN c (aN D (aN o (aN aL aK))))));clear l s c D o aw av aL aK;go_wp2_with fail;refine ub 12 (fun _=>True) (fun wq=>wq.cell? (aH w 6)=some (vI i6 r0)/\wq.cell? (aH w 7)=some (vI i6 r1)) ?_;refine oM 0 ⟨trivial,m⟩ ?_ (hy:=oA);refine oM 1 ⟨trivial,m⟩ ?_ (hy:=oA);refine oM 2 ⟨trivial,m⟩ ?_ (hy:=oA);refine oK 3 ⟨trivial,m⟩ ?_ (hy:=oB);refine oM 5 ⟨trivial,m⟩ ?_ (hy:=oA);refine oM 6 ⟨trivial,m⟩ ?_ (hy:=oA);refine oM 7 ⟨trivial,m⟩ ?_ (hy:=oA);refine oK 8 ⟨trivial,m⟩ ?_ (hy:=oB);refine uo 4 (fun K9 hK=>?_);go_simp;refine (aP).mono ?_;rintro e w5 ⟨rfl,rfl⟩;refine hK _ _ ⟨trivial,fun _=>m⟩ (oQ ?_);clear hK K9;refine uo 9 (fun K9 hK=>?_);go_simp;refine (aj).mono ?_;rintro e w5 ⟨rfl,rfl⟩;refine hK _ _ ⟨trivial,fun _=>m⟩ (oQ ?_);clear hK K9;refine oM 10 ⟨trivial,m⟩ ?_ (hy:=oA);refine oM 11 ⟨trivial,m⟩ ?_ (hy:=oA);have s6:=m.1;have s7:=m.2;have aS:wr.cell? (aH w 6)=some (vI i6 r0):=m.1;have aR:wr.cell? (aH w 7)=some (vI i6 r1):=m.2;refine uo 12 (fun K9 hK=>?_);go_simp;refine nW fun V hV=>?_;have aG:=Bm wr w.heap.size 6 _ _ (vI i6 (g r0)) B.out.1;have O:=Bm _ w.heap.size 7 _ _ (vI i6 (g r1)) aG;have kV:V.heap[w.heap.size]?=some (oX 13 lo hi ⟨tn.toArray⟩ Au nk cu z nf q (g r0) (g r1)):=by rw[hV];exact O.trans rfl
      have r:∀ b,b≠w.heap.size->V.heap[b]?=wr.heap[b]?:=fun b hb=>by rw[hV];exact (Bq _ (aH w 7) b _ hb).trans (Bq wr (aH w 6) b _ hb)
      have aC:=(r (w.heap.size+1) (by omega)).trans B.out.2.1;have G:bW w V:=by rw[hV];exact ((B.out.2.2.2.2.1.setCell (p:=(aH w 6)) lR _).setCell (p:=(aH w 7)) lR _).drew
      have ab:OwnI V (w.heap.size+2) (vS Au nk cu) (ks.map g):=OwnE.stay zAp B.out.2.2.1 fun gg hg _=>r gg (by have:=(OwnE.ltB B.out.2.2.1 hg).1;omega);have ad:OwnF V Z (vS z nf q) (fds.map (mvF g)):=OwnE.stay zC4 B.out.2.2.2.1 fun gg hg _=>r gg (by have:=(OwnE.ltB B.out.2.2.2.1 hg).1;have:=al.out;omega);have TV:=xI (aN kV (aN aC (aN ab (aN ad G))));clear aG O kV r aC G ab ad hV s6 s7 aS aR m f6 f7 n0 aP aj;refine hK _ _ ⟨trivial,ug⟩ (oQ ?_);clear hK K9;refine (ud ?_) _;obtain⟨n0,n1,n2,n3,n4,n5,n6,n7⟩:=zAe TV.out.1;obtain⟨z0,z1,z2,z3,z4,z5,z6,z7⟩:=zAe TV.out.2.1;have f0:=Bz TV.out.2.1 0;have f1:=Bz TV.out.2.1 1;have f2:=Bz TV.out.2.1 2;have f3:=Bz TV.out.2.1 3;have f4:=Bz TV.out.2.1 4;have f5:=Bz TV.out.2.1 5;have f6:=Bz TV.out.2.1 6;have f7:=Bz TV.out.2.1 7;go_wp2;refine ret8 TV.out.2.1 rfl rfl rfl fun V9 h1 h2 h3=>⟨⟨[vI i6 13,vI i6 lo,vI i6 hi,vT ⟨tn.toArray⟩,vS Au nk cu,vS z nf q,vI i6 (g r0),vI i6 (g r1)],rfl,?_⟩,TV.out.2.2.2.2.trans (h3 _ (by omega))⟩;rw[show mvd g ⟨13,lo,hi,tn,ks,fds,r0,r1⟩=⟨13,lo,hi,tn,ks.map g,fds.map (mvF g),g r0,g r1⟩from rfl];have au:=OwnE.stay zAp TV.out.2.2.1 fun gg hg _=>h2 gg (by have:=(OwnE.ltB TV.out.2.2.1 hg).1;omega);have D:=OwnE.stay zC4 TV.out.2.2.2.1 fun gg hg _=>h2 gg (by have:=(OwnE.ltB TV.out.2.2.2.1 hg).1;have:=al.out;omega);exact⟨_,_,rfl,⟨HN.out.1.1,HN.out.1.2.1,HN.out.1.2.2.1,HN.out.1.2.2.2.1,B.out.2.2.2.2.2.1,B.out.2.2.2.2.2.2⟩,OwnE.rowB au (by decide) (by rw[Bk];have:=HL.out.1;rw[<-aq.out]at this;unfold maxLen;omega) (by omega),OwnE.rowB D (by decide) (by rw[Bk];have:=HL.out.2.1;rw[<-am.out]at this;unfold maxLen;omega) (by have:=al.out;omega)⟩
     ·have TV:=xI (aN l (aN s (aN c (aN D o))));clear l s c D o;obtain⟨n0,n1,n2,n3,n4,n5,n6,n7⟩:=zAe TV.out.1;obtain⟨z0,z1,z2,z3,z4,z5,z6,z7⟩:=zAe TV.out.2.1;have f0:=Bz TV.out.2.1 0;have f1:=Bz TV.out.2.1 1;have f2:=Bz TV.out.2.1 2;have f3:=Bz TV.out.2.1 3;have f4:=Bz TV.out.2.1 4;have f5:=Bz TV.out.2.1 5;have f6:=Bz TV.out.2.1 6;have f7:=Bz TV.out.2.1 7;go_wp2;refine ret8 TV.out.2.1 rfl rfl rfl fun V9 h1 h2 h3=>⟨⟨[vI i6 K,vI i6 lo,vI i6 hi,vT ⟨tn.toArray⟩,vS Au nk cu,vS z nf q,vI i6 r0,vI i6 r1],rfl,?_⟩,TV.out.2.2.2.2.trans (h3 _ (by omega))⟩;rw[show mvd g ⟨K,lo,hi,tn,ks,fds,r0,r1⟩=⟨K,lo,hi,tn,ks.map g,fds.map (mvF g),r0,r1⟩from by unfold mvd;rw[if_neg h13,if_neg h13];rfl];have au:=OwnE.stay zAp TV.out.2.2.1 fun gg hg _=>h2 gg (by have:=(OwnE.ltB TV.out.2.2.1 hg).1;omega);have D:=OwnE.stay zC4 TV.out.2.2.2.1 fun gg hg _=>h2 gg (by have:=(OwnE.ltB TV.out.2.2.2.1 hg).1;have:=al.out;omega);exact⟨_,_,rfl,⟨HN.out.1.1,HN.out.1.2.1,HN.out.1.2.2.1,HN.out.1.2.2.2.1,HN.out.1.2.2.2.2.1,HN.out.1.2.2.2.2.2⟩,OwnE.rowB au (by decide) (by rw[Bk];have:=HL.out.1;rw[<-aq.out]at this;unfold maxLen;omega) (by omega),OwnE.rowB D (by decide) (by rw[Bk];have:=HL.out.2.1;rw[<-am.out]at this;unfold maxLen;omega) (by have:=al.out;omega)⟩
open Go.Shelf
attribute [local go_sem] Oper.semAt_some
def noP (Q:Exit->Act->World->Prop):Exit->Act->World->Prop
 | .panic _,_,_=>False
 | e,a,w=>Q e a w
attribute [local go_sem] noP
theorem zPi {Q:Exit->Act->World->Prop}{a:Act}{w:World}(h:Q .normal a w):noP Q .normal a w:=h
theorem zSj {Q:Exit->Act->World->Prop}:∀ (e:Exit) (a:Act) (w:World),noP Q e a w->Q e a w
 | .panic _,_,_,h=>h.elim
 | .normal,_,_,h=>h
 | .ret,_,_,h=>h
 | .exit _,_,_,h=>h
 | .goto _,_,_,h=>h
 | .outgrown,_,_,h=>h
structure VK (wb vb:Nat) (o:Option Nat) (w w':World):Prop where
 low:Below 0 w w'
 blk:∀ b,b<w.heap.size->b≠wb->b≠vb->o≠some b->w'.heap[b]?=w.heap[b]?
theorem VK.of_below {wb vb:Nat}{o:Option Nat}{w w':World}(h:bW w w'):VK wb vb o w w':=⟨h.mono (Bt _),fun b hb _ _ _=>h.block b hb⟩
theorem VK.trans {wb vb:Nat}{o o':Option Nat}{w w' w'':World}(h:VK wb vb o w w') (h':VK wb vb o' w' w'') (ho:∀ g,o'=some g->o=some g\/w.heap.size<=g):VK wb vb o w w'':=
 ⟨h.low.trans h'.low,fun b hb h1 h2 h3=>(h'.blk b (Bj hb h.low.size) h1 h2 fun e=>by
  rcases ho b e with h4|h4
  ·exact h3 h4
  ·omega).trans (h.blk b hb h1 h2 h3)⟩
theorem VK.below {wb vb H:Nat}{o:Option Nat}{w w':World}(h:VK wb vb o w w') (h1:H<=wb) (h2:H<=vb) (h3:∀ g,o=some g->H<=g) (hH:H<=w.heap.size):Below H w w':=
 ⟨h.low.os,h.low.tape,h.low.output,h.low.size,fun k hk=>h.blk k (by omega) (by omega) (by omega) fun e=>by have:=h3 k e;omega⟩
structure VisW (A:Option Addr) (nn c cp wb vb base:Nat) (w:World) (v:Value) (s:List Bool×List Int):Prop where
 box:w.heap[wb]?=some (.cells #[vS A nn c,vS (some (aD vb 0)) nn cp,v] 167 (0,0))
 own:OwnI w base v s.2
 vis:BRow w vb s.1
theorem VisW.stay {A:Option Addr}{nn c cp wb vb base:Nat}{w w':World}{v:Value}{s:List Bool×List Int}(h:VisW A nn c cp wb vb base w v s) (h1:w'.heap[wb]?=w.heap[wb]?) (h2:w'.heap[vb]?=w.heap[vb]?) (h3:∀ g,v.ownBlock=some g->g<w.heap.size->w'.heap[g]?=w.heap[g]?):VisW A nn c cp wb vb base w' v s:=
 ⟨h1.trans h.box,OwnE.stay zAp h.own h3,h.vis.on h2⟩
theorem VisW.grown {A:Option Addr}{nn c cp wb vb base:Nat}{w w':World}{v:Value}{s:List Bool×List Int}{row:Option Nat}(h:VisW A nn c cp wb vb base w v s) (hg:w.grownBy w' row) (hr:∀ r,row=some r->∃ o:Obj,w.heap[r]?=some o/\o.isCells=false):VisW A nn c cp wb vb base w' v s:=
 h.stay ((grownBy_keeps_cells hg hr h.box rfl)) (grownBy_keeps_cells hg hr h.vis rfl) fun g hgv hl=>by
  obtain⟨xs,⟨_,h2⟩,_⟩:=h.own;rcases h2 with⟨rfl,_⟩|⟨g',cap,a,rfl,_,hc,_⟩
  ·simp[Value.ownBlock]at hgv
  ·simp only[Value.ownBlock,Cq]at hgv;subst hgv;exact grownBy_keeps_cells hg hr hc rfl
theorem VisW.notCells {A:Option Addr}{nn c cp wb vb base:Nat}{w:World}{v:Value}{s:List Bool×List Int}{k:Nat}{o:Obj}(h:VisW A nn c cp wb vb base w v s) (hk:w.heap[k]?=some o) (ho:o.isCells=false):k≠wb/\k≠vb/\v.ownBlock≠some k:=by
 refine⟨fun e=>?_,fun e=>?_,fun e=>?_⟩
 ·rw[e,h.box]at hk;injection hk with hk;rw[<-hk]at ho;cases ho
 ·have hv:w.heap[vb]?=_:=h.vis;rw[e,hv]at hk;injection hk with hk;rw[<-hk]at ho;cases ho
 ·obtain⟨xs,⟨_,h2⟩,_⟩:=h.own;rcases h2 with⟨rfl,_⟩|⟨g',cap,a,rfl,_,hc,_⟩
  ·simp[Value.ownBlock]at e
  ·simp only[Value.ownBlock,Cq]at e;rw[<-e,hc]at hk;injection hk with hk;rw[<-hk]at ho;cases ho
theorem VK.grown {wb vb:Nat}{o:Option Nat}{w0 w w':World}{row:Option Nat}(h:VK wb vb o w0 w) (hg:w.grownBy w' row) (hr:∀ r,row=some r->w0.heap.size<=r):VK wb vb o w0 w':=
 ⟨h.low.grown hg (Bt _) (fun k _=>Bt k),fun b hb h1 h2 h3=>(hg.block b (Bj hb h.low.size) (fun e=>by have:=hr b e.symm;omega)).trans (h.blk b hb h1 h2 h3)⟩
theorem zM4 (a:Option Addr) (w:World):Calls tP 91 #[.pointer a] w fun e w'=>e=.returned (.func (.func 140) #[] #[.pointer (some (aD w.heap.size 0))])/\w'=w.alloc (.cells #[.pointer a] 91 (0,0)):=(callsIn_wide (n:=6)).1 (zKm 6 a w)
theorem zIc (ns:List Tn) (A:Option Addr) (c cp H wb vb base:Nat) (he:EdgOk ns) (hbs:H<=wb/\H<=vb/\wb≠vb/\wb<base/\vb<base) (hnn:ns.length<=1000000):∀ (u:Nat) (s:List Bool×List Int) (n:Nat) (v:Value) (w:World),fls s.1<u->s.1.length=ns.length->n<ns.length->s.2.length+fls s.1<=ns.length ->
  RowP w H 8 (vS A ns.length c) ns.length (tnR w (fun b=>b<H) ns)->base<=w.heap.size->VisW A ns.length c cp wb vb base w v s ->
  Calls tP 142 #[.pointer (some (aD wb 0)),vI i6 n] w fun e w'=>e=.returned (.tuple #[])/\∃ v',VisW A ns.length c cp wb vb base w' v' (visC ns u s n)/\VK wb vb v.ownBlock w w'/\∀ g,v'.ownBlock=some g->v.ownBlock=some g\/w.heap.size<=g:=by
 intro u
 induction u with
 | zero=>intro s n v w h;omega
 | succ u ih=>
  intro s n v w hz hsl hn hsz hrow d hV;have hx:=By hn;have aq:=Cx hn;generalize ns[n]=x at hx aq;have aG:=he x aq;obtain⟨bn,on,a6,Ak,ck,Af,cf,hu,aA,_,T,az,d0,_,_,_,d4,d5,d6,d7⟩:=TyB.at8 hrow hx;injection hu with hA hmm hcc;clear hmm;subst hA hcc;have ab:bW w (w.alloc (.cells #[.pointer (some (aD wb 0))] 186 (0,0))):=(Bw _ w).alloc lR _;have ae:wb<w.heap.size:=by omega
  have ag:vb<w.heap.size:=by omega
  have ad:VisW (some (aD bn on)) ns.length c cp wb vb base (w.alloc (.cells #[.pointer (some (aD wb 0))] 186 (0,0))) v s:=hV.stay (ab.block _ ae) (ab.block _ ag) fun g _ hl=>ab.block g hl;have e1:(w.alloc (.cells #[.pointer (some (aD wb 0))] 186 (0,0))).cell? (aD wb 1)=some (vS (some (aD vb 0)) ns.length cp):=cH ad.box 1;have st:=ad.vis.cell (k:=n) (by omega);have u1:(0:Int)<=(n:Int):=by omega
  have u2:(n:Int)<(ns.length:Int):=by omega
  by_cases hd:dn s.1 n=true
  ·have V:Hid (visC ns (u+1) s n=s):=xI (by unfold visC;rw[if_pos hd]);rw[hd]at st;have HV:=xI (aN ad ab);clear ad ab hV hrow T az hx aq aG d0 d4 d5 d6 d7 hd hz hsl hsz d;go_enter func142,ntmps142;go_wp2_with fail;refine Cw (v:=.tuple #[]) (by simp[results,results142,go_sem]) rfl ?_;rw[V.out];exact⟨rfl,v,HV.out.1,VK.of_below HV.out.2,fun g h=>.inl h⟩
  have h0:dn s.1 n=false:=Eq.2 hd;have aJ:=zJz (hsl ▸ hn) h0;have V:Hid (visC ns (u+1) s n=(edg x).foldl (fun s k=>visC ns u s k.toNat) (s.1.set n true,s.2++[(n:Int)])):=xI (by
   show (if dn s.1 n=true then s else _)=_;rw[if_neg hd,hx])
  rw[h0]at st;have a0:=ad.vis.froz n;obtain⟨Av,cv,rfl⟩:=hV.own.form;have aZ:=hV.vis.froz n;obtain⟨W1,ao⟩:∃ W1,W1=(w.setCell (aD vb n) (.bool true)).alloc (.cells #[.pointer (some (aD wb 0))] 186 (0,0)):=⟨_,rfl⟩;have E:Below w.heap.size (w.setCell (aD vb n) (.bool true)) W1:=by rw[ao];exact yR.alloc (by simp) _
  have C:∀ b,b<w.heap.size->b≠vb->W1.heap[b]?=w.heap[b]?:=fun b hb hv=>(E.block b hb).trans (Bq _ (aD vb n) b _ hv);have aw:W1.heap.size=w.heap.size+1:=by rw[ao];simp
  have I:OwnI W1 base (vS Av s.2.length cv) s.2:=OwnE.stay zAp hV.own fun g hg hl=>C g hl (by have:=(OwnE.ltB hV.own hg).1;omega);have G:BRow W1 vb (s.1.set n true):=(hV.vis.set n true).on (E.block vb ag);have m:W1.heap[wb]?=some (.cells #[vS (some (aD bn on)) ns.length c,vS (some (aD vb 0)) ns.length cp,vS Av s.2.length cv] 167 (0,0)):=(C wb ae hbs.2.2.1).trans hV.box;have S:W1.heap[w.heap.size]?=some (.cells #[.pointer (some (aD wb 0))] 186 (0,0)):=by rw[ao];exact zAg _ (by simp)
  have af:VK wb vb (vS Av s.2.length cv).ownBlock w W1:=⟨((Bw 0 w).setCell (p:=(aD vb n)) (Bt _) _).trans (E.mono (Bt _)),fun b hb _ h2 _=>C b hb h2⟩;have j:OwnI W1.drew base (vS Av s.2.length cv) s.2:=OwnE.old I yR.drew;have ay:i64B (n:Int):=zB3 (by omega) (by omega);obtain⟨gl,f,w4,aM,ax,aC,aj,aR⟩:=appG elI namI 25 W1.drew base (vS Av s.2.length cv) s.2 j (n:Int) [vI i6 n] ⟨rfl,ay⟩ rfl (zGb (w:=w) (B:=fun _=>True) ⟨rfl,ay⟩) (by omega) (by show base<=W1.heap.size;omega) (w.heap.size+1) aw 1;have O:W1.drew.cell? (aH w 0)=some (.pointer (some (aD wb 0))):=cH S 0;have N:W1.drew.cell? (aD wb 2)=some (vS Av s.2.length cv):=cH m 2;have X:∀ g,(vS Av s.2.length cv).ownBlock=some g->base<=g/\g<w.heap.size:=fun g hg=>OwnE.ltB hV.own hg;have R:w4.heap[w.heap.size]?=some (.cells #[.pointer (some (aD wb 0))] 186 (0,0)):=(aj _ (by show _<W1.heap.size;omega) fun e=>by have:=X _ e.symm;omega).trans S;have a:w4.heap[wb]?=some (.cells #[vS (some (aD bn on)) ns.length c,vS (some (aD vb 0)) ns.length cp,vS Av s.2.length cv] 167 (0,0)):=(aj wb (by show _<W1.heap.size;omega) fun e=>by have:=X _ e.symm;omega).trans m;have F:BRow w4 vb (s.1.set n true):=G.on (aj vb (by show _<W1.heap.size;omega) fun e=>by have:=X _ e.symm;omega);have au:w4.cell? (aH w 0)=some (.pointer (some (aD wb 0))):=cH R 0;have ar:w4.cell? (aD wb 2)=some (vS Av s.2.length cv):=cH a 2;have a1:=Bz a 2;have Q:VK wb vb (vS Av s.2.length cv).ownBlock w w4:=af.trans (o':=(vS Av s.2.length cv).ownBlock) ⟨(Bw 0 W1).drew.trans (aC.mono (Bt _)),fun b hb _ _ h3=>aj b hb fun e=>h3 e.symm⟩ fun g h=>.inl h;obtain⟨Y,hY⟩:∃ Y,Y=w4.setCell (aD wb 2) (vS (some (aD gl 0)) (s.2.length+1) f):=⟨_,rfl⟩;have an:∀ b,b≠wb->Y.heap[b]?=w4.heap[b]?:=fun b hb=>by rw[hY];exact Bq _ (aD wb 2) b _ hb
  have aS:Y.heap.size=w4.heap.size:=by rw[hY];simp
  have M:Y.heap[wb]?=some (.cells #[vS (some (aD bn on)) ns.length c,vS (some (aD vb 0)) ns.length cp,vS (some (aD gl 0)) (s.2.length+1) f] 167 (0,0)):=by rw[hY];exact (Bm w4 wb 2 _ _ _ a).trans rfl
  have J:BRow Y vb (s.1.set n true):=F.on (an vb (fun e=>hbs.2.2.1 e.symm));have am:Y.heap[w.heap.size]?=some (.cells #[.pointer (some (aD wb 0))] 186 (0,0)):=(an _ (by omega)).trans R;have L:OwnI Y base (vS (some (aD gl 0)) (s.2.length+1) f) (s.2++[(n:Int)]):=OwnE.stay zAp ax fun g hg _=>an g (by have:=(OwnE.ltB ax hg).1;omega);have U:VK wb vb (vS Av s.2.length cv).ownBlock w Y:=⟨by rw[hY];exact Q.low.setCell (p:=(aD wb 2)) (Bt _) _,fun b hb h1 h2 h3=>(an b h1).trans (Q.blk b hb h1 h2 h3)⟩;have aU:Below H w Y:=U.below hbs.1 hbs.2.1 (fun g h=>by have:=(X g h).1;omega) (by omega);have aT:w.heap.size+1<=Y.heap.size:=by rw[aS];have:=aC.size;have h9:W1.drew.heap.size=W1.heap.size:=rfl;omega
  have al:(vS Av s.2.length cv).ownBlock=some gl\/w.heap.size+1<=gl:=aR;have HW:Hid (VisW (some (aD bn on)) ns.length c cp wb vb base Y (vS (some (aD gl 0)) (s.2.length+1) f) (s.1.set n true,s.2++[(n:Int)])):=xI ⟨M,L,J⟩;have HY:=xI (aN U (aN aU (aN aT (aN al (aN am X)))));have HX:=xI (aN hx (aN aG (aN hz (aN hsl (aN hsz (aN d aJ))))));have HR:=xI (aN hrow (aN T (aN az (aN d0 (aN d4 (aN d5 (aN d6 (aN d7 aA))))))));have a8:=xI aM;clear hx aq aG hz hsl hsz d aJ hrow T az d0 d4 d5 d6 d7 U aU aT al am M L J aS an X Q af F R a aR aj aC ax aM j ay S m G I C ad hV hd h0 ab E;refine (callsIn_wide (n:=6)).1 ?_;refine callsIn_of_wp_marks func142 rfl trivial ?_ rfl;simp only[ntmps142,Dh,Cj,Cl,Nat.reduceAdd,Nat.reduceSub,Array.replicate_succ,Array.replicate_zero,List.push_toArray,List.append_toArray,Cn,Dr];refine wpIn_wide.2 ?_;refine Code.wp_mono zSj ?_;go_wp2_with fail;rw[<-ao];clear ao e1 st a0;refine ub 10 (fun wq=>wq.cell? (aH w 0)=some (.pointer (some (aD wb 0)))) (fun wq=>wq.cell? (aD wb 2)=some (vS Av s.2.length cv)) ?_;refine oM 0 ⟨O,N⟩ ?_ (hy:=oA);refine oM 1 ⟨O,N⟩ ?_ (hy:=oA);refine oM 2 ⟨O,N⟩ ?_ (hy:=oA);refine oM 3 ⟨O,N⟩ ?_ (hy:=oA);refine oK 4 ⟨O,N⟩ ?_ (hy:=oA);refine oM 5 ⟨O,N⟩ ?_ (hy:=oA);refine uo 6 (fun K9 hK=>?_);go_simp;have aB:bW W1 (W1.alloc (.cells #[vI i6 n] 3 (0,0))).drew:=((Bw _ W1).alloc lR _).drew;have av:wb<W1.heap.size/\w.heap.size<W1.heap.size:=by omega
  refine hK _ _ ⟨(aB.cell (p:=(aH w 0)) av.2).trans O,fun _=>(aB.cell (p:=(aD wb 2)) av.1).trans N⟩ (oQ ?_);clear hK K9 aB av;refine uo 7 (fun K9 hK=>?_);refine Lib.wp_append_run _ _ _ _ _ rfl _ _ rfl rfl _ w4 a8.out ?_;refine hK _ _ ⟨au,fun _=>ar⟩ (oQ ?_);clear hK K9 O N;refine oM 8 ⟨au,ar⟩ ?_ (hy:=oA);refine oM 9 ⟨au,ar⟩ ?_ (hy:=oA);refine uo 10 (fun K9 hK=>?_);go_simp;rw[<-hY];clear hY a1;have y0:Y.cell? (aH w 0)=some (.pointer (some (aD wb 0))):=cH HY.out.2.2.2.2.1 0;refine hK _ _ ⟨y0,ug⟩ (oQ ?_);clear hK K9 au ar;refine (ud ?_) _;have y1:Y.cell? (aD wb 0)=some (vS (some (aD bn on)) ns.length c):=cH HW.out.box 0;go_wp2_with (go_at_call 91;refine (zM4 _ _).mono ?_;rintro e w' ⟨rfl,rfl⟩);obtain⟨xs,aK⟩:∃ xs:List {k:Int // 0<=k/\k<ns.length},xs.map Subtype.val=edg x:=by
   refine⟨(edg x).attach.map fun k=>⟨k.1,HX.out.2.1 k.1 k.2⟩,?_⟩;rw[List.map_map];exact List.attach_map_subtype_val (edg x)
  obtain⟨Z,hZ,aa,_,a2⟩:=aW Y (.cells #[.pointer (some (aD bn (on+n*8)))] 91 (0,0));rw[<-hZ]
  have a3:Z.cell? (aH Y 0)=some (.pointer (some (aD bn (on+n*8)))):=(Bv (by rw[hZ];exact Bl Y _) 0).trans rfl;have aF:=HY.out.2.2.1;have ai:=HY.out.2.2.2.2.2;have aP:=HY.out.2.2.2.1;have al:base<=gl/\gl<Y.heap.size:=OwnE.ltB HW.out.own rfl;have ak:gl≠w.heap.size:=by
   rcases aP with h|h
   ·have:=ai gl h;omega
   ·omega
  have a4:VisW (some (aD bn on)) ns.length c cp wb vb base Z (vS (some (aD gl 0)) (s.2.length+1) f) (s.1.set n true,s.2++[(n:Int)]):=HW.out.stay (aa.block _ (by omega)) (aa.block _ (by omega)) fun g hg hl=>aa.block _ hl;have ap:Below H w Z:=HY.out.2.1.trans (aa.mono (by omega));have a5:NdAt (fun b=>b<H\/b=Y.heap.size) Z bn (on+n*8) x Ak Af ck cf:=by
   have hc:=fun q v (h:w.cell? (aD bn q)=some v)=>(ap.cell (p:=(aD bn q)) aA).trans h;obtain⟨r0,r1,r2,r3,r4,r5,r6,r7,_⟩:=HR.out;exact⟨⟨.inl aA,by omega⟩,hc _ _ r3,hc _ _ r4,hc _ _ r5,hc _ _ r6,hc _ _ r7,(RowB.on r1 ap fun _ _ h=>h).sub (fun b hb=>.inl hb) fun _ _ h=>h,(RowB.on r2 ap fun _ _ h=>h).sub (fun b hb=>.inl hb) fun _ _ h=>h⟩
  have ah:Z.heap[w.heap.size]?=some (.cells #[.pointer (some (aD wb 0))] 186 (0,0)):=(aa.block _ (by omega)).trans HY.out.2.2.2.2.1;have aX:=xI aK;have HZ:=xI (aN al (aN ak (aN ah (aN ap (aN a2 aF)))));have HU:Hid (∀ pre:List {k:Int // 0<=k/\k<ns.length},VLen ns (s.1.set n true,s.2++[(n:Int)]) ((pre.map Subtype.val).foldl (fun s k=>visC ns u s k.toNat) (s.1.set n true,s.2++[(n:Int)]))):=xI fun pre=>
   zId (fun s n h1 h2=>zOs he u s n h1 h2) _ _ (fun k hk=>by obtain⟨y,_,rfl⟩:=Cd.1 hk;exact y.2) (by simpa using HX.out.2.2.2.1)
  have aV:∀ b,(b<H\/b=Y.heap.size)->b<Z.heap.size:=fun b hb=>by rcases hb with h|h<;>omega
  clear aK ai aP ap ah;refine (wpIn_wide (n:=6)).1 ?_;refine wpIn_rangeFunc_ownG rfl (by omega) (gf:=140) (lb:=#[.pointer (some (aH Y 0))]) rfl trivial (enters_of func140 (by kernel_rfl) rfl)
   (zFw 5 Y.heap.size (by omega) (fun b=>b<H\/b=Y.heap.size) bn (on+n*8) x Ak Af ck cf (fun k=>0<=k/\k<ns.length) xs aX.out Z aV (.inr rfl) a3 a5) zMv (zMw (n0:=Z.heap.size) aV lR) yR (fun _=>rfl)
   (fun pre W=>∃ v',VisW (some (aD bn on)) ns.length c cp wb vb base W v' ((pre.map Subtype.val).foldl (fun s k=>visC ns u s k.toNat) (s.1.set n true,s.2++[(n:Int)]))/\VK wb vb (some gl) Z W/\∀ g,v'.ownBlock=some g->g=gl\/Z.heap.size<=g)
   (fun _ _ _=>False)
   (fun pre A B row hs hg hr=>by
    obtain⟨v',h1,h2,h3⟩:=hs;exact⟨v',h1.grown hg (fun r e=>(hr r e).2),h2.grown hg (fun r e=>(hr r e).1),h3⟩)
   (fun _ _ _ _ _ h _ _=>h)
   ⟨_,a4,VK.of_below yR,fun g h=>.inl (by simpa [Value.ownBlock] using h.symm)⟩
   (fun y=>{ tmps:=#[Value.pointer (some (aD wb 0)),Value.int IntKind.i64 ↑n,Value.pointer (some (aH w 0)),undef,vI i6 y.1,Value.pointer (some (aD wb 0)),Value.pointer (some (aD wb 0)),Value.pointer (some (aD wb 1)),vS (some (aD vb 0)) ns.length cp,Value.int IntKind.i64 ↑n,Value.pointer (some (aD vb n)),Value.bool false,Value.pointer (some (aD wb 0)),Value.pointer (some (aD wb 0)),Value.pointer (some (aD wb 1)),vS (some (aD vb 0)) ns.length cp,Value.int IntKind.i64 ↑n,Value.pointer (some (aD vb n)),Value.pointer (some (aD wb 0)),Value.pointer (some (aD wb 0)),Value.pointer (some (aD wb 0)),Value.pointer (some (aD wb 2)),vS Av s.snd.length cv,Value.int IntKind.i64 ↑n,vS (some (aE w 0)) 1 1,vS (some (aD gl 0)) (s.snd.length+1) f,Value.pointer (some (aD wb 0)),Value.pointer (some (aD wb 2)),Value.pointer (some (aD wb 0)),Value.pointer (some (aD wb 0)),Value.pointer (some (aD wb 0)),vS (some (aD bn on)) ns.length c,Value.int IntKind.i64 ↑n,Value.pointer (some (aD bn (on+n*8))),Value.func (Fn.func 140) #[] #[Value.pointer (some (aH Y 0))],vI i6 y.1,undef,undef,undef],defers:=[] }) ?assign ?body ?done ?stop
  case assign=>
   intro l x W K hK
   gi_wp2
   exact hK
  case stop=>rintro D c pre W _ _ h _;exact h.elim
  case body=>
   rintro l pre y W ⟨v',t,z,P⟩ _;obtain⟨k,bb,ba⟩:=y;obtain⟨kn,rfl⟩:∃ kn:Nat,k=(kn:Int):=⟨k.toNat,by omega⟩;have hu:=HU.out pre;have hl:=hu.2.1;have aO:=hu.2.2;have aI:Below H w W:=HZ.out.2.2.2.1.trans (z.below hbs.1 hbs.2.1 (fun g h=>by injection h with h;have:=al.1;omega) (by omega));have aL:RowP W H 8 (vS (some (aD bn on)) ns.length c) ns.length (tnR W (fun b=>b<H) ns):=RowB.on HR.out.1 aI fun _ _ ⟨y,hy,h⟩=>⟨y,hy,TnB.on h aI⟩;have aY:=HX.out;have hc:=ih _ kn v' W (by simp only at hl;omega) hu.1 (by omega) (by simp only[Bd,Cj,Cl]at aO;omega) aL (by have:=z.low.size;omega) t;have a9:W.cell? (aH w 0)=some (.pointer (some (aD wb 0))):=(Bv ((z.blk w.heap.size (by omega) (by omega) (by omega) (fun e=>by injection e with e;exact ak e)).trans HZ.out.2.2.1) 0).trans rfl;have a7:=xI (aN t (aN z P));clear t z P hu hl aO aI aL aY
   gi_wp2_with (refine⟨trivial,?_⟩;gi_at_call 142;refine (CallsIn.inRound l (callsIn_wide.2 hc)).mono ?_;rintro e w2 ⟨rfl,v2,hV2,hK2,hO2⟩)
   obtain⟨t,z,P⟩:=a7.out;have d:=HX.out.2.2.2.2.2.1;refine⟨⟨hK2.low.size,fun b o _ hb ho=>(hK2.blk b (Cv.1 hb).1 (t.notCells hb ho).1 (t.notCells hb ho).2.1 (t.notCells hb ho).2.2).trans hb⟩,⟨hK2.low.size,fun b i hB hl=>Bi (hK2.blk b hl ?_ ?_ ?_)⟩,v2,?_,z.trans hK2 ?_,?_⟩
   ·rcases hB with h|h<;>omega
   ·rcases hB with h|h<;>omega
   ·intro e;have h1:=OwnE.ltB t.own e;rcases P b e with h2|h2<;>rcases hB with h|h<;>omega
   ·rw[Dl,List.foldl_append];exact hV2
   ·intro g hg;rcases P g hg with h|h
    ·exact .inl (by rw[h])
    ·exact .inr h
   ·intro g hg;rcases hO2 g hg with h|h
    ·exact P g h
    ·exact .inr (Ba z.low.size h)
  case done=>
   rintro D ys W hD rfl ⟨v',t,z,P⟩ hKd
   gi_wp2
   refine zPi ?_;obtain⟨q1,q2,q3,q4,q5,q6⟩:=HY.out;have aQ:∀ g,some gl=some g->(vS Av s.2.length cv).ownBlock=some g\/w.heap.size<=g:=fun g e=>by
    injection e with e;subst e;rcases q4 with h|h
    ·exact .inl h
    ·exact .inr (by omega)
   refine⟨by simp,.inl ⟨_,_,rfl,run_takeDeferred hKd,?_⟩⟩;refine⟨.tuple #[],by simp[results,results142,go_sem],rfl,v',?_,?_,?_⟩
   ·have h:=t.grown (grownBy_putObj' W D (.deferred none)) (fun r e=>by cases e;exact⟨_,hKd,rfl⟩);rw[aX.out,<-V.out]at h;exact h
   ·exact (q1.trans ((VK.of_below (o:=some gl) aa).trans z fun g e=>.inl e) aQ).grown (grownBy_putObj' W D (.deferred none)) (fun r e=>by cases e;have:=q2.size;omega)
   ·intro g hg;rcases P g hg with h|h
    ·exact aQ g (by rw[h])
    ·exact .inr (by have:=q2.size;omega)
end Go.Proofs.YteedihhdcbepmaaGreat
