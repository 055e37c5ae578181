/- Membership as the document decides it: .. -/
import Derived.Test.YteedihhdcbepmaaGreatTsZ
import Derived.Test.YteedihhdcbepmaaGreatTs21
import Derived.Test.YteedihhdcbepmaaGreatTs31
set_option maxRecDepth 100000
set_option maxHeartbeats 12800000
set_option linter.all false
open Go.Value renaming slice→vS,int→vI,string→vT
open Go.IntKind renaming i64→i6
open Go.Proofs.Tryz renaming prog→tP
namespace Go.Proofs.YteedihhdcbepmaaGreat
open Go Go.RowKit
theorem zJk (ns:List Tn) (root:Int) (A:Option Addr) (c q:Nat) (kd it:Int) (tx:List UInt8) (kids:List Vl) (keys:List (Int×List UInt8)) (ents:List En) (labs:List (List UInt8)) (Av Ay Ae Ab:Option Addr) (cv cy ce cb:Nat)
  (lo hi:Int) (tn:List UInt8) (ks:List Int) (fds:List Fd) (r0 r1:Int) (Ak Af:Option Addr) (ck cf:Nat) (w:World) (hT:TyAt w ns root A c)
  (hv:VS (q+1) w w.heap.size (.mk kd it tx kids keys ents labs) [vI i6 kd,vI i6 it,vT ⟨tx.toArray⟩,vS Av kids.length cv,vS Ay keys.length cy,vS Ae ents.length ce,vS Ab labs.length cb]) (hN:TnP w w.heap.size ⟨14,lo,hi,tn,ks,fds,r0,r1⟩ [vI i6 14,vI i6 lo,vI i6 hi,vT ⟨tn.toArray⟩,vS Ak ks.length ck,vS Af fds.length cf,vI i6 r0,vI i6 r1])
  (hok:∀ e∈ents,okE e=true) (hk1:1<=ks.length) (hk5:ks.length<=5) (hed:∀ k∈ks,0<=k) (hMa:Hid (∀ e∈ents,∀ x∈zHc e,∀ k∈ks,MemC ns root A c x k.toNat)) (hMr:Hid (∀ e∈ents,∀ k∈ks,MemC ns root A c (resOf e) k.toNat)) :
  Calls tP 123 #[.agg #[vI i6 kd,vI i6 it,vT ⟨tx.toArray⟩,vS Av kids.length cv,vS Ay keys.length cy,vS Ae ents.length ce,vS Ab labs.length cb],.agg #[vS A ns.length c,vI i6 root],.agg #[vI i6 14,vI i6 lo,vI i6 hi,vT ⟨tn.toArray⟩,vS Ak ks.length ck,vS Af fds.length cf,vI i6 r0,vI i6 r1]] w fun e w'=>e=.returned (.bool (funMC (memB ns) (.mk kd it tx kids keys ents labs) ⟨14,lo,hi,tn,ks,fds,r0,r1⟩))/\bW w w':=by
 obtain⟨aA,aB,J,aw,O,_⟩:=hN;simp only[Bb,and_true,true_and]at J;obtain⟨rfl,rfl⟩:=J;obtain⟨bk,ok,rfl,ay,aj⟩:=zDo O hk1;have G:ks.length<=ck:=O.cap;obtain⟨W,hW⟩:∃ W,W=((w.alloc (oV kd it ⟨tx.toArray⟩ Av kids.length cv Ay keys.length cy Ae ents.length ce Ab labs.length cb)).alloc (oE A ns.length c root)).alloc (oX 14 lo hi ⟨tn.toArray⟩ (some (aD bk ok)) ks.length ck Af fds.length cf r0 r1):=⟨_,rfl⟩;have an:bW w W:=by rw[hW];exact ((yR.alloc lR _).alloc (by simp) _).alloc (by simp;omega) _
 have kv:W.heap[w.heap.size]?=some (oV kd it ⟨tx.toArray⟩ Av kids.length cv Ay keys.length cy Ae ents.length ce Ab labs.length cb):=by rw[hW,Bp _ _ _ (by simp;omega),Bp _ _ _ (by simp)];exact Bl w _
 have kt:W.heap[w.heap.size+1]?=some (oE A ns.length c root):=by rw[hW,Bp _ _ _ (by simp)];exact zAg _ (by simp)
 have kn:W.heap[w.heap.size+1+1]?=some (oX 14 lo hi ⟨tn.toArray⟩ (some (aD bk ok)) ks.length ck Af fds.length cf r0 r1):=by rw[hW];exact zAg _ (by simp)
 have ao:W.heap.size=w.heap.size+3:=by rw[hW];simp
 have HT:Hid (∀ wq,bW W wq->TyAt wq ns root A c/\bW w wq/\(jV wq w.heap.size kd it ⟨tx.toArray⟩ Av kids.length cv Ay keys.length cy Ae ents.length ce Ab labs.length cb)/\(jT wq (w.heap.size+1) A ns.length c root)/\(jN wq (w.heap.size+1+1) 14 lo hi ⟨tn.toArray⟩ (some (aD bk ok)) ks.length ck Af fds.length cf r0 r1)):=xI fun U hU=>by
  have hb:=an.trans (hU.mono (by omega));exact⟨hT.on hb,hb,zAc ((hU.block _ (by omega)).trans kv),zAf ((hU.block _ (by omega)).trans kt),zAe ((hU.block _ (by omega)).trans kn)⟩
 have F:=hv;obtain⟨uk,uy,ue,ul,B,_,aE,_,_,_,aa,_⟩:=F;simp only[Bb,and_true,true_and]at B;obtain⟨rfl,rfl,rfl,rfl⟩:=B;have al:ents.length<=maxLen:=by obtain⟨_,_,_,h,_⟩:=aa;exact h.1
 have HR:=xI (aN aa O);obtain⟨a,ha⟩:∃ a,ks.length=a+1:=⟨ks.length-1,by omega⟩;have H:=By (l:=ks) (i:=a) (by omega);have P:=Cx (l:=ks) (n:=a) (by omega);generalize ks[a]=kj at H P;have ax:=hed kj P;obtain⟨km,rfl⟩:∃ km:Nat,kj=(km:Int):=⟨kj.toNat,by omega⟩;have ai:=(aj a km H).1;have HV:=xI (aN hok (aN hed (aN al (aN ha (aN H (aN P ai))))));have HC:Hid (funMC (memB ns) (.mk kd it tx kids keys ents labs) ⟨14,lo,hi,tn,ks,fds,r0,r1⟩=(decide (it=(a:Int))&&ents.all (entMC (memB ns) ⟨14,lo,hi,tn,ks,fds,r0,r1⟩))):=xI (by
  unfold funMC;show (decide (it=(ks.length:Int)-1)&&_)=_;rw[ha,show ((a+1:Nat):Int)-1=(a:Int) by omega];rfl)
 have T:Hid (∀ f m d,entMC (memB ns) ⟨14,lo,hi,tn,ks,fds,r0,r1⟩ (.mk f m d)=(!zA7 (memB ns) f (ks.take a)||(!m&&memB ns d km))):=xI fun f m d=>by
  unfold entMC;show (!zA7 (memB ns) f (ks.take (ks.length-1))||(!m&&memB ns d ((ks[ks.length-1]?).getD 0).toNat))=_;rw[ha,show a+1-1=a from rfl,H];simp
 have Z:∀ V,(Instr.slice 25 (vS (some (aD bk ok)) ks.length ck) none (some (vI i6 (a:Int))) none).run tP V=.ok (vS (some (aD bk ok)) a ck) V:=fun V=>by
  have aq:tP.underlying 25=some (.slice (tP.elem 25)):=by kernel_rfl
  have he:tP.elem 25=3:=by kernel_rfl
  have ar:∀ V,(Go.sizeOf 3).run tP V=.ok 1 V:=fun V=>by kernel_rfl
  rw[run_slice_h V 25 _ _ _ aq .i64 _ (by omega) (by omega),he,ar];have h0:ck≠0:=by omega
  simp[Result.andThen,sliced,Addr.add,h0]
 have ap:IntKind.i64.wrap ((ks.length:Int)-1)=(a:Int):=by rw[Br _ (by omega)];omega
 generalize hmm:funMC (memB ns) (.mk kd it tx kids keys ents labs) ⟨14,lo,hi,tn,ks,fds,r0,r1⟩=res at *;have az:=xI Z;clear hT an kv kt kn hv aa O hok hed al hmm aw ao H P ax aj ai ha Z G;obtain⟨v,t,n⟩:=(HT.out W yR).2.2;have v1:=v.2.1;have n4:=n.2.2.2.2.1;clear v t n;go_enter Tryz.func123,Tryz.ntmps123;by_cases hia:it=(a:Int)
 case neg=>
  have aF:(it==(a:Int))=false:=Cm.2 hia;go_wp2;rw[<-hW];go_ret;exact⟨by rw[HC.out,Ci hia];rfl,(HT.out W yR).2.1⟩
 case pos=>
 subst hia;rw[C8 rfl,Et]at HC;go_wp2_with fail;rw[<-hW];clear hW v1 n4 ap
 go_loopw [8] (fun iv wr=>∃ i:Nat,iv=vI i6 i/\i<=ents.length/\(ents.take i).all (entMC (memB ns) ⟨14,lo,hi,tn,ks,fds,r0,r1⟩)=true/\bW W wr) (fun i _=>((ents.length:Int)-intOf i).toNat)
 case atStart=>exact⟨0,rfl,by omega,by simp,Bw _ _⟩
 case round=>
  obtain⟨i,rfl,aG,L,am⟩:=hrel;have E:=xI L;have N:=xI am;clear L am;have v5:=(HT.out wr N.out).2.2.1.2.2.2.2.2.1;by_cases him:i<ents.length
  ·have mp:(i:Int)<(ents.length:Int):=by omega
   have m0:(0:Int)<=(i:Int):=by omega
   have aC:IntKind.i64.wrap ((i:Int)+1)=(i:Int)+1:=Br _ (by have:=HV.out.2.2.1;unfold maxLen at this;omega);obtain⟨be,oe,aI,y0,y1,x0,x1,x2,x3,x4,x5,x6,R,y,⟨f,m,d,I,ua,rs,B,ae,F⟩,e0,e1,f0,f1,f2,f3,f4,f5,f6⟩:=RowB.at9 HR.out.1 him;injection B with q0 B;injection B with q1 q2;subst q0 q1 q2;injection R with R hmm hcl;clear hmm;subst hcl;obtain⟨Aa,ca,rfl,_⟩:=ae.form;have u:=(HT.out wr N.out).2.1;replace e0:=(u.cell (p:=(aD be _)) y).trans e0;replace e1:=(u.cell (p:=(aD be _)) y).trans e1;replace f0:=(u.cell (p:=(aD be _)) y).trans f0;replace f1:=(u.cell (p:=(aD be _)) y).trans f1;replace f2:=(u.cell (p:=(aD be _)) y).trans f2;replace f3:=(u.cell (p:=(aD be _)) y).trans f3;replace f4:=(u.cell (p:=(aD be _)) y).trans f4;replace f5:=(u.cell (p:=(aD be _)) y).trans f5;replace f6:=(u.cell (p:=(aD be _)) y).trans f6;rw[R]at v5;obtain⟨a1,i1,s1,B1,n1,g1,B2,n2,g2,B3,n3,g3,B4,n4,g4,o⟩:=F.form7;injection o with q0 o;injection o with q1 o;injection o with q2 o;injection o with q3 o;injection o with q4 o;injection o with q5 o;injection o with q6 _;subst q0 q1 q2 q3 q4 q5 q6;obtain⟨X,hX,Q,kX,_⟩:=aW wr (.cells #[vS Aa f.length ca,.bool m,vI i6 a1,vI i6 i1,vT s1,vS B1 n1 g1,vS B2 n2 g2,vS B3 n3 g3,vS B4 n4 g4] 68 (0,0))
   have Y:wr.heap.size<X.heap.size:=by rw[hX];simp
   have hd:bW X X.drew:=yR.drew;have D:Hid (∀ U,bW X U->bW wr U/\bW W U):=xI fun U hU=>by
    have h:=Q.trans (hU.mono Q.size);exact⟨h,N.out.trans (h.mono N.out.size)⟩
   have HQ:Hid (∀ wq,bW X wq->((jV wq w.heap.size kd a ⟨tx.toArray⟩ Av kids.length cv Ay keys.length cy Ae ents.length ce Ab labs.length cb)/\(jT wq (w.heap.size+1) A ns.length c root)/\(jN wq (w.heap.size+1+1) 14 lo hi ⟨tn.toArray⟩ (some (aD bk ok)) ks.length ck Af fds.length cf r0 r1))/\(wq.cell? (aH wr 0)=some (vS Aa f.length ca)/\wq.cell? (aH wr 1)=some (.bool m)/\wq.cell? (aH wr 2)=some (vI i6 a1)/\wq.cell? (aH wr 3)=some (vI i6 i1)/\wq.cell? (aH wr 4)=some (vT s1)/\wq.cell? (aH wr 5)=some (vS B1 n1 g1)/\wq.cell? (aH wr 6)=some (vS B2 n2 g2)/\wq.cell? (aH wr 7)=some (vS B3 n3 g3)/\wq.cell? (aH wr 8)=some (vS B4 n4 g4))/\wq.cell? (aD bk (ok+a))=some (vI i6 km)):=xI fun wq h=>by
    obtain⟨_,hb,q0⟩:=HT.out wq (D.out wq h).2;have kq:=(h.block _ Y).trans kX;exact⟨q0,⟨cH kq 0,cH kq 1,cH kq 2,cH kq 3,cH kq 4,cH kq 5,cH kq 6,cH kq 7,cH kq 8⟩,(hb.cell (p:=(aD bk _)) ay).trans HV.out.2.2.2.2.2.2⟩
   have C:=HT.out _ (D.out _ hd).2;have r:=HV.out.1 _ (Bh I);simp only[okE,Cy,Bool.or_eq_true]at r;have hc:Calls tP 121 #[vS Aa f.length ca,.agg #[vS A ns.length c,vI i6 root],vS (some (aD bk ok)) a ck] X.drew fun e w'=>e=.returned (.bool (zA7 (memB ns) f (ks.take a)))/\Below X.drew.heap.size X.drew w':=by
    have ah:(ks.take a).length=a:=by rw[Bg];have:=HV.out.2.2.2.1;omega
    have au:RowP X.drew X.drew.heap.size 1 (vS (some (aD bk ok)) (ks.take a).length ck) (ks.take a).length (kidR (ks.take a)):=by
     have h1:=RowB.take (p:=a) HR.out.2 (by have:=HV.out.2.2.2.1;omega) ck;have h2:RowP X.drew w.heap.size 1 (vS (some (aD bk ok)) a ck) a (kidR (ks.take a)):=RowB.on h1 C.2.1 fun j cs h=>by
      obtain⟨hj,x,hx,B,hw⟩:=h;exact⟨x,by rw[Co hj];exact hx,B,hw⟩
     rw[ah];exact h2.sub (fun b hb=>Bj hb C.2.1.size) fun _ _ h=>h
    have ab:RowVs q X.drew w.heap.size (vS Aa f.length ca) f:=RowB.on ae C.2.1 fun j cs h=>by
     obtain⟨x,hx,hv⟩:=h;exact⟨x,hx,VS.on C.2.1 hv⟩
    have ad:RowVs q X.drew X.drew.heap.size (vS Aa f.length ca) f:=RowB.mono ab C.2.1.size fun j cs h=>by
     obtain⟨x,hx,hv⟩:=h;exact⟨x,hx,VS.up C.2.1.size lR hv⟩
    have h:=zD5 ns root A c q f (ks.take a) Aa ca (some (aD bk ok)) ck X.drew C.1 ad au (fun x hx=>by have h:=r.1;rw[zCa,Cz]at h;exact h x hx) (fun k hk=>HV.out.2.1 k (Ey hk)) (xI fun x hx k hk=>hMa.out _ (Bh I) x hx k (Ey hk));rw[ah]at h;exact h
   have s:m=false->∀ U,bW X U->Calls tP 83 #[.agg #[vI i6 a1,vI i6 i1,vT s1,vS B1 n1 g1,vS B2 n2 g2,vS B3 n3 g3,vS B4 n4 g4],.agg #[vS A ns.length c,vI i6 root],vI i6 (km:Int)] U fun e w'=>e=.returned (.bool (memB ns d km))/\bW U w':=fun hff U hU=>by
    have af:=HT.out _ (D.out _ hU).2;have av:okV d=true:=by rcases r.2 with h|h<;>simp_all
    have h:=hMr.out _ (Bh I) (km:Int) HV.out.2.2.2.2.2.1 q _ U (VS.up af.2.1.size lR (VS.on af.2.1 F)) av af.1;rw[Cb]at h;exact h
   have HJ:=xI I;have aK:=xI (aN Q (aN kX Y));have aL:=xI r;clear I Q kX Y r ae F C u R;have Z:=az.out;have ak:a<ks.length:=by have:=HV.out.2.2.2.1;omega
   have aJ:(0:Int)<=(a:Int):=by omega
   cases hmb:zA7 (memB ns) f (ks.take a)with
   | false=>
    rw[hmb]at hc;have M:=xI hmb;clear hmb s;go_wp2_with fail;rw[<-hX];clear hX v5 e0 e1 f0 f1 f2 f3 f4 f5 f6;refine wR HQ (by kernel_rfl) (HQ.out _ hd) (fun _=>?_);refine oT 0 (HQ.out _ hd) ?_
    (iterate 6 refine oY (HQ.out _ hd) ?_)
    refine oO 7 fun K hK=>?_;go_simp;refine (hc).mono ?_;rintro e w2 ⟨rfl,hb2⟩;have g:=hd.trans (hb2.mono hd.size);clear hc;refine hK _ _ (HQ.out _ g) (oP ?_);clear hK K;refine oT 8 (HQ.out _ g) ?_;refine oU 9 (HQ.out _ g) ?_
    (iterate 10 refine oZ (HQ.out _ g) ?_)
    refine zAu 20 (by kernel_rfl) rfl (by rfl) (HQ.out _ g) (oP ?_);refine oU 21 (HQ.out _ g) ?_;refine oU 22 (HQ.out _ g) ?_;refine oT 23 (HQ.out _ g) ?_;refine wD ?_;go_wp2_with fail
    go_roundw
    case rel=>exact⟨i+1,by go_num,by omega,by rw[zAv HJ.out,E.out,Et];exact (by rw[T.out,M.out];rfl),(D.out _ g).2⟩
    case measure=>simp[intOf];try omega
   | true=>
    rw[hmb]at hc;have M:=xI hmb;clear hmb;cases m with
    | true=>
     clear s;go_wp2_with fail;rw[<-hX];clear hX v5 e0 e1 f0 f1 f2 f3 f4 f5 f6;refine Be (S:=fun wq=>((jV wq w.heap.size kd a ⟨tx.toArray⟩ Av kids.length cv Ay keys.length cy Ae ents.length ce Ab labs.length cb)/\(jT wq (w.heap.size+1) A ns.length c root)/\(jN wq (w.heap.size+1+1) 14 lo hi ⟨tn.toArray⟩ (some (aD bk ok)) ks.length ck Af fds.length cf r0 r1))/\(wq.cell? (aH wr 0)=some (vS Aa f.length ca)/\wq.cell? (aH wr 1)=some (.bool true)/\wq.cell? (aH wr 2)=some (vI i6 a1)/\wq.cell? (aH wr 3)=some (vI i6 i1)/\wq.cell? (aH wr 4)=some (vT s1)/\wq.cell? (aH wr 5)=some (vS B1 n1 g1)/\wq.cell? (aH wr 6)=some (vS B2 n2 g2)/\wq.cell? (aH wr 7)=some (vS B3 n3 g3)/\wq.cell? (aH wr 8)=some (vS B4 n4 g4))/\wq.cell? (aD bk (ok+a))=some (vI i6 km)) (by kernel_rfl) (HQ.out _ hd) (fun _=>?_);refine oT 0 (HQ.out _ hd) ?_
     (iterate 6 refine oY (HQ.out _ hd) ?_)
     refine oO 7 fun K hK=>?_;go_simp;refine (hc).mono ?_;rintro e w2 ⟨rfl,hb2⟩;have g:=hd.trans (hb2.mono hd.size);clear hc;refine hK _ _ (HQ.out _ g) (oP ?_);clear hK K;refine oT 8 (HQ.out _ g) ?_
     (iterate 3 refine oY (HQ.out _ g) ?_)
     refine oU 12 (HQ.out _ g) ?_
     (iterate 7 refine oZ (HQ.out _ g) ?_)
     refine zAu 20 (by kernel_rfl) rfl (by rfl) (HQ.out _ g) (oP ?_);refine oU 21 (HQ.out _ g) ?_;refine oT 22 (HQ.out _ g) ?_;refine oT 23 (HQ.out _ g) ?_;refine wD ?_;go_wp2;go_ret;refine⟨?_,(HT.out _ (D.out _ g).2).2.1⟩;have hf:ents.all (entMC (memB ns) ⟨14,lo,hi,tn,ks,fds,r0,r1⟩)=false:=by
      rw[Dy];exact⟨_,Bh HJ.out,by rw[(show entMC (memB ns) ⟨14,lo,hi,tn,ks,fds,r0,r1⟩ (.mk f true d)=false by rw[T.out,M.out];rfl)];decide⟩
     rw[HC.out,hf];rfl
    | false=>
     replace s:=s rfl;cases hmr:memB ns d km with
     | false=>
      rw[hmr]at s;have ag:=xI hmr;clear hmr;go_wp2_with fail;rw[<-hX];clear hX v5 e0 e1 f0 f1 f2 f3 f4 f5 f6;refine Be (S:=fun wq=>((jV wq w.heap.size kd a ⟨tx.toArray⟩ Av kids.length cv Ay keys.length cy Ae ents.length ce Ab labs.length cb)/\(jT wq (w.heap.size+1) A ns.length c root)/\(jN wq (w.heap.size+1+1) 14 lo hi ⟨tn.toArray⟩ (some (aD bk ok)) ks.length ck Af fds.length cf r0 r1))/\(wq.cell? (aH wr 0)=some (vS Aa f.length ca)/\wq.cell? (aH wr 1)=some (.bool false)/\wq.cell? (aH wr 2)=some (vI i6 a1)/\wq.cell? (aH wr 3)=some (vI i6 i1)/\wq.cell? (aH wr 4)=some (vT s1)/\wq.cell? (aH wr 5)=some (vS B1 n1 g1)/\wq.cell? (aH wr 6)=some (vS B2 n2 g2)/\wq.cell? (aH wr 7)=some (vS B3 n3 g3)/\wq.cell? (aH wr 8)=some (vS B4 n4 g4))/\wq.cell? (aD bk (ok+a))=some (vI i6 km)) (by kernel_rfl) (HQ.out _ hd) (fun _=>?_);refine oT 0 (HQ.out _ hd) ?_
      (iterate 6 refine oY (HQ.out _ hd) ?_)
      refine oO 7 fun K hK=>?_;go_simp;refine (hc).mono ?_;rintro e w2 ⟨rfl,hb2⟩;have g:=hd.trans (hb2.mono hd.size);clear hc;refine hK _ _ (HQ.out _ g) (oP ?_);clear hK K;refine oT 8 (HQ.out _ g) ?_
      (iterate 11 refine oY (HQ.out _ g) ?_)
      refine oO 20 fun K hK=>?_;go_simp;refine ((s _ g)).mono ?_;rintro e w3 ⟨rfl,hb3⟩;have z:=g.trans (hb3.mono g.size);clear s;refine hK _ _ (HQ.out _ z) (oP ?_);clear hK K;refine oT 21 (HQ.out _ z) ?_
      (iterate 2 refine oY (HQ.out _ z) ?_)
      refine wD ?_;go_wp2;go_ret;refine⟨?_,(HT.out _ (D.out _ z).2).2.1⟩;have hf:ents.all (entMC (memB ns) ⟨14,lo,hi,tn,ks,fds,r0,r1⟩)=false:=by
       rw[Dy];exact⟨_,Bh HJ.out,by rw[(show entMC (memB ns) ⟨14,lo,hi,tn,ks,fds,r0,r1⟩ (.mk f false d)=false by rw[T.out,M.out,ag.out];rfl)];decide⟩
      rw[HC.out,hf];rfl
     | true=>
      rw[hmr]at s;have ag:=xI hmr;clear hmr;go_wp2_with fail;rw[<-hX];clear hX v5 e0 e1 f0 f1 f2 f3 f4 f5 f6;refine Be (S:=fun wq=>((jV wq w.heap.size kd a ⟨tx.toArray⟩ Av kids.length cv Ay keys.length cy Ae ents.length ce Ab labs.length cb)/\(jT wq (w.heap.size+1) A ns.length c root)/\(jN wq (w.heap.size+1+1) 14 lo hi ⟨tn.toArray⟩ (some (aD bk ok)) ks.length ck Af fds.length cf r0 r1))/\(wq.cell? (aH wr 0)=some (vS Aa f.length ca)/\wq.cell? (aH wr 1)=some (.bool false)/\wq.cell? (aH wr 2)=some (vI i6 a1)/\wq.cell? (aH wr 3)=some (vI i6 i1)/\wq.cell? (aH wr 4)=some (vT s1)/\wq.cell? (aH wr 5)=some (vS B1 n1 g1)/\wq.cell? (aH wr 6)=some (vS B2 n2 g2)/\wq.cell? (aH wr 7)=some (vS B3 n3 g3)/\wq.cell? (aH wr 8)=some (vS B4 n4 g4))/\wq.cell? (aD bk (ok+a))=some (vI i6 km)) (by kernel_rfl) (HQ.out _ hd) (fun _=>?_);refine oT 0 (HQ.out _ hd) ?_
      (iterate 6 refine oY (HQ.out _ hd) ?_)
      refine oO 7 fun K hK=>?_;go_simp;refine (hc).mono ?_;rintro e w2 ⟨rfl,hb2⟩;have g:=hd.trans (hb2.mono hd.size);clear hc;refine hK _ _ (HQ.out _ g) (oP ?_);clear hK K;refine oT 8 (HQ.out _ g) ?_
      (iterate 11 refine oY (HQ.out _ g) ?_)
      refine oO 20 fun K hK=>?_;go_simp;refine ((s _ g)).mono ?_;rintro e w3 ⟨rfl,hb3⟩;have z:=g.trans (hb3.mono g.size);clear s;refine hK _ _ (HQ.out _ z) (oP ?_);clear hK K;refine oT 21 (HQ.out _ z) ?_
      (iterate 2 refine oY (HQ.out _ z) ?_)
      refine wD ?_;go_wp2_with fail
      go_roundw
      case rel=>exact⟨i+1,by go_num,by omega,by rw[zAv HJ.out,E.out,Et];exact (by rw[T.out,M.out,ag.out];rfl),(D.out _ z).2⟩
      case measure=>simp[intOf];try omega
  ·have mp:¬ (i:Int)<(ents.length:Int):=by omega
   go_wp2;go_ret;refine⟨?_,(HT.out _ N.out).2.1⟩;have h:=E.out;rw[B8 (by omega)]at h;rw[HC.out,h];rfl
theorem zP9 (ns:List Tn) (root:Int) (A:Option Addr) (c:Nat) (hw:Wf ns) (k:Nat) (K lo hi:Int) (tn:List UInt8) (ks:List Int) (fds:List Fd) (r0 r1:Int) (hx:ns[k]?=some ⟨K,lo,hi,tn,ks,fds,r0,r1⟩) (hK:K=14)
  (q:Nat) (kd it:Int) (tx:List UInt8) (kids:List Vl) (keys:List (Int×List UInt8)) (ents:List En) (labs:List (List UInt8)) (Av Ay Ae Ab:Option Addr) (cv cy ce cb:Nat) (w:World) (hT:TyAt w ns root A c) (hv:VS (q+1) w w.heap.size (.mk kd it tx kids keys ents labs) [vI i6 kd,vI i6 it,vT ⟨tx.toArray⟩,vS Av kids.length cv,vS Ay keys.length cy,vS Ae ents.length ce,vS Ab labs.length cb]) (hok:okV (.mk kd it tx kids keys ents labs)=true) (hI:Hid (∀ v' k',k'<ns.length->fu ns v' k'<fu ns (.mk kd it tx kids keys ents labs) k->MemC ns root A c v' k')) :
  Calls tP 83 #[.agg #[vI i6 kd,vI i6 it,vT ⟨tx.toArray⟩,vS Av kids.length cv,vS Ay keys.length cy,vS Ae ents.length ce,vS Ab labs.length cb],.agg #[vS A ns.length c,vI i6 root],vI i6 k] w fun e w'=>e=.returned (.bool (memB ns (.mk kd it tx kids keys ents labs) k))/\bW w w':=by
 have B:=(Bx.1 hx).1;have g:RowP w w.heap.size 8 (vS A ns.length c) ns.length (tnR w (fun b=>b<w.heap.size) ns):=by
  obtain⟨u,hu,_,h⟩:=hT;injection hu with hu _;rw[hu];exact h
 obtain⟨bn,on,D,Ak,ck,Af,cf,hu,C,o,i,s,d0,d1,d2,d3,d4,d5,d6,d7⟩:=TyB.at8 g hx;injection hu with hA hmm hcc;clear hmm;subst hA hcc;have n:=xI (aN o (aN i s));clear g o i s;have HM:=xI (zBn hw hx (.mk kd it tx kids keys ents labs));have l:=xI (aN hw hx);generalize memB ns (.mk kd it tx kids keys ents labs) k=res at *;obtain⟨W,hW⟩:∃ W,W=(((w.alloc (oV kd it ⟨tx.toArray⟩ Av kids.length cv Ay keys.length cy Ae ents.length ce Ab labs.length cb)).alloc (oE (some (aD bn on)) ns.length c root)).alloc (oX K lo hi ⟨tn.toArray⟩ Ak ks.length ck Af fds.length cf r0 r1)):=⟨_,rfl⟩;have f:bW w W:=by rw[hW];exact ((yR.alloc lR _).alloc (by simp) _).alloc (by simp;omega) _
 have j:bW w ((w.alloc (oV kd it ⟨tx.toArray⟩ Av kids.length cv Ay keys.length cy Ae ents.length ce Ab labs.length cb)).alloc (oE (some (aD bn on)) ns.length c root)):=(yR.alloc lR _).alloc (by simp) _;have kv:W.heap[w.heap.size]?=some (oV kd it ⟨tx.toArray⟩ Av kids.length cv Ay keys.length cy Ae ents.length ce Ab labs.length cb):=by rw[hW,Bp _ _ _ (by simp;omega),Bp _ _ _ (by simp)];exact Bl w _
 have kt:W.heap[w.heap.size+1]?=some (oE (some (aD bn on)) ns.length c root):=by rw[hW,Bp _ _ _ (by simp)];exact zAg _ (by simp)
 have kn:W.heap[w.heap.size+1+1]?=some (oX K lo hi ⟨tn.toArray⟩ Ak ks.length ck Af fds.length cf r0 r1):=by rw[hW];exact zAg _ (by simp)
 have z:W.heap.size=w.heap.size+3:=by rw[hW];simp
 have HT:Hid (∀ wq,bW W wq->TyAt wq ns root (some (aD bn on)) c/\bW w wq/\(jV wq w.heap.size kd it ⟨tx.toArray⟩ Av kids.length cv Ay keys.length cy Ae ents.length ce Ab labs.length cb)/\(jT wq (w.heap.size+1) (some (aD bn on)) ns.length c root)/\(jN wq (w.heap.size+1+1) K lo hi ⟨tn.toArray⟩ Ak ks.length ck Af fds.length cf r0 r1)):=xI fun U hU=>by
  have hb:=f.trans (hU.mono (by omega));exact⟨hT.on hb,hb,zAc ((hU.block _ (by omega)).trans kv),zAf ((hU.block _ (by omega)).trans kt),zAe ((hU.block _ (by omega)).trans kn)⟩
 have K8:=kC8 j C d0 d1 d2 d3 d4 d5 d6 d7;clear d0 d1 d2 d3 d4 d5 d6 d7;obtain⟨d0,d1,d2,d3,d4,d5,d6,d7⟩:=K8;have hE:=(HT.out W yR).2.2;have u1:(0:Int)<=(k:Int):=by omega
 have u2:(k:Int)<(ns.length:Int):=by omega
 have HV:=xI hv;clear j f kv kt kn z hx hw B hT hv;rw[hW]at hE;obtain⟨⟨v0,v1,v2,v3,v4,v5,v6⟩,⟨t0,t1⟩,⟨n0,n1,n2,n3,n4,n5,n6,n7⟩⟩:=hE;have d:=l.out.1.edg _ (Bh l.out.2);have m:=l.out.1.node _ (Bh l.out.2);have a:zAj labs=true/\kindB kd it tx kids keys ents=true/\okVs kids=true/\okEs ents=true:=by
  have h:=hok;unfold okV at h;simp only[Cy]at h;exact⟨h.1.1.1.1,h.1.1.2,h.1.2,h.2⟩
 have f:=(HT.out W yR).2.1;have t:=HV.out.later f;have v:TnP W W.heap.size ⟨K,lo,hi,tn,ks,fds,r0,r1⟩ [vI i6 K,vI i6 lo,vI i6 hi,vT ⟨tn.toArray⟩,vS Ak ks.length ck,vS Af fds.length cf,vI i6 r0,vI i6 r1]:=⟨_,_,rfl,n.out.1,RowB.mono (RowB.on (R':=kidR ks) n.out.2.1 f fun _ _ h=>h) f.size fun _ _ h=>h,RowB.mono (RowB.on (R':=fdR fds) n.out.2.2 f fun _ _ h=>h) f.size fun _ _ h=>h⟩;subst hK;have p:Hid (memS (memB ns) ⟨14,lo,hi,tn,ks,fds,r0,r1⟩ (.mk kd it tx kids keys ents labs)=(decide (kd=9)&&funMC (memB ns) (.mk kd it tx kids keys ents labs) ⟨14,lo,hi,tn,ks,fds,r0,r1⟩)):=xI rfl;rw[p.out]at HM;have r:1<=ks.length/\ks.length<=5:=by
  simp only[tnB,Cy]at m;have:=m.2;unfold formB at this;simpa using this
 have hc:=fun _:kd=9=>zJk ns root (some (aD bn on)) c q kd it tx kids keys ents labs Av Ay Ae Ab cv cy ce cb lo hi tn ks fds r0 r1 Ak Af ck cf W (HT.out W yR).1 t v
  (fun x hx=>by have h:=a.2.2.2;rw[zFf,Cz]at h;exact h x hx) r.1 r.2 (fun y hy=>(d y (zB1 hy)).1)
  (xI fun e he x hx y hy=>hI.out x y.toNat (by have:=d y (zB1 hy);omega) (zF7 k y.toNat (zN5 he hx))) (xI fun e he y hy=>hI.out _ y.toNat (by have:=d y (zB1 hy);omega) (zF7 k y.toNat (zN4 he)))
 generalize funMC (memB ns) (.mk kd it tx kids keys ents labs) ⟨14,lo,hi,tn,ks,fds,r0,r1⟩=rr at hc HM;clear d m a hok p f t v;by_cases hkd:kd=9
 case neg=>
  have F:(kd==9)=false:=Cm.2 hkd;have E:=xI hkd;clear hkd hc;go_enter Tryz.func83,Tryz.ntmps83;go_wp2;go_ret;exact⟨by rw[HM.out,Ci E.out];rfl,((yR.alloc lR _).alloc (by simp) _).alloc (by simp;omega) _⟩
 case pos=>
  replace hc:=hc hkd;subst hkd;go_enter Tryz.func83,Tryz.ntmps83;go_wp2_with fail;rw[<-hW];clear hW v0 v1 v2 v3 v4 v5 v6 t0 t1 n0 n1 n2 n3 n4 n5 n6 n7 d0 d1 d2 d3 d4 d5 d6 d7;refine hc.mono ?_;rintro e w2 ⟨rfl,j⟩;clear hc;go_wp2;go_ret;exact⟨by rw[HM.out];simp,(HT.out _ j).2.1⟩
theorem zSn {n:Nat}{x:Tn}(h:tnB n x=true):(x.kind=1\/x.kind=2\/x.kind=3\/x.kind=4\/x.kind=5\/x.kind=6\/x.kind=7\/x.kind=8\/x.kind=9\/x.kind=11\/x.kind=15)\/x.kind=10\/x.kind=12\/x.kind=13\/x.kind=14\/x.kind=16\/x.kind=17\/x.kind=18\/x.kind=19:=by
 simp only[tnB,Cy]at h;have h:=h.2;unfold formB at h;by_cases h3:x.kind=3
 ·omega
 rw[if_neg h3]at h;by_cases h4:x.kind=4
 ·omega
 rw[if_neg h4]at h;by_cases h6:x.kind=6
 ·omega
 rw[if_neg h6]at h;by_cases h19:x.kind=19
 ·omega
 rw[if_neg h19]at h;by_cases hl:x.kind=1\/x.kind=2\/x.kind=5\/x.kind=7\/x.kind=8\/x.kind=9\/x.kind=11\/x.kind=15
 ·omega
 rw[if_neg hl]at h;by_cases h10:x.kind=10
 ·omega
 rw[if_neg h10]at h;by_cases h12:x.kind=12
 ·omega
 rw[if_neg h12]at h;by_cases h14:x.kind=14
 ·omega
 rw[if_neg h14]at h;by_cases h16:x.kind=16\/x.kind=17
 ·omega
 rw[if_neg h16]at h;by_cases h18:x.kind=18
 ·omega
 rw[if_neg h18]at h;by_cases h13:x.kind=13
 ·omega
 rw[if_neg h13]at h;exact absurd h (by decide)
theorem zLh (ns:List Tn) (root:Int) (A:Option Addr) (c:Nat) (hw:Wf ns):∀ (n:Nat) (v:Vl) (k:Nat),fu ns v k<=n->k<ns.length->MemC ns root A c v k:=by
 intro n
 induction n with
 | zero=>intro v k h _;unfold fu at h;omega
 | succ n ih=>
  intro v k hfu hk q cs w hv hok hT;obtain⟨kd,it,tx,b,d,e,a⟩:=v;cases q with
  | zero=>exact absurd hv (by unfold VS;unfold VB;exact not_false)
  | succ q=>
  have i:=hv;obtain⟨uk,uy,ue,ul,rfl,_,_,_,h1,h2,h3,h4⟩:=i;obtain⟨Av,cv,rfl,_⟩:=h1.form;obtain⟨Ay,cy,rfl,_⟩:=h2.form;obtain⟨Ae,ce,rfl,_⟩:=h3.form;obtain⟨Ab,cb,rfl,_⟩:=h4.form;have hx:=By hk;have g:=hw.node _ (Cx hk);generalize ns[k]=x at hx g;obtain⟨K,lo,hi,tn,ks,f,r0,r1⟩:=x;have hI:Hid (∀ v' k',k'<ns.length->fu ns v' k'<fu ns (.mk kd it tx b d e a) k->MemC ns root A c v' k'):=xI fun v' k' hk' h=>ih v' k' (by omega) hk';rcases zSn g with hK|hK|hK|hK|hK|hK|hK|hK|hK
  ·exact zNd ns root A c hw k K lo hi tn ks f r0 r1 hx (by simp only at hK;omega) q kd it tx b d e a Av Ay Ae Ab cv cy ce cb w hT hv
  ·exact zP5 ns root A c hw k K lo hi tn ks f r0 r1 hx hK q kd it tx b d e a Av Ay Ae Ab cv cy ce cb w hT hv hok hI
  ·exact zNe ns root A c hw k K lo hi tn ks f r0 r1 hx hK q kd it tx b d e a Av Ay Ae Ab cv cy ce cb w hT hv hok hI
  ·exact zP7 ns root A c hw k K lo hi tn ks f r0 r1 hx hK q kd it tx b d e a Av Ay Ae Ab cv cy ce cb w hT hv hok hI
  ·exact zP9 ns root A c hw k K lo hi tn ks f r0 r1 hx hK q kd it tx b d e a Av Ay Ae Ab cv cy ce cb w hT hv hok hI
  ·exact zP4 ns root A c hw k K lo hi tn ks f r0 r1 hx hK q kd it tx b d e a Av Ay Ae Ab cv cy ce cb w hT hv hok hI
  ·exact zP8 ns root A c hw k K lo hi tn ks f r0 r1 hx hK q kd it tx b d e a Av Ay Ae Ab cv cy ce cb w hT hv hok hI
  ·exact zP6 ns root A c hw k K lo hi tn ks f r0 r1 hx hK q kd it tx b d e a Av Ay Ae Ab cv cy ce cb w hT hv hok hI
  ·exact zP3 ns root A c hw k K lo hi tn ks f r0 r1 hx hK q kd it tx b d e a Av Ay Ae Ab cv cy ce cb w hT hv hok hI
theorem zPl (h p q i:Nat) (ns:List Tn) (A:Option Addr) (c:Nat) (w:World) (hS:SrcOk h p w) (hR:zAl ns p A c w) (hG:GenT ns) (hq:1<=q) (hq4:q<=4) (lo hi:Int) (tx:List UInt8) (ks:List Int) (fds:List Fd) (r0 r1:Int) (hx:ns[i]?=some ⟨19,lo,hi,tx,ks,fds,r0,r1⟩) :
  Calls tP 88 #[.pointer (some (aD p 0)),.agg #[vS A ns.length c,vI i6 0],vI i6 i,vI i6 q] w (NearR (2) q h p w):=by
 have a:=hS.lt;have g:=hG.2 _ _ hx;have Y:=(Bx.1 hx).1;have X:=hG.1;obtain⟨b,v,cap,Ak,ck,Af,cf,hu,Z,E,f,G,d0,d1,d2,d3,d4,d5,d6,d7⟩:=TyB.at8 hR hx;injection hu with hA _ hc;subst hA hc;obtain⟨hF,N⟩:=NF.start (oE (some (aD b v)) ns.length c 0) (oX 19 lo hi ⟨tx.toArray⟩ Ak ks.length ck Af fds.length cf r0 r1) hS;have M:bW w ((w.alloc (oE (some (aD b v)) ns.length c 0)).alloc zV):=(yR.alloc lR _).alloc (by simp) _;have S:b<w.heap.size:=by omega
 have K8:=kC8 M S d0 d1 d2 d3 d4 d5 d6 d7;clear d0 d1 d2 d3 d4 d5 d6 d7;obtain⟨d0,d1,d2,d3,d4,d5,d6,d7⟩:=K8;have u0:¬ (q:Int)<=0:=by omega
 have u1:(0:Int)<=(i:Int):=by omega
 have u2:(i:Int)<(ns.length:Int):=by omega
 have HR:=xI hR;have HG:=xI hG;have HX:=xI (aN hx (aN g E));have HK:=xI (aN f G);have HF:=xI hF;have C:=xI N;clear hR hG hx g E f G hF N M hS;obtain⟨W,hW⟩:∃ W,W=((((w.alloc (oE (some (aD b v)) ns.length c 0)).alloc zV).alloc (oX 19 lo hi ⟨tx.toArray⟩ Ak ks.length ck Af fds.length cf r0 r1)).alloc zV):=⟨_,rfl⟩;rw[<-hW]at HF C;go_enter Tryz.func88,Tryz.ntmps88;go_wp2_with fail;have hd:Eff p W W.drew:=Eff.of_below yR.drew (by have:=HF.out.siz;omega);have T:=C.out.below yR.drew;have HQ:Hid (∀ wq,Eff p W wq->wq.cell? (aF w 3)=some (vT ⟨tx.toArray⟩)):=xI fun wq hE=>(zAe (HF.out.next hE a).n).2.2.2.1
 have F:tx.length<=maxLen:=HX.out.2.2.2.2.2.1;clear d0 d1 d2 d3 d4 d5 d6 d7;rw[<-hW];clear hW;refine ub 6 (fun _=>True) (fun wq=>wq.cell? (aF w 3)=some (vT ⟨tx.toArray⟩)) ?_;refine oM 0 ⟨trivial,HQ.out _ hd⟩ ?_;refine oM 2 ⟨trivial,HQ.out _ hd⟩ ?_;refine oK 3 ⟨trivial,HQ.out _ hd⟩ ?_;refine ua [1,4] fun j hj=>?_;have R:j=1\/j=4:=by simpa using hj
 clear hj;rcases R with rfl|rfl
 ·refine zAi rfl (by rfl) (fun K hK=>?_);go_simp;refine (zB0 h p W.drew T).mono ?_;rintro e w5 ⟨⟨k,j,t,rfl,hl⟩,B,u⟩;have I:=hd.trans u;have O:=HF.out.next I a
  have Q:=O.siz;refine hK _ _ ⟨⟨trivial,fun _=>HQ.out _ I⟩,oQ ?_⟩;clear hK K;obtain⟨w6,x,J,_,P⟩:=aW w5 (.cells #[vT ⟨tx.toArray⟩] 9)
  have k6:w6.cell? (aH w5 0)=some (vT ⟨tx.toArray⟩):=(Bv (by rw[x];exact Bl w5 _) 0).trans rfl;have o:=O.next (Eff.of_below J (by omega)) a
  have z:=B.below J;refine uo 4 (fun K hK=>?_);go_simp;rw[<-x];refine hK _ _ ⟨trivial,fun _=>(zAe o.n).2.2.2.1⟩ (oQ ?_);clear hK K x;have hc:=zCn (q+1) (w.heap.size+2) (lfV k j t) _ (some (aH w5 0)) 1 1 [tx] w6 (by omega) (lfVB (LeafN.all hl).2.2.1 (LeafN.all hl).2.2.2.1 (LeafN.all hl).2.2.2.2 q _ _) ⟨rfl,by intro s hs;simp at hs;subst hs;exact F,fun _=>⟨_,_,rfl,by omega,by intro m s hm;cases m with|zero=>(simp at hm;subst hm;exact k6)|succ m=>simp at hm⟩⟩ (by decide);refine uo 5 (fun K hK=>?_);go_simp;refine hc.mono ?_;rintro e w9 ⟨cs,rfl,hv,hb9⟩;clear hc;have hF:=o.next (Eff.of_below hb9 (by omega)) a
  have y:=z.below hb9;obtain⟨a1,i1,s1,A1,n1,c1,A2,n2,c2,A3,n3,c3,A4,n4,c4,rfl⟩:=hv.form7;have HV:=xI hv;clear hv hb9 k6;refine hK _ _ ⟨trivial,fun _=>(zAe hF.n).2.2.2.1⟩ (oQ ?_);clear hK K;obtain⟨e0,e1,e2,e3,e4,e5,e6⟩:=zAc hF.r;obtain⟨z0,z1,z2,z3,z4,z5,z6⟩:=zAd hF.r;refine uo 6 (fun K hK=>?_);go_simp;refine hK _ _ ⟨trivial,ug⟩ (oQ ?_);clear hK K;refine (ud ?_) _;have l:=xI hF;clear hF;go_wp2;exact ret7 l.out.r rfl rfl rfl fun V x1 x2 x3=>zAw a l.out y HV.out (by show (srt [tx]).length<=2;have h9:=zB4 [tx];simp only[Cj,Cl]at h9;omega) x1 x2 x3
 ·refine zAi rfl (by rfl) (fun K hK=>?_);go_simp;refine nW fun w5 d=>?_;have L:bW W w5:=by rw[d];exact (yR.alloc lR _).drew
  have Q:w5.heap.size=W.heap.size+1:=by rw[d];simp
  have U:=HF.out.siz;have u:Eff p W w5:=Eff.of_below L (by omega);have D:w5.heap[W.heap.size]?=some (.cells #[vT ⟨tx.toArray⟩] 9 (0,0)):=by rw[d];exact Bl W _
  have B:=C.out.below L;refine hK _ _ ⟨⟨trivial,fun _=>HQ.out _ u⟩,oQ ?_⟩;clear hK K d;refine uo 1 (fun K hK=>?_);go_simp;refine (zB0 h p w5 B).mono ?_;rintro e w6 ⟨⟨k,j,t,rfl,hl⟩,z,hE6⟩;have H:=u.trans hE6;have o:=HF.out.next H a
  have P:=hE6.size;have k6:w6.cell? (aH W 0)=some (vT ⟨tx.toArray⟩):=(Bv ((hE6.other _ (by omega) (by omega)).trans D) 0).trans rfl;refine hK _ _ ⟨trivial,fun _=>HQ.out _ H⟩ (oQ ?_);clear hK K D;have hc:=zCn (q+1) (w.heap.size+2) (lfV k j t) _ (some (aH W 0)) 1 1 [tx] w6 (by omega) (lfVB (LeafN.all hl).2.2.1 (LeafN.all hl).2.2.2.1 (LeafN.all hl).2.2.2.2 q _ _) ⟨rfl,by intro s hs;simp at hs;subst hs;exact F,fun _=>⟨_,_,rfl,by omega,by intro m s hm;cases m with|zero=>(simp at hm;subst hm;exact k6)|succ m=>simp at hm⟩⟩ (by decide);refine uo 5 (fun K hK=>?_);go_simp;refine hc.mono ?_;rintro e w9 ⟨cs,rfl,hv,hb9⟩;clear hc;have hF:=o.next (Eff.of_below hb9 (by omega)) a
  have y:=z.below hb9;obtain⟨a1,i1,s1,A1,n1,c1,A2,n2,c2,A3,n3,c3,A4,n4,c4,rfl⟩:=hv.form7;have HV:=xI hv;clear hv hb9 k6;refine hK _ _ ⟨trivial,fun _=>(zAe hF.n).2.2.2.1⟩ (oQ ?_);clear hK K;obtain⟨e0,e1,e2,e3,e4,e5,e6⟩:=zAc hF.r;obtain⟨z0,z1,z2,z3,z4,z5,z6⟩:=zAd hF.r;refine uo 6 (fun K hK=>?_);go_simp;refine hK _ _ ⟨trivial,ug⟩ (oQ ?_);clear hK K;refine (ud ?_) _;have l:=xI hF;clear hF;go_wp2;exact ret7 l.out.r rfl rfl rfl fun V x1 x2 x3=>zAw a l.out y HV.out (by show (srt [tx]).length<=2;have h9:=zB4 [tx];simp only[Cj,Cl]at h9;omega) x1 x2 x3
end Go.Proofs.YteedihhdcbepmaaGreat
