/- Membership as the document decides it: maps. -/
import Derived.Test.YteedihhdcbepmaaGreatTsZ
import Derived.Test.YteedihhdcbepmaaGreatTs30
set_option maxRecDepth 100000
set_option maxHeartbeats 12800000
set_option linter.all false
open Go.Value renaming slice→vS,int→vI,string→vT
open Go.IntKind renaming i64→i6
open Go.Proofs.Tryz
open Go.Proofs.Tryz renaming prog→tP
namespace Go.Proofs.YteedihhdcbepmaaGreat
open Go Go.RowKit
theorem ky_at {w:World}{H n c:Nat}{l:List (Int×List UInt8)}{A:Option Addr}{j:Nat}{x:Int×List UInt8}(h:RowP w H 2 (vS A n c) l.length (fun j cs=>∃ x,l[j]?=some x/\cs=[vI i6 x.1,vT ⟨x.2.toArray⟩]/\(Lit.int .i64 x.1).wf=true/\x.2.length<=maxLen)) (hx:l[j]?=some x):∃ b off,A=some (aD b off)/\b<H/\w.cell? (aD b (off+j*2))=some (vI i6 x.1)/\w.cell? (aD b (off+j*2+1))=some (vT ⟨x.2.toArray⟩):=by
 have hj:=(Bx.1 hx).1;obtain⟨A',cap,h1,_,h3⟩:=h;injection h1 with h1 _ _;obtain⟨b,off,h4,h5,_,h7⟩:=h3 (by omega);obtain⟨cs,h8,h9,y,hy,rfl,_,_⟩:=h7 j hj;rw[hx]at hy;injection hy with hy;subst hy;exact⟨b,off,h1.trans h4,h5,h9 0 (by omega),h9 1 (by omega)⟩
theorem zI6 (l:List Fd) (k:Int×List UInt8):(∃ (j:Nat) (f:Fd),zDc l k=(j:Int)/\l[j]?=some f/\l.find? (fun f=>decide (f.key=k))=some f)\/(zDc l k=-1/\l.find? (fun f=>decide (f.key=k))=none):=by
 induction l with
 | nil=>right;exact⟨rfl,rfl⟩
 | cons a l ih=>
  by_cases h:a.key=k
  ·left;exact⟨0,a,by simp[zDc,List.findIdx?_cons,h],rfl,by simp[h]⟩
  ·rcases ih with⟨j,f,h1,h2,h3⟩|⟨h1,h2⟩
   ·left;refine⟨j+1,f,?_,by simpa using h2,by simp[h,h3]⟩;unfold zDc at h1 ⊢;rw[List.findIdx?_cons];simp only[h,decide_false,Bool.false_eq_true,if_false];cases hq:l.findIdx? (fun f=>decide (f.key=k))with
    | none=>rw[hq]at h1;first|(simp at h1;done)|(simp at h1;omega)
    | some q=>rw[hq]at h1;simp at h1 ⊢;omega
   ·right;refine⟨?_,by simp[h,h2]⟩;unfold zDc at h1 ⊢;rw[List.findIdx?_cons];simp only[h,decide_false,Bool.false_eq_true,if_false];cases hq:l.findIdx? (fun f=>decide (f.key=k))with
    | none=>rfl
    | some q=>rw[hq]at h1;first|(simp at h1;done)|(simp at h1;omega)
theorem zQj (l:List (Int×List UInt8)) (k:Int×List UInt8):decide (keyI l k<0)=!(l.any fun x=>decide (x=k)):=by
 unfold keyI;cases hq:l.findIdx? (fun f=>decide (f=k))with
 | none=>
  rw[List.findIdx?_eq_none_iff]at hq;have:(l.any fun x=>decide (x=k))=false:=by rw[List.any_eq_false];intro x hx;have:=hq x hx;simpa using this
  rw[this];rfl
 | some j=>
  rw[List.findIdx?_eq_some_iff_getElem]at hq;obtain⟨h1,h2,_⟩:=hq;have:(l.any fun x=>decide (x=k))=true:=by rw[List.any_eq_true];exact⟨_,Cx h1,h2⟩
  rw[this];simp
theorem zNm {k:Int}{s:List UInt8}(h:keyB k s=true):k=0\/k=1:=by
 unfold keyB at h;by_cases h0:k=0
 ·exact .inl h0
 ·by_cases h1:k=1
  ·exact .inr h1
  ·simp[h0,h1]at h
theorem zGm (ns:List Tn) (root:Int) (A:Option Addr) (c q:Nat) (kd it:Int) (tx:List UInt8) (kids:List Vl) (keys:List (Int×List UInt8)) (ents:List En) (labs:List (List UInt8)) (Av Ay Ae Ab:Option Addr) (cv cy ce cb:Nat)
  (lo hi:Int) (tn:List UInt8) (ks:List Int) (fds:List Fd) (r0 r1:Int) (Ak Af:Option Addr) (ck cf:Nat) (w:World) (hT:TyAt w ns root A c)
  (hv:VS (q+1) w w.heap.size (.mk kd it tx kids keys ents labs) [vI i6 kd,vI i6 it,vT ⟨tx.toArray⟩,vS Av kids.length cv,vS Ay keys.length cy,vS Ae ents.length ce,vS Ab labs.length cb]) (hN:TnP w w.heap.size ⟨13,lo,hi,tn,ks,fds,r0,r1⟩ [vI i6 13,vI i6 lo,vI i6 hi,vT ⟨tn.toArray⟩,vS Ak ks.length ck,vS Af fds.length cf,vI i6 r0,vI i6 r1])
  (hok:∀ x∈kids,okV x=true) (hky:∀ k∈keys,keyB k.1 k.2=true) (hlen:keys.length=kids.length) (hed:∀ k∈edg ⟨13,lo,hi,tn,ks,fds,r0,r1⟩,0<=k) (hM:Hid (∀ x∈kids,∀ k∈edg ⟨13,lo,hi,tn,ks,fds,r0,r1⟩,MemC ns root A c x k.toNat)) :
  Calls tP 122 #[.agg #[vI i6 kd,vI i6 it,vT ⟨tx.toArray⟩,vS Av kids.length cv,vS Ay keys.length cy,vS Ae ents.length ce,vS Ab labs.length cb],.agg #[vS A ns.length c,vI i6 root],.agg #[vI i6 13,vI i6 lo,vI i6 hi,vT ⟨tn.toArray⟩,vS Ak ks.length ck,vS Af fds.length cf,vI i6 r0,vI i6 r1]] w fun e w'=>e=.returned (.bool (mapMC (memB ns) (.mk kd it tx kids keys ents labs) ⟨13,lo,hi,tn,ks,fds,r0,r1⟩))/\bW w w':=by
 obtain⟨W,hW⟩:∃ W,W=((w.alloc (oV kd it ⟨tx.toArray⟩ Av kids.length cv Ay keys.length cy Ae ents.length ce Ab labs.length cb)).alloc (oE A ns.length c root)).alloc (oX 13 lo hi ⟨tn.toArray⟩ Ak ks.length ck Af fds.length cf r0 r1):=⟨_,rfl⟩;have ai:bW w W:=by rw[hW];exact ((yR.alloc lR _).alloc (by simp) _).alloc (by simp;omega) _
 have kv:W.heap[w.heap.size]?=some (oV kd it ⟨tx.toArray⟩ Av kids.length cv Ay keys.length cy Ae ents.length ce Ab labs.length cb):=by rw[hW,Bp _ _ _ (by simp;omega),Bp _ _ _ (by simp)];exact Bl w _
 have kt:W.heap[w.heap.size+1]?=some (oE A ns.length c root):=by rw[hW,Bp _ _ _ (by simp)];exact zAg _ (by simp)
 have kn:W.heap[w.heap.size+1+1]?=some (oX 13 lo hi ⟨tn.toArray⟩ Ak ks.length ck Af fds.length cf r0 r1):=by rw[hW];exact zAg _ (by simp)
 have ao:W.heap.size=w.heap.size+3:=by rw[hW];simp
 have HT:Hid (∀ wq,bW W wq->TyAt wq ns root A c/\bW w wq/\(jV wq w.heap.size kd it ⟨tx.toArray⟩ Av kids.length cv Ay keys.length cy Ae ents.length ce Ab labs.length cb)/\(jT wq (w.heap.size+1) A ns.length c root)/\(jN wq (w.heap.size+1+1) 13 lo hi ⟨tn.toArray⟩ Ak ks.length ck Af fds.length cf r0 r1)):=xI fun U hU=>by
  have hb:=ai.trans (hU.mono (by omega));exact⟨hT.on hb,hb,zAc ((hU.block _ (by omega)).trans kv),zAf ((hU.block _ (by omega)).trans kt),zAe ((hU.block _ (by omega)).trans kn)⟩
 have ap:=hv;obtain⟨uk,uy,ue,ul,af,X,V,ar,aa,G,_,_⟩:=ap;simp only[Bb,and_true,true_and]at af;obtain⟨rfl,rfl,rfl,rfl⟩:=af;obtain⟨aH,aI,v,au,_,J⟩:=hN;simp only[Bb,and_true,true_and]at v;obtain⟨rfl,rfl⟩:=v;have ae:fds.length<=maxLen:=by obtain⟨_,_,_,h,_⟩:=J;exact h.1
 have T:keys.length<=maxLen:=by obtain⟨_,_,_,h,_⟩:=G;exact h.1
 have HR:=xI (aN aa (aN G J));have HV:=xI (aN hok (aN hky (aN hlen (aN hed (aN ae T)))));have HC:Hid (mapMC (memB ns) (.mk kd it tx kids keys ents labs) ⟨13,lo,hi,tn,ks,fds,r0,r1⟩=(fds.all (fun f=>f.opt||keys.any (fun k=>decide (k=f.key)))&&(keys.zip kids).all fun p=>memB ns p.2 (toOf ⟨13,lo,hi,tn,ks,fds,r0,r1⟩ p.1).toNat)):=xI rfl;have aj:Hid (∀ k,toOf ⟨13,lo,hi,tn,ks,fds,r0,r1⟩ k=match fds.find? (fun f=>decide (f.key=k))with|some f=>f.node|none=>if k.1=0 then r0 else r1):=xI fun _=>rfl;have aE:Hid (∀ k,toOf ⟨13,lo,hi,tn,ks,fds,r0,r1⟩ k∈edg ⟨13,lo,hi,tn,ks,fds,r0,r1⟩):=xI fun k=>zHl _ rfl k;generalize hmm:mapMC (memB ns) (.mk kd it tx kids keys ents labs) ⟨13,lo,hi,tn,ks,fds,r0,r1⟩=res at *;clear hT ai kv kt kn hv aa G J hok hky hlen hed ae T hmm X V ar au ao;go_enter func122,ntmps122;go_wp2_with fail;rw[<-hW];clear hW;obtain⟨z0,z1,z2⟩:=(HT.out W yR).2.2;clear z0 z1 z2
 go_loopw [7] (fun iv wr=>∃ i:Nat,iv=vI i6 i/\i<=fds.length/\(fds.take i).all (fun f=>f.opt||keys.any (fun k=>decide (k=f.key)))=true/\bW W wr) (fun i _=>((fds.length:Int)-intOf i).toNat)
 case atStart=>exact⟨0,rfl,by omega,by simp,Bw _ _⟩
 case round=>
  obtain⟨i,rfl,aM,g,ah⟩:=hrel;have a:=xI g;have Q:=xI ah;clear g ah;have n5:=(HT.out wr Q.out).2.2.2.2.2.2.2.2.2.1;by_cases him:i<fds.length
  ·have mp:(i:Int)<(fds.length:Int):=by omega
   have m0:(0:Int)<=(i:Int):=by omega
   have X:IntKind.i64.wrap ((i:Int)+1)=(i:Int)+1:=Br _ (by have:=HV.out.2.2.2.2.1;unfold maxLen at this;omega);have l:=By him;generalize fds[i]=f at l;obtain⟨bf,of,E,z,az,f0,f1,f2,f3⟩:=fd_at HR.out.2.2 l;obtain⟨⟨k1,k2⟩,fn,fo⟩:=f;have hd:bW W wr.drew:=Q.out.drew;subst E;have HQ:Hid (∀ wq,bW W wq->((jV wq w.heap.size kd it ⟨tx.toArray⟩ Av kids.length cv Ay keys.length cy Ae ents.length ce Ab labs.length cb)/\(jT wq (w.heap.size+1) A ns.length c root)/\(jN wq (w.heap.size+1+1) 13 lo hi ⟨tn.toArray⟩ Ak ks.length ck (some (aD bf of)) fds.length cf r0 r1))/\wq.cell? (aD bf (of+i*4))=some (vI i6 k1)/\wq.cell? (aD bf (of+i*4+1))=some (vT ⟨k2.toArray⟩)/\wq.cell? (aD bf (of+i*4+3))=some (.bool fo)):=xI fun wq h=>by
    obtain⟨_,hb,q0⟩:=HT.out wq h;exact⟨q0,(hb.cell (p:=(aD bf _)) z).trans f0,(hb.cell (p:=(aD bf _)) z).trans f1,(hb.cell (p:=(aD bf _)) z).trans f3⟩
   have HJ:=xI l;have d:=HT.out _ hd;have hc:=zRz keys (k1,k2) (vI i6 kd) (vI i6 it) (vT ⟨tx.toArray⟩) (vS Av kids.length cv) (vS Ae ents.length ce) (vS Ab labs.length cb) Ay cy wr.drew (RowB.on (RowB.mono HR.out.2.1 lR fun _ _ h=>h) d.2.1 (fun _ _ h=>h) |>.sub (fun b hb=>Bj hb d.2.1.size) fun _ _ h=>h) HV.out.2.2.2.2.2;have ab:=zQj keys (k1,k2);generalize keyI keys (k1,k2)=ki at *;clear f0 f1 f2 f3 az l d;cases fo
   case true=>
    go_wp2_with fail;refine Be (S:=fun wq=>((jV wq w.heap.size kd it ⟨tx.toArray⟩ Av kids.length cv Ay keys.length cy Ae ents.length ce Ab labs.length cb)/\(jT wq (w.heap.size+1) A ns.length c root)/\(jN wq (w.heap.size+1+1) 13 lo hi ⟨tn.toArray⟩ Ak ks.length ck (some (aD bf of)) fds.length cf r0 r1))/\wq.cell? (aD bf (of+i*4))=some (vI i6 k1)/\wq.cell? (aD bf (of+i*4+1))=some (vT ⟨k2.toArray⟩)/\wq.cell? (aD bf (of+i*4+3))=some (.bool true)) (by kernel_rfl) (HQ.out _ hd) (fun _=>?_);refine oT 0 (HQ.out _ hd) ?_
    (iterate 7 refine oY (HQ.out _ hd) ?_)
    refine oU 8 (HQ.out _ hd) ?_
    (iterate 6 refine oZ (HQ.out _ hd) ?_)
    refine zAu 15 (by kernel_rfl) rfl (by rfl) (HQ.out _ hd) (oP ?_);refine oU 16 (HQ.out _ hd) ?_;refine oT 17 (HQ.out _ hd) ?_;refine wD ?_;go_wp2_with fail
    go_roundw
    case rel=>exact⟨i+1,by go_num,by omega,by rw[zAv HJ.out,a.out];simp,hd⟩
    case measure=>simp[intOf];try omega
   case false=>
    have ak:=xI ab;clear ab;go_wp2_with fail;refine Be (S:=fun wq=>((jV wq w.heap.size kd it ⟨tx.toArray⟩ Av kids.length cv Ay keys.length cy Ae ents.length ce Ab labs.length cb)/\(jT wq (w.heap.size+1) A ns.length c root)/\(jN wq (w.heap.size+1+1) 13 lo hi ⟨tn.toArray⟩ Ak ks.length ck (some (aD bf of)) fds.length cf r0 r1))/\wq.cell? (aD bf (of+i*4))=some (vI i6 k1)/\wq.cell? (aD bf (of+i*4+1))=some (vT ⟨k2.toArray⟩)/\wq.cell? (aD bf (of+i*4+3))=some (.bool false)) (by kernel_rfl) (HQ.out _ hd) (fun _=>?_);refine oT 0 (HQ.out _ hd) ?_
    (iterate 14 refine oY (HQ.out _ hd) ?_)
    refine oO 15 fun K hK=>?_;go_simp;refine (hc).mono ?_;rintro e w2 ⟨rfl,hb2⟩;have B:=hd.trans (hb2.mono hd.size);clear hc;refine hK _ _ (HQ.out _ B) (oP ?_);clear hK K;refine oT 16 (HQ.out _ B) ?_;refine oT 17 (HQ.out _ B) ?_;refine wD ?_;by_cases hk0:ki<0
    ·have H:decide (ki<0)=true:=C8 hk0;go_wp2;go_ret;refine⟨?_,(HT.out _ B).2.1⟩;have hf:fds.all (fun f=>f.opt||keys.any (fun k=>decide (k=f.key)))=false:=by
      rw[Dy];refine⟨_,Bh HJ.out,?_⟩;have h:=ak.out;rw[H]at h;have h2:(keys.any fun x=>decide (x=(k1,k2)))=false:=by simpa using h.symm
      simp only[Bool.false_or];rw[h2];decide
     rw[HC.out,hf];rfl
    ·have H:decide (ki<0)=false:=Ci hk0;go_wp2_with fail
     go_roundw
     case rel=>exact⟨i+1,by go_num,by omega,by
      have h:=ak.out;rw[H]at h;have h2:(keys.any fun x=>decide (x=(k1,k2)))=true:=by simpa using h.symm
      rw[zAv HJ.out,a.out];simp only[Bool.false_or,Et];exact h2,B⟩
     case measure=>simp[intOf];try omega
  ·have mp:¬ (i:Int)<(fds.length:Int):=by omega
   have aG:Hid (fds.all (fun f=>f.opt||keys.any (fun k=>decide (k=f.key)))=true):=xI (by have h:=a.out;rw[B8 (by omega)]at h;exact h);rw[aG.out,Et]at HC;clear a;go_wp2_with fail;clear n5
   go_loopw [8] (fun iv wr=>∃ i:Nat,iv=vI i6 i/\i<=keys.length/\((keys.zip kids).take i).all (fun p=>memB ns p.2 (toOf ⟨13,lo,hi,tn,ks,fds,r0,r1⟩ p.1).toNat)=true/\bW W wr) (fun i _=>((keys.length:Int)-intOf i).toNat)
   case atStart=>exact⟨0,rfl,by omega,by simp,Q.out⟩
   case round=>
    obtain⟨i,rfl,aL,g,y⟩:=hrel;have a:=xI g;have R:=xI y;clear g y;have v4:=(HT.out _ R.out).2.2.1.2.2.2.2.1;rename World=>wL;by_cases him2:i<keys.length
    ·have an:(i:Int)<(keys.length:Int):=by omega
     have aK:(0:Int)<=(i:Int):=by omega
     have V:IntKind.i64.wrap ((i:Int)+1)=(i:Int)+1:=Br _ (by have:=HV.out.2.2.2.2.2;unfold maxLen at this;omega);have l:=By him2;generalize keys[i]=kx at l;obtain⟨s,oy,aB,ag,y0,y1⟩:=ky_at HR.out.2.1 l;subst aB;have ad:=HV.out.2.1 kx (Bh l);obtain⟨kk,k2⟩:=kx;have aw:=zNm ad;obtain⟨kn,rfl⟩:∃ kn:Nat,kk=(kn:Int):=⟨kk.toNat,by omega⟩;have av:kn<2:=by omega
     have ax:i<kids.length:=by have:=HV.out.2.2.1;omega
     obtain⟨bv,ov,aO,x0,x1,x2,x3,x4,x5,x6,L,o,⟨x,hx,Y⟩,e0,e1,e2,e3,e4,e5,e6⟩:=RowB.at7 (j:=i) HR.out.1 ax;injection L with L hmm hcl;clear hmm;subst L hcl;have HZ:Hid ((keys.zip kids)[i]?=some (((kn:Int),k2),x)):=xI (by rw[List.getElem?_zip_eq_some];exact⟨l,hx⟩);obtain⟨rn,Z⟩:∃ rn:Nat,(if kn=0 then r0 else r1)=(rn:Int):=⟨(if kn=0 then r0 else r1).toNat,by
      have h0:=HV.out.2.2.2.1 r0 (by simp[edg]);have h1:=HV.out.2.2.2.1 r1 (by simp[edg]);split<;>omega⟩
     have N:=xI Z;have hd:bW W wL.drew:=R.out.drew;have HQ:Hid (∀ wq,bW W wq->((jV wq w.heap.size kd it ⟨tx.toArray⟩ (some (aD bv ov)) kids.length cv (some (aD s oy)) keys.length cy Ae ents.length ce Ab labs.length cb)/\(jT wq (w.heap.size+1) A ns.length c root)/\(jN wq (w.heap.size+1+1) 13 lo hi ⟨tn.toArray⟩ Ak ks.length ck Af fds.length cf r0 r1))/\wq.cell? (aD s (oy+i*2))=some (vI i6 kn)/\wq.cell? (aD s (oy+i*2+1))=some (vT ⟨k2.toArray⟩)):=xI fun wq h=>by
      obtain⟨_,hb,q0⟩:=HT.out wq h;exact⟨q0,(hb.cell (p:=(aD s _)) ag).trans y0,(hb.cell (p:=(aD s _)) ag).trans y1⟩
     have t:Hid (∀ wq,bW W wq->((jV wq w.heap.size kd it ⟨tx.toArray⟩ (some (aD bv ov)) kids.length cv (some (aD s oy)) keys.length cy Ae ents.length ce Ab labs.length cb)/\(jT wq (w.heap.size+1) A ns.length c root)/\(jN wq (w.heap.size+1+1) 13 lo hi ⟨tn.toArray⟩ Ak ks.length ck Af fds.length cf r0 r1))/\(wq.cell? (aD bv (ov+i*7))=some x0/\wq.cell? (aD bv (ov+i*7+1))=some x1/\wq.cell? (aD bv (ov+i*7+2))=some x2/\wq.cell? (aD bv (ov+i*7+3))=some x3/\wq.cell? (aD bv (ov+i*7+4))=some x4/\wq.cell? (aD bv (ov+i*7+5))=some x5/\wq.cell? (aD bv (ov+i*7+6))=some x6)):=xI fun wq h=>by
      obtain⟨_,hb,q0⟩:=HT.out wq h;exact⟨q0,(hb.cell (p:=(aD bv _)) o).trans e0,(hb.cell (p:=(aD bv _)) o).trans e1,(hb.cell (p:=(aD bv _)) o).trans e2,(hb.cell (p:=(aD bv _)) o).trans e3,(hb.cell (p:=(aD bv _)) o).trans e4,(hb.cell (p:=(aD bv _)) o).trans e5,(hb.cell (p:=(aD bv _)) o).trans e6⟩
     have aF:Hid (∀ wq,bW W wq->wq.cell? (aD (w.heap.size+1+1) (6+kn))=some (vI i6 rn)):=xI fun wq h=>by
      have q:=(HT.out wq h).2.2.2.2;have hk:kn=0\/kn=1:=by omega
      rcases hk with rfl|rfl
      ·rw[<-N.out];exact q.2.2.2.2.2.2.1
      ·rw[<-N.out];exact q.2.2.2.2.2.2.2
     have d:=HT.out _ hd;have hc:=zNv fds ((kn:Int),k2) (vI i6 13) (vI i6 lo) (vI i6 hi) (vT ⟨tn.toArray⟩) (vS Ak ks.length ck) (vI i6 r0) (vI i6 r1) Af cf wL.drew (RowB.on HR.out.2.2 d.2.1 (fun _ _ h=>h) |>.sub (fun b hb=>Bj hb d.2.1.size) fun _ _ h=>h) HV.out.2.2.2.2.1;have P:=xI (zI6 fds ((kn:Int),k2));generalize zDc fds ((kn:Int),k2)=fi at *;have M:=xI (aN Y hx);have m3:(0:Int)<=(kn:Int):=by omega
     have m4:(kn:Int)<2:=by omega
     clear y0 y1 e0 e1 e2 e3 e4 e5 e6 l ad aw hx Y Z d;have aJ:(i:Int)<(kids.length:Int):=by omega
     go_wp2_with fail;clear v4;refine wR HQ (by kernel_rfl) (HQ.out _ hd) (fun _=>?_);refine oT 0 (HQ.out _ hd) ?_
     (iterate 5 refine oY (HQ.out _ hd) ?_)
     refine oO 6 fun K hK=>?_;go_simp;refine (hc).mono ?_;rintro e w3 ⟨rfl,hb3⟩;have m:=hd.trans (hb3.mono hd.size);clear hc;refine hK _ _ (HQ.out _ m) (oP ?_);clear hK K;refine oT 7 (HQ.out _ m) ?_;refine wD ?_;have v4:=(HQ.out _ m).1.1.2.2.2.2.1;have y0:=(HQ.out _ m).2.1;have n5:=(HQ.out _ m).1.2.2.2.2.2.2.2.1;have am:=aF.out _ m;have al:=xI m;clear m;rcases P.out with⟨j,f,I,C,u⟩|⟨I,u⟩
     case' inl=>
      have ay:=(Bx.1 C).1;obtain⟨bf,of,E,z,_,_,_,f2,_⟩:=fd_at HR.out.2.2 C;rw[E]at n5;obtain⟨fk,fn,fo⟩:=f;clear E;have aA:(0:Int)<=fn:=HV.out.2.2.2.1 fn (by simp only[edg,B7,Cd];exact .inl (.inr ⟨_,Bh C,rfl⟩));obtain⟨tm,rfl⟩:∃ tm:Nat,fn=(tm:Int):=⟨fn.toNat,by omega⟩;have aC:=((HT.out _ al.out).2.1.cell (p:=(aD bf (of+j*4+2))) z).trans f2;have F:Hid (toOf ⟨13,lo,hi,tn,ks,fds,r0,r1⟩ ((kn:Int),k2)=(tm:Int)):=xI (by rw[aj.out,u]);have j0:(0:Int)<=(j:Int):=by omega
      have j1:(j:Int)<(fds.length:Int):=by omega
      subst I;clear f2 C u ay aA P;go_wp2_with fail;clear aC j0 j1
     case' inr=>
      obtain⟨tm,aq⟩:∃ tm:Nat,tm=rn:=⟨_,rfl⟩;subst aq;have F:Hid (toOf ⟨13,lo,hi,tn,ks,fds,r0,r1⟩ ((kn:Int),k2)=(tm:Int)):=xI (by
       rw[aj.out,u];show (if (kn:Int)=0 then r0 else r1)=_;rw[<-N.out];by_cases h:kn=0
       ·rw[if_pos h,if_pos (by omega)]
       ·rw[if_neg h,if_neg (by omega)])
      subst I;clear u P;go_wp2_with fail
     all_goals
      clear v4 y0 n5 am;have r:bW W w3.drew:=al.out.drew;have d:=HT.out _ r;have n:=aE.out ((kn:Int),k2);rw[F.out]at n;have hc:Calls tP 83 #[.agg #[x0,x1,x2,x3,x4,x5,x6],.agg #[vS A ns.length c,vI i6 root],vI i6 (tm:Int)] w3.drew fun e w'=>e=.returned (.bool (memB ns x tm))/\Below w3.drew.heap.size w3.drew w':=by
       have h:=hM.out x (Bh M.out.2) _ n q _ w3.drew (VS.up d.2.1.size lR (VS.on d.2.1 M.out.1)) (HV.out.1 x (Bh M.out.2)) d.1;rw[Cb]at h;exact h
      clear d n;refine wR t (by kernel_rfl) (t.out _ r) (fun _=>?_);refine oT 0 (t.out _ r) ?_
      (iterate 6 refine oY (t.out _ r) ?_)
      refine oO 7 fun K hK=>?_;go_simp;refine (hc).mono ?_;rintro e w5 ⟨rfl,hb5⟩;have D:=r.trans (hb5.mono r.size);clear hc;refine hK _ _ (t.out _ D) (oP ?_);clear hK K;refine oT 8 (t.out _ D) ?_;refine wD ?_;cases hmx:memB ns x tm with
      | false=>
       have O:=xI hmx;clear hmx;go_wp2;go_ret;refine⟨?_,(HT.out _ D).2.1⟩;have hf:((keys.zip kids).all fun p=>memB ns p.2 (toOf ⟨13,lo,hi,tn,ks,fds,r0,r1⟩ p.1).toNat)=false:=by
        rw[Dy];exact⟨_,Bh HZ.out,by
         show ¬ memB ns x (toOf ⟨13,lo,hi,tn,ks,fds,r0,r1⟩ ((kn:Int),k2)).toNat=true;rw[F.out,Cb,O.out];decide⟩
       rw[HC.out,hf];rfl
      | true=>
       have O:=xI hmx;clear hmx;go_wp2_with fail
       go_roundw
       case rel=>exact⟨i+1,by go_num,by omega,by
        rw[zAv HZ.out,a.out,Et];show memB ns x (toOf ⟨13,lo,hi,tn,ks,fds,r0,r1⟩ ((kn:Int),k2)).toNat=true;rw[F.out,Cb];exact O.out,D⟩
       case measure=>simp[intOf];try omega
    ·have an:¬ (i:Int)<(keys.length:Int):=by omega
     go_wp2;go_ret;refine⟨?_,(HT.out _ R.out).2.1⟩;have h:=a.out;rw[B8 (by rw[List.length_zip];omega)]at h;rw[HC.out,h];rfl
theorem zP7 (ns:List Tn) (root:Int) (A:Option Addr) (c:Nat) (hw:Wf ns) (k:Nat) (K lo hi:Int) (tn:List UInt8) (ks:List Int) (fds:List Fd) (r0 r1:Int) (hx:ns[k]?=some ⟨K,lo,hi,tn,ks,fds,r0,r1⟩) (hK:K=13)
  (q:Nat) (kd it:Int) (tx:List UInt8) (kids:List Vl) (keys:List (Int×List UInt8)) (ents:List En) (labs:List (List UInt8)) (Av Ay Ae Ab:Option Addr) (cv cy ce cb:Nat) (w:World) (hT:TyAt w ns root A c) (hv:VS (q+1) w w.heap.size (.mk kd it tx kids keys ents labs) [vI i6 kd,vI i6 it,vT ⟨tx.toArray⟩,vS Av kids.length cv,vS Ay keys.length cy,vS Ae ents.length ce,vS Ab labs.length cb]) (hok:okV (.mk kd it tx kids keys ents labs)=true) (hI:Hid (∀ v' k',k'<ns.length->fu ns v' k'<fu ns (.mk kd it tx kids keys ents labs) k->MemC ns root A c v' k')) :
  Calls tP 83 #[.agg #[vI i6 kd,vI i6 it,vT ⟨tx.toArray⟩,vS Av kids.length cv,vS Ay keys.length cy,vS Ae ents.length ce,vS Ab labs.length cb],.agg #[vS A ns.length c,vI i6 root],vI i6 k] w fun e w'=>e=.returned (.bool (memB ns (.mk kd it tx kids keys ents labs) k))/\bW w w':=by
 have z:=(Bx.1 hx).1;have g:RowP w w.heap.size 8 (vS A ns.length c) ns.length (tnR w (fun b=>b<w.heap.size) ns):=by
  obtain⟨u,hu,_,h⟩:=hT;injection hu with hu _;rw[hu];exact h
 obtain⟨bn,on,C,Ak,ck,Af,cf,hu,B,n,i,p,d0,d1,d2,d3,d4,d5,d6,d7⟩:=TyB.at8 g hx;injection hu with hA hmm hcc;clear hmm;subst hA hcc;have m:=xI (aN n (aN i p));clear g n i p;have HM:=xI (zBn hw hx (.mk kd it tx kids keys ents labs));have l:=xI (aN hw hx);generalize memB ns (.mk kd it tx kids keys ents labs) k=res at *;obtain⟨W,hW⟩:∃ W,W=(((w.alloc (oV kd it ⟨tx.toArray⟩ Av kids.length cv Ay keys.length cy Ae ents.length ce Ab labs.length cb)).alloc (oE (some (aD bn on)) ns.length c root)).alloc (oX K lo hi ⟨tn.toArray⟩ Ak ks.length ck Af fds.length cf r0 r1)):=⟨_,rfl⟩;have d:bW w W:=by rw[hW];exact ((yR.alloc lR _).alloc (by simp) _).alloc (by simp;omega) _
 have j:bW w ((w.alloc (oV kd it ⟨tx.toArray⟩ Av kids.length cv Ay keys.length cy Ae ents.length ce Ab labs.length cb)).alloc (oE (some (aD bn on)) ns.length c root)):=(yR.alloc lR _).alloc (by simp) _;have kv:W.heap[w.heap.size]?=some (oV kd it ⟨tx.toArray⟩ Av kids.length cv Ay keys.length cy Ae ents.length ce Ab labs.length cb):=by rw[hW,Bp _ _ _ (by simp;omega),Bp _ _ _ (by simp)];exact Bl w _
 have kt:W.heap[w.heap.size+1]?=some (oE (some (aD bn on)) ns.length c root):=by rw[hW,Bp _ _ _ (by simp)];exact zAg _ (by simp)
 have kn:W.heap[w.heap.size+1+1]?=some (oX K lo hi ⟨tn.toArray⟩ Ak ks.length ck Af fds.length cf r0 r1):=by rw[hW];exact zAg _ (by simp)
 have t:W.heap.size=w.heap.size+3:=by rw[hW];simp
 have HT:Hid (∀ wq,bW W wq->TyAt wq ns root (some (aD bn on)) c/\bW w wq/\(jV wq w.heap.size kd it ⟨tx.toArray⟩ Av kids.length cv Ay keys.length cy Ae ents.length ce Ab labs.length cb)/\(jT wq (w.heap.size+1) (some (aD bn on)) ns.length c root)/\(jN wq (w.heap.size+1+1) K lo hi ⟨tn.toArray⟩ Ak ks.length ck Af fds.length cf r0 r1)):=xI fun U hU=>by
  have hb:=d.trans (hU.mono (by omega));exact⟨hT.on hb,hb,zAc ((hU.block _ (by omega)).trans kv),zAf ((hU.block _ (by omega)).trans kt),zAe ((hU.block _ (by omega)).trans kn)⟩
 have K8:=kC8 j B d0 d1 d2 d3 d4 d5 d6 d7;clear d0 d1 d2 d3 d4 d5 d6 d7;obtain⟨d0,d1,d2,d3,d4,d5,d6,d7⟩:=K8;have hE:=(HT.out W yR).2.2;have u1:(0:Int)<=(k:Int):=by omega
 have u2:(k:Int)<(ns.length:Int):=by omega
 have HV:=xI hv;clear j d kv kt kn t hx hw z hT hv;rw[hW]at hE;obtain⟨⟨v0,v1,v2,v3,v4,v5,v6⟩,⟨t0,t1⟩,⟨n0,n1,n2,n3,n4,n5,n6,n7⟩⟩:=hE;have f:=l.out.1.edg _ (Bh l.out.2);have v:=l.out.1.node _ (Bh l.out.2);have a:zAj labs=true/\kindB kd it tx kids keys ents=true/\okVs kids=true/\okEs ents=true:=by
  have h:=hok;unfold okV at h;simp only[Cy]at h;exact⟨h.1.1.1.1,h.1.1.2,h.1.2,h.2⟩
 have d:=(HT.out W yR).2.1;have r:=HV.out.later d;have s:TnP W W.heap.size ⟨K,lo,hi,tn,ks,fds,r0,r1⟩ [vI i6 K,vI i6 lo,vI i6 hi,vT ⟨tn.toArray⟩,vS Ak ks.length ck,vS Af fds.length cf,vI i6 r0,vI i6 r1]:=⟨_,_,rfl,m.out.1,RowB.mono (RowB.on (R':=kidR ks) m.out.2.1 d fun _ _ h=>h) d.size fun _ _ h=>h,RowB.mono (RowB.on (R':=fdR fds) m.out.2.2 d fun _ _ h=>h) d.size fun _ _ h=>h⟩;subst hK;have o:Hid (memS (memB ns) ⟨13,lo,hi,tn,ks,fds,r0,r1⟩ (.mk kd it tx kids keys ents labs)=(decide (kd=8)&&mapMC (memB ns) (.mk kd it tx kids keys ents labs) ⟨13,lo,hi,tn,ks,fds,r0,r1⟩)):=xI rfl;rw[o.out]at HM;have hc:=fun hkd:kd=8=>zGm ns root (some (aD bn on)) c q kd it tx kids keys ents labs Av Ay Ae Ab cv cy ce cb lo hi tn ks fds r0 r1 Ak Af ck cf W (HT.out W yR).1 r s
  (fun x hx=>by have h:=a.2.2.1;rw[zCa,Cz]at h;exact h x hx)
  (fun k hk=>by have h:=a.2.1;rw[hkd]at h;simp[kindB]at h;exact h.1.1 _ _ hk)
  (by have h:=a.2.1;rw[hkd]at h;simp[kindB]at h;exact h.2)
  (fun y hy=>(f y hy).1) (xI fun x hx y hy=>hI.out x y.toNat (by have:=f y hy;omega) (zF7 k y.toNat (zGc hx)))
 generalize mapMC (memB ns) (.mk kd it tx kids keys ents labs) ⟨13,lo,hi,tn,ks,fds,r0,r1⟩=rr at hc HM;clear f v a hok o d r s;by_cases hkd:kd=8
 case neg=>
  have E:(kd==8)=false:=Cm.2 hkd;have D:=xI hkd;clear hkd hc;go_enter func83,ntmps83;go_wp2;go_ret;exact⟨by rw[HM.out,Ci D.out];rfl,((yR.alloc lR _).alloc (by simp) _).alloc (by simp;omega) _⟩
 case pos=>
  replace hc:=hc hkd;subst hkd;go_enter func83,ntmps83;go_wp2_with fail;rw[<-hW];clear hW v0 v1 v2 v3 v4 v5 v6 t0 t1 n0 n1 n2 n3 n4 n5 n6 n7 d0 d1 d2 d3 d4 d5 d6 d7;refine hc.mono ?_;rintro e w2 ⟨rfl,j⟩;clear hc;go_wp2;go_ret;exact⟨by rw[HM.out];simp,(HT.out _ j).2.1⟩
theorem zPv (h p q i:Nat) (ns:List Tn) (A:Option Addr) (c:Nat) (w:World) (hS:SrcOk h p w) (hR:zAl ns p A c w) (hG:GenT ns) (hq:1<=q) (hq4:q<=4) (lo hi:Int) (tx:List UInt8) (ks:List Int) (fds:List Fd) (r0 r1:Int) (hx:ns[i]?=some ⟨13,lo,hi,tx,ks,fds,r0,r1⟩) (hM:Hid (∀ (Ak:Option Addr) (ck:Nat) (Af:Option Addr) (cf:Nat) (W:World),SrcOk h p W->zAl ns p A c W->TnB W (fun b=>b<p) ⟨13,lo,hi,tx,ks,fds,r0,r1⟩ [vI i6 13,vI i6 lo,vI i6 hi,vT ⟨tx.toArray⟩,vS Ak ks.length ck,vS Af fds.length cf,vI i6 r0,vI i6 r1]->Calls tP 134 #[.pointer (some (aD p 0)),.agg #[vS A ns.length c,vI i6 0],.agg #[vI i6 13,vI i6 lo,vI i6 hi,vT ⟨tx.toArray⟩,vS Ak ks.length ck,vS Af fds.length cf,vI i6 r0,vI i6 r1],vI i6 q] W (NearR 2 q h p W))) :
  Calls tP 88 #[.pointer (some (aD p 0)),.agg #[vS A ns.length c,vI i6 0],vI i6 i,vI i6 q] w (NearR (2) q h p w):=by
 have j:=hS.lt;have d:=hG.2 _ _ hx;have u:=(Bx.1 hx).1;have t:=hG.1;obtain⟨b,f,cap,Ak,ck,Af,cf,hu,x,g,a,k,d0,d1,d2,d3,d4,d5,d6,d7⟩:=TyB.at8 hR hx;injection hu with hA _ hc;subst hA hc;obtain⟨hF,n⟩:=NF.start (oE (some (aD b f)) ns.length c 0) (oX 13 lo hi ⟨tx.toArray⟩ Ak ks.length ck Af fds.length cf r0 r1) hS;have l:bW w ((w.alloc (oE (some (aD b f)) ns.length c 0)).alloc zV):=(yR.alloc lR _).alloc (by simp) _;have s:b<w.heap.size:=by omega
 have K8:=kC8 l s d0 d1 d2 d3 d4 d5 d6 d7;clear d0 d1 d2 d3 d4 d5 d6 d7;obtain⟨d0,d1,d2,d3,d4,d5,d6,d7⟩:=K8;have u0:¬ (q:Int)<=0:=by omega
 have u1:(0:Int)<=(i:Int):=by omega
 have u2:(i:Int)<(ns.length:Int):=by omega
 have HR:=xI hR;have HG:=xI hG;have HX:=xI (aN hx (aN d g));have HK:=xI (aN a k);have HF:=xI hF;have o:=xI n;clear hR hG hx d g a k hF n l hS;obtain⟨W,hW⟩:∃ W,W=((((w.alloc (oE (some (aD b f)) ns.length c 0)).alloc zV).alloc (oX 13 lo hi ⟨tx.toArray⟩ Ak ks.length ck Af fds.length cf r0 r1)).alloc zV):=⟨_,rfl⟩;rw[<-hW]at HF o;go_enter func88,ntmps88;go_wp2_with fail;have m:TnB w (fun b=>b<p) ⟨13,lo,hi,tx,ks,fds,r0,r1⟩ [vI i6 13,vI i6 lo,vI i6 hi,vT ⟨tx.toArray⟩,vS Ak ks.length ck,vS Af fds.length cf,vI i6 r0,vI i6 r1]:=⟨_,_,rfl,HX.out.2.2,HK.out.1,HK.out.2⟩;have hc:=hM.out Ak ck Af cf W o.out (HR.out.eff HF.out.eff) (m.keep (HF.out.eff.same fun _ hb=>D5 hb));clear m;rw[<-hW];clear hW;refine hc.mono ?_;rintro e w9 ⟨⟨v,cs,rfl,hv,hl⟩,hS9,hE9⟩;clear hc;have hF:=HF.out.next hE9 j
 have hz:=HF.out.siz;obtain⟨a1,i1,s1,A1,n1,c1,A2,n2,c2,A3,n3,c3,A4,n4,c4,rfl⟩:=hv.form7;have HV:=xI (aN hv hl);clear hv hl hE9;obtain⟨e0,e1,e2,e3,e4,e5,e6⟩:=zAc hF.r;obtain⟨z0,z1,z2,z3,z4,z5,z6⟩:=zAd hF.r;have HF:=xI hF;clear hF;go_wp2;exact ret7 HF.out.r rfl rfl rfl fun V x1 x2 x3=>zAw j HF.out hS9 (VB.sub (fun b hb=>⟨by have:=hb.1;omega,hb.2⟩) lR HV.out.1) (HV.out.2) x1 x2 x3
theorem zPy (h p q i:Nat) (ns:List Tn) (A:Option Addr) (c:Nat) (w:World) (hS:SrcOk h p w) (hR:zAl ns p A c w) (hG:GenT ns) (hq:1<=q) (hq4:q<=4) (lo hi:Int) (tx:List UInt8) (ks:List Int) (fds:List Fd) (r0 r1:Int) (hx:ns[i]?=some ⟨14,lo,hi,tx,ks,fds,r0,r1⟩) (hM:Hid (∀ (Ak:Option Addr) (ck:Nat) (Af:Option Addr) (cf:Nat) (W:World),SrcOk h p W->zAl ns p A c W->TnB W (fun b=>b<p) ⟨14,lo,hi,tx,ks,fds,r0,r1⟩ [vI i6 14,vI i6 lo,vI i6 hi,vT ⟨tx.toArray⟩,vS Ak ks.length ck,vS Af fds.length cf,vI i6 r0,vI i6 r1]->Calls tP 135 #[.pointer (some (aD p 0)),.agg #[vS A ns.length c,vI i6 0],.agg #[vI i6 14,vI i6 lo,vI i6 hi,vT ⟨tx.toArray⟩,vS Ak ks.length ck,vS Af fds.length cf,vI i6 r0,vI i6 r1],vI i6 q] W (NearR 2 q h p W))) :
  Calls tP 88 #[.pointer (some (aD p 0)),.agg #[vS A ns.length c,vI i6 0],vI i6 i,vI i6 q] w (NearR (2) q h p w):=by
 have j:=hS.lt;have d:=hG.2 _ _ hx;have u:=(Bx.1 hx).1;have t:=hG.1;obtain⟨b,f,cap,Ak,ck,Af,cf,hu,x,g,a,k,d0,d1,d2,d3,d4,d5,d6,d7⟩:=TyB.at8 hR hx;injection hu with hA _ hc;subst hA hc;obtain⟨hF,n⟩:=NF.start (oE (some (aD b f)) ns.length c 0) (oX 14 lo hi ⟨tx.toArray⟩ Ak ks.length ck Af fds.length cf r0 r1) hS;have l:bW w ((w.alloc (oE (some (aD b f)) ns.length c 0)).alloc zV):=(yR.alloc lR _).alloc (by simp) _;have s:b<w.heap.size:=by omega
 have K8:=kC8 l s d0 d1 d2 d3 d4 d5 d6 d7;clear d0 d1 d2 d3 d4 d5 d6 d7;obtain⟨d0,d1,d2,d3,d4,d5,d6,d7⟩:=K8;have u0:¬ (q:Int)<=0:=by omega
 have u1:(0:Int)<=(i:Int):=by omega
 have u2:(i:Int)<(ns.length:Int):=by omega
 have HR:=xI hR;have HG:=xI hG;have HX:=xI (aN hx (aN d g));have HK:=xI (aN a k);have HF:=xI hF;have o:=xI n;clear hR hG hx d g a k hF n l hS;obtain⟨W,hW⟩:∃ W,W=((((w.alloc (oE (some (aD b f)) ns.length c 0)).alloc zV).alloc (oX 14 lo hi ⟨tx.toArray⟩ Ak ks.length ck Af fds.length cf r0 r1)).alloc zV):=⟨_,rfl⟩;rw[<-hW]at HF o;go_enter func88,ntmps88;go_wp2_with fail;have m:TnB w (fun b=>b<p) ⟨14,lo,hi,tx,ks,fds,r0,r1⟩ [vI i6 14,vI i6 lo,vI i6 hi,vT ⟨tx.toArray⟩,vS Ak ks.length ck,vS Af fds.length cf,vI i6 r0,vI i6 r1]:=⟨_,_,rfl,HX.out.2.2,HK.out.1,HK.out.2⟩;have hc:=hM.out Ak ck Af cf W o.out (HR.out.eff HF.out.eff) (m.keep (HF.out.eff.same fun _ hb=>D5 hb));clear m;rw[<-hW];clear hW;refine hc.mono ?_;rintro e w9 ⟨⟨v,cs,rfl,hv,hl⟩,hS9,hE9⟩;clear hc;have hF:=HF.out.next hE9 j
 have hz:=HF.out.siz;obtain⟨a1,i1,s1,A1,n1,c1,A2,n2,c2,A3,n3,c3,A4,n4,c4,rfl⟩:=hv.form7;have HV:=xI (aN hv hl);clear hv hl hE9;obtain⟨e0,e1,e2,e3,e4,e5,e6⟩:=zAc hF.r;obtain⟨z0,z1,z2,z3,z4,z5,z6⟩:=zAd hF.r;have HF:=xI hF;clear hF;go_wp2;exact ret7 HF.out.r rfl rfl rfl fun V x1 x2 x3=>zAw j HF.out hS9 (VB.sub (fun b hb=>⟨by have:=hb.1;omega,hb.2⟩) lR HV.out.1) (HV.out.2) x1 x2 x3
structure NmL (h p:Nat) (w:World) (T N:Obj) (wr:World):Prop where
 t:wr.heap[w.heap.size]?=some T
 n:wr.heap[w.heap.size+1]?=some N
 r:wr.heap[w.heap.size+2]?=some zV
 src:SrcOk h p wr
 eff:Eff p w wr
 siz:w.heap.size+3<=wr.heap.size
theorem NmL.start {h p:Nat}{w:World}(T N:Obj) (hS:SrcOk h p w):NmL h p w T N (((w.alloc T).alloc N).alloc zV):=by
 have hl:=hS.lt;have hb:bW w (((w.alloc T).alloc N).alloc zV):=((yR.alloc lR _).alloc (by simp) _).alloc (by simp;omega) _;refine⟨?_,?_,?_,hS.below hb,Eff.of_below hb (by omega),by simp⟩
 ·rw[Bp _ _ _ (by simp;try omega),Bp _ _ _ (by simp;try omega)];exact Bl w _
 ·rw[Bp _ _ _ (by simp;try omega)];exact zAg _ (by simp;try omega)
 ·exact zAg _ (by simp;try omega)
theorem NmL.next {h p:Nat}{w W W':World}{T N:Obj}(H:NmL h p w T N W) (hE:Eff p W W') (hp:p<w.heap.size) (hS:SrcOk h p W':=by assumption):NmL h p w T N W':=by
 have hs:=hE.size;have hz:=H.siz;exact⟨(hE.other _ (by omega) (by omega)).trans H.t,(hE.other _ (by omega) (by omega)).trans H.n,(hE.other _ (by omega) (by omega)).trans H.r,hS,H.eff.trans hE,by omega⟩
theorem NmL.grow {h p:Nat}{w W W':World}{T N:Obj}(H:NmL h p w T N W) (hb:Below (w.heap.size+3) W W') (hp:p<w.heap.size):NmL h p w T N W':=by
 have hs:=hb.size;have hz:=H.siz;exact⟨(hb.block _ (by omega)).trans H.t,(hb.block _ (by omega)).trans H.n,(hb.block _ (by omega)).trans H.r,H.src.below3 hb (by omega),H.eff.grow (hb.mono (by omega)) hp,by omega⟩
theorem zCp {L q h p g:Nat}{w w9 V:World}{v:Vl}{cs:List Value}(hlp:p<w.heap.size) (hg:w.heap.size<=g) (hE:Eff p w w9) (hS:SrcOk h p w9) (hv:VB (q+1) w9 (Btw (g+1) w9.heap.size) v cs) (hl:(zB2 v).length<=L)
  (h1:V.heap.size=w9.heap.size) (h2:∀ b,b≠g->V.heap[b]?=w9.heap[b]?) (h3:∀ B,B<=g->Below B w9 V):NearR L q h p w (.returned (.agg cs.toArray)) V:=
 ⟨⟨v,cs,rfl,VB.sub (fun b hb=>⟨by have:=hb.1;omega,by have:=hb.2;omega⟩) lR (VB.keep ⟨by omega,fun b j hb _=>Bi (h2 b (by have:=hb.1;omega))⟩ hv),hl⟩,hS.below3 (h3 w.heap.size hg) hlp,hE.grow (h3 w.heap.size hg) hlp⟩
def OutR (q lo:Nat) (w:World) (e:Ending) (w':World):Prop:=
 bW w w'/\((∃ c:Int,c≠0/\e=.returned (.tuple #[.agg nV,vI i6 c])) \/
  ∃ v cs,e=.returned (.tuple #[.agg cs.toArray,vI i6 0])/\VB (q+1) w' (Btw lo w'.heap.size) v cs/\zB2 v=[])
theorem MapR.out {q lo:Nat}{keys:List (Int×List UInt8)}{l:List Vl}{w w':World}{e:Ending}(h:MapR q lo keys l w e w'):OutR q lo w e w':=by
 obtain⟨h1,h2|h2|⟨_,_,_,cs,h3,h4⟩⟩:=h
 ·exact⟨h1,.inl ⟨1,by decide,h2.2⟩⟩
 ·exact⟨h1,.inl ⟨6,by decide,h2.2.2.2⟩⟩
 ·exact⟨h1,.inr ⟨_,cs,h3,h4,rfl⟩⟩
theorem zMz (q base:Nat) (A1:Option Addr) (c1:Nat) (keys:List (Int×List UInt8)) (A2:Option Addr) (c2:Nat) (vs:List Vl) (w:World){D:Nat->Prop}{n:Nat}(hb:base<=w.heap.size) (h:MapJ q base w (vS A1 n c1) (vS A2 n c2) keys vs D) (hk:keys.length=n) (hn:n<=100000) :
  Calls tP 97 #[vS A1 n c1,vS A2 n c2] w (OutR q base w):=by
 subst hk;exact (zRp q base A1 c1 keys A2 c2 vs w hb h hn).mono fun _ _ h=>h.out
theorem MapJ.eff {q base p:Nat}{w w3:World}{u1 u2:Value}{keys:List (Int×List UInt8)}{vs:List Vl}{D:Nat->Prop}(h:MapJ q base w u1 u2 keys vs D) (hE:Eff p w w3) (hp:p<base):MapJ q base w3 u1 u2 keys vs D:=by
 have hs:=hE.size;have hD:Same D w w3:=⟨hs,fun b i hb _=>Bi (hE.other b (by have:=(h.dd b hb).1;omega) (h.dd b hb).2.1)⟩;exact⟨h.len,OwnC.kept h.ky fun g hg=>hE.other g (by have:=(h.ky.blk g hg).1;omega) (h.ky.blk g hg).2,OwnC.mapJ (OwnC.kept h.vl fun g hg=>hE.other g (by have:=(h.vl.blk g hg).1;omega) (h.vl.blk g hg).2) fun x cs hv=>VB.keep hD hv,fun b hb=>⟨(h.dd b hb).1,by have:=(h.dd b hb).2.1;omega,(h.dd b hb).2.2⟩,h.dj⟩
end Go.Proofs.YteedihhdcbepmaaGreat
