/- What the source returns of types: .. -/
import Derived.Test.YteedihhdcbepmaaGreatTk19
set_option maxRecDepth 100000
set_option maxHeartbeats 12800000
open Go.Value renaming slice→vS,int→vI,string→vT
open Go.IntKind renaming i64→i6
open Go.Proofs.Tryz renaming prog→tP
namespace Go.Proofs.YteedihhdcbepmaaGreat
open Go Go.RowKit
structure TypL (h p n m:Nat) (w:World) (i:Nat) (A:Option Addr) (c:Nat) (l:List Tn) (wr:World):Prop where
 le:i<=n
 len:l.length=i
 gen:∀ j x,l[j]?=some x->GenN n j x
 res:wr.heap[m]?=some (oE none 0 0 0)
 box:wr.heap[m+1]?=some (oE A l.length c 0)
 own:OwnT wr (m+2) (vS A l.length c) l
 src:SrcOk h p wr
 eff:Eff p w wr
 siz:m+2<=wr.heap.size
theorem zB3 {w:World}{g:Nat}{e:TypeId}{z0 z1:Value}(h:w.heap[g]?=some (.cells #[z0,z1] e (0,0))):j2 w g z0 z1:=⟨cH h 0,cH h 1⟩
def TypeR (h p n:Nat) (w:World) (e:Ending) (w':World):Prop:=(∃ ns cs,e=.returned (.agg cs.toArray)/\ns.length=n/\(∀ j x,ns[j]?=some x->GenN n j x)/\TyB w' (Btw w.heap.size w'.heap.size) ns 0 cs)/\SrcOk h p w'/\Eff p w w'
theorem zNw (h p n:Nat) (w:World) (hS:SrcOk h p w) (hn:1<=n) (hn2:n<=100):Calls tP 44 #[.pointer (some (aD p 0)),vI i6 n] w (TypeR h p n w):=by
 have B:=hS.lt;obtain⟨W,hW⟩:∃ W,W=(w.alloc (oE none 0 0 0)).alloc (oE none 0 0 0):=⟨_,rfl⟩;have hb:bW w W:=by rw[hW];exact (yR.alloc lR _).alloc (by simp) _
 have hL:TypL h p n w.heap.size w 0 none 0 [] W:=⟨by omega,rfl,by simp,by rw[hW,Below.heap_alloc _ _ _ (by simp)];exact heap_alloc_new w _,by rw[hW];exact zAg _ (by simp),OwnE.nil _ _ _ _ _,hS.below hb,Eff.of_below hb (by omega),by rw[hW];simp⟩;have G:max (n:Int) 1=n:=by omega
 clear hS hb;go_enter Tryz.func44,Tryz.ntmps44;go_wp2_with fail;rw[<-hW];clear hW
 try simp only[G]
 clear G
 go_loopw [6] (fun iv wr=>∃ (i:Nat) (A:Option Addr) (c:Nat) (l:List Tn),iv=vI i6 i/\TypL h p n w.heap.size w i A c l wr) (fun i _=>((n:Int)-intOf i).toNat)
 case atStart=>exact⟨0,none,0,[],rfl,hL⟩
 case round=>
  obtain⟨i,A,c,l,rfl,hL⟩:=hrel;by_cases hi:i<n
  ·have mp:(i:Int)<(n:Int):=by omega
   have R:IntKind.i64.wrap ((i:Int)+1)=(i:Int)+1:=IntWalk.i64_in _ (by omega);have hz:=hL.siz;have hd:Eff p wr wr.drew:=Eff.of_below yR.drew (by have:=hL.eff.size;omega);have S:=hL.eff.size;have HQ:Hid (∀ wq,Eff p wr wq->wq.cell? (aE w 0)=some (vS A l.length c)):=xI fun wq hE=>(zB3 ((hE.other _ (by omega) (by omega)).trans hL.box)).1;have hc:=zOf h p i n wr.drew (hL.src.below yR.drew) hi hn2;have HL:=xI hL;generalize a:l.length=la at HQ;have f:=xI a;clear hL a;go_wp2_with fail;refine ub 7 (fun _=>True) (fun wq=>wq.cell? (aE w 0)=some (vS A la c)) ?_;refine oM 0 ⟨trivial,HQ.out _ hd⟩ ?_;refine oK 1 ⟨trivial,HQ.out _ hd⟩ ?_;refine oM 2 ⟨trivial,HQ.out _ hd⟩ ?_;refine oM 3 ⟨trivial,HQ.out _ hd⟩ ?_;refine oM 4 ⟨trivial,HQ.out _ hd⟩ ?_;refine uo 5 (fun K hK=>?_);go_simp;refine hc.mono ?_;rintro e w5 ⟨⟨x,cs,rfl,hT,hG⟩,hS5,hE5⟩;clear hc;have hT:TnB w5 (Btw wr.heap.size w5.heap.size) x cs:=hT;obtain⟨A1,n1,d1,A2,n2,d2,rfl⟩:=TnB.form8 hT;have d:=hd.trans hE5;have hL:=HL.out;have L:wr.heap.size<=w5.heap.size:=d.size;have m:=hL.own.blk;obtain⟨g,cap,w7,u,D,t,N,_⟩:=appG elT namT 22 w5 (w.heap.size+2) _ l (hL.own.eff d (by omega)) x _ (hT.sub fun b hb=>⟨by have:=hb.1;omega,hb.2,fun e=>by have:=m b e.symm;have:=hb.1;omega⟩) rfl (zM2 hT) (by have:=hL.len;omega) (by omega) _ rfl 1;rw[f.out]at u D;have s:=((d.other _ (by omega) (by omega)).trans hL.box);have k:=(t.block _ (by omega)).trans s;rw[f.out]at k;have J:=(zB3 k).1;have I:=Lib.frozen_of_heap k 0;have H:TypL h p n w.heap.size w (i+1) (some (aD g 0)) cap (l++[x]) (w7.setCell (aE w 0) (vS (some (aD g 0)) (la+1) cap)):=by
    have r:(l++[x]).length=la+1:=by rw[List.length_append,f.out];rfl
    have s:=heap_setCell_same w7 (w.heap.size+1) 0 _ _ (vS (some (aD g 0)) (la+1) cap) k;have C:Below (w.heap.size+1) w5 (w7.setCell (aE w 0) (vS (some (aD g 0)) (la+1) cap)):=(t.mono (show w.heap.size+1<=w.heap.size+2 by omega)).setCell (p:=(aE w 0)) (Nat.le_refl (w.heap.size+1)) _;refine⟨hi,by rw[r];have:=hL.len;have:=f.out;omega,fun j y hy=>?_,(C.block _ (by omega)).trans ((d.other _ (by omega) (by omega)).trans hL.res),by rw[r];simpa using s,by rw[r];exact OwnE.low D (by omega),hS5.below3 C (by omega),(hL.eff.trans d).grow (C.mono (by omega)) B,by simp;have:=t.size;omega⟩;by_cases hj:j<l.length
    ·rw[List.getElem?_append_left hj]at hy;exact hL.gen j y hy
    ·have O:j=l.length:=by have:=(List.getElem?_eq_some_iff.1 hy).1;rw[r]at this;have:=f.out;omega
     subst O;rw[List.getElem?_append_right lR,Nat.sub_self]at hy;simp only[List.getElem?_cons_zero,Option.some.injEq]at hy;rw[<-hy,hL.len];exact hG
   have HR:=xI H;have F:=HQ.out w5 d;have E:=fun o=>HQ.out (w5.alloc o) (d.grow ((Below.refl wr.heap.size w5).alloc L o) (by omega));clear H k D t N hL s m hT hG hS5 hE5;refine hK _ _ ⟨trivial,fun _=>F⟩ (oQ ?_);clear hK K;refine uo 6 (fun K hK=>?_);go_simp;refine hK _ _ ⟨trivial,fun _=>E _⟩ (oQ ?_);clear hK K;refine uo 7 (fun K hK=>?_);refine Lib.wp_append_run _ _ _ _ _ rfl _ _ rfl rfl _ w7 u ?_;refine hK _ _ ⟨trivial,ug⟩ (oQ ?_);clear hK K;refine oN 8 trivial ?_;refine uo 9 (fun K hK=>?_);go_simp;refine hK _ _ ⟨trivial,ug⟩ (oQ ?_);clear hK K;refine (ud ?_) _;clear J I u E F;go_wp2_with fail
   go_roundw
   case rel=>exact⟨i+1,_,_,_,by go_num,HR.out⟩
   case measure=>simp[intOf];try omega
  ·have mp:¬ (i:Int)<(n:Int):=by omega
   have P:i=n:=by have:=hL.le;omega
   obtain⟨c0,c1⟩:=zB3 hL.box;obtain⟨e0,e1⟩:=zB3 hL.res;have z0:=Lib.frozen_of_heap hL.res 0;have z1:=Lib.frozen_of_heap hL.res 1;have HL:=xI hL;generalize a:l.length=la at c0;have f:=xI a;clear hL a;go_wp2;obtain⟨V,hV⟩:∃ V,V=(wr.setCell (aH w 0) (vS A la c)).setCell (aH w 1) (vI i6 0):=⟨_,rfl⟩;rw[<-hV];have M:V.heap[w.heap.size]?=some (oE A la c 0):=by
    rw[hV];simpa using heap_setCell_same _ w.heap.size 1 _ _ (vI i6 0) (heap_setCell_same wr w.heap.size 0 _ _ (vS A la c) HL.out.res)
   have z:∀ b,b≠w.heap.size->V.heap[b]?=wr.heap[b]?:=fun b hb=>by rw[hV,heap_setCell_other _ _ _ _ hb,heap_setCell_other _ _ _ _ hb]
   have q:Below w.heap.size wr V:=by rw[hV];exact ((Below.refl w.heap.size wr).setCell (p:=(aH w 0)) lR _).setCell (p:=(aH w 1)) lR _
   have Q:V.heap.size=wr.heap.size:=by rw[hV];simp
   clear hV c0 c1 e0 e1 z0 z1;obtain⟨c0,c1⟩:=zB3 M;refine bodyPost_ret (v:=.agg #[vS A la c,vI i6 0]) (by simp[results,Tryz.results44,go_sem,c0,c1]) rfl ?_;have hL:=HL.out;have a:=f.out;subst a;refine⟨⟨l,_,rfl,by rw[hL.len,P],hL.gen,_,rfl,by show i64B 0;decide,?_⟩,hL.src.below3 q B,hL.eff.grow q B⟩;exact OwnE.rowB (hL.own.kept (by omega) fun b h1 _=>z b (by omega)) (by decide) (by have:=hL.len;unfold maxLen;omega) (by omega)
theorem zO4 (ns:List Tn) (root:Int) (A:Option Addr) (c:Nat) (hw:Wf ns) (k:Nat) (K lo hi:Int) (tn:List UInt8) (ks:List Int) (fds:List Fd) (r0 r1:Int) (hx:ns[k]?=some ⟨K,lo,hi,tn,ks,fds,r0,r1⟩) (hK:K=18)
  (q:Nat) (kd it:Int) (tx:List UInt8) (kids:List Vl) (keys:List (Int×List UInt8)) (ents:List En) (labs:List (List UInt8)) (Av Ay Ae Ab:Option Addr) (cv cy ce cb:Nat) (w:World) (hT:TyAt w ns root A c) (hv:VS (q+1) w w.heap.size (.mk kd it tx kids keys ents labs) [vI i6 kd,vI i6 it,vT ⟨tx.toArray⟩,vS Av kids.length cv,vS Ay keys.length cy,vS Ae ents.length ce,vS Ab labs.length cb]) (hok:okV (.mk kd it tx kids keys ents labs)=true) (hI:Hid (∀ v' k',k'<ns.length->fu ns v' k'<fu ns (.mk kd it tx kids keys ents labs) k->MemC ns root A c v' k')) :
  Calls tP 83 #[.agg #[vI i6 kd,vI i6 it,vT ⟨tx.toArray⟩,vS Av kids.length cv,vS Ay keys.length cy,vS Ae ents.length ce,vS Ab labs.length cb],.agg #[vS A ns.length c,vI i6 root],vI i6 k] w fun e w'=>e=.returned (.bool (memB ns (.mk kd it tx kids keys ents labs) k))/\bW w w':=by
 have J:=(List.getElem?_eq_some_iff.1 hx).1;have j:RowP w w.heap.size 8 (vS A ns.length c) ns.length (tnR w (fun b=>b<w.heap.size) ns):=by
  obtain⟨u,hu,_,h⟩:=hT;injection hu with hu _;rw[hu];exact h
 obtain⟨bn,on,M,Ak,ck,Af,cf,hu,d,B,r,D,d0,d1,d2,d3,d4,d5,d6,d7⟩:=TyB.at8 j hx;injection hu with hA hmm hcc;clear hmm;subst hA hcc;have N:=xI (aN B (aN r D));clear j B r D;have HM:=xI (zBp hw hx (.mk kd it tx kids keys ents labs));have g:=xI (aN hw hx);generalize memB ns (.mk kd it tx kids keys ents labs) k=res at *;obtain⟨W,hW⟩:∃ W,W=(((w.alloc (oV kd it ⟨tx.toArray⟩ Av kids.length cv Ay keys.length cy Ae ents.length ce Ab labs.length cb)).alloc (oE (some (aD bn on)) ns.length c root)).alloc (oX K lo hi ⟨tn.toArray⟩ Ak ks.length ck Af fds.length cf r0 r1)):=⟨_,rfl⟩;have t:bW w W:=by rw[hW];exact ((yR.alloc lR _).alloc (by simp) _).alloc (by simp;omega) _
 have a:bW w ((w.alloc (oV kd it ⟨tx.toArray⟩ Av kids.length cv Ay keys.length cy Ae ents.length ce Ab labs.length cb)).alloc (oE (some (aD bn on)) ns.length c root)):=(yR.alloc lR _).alloc (by simp) _;have kv:W.heap[w.heap.size]?=some (oV kd it ⟨tx.toArray⟩ Av kids.length cv Ay keys.length cy Ae ents.length ce Ab labs.length cb):=by rw[hW,Below.heap_alloc _ _ _ (by simp;omega),Below.heap_alloc _ _ _ (by simp)];exact heap_alloc_new w _
 have kt:W.heap[w.heap.size+1]?=some (oE (some (aD bn on)) ns.length c root):=by rw[hW,Below.heap_alloc _ _ _ (by simp)];exact zAg _ (by simp)
 have kn:W.heap[w.heap.size+1+1]?=some (oX K lo hi ⟨tn.toArray⟩ Ak ks.length ck Af fds.length cf r0 r1):=by rw[hW];exact zAg _ (by simp)
 have I:W.heap.size=w.heap.size+3:=by rw[hW];simp
 have HT:Hid (∀ wq,bW W wq->TyAt wq ns root (some (aD bn on)) c/\bW w wq/\(jV wq w.heap.size kd it ⟨tx.toArray⟩ Av kids.length cv Ay keys.length cy Ae ents.length ce Ab labs.length cb)/\(jT wq (w.heap.size+1) (some (aD bn on)) ns.length c root)/\(jN wq (w.heap.size+1+1) K lo hi ⟨tn.toArray⟩ Ak ks.length ck Af fds.length cf r0 r1)):=xI fun U hU=>by
  have hb:=t.trans (hU.mono (by omega));exact⟨hT.on hb,hb,zAc ((hU.block _ (by omega)).trans kv),zAf ((hU.block _ (by omega)).trans kt),zAe ((hU.block _ (by omega)).trans kn)⟩
 replace d0:=(a.cell (p:=(aD bn (on+k*8))) d).trans d0;replace d1:=(a.cell (p:=(aD bn (on+k*8+1))) d).trans d1;replace d2:=(a.cell (p:=(aD bn (on+k*8+2))) d).trans d2;replace d3:=(a.cell (p:=(aD bn (on+k*8+3))) d).trans d3;replace d4:=(a.cell (p:=(aD bn (on+k*8+4))) d).trans d4;replace d5:=(a.cell (p:=(aD bn (on+k*8+5))) d).trans d5;replace d6:=(a.cell (p:=(aD bn (on+k*8+6))) d).trans d6;replace d7:=(a.cell (p:=(aD bn (on+k*8+7))) d).trans d7;have hE:=(HT.out W yR).2.2;have u1:(0:Int)<=(k:Int):=by omega
 have u2:(k:Int)<(ns.length:Int):=by omega
 have HV:=xI hv;clear a t kv kt kn I hx hw J hT hv;rw[hW]at hE;obtain⟨⟨v0,v1,v2,v3,v4,v5,v6⟩,⟨t0,t1⟩,⟨n0,n1,n2,n3,n4,n5,n6,n7⟩⟩:=hE;have s:=g.out.1.edg _ (List.mem_of_getElem? g.out.2);have z:=g.out.1.node _ (List.mem_of_getElem? g.out.2);have f:zAj labs=true/\kindB kd it tx kids keys ents=true/\okVs kids=true/\okEs ents=true:=by
  have h:=hok;unfold okV at h;simp only[Bool.and_eq_true]at h;exact⟨h.1.1.1.1,h.1.1.2,h.1.2,h.2⟩
 have t:=(HT.out W yR).2.1;have F:=HV.out.later t;have O:Hid (∀ y∈ks,fu ns (.mk kd it tx kids keys ents labs) y.toNat<fu ns (.mk kd it tx kids keys ents labs) k):=xI fun y hy=>by
  have:=zH6 (i:=y) g.out.1.ctr g.out.2 (by simp[conn,hK]) hy;unfold fu;omega
 have H:Hid (∀ y∈ks,0<=y/\y<ns.length):=xI fun y hy=>s y (zBy hy);have G:=xI (aN F hok);have m:ks.length=1:=by
  simp only[tnB,Bool.and_eq_true]at z;have:=z.2;unfold formB at this;simpa [hK] using this
 have v:=List.getElem?_eq_getElem (l:=ks) (i:=0) (by omega);have o:=List.getElem_mem (l:=ks) (n:=0) (by omega);generalize ks[0]=kj at v o;obtain⟨bk,ok,L,E,f0,_⟩:=zC3 N.out.2.1 v;obtain⟨kn,rfl⟩:∃ kn:Nat,kj=(kn:Int):=⟨kj.toNat,by have:=(H.out kj o).1;omega⟩;subst hK L;have C:Hid (memS (memB ns) ⟨18,lo,hi,tn,ks,fds,r0,r1⟩ (.mk kd it tx kids keys ents labs)=(!memB ns (.mk kd it tx kids keys ents labs) kn)):=xI (by show (!memB ns _ ((ks[0]?).getD 0).toNat)=_;rw[v];rfl);rw[C.out]at HM;have u3:(0:Int)<(ks.length:Int):=by omega
 have u4:0<ks.length:=by omega
 have HQ:Hid (∀ wq,bW W wq->((jV wq w.heap.size kd it ⟨tx.toArray⟩ Av kids.length cv Ay keys.length cy Ae ents.length ce Ab labs.length cb)/\(jT wq (w.heap.size+1) (some (aD bn on)) ns.length c root)/\wq.cell? (aF w 4)=some (vS (some (aD bk ok)) ks.length ck)/\wq.cell? (aD bk ok)=some (vI i6 kn))):=xI fun wq h=>by
  obtain⟨_,hb,q0,q1,q2⟩:=HT.out wq h;exact⟨q0,q1,q2.2.2.2.2.1,(hb.cell (p:=(aD bk _)) E).trans f0⟩
 have hd:bW W W.drew:=yR.drew;have hc:Calls tP 83 #[.agg #[vI i6 kd,vI i6 it,vT ⟨tx.toArray⟩,vS Av kids.length cv,vS Ay keys.length cy,vS Ae ents.length ce,vS Ab labs.length cb],.agg #[vS (some (aD bn on)) ns.length c,vI i6 root],vI i6 (kn:Int)] W.drew fun e w'=>e=.returned (.bool (memB ns (.mk kd it tx kids keys ents labs) kn))/\Below W.drew.heap.size W.drew w':=by
  have h:=hI.out (.mk kd it tx kids keys ents labs) (kn:Int).toNat (by have:=H.out _ o;omega) (O.out (kn:Int) o) (q+1) _ W.drew (G.out.1.later hd) G.out.2 (HT.out _ hd).1;rw[Int.toNat_natCast]at h;exact h
 clear v m o E f0 s z f hok C t F;go_enter Tryz.func83,Tryz.ntmps83;go_wp2_with fail;rw[<-hW];clear hW v0 v1 v2 v3 v4 v5 v6 t0 t1 n0 n1 n2 n3 n4 n5 n6 n7 d0 d1 d2 d3 d4 d5 d6 d7;refine wR HQ (by kernel_rfl) (HQ.out _ hd) (fun _=>?_);refine oT 0 (HQ.out _ hd) ?_
 (iterate 5 refine oY (HQ.out _ hd) ?_)
 refine oO 6 fun K hK=>?_;go_simp;refine (hc).mono ?_;rintro e w2 ⟨rfl,a⟩;have x:=hd.trans (a.mono hd.size);clear hc;refine hK _ _ (HQ.out _ x) (oP ?_);clear hK K;refine oT 7 (HQ.out _ x) ?_;refine oT 8 (HQ.out _ x) ?_;refine (wD ?_) _;go_wp2;go_ret;exact⟨by rw[HM.out];first|rfl|simp,(HT.out _ x).2.1⟩
theorem zO6 (ns:List Tn) (root:Int) (A:Option Addr) (c:Nat) (hw:Wf ns) (k:Nat) (K lo hi:Int) (tn:List UInt8) (ks:List Int) (fds:List Fd) (r0 r1:Int) (hx:ns[k]?=some ⟨K,lo,hi,tn,ks,fds,r0,r1⟩) (hK:K=17)
  (q:Nat) (kd it:Int) (tx:List UInt8) (kids:List Vl) (keys:List (Int×List UInt8)) (ents:List En) (labs:List (List UInt8)) (Av Ay Ae Ab:Option Addr) (cv cy ce cb:Nat) (w:World) (hT:TyAt w ns root A c) (hv:VS (q+1) w w.heap.size (.mk kd it tx kids keys ents labs) [vI i6 kd,vI i6 it,vT ⟨tx.toArray⟩,vS Av kids.length cv,vS Ay keys.length cy,vS Ae ents.length ce,vS Ab labs.length cb]) (hok:okV (.mk kd it tx kids keys ents labs)=true) (hI:Hid (∀ v' k',k'<ns.length->fu ns v' k'<fu ns (.mk kd it tx kids keys ents labs) k->MemC ns root A c v' k')) :
  Calls tP 83 #[.agg #[vI i6 kd,vI i6 it,vT ⟨tx.toArray⟩,vS Av kids.length cv,vS Ay keys.length cy,vS Ae ents.length ce,vS Ab labs.length cb],.agg #[vS A ns.length c,vI i6 root],vI i6 k] w fun e w'=>e=.returned (.bool (memB ns (.mk kd it tx kids keys ents labs) k))/\bW w w':=by
 have t:=(List.getElem?_eq_some_iff.1 hx).1;have l:RowP w w.heap.size 8 (vS A ns.length c) ns.length (tnR w (fun b=>b<w.heap.size) ns):=by
  obtain⟨u,hu,_,h⟩:=hT;injection hu with hu _;rw[hu];exact h
 obtain⟨bn,on,P,Ak,ck,Af,cf,hu,d,C,m,E,d0,d1,d2,d3,d4,d5,d6,d7⟩:=TyB.at8 l hx;injection hu with hA hmm hcc;clear hmm;subst hA hcc;have J:=xI (aN C (aN m E));clear l C m E;have HM:=xI (zBp hw hx (.mk kd it tx kids keys ents labs));have j:=xI (aN hw hx);generalize memB ns (.mk kd it tx kids keys ents labs) k=res at *;obtain⟨W,hW⟩:∃ W,W=(((w.alloc (oV kd it ⟨tx.toArray⟩ Av kids.length cv Ay keys.length cy Ae ents.length ce Ab labs.length cb)).alloc (oE (some (aD bn on)) ns.length c root)).alloc (oX K lo hi ⟨tn.toArray⟩ Ak ks.length ck Af fds.length cf r0 r1)):=⟨_,rfl⟩;have o:bW w W:=by rw[hW];exact ((yR.alloc lR _).alloc (by simp) _).alloc (by simp;omega) _
 have a:bW w ((w.alloc (oV kd it ⟨tx.toArray⟩ Av kids.length cv Ay keys.length cy Ae ents.length ce Ab labs.length cb)).alloc (oE (some (aD bn on)) ns.length c root)):=(yR.alloc lR _).alloc (by simp) _;have kv:W.heap[w.heap.size]?=some (oV kd it ⟨tx.toArray⟩ Av kids.length cv Ay keys.length cy Ae ents.length ce Ab labs.length cb):=by rw[hW,Below.heap_alloc _ _ _ (by simp;omega),Below.heap_alloc _ _ _ (by simp)];exact heap_alloc_new w _
 have kt:W.heap[w.heap.size+1]?=some (oE (some (aD bn on)) ns.length c root):=by rw[hW,Below.heap_alloc _ _ _ (by simp)];exact zAg _ (by simp)
 have kn:W.heap[w.heap.size+1+1]?=some (oX K lo hi ⟨tn.toArray⟩ Ak ks.length ck Af fds.length cf r0 r1):=by rw[hW];exact zAg _ (by simp)
 have N:W.heap.size=w.heap.size+3:=by rw[hW];simp
 have HT:Hid (∀ wq,bW W wq->TyAt wq ns root (some (aD bn on)) c/\bW w wq/\(jV wq w.heap.size kd it ⟨tx.toArray⟩ Av kids.length cv Ay keys.length cy Ae ents.length ce Ab labs.length cb)/\(jT wq (w.heap.size+1) (some (aD bn on)) ns.length c root)/\(jN wq (w.heap.size+1+1) K lo hi ⟨tn.toArray⟩ Ak ks.length ck Af fds.length cf r0 r1)):=xI fun U hU=>by
  have hb:=o.trans (hU.mono (by omega));exact⟨hT.on hb,hb,zAc ((hU.block _ (by omega)).trans kv),zAf ((hU.block _ (by omega)).trans kt),zAe ((hU.block _ (by omega)).trans kn)⟩
 replace d0:=(a.cell (p:=(aD bn (on+k*8))) d).trans d0;replace d1:=(a.cell (p:=(aD bn (on+k*8+1))) d).trans d1;replace d2:=(a.cell (p:=(aD bn (on+k*8+2))) d).trans d2;replace d3:=(a.cell (p:=(aD bn (on+k*8+3))) d).trans d3;replace d4:=(a.cell (p:=(aD bn (on+k*8+4))) d).trans d4;replace d5:=(a.cell (p:=(aD bn (on+k*8+5))) d).trans d5;replace d6:=(a.cell (p:=(aD bn (on+k*8+6))) d).trans d6;replace d7:=(a.cell (p:=(aD bn (on+k*8+7))) d).trans d7;have hE:=(HT.out W yR).2.2;have u1:(0:Int)<=(k:Int):=by omega
 have u2:(k:Int)<(ns.length:Int):=by omega
 have HV:=xI hv;clear a o kv kt kn N hx hw t hT hv;rw[hW]at hE;obtain⟨⟨v0,v1,v2,v3,v4,v5,v6⟩,⟨t0,t1⟩,⟨n0,n1,n2,n3,n4,n5,n6,n7⟩⟩:=hE;have n:=j.out.1.edg _ (List.mem_of_getElem? j.out.2);have O:=j.out.1.node _ (List.mem_of_getElem? j.out.2);have f:zAj labs=true/\kindB kd it tx kids keys ents=true/\okVs kids=true/\okEs ents=true:=by
  have h:=hok;unfold okV at h;simp only[Bool.and_eq_true]at h;exact⟨h.1.1.1.1,h.1.1.2,h.1.2,h.2⟩
 have o:=(HT.out W yR).2.1;have H:=HV.out.later o;have R:Hid (∀ y∈ks,fu ns (.mk kd it tx kids keys ents labs) y.toNat<fu ns (.mk kd it tx kids keys ents labs) k):=xI fun y hy=>by
  have:=zH6 (i:=y) j.out.1.ctr j.out.2 (by simp[conn,hK]) hy;unfold fu;omega
 have M:Hid (∀ y∈ks,0<=y/\y<ns.length):=xI fun y hy=>n y (zBy hy);have I:=xI (aN H hok);subst hK;have D:Hid (memS (memB ns) ⟨17,lo,hi,tn,ks,fds,r0,r1⟩ (.mk kd it tx kids keys ents labs)=ks.all (fun y=>memB ns (.mk kd it tx kids keys ents labs) y.toNat)):=xI rfl;rw[D.out]at HM;have t:ks.length<=maxLen:=by obtain⟨_,_,_,h,_⟩:=J.out.2.1;exact h.1
 have Q:=xI t;clear t n O f hok D o H;go_enter Tryz.func83,Tryz.ntmps83;go_wp2_with fail;rw[<-hW];clear hW v0 v1 v2 v3 v4 v5 v6 t0 t1 n0 n1 n2 n3 n4 n5 n6 n7 d0 d1 d2 d3 d4 d5 d6 d7
 go_loopw [9] (fun iv wr=>∃ i:Nat,iv=vI i6 i/\i<=ks.length/\(ks.take i).all (fun y=>memB ns (.mk kd it tx kids keys ents labs) y.toNat)=true/\bW W wr) (fun i _=>((ks.length:Int)-intOf i).toNat)
 case atStart=>exact⟨0,rfl,by omega,by simp,Below.refl _ _⟩
 case round=>
  obtain⟨i,rfl,T,r,F⟩:=hrel;have s:=xI r;have B:=xI F;clear r F;have g4:=(HT.out wr B.out).2.2.2.2.2.2.2.2.1;by_cases him:i<ks.length
  ·have mp:(i:Int)<(ks.length:Int):=by omega
   have m0:(0:Int)<=(i:Int):=by omega
   have S:IntKind.i64.wrap ((i:Int)+1)=(i:Int)+1:=IntWalk.i64_in _ (by have:=Q.out;unfold maxLen at this;omega);have v:=List.getElem?_eq_getElem him;have g:=List.getElem_mem him;generalize ks[i]=kj at v g;obtain⟨bk,ok,rfl,G,f0,_⟩:=zC3 J.out.2.1 v;obtain⟨kn,rfl⟩:∃ kn:Nat,kj=(kn:Int):=⟨kj.toNat,by have:=(M.out kj g).1;omega⟩;have hd:bW W wr.drew:=B.out.drew;have HQ:Hid (∀ wq,bW W wq->((jV wq w.heap.size kd it ⟨tx.toArray⟩ Av kids.length cv Ay keys.length cy Ae ents.length ce Ab labs.length cb)/\(jT wq (w.heap.size+1) (some (aD bn on)) ns.length c root)/\wq.cell? (aF w 4)=some (vS (some (aD bk ok)) ks.length ck)/\wq.cell? (aD bk (ok+i))=some (vI i6 kn))):=xI fun wq h=>by
    obtain⟨_,hb,q0,q1,q2⟩:=HT.out wq h;exact⟨q0,q1,q2.2.2.2.2.1,(hb.cell (p:=(aD bk _)) G).trans f0⟩
   have hc:Calls tP 83 #[.agg #[vI i6 kd,vI i6 it,vT ⟨tx.toArray⟩,vS Av kids.length cv,vS Ay keys.length cy,vS Ae ents.length ce,vS Ab labs.length cb],.agg #[vS (some (aD bn on)) ns.length c,vI i6 root],vI i6 (kn:Int)] wr.drew fun e w'=>e=.returned (.bool (memB ns (.mk kd it tx kids keys ents labs) kn))/\Below wr.drew.heap.size wr.drew w':=by
    have h:=hI.out (.mk kd it tx kids keys ents labs) (kn:Int).toNat (by have:=M.out _ g;omega) (R.out (kn:Int) g) (q+1) _ wr.drew (I.out.1.later hd) I.out.2 (HT.out _ hd).1;rw[Int.toNat_natCast]at h;exact h
   have L:=xI (aN v g);clear v g f0 G;go_wp2_with fail;refine wR HQ (by kernel_rfl) (HQ.out _ hd) (fun _=>?_);refine oT 0 (HQ.out _ hd) ?_
   (iterate 6 refine oY (HQ.out _ hd) ?_)
   refine oO 7 fun K hK=>?_;go_simp;refine (hc).mono ?_;rintro e w2 ⟨rfl,a⟩;have x:=hd.trans (a.mono hd.size);clear hc;refine hK _ _ (HQ.out _ x) (oP ?_);clear hK K;refine oT 8 (HQ.out _ x) ?_;refine (wD ?_) _;cases hmx:memB ns (.mk kd it tx kids keys ents labs) kn with
   | false=>
    have z:=xI hmx;clear hmx;go_wp2;go_ret;refine⟨?_,(HT.out _ x).2.1⟩;rw[HM.out,(List.all_eq_false.2 ⟨_,L.out.2,by simp[z.out]⟩:ks.all (fun y=>memB ns (.mk kd it tx kids keys ents labs) y.toNat)=false)]
    first|rfl|simp
   | true=>
    have z:=xI hmx;clear hmx;go_wp2_with fail
    go_roundw
    case rel=>exact⟨i+1,by go_num,by omega,by rw[zAv L.out.1,s.out];simp[z.out],x⟩
    case measure=>simp[intOf];try omega
  ·have mp:¬ (i:Int)<(ks.length:Int):=by omega
   go_wp2;go_ret;refine⟨?_,(HT.out _ B.out).2.1⟩;have h:=s.out;rw[List.take_of_length_le (by omega)]at h;rw[HM.out,h]
   first|rfl|simp
theorem zDq {α:Type}{l:List α}{p:α->Bool}{k:Nat}{x:α}(h:l[k]?=some x):(l.take (k+1)).any p=((l.take k).any p||p x):=by
 rw[List.take_add_one,h,List.any_append];simp
theorem zO2 (ns:List Tn) (root:Int) (A:Option Addr) (c:Nat) (hw:Wf ns) (k:Nat) (K lo hi:Int) (tn:List UInt8) (ks:List Int) (fds:List Fd) (r0 r1:Int) (hx:ns[k]?=some ⟨K,lo,hi,tn,ks,fds,r0,r1⟩) (hK:K=16)
  (q:Nat) (kd it:Int) (tx:List UInt8) (kids:List Vl) (keys:List (Int×List UInt8)) (ents:List En) (labs:List (List UInt8)) (Av Ay Ae Ab:Option Addr) (cv cy ce cb:Nat) (w:World) (hT:TyAt w ns root A c) (hv:VS (q+1) w w.heap.size (.mk kd it tx kids keys ents labs) [vI i6 kd,vI i6 it,vT ⟨tx.toArray⟩,vS Av kids.length cv,vS Ay keys.length cy,vS Ae ents.length ce,vS Ab labs.length cb]) (hok:okV (.mk kd it tx kids keys ents labs)=true) (hI:Hid (∀ v' k',k'<ns.length->fu ns v' k'<fu ns (.mk kd it tx kids keys ents labs) k->MemC ns root A c v' k')) :
  Calls tP 83 #[.agg #[vI i6 kd,vI i6 it,vT ⟨tx.toArray⟩,vS Av kids.length cv,vS Ay keys.length cy,vS Ae ents.length ce,vS Ab labs.length cb],.agg #[vS A ns.length c,vI i6 root],vI i6 k] w fun e w'=>e=.returned (.bool (memB ns (.mk kd it tx kids keys ents labs) k))/\bW w w':=by
 have t:=(List.getElem?_eq_some_iff.1 hx).1;have l:RowP w w.heap.size 8 (vS A ns.length c) ns.length (tnR w (fun b=>b<w.heap.size) ns):=by
  obtain⟨u,hu,_,h⟩:=hT;injection hu with hu _;rw[hu];exact h
 obtain⟨bn,on,P,Ak,ck,Af,cf,hu,d,C,m,E,d0,d1,d2,d3,d4,d5,d6,d7⟩:=TyB.at8 l hx;injection hu with hA hmm hcc;clear hmm;subst hA hcc;have J:=xI (aN C (aN m E));clear l C m E;have HM:=xI (zBp hw hx (.mk kd it tx kids keys ents labs));have j:=xI (aN hw hx);generalize memB ns (.mk kd it tx kids keys ents labs) k=res at *;obtain⟨W,hW⟩:∃ W,W=(((w.alloc (oV kd it ⟨tx.toArray⟩ Av kids.length cv Ay keys.length cy Ae ents.length ce Ab labs.length cb)).alloc (oE (some (aD bn on)) ns.length c root)).alloc (oX K lo hi ⟨tn.toArray⟩ Ak ks.length ck Af fds.length cf r0 r1)):=⟨_,rfl⟩;have o:bW w W:=by rw[hW];exact ((yR.alloc lR _).alloc (by simp) _).alloc (by simp;omega) _
 have a:bW w ((w.alloc (oV kd it ⟨tx.toArray⟩ Av kids.length cv Ay keys.length cy Ae ents.length ce Ab labs.length cb)).alloc (oE (some (aD bn on)) ns.length c root)):=(yR.alloc lR _).alloc (by simp) _;have kv:W.heap[w.heap.size]?=some (oV kd it ⟨tx.toArray⟩ Av kids.length cv Ay keys.length cy Ae ents.length ce Ab labs.length cb):=by rw[hW,Below.heap_alloc _ _ _ (by simp;omega),Below.heap_alloc _ _ _ (by simp)];exact heap_alloc_new w _
 have kt:W.heap[w.heap.size+1]?=some (oE (some (aD bn on)) ns.length c root):=by rw[hW,Below.heap_alloc _ _ _ (by simp)];exact zAg _ (by simp)
 have kn:W.heap[w.heap.size+1+1]?=some (oX K lo hi ⟨tn.toArray⟩ Ak ks.length ck Af fds.length cf r0 r1):=by rw[hW];exact zAg _ (by simp)
 have N:W.heap.size=w.heap.size+3:=by rw[hW];simp
 have HT:Hid (∀ wq,bW W wq->TyAt wq ns root (some (aD bn on)) c/\bW w wq/\(jV wq w.heap.size kd it ⟨tx.toArray⟩ Av kids.length cv Ay keys.length cy Ae ents.length ce Ab labs.length cb)/\(jT wq (w.heap.size+1) (some (aD bn on)) ns.length c root)/\(jN wq (w.heap.size+1+1) K lo hi ⟨tn.toArray⟩ Ak ks.length ck Af fds.length cf r0 r1)):=xI fun U hU=>by
  have hb:=o.trans (hU.mono (by omega));exact⟨hT.on hb,hb,zAc ((hU.block _ (by omega)).trans kv),zAf ((hU.block _ (by omega)).trans kt),zAe ((hU.block _ (by omega)).trans kn)⟩
 replace d0:=(a.cell (p:=(aD bn (on+k*8))) d).trans d0;replace d1:=(a.cell (p:=(aD bn (on+k*8+1))) d).trans d1;replace d2:=(a.cell (p:=(aD bn (on+k*8+2))) d).trans d2;replace d3:=(a.cell (p:=(aD bn (on+k*8+3))) d).trans d3;replace d4:=(a.cell (p:=(aD bn (on+k*8+4))) d).trans d4;replace d5:=(a.cell (p:=(aD bn (on+k*8+5))) d).trans d5;replace d6:=(a.cell (p:=(aD bn (on+k*8+6))) d).trans d6;replace d7:=(a.cell (p:=(aD bn (on+k*8+7))) d).trans d7;have hE:=(HT.out W yR).2.2;have u1:(0:Int)<=(k:Int):=by omega
 have u2:(k:Int)<(ns.length:Int):=by omega
 have HV:=xI hv;clear a o kv kt kn N hx hw t hT hv;rw[hW]at hE;obtain⟨⟨v0,v1,v2,v3,v4,v5,v6⟩,⟨t0,t1⟩,⟨n0,n1,n2,n3,n4,n5,n6,n7⟩⟩:=hE;have n:=j.out.1.edg _ (List.mem_of_getElem? j.out.2);have O:=j.out.1.node _ (List.mem_of_getElem? j.out.2);have f:zAj labs=true/\kindB kd it tx kids keys ents=true/\okVs kids=true/\okEs ents=true:=by
  have h:=hok;unfold okV at h;simp only[Bool.and_eq_true]at h;exact⟨h.1.1.1.1,h.1.1.2,h.1.2,h.2⟩
 have o:=(HT.out W yR).2.1;have H:=HV.out.later o;have R:Hid (∀ y∈ks,fu ns (.mk kd it tx kids keys ents labs) y.toNat<fu ns (.mk kd it tx kids keys ents labs) k):=xI fun y hy=>by
  have:=zH6 (i:=y) j.out.1.ctr j.out.2 (by simp[conn,hK]) hy;unfold fu;omega
 have M:Hid (∀ y∈ks,0<=y/\y<ns.length):=xI fun y hy=>n y (zBy hy);have I:=xI (aN H hok);subst hK;have D:Hid (memS (memB ns) ⟨16,lo,hi,tn,ks,fds,r0,r1⟩ (.mk kd it tx kids keys ents labs)=ks.any (fun y=>memB ns (.mk kd it tx kids keys ents labs) y.toNat)):=xI rfl;rw[D.out]at HM;have t:ks.length<=maxLen:=by obtain⟨_,_,_,h,_⟩:=J.out.2.1;exact h.1
 have Q:=xI t;clear t n O f hok D o H;go_enter Tryz.func83,Tryz.ntmps83;go_wp2_with fail;rw[<-hW];clear hW v0 v1 v2 v3 v4 v5 v6 t0 t1 n0 n1 n2 n3 n4 n5 n6 n7 d0 d1 d2 d3 d4 d5 d6 d7
 go_loopw [8] (fun iv wr=>∃ i:Nat,iv=vI i6 i/\i<=ks.length/\(ks.take i).any (fun y=>memB ns (.mk kd it tx kids keys ents labs) y.toNat)=false/\bW W wr) (fun i _=>((ks.length:Int)-intOf i).toNat)
 case atStart=>exact⟨0,rfl,by omega,by simp,Below.refl _ _⟩
 case round=>
  obtain⟨i,rfl,T,r,F⟩:=hrel;have s:=xI r;have B:=xI F;clear r F;have g4:=(HT.out wr B.out).2.2.2.2.2.2.2.2.1;by_cases him:i<ks.length
  ·have mp:(i:Int)<(ks.length:Int):=by omega
   have m0:(0:Int)<=(i:Int):=by omega
   have S:IntKind.i64.wrap ((i:Int)+1)=(i:Int)+1:=IntWalk.i64_in _ (by have:=Q.out;unfold maxLen at this;omega);have v:=List.getElem?_eq_getElem him;have g:=List.getElem_mem him;generalize ks[i]=kj at v g;obtain⟨bk,ok,rfl,G,f0,_⟩:=zC3 J.out.2.1 v;obtain⟨kn,rfl⟩:∃ kn:Nat,kj=(kn:Int):=⟨kj.toNat,by have:=(M.out kj g).1;omega⟩;have hd:bW W wr.drew:=B.out.drew;have HQ:Hid (∀ wq,bW W wq->((jV wq w.heap.size kd it ⟨tx.toArray⟩ Av kids.length cv Ay keys.length cy Ae ents.length ce Ab labs.length cb)/\(jT wq (w.heap.size+1) (some (aD bn on)) ns.length c root)/\wq.cell? (aF w 4)=some (vS (some (aD bk ok)) ks.length ck)/\wq.cell? (aD bk (ok+i))=some (vI i6 kn))):=xI fun wq h=>by
    obtain⟨_,hb,q0,q1,q2⟩:=HT.out wq h;exact⟨q0,q1,q2.2.2.2.2.1,(hb.cell (p:=(aD bk _)) G).trans f0⟩
   have hc:Calls tP 83 #[.agg #[vI i6 kd,vI i6 it,vT ⟨tx.toArray⟩,vS Av kids.length cv,vS Ay keys.length cy,vS Ae ents.length ce,vS Ab labs.length cb],.agg #[vS (some (aD bn on)) ns.length c,vI i6 root],vI i6 (kn:Int)] wr.drew fun e w'=>e=.returned (.bool (memB ns (.mk kd it tx kids keys ents labs) kn))/\Below wr.drew.heap.size wr.drew w':=by
    have h:=hI.out (.mk kd it tx kids keys ents labs) (kn:Int).toNat (by have:=M.out _ g;omega) (R.out (kn:Int) g) (q+1) _ wr.drew (I.out.1.later hd) I.out.2 (HT.out _ hd).1;rw[Int.toNat_natCast]at h;exact h
   have L:=xI (aN v g);clear v g f0 G;go_wp2_with fail;refine wR HQ (by kernel_rfl) (HQ.out _ hd) (fun _=>?_);refine oT 0 (HQ.out _ hd) ?_
   (iterate 6 refine oY (HQ.out _ hd) ?_)
   refine oO 7 fun K hK=>?_;go_simp;refine (hc).mono ?_;rintro e w2 ⟨rfl,a⟩;have x:=hd.trans (a.mono hd.size);clear hc;refine hK _ _ (HQ.out _ x) (oP ?_);clear hK K;refine (wD ?_) _;cases hmx:memB ns (.mk kd it tx kids keys ents labs) kn with
   | true=>
    have z:=xI hmx;clear hmx;go_wp2;go_ret;refine⟨?_,(HT.out _ x).2.1⟩;rw[HM.out,(List.any_eq_true.2 ⟨_,L.out.2,by simpa using z.out⟩:ks.any (fun y=>memB ns (.mk kd it tx kids keys ents labs) y.toNat)=true)]
    first|rfl|simp
   | false=>
    have z:=xI hmx;clear hmx;go_wp2_with fail
    go_roundw
    case rel=>exact⟨i+1,by go_num,by omega,by rw[zDq L.out.1,s.out];simp[z.out],x⟩
    case measure=>simp[intOf];try omega
  ·have mp:¬ (i:Int)<(ks.length:Int):=by omega
   go_wp2;go_ret;refine⟨?_,(HT.out _ B.out).2.1⟩;have h:=s.out;rw[List.take_of_length_le (by omega)]at h;rw[HM.out,h]
   first|rfl|simp
end Go.Proofs.YteedihhdcbepmaaGreat
