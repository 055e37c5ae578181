/- TypeJoin, given that the sanity check holds. -/
import Derived.Test.YteedihhdcbepmaaGreatTk22
import Derived.Test.YteedihhdcbepmaaGreatTk35
set_option maxRecDepth 100000
set_option maxHeartbeats 12800000
open Go.Value renaming slice→vS,int→vI,string→vT
open Go.IntKind renaming i64→i6
open Go.Proofs.Tryz renaming prog→tP
namespace Go.Proofs.YteedihhdcbepmaaGreat
open Go Go.RowKit
def zNn:Prop:=∀ w,Calls tP 10 #[] w fun e w'=>e=.returned (.bool true)/\bW w w'
theorem remU7 (x:Int) (n:Nat) (h0:0<n) (hn:n<=100000):∃ k:Nat,k<n/\Hid (IntKind.i64.wrap (Int.tmod (IntKind.u64.wrap x) (IntKind.u64.wrap (n:Int)))=(k:Int)):=by
 have hu:IntKind.u64.wrap (n:Int)=(n:Int):=by rw[IntKind.wrap_u64];omega
 have hx:∃ y:Nat,IntKind.u64.wrap x=(y:Int):=⟨(IntKind.u64.wrap x).toNat,by rw[IntKind.wrap_u64];omega⟩;obtain⟨y,hy⟩:=hx;rw[hu,hy];have hm:Int.tmod (y:Int) (n:Int)=((y % n:Nat):Int):=by rw[Int.tmod_eq_emod_of_nonneg (by omega)];rfl
 have a:=Nat.mod_lt y h0;rw[hm];generalize y % n=k at *;exact⟨k,a,xI (IntWalk.i64_in _ (by omega))⟩
theorem vb_mk {k:Nat}{w:World}{B:Nat->Prop}{v:Vl}{cs:List Value}(h:VB (k+1) w B v cs):∃ kd it tx ks ys es ls Av cv Ay cy Ae ce Ab cb,v=.mk kd it tx ks ys es ls/\cs=[vI i6 kd,vI i6 it,vT ⟨tx.toArray⟩,vS Av ks.length cv,vS Ay ys.length cy,vS Ae es.length ce,vS Ab ls.length cb]:=by
 obtain⟨kd,it,tx,ks,ys,es,ls⟩:=v;obtain⟨uk,uy,ue,ul,h1,_,_,_,h5,h6,h7,h8⟩:=h;obtain⟨P1,g1,rfl,_⟩:=h5.form;obtain⟨P2,g2,rfl,_⟩:=h6.form;obtain⟨P3,g3,rfl,_⟩:=h7.form;obtain⟨P4,g4,rfl,_⟩:=h8.form;exact⟨_,_,_,_,_,_,_,_,_,_,_,_,_,_,_,rfl,h1⟩
theorem GenT.kid {ns:List Tn}(h:GenT ns):∀ x∈ns,kidOk x:=fun x hx=>by
 obtain⟨i,hi⟩:=List.mem_iff_getElem?.1 hx;have h1:=(h.2 i x hi).nk;have h2:=(h.2 i x hi).nf;exact⟨by omega,by omega⟩
theorem zI9 (hA:Hid zNn) (hN:Hid zDr) (A1 A2 A3:Option Addr) (n1 c1 n2 c2 n3 c3:Nat) (nd:Int) (w:World) (hR1:IntsP w A1 n1 c1) (hn1:n1<=maxLen) (hR2:IntsP w A2 n2 c2) (hn2:n2<=maxLen) (hR3:IntsP w A3 n3 c3) (hn3:n3<=maxLen) :
  Calls tP 7 #[vS A1 n1 c1,vS A2 n2 c2,vS A3 n3 c3,vI i6 nd] w fun e w'=>e=.returned (.bool true)/\bW w w':=by
 have ak:=hA.out w;by_cases h1:(80:Int)<(n1:Int)
 ·clear hR1 hR2 hR3 hn1 hn2 hn3;go_enter Tryz.func7,Tryz.ntmps7;go_wp2_with (go_at_call 10;refine ak.mono ?_;rintro e w5 ⟨rfl,hb5⟩;replace hb5:=xI hb5);go_ret;exact⟨by first|rfl|simp,hb5.out⟩
 by_cases h2:(80:Int)<(n2:Int)
 ·clear hR1 hR2 hR3 hn1 hn2 hn3;go_enter Tryz.func7,Tryz.ntmps7;go_wp2_with (go_at_call 10;refine ak.mono ?_;rintro e w5 ⟨rfl,hb5⟩;replace hb5:=xI hb5);go_ret;exact⟨by first|rfl|simp,hb5.out⟩
 by_cases h3:(80:Int)<(n3:Int)
 ·clear hR1 hR2 hR3 hn1 hn2 hn3;go_enter Tryz.func7,Tryz.ntmps7;go_wp2_with (go_at_call 10;refine ak.mono ?_;rintro e w5 ⟨rfl,hb5⟩;replace hb5:=xI hb5);go_ret;exact⟨by first|rfl|simp,hb5.out⟩
 have aL:=zGu hN A1 n1 c1 A2 n2 c2 w hR1 hn1 hR2 hn2;have HI:=xI (aN hR3 (aN hn3 (aN hR2 hn2)));clear hR1 hR2 hR3 hn1 hn2 hn3 ak;go_enter Tryz.func7,Tryz.ntmps7;go_wp2_with fail;clear h1 h2 h3;refine aL.mono ?_;rintro e w1 ⟨ns,csT,v1,csV,rfl,hG1,hl1,hl7,hT1,hV1,hok1,hlb1,T⟩;clear aL;obtain⟨u,rfl,_,q⟩:=id hT1;obtain⟨As,cs,rfl,_⟩:=q.form;obtain⟨k1,i1,x1,p,k,s,n,N,C,L,A,P,E,R,G,rfl,rfl⟩:=vb_mk hV1;obtain⟨W1,aa⟩:∃ W1,W1=(w1.alloc (oE As ns.length cs 0)).alloc (oV k1 i1 ⟨x1.toArray⟩ N p.length C L k.length A P s.length E R n.length G):=⟨_,rfl⟩;have x:bW w1 W1:=by rw[aa];exact (yR.alloc lR _).alloc (by simp) _
 have kS:W1.heap[w1.heap.size]?=some (oE As ns.length cs 0):=by rw[aa,Below.heap_alloc _ _ _ (by simp)];exact heap_alloc_new w1 _
 have kV:W1.heap[w1.heap.size+1]?=some (oV k1 i1 ⟨x1.toArray⟩ N p.length C L k.length A P s.length E R n.length G):=by rw[aa];exact zAg _ (by simp)
 have af:W1.heap.size=w1.heap.size+2:=by rw[aa];simp
 have g:bW w W1:=T.trans (x.mono T.size);have aP:=(hT1.keep (Same.of_below x fun b hb=>hb.2)).sub fun b hb=>(show b<W1.heap.size by have:=hb.2;omega);have aO:=VB.sub (fun b hb=>(show b<W1.heap.size by have:=hb.2;omega)) lR (VB.keep (Same.of_below x fun b hb=>hb.2) hV1);have aK:=zGu hN A3 n3 c3 A2 n2 c2 W1 ((RowB.on HI.out.1 g fun _ _ h=>h).sub (fun b hb=>by have:=g.size;omega) fun _ _ h=>h) HI.out.2.1 ((RowB.on HI.out.2.2.1 g fun _ _ h=>h).sub (fun b hb=>by have:=g.size;omega) fun _ _ h=>h) HI.out.2.2.2;have H1:=xI (aN hG1 (aN hl1 (aN hl7 (aN aP (aN aO (aN hok1 (aN kS (aN kV (aN g af)))))))));clear hG1 hl1 hl7 hT1 hV1 hok1 hlb1 T q x kS kV g aP aO af;go_wp2_with fail;rw[<-aa];clear aa;refine aK.mono ?_;rintro e w2 ⟨ms,csT,v2,csV,rfl,hG2,hl2,hl27,hT2,hV2,hok2,hlb2,y⟩;clear aK;obtain⟨u,rfl,_,q⟩:=id hT2;obtain⟨At,ct,rfl,_⟩:=q.form;obtain⟨k2,i2,x2,o,j,r,l,M,B,J,z,O,D,Q,F,rfl,rfl⟩:=vb_mk hV2;obtain⟨W2,V⟩:∃ W2,W2=(w2.alloc (oE At ms.length ct 0)).alloc (oV k2 i2 ⟨x2.toArray⟩ M o.length B J j.length z O r.length D Q l.length F):=⟨_,rfl⟩;have t:bW w2 W2:=by rw[V];exact (yR.alloc lR _).alloc (by simp) _
 have kT:W2.heap[w2.heap.size]?=some (oE At ms.length ct 0):=by rw[V,Below.heap_alloc _ _ _ (by simp)];exact heap_alloc_new w2 _
 have kU:W2.heap[w2.heap.size+1]?=some (oV k2 i2 ⟨x2.toArray⟩ M o.length B J j.length z O r.length D Q l.length F):=by rw[V];exact zAg _ (by simp)
 have ae:W2.heap.size=w2.heap.size+2:=by rw[V];simp
 have d:bW W1 W2:=y.trans (t.mono y.size);have ax:=(hT2.keep (Same.of_below t fun b hb=>hb.2)).sub fun b hb=>(show b<W2.heap.size by have:=hb.2;omega);have aM:=VB.sub (fun b hb=>(show b<W2.heap.size by have:=hb.2;omega)) lR (VB.keep (Same.of_below t fun b hb=>hb.2) hV2);have aF:=H1.out.2.2.2.2.2.2.2.2.2;have ar:=(d.block w1.heap.size (by omega)).trans H1.out.2.2.2.2.2.2.1;have aA:=(d.block (w1.heap.size+1) (by omega)).trans H1.out.2.2.2.2.2.2.2.1;have W:=(H1.out.2.2.2.1.on d).up d.size;have aj:=VS.up d.size lR (VS.on d H1.out.2.2.2.2.1);have ah:bW w W2:=H1.out.2.2.2.2.2.2.2.2.1.trans (d.mono H1.out.2.2.2.2.2.2.2.2.1.size);have Z:WfT (ns,0):=WfT.mk H1.out.1.wf (Int.le_refl 0) (by have:=H1.out.2.1;show (0:Int)<(ns.length:Int);omega);have Y:WfT (ms,0):=WfT.mk hG2.wf (Int.le_refl 0) (by show (0:Int)<(ms.length:Int);omega);have aJ:=zPh (H:=W2.heap.size) W2 lR W ax Z Y (by have:=H1.out.2.2.1;omega) (by omega) H1.out.1.kid hG2.kid;obtain⟨s0,s1⟩:=zAf ar;obtain⟨t0,t1⟩:=zAf kT;have aS:WfT (joinN ns ms,0):=WfT.mk (zHj Z.wf Y.wf) (Int.le_refl 0) (by rw[show ((joinN ns ms,(0:Int)).1).length=ns.length+ms.length from zFu ns ms];show (0:Int)<((ns.length+ms.length:Nat):Int);omega);have I:Hid (wfC (joinN ns ms) 0=0/\(joinN ns ms).length=ns.length+ms.length/\(ns.length<=7/\ms.length<=7/\1<=ns.length/\1<=ms.length)/\wfC ns 0=0/\wfC ms 0=0):=xI ⟨aS,zFu ns ms,⟨H1.out.2.2.1,hl27,H1.out.2.1,hl2⟩,Z,Y⟩;have HM:Hid (∀ v i,(i<ns.length->memB (joinN ns ms) v i=memB ns v i)/\(i<ms.length->memB (joinN ns ms) v (ns.length+i)=memB ms v i)):=xI fun v i=>⟨fun hi=>zK4 Z.wf Y.wf hi v,fun hi=>zK3 Z.wf Y.wf hi v⟩;generalize joinN ns ms=jl at *;have H2:=xI (aN ar (aN aA (aN kT (aN kU (aN W (aN ax (aN aj (aN aM (aN ah (aN ae (aN y.size (aN aF (aN H1.out.2.2.2.2.2.1 hok2)))))))))))));clear H1 hG2 hl2 hl27 hT2 hV2 hok2 hlb2 y q t kT kU ae d ax aM ar aA W aj ah Z Y aF HI;rw[V]at s0 s1 t0 t1;go_wp2_with fail;rw[<-V];clear V s0 s1 t0 t1;refine aJ.mono ?_;rintro e w3 ⟨⟨Aj,cj,rfl,hTj⟩,hb3⟩;clear aJ;have h2:=H2.out;have ai:=hb3.size;obtain⟨W3,aw,av,kJ,ad⟩:=aW w3 (oE Aj jl.length cj 0)
 have a:bW W2 W3:=hb3.trans (av.mono hb3.size);have aq:=(a.block w1.heap.size (by omega)).trans h2.1;have az:=(a.block (w1.heap.size+1) (by omega)).trans h2.2.1;have ap:=(a.block w2.heap.size (by omega)).trans h2.2.2.1;have aC:=(a.block (w2.heap.size+1) (by omega)).trans h2.2.2.2.1;have X:TyP W3 W3.heap.size jl 0 [vS Aj jl.length cj,vI i6 0]:=(hTj.keep (Same.of_below av fun b hb=>hb.2)).sub fun b hb=>by have:=hb.2;omega
 have au:=zP3 W3 X (by have:=I.out;omega);rw[I.out.1]at au;have aU:IntKind.i64.wrap ((ns.length:Int)+(ms.length:Int))=(jl.length:Int):=by
  have:=I.out;rw[IntWalk.i64_in _ (by omega)];omega
 have aT:IntKind.i64.wrap (ns.length:Int)=(ns.length:Int):=IntWalk.i64_in _ (by have:=I.out;omega);obtain⟨s0,s1⟩:=zAf aq;obtain⟨t0,t1⟩:=zAf ap;obtain⟨j0,j1⟩:=zAf kJ;rw[aw]at s0 s1 t0 t1 j0 j1;have H3:=xI (aN aq (aN az (aN ap (aN aC (aN kJ (aN (h2.2.2.2.2.1.on a) (aN (h2.2.2.2.2.2.1.on a) (aN (VS.on a h2.2.2.2.2.2.2.1) (aN (VS.on a h2.2.2.2.2.2.2.2.1) (aN X (aN (h2.2.2.2.2.2.2.2.2.1.trans (a.mono h2.2.2.2.2.2.2.2.2.1.size)) (aN a.size (aN ad (aN h2.2.2.2.2.2.2.2.2.2.1 (aN h2.2.2.2.2.2.2.2.2.2.2.1 (aN h2.2.2.2.2.2.2.2.2.2.2.2.1 (aN ai h2.2.2.2.2.2.2.2.2.2.2.2.2)))))))))))))))));clear h2 hTj hb3 av kJ ad a aq az ap aC X ai H2;go_wp2_with fail;rw[<-aw];clear aw s0 s1 t0 t1 j0 j1 aU aT;refine au.mono ?_;rintro e w4 ⟨rfl,hb4⟩;clear au;have h3:=H3.out;have aD:=(hb4.block w1.heap.size (by omega)).trans h3.1;have ay:=(hb4.block (w1.heap.size+1) (by omega)).trans h3.2.1;have ao:=(hb4.block w2.heap.size (by omega)).trans h3.2.2.1;have aB:=(hb4.block (w2.heap.size+1) (by omega)).trans h3.2.2.2.1;have aE:=(hb4.block w3.heap.size (by omega)).trans h3.2.2.2.2.1;obtain⟨t0,t1⟩:=zAf ao;have H4:=xI (aN aD (aN ay (aN ao (aN aB (aN aE (aN hb4 (show w1.heap.size+1<W3.heap.size/\w2.heap.size+1<W3.heap.size/\w3.heap.size<W3.heap.size/\W3.heap.size<=w4.heap.size from⟨by omega,by omega,by omega,hb4.size⟩)))))));clear h3 aD ay ao aB aE hb4;obtain⟨m,hm,aX⟩:=remU7 nd ms.length (by have:=I.out;omega) (by have:=I.out;omega);have aG:wrap64 (Int.tmod (IntKind.u64.wrap nd) (IntKind.u64.wrap (ms.length:Int)))=(m:Int):=(IntWalk.i64_left _).symm.trans aX.out;have aV:¬ IntKind.u64.wrap (ms.length:Int)=0:=by
  have:=I.out;rw[IntKind.wrap_u64];omega
 go_wp2_with fail
 try simp only[aG]
 clear aG aV t0 t1;have aQ:∀ U,bW w4 U->(jT U w1.heap.size As ns.length cs 0)/\(jV U (w1.heap.size+1) k1 i1 ⟨x1.toArray⟩ N p.length C L k.length A P s.length E R n.length G)/\(jT U w2.heap.size At ms.length ct 0)/\(jV U (w2.heap.size+1) k2 i2 ⟨x2.toArray⟩ M o.length B J j.length z O r.length D Q l.length F)/\(jT U w3.heap.size Aj jl.length cj 0):=fun U hU=>by
  have h4:=H4.out;exact⟨zAf ((hU.block _ (by omega)).trans h4.1),zAc ((hU.block _ (by omega)).trans h4.2.1),zAf ((hU.block _ (by omega)).trans h4.2.2.1),zAc ((hU.block _ (by omega)).trans h4.2.2.2.1),zAf ((hU.block _ (by omega)).trans h4.2.2.2.2.1)⟩
 have HQ:=xI aQ;obtain⟨b1,T⟩:∃ b1,b1=memO ns 0 (.mk k1 i1 x1 p k s n) 0:=⟨_,rfl⟩;obtain⟨b2,y⟩:∃ b2,b2=memO ms 0 (.mk k2 i2 x2 o j r l) (m:Int):=⟨_,rfl⟩;have ag:=I.out;have aI:memO jl 0 (.mk k1 i1 x1 p k s n) 0=b1:=by
  rw[T];unfold memO;have h9:=(HM.out (.mk k1 i1 x1 p k s n) 0).1 (by omega);simp only[Int.toNat_zero];rw[h9,ag.1,ag.2.2.2.1];have q1:idxB jl.length 0=true:=by simp[idxB];omega
  have q2:idxB ns.length 0=true:=by simp[idxB];omega
  rw[q1,q2]
 have aH:memO jl 0 (.mk k2 i2 x2 o j r l) ((ns.length+m:Nat):Int)=b2:=by
  rw[y];unfold memO;have h9:=(HM.out (.mk k2 i2 x2 o j r l) m).2 hm;rw[Int.toNat_natCast,Int.toNat_natCast,h9,ag.1,ag.2.2.2.2];have q1:idxB jl.length ((ns.length+m:Nat):Int)=true:=by simp[idxB];omega
  have q2:idxB ms.length (m:Int)=true:=by simp[idxB];omega
  rw[q1,q2]
 have a1:Hid (∀ U,bW w4 U->Calls tP 38 #[.agg #[vI i6 k1,vI i6 i1,vT ⟨x1.toArray⟩,vS N p.length C,vS L k.length A,vS P s.length E,vS R n.length G],.agg #[vS Aj jl.length cj,vI i6 0],vI i6 0] U fun e w'=>e=.returned (.bool b1)/\bW U w'):=xI fun U hU=>by
  have h3:=H3.out;have c:bW W3 U:=H4.out.2.2.2.2.2.1.trans (hU.mono (by have:=H4.out;omega));have h:=zD8 hN jl 0 Aj cj 4 k1 i1 x1 p k s n N L P R C A E G 0 U ((h3.2.2.2.2.2.2.2.2.2.1.on c).up c.size) (VS.up c.size lR (VS.on c (VS.up (H:=W2.heap.size) (by omega) lR h3.2.2.2.2.2.2.2.1))) (by omega)
  rwa [aI]at h
 have a0:Hid (∀ U,bW w4 U->Calls tP 26 #[.agg #[vI i6 k1,vI i6 i1,vT ⟨x1.toArray⟩,vS N p.length C,vS L k.length A,vS P s.length E,vS R n.length G],.agg #[vS As ns.length cs,vI i6 0]] U fun e w'=>e=.returned (.bool b1)/\bW U w'):=xI fun U hU=>by
  have h3:=H3.out;have c:bW W3 U:=H4.out.2.2.2.2.2.1.trans (hU.mono (by have:=H4.out;omega));have h:=zEo hN ns 0 As cs 4 k1 i1 x1 p k s n N L P R C A E G U (((h3.2.2.2.2.2.1.up (H':=W3.heap.size) (by omega)).on c).up c.size) (VS.up c.size lR (VS.on c (VS.up (H:=W2.heap.size) (by omega) lR h3.2.2.2.2.2.2.2.1))) (by omega)
  rwa [<-T]at h
 have aZ:Hid (∀ U,bW w4 U->Calls tP 38 #[.agg #[vI i6 k2,vI i6 i2,vT ⟨x2.toArray⟩,vS M o.length B,vS J j.length z,vS O r.length D,vS Q l.length F],.agg #[vS Aj jl.length cj,vI i6 0],vI i6 ((ns.length+m:Nat):Int)] U fun e w'=>e=.returned (.bool b2)/\bW U w'):=xI fun U hU=>by
  have h3:=H3.out;have c:bW W3 U:=H4.out.2.2.2.2.2.1.trans (hU.mono (by have:=H4.out;omega));have h:=zD8 hN jl 0 Aj cj 4 k2 i2 x2 o j r l M J O Q B z D F ((ns.length+m:Nat):Int) U ((h3.2.2.2.2.2.2.2.2.2.1.on c).up c.size) (VS.up c.size lR (VS.on c (VS.up (H:=W2.heap.size) (by omega) lR h3.2.2.2.2.2.2.2.2.1))) (by omega)
  rwa [aH]at h
 have aY:Hid (∀ U,bW w4 U->Calls tP 38 #[.agg #[vI i6 k2,vI i6 i2,vT ⟨x2.toArray⟩,vS M o.length B,vS J j.length z,vS O r.length D,vS Q l.length F],.agg #[vS At ms.length ct,vI i6 0],vI i6 (m:Int)] U fun e w'=>e=.returned (.bool b2)/\bW U w'):=xI fun U hU=>by
  have h3:=H3.out;have c:bW W3 U:=H4.out.2.2.2.2.2.1.trans (hU.mono (by have:=H4.out;omega));have h:=zD8 hN ms 0 At ct 4 k2 i2 x2 o j r l M J O Q B z D F (m:Int) U (((h3.2.2.2.2.2.2.1.up (H':=W3.heap.size) (by omega)).on c).up c.size) (VS.up c.size lR (VS.on c (VS.up (H:=W2.heap.size) (by omega) lR h3.2.2.2.2.2.2.2.2.1))) (by omega)
  rwa [<-y]at h
 have a2:IntKind.i64.wrap ((ns.length:Int)+(m:Int))=((ns.length+m:Nat):Int):=by rw[IntWalk.i64_in _ (by omega)];omega
 have hd:bW w4 w4.drew:=yR.drew;have aR:Hid (bW w w4):=xI (H3.out.2.2.2.2.2.2.2.2.2.2.1.trans (H4.out.2.2.2.2.2.1.mono H3.out.2.2.2.2.2.2.2.2.2.2.1.size));clear aI aH T y ag aQ H3 HM;refine wp_region_held_drew (S:=fun wq=>(jT wq w1.heap.size As ns.length cs 0)/\(jV wq (w1.heap.size+1) k1 i1 ⟨x1.toArray⟩ N p.length C L k.length A P s.length E R n.length G)/\(jT wq w2.heap.size At ms.length ct 0)/\(jV wq (w2.heap.size+1) k2 i2 ⟨x2.toArray⟩ M o.length B J j.length z O r.length D Q l.length F)/\(jT wq w3.heap.size Aj jl.length cj 0)) (by kernel_rfl) (HQ.out _ hd) (fun _=>?_);refine oT 0 (HQ.out _ hd) ?_ (hy:=oC);refine oT 1 (HQ.out _ hd) ?_ (hy:=oC);refine oT 2 (HQ.out _ hd) ?_ (hy:=oC);refine oT 3 (HQ.out _ hd) ?_ (hy:=oC);refine oT 5 (HQ.out _ hd) ?_ (hy:=oC);refine oT 6 (HQ.out _ hd) ?_ (hy:=oC);refine oO 4 fun K hK=>?_;go_simp;refine (a1.out _ hd).mono ?_;rintro e w5 ⟨rfl,hb5⟩;have an:=hd.trans (hb5.mono hd.size);refine hK _ _ (HQ.out _ an) (oP ?_);clear hK K;refine oO 7 fun K hK=>?_;go_simp;refine (a0.out _ an).mono ?_;rintro e w6 ⟨rfl,hb6⟩;have f:=an.trans (hb6.mono an.size);refine hK _ _ (HQ.out _ f) (oP ?_);clear hK K;refine oT 8 (HQ.out _ f) ?_ (hy:=oC);refine oT 9 (HQ.out _ f) ?_ (hy:=oC);refine oT 10 (HQ.out _ f) ?_ (hy:=oC);refine oT 11 (HQ.out _ f) ?_ (hy:=oC);refine oT 12 (HQ.out _ f) ?_ (hy:=oC);refine oT 13 (HQ.out _ f) ?_ (hy:=oC);refine oT 14 (HQ.out _ f) ?_ (hy:=oC);refine oT 15 (HQ.out _ f) ?_ (hy:=oC);refine oT 16 (HQ.out _ f) ?_ (hy:=oC);refine oT 18 (HQ.out _ f) ?_ (hy:=oC);refine oT 19 (HQ.out _ f) ?_ (hy:=oC);refine oT 20 (HQ.out _ f) ?_ (hy:=oC);refine oO 17 fun K hK=>?_;go_simp;refine (aZ.out _ f).mono ?_;rintro e w7 ⟨rfl,hb7⟩;have am:=f.trans (hb7.mono f.size);refine hK _ _ (HQ.out _ am) (oP ?_);clear hK K;refine oO 21 fun K hK=>?_;go_simp;refine (aY.out _ am).mono ?_;rintro e w8 ⟨rfl,hb8⟩;have ab:=am.trans (hb8.mono am.size);refine hK _ _ (HQ.out _ ab) (oP ?_);clear hK K;refine oT 22 (HQ.out _ ab) ?_ (hy:=oC);refine oT 23 (HQ.out _ ab) ?_ (hy:=oC);refine oT 24 (HQ.out _ ab) ?_ (hy:=oC);refine oO 25 fun K hK=>?_;go_simp;refine (hA.out w8).mono ?_;rintro e w9 ⟨rfl,hb9⟩;have al:=ab.trans (hb9.mono ab.size);refine hK _ _ (HQ.out _ al) (oP ?_);clear hK K;refine oT 26 (HQ.out _ al) ?_ (hy:=oC);refine oT 27 (HQ.out _ al) ?_ (hy:=oC);refine (wD ?_) _;go_wp2;go_ret;exact⟨by first|rfl|simp,aR.out.trans (al.mono aR.out.size)⟩
def zQd:Prop:=∀ (ns:List Tn) (root:Int) (A:Option Addr) (c:Nat) (w:World),SmT 1000000 (ns,root)->TyP w w.heap.size ns root [vS A ns.length c,vI i6 root]->Calls tP 23 #[.agg #[vS A ns.length c,vI i6 root]] w (TyOut 0 w (lstT (ns,root)))
theorem zKy:zQd:=zKz
theorem zL4 {W:World}{b:Nat}{n:Int}{e:TypeId}(hn:(Lit.int .i64 n).wf=true) (h:W.heap[b]?=some (.cells #[vI i6 1,vI i6 n,vT ⟨#[]⟩,vS none 0 0,vS none 0 0,vS none 0 0,vS none 0 0] e (0,0))):RowV 1 b W (vS (some (aD b 0)) 1 1) [intV n]:=by
 have hl:b<W.heap.size:=(Array.getElem?_eq_some_iff.1 h).1;refine⟨_,_,rfl,⟨by show 1<=maxLen;unfold maxLen;decide,Nat.le_refl _⟩,fun _=>⟨b,0,rfl,⟨Nat.le_refl _,hl⟩,hl,fun j hj=>?_⟩⟩;obtain rfl:j=0:=by simp at hj;omega
 refine⟨[vI i6 1,vI i6 n,vT ⟨#[]⟩,vS none 0 0,vS none 0 0,vS none 0 0,vS none 0 0],rfl,fun i hi=>?_,intV n,rfl,lfVB (t:=[]) (by decide) hn (Nat.zero_le _) 0 _ _⟩;refine (Lib.cell_of_heap h _).trans ?_;simp
theorem row_k {W:World}{B:Nat->Prop}{b:Nat}{x:Int}{e:TypeId}(hx:i64B x) (hB:B b) (h:W.heap[b]?=some (.cells #[vI i6 x] e (0,0))):RowB W B 1 (vS (some (aD b 0)) 1 1) 1 (kidR [x]):=by
 refine⟨_,_,rfl,⟨by show 1<=maxLen;unfold maxLen;decide,Nat.le_refl _⟩,fun _=>⟨b,0,rfl,hB,(Array.getElem?_eq_some_iff.1 h).1,fun j hj=>?_⟩⟩;obtain rfl:j=0:=by omega
 refine⟨[vI i6 x],rfl,fun i hi=>?_,x,rfl,rfl,hx⟩;refine (Lib.cell_of_heap h _).trans ?_;simp
theorem zRg:Iv.Nf [((0:Int),(9:Int))]:=⟨by simp,by simp⟩
theorem zP0 (hL:Hid zQd) (hN:Hid zDr):zNn:=fun w=>by
 obtain⟨W1,Y⟩:∃ q,q=w.alloc (.cells #[vI i6 0,vI i6 9] 83 (0,0)):=⟨_,rfl⟩;have kR:W1.heap[w.heap.size]?=some (.cells #[vI i6 0,vI i6 9] 83 (0,0)):=by rw[Y];exact heap_alloc_new w _
 have ar:bW w W1:=by rw[Y];exact yR.alloc lR _
 have ao:W1.heap.size=w.heap.size+1:=by rw[Y];simp
 have ap:Iv.RngS W1 W1.heap.size (some (aH w 0)) 1 [(0,9)]:=⟨rfl,fun r hr=>by
  rw[List.mem_singleton.1 hr];exact⟨by decide,by decide,by decide,by decide⟩,fun _=>⟨w.heap.size,0,rfl,by omega,fun j r hj=>by
   match j,hj with
   | 0,hj=>
    obtain rfl:((0:Int),(9:Int))=r:=by simpa using hj
    exact zAf kR⟩⟩
 have hc:=zPi (cap:=1) W1 ap (by decide);have G1:=xI (aN ar ao);clear kR ar ao ap;go_enter Tryz.func10,Tryz.ntmps10;go_wp2_with fail;rw[<-Y];clear Y;refine hc.mono ?_;clear hc;rintro e w2 ⟨m,hnf,hmem,hout⟩;obtain rfl:m=[(0,9)]:=Iv.zId _ _ hnf zRg hmem;clear hnf hmem;rw[show conT 16 noneT ([((0:Int),(9:Int))].map rgT)=rgT (0,9)from zPy]at hout;obtain⟨⟨A2,c2,he,aw⟩,aq⟩:=hout;replace he:e=.returned (.agg #[vS A2 1 c2,vI i6 0]):=he;subst he;have hc:=hL.out (rgT (0,9)).1 (rgT (0,9)).2 A2 c2 w2 (zP4 _) (TyB.sub (fun b hb=>by
  rcases hb with h|h
  ·omega
  ·exact h.2) aw)
 replace hc:Calls tP 23 #[.agg #[vS A2 1 c2,vI i6 0]] w2 (TyOut 0 w2 (lstT (rgT (0,9)))):=hc;rw[zPx]at hc;have G2:=xI aq;clear aw aq;go_wp2_with fail;refine hc.mono ?_;clear hc;rintro e w3 ⟨⟨A3,c3,he,hT3⟩,hb3⟩;replace he:e=.returned (.agg #[vS A3 4 c3,vI i6 0]):=he;subst he;replace hT3:TyB w3 (Bo 0 w2 w3) awkN 0 [vS A3 4 c3,vI i6 0]:=hT3;obtain⟨W4,X⟩:∃ q,q=w3.alloc (oE A3 4 c3 0):=⟨_,rfl⟩;have kT:W4.heap[w3.heap.size]?=some (oE A3 4 c3 0):=by rw[X];exact heap_alloc_new w3 _
 have ak:bW w3 W4:=by rw[X];exact yR.alloc lR _
 have an:W4.heap.size=w3.heap.size+1:=by rw[X];simp
 have av:TyP W4 W4.heap.size awkN 0 [vS A3 4 c3,vI i6 0]:=(hT3.keep (Same.of_below ak fun b hb=>by
  rcases hb with h|h
  ·omega
  ·exact h.2)).sub fun b hb=>by
  rcases hb with h|h
  ·omega
  ·have:=h.2;omega
 have R:bW w W4:=by
  have s1:=G1.out.1.size;have s2:=G2.out.size;have s3:=hb3.size;exact G1.out.1.trans ((G2.out.mono s1).trans ((hb3.mono (by omega)).trans (ak.mono (by omega))))
 have G4:=xI (aN kT (aN av (aN R an)));clear kT ak hT3 av R hb3 an;have hc:=zCj 3 W4;go_wp2_with fail;rw[<-X];clear X;refine hc.mono ?_;clear hc;rintro e pa ⟨rfl,hpa⟩;obtain⟨qa,Q⟩:∃ q,q=pa.alloc (oV 1 3 ⟨#[]⟩ none 0 0 none 0 0 none 0 0 none 0 0):=⟨_,rfl⟩;have kq:qa.heap[pa.heap.size]?=some (oV 1 3 ⟨#[]⟩ none 0 0 none 0 0 none 0 0 none 0 0):=by rw[Q];exact heap_alloc_new pa _
 have S:bW pa qa:=by rw[Q];exact yR.alloc lR _
 have ag:qa.heap.size=pa.heap.size+1:=by rw[Q];simp
 have hc:=zFk 1 pa.heap.size _ 1 [intV 3] qa (by omega) (zL4 (by decide) kq) (by simp);have d:bW W4 qa:=hpa.trans (S.mono hpa.size);clear hpa S kq;go_wp2_with fail;rw[<-Q];clear Q;refine hc.mono ?_;clear hc;rintro e ra ⟨cs,rfl,hva,hra⟩;obtain⟨ka,ia,xa,s,l,v,o,J,B,H,z,L,D,N,F,ai,rfl⟩:=vb_mk (k:=1+1) hva;rw[ai]at hva;have Ma:=xI ai;clear ai;obtain⟨W5,W⟩:∃ q,q=ra.alloc (oV ka ia ⟨xa.toArray⟩ J s.length B H l.length z L v.length D N o.length F):=⟨_,rfl⟩;have am:W5.heap[ra.heap.size]?=some (oV ka ia ⟨xa.toArray⟩ J s.length B H l.length z L v.length D N o.length F):=by rw[W];exact heap_alloc_new ra _
 have t:bW ra W5:=by rw[W];exact yR.alloc lR _
 have O:W5.heap.size=ra.heap.size+1:=by rw[W];simp
 have ad:bW W4 W5:=d.trans ((hra.mono d.size).trans (t.mono (by have:=d.size;have:=hra.size;omega)));have aa:VS (1+1+1) W5 W5.heap.size _ _:=VB.sub (fun b hb=>(show b<W5.heap.size by have:=hb.2;omega)) lR (VB.keep (Same.of_below t fun b hb=>hb.2) hva);have Ga:=xI (aN am (aN ad (aN aa O)));clear am t O ad aa hva hra d ag;have hc:=zCj 10 W5;go_wp2_with fail;rw[<-W];clear W;refine hc.mono ?_;clear hc;rintro e pb ⟨rfl,hpb⟩;obtain⟨qb,P⟩:∃ q,q=pb.alloc (oV 1 10 ⟨#[]⟩ none 0 0 none 0 0 none 0 0 none 0 0):=⟨_,rfl⟩;have kq:qb.heap[pb.heap.size]?=some (oV 1 10 ⟨#[]⟩ none 0 0 none 0 0 none 0 0 none 0 0):=by rw[P];exact heap_alloc_new pb _
 have S:bW pb qb:=by rw[P];exact yR.alloc lR _
 have ag:qb.heap.size=pb.heap.size+1:=by rw[P];simp
 have hc:=zFk 1 pb.heap.size _ 1 [intV 10] qb (by omega) (zL4 (by decide) kq) (by simp);have c:bW W5 qb:=hpb.trans (S.mono hpb.size);clear hpb S kq;go_wp2_with fail;rw[<-P];clear P;refine hc.mono ?_;clear hc;rintro e rb ⟨cs,rfl,hvb,hrb⟩;obtain⟨kb,ib,xb,p,i,u,n,I,A,G,y,K,C,M,E,ah,rfl⟩:=vb_mk (k:=1+1) hvb;rw[ah]at hvb;have Mb:=xI ah;clear ah;obtain⟨W6,U⟩:∃ q,q=rb.alloc (oV kb ib ⟨xb.toArray⟩ I p.length A G i.length y K u.length C M n.length E):=⟨_,rfl⟩;have al:W6.heap[rb.heap.size]?=some (oV kb ib ⟨xb.toArray⟩ I p.length A G i.length y K u.length C M n.length E):=by rw[U];exact heap_alloc_new rb _
 have t:bW rb W6:=by rw[U];exact yR.alloc lR _
 have O:W6.heap.size=rb.heap.size+1:=by rw[U];simp
 have ab:bW W5 W6:=c.trans ((hrb.mono c.size).trans (t.mono (by have:=c.size;have:=hrb.size;omega)));have Z:VS (1+1+1) W6 W6.heap.size _ _:=VB.sub (fun b hb=>(show b<W6.heap.size by have:=hb.2;omega)) lR (VB.keep (Same.of_below t fun b hb=>hb.2) hvb);have Gb:=xI (aN al (aN ab (aN Z O)));clear al t O ab Z hvb hrb c ag;obtain⟨W7,x⟩:∃ q,q=(W6.alloc (.cells #[vI i6 0] 3 (0,0))).alloc (oX 18 0 0 ⟨#[]⟩ (some (aH W6 0)) 1 1 none 0 0 0 0):=⟨_,rfl⟩;have k0:W7.heap[W6.heap.size]?=some (.cells #[vI i6 0] 3 (0,0)):=by rw[x,Below.heap_alloc _ _ _ (by simp)];exact heap_alloc_new W6 _
 have k1:W7.heap[W6.heap.size+1]?=some (oX 18 0 0 ⟨#[]⟩ (some (aH W6 0)) 1 1 none 0 0 0 0):=by rw[x];exact zAg _ (by simp)
 have T:bW W6 W7:=by rw[x];exact (yR.alloc lR _).alloc (by simp) _
 have aA:W7.heap.size=W6.heap.size+2:=by rw[x];simp
 have au:TyP W7 W7.heap.size [⟨18,0,0,[],[0],[],0,0⟩] 0 [vS (some (aE W6 0)) 1 1,vI i6 0]:=zP6 (ks:=[0]) (tn:=[]) (fds:=[]) ⟨_,_,rfl,⟨by decide,by decide,by decide,Nat.zero_le _,by decide,by decide⟩,row_k (by decide) (show W6.heap.size<W7.heap.size by omega) k0,RowB.nil _ _ _ _⟩ k1 (show W6.heap.size+1<W7.heap.size by omega);have hc:Calls tP 12 #[.agg #[vS (some (aE W6 0)) 1 1,vI i6 0]] W7 fun e w'=>e=.returned (vI i6 3)/\bW W7 w':=by
  have h:=zLs W7 au (by decide);rw[zRa]at h;exact h
 have af:bW W4 W7:=Ga.out.2.1.trans ((Gb.out.2.1.mono Ga.out.2.1.size).trans (T.mono (by have:=Ga.out.2.1.size;have:=Gb.out.2.1.size;omega)));have aj:bW W5 W7:=Gb.out.2.1.trans (T.mono Gb.out.2.1.size);have HT:Hid (∀ V,bW W7 V->(jT V w3.heap.size A3 4 c3 0)/\TyP V V.heap.size awkN 0 [vS A3 4 c3,vI i6 0]):=xI fun V hV=>by
  have h:=af.trans (hV.mono af.size);exact⟨zAf ((h.block _ (by have:=G4.out.2.2.2;omega)).trans G4.out.1),(TyB.on G4.out.2.1 h).up h.size⟩
 have ay:Hid (∀ V,bW W7 V->V.heap[ra.heap.size]?=some (oV ka ia ⟨xa.toArray⟩ J s.length B H l.length z L v.length D N o.length F)/\VS (1+1+1) V V.heap.size (.mk ka ia xa s l v o) [vI i6 ka,vI i6 ia,vT ⟨xa.toArray⟩,vS J s.length B,vS H l.length z,vS L v.length D,vS N o.length F]):=xI fun V hV=>by
  have h:=aj.trans (hV.mono aj.size);exact⟨(h.block _ (by have:=Ga.out.2.2.2;omega)).trans Ga.out.1,VS.later Ga.out.2.2.1 h⟩
 have ax:Hid (∀ V,bW W7 V->V.heap[rb.heap.size]?=some (oV kb ib ⟨xb.toArray⟩ I p.length A G i.length y K u.length C M n.length E)/\VS (1+1+1) V V.heap.size (.mk kb ib xb p i u n) [vI i6 kb,vI i6 ib,vT ⟨xb.toArray⟩,vS I p.length A,vS G i.length y,vS K u.length C,vS M n.length E]):=xI fun V hV=>by
  have h:=T.trans (hV.mono T.size);exact⟨(h.block _ (by have:=Gb.out.2.2.2;omega)).trans Gb.out.1,VS.later Gb.out.2.2.1 h⟩
 have HB:Hid (bW w W7):=xI (G4.out.2.2.1.trans (af.mono G4.out.2.2.1.size));clear k0 k1 T au af aj;go_wp2_with fail;rw[<-U,<-Gb.out.2.2.2,<-x];clear U x;refine hc.mono ?_;clear hc;rintro e w8 ⟨rfl,hb8⟩;obtain⟨⟨t0,t1⟩,g⟩:=HT.out w8 hb8;obtain⟨kA,ae⟩:=ay.out w8 hb8;obtain⟨a0,a1,a2,a3,a4,a5,a6⟩:=zAc kA;have hc:Calls tP 26 #[.agg #[vI i6 ka,vI i6 ia,vT ⟨xa.toArray⟩,vS J s.length B,vS H l.length z,vS L v.length D,vS N o.length F],.agg #[vS A3 4 c3,vI i6 0]] w8 fun e w'=>e=.returned (.bool true)/\bW w8 w':=by
  have h:=zEo hN awkN 0 A3 c3 (1+1) ka ia xa s l v o J H L N B z D F w8 g ae (by decide);rw[<-Ma.out,zNh]at h;exact h
 clear g ae kA;go_wp2_with fail;refine hc.mono ?_;clear hc t0 t1 a0 a1 a2 a3 a4 a5 a6;rintro e w9 ⟨rfl,hb9⟩;have a:=hb8.trans (hb9.mono hb8.size);clear hb9 hb8;obtain⟨⟨t0,t1⟩,g⟩:=HT.out w9 a;obtain⟨kA,ae⟩:=ax.out w9 a;obtain⟨a0,a1,a2,a3,a4,a5,a6⟩:=zAc kA;have hc:Calls tP 26 #[.agg #[vI i6 kb,vI i6 ib,vT ⟨xb.toArray⟩,vS I p.length A,vS G i.length y,vS K u.length C,vS M n.length E],.agg #[vS A3 4 c3,vI i6 0]] w9 fun e w'=>e=.returned (.bool false)/\bW w9 w':=by
  have h:=zEo hN awkN 0 A3 c3 (1+1) kb ib xb p i u n I G K M A y C E w9 g ae (by decide);rw[<-Mb.out,zNh]at h;exact h
 clear g ae kA;go_wp2_with fail;refine hc.mono ?_;clear hc t0 t1 a0 a1 a2 a3 a4 a5 a6;rintro e w10 ⟨rfl,hb10⟩;have f:=a.trans (hb10.mono a.size);clear hb10 a;obtain⟨⟨t0,t1⟩,g⟩:=HT.out w10 f;have hc:Calls tP 43 #[.agg #[vS A3 4 c3,vI i6 0]] w10 fun e w'=>e=.returned (.bool true)/\bW w10 w':=by
  have h:=zIi w10 g (by decide);rw[zPw]at h;exact h
 clear g;go_wp2_with fail;refine hc.mono ?_;clear hc t0 t1;rintro e w11 ⟨rfl,hb11⟩;have az:=xI (HB.out.trans ((f.trans (hb11.mono f.size)).mono HB.out.size));clear hb11 f;go_wp2;go_ret;exact⟨by first|rfl|simp,az.out⟩
end Go.Proofs.YteedihhdcbepmaaGreat
