/- The law's sanity check, given ListOf. -/
import Derived.Test.YteedihhdcbepmaaGreatTsZ
import Derived.Test.YteedihhdcbepmaaGreatTs36
set_option maxRecDepth 100000
set_option maxHeartbeats 12800000
set_option linter.all false
open Go.Value renaming slice→vS,int→vI,string→vT
open Go.IntKind renaming i64→i6
open Go.Proofs.Tryz renaming prog→tP
namespace Go.Proofs.YteedihhdcbepmaaGreat
open Go Go.RowKit
def zRd:Prop:=∀ (ns:List Tn) (root:Int) (A:Option Addr) (c:Nat) (w:World),SmT 1000000 (ns,root)->TyP w w.heap.size ns root [vS A ns.length c,vI i6 root]->Calls tP 23 #[.agg #[vS A ns.length c,vI i6 root]] w (TyOut 0 w (lstT (ns,root)))
theorem zLl:zRd:=zLm
theorem zMx {W:World}{b:Nat}{n:Int}{e:TypeId}(hn:(Lit.int .i64 n).wf=true) (h:W.heap[b]?=some (.cells #[vI i6 1,vI i6 n,vT ⟨#[]⟩,vS none 0 0,vS none 0 0,vS none 0 0,vS none 0 0] e (0,0))):RowV 1 b W (vS (some (aD b 0)) 1 1) [intV n]:=by
 have hl:b<W.heap.size:=(Cv.1 h).1;refine⟨_,_,rfl,⟨by show 1<=maxLen;unfold maxLen;decide,Bc _⟩,fun _=>⟨b,0,rfl,⟨Bc _,hl⟩,hl,fun j hj=>?_⟩⟩;obtain rfl:j=0:=by simp at hj;omega
 refine⟨[vI i6 1,vI i6 n,vT ⟨#[]⟩,vS none 0 0,vS none 0 0,vS none 0 0,vS none 0 0],rfl,fun i hi=>?_,intV n,rfl,lfVB (t:=[]) (by decide) hn (Bt _) 0 _ _⟩;refine (Bv h _).trans ?_;simp
theorem row_k {W:World}{B:Nat->Prop}{b:Nat}{x:Int}{e:TypeId}(hx:i64B x) (hB:B b) (h:W.heap[b]?=some (.cells #[vI i6 x] e (0,0))):RowB W B 1 (vS (some (aD b 0)) 1 1) 1 (kidR [x]):=by
 refine⟨_,_,rfl,⟨by show 1<=maxLen;unfold maxLen;decide,Bc _⟩,fun _=>⟨b,0,rfl,hB,(Cv.1 h).1,fun j hj=>?_⟩⟩;obtain rfl:j=0:=by omega
 refine⟨[vI i6 x],rfl,fun i hi=>?_,x,rfl,rfl,hx⟩;refine (Bv h _).trans ?_;simp
theorem zSk:Iv.Nf [((0:Int),(9:Int))]:=⟨by simp,by simp⟩
theorem zQ0 (hL:Hid zRd) (hN:Hid zDg):zOm:=fun w=>by
 obtain⟨W1,Y⟩:∃ q,q=w.alloc (.cells #[vI i6 0,vI i6 9] 83 (0,0)):=⟨_,rfl⟩;have kR:W1.heap[w.heap.size]?=some (.cells #[vI i6 0,vI i6 9] 83 (0,0)):=by rw[Y];exact Bl w _
 have ar:bW w W1:=by rw[Y];exact yR.alloc lR _
 have ao:W1.heap.size=w.heap.size+1:=by rw[Y];simp
 have ap:Iv.RngS W1 W1.heap.size (some (aH w 0)) 1 [(0,9)]:=⟨rfl,fun r hr=>by
  rw[Ct.1 hr];exact⟨by decide,by decide,by decide,by decide⟩,fun _=>⟨w.heap.size,0,rfl,by omega,fun j r hj=>by
   match j,hj with
   | 0,hj=>
    obtain rfl:((0:Int),(9:Int))=r:=by simpa using hj
    exact zAf kR⟩⟩
 have hc:=zQk (cap:=1) W1 ap (by decide);have G1:=xI (aN ar ao);clear kR ar ao ap;go_enter Tryz.func10,Tryz.ntmps10;go_wp2_with fail;rw[<-Y];clear Y;refine hc.mono ?_;clear hc;rintro e w2 ⟨m,hnf,hmem,hout⟩;obtain rfl:m=[(0,9)]:=Iv.zIv _ _ hnf zSk hmem;clear hnf hmem;rw[show conT 16 noneT ([((0:Int),(9:Int))].map rgT)=rgT (0,9)from zQy]at hout;obtain⟨⟨A2,c2,he,aw⟩,aq⟩:=hout;replace he:e=.returned (.agg #[vS A2 1 c2,vI i6 0]):=he;subst he;have hc:=hL.out (rgT (0,9)).1 (rgT (0,9)).2 A2 c2 w2 (zQ4 _) (TyB.sub (fun b hb=>by
  rcases hb with h|h
  ·omega
  ·exact h.2) aw)
 replace hc:Calls tP 23 #[.agg #[vS A2 1 c2,vI i6 0]] w2 (TyOut 0 w2 (lstT (rgT (0,9)))):=hc;rw[zQx]at hc;have G2:=xI aq;clear aw aq;go_wp2_with fail;refine hc.mono ?_;clear hc;rintro e w3 ⟨⟨A3,c3,he,hT3⟩,hb3⟩;replace he:e=.returned (.agg #[vS A3 4 c3,vI i6 0]):=he;subst he;replace hT3:TyB w3 (Bo 0 w2 w3) awkN 0 [vS A3 4 c3,vI i6 0]:=hT3;obtain⟨W4,X⟩:∃ q,q=w3.alloc (oE A3 4 c3 0):=⟨_,rfl⟩;have kT:W4.heap[w3.heap.size]?=some (oE A3 4 c3 0):=by rw[X];exact Bl w3 _
 have ak:bW w3 W4:=by rw[X];exact yR.alloc lR _
 have an:W4.heap.size=w3.heap.size+1:=by rw[X];simp
 have av:TyP W4 W4.heap.size awkN 0 [vS A3 4 c3,vI i6 0]:=(hT3.keep (Same.of_below ak fun b hb=>by
  rcases hb with h|h
  ·omega
  ·exact h.2)).sub fun b hb=>by
  rcases hb with h|h
  ·omega
  ·have:=h.2;omega
 have R:bW w W4:=by
  have s1:=G1.out.1.size;have s2:=G2.out.size;have s3:=hb3.size;exact G1.out.1.trans ((G2.out.mono s1).trans ((hb3.mono (by omega)).trans (ak.mono (by omega))))
 have G4:=xI (aN kT (aN av (aN R an)));clear kT ak hT3 av R hb3 an;have hc:=zCo 3 W4;go_wp2_with fail;rw[<-X];clear X;refine hc.mono ?_;clear hc;rintro e pa ⟨rfl,hpa⟩;obtain⟨qa,Q⟩:∃ q,q=pa.alloc (oV 1 3 ⟨#[]⟩ none 0 0 none 0 0 none 0 0 none 0 0):=⟨_,rfl⟩;have kq:qa.heap[pa.heap.size]?=some (oV 1 3 ⟨#[]⟩ none 0 0 none 0 0 none 0 0 none 0 0):=by rw[Q];exact Bl pa _
 have S:bW pa qa:=by rw[Q];exact yR.alloc lR _
 have ag:qa.heap.size=pa.heap.size+1:=by rw[Q];simp
 have hc:=zFu 1 pa.heap.size _ 1 [intV 3] qa (by omega) (zMx (by decide) kq) (by simp);have d:bW W4 qa:=hpa.trans (S.mono hpa.size);clear hpa S kq;go_wp2_with fail;rw[<-Q];clear Q;refine hc.mono ?_;clear hc;rintro e ra ⟨cs,rfl,hva,hra⟩;obtain⟨ka,ia,xa,s,l,v,o,J,B,H,z,L,D,N,F,ai,rfl⟩:=vb_mk (k:=1+1) hva;rw[ai]at hva;have Ma:=xI ai;clear ai;obtain⟨W5,W⟩:∃ q,q=ra.alloc (oV ka ia ⟨xa.toArray⟩ J s.length B H l.length z L v.length D N o.length F):=⟨_,rfl⟩;have am:W5.heap[ra.heap.size]?=some (oV ka ia ⟨xa.toArray⟩ J s.length B H l.length z L v.length D N o.length F):=by rw[W];exact Bl ra _
 have t:bW ra W5:=by rw[W];exact yR.alloc lR _
 have O:W5.heap.size=ra.heap.size+1:=by rw[W];simp
 have ad:bW W4 W5:=d.trans ((hra.mono d.size).trans (t.mono (by have:=d.size;have:=hra.size;omega)));have aa:VS (1+1+1) W5 W5.heap.size _ _:=VB.sub (fun b hb=>(show b<W5.heap.size by have:=hb.2;omega)) lR (VB.keep (Same.of_below t fun b hb=>hb.2) hva);have Ga:=xI (aN am (aN ad (aN aa O)));clear am t O ad aa hva hra d ag;have hc:=zCo 10 W5;go_wp2_with fail;rw[<-W];clear W;refine hc.mono ?_;clear hc;rintro e pb ⟨rfl,hpb⟩;obtain⟨qb,P⟩:∃ q,q=pb.alloc (oV 1 10 ⟨#[]⟩ none 0 0 none 0 0 none 0 0 none 0 0):=⟨_,rfl⟩;have kq:qb.heap[pb.heap.size]?=some (oV 1 10 ⟨#[]⟩ none 0 0 none 0 0 none 0 0 none 0 0):=by rw[P];exact Bl pb _
 have S:bW pb qb:=by rw[P];exact yR.alloc lR _
 have ag:qb.heap.size=pb.heap.size+1:=by rw[P];simp
 have hc:=zFu 1 pb.heap.size _ 1 [intV 10] qb (by omega) (zMx (by decide) kq) (by simp);have c:bW W5 qb:=hpb.trans (S.mono hpb.size);clear hpb S kq;go_wp2_with fail;rw[<-P];clear P;refine hc.mono ?_;clear hc;rintro e rb ⟨cs,rfl,hvb,hrb⟩;obtain⟨kb,ib,xb,p,i,u,n,I,A,G,y,K,C,M,E,ah,rfl⟩:=vb_mk (k:=1+1) hvb;rw[ah]at hvb;have Mb:=xI ah;clear ah;obtain⟨W6,U⟩:∃ q,q=rb.alloc (oV kb ib ⟨xb.toArray⟩ I p.length A G i.length y K u.length C M n.length E):=⟨_,rfl⟩;have al:W6.heap[rb.heap.size]?=some (oV kb ib ⟨xb.toArray⟩ I p.length A G i.length y K u.length C M n.length E):=by rw[U];exact Bl rb _
 have t:bW rb W6:=by rw[U];exact yR.alloc lR _
 have O:W6.heap.size=rb.heap.size+1:=by rw[U];simp
 have ab:bW W5 W6:=c.trans ((hrb.mono c.size).trans (t.mono (by have:=c.size;have:=hrb.size;omega)));have Z:VS (1+1+1) W6 W6.heap.size _ _:=VB.sub (fun b hb=>(show b<W6.heap.size by have:=hb.2;omega)) lR (VB.keep (Same.of_below t fun b hb=>hb.2) hvb);have Gb:=xI (aN al (aN ab (aN Z O)));clear al t O ab Z hvb hrb c ag;obtain⟨W7,x⟩:∃ q,q=(W6.alloc (.cells #[vI i6 0] 3 (0,0))).alloc (oX 18 0 0 ⟨#[]⟩ (some (aH W6 0)) 1 1 none 0 0 0 0):=⟨_,rfl⟩;have k0:W7.heap[W6.heap.size]?=some (.cells #[vI i6 0] 3 (0,0)):=by rw[x,Bp _ _ _ (by simp)];exact Bl W6 _
 have k1:W7.heap[W6.heap.size+1]?=some (oX 18 0 0 ⟨#[]⟩ (some (aH W6 0)) 1 1 none 0 0 0 0):=by rw[x];exact zAg _ (by simp)
 have T:bW W6 W7:=by rw[x];exact (yR.alloc lR _).alloc (by simp) _
 have aA:W7.heap.size=W6.heap.size+2:=by rw[x];simp
 have au:TyP W7 W7.heap.size [⟨18,0,0,[],[0],[],0,0⟩] 0 [vS (some (aE W6 0)) 1 1,vI i6 0]:=zQ6 (ks:=[0]) (tn:=[]) (fds:=[]) ⟨_,_,rfl,⟨by decide,by decide,by decide,Bt _,by decide,by decide⟩,row_k (by decide) (show W6.heap.size<W7.heap.size by omega) k0,RowB.nil _ _ _ _⟩ k1 (show W6.heap.size+1<W7.heap.size by omega);have hc:Calls tP 12 #[.agg #[vS (some (aE W6 0)) 1 1,vI i6 0]] W7 fun e w'=>e=.returned (vI i6 3)/\bW W7 w':=by
  have h:=zMc W7 au (by decide);rw[zSc]at h;exact h
 have af:bW W4 W7:=Ga.out.2.1.trans ((Gb.out.2.1.mono Ga.out.2.1.size).trans (T.mono (by have:=Ga.out.2.1.size;have:=Gb.out.2.1.size;omega)));have aj:bW W5 W7:=Gb.out.2.1.trans (T.mono Gb.out.2.1.size);have HT:Hid (∀ V,bW W7 V->(jT V w3.heap.size A3 4 c3 0)/\TyP V V.heap.size awkN 0 [vS A3 4 c3,vI i6 0]):=xI fun V hV=>by
  have h:=af.trans (hV.mono af.size);exact⟨zAf ((h.block _ (by have:=G4.out.2.2.2;omega)).trans G4.out.1),(TyB.on G4.out.2.1 h).up h.size⟩
 have ay:Hid (∀ V,bW W7 V->V.heap[ra.heap.size]?=some (oV ka ia ⟨xa.toArray⟩ J s.length B H l.length z L v.length D N o.length F)/\VS (1+1+1) V V.heap.size (.mk ka ia xa s l v o) [vI i6 ka,vI i6 ia,vT ⟨xa.toArray⟩,vS J s.length B,vS H l.length z,vS L v.length D,vS N o.length F]):=xI fun V hV=>by
  have h:=aj.trans (hV.mono aj.size);exact⟨(h.block _ (by have:=Ga.out.2.2.2;omega)).trans Ga.out.1,VS.later Ga.out.2.2.1 h⟩
 have ax:Hid (∀ V,bW W7 V->V.heap[rb.heap.size]?=some (oV kb ib ⟨xb.toArray⟩ I p.length A G i.length y K u.length C M n.length E)/\VS (1+1+1) V V.heap.size (.mk kb ib xb p i u n) [vI i6 kb,vI i6 ib,vT ⟨xb.toArray⟩,vS I p.length A,vS G i.length y,vS K u.length C,vS M n.length E]):=xI fun V hV=>by
  have h:=T.trans (hV.mono T.size);exact⟨(h.block _ (by have:=Gb.out.2.2.2;omega)).trans Gb.out.1,VS.later Gb.out.2.2.1 h⟩
 have HB:Hid (bW w W7):=xI (G4.out.2.2.1.trans (af.mono G4.out.2.2.1.size));clear k0 k1 T au af aj;go_wp2_with fail;rw[<-U,<-Gb.out.2.2.2,<-x];clear U x;refine hc.mono ?_;clear hc;rintro e w8 ⟨rfl,hb8⟩;obtain⟨⟨t0,t1⟩,g⟩:=HT.out w8 hb8;obtain⟨kA,ae⟩:=ay.out w8 hb8;obtain⟨a0,a1,a2,a3,a4,a5,a6⟩:=zAc kA;have hc:Calls tP 26 #[.agg #[vI i6 ka,vI i6 ia,vT ⟨xa.toArray⟩,vS J s.length B,vS H l.length z,vS L v.length D,vS N o.length F],.agg #[vS A3 4 c3,vI i6 0]] w8 fun e w'=>e=.returned (.bool true)/\bW w8 w':=by
  have h:=zEx hN awkN 0 A3 c3 (1+1) ka ia xa s l v o J H L N B z D F w8 g ae (by decide);rw[<-Ma.out,zOh]at h;exact h
 clear g ae kA;go_wp2_with fail;refine hc.mono ?_;clear hc t0 t1 a0 a1 a2 a3 a4 a5 a6;rintro e w9 ⟨rfl,hb9⟩;have a:=hb8.trans (hb9.mono hb8.size);clear hb9 hb8;obtain⟨⟨t0,t1⟩,g⟩:=HT.out w9 a;obtain⟨kA,ae⟩:=ax.out w9 a;obtain⟨a0,a1,a2,a3,a4,a5,a6⟩:=zAc kA;have hc:Calls tP 26 #[.agg #[vI i6 kb,vI i6 ib,vT ⟨xb.toArray⟩,vS I p.length A,vS G i.length y,vS K u.length C,vS M n.length E],.agg #[vS A3 4 c3,vI i6 0]] w9 fun e w'=>e=.returned (.bool false)/\bW w9 w':=by
  have h:=zEx hN awkN 0 A3 c3 (1+1) kb ib xb p i u n I G K M A y C E w9 g ae (by decide);rw[<-Mb.out,zOh]at h;exact h
 clear g ae kA;go_wp2_with fail;refine hc.mono ?_;clear hc t0 t1 a0 a1 a2 a3 a4 a5 a6;rintro e w10 ⟨rfl,hb10⟩;have f:=a.trans (hb10.mono a.size);clear hb10 a;obtain⟨⟨t0,t1⟩,g⟩:=HT.out w10 f;have hc:Calls tP 43 #[.agg #[vS A3 4 c3,vI i6 0]] w10 fun e w'=>e=.returned (.bool true)/\bW w10 w':=by
  have h:=zI1 w10 g (by decide);rw[zQw]at h;exact h
 clear g;go_wp2_with fail;refine hc.mono ?_;clear hc t0 t1;rintro e w11 ⟨rfl,hb11⟩;have az:=xI (HB.out.trans ((f.trans (hb11.mono f.size)).mono HB.out.size));clear hb11 f;go_wp2;go_ret;exact⟨by first|rfl|simp,az.out⟩
end Go.Proofs.YteedihhdcbepmaaGreat
