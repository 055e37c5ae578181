/- The law's sanity check, given ListOf. -/
import Derived.Test.YteedihhdcbepmaaGreatTb22
import Derived.Test.YteedihhdcbepmaaGreatTb36
set_option maxRecDepth 100000
set_option maxHeartbeats 12800000
open Go.Value renaming slice→vS,int→vI,string→vT
open Go.IntKind renaming i64→i6
open Go.Proofs.Tryz renaming prog→tP
namespace Go.Proofs.YteedihhdcbepmaaGreat
open Go Go.RowKit
def zQ5:Prop:=∀ (ns:List Tn) (root:Int) (A:Option Addr) (c:Nat) (w:World),SmT 1000000 (ns,root)->TyP w w.heap.size ns root [vS A ns.length c,vI i6 root]->Calls tP 23 #[.agg #[vS A ns.length c,vI i6 root]] w (TyOut 0 w (lstT (ns,root)))
theorem zLh:zQ5:=zLi
theorem zMq {W:World}{b:Nat}{n:Int}{e:TypeId}(hn:(Lit.int .i64 n).wf=true) (h:W.heap[b]?=some (.cells #[vI i6 1,vI i6 n,vT ⟨#[]⟩,vS none 0 0,vS none 0 0,vS none 0 0,vS none 0 0] e (0,0))):RowV 1 b W (vS (some (aD b 0)) 1 1) [intV n]:=by
 have hl:b<W.heap.size:=(Array.getElem?_eq_some_iff.1 h).1;refine⟨_,_,rfl,⟨by show 1<=maxLen;unfold maxLen;decide,Nat.le_refl _⟩,fun _=>⟨b,0,rfl,⟨Nat.le_refl _,hl⟩,hl,fun j hj=>?_⟩⟩;obtain rfl:j=0:=by simp at hj;omega
 refine⟨[vI i6 1,vI i6 n,vT ⟨#[]⟩,vS none 0 0,vS none 0 0,vS none 0 0,vS none 0 0],rfl,fun i hi=>?_,intV n,rfl,lfVB (t:=[]) (by decide) hn (Nat.zero_le _) 0 _ _⟩;refine (Lib.cell_of_heap h _).trans ?_;simp
theorem row_k {W:World}{B:Nat->Prop}{b:Nat}{x:Int}{e:TypeId}(hx:i64B x) (hB:B b) (h:W.heap[b]?=some (.cells #[vI i6 x] e (0,0))):RowB W B 1 (vS (some (aD b 0)) 1 1) 1 (kidR [x]):=by
 refine⟨_,_,rfl,⟨by show 1<=maxLen;unfold maxLen;decide,Nat.le_refl _⟩,fun _=>⟨b,0,rfl,hB,(Array.getElem?_eq_some_iff.1 h).1,fun j hj=>?_⟩⟩;obtain rfl:j=0:=by omega
 refine⟨[vI i6 x],rfl,fun i hi=>?_,x,rfl,rfl,hx⟩;refine (Lib.cell_of_heap h _).trans ?_;simp
theorem zSa:Iv.Nf [((0:Int),(9:Int))]:=⟨by simp,by simp⟩
theorem zQs (hL:Hid zQ5) (hN:Hid zC3):zOc:=fun w=>by
 obtain⟨W1,Y⟩:∃ q,q=w.alloc (.cells #[vI i6 0,vI i6 9] 83 (0,0)):=⟨_,rfl⟩;have kR:W1.heap[w.heap.size]?=some (.cells #[vI i6 0,vI i6 9] 83 (0,0)):=by rw[Y];exact heap_alloc_new w _
 have ar:bW w W1:=by rw[Y];exact yR.alloc lR _
 have ao:W1.heap.size=w.heap.size+1:=by rw[Y];simp
 have ap:Iv.RngS W1 W1.heap.size (some (aH w 0)) 1 [(0,9)]:=⟨rfl,fun r hr=>by
  rw[List.mem_singleton.1 hr];exact⟨by decide,by decide,by decide,by decide⟩,fun _=>⟨w.heap.size,0,rfl,by omega,fun j r hj=>by
   match j,hj with
   | 0,hj=>
    obtain rfl:((0:Int),(9:Int))=r:=by simpa using hj
    exact zAg kR⟩⟩
 have hc:=zP8 (cap:=1) W1 ap (by decide);have G1:=xI (aN ar ao);clear kR ar ao ap;go_enter Tryz.func10,Tryz.ntmps10;go_wp2_with fail;rw[<-Y];clear Y;refine hc.mono ?_;clear hc;rintro e w2 ⟨m,hnf,hmem,hout⟩;obtain rfl:m=[(0,9)]:=Iv.zIx _ _ hnf zSa hmem;clear hnf hmem;rw[show conT 16 noneT ([((0:Int),(9:Int))].map rgT)=rgT (0,9)from zQq]at hout;obtain⟨⟨A2,c2,he,aw⟩,aq⟩:=hout;replace he:e=.returned (.agg #[vS A2 1 c2,vI i6 0]):=he;subst he;have hc:=hL.out (rgT (0,9)).1 (rgT (0,9)).2 A2 c2 w2 (zQw _) (TyB.sub (fun b hb=>by
  rcases hb with h|h
  ·omega
  ·exact h.2) aw)
 replace hc:Calls tP 23 #[.agg #[vS A2 1 c2,vI i6 0]] w2 (TyOut 0 w2 (lstT (rgT (0,9)))):=hc;rw[zQp]at hc;have G2:=xI aq;clear aw aq;go_wp2_with fail;refine hc.mono ?_;clear hc;rintro e w3 ⟨⟨A3,c3,he,hT3⟩,hb3⟩;replace he:e=.returned (.agg #[vS A3 4 c3,vI i6 0]):=he;subst he;replace hT3:TyB w3 (Bo 0 w2 w3) awkN 0 [vS A3 4 c3,vI i6 0]:=hT3;obtain⟨W4,X⟩:∃ q,q=w3.alloc (oE A3 4 c3 0):=⟨_,rfl⟩;have kT:W4.heap[w3.heap.size]?=some (oE A3 4 c3 0):=by rw[X];exact heap_alloc_new w3 _
 have ak:bW w3 W4:=by rw[X];exact yR.alloc lR _
 have an:W4.heap.size=w3.heap.size+1:=by rw[X];simp
 have av:TyP W4 W4.heap.size awkN 0 [vS A3 4 c3,vI i6 0]:=(hT3.keep (Same.of_below ak fun b hb=>by
  rcases hb with h|h
  ·omega
  ·exact h.2)).sub fun b hb=>by
  rcases hb with h|h
  ·omega
  ·have:=h.2;omega
 have R:bW w W4:=by
  have s1:=G1.out.1.size;have s2:=G2.out.size;have s3:=hb3.size;exact G1.out.1.trans ((G2.out.mono s1).trans ((hb3.mono (by omega)).trans (ak.mono (by omega))))
 have G4:=xI (aN kT (aN av (aN R an)));clear kT ak hT3 av R hb3 an;have hc:=zCk 3 W4;go_wp2_with fail;rw[<-X];clear X;refine hc.mono ?_;clear hc;rintro e pa ⟨rfl,hpa⟩;obtain⟨qa,Q⟩:∃ q,q=pa.alloc (oV 1 3 ⟨#[]⟩ none 0 0 none 0 0 none 0 0 none 0 0):=⟨_,rfl⟩;have kq:qa.heap[pa.heap.size]?=some (oV 1 3 ⟨#[]⟩ none 0 0 none 0 0 none 0 0 none 0 0):=by rw[Q];exact heap_alloc_new pa _
 have S:bW pa qa:=by rw[Q];exact yR.alloc lR _
 have ag:qa.heap.size=pa.heap.size+1:=by rw[Q];simp
 have hc:=zFu 1 pa.heap.size _ 1 [intV 3] qa (by omega) (zMq (by decide) kq) (by simp);have d:bW W4 qa:=hpa.trans (S.mono hpa.size);clear hpa S kq;go_wp2_with fail;rw[<-Q];clear Q;refine hc.mono ?_;clear hc;rintro e ra ⟨cs,rfl,hva,hra⟩;obtain⟨ka,ia,xa,s,l,v,o,J,B,H,z,L,D,N,F,ai,rfl⟩:=vb_mk (k:=1+1) hva;rw[ai]at hva;have Ma:=xI ai;clear ai;obtain⟨W5,W⟩:∃ q,q=ra.alloc (oV ka ia ⟨xa.toArray⟩ J s.length B H l.length z L v.length D N o.length F):=⟨_,rfl⟩;have am:W5.heap[ra.heap.size]?=some (oV ka ia ⟨xa.toArray⟩ J s.length B H l.length z L v.length D N o.length F):=by rw[W];exact heap_alloc_new ra _
 have t:bW ra W5:=by rw[W];exact yR.alloc lR _
 have O:W5.heap.size=ra.heap.size+1:=by rw[W];simp
 have ad:bW W4 W5:=d.trans ((hra.mono d.size).trans (t.mono (by have:=d.size;have:=hra.size;omega)));have aa:VS (1+1+1) W5 W5.heap.size _ _:=VB.sub (fun b hb=>(show b<W5.heap.size by have:=hb.2;omega)) lR (VB.keep (Same.of_below t fun b hb=>hb.2) hva);have Ga:=xI (aN am (aN ad (aN aa O)));clear am t O ad aa hva hra d ag;have hc:=zCk 10 W5;go_wp2_with fail;rw[<-W];clear W;refine hc.mono ?_;clear hc;rintro e pb ⟨rfl,hpb⟩;obtain⟨qb,P⟩:∃ q,q=pb.alloc (oV 1 10 ⟨#[]⟩ none 0 0 none 0 0 none 0 0 none 0 0):=⟨_,rfl⟩;have kq:qb.heap[pb.heap.size]?=some (oV 1 10 ⟨#[]⟩ none 0 0 none 0 0 none 0 0 none 0 0):=by rw[P];exact heap_alloc_new pb _
 have S:bW pb qb:=by rw[P];exact yR.alloc lR _
 have ag:qb.heap.size=pb.heap.size+1:=by rw[P];simp
 have hc:=zFu 1 pb.heap.size _ 1 [intV 10] qb (by omega) (zMq (by decide) kq) (by simp);have c:bW W5 qb:=hpb.trans (S.mono hpb.size);clear hpb S kq;go_wp2_with fail;rw[<-P];clear P;refine hc.mono ?_;clear hc;rintro e rb ⟨cs,rfl,hvb,hrb⟩;obtain⟨kb,ib,xb,p,i,u,n,I,A,G,y,K,C,M,E,ah,rfl⟩:=vb_mk (k:=1+1) hvb;rw[ah]at hvb;have Mb:=xI ah;clear ah;obtain⟨W6,U⟩:∃ q,q=rb.alloc (oV kb ib ⟨xb.toArray⟩ I p.length A G i.length y K u.length C M n.length E):=⟨_,rfl⟩;have al:W6.heap[rb.heap.size]?=some (oV kb ib ⟨xb.toArray⟩ I p.length A G i.length y K u.length C M n.length E):=by rw[U];exact heap_alloc_new rb _
 have t:bW rb W6:=by rw[U];exact yR.alloc lR _
 have O:W6.heap.size=rb.heap.size+1:=by rw[U];simp
 have ab:bW W5 W6:=c.trans ((hrb.mono c.size).trans (t.mono (by have:=c.size;have:=hrb.size;omega)));have Z:VS (1+1+1) W6 W6.heap.size _ _:=VB.sub (fun b hb=>(show b<W6.heap.size by have:=hb.2;omega)) lR (VB.keep (Same.of_below t fun b hb=>hb.2) hvb);have Gb:=xI (aN al (aN ab (aN Z O)));clear al t O ab Z hvb hrb c ag;obtain⟨W7,x⟩:∃ q,q=(W6.alloc (.cells #[vI i6 0] 3 (0,0))).alloc (oX 18 0 0 ⟨#[]⟩ (some (aH W6 0)) 1 1 none 0 0 0 0):=⟨_,rfl⟩;have k0:W7.heap[W6.heap.size]?=some (.cells #[vI i6 0] 3 (0,0)):=by rw[x,Below.heap_alloc _ _ _ (by simp)];exact heap_alloc_new W6 _
 have k1:W7.heap[W6.heap.size+1]?=some (oX 18 0 0 ⟨#[]⟩ (some (aH W6 0)) 1 1 none 0 0 0 0):=by rw[x];exact zAf _ (by simp)
 have T:bW W6 W7:=by rw[x];exact (yR.alloc lR _).alloc (by simp) _
 have aA:W7.heap.size=W6.heap.size+2:=by rw[x];simp
 have au:TyP W7 W7.heap.size [⟨18,0,0,[],[0],[],0,0⟩] 0 [vS (some (aE W6 0)) 1 1,vI i6 0]:=zQy (ks:=[0]) (tn:=[]) (fds:=[]) ⟨_,_,rfl,⟨by decide,by decide,by decide,Nat.zero_le _,by decide,by decide⟩,row_k (by decide) (show W6.heap.size<W7.heap.size by omega) k0,RowB.nil _ _ _ _⟩ k1 (show W6.heap.size+1<W7.heap.size by omega);have hc:Calls tP 12 #[.agg #[vS (some (aE W6 0)) 1 1,vI i6 0]] W7 fun e w'=>e=.returned (vI i6 3)/\bW W7 w':=by
  have h:=zL9 W7 au (by decide);rw[zR3]at h;exact h
 have af:bW W4 W7:=Ga.out.2.1.trans ((Gb.out.2.1.mono Ga.out.2.1.size).trans (T.mono (by have:=Ga.out.2.1.size;have:=Gb.out.2.1.size;omega)));have aj:bW W5 W7:=Gb.out.2.1.trans (T.mono Gb.out.2.1.size);have HT:Hid (∀ V,bW W7 V->(jT V w3.heap.size A3 4 c3 0)/\TyP V V.heap.size awkN 0 [vS A3 4 c3,vI i6 0]):=xI fun V hV=>by
  have h:=af.trans (hV.mono af.size);exact⟨zAg ((h.block _ (by have:=G4.out.2.2.2;omega)).trans G4.out.1),(TyB.on G4.out.2.1 h).up h.size⟩
 have ay:Hid (∀ V,bW W7 V->V.heap[ra.heap.size]?=some (oV ka ia ⟨xa.toArray⟩ J s.length B H l.length z L v.length D N o.length F)/\VS (1+1+1) V V.heap.size (.mk ka ia xa s l v o) [vI i6 ka,vI i6 ia,vT ⟨xa.toArray⟩,vS J s.length B,vS H l.length z,vS L v.length D,vS N o.length F]):=xI fun V hV=>by
  have h:=aj.trans (hV.mono aj.size);exact⟨(h.block _ (by have:=Ga.out.2.2.2;omega)).trans Ga.out.1,VS.later Ga.out.2.2.1 h⟩
 have ax:Hid (∀ V,bW W7 V->V.heap[rb.heap.size]?=some (oV kb ib ⟨xb.toArray⟩ I p.length A G i.length y K u.length C M n.length E)/\VS (1+1+1) V V.heap.size (.mk kb ib xb p i u n) [vI i6 kb,vI i6 ib,vT ⟨xb.toArray⟩,vS I p.length A,vS G i.length y,vS K u.length C,vS M n.length E]):=xI fun V hV=>by
  have h:=T.trans (hV.mono T.size);exact⟨(h.block _ (by have:=Gb.out.2.2.2;omega)).trans Gb.out.1,VS.later Gb.out.2.2.1 h⟩
 have HB:Hid (bW w W7):=xI (G4.out.2.2.1.trans (af.mono G4.out.2.2.1.size));clear k0 k1 T au af aj;go_wp2_with fail;rw[<-U,<-Gb.out.2.2.2,<-x];clear U x;refine hc.mono ?_;clear hc;rintro e w8 ⟨rfl,hb8⟩;obtain⟨⟨t0,t1⟩,g⟩:=HT.out w8 hb8;obtain⟨kA,ae⟩:=ay.out w8 hb8;obtain⟨a0,a1,a2,a3,a4,a5,a6⟩:=zAc kA;have hc:Calls tP 26 #[.agg #[vI i6 ka,vI i6 ia,vT ⟨xa.toArray⟩,vS J s.length B,vS H l.length z,vS L v.length D,vS N o.length F],.agg #[vS A3 4 c3,vI i6 0]] w8 fun e w'=>e=.returned (.bool true)/\bW w8 w':=by
  have h:=zEx hN awkN 0 A3 c3 (1+1) ka ia xa s l v o J H L N B z D F w8 g ae (by decide);rw[<-Ma.out,zN5]at h;exact h
 clear g ae kA;go_wp2_with fail;refine hc.mono ?_;clear hc t0 t1 a0 a1 a2 a3 a4 a5 a6;rintro e w9 ⟨rfl,hb9⟩;have a:=hb8.trans (hb9.mono hb8.size);clear hb9 hb8;obtain⟨⟨t0,t1⟩,g⟩:=HT.out w9 a;obtain⟨kA,ae⟩:=ax.out w9 a;obtain⟨a0,a1,a2,a3,a4,a5,a6⟩:=zAc kA;have hc:Calls tP 26 #[.agg #[vI i6 kb,vI i6 ib,vT ⟨xb.toArray⟩,vS I p.length A,vS G i.length y,vS K u.length C,vS M n.length E],.agg #[vS A3 4 c3,vI i6 0]] w9 fun e w'=>e=.returned (.bool false)/\bW w9 w':=by
  have h:=zEx hN awkN 0 A3 c3 (1+1) kb ib xb p i u n I G K M A y C E w9 g ae (by decide);rw[<-Mb.out,zN5]at h;exact h
 clear g ae kA;go_wp2_with fail;refine hc.mono ?_;clear hc t0 t1 a0 a1 a2 a3 a4 a5 a6;rintro e w10 ⟨rfl,hb10⟩;have f:=a.trans (hb10.mono a.size);clear hb10 a;obtain⟨⟨t0,t1⟩,g⟩:=HT.out w10 f;have hc:Calls tP 43 #[.agg #[vS A3 4 c3,vI i6 0]] w10 fun e w'=>e=.returned (.bool true)/\bW w10 w':=by
  have h:=zI1 w10 g (by decide);rw[zQo]at h;exact h
 clear g;go_wp2_with fail;refine hc.mono ?_;clear hc t0 t1;rintro e w11 ⟨rfl,hb11⟩;have az:=xI (HB.out.trans ((f.trans (hb11.mono f.size)).mono HB.out.size));clear hb11 f;go_wp2;go_ret;exact⟨by first|rfl|simp,az.out⟩
def OutT (W:World) (T:Ty) (e:Ending) (w':World):Prop:=∃ A c,e=.returned (.agg #[vS A T.1.length c,vI i6 T.2])/\TyAt w' T.1 T.2 A c/\bW W w'
theorem outT {W U w':World}{T:Ty}{e:Ending}(hb:bW W U) (h:TyOut 0 U T e w'):OutT W T e w':=by
 obtain⟨⟨A,c,he,hT⟩,hB⟩:=h;exact⟨A,c,he,hT.sub fun b hb=>by rcases hb with h|h<;>omega,hb.trans (hB.mono hb.size)⟩
theorem TyAt.later {W U:World}{ns:List Tn}{r:Int}{A:Option Addr}{c:Nat}(h:TyAt W ns r A c) (hb:bW W U):TyAt U ns r A c:=(TyB.on h hb).up hb.size
theorem zSc {T:Ty}{v:Vl}(hok:okV v=true):memO T.1 T.2 v T.2=memT v T:=by
 unfold memO memT;rw[hok];by_cases h:wfC T.1 T.2=0
 ·have h1:=(Wf.of_zero h).2;rw[decide_eq_true h,show idxB T.1.length T.2=true by simp[idxB,h1.1,h1.2]];rfl
 ·rw[decide_eq_false h];rfl
theorem zM4 (hN:Hid zC3) (T:Ty){A:Option Addr}{c:Nat}{v:Vl}{xs:List Value}(W U:World) (hb:bW W U) (hT:TyAt U T.1 T.2 A c) (hv:VS 5 W W.heap.size v xs) (hok:okV v=true) (hn:T.1.length<=1000000) :
  Calls tP 26 #[.agg xs.toArray,.agg #[vS A T.1.length c,vI i6 T.2]] U fun e w'=>e=.returned (.bool (memT v T))/\bW W w':=by
 have a:=VS.up hb.size lR (VS.on hb hv);obtain⟨k1,i1,x1,f,b,g,d,m,i,l,h,n,j,o,k,rfl,rfl⟩:=vb_mk a;refine (zEx hN T.1 T.2 A c 4 k1 i1 x1 f b g d m l n o i h j k U hT a hn).mono ?_;rintro e w' ⟨rfl,hB⟩;exact⟨by rw[zSc hok],hb.trans (hB.mono hb.size)⟩
def McT (X0:World) (xs:List Value) (T:Ty) (r:Bool):Prop:=∀ U A c,bW X0 U->TyAt U T.1 T.2 A c->Calls tP 26 #[.agg xs.toArray,.agg #[vS A T.1.length c,vI i6 T.2]] U fun e w'=>e=.returned (.bool r)/\bW X0 w'
theorem mcT (hN:Hid zC3){T:Ty}{v:Vl}{xs:List Value}{X0:World}{r:Bool}(hv:VS 5 X0 X0.heap.size v xs) (hok:okV v=true) (hn:T.1.length<=1000000) (hr:memT v T=r):McT X0 xs T r:=fun U A c hU hT=>by
 have h:=zM4 hN T X0 U hU hT hv hok hn
 rwa [hr]at h
theorem zMp {w:World}{g:Nat}{P B:Nat->Prop}{s t r:Ty}{A C E:Option Addr}{c d e:Nat}(hk:w.heap[g]?=some (.cells #[vS A s.1.length c,vI i6 s.2,vS C t.1.length d,vI i6 t.2,vS E r.1.length e,vI i6 r.2] 24 (0,0))) (hB:P g) (hs:TyB w B s.1 s.2 [vS A s.1.length c,vI i6 s.2]) (ht:TyB w B t.1 t.2 [vS C t.1.length d,vI i6 t.2]) (hr:TyB w B r.1 r.2 [vS E r.1.length e,vI i6 r.2]):RowB w P 2 (vS (some (aD g 0)) 3 3) [s,t,r].length (tyR w B [s,t,r]):=by
 have hl:g<w.heap.size:=(Array.getElem?_eq_some_iff.1 hk).1;refine⟨_,_,rfl,⟨by show 3<=maxLen;unfold maxLen;decide,Nat.le_refl _⟩,fun _=>⟨g,0,rfl,hB,hl,fun j hj=>?_⟩⟩
 match j,hj with
 | 0,_=>exact⟨[vS A s.1.length c,vI i6 s.2],rfl,fun i hi=>by
   match i,hi with
   | 0,_=>exact (Lib.cell_of_heap hk _).trans rfl
   | 1,_=>exact (Lib.cell_of_heap hk _).trans rfl,s,rfl,hs⟩
 | 1,_=>exact⟨[vS C t.1.length d,vI i6 t.2],rfl,fun i hi=>by
   match i,hi with
   | 0,_=>exact (Lib.cell_of_heap hk _).trans rfl
   | 1,_=>exact (Lib.cell_of_heap hk _).trans rfl,t,rfl,ht⟩
 | 2,_=>exact⟨[vS E r.1.length e,vI i6 r.2],rfl,fun i hi=>by
   match i,hi with
   | 0,_=>exact (Lib.cell_of_heap hk _).trans rfl
   | 1,_=>exact (Lib.cell_of_heap hk _).trans rfl,r,rfl,hr⟩
 | n+3,hj=>exact absurd hj (by simp)
section
variable {s t r:Ty}{A C E:Option Addr}{c d e:Nat}
theorem zMe {W U:World}(hb:bW W U) (hs:TyAt W s.1 s.2 A c) (ht:TyAt W t.1 t.2 C d) (h1:SmT 1000 s) (h2:SmT 1000 t) :
  ∃ X,X=U.alloc (.cells #[vS A s.1.length c,vI i6 s.2,vS C t.1.length d,vI i6 t.2] 24 (0,0))/\bW W X/\W.heap.size<=X.heap.size/\RowB X (fun b=>b<X.heap.size) 2 (vS (some (aD U.heap.size 0)) [s,t].length 2) [s,t].length (tyR X (fun b=>b<W.heap.size) [s,t])/\∀ x∈[s,t],SmT 1000000 x:=by
 have a:bW U (U.alloc (.cells #[vS A s.1.length c,vI i6 s.2,vS C t.1.length d,vI i6 t.2] 24 (0,0))):=yR.alloc lR _;have hW:=hb.trans (a.mono hb.size);refine⟨_,rfl,hW,hW.size,zMo (heap_alloc_new U _) (by simp) (TyB.on hs hW) (TyB.on ht hW),fun x hx=>?_⟩;simp at hx;rcases hx with rfl|rfl
 ·exact h1.mono (by decide)
 ·exact h2.mono (by decide)
theorem un2 {W U:World}(hb:bW W U) (hs:TyAt W s.1 s.2 A c) (ht:TyAt W t.1 t.2 C d) (h1:SmT 1000 s) (h2:SmT 1000 t) :
  Calls tP 33 #[vS (some (aD U.heap.size 0)) 2 2] (U.alloc (.cells #[vS A s.1.length c,vI i6 s.2,vS C t.1.length d,vI i6 t.2] 24 (0,0))) (OutT W (conT 16 noneT [s,t])):=by
 obtain⟨X,hX,hW,hz,hr,a⟩:=zMe hb hs ht h1 h2;rw[<-hX];exact (zD7 (H:=W.heap.size) X hz hr a (by simp)).mono fun _ _ h=>outT hW h
theorem in2 {W U:World}(hb:bW W U) (hs:TyAt W s.1 s.2 A c) (ht:TyAt W t.1 t.2 C d) (h1:SmT 1000 s) (h2:SmT 1000 t) :
  Calls tP 34 #[vS (some (aD U.heap.size 0)) 2 2] (U.alloc (.cells #[vS A s.1.length c,vI i6 s.2,vS C t.1.length d,vI i6 t.2] 24 (0,0))) (OutT W (conT 17 anyTy [s,t])):=by
 obtain⟨X,hX,hW,hz,hr,a⟩:=zMe hb hs ht h1 h2;rw[<-hX];exact (zF7 (H:=W.heap.size) X hz hr a (by simp)).mono fun _ _ h=>outT hW h
theorem un3 {W U:World}(hb:bW W U) (hs:TyAt W s.1 s.2 A c) (ht:TyAt W t.1 t.2 C d) (hr:TyAt W r.1 r.2 E e) (h1:SmT 1000 s) (h2:SmT 1000 t) (h3:SmT 1000 r) :
  Calls tP 33 #[vS (some (aD U.heap.size 0)) 3 3] (U.alloc (.cells #[vS A s.1.length c,vI i6 s.2,vS C t.1.length d,vI i6 t.2,vS E r.1.length e,vI i6 r.2] 24 (0,0))) (OutT W (conT 16 noneT [s,t,r])):=by
 have a:bW U (U.alloc (.cells #[vS A s.1.length c,vI i6 s.2,vS C t.1.length d,vI i6 t.2,vS E r.1.length e,vI i6 r.2] 24 (0,0))):=yR.alloc lR _;have hW:=hb.trans (a.mono hb.size);refine (zD7 (l:=[s,t,r]) (H:=W.heap.size) _ hW.size (zMp (heap_alloc_new U _) (by simp) (TyB.on hs hW) (TyB.on ht hW) (TyB.on hr hW)) (fun x hx=>?_) (by simp)).mono fun _ _ h=>outT hW h;simp at hx;rcases hx with rfl|rfl|rfl
 ·exact h1.mono (by decide)
 ·exact h2.mono (by decide)
 ·exact h3.mono (by decide)
theorem cm1 {W U:World}(hb:bW W U) (hs:TyAt W s.1 s.2 A c) (h1:SmT 1000 s) :
  Calls tP 35 #[.agg #[vS A s.1.length c,vI i6 s.2]] U (OutT W (compT 18 [accT s])):=
 (zDu U (hs.later hb) (h1.mono (by decide))).mono fun _ _ h=>outT hb h
theorem df2 {W U:World}(hb:bW W U) (hs:TyAt W s.1 s.2 A c) (ht:TyAt W t.1 t.2 C d) (h1:SmT 1000 s) (h2:SmT 1000 t) :
  Calls tP 36 #[.agg #[vS A s.1.length c,vI i6 s.2],.agg #[vS C t.1.length d,vI i6 t.2]] U (OutT W (conT 17 anyTy [s,compT 18 [accT t]])):=
 (zGu U (hs.later hb) (ht.later hb) (h1.mono (by decide)) (h2.mono (by decide))).mono fun _ _ h=>outT hb h
theorem un0 {W U:World}(hb:bW W U):Calls tP 33 #[vS none 0 0] U (OutT W (conT 16 noneT [])):=
 (zD7 (l:=[]) (H:=U.heap.size) U lR (RowB.nil ..) (fun _ h=>by cases h) (by simp)).mono fun _ _ h=>outT hb h
theorem in0 {W U:World}(hb:bW W U):Calls tP 34 #[vS none 0 0] U (OutT W (conT 17 anyTy [])):=
 (zF7 (l:=[]) (H:=U.heap.size) U lR (RowB.nil ..) (fun _ h=>by cases h) (by simp)).mono fun _ _ h=>outT hb h
end
theorem zQv {n:Nat}{l:List Ty}(hn:1<=n) (h:∀ t∈l,SmT n t):∀ t∈l.map accT,WfT t/\SmT n t:=fun t ht=>by
 obtain⟨s,hs,rfl⟩:=List.mem_map.1 ht;exact⟨zBy s,zC2 (h s hs) hn⟩
theorem zGl {l:List Ty}{k:Int}{o:Ty}(h2:2<=l.length) (h5:l.length<=5) (h:∀ t∈l,SmT 10000 t):(conT k o l).1.length<=1000000:=by
 match l,h2 with
 | a::b::l,_=>
  have h1:=(zGn (kind:=k) (zQv (by decide) h) (by rw[List.length_map];omega)).1;rw[List.length_map]at h1;show (compT k ((a::b::l).map accT)).1.length<=1000000;have:(a::b::l).length*10000<=5*10000:=Nat.mul_le_mul_right _ h5;omega
end Go.Proofs.YteedihhdcbepmaaGreat
