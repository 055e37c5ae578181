/- TypeSubstitute, given that the sanity check .. -/
import Derived.Test.YteedihhdcbepmaaGreatTsZ
import Derived.Test.YteedihhdcbepmaaGreatTs22
import Derived.Test.YteedihhdcbepmaaGreatTs36
set_option maxRecDepth 100000
set_option maxHeartbeats 12800000
set_option linter.all false
open Go.Value renaming slice→vS,int→vI,string→vT
open Go.IntKind renaming i64→i6
open Go.Proofs.Tryz renaming prog→tP
namespace Go.Proofs.YteedihhdcbepmaaGreat
open Go Go.RowKit
theorem nameW {f:World->Prop}{w:World}(h:∀ V,V=w->f V):f w:=h w rfl
theorem nameC {P:Program}{f:Nat}{args:Array Value}{w:World}{R:Ending->World->Prop}(h:∀ V,V=w->Calls P f args V R):Calls P f args w R:=h w rfl
theorem zG1 {w U:World}{A:Option Addr}{n c:Nat}(h:IntsP w A n c) (hb:bW w U):IntsP U A n c:=(RowB.on h hb fun _ _ h=>h).sub (fun b hb2=>by have:=hb.size;omega) fun _ _ h=>h
theorem zJx {ns:List Tn}(h:GenT ns) (hl:ns.length<=7):SmT 1000 (ns,0):=⟨by show ns.length<=1000;omega,h.kid⟩
theorem zQl {ns:List Tn}(hl:ns.length<=7) (hk:∀ x∈ns,kidOk x):left ns (List.replicate ns.length false)<=100000000:=by
 have h:=zNh (M:=2097152) (ns:=ns) (List.replicate ns.length false) fun x hx=>by
  have:=hk x hx;unfold szN;have h1:=this.1;have h2:=this.2;omega
 have h2:=Di (2097152+3) hl;omega
def TBx (U:World) (b:Nat) (t:Ty) (A:Option Addr) (c:Nat):Prop:=U.heap[b]?=some (oE A t.1.length c t.2)/\TyAt U t.1 t.2 A c
theorem TBx.later {U U':World}{b:Nat}{t:Ty}{A:Option Addr}{c:Nat}(h:TBx U b t A c) (hb:bW U U'):TBx U' b t A c:=⟨(hb.block _ (Cv.1 h.1).1).trans h.1,h.2.later hb⟩
theorem TBx.lt {U:World}{b:Nat}{t:Ty}{A:Option Addr}{c:Nat}(h:TBx U b t A c):b<U.heap.size:=(Cv.1 h.1).1
def VBx (U:World) (b:Nat) (v:Vl) (xs:List Value):Prop:=U.heap[b]?=some (.cells xs.toArray 33 (0,0))/\VS 5 U U.heap.size v xs/\okV v=true
theorem VBx.later {U U':World}{b:Nat}{v:Vl}{xs:List Value}(h:VBx U b v xs) (hb:bW U U'):VBx U' b v xs:=⟨(hb.block _ (Cv.1 h.1).1).trans h.1,h.2.1.later hb,h.2.2⟩
theorem VBx.lt {U:World}{b:Nat}{v:Vl}{xs:List Value}(h:VBx U b v xs):b<U.heap.size:=(Cv.1 h.1).1
def BdR (U:World) (g:Nat) (bl:List (List UInt8×Ty)):Prop:=RowP U U.heap.size 3 (vS (some (aD g 0)) bl.length bl.length) bl.length (bndR U U.heap.size bl)
theorem BdR.later {U U':World}{g:Nat}{bl:List (List UInt8×Ty)}(h:BdR U g bl) (hb:bW U U'):BdR U' g bl:=
 (RowB.on h hb fun j cs ⟨s,t,h1,A,c,h2,h3,h4⟩=>⟨s,t,h1,A,c,h2,h3,(TyB.on h4 hb).up hb.size⟩).sub (fun b hb2=>by have:=hb.size;omega) fun _ _ h=>h
theorem zSg {U:World}{g:Nat}{bl:List (List UInt8×Ty)}{t:Ty}{A:Option Addr}{c:Nat}(hB:BdR U g bl) (hT:TyAt U t.1 t.2 A c) (hs:SmT 1000 t) (hbs:∀ x∈bl,SmT 1000 x.2) (hn:bl.length<=5) :
  Calls tP 40 #[.agg #[vS A t.1.length c,vI i6 t.2],vS (some (aD g 0)) bl.length bl.length] U (OutT U (subT t bl)):=
 (zGl U hT (hs.mono (by decide)) hB (fun x hx=>(hbs x hx).mono (by decide)) hn).mono fun _ _ h=>outT yR h
theorem zKf (U:World) (s:List UInt8) (hs:s.length<=maxLen):Calls tP 24 #[vT ⟨s.toArray⟩] U (OutT U (vrN s)):=(zIe s U hs).mono fun _ _ h=>outT yR h
theorem zRi {t:Ty}{n:Nat}(hs:SmT n t) (hn:1<=n) (h9:n<=1000000000:=by decide):(vnm t).length<=1000000000:=by
 have h1:=zB4 (varL (accT t).1 (visR (accT t).1 (accT t).2.toNat));have h2:(varL (accT t).1 (visR (accT t).1 (accT t).2.toNat)).length<=(visR (accT t).1 (accT t).2.toNat).length:=by unfold varL;rw[Bk];exact El _ _
 have h3:=zFb (zCi t);have h4:=(zC5 hs hn).1;show (srt _).length<=_;omega
def nAB (s:List UInt8):Bool:=(s != [65])&&(s != [66])
theorem zMo (t u:Ty) (name:List UInt8) (_:WfT t) (hs:SmT 1000 t) (hu:SmT 1000 u) (bl:List (List UInt8×Ty)) (hbl:bl=[([65],u),([66],vrN [65]),([65],noneT)]) :
  (∀ x∈bl,SmT 1000 x.2)/\(WfT (subT t bl)/\(subT t bl).1.length<=1000000/\((∀ s∈varsT t,s≠[65]/\s≠[66])->∀ v,memT v (subT t bl)=memT v t))/\((subT (vrN [65]) bl).1.length<=1000000/\∀ v,memT v (subT (vrN [65]) bl)=memT v u)/\((subT (vrN [66]) bl).1.length<=1000000/\∀ v,memT v (subT (vrN [66]) bl)=(labsV v).any fun l=>decide (l=[65]))/\((subT (vrN name) bl).1.length<=1000000/\(name≠[65]->name≠[66]->∀ v,memT v (subT (vrN name) bl)=(varB name&&(labsV v).any fun l=>decide (l=name)))):=by
 have e:varB [65]=true:=by decide +kernel
 have i:varB [66]=true:=by decide +kernel
 have f:vrN [65]=vrT [65]:=by unfold vrN;rw[if_pos e]
 have j:vrN [66]=vrT [66]:=by unfold vrN;rw[if_pos i]
 have g:∀ x∈bl,SmT 1000 x.2:=fun x hx=>by
  rw[hbl]at hx;simp at hx;rcases hx with rfl|rfl|rfl
  ·exact hu
  ·exact zDz _ (by decide)
  ·exact⟨by decide,fun y hy=>by simp[noneT]at hy;subst hy;exact⟨Bt _,Bt _⟩⟩
 have b:∀ s,SmT 1000 s->WfT (subT s bl)/\(subT s bl).1.length<=1000000:=fun s hs=>by
  have h:=zMp (t:=s) (l:=bl) (n:=1000) (by decide) hs g;have h2:(bl.length+1)*1000=4000:=by rw[hbl];show (3+1)*1000=4000;decide
  exact⟨h.1,by have:=h.2.1;omega⟩
 have c:∀ s:Ty,(∀ z∈vnm s,z≠[65]/\z≠[66])->∀ v,memT v (subT s bl)=memT v s:=fun s h v=>by
  rw[zMq fun x hx=>?_]
  ·exact (zHp s).2 v
  ·rw[hbl]at hx;simp at hx;rcases hx with rfl|rfl|rfl
   ·exact fun hz=>(h _ hz).1 rfl
   ·exact fun hz=>(h _ hz).2 rfl
   ·exact fun hz=>(h _ hz).1 rfl
 refine⟨g,⟨(b t hs).1,(b t hs).2,c t⟩,⟨(b _ (zDz _ (by decide))).2,fun v=>?_⟩,⟨(b _ (zDz _ (by decide))).2,fun v=>?_⟩,(b _ (zDz _ (by decide))).2,fun n1 n2 v=>?_⟩
 ·rw[f,hbl,show ([([65],u),([66],vrN [65]),([65],noneT)]:List (List UInt8×Ty))=[]++([65],u)::[([66],vrN [65]),([65],noneT)]from rfl,zKg e (fun x hx=>by cases hx)];exact (zHp u).2 v
 ·rw[j,hbl,show ([([65],u),([66],vrN [65]),([65],noneT)]:List (List UInt8×Ty))=[([65],u)]++([66],vrN [65])::[([65],noneT)]from rfl,zKg i (fun x hx=>by simp at hx;subst hx;show ([65]:List UInt8)≠[66];decide),(zHp _).2 v,f];exact zMh e v
 ·cases hv:varB name with
  | true=>
   have d:vrN name=vrT name:=by unfold vrN;rw[if_pos hv]
   rw[d,c (vrT name) (fun z hz=>by rw[zMf hv,Ct]at hz;subst hz;exact⟨n1,n2⟩) v,zMh hv v];rfl
  | false=>
   have d:vrN name=noneT:=by unfold vrN;rw[hv];rfl
   rw[d,c noneT (fun z hz=>by
    have h0:vnm noneT=[]:=by
     have h1:=zBq (varL (accT noneT).1 (visR (accT noneT).1 (accT noneT).2.toNat));rw[zGj zEg]at h1;unfold vnm;rw[zGj zEg];refine List.eq_nil_iff_forall_not_mem.2 fun a ha=>?_;have h2:=(h1 a).1 ha;have h3:varL noneT.1 (visR noneT.1 noneT.2.toNat)=[]:=by rfl
     rw[h3]at h2;cases h2
    rw[h0]at hz;cases hz) v,zIu]
   rfl
theorem zLn (hA:Hid zOm) (hN:Hid zDg) (A1 A2 A3:Option Addr) (n1 c1 n2 c2 n3 c3:Nat) (name:List UInt8) (w:World) (hR1:IntsP w A1 n1 c1) (hn1:n1<=maxLen) (hR2:IntsP w A2 n2 c2) (hn2:n2<=maxLen) (hR3:IntsP w A3 n3 c3) (hn3:n3<=maxLen) (hnm:name.length<=maxLen) :
  Calls tP 8 #[vS A1 n1 c1,vS A2 n2 c2,vS A3 n3 c3,vT ⟨name.toArray⟩] w fun e w'=>e=.returned (.bool true)/\bW w w':=by
 have aB:=hA.out w;by_cases h1:(80:Int)<(n1:Int)
 ·clear hR1 hR2 hR3 hn1 hn2 hn3;go_enter Tryz.func8,Tryz.ntmps8;go_wp2_with (go_at_call 10;refine aB.mono ?_;rintro e w5 ⟨rfl,hb5⟩;replace hb5:=xI hb5);go_ret;exact⟨by first|rfl|simp,hb5.out⟩
 by_cases h2:(80:Int)<(n2:Int)
 ·clear hR1 hR2 hR3 hn1 hn2 hn3;go_enter Tryz.func8,Tryz.ntmps8;go_wp2_with (go_at_call 10;refine aB.mono ?_;rintro e w5 ⟨rfl,hb5⟩;replace hb5:=xI hb5);go_ret;exact⟨by first|rfl|simp,hb5.out⟩
 by_cases h3:(80:Int)<(n3:Int)
 ·clear hR1 hR2 hR3 hn1 hn2 hn3;go_enter Tryz.func8,Tryz.ntmps8;go_wp2_with (go_at_call 10;refine aB.mono ?_;rintro e w5 ⟨rfl,hb5⟩;replace hb5:=xI hb5);go_ret;exact⟨by first|rfl|simp,hb5.out⟩
 have bi:=zG8 hN A1 n1 c1 A2 n2 c2 w hR1 hn1 hR2 hn2;have HI:=xI (aN hR3 (aN hn3 (aN hR2 (aN hn2 hnm))));clear hR1 hR2 hR3 hn1 hn2 hn3 aB hnm;go_enter Tryz.func8,Tryz.ntmps8;go_wp2_with fail;clear h1 h2 h3;refine bi.mono ?_;rintro e w1 ⟨ns,csT,v1,csV,rfl,hG1,hl1,hl7,hT1,hV1,hok1,-,hb1⟩;clear bi;obtain⟨u,rfl,_,C⟩:=id hT1;obtain⟨As,cs,rfl,_⟩:=C.form;obtain⟨k1,i1,x1,ad,aa,ah,ab,aR,aF,aQ,aE,aS,aG,aT,aI,rfl,rfl⟩:=vb_mk hV1;have HG:=xI (aN hG1 (aN hl1 (aN hl7 (aN hT1 (aN hV1 (aN hok1 hb1))))));clear hG1 hl1 hl7 hT1 hV1 hok1 hb1 C;go_wp2_with fail;refine nameC fun W1 hW1=>?_;have Q:bW w1 W1:=by rw[hW1];exact (yR.alloc lR _).alloc (by simp) _
 have ai:W1.heap.size=w1.heap.size+2:=by rw[hW1];simp
 have bb:TBx W1 w1.heap.size (ns,0) As cs:=⟨by rw[hW1,Bp _ _ _ (by simp)];exact Bl w1 _,(HG.out.2.2.2.1.keep (Same.of_below Q fun b hb=>hb.2)).sub fun b hb=>(show b<W1.heap.size by have:=hb.2;omega)⟩;have a9:VBx W1 (w1.heap.size+1) (.mk k1 i1 x1 ad aa ah ab) [vI i6 k1,vI i6 i1,vT ⟨x1.toArray⟩,vS aR ad.length aF,vS aQ aa.length aE,vS aS ah.length aG,vS aT ab.length aI]:=⟨by rw[hW1];exact zAg _ (by simp),VB.sub (fun b hb=>(show b<W1.heap.size by have:=hb.2;omega)) lR (VB.keep (Same.of_below Q fun b hb=>hb.2) HG.out.2.2.2.2.1),HG.out.2.2.2.2.2.1⟩;have O:bW w W1:=HG.out.2.2.2.2.2.2.trans (Q.mono HG.out.2.2.2.2.2.2.size);have bh:=zG8 hN A3 n3 c3 A2 n2 c2 W1 (zG1 HI.out.1 O) HI.out.2.1 (zG1 HI.out.2.2.1 O) HI.out.2.2.2.1;have bc:WfT (ns,0):=WfT.mk HG.out.1.wf (Int.le_refl 0) (by have:=HG.out.2.1;show (0:Int)<(ns.length:Int);omega);have bf:=zQl HG.out.2.2.1 HG.out.1.kid;have H1:=xI (aN bb (aN a9 (aN O (aN ai (aN bc (aN (zJx HG.out.1 HG.out.2.2.1) (aN bf HG.out.1.kid)))))));clear hW1 Q bb a9 O ai bc bf HG;refine bh.mono ?_;rintro e w2 ⟨ms,csT,v2,csV,rfl,hG2,hl2,hl27,hT2,hV2,hok2,-,hb2⟩;clear bh;obtain⟨u,rfl,_,C⟩:=id hT2;obtain⟨At,ct,rfl,_⟩:=C.form;obtain⟨k2,i2,x2,r,q,x,k,J,E,I,D,L,F,M,G,rfl,rfl⟩:=vb_mk hV2;have HG:=xI (aN hG2 (aN hl2 (aN hl27 (aN hT2 (aN hV2 (aN hok2 hb2))))));clear hG2 hl2 hl27 hT2 hV2 hok2 hb2 C;go_wp2_with fail;refine nameW fun W2 hW2=>?_;have P:bW w2 W2:=by rw[hW2];exact (yR.alloc lR _).alloc (by simp) _
 have aU:W2.heap.size=w2.heap.size+2:=by rw[hW2];simp
 have R:bW W1 W2:=HG.out.2.2.2.2.2.2.trans (P.mono HG.out.2.2.2.2.2.2.size);have ba:TBx W2 w2.heap.size (ms,0) At ct:=⟨by rw[hW2,Bp _ _ _ (by simp)];exact Bl w2 _,(HG.out.2.2.2.1.keep (Same.of_below P fun b hb=>hb.2)).sub fun b hb=>(show b<W2.heap.size by have:=hb.2;omega)⟩;have a8:VBx W2 (w2.heap.size+1) (.mk k2 i2 x2 r q x k) [vI i6 k2,vI i6 i2,vT ⟨x2.toArray⟩,vS J r.length E,vS I q.length D,vS L x.length F,vS M k.length G]:=⟨by rw[hW2];exact zAg _ (by simp),VB.sub (fun b hb=>(show b<W2.heap.size by have:=hb.2;omega)) lR (VB.keep (Same.of_below P fun b hb=>hb.2) HG.out.2.2.2.2.1),HG.out.2.2.2.2.2.1⟩;have ak:bW w W2:=H1.out.2.2.1.trans (R.mono H1.out.2.2.1.size);have H2:=xI (aN (H1.out.1.later R) (aN (H1.out.2.1.later R) (aN ba (aN a8 ak))));obtain⟨bl,a0⟩:∃ bl:List (List UInt8×Ty),bl=[([65],(ms,0)),([66],vrN [65]),([65],noneT)]:=⟨_,rfl⟩;have HF:=xI (zMo (ns,0) (ms,0) name H1.out.2.2.2.2.1 H1.out.2.2.2.2.2.1 (zJx HG.out.1 HG.out.2.2.1) bl a0);have aw:=xI a0;have bE:=xI (aN HG.out.2.2.1 (zJx HG.out.1 HG.out.2.2.1));clear hW2 P aU R ba a8 ak HG a0;have hd:bW W2 W2.drew:=yR.drew;have HQ:Hid (∀ wq,bW W2 wq->jT wq w2.heap.size At ms.length ct 0):=xI fun wq h=>zAf ((h.block _ H2.out.2.2.1.lt).trans H2.out.2.2.1.1);refine wR HQ (by kernel_rfl) (HQ.out _ hd) (fun _=>?_);refine oT 0 (HQ.out _ hd) ?_;refine oT 1 (HQ.out _ hd) ?_;refine oO 2 fun K hK=>?_;go_simp;refine (zKf W2.drew [65] (by decide)).mono ?_;rintro e y1 ⟨A4,c4,rfl,hT4,hB4⟩;have m:bW W2 y1:=hd.trans hB4;refine hK _ _ (HQ.out _ m) (oP ?_);clear hK K;refine oT 3 (HQ.out _ m) ?_;refine oO 4 fun K hK=>?_;go_simp;refine ((zFg y1).mono fun _ _ h=>outT yR h).mono ?_;rintro e y2 ⟨A5,c5,rfl,hT5,hB5⟩;have aj:bW W2 y2:=m.trans (hB5.mono m.size);refine hK _ _ (HQ.out _ aj) (oP ?_);clear hK K;refine oT 5 (HQ.out _ aj) ?_;refine oO 6 fun K hK=>?_;go_simp;refine nameW fun Z hZ=>?_;have aA:bW y2 Z:=by rw[hZ];exact yR.alloc lR _
 have N:bW W2 Z:=aj.trans (aA.mono aj.size);have kZ:Z.heap[y2.heap.size]?=some (.cells #[vT ⟨#[65]⟩,vS At ms.length ct,vI i6 0,vT ⟨#[66]⟩,vS A4 (vrN [65]).1.length c4,vI i6 (vrN [65]).2,vT ⟨#[65]⟩,vS A5 noneT.1.length c5,vI i6 noneT.2] 76 (0,0)):=by rw[hZ];exact Bl _ _
 have bk:BdR Z y2.heap.size bl:=by
  have az:y2.heap.size<Z.heap.size:=(Cv.1 kZ).1;have a3:=hT4.later (hB5.trans (aA.mono hB5.size));have a2:=hT5.later aA;have bz:=(H2.out.2.2.1.later N).2;rw[aw.out];refine⟨_,_,rfl,⟨by show 3<=maxLen;unfold maxLen;decide,Bc _⟩,fun _=>⟨_,0,rfl,az,az,fun j hj=>?_⟩⟩
  match j,hj with
  | 0,_=>exact⟨[vT ⟨#[65]⟩,vS At ms.length ct,vI i6 0],rfl,fun i hi=>by
    match i,hi with
    | 0,_=>exact (Bv kZ _).trans rfl
    | 1,_=>exact (Bv kZ _).trans rfl
    | 2,_=>exact (Bv kZ _).trans rfl,[65],(ms,0),rfl,At,ct,rfl,by show 1<=maxLen;unfold maxLen;decide,bz⟩
  | 1,_=>exact⟨[vT ⟨#[66]⟩,vS A4 (vrN [65]).1.length c4,vI i6 (vrN [65]).2],rfl,fun i hi=>by
    match i,hi with
    | 0,_=>exact (Bv kZ _).trans rfl
    | 1,_=>exact (Bv kZ _).trans rfl
    | 2,_=>exact (Bv kZ _).trans rfl,[66],vrN [65],rfl,A4,c4,rfl,by show 1<=maxLen;unfold maxLen;decide,a3⟩
  | 2,_=>exact⟨[vT ⟨#[65]⟩,vS A5 noneT.1.length c5,vI i6 noneT.2],rfl,fun i hi=>by
    match i,hi with
    | 0,_=>exact (Bv kZ _).trans rfl
    | 1,_=>exact (Bv kZ _).trans rfl
    | 2,_=>exact (Bv kZ _).trans rfl,[65],noneT,rfl,A5,c5,rfl,by show 1<=maxLen;unfold maxLen;decide,a2⟩
  | n+3,hj=>exact absurd hj (by simp)
 obtain⟨TT,a1⟩:∃ TT:Ty->Ty,TT=fun s=>subT s bl:=⟨_,rfl⟩;have ao:Hid (∀ U,bW Z U->∀ (s:Ty) (A:Option Addr) (c:Nat),TyAt U s.1 s.2 A c->SmT 1000 s->Calls tP 40 #[.agg #[vS A s.1.length c,vI i6 s.2],vS (some (aH y2 0)) 3 3] U (OutT U (TT s))):=xI fun U hU s A c hT hs=>by
  have h:=zSg (bk.later hU) hT hs HF.out.1 (by rw[aw.out];show 3<=5;decide);rw[aw.out]at h;rw[a1,aw.out];exact h
 have av:Hid ((WfT (TT (ns,0))/\(TT (ns,0)).1.length<=1000000/\((∀ s∈varsT (ns,0),s≠[65]/\s≠[66])->∀ v,memT v (TT (ns,0))=memT v (ns,0)))/\((TT (vrN [65])).1.length<=1000000/\∀ v,memT v (TT (vrN [65]))=memT v (ms,0))/\((TT (vrN [66])).1.length<=1000000/\∀ v,memT v (TT (vrN [66]))=(labsV v).any fun l=>decide (l=[65]))/\((TT (vrN name)).1.length<=1000000/\(name≠[65]->name≠[66]->∀ v,memT v (TT (vrN name))=(varB name&&(labsV v).any fun l=>decide (l=name))))):=xI (by rw[a1];exact HF.out.2);have S:=xI (aN (H2.out.1.later N) (aN (H2.out.2.1.later N) (aN (H2.out.2.2.1.later N) (aN (H2.out.2.2.2.1.later N) (H2.out.2.2.2.2.trans (N.mono H2.out.2.2.2.2.size))))));refine hK _ _ (HQ.out _ N) (oP ?_);clear hK K hZ aA kZ bk a1;refine oT 7 (HQ.out _ N) ?_;refine wD ?_;obtain⟨t0,t1⟩:=zAf S.out.1.1;have hc:=ao.out Z yR (ns,0) As cs S.out.1.2 H1.out.2.2.2.2.2.1;have H0:=xI (Bw Z.heap.size Z);clear hd m aj N hT4 hB4 hT5 hB5 HF HQ H2;go_wp2_with fail;clear t0 t1;refine hc.mono ?_;clear hc;rintro e xX ⟨AX,cX,rfl,ae,hBX⟩;have aJ:=xI (aN ae (hBX));clear ae hBX;go_wp2_with fail;refine nameC fun YX hYX=>?_;have z:bW xX YX:=by rw[hYX];exact yR.alloc lR _
 have f:bW Z YX:=aJ.out.2.trans (z.mono aJ.out.2.size);have bm:TBx YX xX.heap.size (TT (ns,0)) AX cX:=⟨by rw[hYX];exact Bl _ _,aJ.out.1.later z⟩;have V:=xI (aN (bm) (aN (S.out.1.later f) (aN (S.out.2.1.later f) (aN (S.out.2.2.1.later f) (aN (S.out.2.2.2.1.later f) (S.out.2.2.2.2.trans (f.mono S.out.2.2.2.2.size)))))));have HX:=xI (H0.out.trans (f.mono H0.out.size));clear hYX z f bm aJ S;refine (zKf YX [65] (by decide)).mono ?_;rintro e vA ⟨AvA,cvA,rfl,hTv,hBv⟩;have bt:=xI hBv;have hc:=ao.out vA (HX.out.trans (hBv.mono HX.out.size)) (vrN [65]) AvA cvA hTv (zDz _ (by decide));clear hTv hBv;go_wp2_with fail;refine hc.mono ?_;clear hc;rintro e xA ⟨AA,cA,rfl,ag,hBA⟩;have aL:=xI (aN ag (bt.out.trans (hBA.mono bt.out.size)));clear ag hBA;go_wp2_with fail;refine nameC fun YA hYA=>?_;have z:bW xA YA:=by rw[hYA];exact yR.alloc lR _
 have f:bW YX YA:=aL.out.2.trans (z.mono aL.out.2.size);have bp:TBx YA xA.heap.size (TT (vrN [65])) AA cA:=⟨by rw[hYA];exact Bl _ _,aL.out.1.later z⟩;have B:=xI (aN (bp) (aN (V.out.1.later f) (aN (V.out.2.1.later f) (aN (V.out.2.2.1.later f) (aN (V.out.2.2.2.1.later f) (aN (V.out.2.2.2.2.1.later f) (V.out.2.2.2.2.2.trans (f.mono V.out.2.2.2.2.2.size))))))));have HA:=xI (HX.out.trans (f.mono HX.out.size));clear hYA z f bp aL V;refine (zKf YA [66] (by decide)).mono ?_;rintro e vB ⟨AvB,cvB,rfl,hTv,hBv⟩;have br:=xI hBv;have hc:=ao.out vB (HA.out.trans (hBv.mono HA.out.size)) (vrN [66]) AvB cvB hTv (zDz _ (by decide));clear hTv hBv;go_wp2_with fail;refine hc.mono ?_;clear hc;rintro e xB ⟨AB,cB,rfl,af,hBB⟩;have aK:=xI (aN af (br.out.trans (hBB.mono br.out.size)));clear af hBB;go_wp2_with fail;refine nameC fun YB hYB=>?_;have z:bW xB YB:=by rw[hYB];exact yR.alloc lR _
 have f:bW YA YB:=aK.out.2.trans (z.mono aK.out.2.size);have bo:TBx YB xB.heap.size (TT (vrN [66])) AB cB:=⟨by rw[hYB];exact Bl _ _,aK.out.1.later z⟩;have H:=xI (aN (bo) (aN (B.out.1.later f) (aN (B.out.2.1.later f) (aN (B.out.2.2.1.later f) (aN (B.out.2.2.2.1.later f) (aN (B.out.2.2.2.2.1.later f) (aN (B.out.2.2.2.2.2.1.later f) (B.out.2.2.2.2.2.2.trans (f.mono B.out.2.2.2.2.2.2.size)))))))));have HB:=xI (HA.out.trans (f.mono HA.out.size));clear hYB z f bo aK B;refine (zKf YB name HI.out.2.2.2.2).mono ?_;rintro e vC ⟨AvC,cvC,rfl,hTv,hBv⟩;have bq:=xI hBv;have hc:=ao.out vC (HB.out.trans (hBv.mono HB.out.size)) (vrN name) AvC cvC hTv (zDz _ (by decide));clear hTv hBv;go_wp2_with fail;refine hc.mono ?_;clear hc;rintro e xC ⟨AC,cC,rfl,X,hBC⟩;have am:=xI (aN X (bq.out.trans (hBC.mono bq.out.size)));clear X hBC;obtain⟨TX,ae⟩:∃ TX,TX=TT (ns,0):=⟨_,rfl⟩;obtain⟨TA,ag⟩:∃ TA,TA=TT (vrN [65]):=⟨_,rfl⟩;obtain⟨TB,af⟩:∃ TB,TB=TT (vrN [66]):=⟨_,rfl⟩;obtain⟨TC,X⟩:∃ TC,TC=TT (vrN name):=⟨_,rfl⟩;rw[<-ae,<-ag,<-af]at H;rw[<-X]at am;rw[<-ae,<-ag,<-af,<-X]at av;rw[<-X];clear ae ag af X ao aw;rcases (show name=[65]\/name=[66]\/(name≠[65]/\name≠[66]) by by_cases a:name=[65]<;>by_cases b:name=[66]<;>simp_all)with hn|hn|⟨hn,hn2⟩
 case' inl=>
  have q1:(name==[65])=true:=beq_iff_eq.2 hn;have q2:(name != [65])=false:=by simp[hn]
  clear hn;go_wp2_with fail;clear q1 q2
 case' inr.inl=>
  have q1:(name==[65])=false:=by simp[hn]
  have q2:(name != [65])=true:=by simp[hn]
  have q3:(name==[66])=true:=beq_iff_eq.2 hn;have q4:(name != [66])=false:=by simp[hn]
  clear hn;go_wp2_with fail;clear q1 q2 q3 q4
 case' inr.inr=>
  have q1:(name==[65])=false:=Cm.2 hn;have q2:(name != [65])=true:=by simp[hn]
  have q3:(name==[66])=false:=Cm.2 hn2;have q4:(name != [66])=true:=by simp[hn2]
  have aO:=xI (aN hn hn2);clear hn hn2;go_wp2_with fail;clear q1 q2 q3 q4
 all_goals (
  refine nameW fun Y4 hY4=>?_;have z:bW xC Y4:=by rw[hY4];exact yR.alloc lR _
  have f:bW YB Y4:=am.out.2.trans (z.mono am.out.2.size);have bn:TBx Y4 xC.heap.size TC AC cC:=⟨by rw[hY4];exact Bl _ _,am.out.1.later z⟩;have o:=xI (aN (bn) (aN (H.out.1.later f) (aN (H.out.2.1.later f) (aN (H.out.2.2.1.later f) (aN (H.out.2.2.2.1.later f) (aN (H.out.2.2.2.2.1.later f) (aN (H.out.2.2.2.2.2.1.later f) (aN (H.out.2.2.2.2.2.2.1.later f) (H.out.2.2.2.2.2.2.2.trans (f.mono H.out.2.2.2.2.2.2.2.size))))))))));clear hY4 z f bn am H;have d:Hid (∀ U,bW Y4 U->(jT U xX.heap.size AX TX.1.length cX TX.2)/\(jV U (w2.heap.size+1) k2 i2 ⟨x2.toArray⟩ J r.length E I q.length D L x.length F M k.length G)/\(jT U xA.heap.size AA TA.1.length cA TA.2)/\(jT U w2.heap.size At ms.length ct 0)/\(jT U xB.heap.size AB TB.1.length cB TB.2)/\(jT U xC.heap.size AC TC.1.length cC TC.2)):=xI fun U hU=>⟨zAf (o.out.2.2.2.1.later hU).1,zAc (o.out.2.2.2.2.2.2.2.1.later hU).1,zAf (o.out.2.2.1.later hU).1,zAf (o.out.2.2.2.2.2.2.1.later hU).1,zAf (o.out.2.1.later hU).1,zAf (o.out.1.later hU).1⟩;have ay:=o.out.2.2.2.2.2.2.2.1;have hF:=av.out;have an:Hid (∀ U,bW Y4 U->Calls tP 32 #[.agg #[vS AX TX.1.length cX,vI i6 TX.2]] U fun e w'=>e=.returned (vI i6 0)/\bW Y4 w'):=xI fun U hU=>by
   have h:=zMe U (o.out.2.2.2.1.later hU).2 hF.1.2.1;rw[show wfC TX.1 TX.2=0 from hF.1.1]at h;exact h.mono fun e w' ⟨h1,h2⟩=>⟨h1,hU.trans (h2.mono hU.size)⟩
  have HM:∀ (T:Ty) (A:Option Addr) (b c:Nat),TBx Y4 b T A c->T.1.length<=1000000->∀ U,bW Y4 U->Calls tP 26 #[.agg #[vI i6 k2,vI i6 i2,vT ⟨x2.toArray⟩,vS J r.length E,vS I q.length D,vS L x.length F,vS M k.length G],.agg #[vS A T.1.length c,vI i6 T.2]] U fun e w'=>e=.returned (.bool (memT (.mk k2 i2 x2 r q x k) T))/\bW Y4 w':=fun T A b c hT hl U hU=>zNb hN T Y4 U hU (hT.later hU).2 ay.2.1 ay.2.2 hl;obtain⟨mu,aX⟩:∃ mu,mu=memT (.mk k2 i2 x2 r q x k) (ms,0):=⟨_,rfl⟩;obtain⟨la,aZ⟩:∃ la,la=k.any fun l=>decide (l=[65]):=⟨_,rfl⟩;obtain⟨lc,aY⟩:∃ lc,lc=k.any fun l=>decide (l=name):=⟨_,rfl⟩;obtain⟨vb,aV⟩:∃ vb,vb=varB name:=⟨_,rfl⟩;have ar:Hid (∀ U,bW Y4 U->Calls tP 26 #[.agg #[vI i6 k2,vI i6 i2,vT ⟨x2.toArray⟩,vS J r.length E,vS I q.length D,vS L x.length F,vS M k.length G],.agg #[vS AA TA.1.length cA,vI i6 TA.2]] U fun e w'=>e=.returned (.bool (mu))/\bW Y4 w'):=xI fun U hU=>by
   have h:=HM TA AA _ cA o.out.2.2.1 hF.2.1.1 U hU
   rwa [hF.2.1.2,<-aX]at h
  have ap:Hid (∀ U,bW Y4 U->Calls tP 26 #[.agg #[vI i6 k2,vI i6 i2,vT ⟨x2.toArray⟩,vS J r.length E,vS I q.length D,vS L x.length F,vS M k.length G],.agg #[vS At ms.length ct,vI i6 0]] U fun e w'=>e=.returned (.bool (mu))/\bW Y4 w'):=xI fun U hU=>by
   have h:=HM (ms,0) At _ ct o.out.2.2.2.2.2.2.1 (by have:=bE.out.1;show ms.length<=1000000;omega) U hU
   rwa [<-aX]at h
  have aq:Hid (∀ U,bW Y4 U->Calls tP 26 #[.agg #[vI i6 k2,vI i6 i2,vT ⟨x2.toArray⟩,vS J r.length E,vS I q.length D,vS L x.length F,vS M k.length G],.agg #[vS AB TB.1.length cB,vI i6 TB.2]] U fun e w'=>e=.returned (.bool (la))/\bW Y4 w'):=xI fun U hU=>by
   have h:=HM TB AB _ cB o.out.2.1 hF.2.2.1.1 U hU;rw[hF.2.2.1.2,show (labsV (.mk k2 i2 x2 r q x k))=k from rfl,<-aZ]at h;exact h
  have a6:Hid (name≠[65]->name≠[66]->∀ U,bW Y4 U->Calls tP 26 #[.agg #[vI i6 k2,vI i6 i2,vT ⟨x2.toArray⟩,vS J r.length E,vS I q.length D,vS L x.length F,vS M k.length G],.agg #[vS AC TC.1.length cC,vI i6 TC.2]] U fun e w'=>e=.returned (.bool (vb&&lc))/\bW Y4 w'):=xI fun n1 n2 U hU=>by
   have h:=HM TC AC _ cC o.out.1 hF.2.2.2.1 U hU;rw[hF.2.2.2.2 n1 n2,show (labsV (.mk k2 i2 x2 r q x k))=k from rfl,<-aY,<-aV]at h;exact h
  have Y:∀ (tn:List UInt8) U,bW Y4 U->Calls tP 30 #[.agg #[vI i6 k2,vI i6 i2,vT ⟨x2.toArray⟩,vS J r.length E,vS I q.length D,vS L x.length F,vS M k.length G],vT ⟨tn.toArray⟩] U fun e w'=>e=.returned (.bool (k.any fun l=>decide (l=tn)))/\bW Y4 w':=fun tn U hU=>
   (zIy 4 k2 i2 x2 r q x k J I L M E D F G tn U (ay.later hU).2.1).mono fun e w' ⟨h1,h2⟩=>⟨h1,hU.trans (h2.mono hU.size)⟩
  have B:Hid (∀ U,bW Y4 U->Calls tP 30 #[.agg #[vI i6 k2,vI i6 i2,vT ⟨x2.toArray⟩,vS J r.length E,vS I q.length D,vS L x.length F,vS M k.length G],vT ⟨#[65]⟩] U fun e w'=>e=.returned (.bool la)/\bW Y4 w'):=xI fun U hU=>by
   rw[aZ];exact Y [65] U hU
  have au:Hid (∀ U,bW Y4 U->Calls tP 30 #[.agg #[vI i6 k2,vI i6 i2,vT ⟨x2.toArray⟩,vS J r.length E,vS I q.length D,vS L x.length F,vS M k.length G],vT ⟨name.toArray⟩] U fun e w'=>e=.returned (.bool lc)/\bW Y4 w'):=xI fun U hU=>by
   rw[aY];exact Y name U hU
  have a4:Hid (∀ U,Calls tP 29 #[vT ⟨name.toArray⟩] U fun e w'=>e=.returned (.bool vb)/\U=w'):=xI fun U=>by
   rw[aV];exact zA2 ⟨name.toArray⟩ U (by show name.toArray.size<=maxLen;simpa using HI.out.2.2.2.2)
  have bx:(mu != mu)=false:=by simp
  have bw:(la != la)=false:=by simp
  have m:bW Y4 Y4.drew:=yR.drew;clear ay hF HM aX aZ aY aV Y)
 case' inl=>
  refine wR d (by kernel_rfl) (d.out _ m) (fun _=>?_);refine oT 0 (d.out _ m) ?_;refine oO 1 fun K hK=>?_;go_simp;refine (an.out _ m).mono ?_;rintro e p1 ⟨rfl,hp1⟩;refine hK _ _ (d.out _ hp1) (oP ?_);clear hK K;refine oT 2 (d.out _ hp1) ?_
  (iterate 3 refine oY (d.out _ hp1) ?_)
  refine oT 7 (d.out _ hp1) ?_;refine oT 8 (d.out _ hp1) ?_;refine oO 6 fun K hK=>?_;go_simp;refine (ar.out _ hp1).mono ?_;rintro e p2 ⟨rfl,hp2⟩;refine hK _ _ (d.out _ hp2) (oP ?_);clear hK K;refine oO 9 fun K hK=>?_;go_simp;refine (ap.out _ hp2).mono ?_;rintro e p3 ⟨rfl,hp3⟩;refine hK _ _ (d.out _ hp3) (oP ?_);clear hK K;refine oT 10 (d.out _ hp3) ?_
  (iterate 4 refine oY (d.out _ hp3) ?_)
  refine oT 16 (d.out _ hp3) ?_;refine oO 15 fun K hK=>?_;go_simp;refine (aq.out _ hp3).mono ?_;rintro e p4 ⟨rfl,hp4⟩;refine hK _ _ (d.out _ hp4) (oP ?_);clear hK K;refine oO 17 fun K hK=>?_;go_simp;refine (B.out _ hp4).mono ?_;rintro e p5 ⟨rfl,hp5⟩;refine hK _ _ (d.out _ hp5) (oP ?_);clear hK K;refine oT 18 (d.out _ hp5) ?_
  (iterate 4 refine oY (d.out _ hp5) ?_)
  refine oU 23 (d.out _ hp5) ?_
  (iterate 10 refine oZ (d.out _ hp5) ?_)
  refine oT 34 (d.out _ hp5) ?_;refine oT 35 (d.out _ hp5) ?_;refine wD ?_;have H9:=xI hp5;obtain⟨p9,rfl⟩:∃ p9,p9=p5:=⟨_,rfl⟩
 case' inr.inl=>
  refine wR d (by kernel_rfl) (d.out _ m) (fun _=>?_);refine oT 0 (d.out _ m) ?_;refine oO 1 fun K hK=>?_;go_simp;refine (an.out _ m).mono ?_;rintro e p1 ⟨rfl,hp1⟩;refine hK _ _ (d.out _ hp1) (oP ?_);clear hK K;refine oT 2 (d.out _ hp1) ?_
  (iterate 3 refine oY (d.out _ hp1) ?_)
  refine oT 7 (d.out _ hp1) ?_;refine oT 8 (d.out _ hp1) ?_;refine oO 6 fun K hK=>?_;go_simp;refine (ar.out _ hp1).mono ?_;rintro e p2 ⟨rfl,hp2⟩;refine hK _ _ (d.out _ hp2) (oP ?_);clear hK K;refine oO 9 fun K hK=>?_;go_simp;refine (ap.out _ hp2).mono ?_;rintro e p3 ⟨rfl,hp3⟩;refine hK _ _ (d.out _ hp3) (oP ?_);clear hK K;refine oT 10 (d.out _ hp3) ?_
  (iterate 4 refine oY (d.out _ hp3) ?_)
  refine oT 16 (d.out _ hp3) ?_;refine oO 15 fun K hK=>?_;go_simp;refine (aq.out _ hp3).mono ?_;rintro e p4 ⟨rfl,hp4⟩;refine hK _ _ (d.out _ hp4) (oP ?_);clear hK K;refine oO 17 fun K hK=>?_;go_simp;refine (B.out _ hp4).mono ?_;rintro e p5 ⟨rfl,hp5⟩;refine hK _ _ (d.out _ hp5) (oP ?_);clear hK K;refine oT 18 (d.out _ hp5) ?_
  (iterate 4 refine oY (d.out _ hp5) ?_)
  refine oU 23 (d.out _ hp5) ?_
  (iterate 10 refine oZ (d.out _ hp5) ?_)
  refine oT 34 (d.out _ hp5) ?_;refine oT 35 (d.out _ hp5) ?_;refine wD ?_;have H9:=xI hp5;obtain⟨p9,rfl⟩:∃ p9,p9=p5:=⟨_,rfl⟩
 case' inr.inr=>
  cases vb
  case' true=>
   refine wR d (by kernel_rfl) (d.out _ m) (fun _=>?_);refine oT 0 (d.out _ m) ?_;refine oO 1 fun K hK=>?_;go_simp;refine (an.out _ m).mono ?_;rintro e p1 ⟨rfl,hp1⟩;refine hK _ _ (d.out _ hp1) (oP ?_);clear hK K;refine oT 2 (d.out _ hp1) ?_
   (iterate 3 refine oY (d.out _ hp1) ?_)
   refine oT 7 (d.out _ hp1) ?_;refine oT 8 (d.out _ hp1) ?_;refine oO 6 fun K hK=>?_;go_simp;refine (ar.out _ hp1).mono ?_;rintro e p2 ⟨rfl,hp2⟩;refine hK _ _ (d.out _ hp2) (oP ?_);clear hK K;refine oO 9 fun K hK=>?_;go_simp;refine (ap.out _ hp2).mono ?_;rintro e p3 ⟨rfl,hp3⟩;refine hK _ _ (d.out _ hp3) (oP ?_);clear hK K;refine oT 10 (d.out _ hp3) ?_
   (iterate 4 refine oY (d.out _ hp3) ?_)
   refine oT 16 (d.out _ hp3) ?_;refine oO 15 fun K hK=>?_;go_simp;refine (aq.out _ hp3).mono ?_;rintro e p4 ⟨rfl,hp4⟩;refine hK _ _ (d.out _ hp4) (oP ?_);clear hK K;refine oO 17 fun K hK=>?_;go_simp;refine (B.out _ hp4).mono ?_;rintro e p5 ⟨rfl,hp5⟩;refine hK _ _ (d.out _ hp5) (oP ?_);clear hK K;refine oT 18 (d.out _ hp5) ?_
   (iterate 6 refine oY (d.out _ hp5) ?_)
   refine oT 26 (d.out _ hp5) ?_;refine oO 25 fun K hK=>?_;go_simp;refine (a6.out aO.out.1 aO.out.2 _ hp5).mono ?_;rintro e p6 ⟨rfl,hp6⟩;refine hK _ _ (d.out _ hp6) (oP ?_);clear hK K;refine oO 27 fun K hK=>?_;go_simp;refine (a4.out p6).mono ?_;rintro e p7 ⟨rfl,hp7⟩;subst hp7;refine hK _ _ (d.out _ hp6) (oP ?_);clear hK K;refine oT 28 (d.out _ hp6) ?_
   (iterate 2 refine oY (d.out _ hp6) ?_)
   refine oO 31 fun K hK=>?_;go_simp;refine (au.out _ hp6).mono ?_;rintro e p8 ⟨rfl,hp8⟩;refine hK _ _ (d.out _ hp8) (oP ?_);clear hK K;refine oT 32 (d.out _ hp8) ?_
   (iterate 3 refine oY (d.out _ hp8) ?_)
   refine wD ?_;have H9:=xI hp8;obtain⟨p9,rfl⟩:∃ p9,p9=p8:=⟨_,rfl⟩
  case' false=>
   refine wR d (by kernel_rfl) (d.out _ m) (fun _=>?_);refine oT 0 (d.out _ m) ?_;refine oO 1 fun K hK=>?_;go_simp;refine (an.out _ m).mono ?_;rintro e p1 ⟨rfl,hp1⟩;refine hK _ _ (d.out _ hp1) (oP ?_);clear hK K;refine oT 2 (d.out _ hp1) ?_
   (iterate 3 refine oY (d.out _ hp1) ?_)
   refine oT 7 (d.out _ hp1) ?_;refine oT 8 (d.out _ hp1) ?_;refine oO 6 fun K hK=>?_;go_simp;refine (ar.out _ hp1).mono ?_;rintro e p2 ⟨rfl,hp2⟩;refine hK _ _ (d.out _ hp2) (oP ?_);clear hK K;refine oO 9 fun K hK=>?_;go_simp;refine (ap.out _ hp2).mono ?_;rintro e p3 ⟨rfl,hp3⟩;refine hK _ _ (d.out _ hp3) (oP ?_);clear hK K;refine oT 10 (d.out _ hp3) ?_
   (iterate 4 refine oY (d.out _ hp3) ?_)
   refine oT 16 (d.out _ hp3) ?_;refine oO 15 fun K hK=>?_;go_simp;refine (aq.out _ hp3).mono ?_;rintro e p4 ⟨rfl,hp4⟩;refine hK _ _ (d.out _ hp4) (oP ?_);clear hK K;refine oO 17 fun K hK=>?_;go_simp;refine (B.out _ hp4).mono ?_;rintro e p5 ⟨rfl,hp5⟩;refine hK _ _ (d.out _ hp5) (oP ?_);clear hK K;refine oT 18 (d.out _ hp5) ?_
   (iterate 6 refine oY (d.out _ hp5) ?_)
   refine oT 26 (d.out _ hp5) ?_;refine oO 25 fun K hK=>?_;go_simp;refine (a6.out aO.out.1 aO.out.2 _ hp5).mono ?_;rintro e p6 ⟨rfl,hp6⟩;refine hK _ _ (d.out _ hp6) (oP ?_);clear hK K;refine oO 27 fun K hK=>?_;go_simp;refine (a4.out p6).mono ?_;rintro e p7 ⟨rfl,hp7⟩;subst hp7;refine hK _ _ (d.out _ hp6) (oP ?_);clear hK K;refine oT 28 (d.out _ hp6) ?_;refine oU 29 (d.out _ hp6) ?_
   (iterate 2 refine oZ (d.out _ hp6) ?_)
   refine oT 32 (d.out _ hp6) ?_
   (iterate 3 refine oY (d.out _ hp6) ?_)
   refine wD ?_;have H9:=xI hp6;obtain⟨p9,rfl⟩:∃ p9,p9=p6:=⟨_,rfl⟩
 all_goals (
  clear an ar ap aq a6 B au a4 bx bw m d;have aC:=o.out.2.2.2.2.1.later H9.out;obtain⟨t0,t1⟩:=zAf aC.1;have bg:=zGk p9 aC.2 (by have:=H1.out.2.2.2.2.2.1.1;show ns.length<=1000000;have h:ns.length<=1000:=this;omega) H1.out.2.2.2.2.2.2.2 H1.out.2.2.2.2.2.2.1;have bd:Short (varsT (ns,0)):=zIb (t:=(ns,0)) (zMl aC.2);have a5:=xI (aN bd (aN av.out.1.2.2 av.out.1.2.1));have bB:Hid ((varsT (ns,0)).length<=1000000000):=xI (zRi (t:=(ns,0)) (n:=1000) H1.out.2.2.2.2.2.1 (by decide));clear aC bd av;go_wp2_with fail;clear t0 t1;refine bg.mono ?_;clear bg;rintro e q1 ⟨vn,rfl,hon,hB1⟩;obtain⟨An,cn,rfl⟩:=hon.form;have be:=hon.rng a5.out.1;have hY:bW Y4 q1:=H9.out.trans (hB1.mono H9.out.size);have HK:=xI (aN (o.out.2.2.2.2.2.1.later hY) (aN (o.out.2.2.2.1.later hY) (o.out.2.2.2.2.1.later hY)));have HN:=xI (aN be (aN hY (o.out.2.2.2.2.2.2.2.2.trans (hY.mono o.out.2.2.2.2.2.2.2.2.size))));clear hon hB1 be hY o H9;generalize varsT (ns,0)=vs at *;go_wp2_with fail
  go_loopw [20,21] (fun sv iv wr=>∃ i:Nat,iv=vI i6 i/\sv=.bool ((vs.take i).all nAB)/\i<=vs.length/\bW q1 wr) (fun _ i _=>((vs.length:Int)-intOf i).toNat)
  case atStart=>exact⟨0,rfl,by rw[List.take_zero];rfl,by omega,Bw _ _⟩
  case round=>
   obtain⟨i,rfl,rfl,hi,al⟩:=hrel;obtain⟨b,hb⟩:∃ b,b=(vs.take i).all nAB:=⟨_,rfl⟩;rw[<-hb];have HB:=xI hb;have aP:=xI al;clear hb;by_cases az:i<vs.length
   case pos=>
    obtain⟨bs,os,s,bA,bj,hs,bu,c0⟩:=NmS.at HN.out.1 az;subst bA;replace c0:=(al.cell (p:=(aD bs _)) bj).trans c0;have mp:(i:Int)<(vs.length:Int):=by omega
    have bF:(0:Int)<=(i:Int):=by omega
    have bG:IntKind.i64.wrap ((i:Int)+1)=(i:Int)+1:=Br _ (by have h:=bB.out;omega);have aM:Hid ((vs.take (i+1)).all nAB=(b&&nAB s)):=xI (by rw[Cr,hs,List.all_append,<-HB.out];simp);clear al bj hs bu;cases b with
    | false=>
     go_wp2
     go_roundw
     case rel=>exact⟨i+1,by go_num,by rw[aM.out,Bool.false_and],by omega,aP.out⟩
     case measure=>simp[intOf];omega
    | true=>
    rcases (show s=[65]\/s=[66]\/(s≠[65]/\s≠[66]) by by_cases a:s=[65]<;>by_cases b:s=[66]<;>simp_all)with hn|hn|⟨hn,hn2⟩
    ·have q1:(s==[65])=true:=beq_iff_eq.2 hn;have q2:(s != [65])=false:=by simp[hn]
     have ax:Hid (nAB s=false):=xI (by unfold nAB;rw[q2];rfl);clear hn;go_wp2
     go_roundw
     case rel=>exact⟨i+1,by go_num,by rw[aM.out,ax.out];rfl,by omega,aP.out⟩
     case measure=>simp[intOf];omega
    ·have q1:(s==[65])=false:=by simp[hn]
     have q2:(s != [65])=true:=by simp[hn]
     have q3:(s==[66])=true:=beq_iff_eq.2 hn;have q4:(s != [66])=false:=by simp[hn]
     have ax:Hid (nAB s=false):=xI (by unfold nAB;rw[q2,q4];rfl);clear hn;go_wp2
     go_roundw
     case rel=>exact⟨i+1,by go_num,by rw[aM.out,ax.out];rfl,by omega,aP.out⟩
     case measure=>simp[intOf];omega
    ·have q1:(s==[65])=false:=Cm.2 hn;have q2:(s != [65])=true:=by simp[hn]
     have q3:(s==[66])=false:=Cm.2 hn2;have q4:(s != [66])=true:=by simp[hn2]
     have ax:Hid (nAB s=true):=xI (by unfold nAB;rw[q2,q4];rfl);clear hn hn2;go_wp2
     go_roundw
     case rel=>exact⟨i+1,by go_num,by rw[aM.out,ax.out];rfl,by omega,aP.out⟩
     case measure=>simp[intOf];omega
   case neg=>
    have mp:¬ (i:Int)<(vs.length:Int):=by omega
    have W:=HB.out;rw[B8 (by omega)]at W;have a7:=xI W;have y:bW q1 wr.drew:=al.trans yR.drew;have g:Hid (∀ U,bW q1 U->(jV U (w1.heap.size+1) k1 i1 ⟨x1.toArray⟩ aR ad.length aF aQ aa.length aE aS ah.length aG aT ab.length aI)/\(jT U xX.heap.size AX TX.1.length cX TX.2)/\(jT U w1.heap.size As ns.length cs 0)):=xI fun U hU=>⟨zAc (HK.out.1.later hU).1,zAf (HK.out.2.1.later hU).1,zAf (HK.out.2.2.later hU).1⟩;obtain⟨mv,aW⟩:∃ mv,mv=memT (.mk k1 i1 x1 ad aa ah ab) (ns,0):=⟨_,rfl⟩;have bD:Hid (∀ U,bW q1 U->Calls tP 26 #[.agg #[vI i6 k1,vI i6 i1,vT ⟨x1.toArray⟩,vS aR ad.length aF,vS aQ aa.length aE,vS aS ah.length aG,vS aT ab.length aI],.agg #[vS As ns.length cs,vI i6 0]] U fun e w'=>e=.returned (.bool mv)/\bW q1 w'):=xI fun U hU=>by
     rw[aW];exact zNb hN (ns,0) q1 U hU (HK.out.2.2.later hU).2 HK.out.1.2.1 HK.out.1.2.2 (by have h:ns.length<=1000:=H1.out.2.2.2.2.2.1.1;show ns.length<=1000000;omega)
    have bC:Hid ((∀ s∈vs,s≠[65]/\s≠[66])->∀ U,bW q1 U->Calls tP 26 #[.agg #[vI i6 k1,vI i6 i1,vT ⟨x1.toArray⟩,vS aR ad.length aF,vS aQ aa.length aE,vS aS ah.length aG,vS aT ab.length aI],.agg #[vS AX TX.1.length cX,vI i6 TX.2]] U fun e w'=>e=.returned (.bool mv)/\bW q1 w'):=xI fun hs U hU=>by
     rw[aW,<-a5.out.2.1 hs];exact zNb hN TX q1 U hU (HK.out.2.1.later hU).2 HK.out.1.2.1 HK.out.1.2.2 a5.out.2.2
    have bH:(mv==mv)=true:=by simp
    clear al W aW;cases b with
    | false=>
     go_wp2_with fail;refine wR g (by kernel_rfl) (g.out _ y) (fun _=>?_);refine oT 0 (g.out _ y) ?_
     (iterate 2 refine oY (g.out _ y) ?_)
     refine oU 3 (g.out _ y) ?_
     (iterate 6 refine oZ (g.out _ y) ?_)
     refine oT 10 (g.out _ y) ?_;refine oT 11 (g.out _ y) ?_;refine oO 12 fun K hK=>?_;go_simp;refine (hA.out _).mono ?_;rintro e r3 ⟨rfl,hr3⟩;replace hr3:=y.trans (hr3.mono y.size);refine hK _ _ (g.out _ hr3) (oP ?_);clear hK K;refine oT 13 (g.out _ hr3) ?_;refine oT 14 (g.out _ hr3) ?_;refine wD ?_;have H3:=xI hr3;clear hr3;go_wp2;go_ret;exact⟨by first|rfl|simp,HN.out.2.2.trans (H3.out.mono HN.out.2.2.size)⟩
    | true=>
     have bv:∀ s∈vs,s≠[65]/\s≠[66]:=fun s hs=>by
      have h:=Cz.1 a7.out.symm s hs;unfold nAB at h;simp at h;exact h
     go_wp2_with fail;refine wR g (by kernel_rfl) (g.out _ y) (fun _=>?_);refine oT 0 (g.out _ y) ?_
     (iterate 4 refine oY (g.out _ y) ?_)
     refine oT 6 (g.out _ y) ?_;refine oT 7 (g.out _ y) ?_;refine oO 5 fun K hK=>?_;go_simp;refine (bC.out bv _ y).mono ?_;rintro e r1 ⟨rfl,hr1⟩;refine hK _ _ (g.out _ hr1) (oP ?_);clear hK K;refine oO 8 fun K hK=>?_;go_simp;refine (bD.out _ hr1).mono ?_;rintro e r2 ⟨rfl,hr2⟩;refine hK _ _ (g.out _ hr2) (oP ?_);clear hK K;refine oT 9 (g.out _ hr2) ?_
     (iterate 2 refine oY (g.out _ hr2) ?_)
     refine oO 12 fun K hK=>?_;go_simp;refine (hA.out _).mono ?_;rintro e r3 ⟨rfl,hr3⟩;replace hr3:=hr2.trans (hr3.mono hr2.size);refine hK _ _ (g.out _ hr3) (oP ?_);clear hK K;refine oT 13 (g.out _ hr3) ?_;refine oT 14 (g.out _ hr3) ?_;refine wD ?_;have H3:=xI hr3;clear hr3;go_wp2;go_ret;exact⟨by first|rfl|simp,HN.out.2.2.trans (H3.out.mono HN.out.2.2.size)⟩
  )
end Go.Proofs.YteedihhdcbepmaaGreat
