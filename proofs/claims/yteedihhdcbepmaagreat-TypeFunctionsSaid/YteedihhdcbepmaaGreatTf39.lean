/- TypeFunctions, given that the sanity check .. -/
import Derived.Test.YteedihhdcbepmaaGreatTfZ
import Derived.Test.YteedihhdcbepmaaGreatTf22
import Derived.Test.YteedihhdcbepmaaGreatTf35
set_option maxRecDepth 100000
set_option maxHeartbeats 12800000
set_option linter.all false
open Go.Value renaming slice→vS,int→vI,string→vT
open Go.IntKind renaming i64→i6
open Go.Proofs.Tryz renaming prog→tP
namespace Go.Proofs.YteedihhdcbepmaaGreat
open Go Go.RowKit
theorem zPg (n:Int):bits .and .i64 n 7=n % 8:=by
 have h7:(BitVec.ofInt 64 7).toNat=2 ^ 3-1:=by decide
 have a:(BitVec.ofInt 64 n &&& BitVec.ofInt 64 7).toNat=(n % ((2 ^ 64:Nat):Int)).toNat % 2 ^ 3:=by
  rw[BitVec.toNat_and,BitVec.toNat_ofInt,h7,Nat.and_two_pow_sub_one_eq_mod]
 show IntKind.i64.wrap ((BitVec.ofInt 64 n &&& BitVec.ofInt 64 7).toNat:Nat)=n % 8;rw[a,IntKind.wrap_i64];omega
theorem zQ5 {ns:List Tn}(h:GenT ns) (hl:ns.length<=7):SmT 1000 (ns,0):=⟨by show ns.length<=1000;omega,h.kid⟩
theorem zRx {t:Ty}(ht:WfT t) (hs:SmT 1000 t) (m:Nat):∃ F:Ty,F=(if 4<(List.replicate m t).length then noneT else compT 14 ((List.replicate m t++[t]).map accT))/\F.1.length<=1000000/\∀ v,okV v=true->memT v F=(decide (zAl v=9)&&decide (zCl v=m)&&decide (m<=4)&&(zF4 v).all (entT t)):=by
 refine⟨_,rfl,?_⟩;rw[Dm];by_cases h4:4<m
 ·rw[if_pos h4];refine⟨by decide,fun v _=>?_⟩;rw[zIc,Co (show ¬ m<=4 by omega)];simp
 ·rw[if_neg h4];have hr:(List.replicate m t++[t]).map accT=List.replicate (m+1) t:=by
   rw[<-List.replicate_succ',List.map_replicate,zRg ht]
  rw[hr];refine⟨?_,fun v hv=>?_⟩
  ·have h:=(zM7 (n:=1000) (kind:=14) (l:=List.replicate (m+1) t) (fun s hs2=>by rw[List.eq_of_mem_replicate hs2];exact⟨ht,hs⟩) (by simp;omega)).1;rw[Dm]at h;have:(m+1)*1000<=5*1000:=D0 _ (by omega);omega
  ·rw[conFn ht (by omega) hv,Cj (show m<=4 by omega),Bool.and_true]
theorem at62 {P:Program}{ops:Array Oper}{Q:Exit->Act->World->Prop}{o:Op}{t:TypeId}{pos:String}{af:Array Edge}{gd:Option (Nat×Bool)}{rest:List Oper}{a:Act}{w:World}(h:Hid (wpList P ops Q (⟨some 62,o,t,pos,af,gd⟩::rest) a w)):wpList P ops Q (⟨some 62,o,t,pos,af,gd⟩::rest) a w:=h.out
theorem nameW {f:World->Prop}{w:World}(h:∀ V,V=w->f V):f w:=h w rfl
structure F3 (w U:World) (p bT bF:Nat) (t F:Ty) (At AF:Option Addr) (ct cF:Nat) (v:Vl) (xs:List Value):Prop where
 hT:TyP U p t.1 t.2 [vS At t.1.length ct,vI i6 t.2]
 hF:TyP U p F.1 F.2 [vS AF F.1.length cF,vI i6 F.2]
 y1:VS 5 U p v xs
 o1:okV v=true
 kT:U.heap[bT]?=some (oE At t.1.length ct t.2)
 kV:U.heap[bT+1]?=some (.cells xs.toArray 33 (0,0))
 kF:U.heap[bF]?=some (oE AF F.1.length cF F.2)
 lt:bT+1<bF/\bF<p/\p<U.heap.size/\w.heap.size<=p
 bel:bW w U
 t7:SmT 1000 t
 F7:F.1.length<=1000000
theorem F3.later {w U U':World}{p bT bF:Nat}{t F:Ty}{At AF:Option Addr}{ct cF:Nat}{v:Vl}{xs:List Value}(h:F3 w U p bT bF t F At AF ct cF v xs) (hb:Below p U U'):F3 w U' p bT bF t F At AF ct cF v xs:=
 have hl:=h.lt
 ⟨TyB.on h.hT hb,TyB.on h.hF hb,VS.on hb h.y1,h.o1,(hb.block _ (by omega)).trans h.kT,(hb.block _ (by omega)).trans h.kV,(hb.block _ (by omega)).trans h.kF,⟨hl.1,hl.2.1,by have:=hb.size;omega,hl.2.2.2⟩,h.bel.trans (hb.mono hl.2.2.2),h.t7,h.F7⟩
theorem zI8 (hA:Hid zNk) (hN:Hid zDe) (A1 A2:Option Addr) (n1 c1 n2 c2:Nat) (ar:Int) (w:World) (hR1:IntsP w A1 n1 c1) (hn1:n1<=maxLen) (hR2:IntsP w A2 n2 c2) (hn2:n2<=maxLen) :
  Calls tP 5 #[vS A1 n1 c1,vS A2 n2 c2,vI i6 ar] w fun e w'=>e=.returned (.bool true)/\bW w w':=by
 have a8:=hA.out w;by_cases h1:(80:Int)<(n1:Int)
 ·clear hR1 hR2 hn1 hn2;go_enter Tryz.func5,Tryz.ntmps5;go_wp2_with (go_at_call 10;refine a8.mono ?_;rintro e w5 ⟨rfl,z⟩;replace z:=xI z);go_ret;exact⟨by first|rfl|simp,z.out⟩
 by_cases h2:(80:Int)<(n2:Int)
 ·clear hR1 hR2 hn1 hn2;go_enter Tryz.func5,Tryz.ntmps5;go_wp2_with (go_at_call 10;refine a8.mono ?_;rintro e w5 ⟨rfl,z⟩;replace z:=xI z);go_ret;exact⟨by first|rfl|simp,z.out⟩
 have bC:=zK9 hN A1 n1 c1 A2 n2 c2 w hR1 hn1 hR2 hn2;obtain⟨m,hm,bz⟩:∃ m:Nat,bits BinOp.and IntKind.i64 ar 7=(m:Int)/\m<=7:=⟨(ar % 8).toNat,by rw[zPg];omega,by omega⟩;have HI:=xI (aN hR2 (aN hn2 bz));clear hR1 hR2 hn1 hn2 a8 bz;go_enter Tryz.func5,Tryz.ntmps5;go_wp2_with fail;clear h1 h2;refine bC.mono ?_;rintro e w1 ⟨ns,csT,v1,csV,rfl,hG1,hl1,hl7,hT1,hV1,hok1,-,hb1⟩;clear bC;obtain⟨u,rfl,_,am⟩:=id hT1;obtain⟨As,cs,rfl,_⟩:=am.form;obtain⟨k1,i1,x1,af,ad,ai,ae,aB,av,aA,au,aC,aw,aE,ax,rfl,rfl⟩:=vb_mk hV1;have HG:=xI (aN hG1 (aN hl1 (aN hl7 (aN hT1 (aN hV1 (aN hok1 hb1))))));clear hG1 hl1 hl7 hT1 hV1 hok1 hb1 am;go_wp2_with fail;refine nameW fun W1 hW1=>?_;have T:bW w1 W1:=by rw[hW1];exact (yR.alloc lR _).alloc (by simp) _
 have kT:W1.heap[w1.heap.size]?=some (oE As ns.length cs 0):=by rw[hW1,Bt _ _ _ (by simp)];exact Bk w1 _
 have kV:W1.heap[w1.heap.size+1]?=some (oV k1 i1 ⟨x1.toArray⟩ aB af.length av aA ad.length au aC ai.length aw aE ae.length ax):=by rw[hW1];exact zAf _ (by simp)
 have al:W1.heap.size=w1.heap.size+2:=by rw[hW1];simp
 have bG:TyAt W1 ns 0 As cs:=(HG.out.2.2.2.1.keep (Same.of_below T fun b hb=>hb.2)).sub fun b hb=>(show b<W1.heap.size by have:=hb.2;omega);have bE:VS 5 W1 W1.heap.size (.mk k1 i1 x1 af ad ai ae) [vI i6 k1,vI i6 i1,vT ⟨x1.toArray⟩,vS aB af.length av,vS aA ad.length au,vS aC ai.length aw,vS aE ae.length ax]:=VB.sub (fun b hb=>(show b<W1.heap.size by have:=hb.2;omega)) lR (VB.keep (Same.of_below T fun b hb=>hb.2) HG.out.2.2.2.2.1);have ao:bW w W1:=HG.out.2.2.2.2.2.2.trans (T.mono HG.out.2.2.2.2.2.2.size);have bq:WfT (ns,0):=WfT.mk HG.out.1.wf (Int.le_refl 0) (by have:=HG.out.2.1;show (0:Int)<(ns.length:Int);omega);have bs:=zQ5 HG.out.1 HG.out.2.2.1;have H1:=xI (aN bG (aN bE (aN HG.out.2.2.2.2.2.1 (aN kT (aN kV (aN ao (aN al (aN bq bs))))))));clear hW1 T kT kV al bG bE ao bq bs HG
 go_loopw [10,11] (fun pv iv wr=>∃ (i cv:Nat) (Av:Option Addr),iv=vI i6 i/\pv=vS Av i cv/\i<=m/\OwnE (elC fun (t:Ty) cs=>TyB W1 (fun b=>b<W1.heap.size) t.1 t.2 cs) 24 2 wr W1.heap.size pv (List.replicate i (ns,0))/\bW W1 wr) (fun _ iv _=>((m:Int)-intOf iv).toNat)
 case atStart=>exact⟨0,0,none,rfl,rfl,Bq _,OwnE.nil _ _ _ _ _,By _ _⟩
 case round=>
  obtain⟨i,cv,Av,rfl,rfl,hi,hO,aa⟩:=hrel;have HO:=xI (aN hO aa);have aF:=aa.size;have bo:=H1.out.2.2.2.2.2.2.1;obtain⟨t0,t1⟩:=zAh ((aa.block w1.heap.size (by omega)).trans H1.out.2.2.2.1);clear hO aa;by_cases hlt:i<m
  ·have mp:(i:Int)<(m:Int):=by omega
   have b8:IntKind.i64.wrap ((i:Int)+1)=(i:Int)+1:=Br _ (by have:=HI.out.2.2;omega);have aj:Hid (List.replicate i ((ns,0):Ty)++[(ns,0)]=List.replicate (i+1) (ns,0)/\(List.replicate i ((ns,0):Ty)).length=i):=xI ⟨List.replicate_succ'.symm,Dm⟩;generalize List.replicate i ((ns,0):Ty)=lj at HO aj;have hO:=HO.out.1;have bA:=aj.out.2;have b9:=HI.out.2.2;have a9:(elC fun (t:Ty) cs=>TyB W1 (fun b=>b<W1.heap.size) t.1 t.2 cs).E (ns,0) wr (fun b=>W1.heap.size<=b/\b<wr.heap.size/\some b≠(vS Av i cv).ownBlock) [vS As ns.length cs,vI i6 0]:=H1.out.1;have bh:=xI bA;clear bA;go_wp2_with (at_builtin;refine zG4 (elC fun (t:Ty) cs=>TyB W1 (fun b=>b<W1.heap.size) t.1 t.2 cs) namTy rfl _ _ rfl W1.heap.size (vS Av i cv) lj rfl hO (ns,0) [vS As ns.length cs,vI i6 0] 1 _ rfl rfl _ rfl a9 rfl (zP3 (x:=(ns,0)) a9) (by have:=bh.out;omega) (by omega) ?_;intro g cap w6 ho6 hb6 _ _;refine Hid.out ?_);refine xI ?_;rw[aj.out.1,bh.out]at ho6;have HR:=xI (aN ho6 (HO.out.2.trans hb6));rw[bh.out];clear ho6 hb6 hO a9 t0 t1;go_wp2_with fail
   go_roundw
   case rel=>exact⟨i+1,cap,some (aD g 0),by go_num,rfl,by omega,HR.out.1,HR.out.2⟩
   case measure=>simp[intOf];omega
  ·obtain rfl:i=m:=by omega
   have mp:¬ ((i:Nat):Int)<(i:Int):=by omega
   obtain⟨F,hF,bK,bJ⟩:=zRx H1.out.2.2.2.2.2.2.2.1 H1.out.2.2.2.2.2.2.2.2 i;have an:(List.replicate i ((ns,0):Ty)).length=i:=Dm;have bu:RowB wr (fun b=>b<wr.heap.size) 2 (vS Av (List.replicate i ((ns,0):Ty)).length cv) (List.replicate i ((ns,0):Ty)).length (tyR wr (fun b=>b<wr.heap.size) (List.replicate i (ns,0))):=by
    have h:=OwnE.rowB HO.out.1 (by decide) (by rw[an];unfold maxLen;have:=HI.out.2.2;omega) (Bq _);rw[an]at h ⊢;exact RowB.sub h (fun _ hb=>hb.2) fun _ _ ⟨t,ht,hT⟩=>⟨t,ht,(TyB.on hT HO.out.2).up aF⟩
   have bH:=H1.out.1.later HO.out.2;have aS:=H1.out.2.2.2.2.2.2.2.2;have hc:=zHl (l:=List.replicate i ((ns,0):Ty)) (r:=(ns,0)) wr bu bH (fun t ht=>by
    rcases Cy.1 ht with ht|ht
    ·rw[List.eq_of_mem_replicate ht];exact aS.mono (by decide)
    ·rw[Cq.1 ht];exact aS.mono (by decide)) (by rw[an];have:=HI.out.2.2;omega)
   rw[<-hF,an]at hc;have HF:=xI (aN bK bJ);clear hF bK bJ an bu bH aS;go_wp2_with fail;refine hc.mono ?_;clear hc;rintro e w3 ⟨⟨AF,cF,rfl,hTF⟩,hbF⟩;have bn:=hbF.size;have aq:bW W1 w3:=HO.out.2.trans (hbF.mono aF);have HQ:=xI (aN hTF (aN aq (aN bo (aN aF bn))));clear hTF hbF aq bn t0 t1 bo aF;go_wp2_with fail;refine nameW fun W4 hW4=>?_;have bV:=HQ.out.2.2.1;have bU:=HQ.out.2.2.2.1;have bT:=HQ.out.2.2.2.2;have aZ:bW w3 W4:=by rw[hW4];exact (yR.alloc lR _).alloc (by simp) _
   have kF:W4.heap[w3.heap.size]?=some (oE AF F.1.length cF F.2):=by rw[hW4,Bt _ _ _ (by simp)];exact Bk w3 _
   have kP:W4.heap[w3.heap.size+1]?=some (.cells #[vS A2 n2 c2,vI i6 0] 49 (0,0)):=by rw[hW4];exact zAf _ (by simp)
   have bX:W4.heap.size=w3.heap.size+2:=by rw[hW4];simp
   have C:bW W1 W4:=HQ.out.2.1.trans (aZ.mono (by omega));have ag:bW w W4:=H1.out.2.2.2.2.2.1.trans (C.mono H1.out.2.2.2.2.2.1.size);have bY:=H1.out.2.2.2.2.2.1.size;have bL:F3 w W4 (w3.heap.size+1) w1.heap.size w3.heap.size (ns,0) F As AF cs cF (.mk k1 i1 x1 af ad ai ae) [vI i6 k1,vI i6 i1,vT ⟨x1.toArray⟩,vS aB af.length av,vS aA ad.length au,vS aC ai.length aw,vS aE ae.length ax]:=by
    refine⟨(TyB.on H1.out.1 C).up (by omega),(HQ.out.1.keep (Same.of_below aZ fun b hb=>?_)).sub fun b hb=>?_,VS.up (by omega) lR (VS.on C H1.out.2.1),H1.out.2.2.1,(C.block _ (by omega)).trans H1.out.2.2.2.1,(C.block _ (by omega)).trans H1.out.2.2.2.2.1,kF,⟨by omega,by omega,by omega,by omega⟩,ag,H1.out.2.2.2.2.2.2.2.2,HF.out.1⟩
    ·rcases hb with h|h<;>omega
    ·rcases hb with h|h<;>omega
   have bI:SrcOk w.heap.size (w3.heap.size+1) W4:=⟨A2,n2,c2,0,kP,by omega,Bq _,HI.out.2.1,RowB.on HI.out.1 ag fun _ _ h=>h⟩;have HP:=xI (aN bL (aN bI HI.out.2.2));have cd:=xI H1.out.2.2.2.2.2.2.2.1;clear hW4 aZ kF kP bX C ag bL bI bV bU bT bY HQ H1 HO HI
   go_loopw [14] (fun jv wr=>∃ j:Nat,jv=vI i6 j/\j<=3/\Below (w3.heap.size+1) W4 wr/\SrcOk w.heap.size (w3.heap.size+1) wr) (fun jv _=>((3:Int)-intOf jv).toNat)
   case atStart=>exact⟨0,rfl,by omega,By _ _,HP.out.2.1⟩
   case round=>
    obtain⟨j,rfl,hj,aa,hS⟩:=hrel;have HR:=xI (aN (HP.out.1.later aa) (aN hS aa));clear aa;by_cases hlt:j<3
    case neg=>
     obtain rfl:j=3:=by omega
     clear hS;go_wp2_with (go_at_call 10;refine (hA.out wr).mono ?_;rintro e w5 ⟨rfl,z⟩;replace z:=xI z);go_ret;exact⟨by first|rfl|simp,HR.out.1.bel.trans (z.out.mono HR.out.1.bel.size)⟩
    case pos=>
    have mj:(j:Int)<3:=by omega
    have b7:IntKind.i64.wrap ((j:Int)+1)=(j:Int)+1:=Br _ (by omega);have hc:=zC3 3 (by decide) (by decide) w.heap.size (w3.heap.size+1) wr hS;clear hS;go_wp2_with fail;refine hc.mono ?_;rintro e w5 ⟨⟨v2,cs2,rfl,hV2,hok2,-⟩,hS5,hE5⟩;clear hc;obtain⟨k2,i2,x2,aO,aJ,bb,aM,bj,bd,bi,bc,bk,bf,bm,bg,rfl,rfl⟩:=vb_mk hV2;have z:Below (w3.heap.size+1) wr w5:=hE5.below;have aG:=HR.out.1.later z;obtain⟨X,hX⟩:∃ X,X=w5.alloc (oV k2 i2 ⟨x2.toArray⟩ bj aO.length bd bi aJ.length bc bk bb.length bf bm aM.length bg):=⟨_,rfl⟩;have bD:bW w5 X:=by rw[hX];exact yR.alloc lR _
    obtain⟨a0,a1,a2,a3,a4,a5,a6⟩:=zAc ((bD.block (w1.heap.size+1) (by have:=aG.lt;omega)).trans aG.kV);rw[hX]at a0 a1 a2 a3 a4 a5 a6;have HX:=xI (aN aG (aN hS5 (aN hV2 (aN hok2 (HR.out.2.2.trans z)))));clear hX bD aG z hS5 hE5 hV2 hok2 HR;by_cases hj0:j=0
    case' pos=>
     subst hj0;go_wp2_with (with_reducible refine at62 ?_)
     obtain⟨k0,i0,x0,s,n,c,o,O,J,N,I,P,L,Q,M,hv,hw⟩:∃ k0 i0 x0 s n c o O J N I P L Q M,(VS 5 w5 w5.heap.size (.mk k0 i0 x0 s n c o) [vI i6 k0,vI i6 i0,vT ⟨x0.toArray⟩,vS O s.length J,vS N n.length I,vS P c.length L,vS Q o.length M]/\okV (.mk k0 i0 x0 s n c o)=true)/\w5.alloc (oV k1 i1 ⟨x1.toArray⟩ aB af.length av aA ad.length au aC ai.length aw aE ae.length ax)=w5.alloc (oV k0 i0 ⟨x0.toArray⟩ O s.length J N n.length I P c.length L Q o.length M):=⟨k1,i1,x1,af,ad,ai,ae,aB,av,aA,au,aC,aw,aE,ax,⟨VS.up (by have:=HX.out.1.lt;omega) lR HX.out.1.y1,HX.out.1.o1⟩,rfl⟩;rw[hw];clear hw a0 a1 a2 a3 a4 a5 a6
    case' neg=>
     have bQ:((j:Int)==0)=false:=Ck.2 (by omega);go_wp2_with (with_reducible refine at62 ?_)
     clear bQ;obtain⟨k0,i0,x0,s,n,c,o,O,J,N,I,P,L,Q,M,hv,hw⟩:∃ k0 i0 x0 s n c o O J N I P L Q M,(VS 5 w5 w5.heap.size (.mk k0 i0 x0 s n c o) [vI i6 k0,vI i6 i0,vT ⟨x0.toArray⟩,vS O s.length J,vS N n.length I,vS P c.length L,vS Q o.length M]/\okV (.mk k0 i0 x0 s n c o)=true)/\w5.alloc (oV k2 i2 ⟨x2.toArray⟩ bj aO.length bd bi aJ.length bc bk bb.length bf bm aM.length bg)=w5.alloc (oV k0 i0 ⟨x0.toArray⟩ O s.length J N n.length I P c.length L Q o.length M):=⟨k2,i2,x2,aO,aJ,bb,aM,bj,bd,bi,bc,bk,bf,bm,bg,⟨VB.sub (fun b hb=>hb.2) (by decide) HX.out.2.2.1,HX.out.2.2.2.1⟩,rfl⟩;rw[hw];clear hw a0 a1 a2 a3 a4 a5 a6
    all_goals (
     refine xI ?_;refine nameW fun Y hY=>?_;have ap:bW w5 Y:=by rw[hY];exact yR.alloc lR _
     have kY:Y.heap[w5.heap.size]?=some (oV k0 i0 ⟨x0.toArray⟩ O s.length J N n.length I P c.length L Q o.length M):=by rw[hY];exact Bk w5 _
     have bS:Y.heap.size=w5.heap.size+1:=by rw[hY];simp
     have aV:=HX.out.1.lt;have V:=HX.out.1.later (ap.mono (by omega));have aR:=VS.later hv.1 ap;have HY:=xI (aN (HX.out.2.1.below ap) (aN (HX.out.2.2.2.2.trans (ap.mono (by omega))) (aN V (aN aR hv.2))));have HQ:Hid (∀ U,bW Y U->(jV U w5.heap.size k0 i0 ⟨x0.toArray⟩ O s.length J N n.length I P c.length L Q o.length M)/\(jT U w1.heap.size As ns.length cs 0)/\(jT U w3.heap.size AF F.1.length cF F.2)):=xI fun U hU=>⟨zAc ((hU.block _ (by omega)).trans kY),zAh ((hU.block _ (by have:=V.lt;omega)).trans V.kT),zAh ((hU.block _ (by have:=V.lt;omega)).trans V.kF)⟩;have HK:Hid (memT (.mk k0 i0 x0 s n c o) F=(decide (k0=9)&&decide (i0=(i:Int))&&decide (i<=4)&&c.all (entT (ns,0)))):=xI (HF.out.2 _ hv.2);have HM:Hid (∀ U,bW Y U->Calls tP 26 #[.agg #[vI i6 k0,vI i6 i0,vT ⟨x0.toArray⟩,vS O s.length J,vS N n.length I,vS P c.length L,vS Q o.length M],.agg #[vS AF F.1.length cF,vI i6 F.2]] U fun e w'=>e=.returned (.bool (memT (.mk k0 i0 x0 s n c o) F))/\bW Y w'):=xI fun U hU=>zP7 hN F Y U hU (TyAt.later (TyB.up V.hF (by have:=V.lt;omega)) hU) aR hv.2 V.F7;have HE:Hid (k0=9->∀ e∈c,okE e=true):=xI fun h9 e he=>(zMb hv.2 h9 e he).2;clear hY ap kY bS aV V aR hv HX;obtain⟨q,-,-⟩:=HQ.out Y yR;obtain⟨q0,q1,-⟩:=q;by_cases hK:k0=9/\i0=(i:Int)/\i<=4
     case neg=>
      have hf:(decide (k0=9)&&decide (i0=(i:Int))&&decide (i<=4))=false:=by
       by_cases h9:k0=9
       ·by_cases hi:i0=(i:Int)
        ·rw[Co (show ¬ i<=4 from fun h=>hK ⟨h9,hi,h⟩),Bool.and_false]
        ·rw[Co hi,Bool.and_false,Bool.false_and]
       ·rw[Co h9];rfl
      have bx:memT (.mk k0 i0 x0 s n c o) F=false:=by rw[HK.out,hf,Bool.false_and]
      rw[bx]at HM;clear hf bx;rcases (show k0≠9\/(k0=9/\i0≠(i:Int))\/(k0=9/\i0=(i:Int)/\¬ i<=4) by by_cases h9:k0=9<;>by_cases hi:i0=(i:Int)<;>by_cases h4:i<=4<;>simp_all)with h9|⟨h9,hi⟩|⟨h9,hi,h4⟩
      case' inl=>
       have m4:(k0==9)=false:=Ck.2 h9;clear hK h9 HK HE;go_wp2_with fail
      case' inr.inl=>
       have m4:(i0==(i:Int))=false:=Ck.2 hi;rw[h9]at q0;clear hK h9 hi HK HE;go_wp2_with fail
      case' inr.inr=>
       have m4:¬ (i:Int)<=4:=by omega
       rw[h9]at q0;rw[hi]at q1;clear hK h9 hi h4 HK HE;go_wp2_with fail
      all_goals (
       clear m4 q0 q1
       go_loopw [16,17] (fun wt kv wr=>wt=.bool false/\kv=vI i6 0/\bW Y wr) (fun _ kv _=>0)
       case atStart=>exact⟨rfl,rfl,By _ _⟩
       case round=>
        obtain⟨rfl,rfl,ah⟩:=hrel;have hc:=HM.out wr ah;obtain⟨⟨v0,v1,v2,v3,v4,v5,v6⟩,-,f0,f1⟩:=HQ.out wr ah;clear ah;go_wp2_with fail;refine hc.mono ?_;rintro e w8 ⟨rfl,hb8⟩;have v:=xI hb8;clear hc hb8 v0 v1 v2 v3 v4 v5 v6 f0 f1;go_wp2_with fail
        go_roundw
        case rel=>first|exact⟨j+1,by go_num,by omega,HY.out.2.1.trans (v.out.mono (by have:=HY.out.2.2.1.lt;omega)),HY.out.1.below v.out⟩|exact⟨0+1,by go_num,by omega,HY.out.2.1.trans (v.out.mono (by have:=HY.out.2.2.1.lt;omega)),HY.out.1.below v.out⟩
        case measure=>first|simp[intOf];done|(simp[intOf];omega)
      )
     case pos=>
     obtain⟨h9,hi,h4⟩:=hK;have m4:(i:Int)<=4:=by omega
     rw[h9]at q0;rw[hi]at q1;have HB:Hid (memT (.mk k0 i0 x0 s n c o) F=c.all (entT (ns,0))):=xI (by rw[HK.out,Cj h9,Cj hi,Cj h4];rfl);have b1:=xI (HE.out h9);have bF:=HY.out.2.2.2.1;obtain⟨uk,uy,ue,ul,ak,-,-,-,-,-,aT,-⟩:=id bF;simp only[Bc,and_true,true_and]at ak;obtain⟨rfl,rfl,rfl,rfl⟩:=ak;have bB:c.length<=maxLen:=by obtain⟨_,_,_,h,_⟩:=aT;exact h.1
     have bM:=xI (aN aT bB);rw[HB.out]at HM;subst h9 hi;clear aT bB bF HK HE HB h4;go_wp2_with fail;clear m4 q0 q1
     go_loopw [16,17] (fun wt kv wr=>∃ k:Nat,kv=vI i6 k/\wt=.bool ((c.take k).all (entT (ns,0)))/\k<=c.length/\bW Y wr) (fun _ kv _=>((c.length:Int)-intOf kv).toNat)
     case atStart=>exact⟨0,rfl,by rw[List.take_zero];rfl,by omega,By _ _⟩
     case round=>
      obtain⟨k,rfl,rfl,hk,ah⟩:=hrel;obtain⟨b,hb⟩:∃ b,b=(c.take k).all (entT (ns,0)):=⟨_,rfl⟩;rw[<-hb];have aI:=xI hb;have az:=xI ah;obtain⟨⟨v0,v1,v2,v3,v4,v5,v6⟩,-,f0,f1⟩:=HQ.out wr ah;clear hb ah;cases b with
      | false=>
       have f:c.all (entT (ns,0))=false:=by
        have h:=aI.out;rw[<-Ey k c,Ez,<-h,Bool.false_and]
       have hc:=HM.out wr az.out;rw[f]at hc;clear f;go_wp2_with fail;refine hc.mono ?_;rintro e w8 ⟨rfl,hb8⟩;have v:=xI hb8;clear hc hb8 v0 v1 v2 v3 v4 v5 v6 f0 f1;go_wp2_with fail
       go_roundw
       case rel=>first|exact⟨j+1,by go_num,by omega,HY.out.2.1.trans (v.out.mono (by have:=HY.out.2.2.1.lt;omega)),HY.out.1.below v.out⟩|exact⟨0+1,by go_num,by omega,HY.out.2.1.trans (v.out.mono (by have:=HY.out.2.2.1.lt;omega)),HY.out.1.below v.out⟩
       case measure=>first|simp[intOf];done|(simp[intOf];omega)
      | true=>
      by_cases him:k<c.length
      case neg=>
       have mk:¬ (k:Int)<(c.length:Int):=by omega
       have f:c.all (entT (ns,0))=true:=by
        have h:=aI.out;rw[Cz (by omega)]at h;exact h.symm
       have hc:=HM.out wr az.out;rw[f]at hc;clear f;go_wp2_with fail;refine hc.mono ?_;rintro e w8 ⟨rfl,hb8⟩;have v:=xI hb8;clear hc hb8 v0 v1 v2 v3 v4 v5 v6 f0 f1;go_wp2_with fail
       go_roundw
       case rel=>first|exact⟨j+1,by go_num,by omega,HY.out.2.1.trans (v.out.mono (by have:=HY.out.2.2.1.lt;omega)),HY.out.1.below v.out⟩|exact⟨0+1,by go_num,by omega,HY.out.2.1.trans (v.out.mono (by have:=HY.out.2.2.1.lt;omega)),HY.out.1.below v.out⟩
       case measure=>first|simp[intOf];done|(simp[intOf];omega)
      case pos=>
      have mk:(k:Int)<(c.length:Int):=by omega
      have bP:(0:Int)<=(k:Int):=by omega
      have b6:IntKind.i64.wrap ((k:Int)+1)=(k:Int)+1:=Br _ (by have:=bM.out.2;unfold maxLen at this;omega);obtain⟨be,oe,cc,y0,y1,z0,z1,z2,z3,z4,z5,z6,aH,G,⟨d,A,y,aW,ua,rs,ak,aU,aQ⟩,e0,e1,d0,d1,d2,d3,d4,d5,d6⟩:=RowB.at9 bM.out.1 him;injection ak with q0 ak;injection ak with q1 q2;subst q0 q1 q2;injection aH with aH hmm hcl;clear hmm;subst hcl;obtain⟨Aa,ca,rfl,_⟩:=aU.form;obtain⟨ra,ri,rt,B1,aL,g1,B2,aK,g2,B3,n3,g3,B4,n4,g4,B⟩:=aQ.form7;injection B with q0 B;injection B with q1 B;injection B with q2 B;injection B with q3 B;injection B with q4 B;injection B with q5 B;injection B with q6 _;subst q0 q1 q2 q3 q4 q5 q6;have H:=az.out;replace e0:=(H.cell (p:=(aD be _)) G).trans e0;replace e1:=(H.cell (p:=(aD be _)) G).trans e1;replace d0:=(H.cell (p:=(aD be _)) G).trans d0;replace d1:=(H.cell (p:=(aD be _)) G).trans d1;replace d2:=(H.cell (p:=(aD be _)) G).trans d2;replace d3:=(H.cell (p:=(aD be _)) G).trans d3;replace d4:=(H.cell (p:=(aD be _)) G).trans d4;replace d5:=(H.cell (p:=(aD be _)) G).trans d5;replace d6:=(H.cell (p:=(aD be _)) G).trans d6;rw[aH]at v5;have R:=b1.out _ (Bi aW);simp only[okE,B8,Bool.or_eq_true]at R;have HJ:Hid ((c.take (k+1)).all (entT (ns,0))=(!(d.all fun a=>memT a (ns,0))||(!A&&memT y (ns,0)))):=xI (by
       rw[Ct,aW,Ez,<-aI.out];simp[entT,zC0,zD2,resOf])
      have HA:=xI (aN aU (aN aQ (aN (show ∀ x∈d,okV x=true by have h:=R.1;rw[zBy,B7]at h;exact h) R.2)));clear aH aU aQ R aW H G f0 f1 v0 v1 v2 v3 v4 v6;go_wp2_with fail;refine nameW fun Z hZ=>?_;have aY:bW wr Z:=by rw[hZ];exact yR.alloc lR _
      have kZ:Z.heap[wr.heap.size]?=some (.cells #[vS Aa d.length ca,.bool A,vI i6 ra,vI i6 ri,vT rt,vS B1 aL g1,vS B2 aK g2,vS B3 n3 g3,vS B4 n4 g4] 68 (0,0)):=by rw[hZ];exact Bk wr _
      have bR:Z.heap.size=wr.heap.size+1:=by rw[hZ];simp
      obtain⟨zq,aP⟩:∃ zq,zq=wr.heap.size:=⟨_,rfl⟩;rw[<-aP];have HZ:Hid (∀ U,bW Z U->bW Y U/\(U.cell? (aD zq 0)=some (vS Aa d.length ca)/\U.cell? (aD zq 1)=some (.bool A)/\U.cell? (aD zq 2)=some (vI i6 ra)/\U.cell? (aD zq 3)=some (vI i6 ri)/\U.cell? (aD zq 4)=some (vT rt)/\U.cell? (aD zq 5)=some (vS B1 aL g1)/\U.cell? (aD zq 6)=some (vS B2 aK g2)/\U.cell? (aD zq 7)=some (vS B3 n3 g3)/\U.cell? (aD zq 8)=some (vS B4 n4 g4))/\(jT U w1.heap.size As ns.length cs 0)):=xI fun U hU=>by
       have bZ:=aY.trans (hU.mono aY.size);have D:=az.out.trans (bZ.mono az.out.size);have kq:=(hU.block wr.heap.size (by omega)).trans kZ;rw[aP];exact⟨D,⟨cH kq 0,cH kq 1,cH kq 2,cH kq 3,cH kq 4,cH kq 5,cH kq 6,cH kq 7,cH kq 8⟩,(HQ.out U D).2.1⟩
      have bN:Hid (∀ (x:Vl) (cells:List Value) W U,bW Y W->bW W U->VS 5 Y Y.heap.size x cells->okV x=true->Calls tP 26 #[.agg cells.toArray,.agg #[vS As ns.length cs,vI i6 0]] U fun e w'=>e=.returned (.bool (memT x (ns,0)))/\bW W w'):=xI fun x cells W U hW hU hv hok=>zP7 hN (ns,0) W U hU (TyAt.later (TyAt.later (TyB.up HY.out.2.2.1.hT (by have:=HY.out.2.2.1.lt;omega)) hW) hU) (VS.later hv hW) hok (Ba HY.out.2.2.1.t7.1 (by decide));clear hZ aY kZ bR aP e0 e1 d0 d1 d2 d3 d4 d5 d6 v5 mk bP aI
      go_loopw [19,20] (fun bt qv wq=>∃ q:Nat,qv=vI i6 q/\bt=.bool ((d.take q).all fun a=>memT a (ns,0))/\q<=d.length/\bW Z wq) (fun _ qv _=>((d.length:Int)-intOf qv).toNat)
      case atStart=>exact⟨0,rfl,by rw[List.take_zero];rfl,by omega,By _ _⟩
      case round=>
       obtain⟨q,rfl,rfl,hq,aX⟩:=hrel;obtain⟨b2,a7⟩:∃ b2,b2=(d.take q).all fun a=>memT a (ns,0):=⟨_,rfl⟩;rw[<-a7];have bO:=xI a7;have b3:=xI aX;obtain⟨bp,⟨e0,e1,d0,d1,d2,d3,d4,d5,d6⟩,t0,t1⟩:=HZ.out wr aX;have ay:=xI bp;clear a7 aX bp;by_cases hqm:q<d.length
       case pos=>
        have mq:(q:Int)<(d.length:Int):=by omega
        have b4:(0:Int)<=(q:Int):=by omega
        have b5:IntKind.i64.wrap ((q:Int)+1)=(q:Int)+1:=Br _ (by
         obtain⟨_,_,_,h,_⟩:=HA.out.1;have:=h.1;unfold maxLen at this;omega)
        obtain⟨bl,ol,cb,p0,p1,p2,p3,p4,p5,p6,ba,ab,⟨x,hx,br⟩,o0,o1,o2,o3,o4,o5,o6⟩:=RowB.at7 (j:=q) HA.out.1 hqm;injection ba with ba hmm hcl;clear hmm;subst ba hcl;have HC:Hid (∀ U,bW Z U->(fun U:World=>(U.cell? (aD zq 0)=some (vS (some (aD bl ol)) d.length ca))/\(jT U w1.heap.size As ns.length cs 0)/\U.cell? (aD bl (ol+q*7))=some p0/\U.cell? (aD bl (ol+q*7+1))=some p1/\U.cell? (aD bl (ol+q*7+2))=some p2/\U.cell? (aD bl (ol+q*7+3))=some p3/\U.cell? (aD bl (ol+q*7+4))=some p4/\U.cell? (aD bl (ol+q*7+5))=some p5/\U.cell? (aD bl (ol+q*7+6))=some p6) U):=xI fun U hU=>by
         obtain⟨D,⟨c0,-⟩,c1⟩:=HZ.out U hU;exact⟨c0,c1,(D.cell (p:=(aD bl _)) ab).trans o0,(D.cell (p:=(aD bl _)) ab).trans o1,(D.cell (p:=(aD bl _)) ab).trans o2,(D.cell (p:=(aD bl _)) ab).trans o3,(D.cell (p:=(aD bl _)) ab).trans o4,(D.cell (p:=(aD bl _)) ab).trans o5,(D.cell (p:=(aD bl _)) ab).trans o6⟩
        have hM:∀ U,bW Z U->Calls tP 26 #[.agg #[p0,p1,p2,p3,p4,p5,p6],.agg #[vS As ns.length cs,vI i6 0]] U fun e w'=>e=.returned (.bool (memT x (ns,0)))/\bW Z w':=fun U hU=>bN.out x [p0,p1,p2,p3,p4,p5,p6] Z U (HZ.out Z yR).1 hU (VS.up lR (by decide) br) (HA.out.2.2.1 x (Bi hx));have aj:Hid (((d.take (q+1)).all fun a=>memT a (ns,0))=(b2&&memT x (ns,0))):=xI (by rw[Ct,hx,Ez,<-bO.out];simp);have hd:bW Z wr.drew:=b3.out.trans yR.drew;obtain⟨mx,bv⟩:∃ mx,mx=memT x (ns,0):=⟨_,rfl⟩;rw[<-bv]at hM aj;have b0:=xI hM;clear hM bv br hx ab o0 o1 o2 o3 o4 o5 o6 e1 d0 d1 d2 d3 d4 d5 d6 t0 t1;go_wp2_with fail;clear e0 mq;refine Bf (S:=fun U:World=>(U.cell? (aD zq 0)=some (vS (some (aD bl ol)) d.length ca))/\(jT U w1.heap.size As ns.length cs 0)/\U.cell? (aD bl (ol+q*7))=some p0/\U.cell? (aD bl (ol+q*7+1))=some p1/\U.cell? (aD bl (ol+q*7+2))=some p2/\U.cell? (aD bl (ol+q*7+3))=some p3/\U.cell? (aD bl (ol+q*7+4))=some p4/\U.cell? (aD bl (ol+q*7+5))=some p5/\U.cell? (aD bl (ol+q*7+6))=some p6) (by kernel_rfl) (HC.out _ hd) (fun _=>?_);cases b2 with
        | true=>
         refine oT 0 (HC.out _ hd) ?_
         (iterate 7 refine oY (HC.out _ hd) ?_)
         refine oO 8 fun K hK=>?_;go_simp;refine (b0.out _ hd).mono ?_;rintro e w8 ⟨rfl,hb8⟩;refine hK _ _ (HC.out _ hb8) (oP ?_);clear hK K;refine oT 9 (HC.out _ hb8) ?_;refine oT 10 (HC.out _ hb8) ?_;refine wD ?_;have v:=xI hb8;clear hb8 hd;go_wp2
         go_roundw
         case rel=>exact⟨q+1,by go_num,by rw[aj.out,Du],by omega,v.out⟩
         case measure=>simp[intOf];omega
        | false=>
         refine oT 0 (HC.out _ hd) ?_;refine oT 1 (HC.out _ hd) ?_;refine oU 2 (HC.out _ hd) ?_
         (iterate 6 refine oZ (HC.out _ hd) ?_)
         refine oT 9 (HC.out _ hd) ?_;refine oT 10 (HC.out _ hd) ?_;refine wD ?_;have HD:=xI hd;clear hd;go_wp2
         go_roundw
         case rel=>exact⟨q+1,by go_num,by rw[aj.out,Bool.false_and],by omega,HD.out⟩
         case measure=>simp[intOf];omega
       case neg=>
        have mq:¬ (q:Int)<(d.length:Int):=by omega
        have f:=bO.out;rw[Cz (by omega)]at f;rw[<-f]at HJ;clear f;cases b2 with
        | false=>
         go_wp2_with fail
         go_roundw
         case rel=>exact⟨k+1,by go_num,by rw[HJ.out];rfl,by omega,ay.out⟩
         case measure=>simp[intOf];omega
        | true=>
        cases A with
        | true=>
         go_wp2_with fail
         go_roundw
         case rel=>exact⟨k+1,by go_num,by rw[HJ.out];rfl,by omega,ay.out⟩
         case measure=>simp[intOf];omega
        | false=>
         have hc:=bN.out y [vI i6 ra,vI i6 ri,vT rt,vS B1 aL g1,vS B2 aK g2,vS B3 n3 g3,vS B4 n4 g4] wr wr ay.out yR (VS.up lR (by decide) HA.out.2.1) (by rcases HA.out.2.2.2 with h|h<;>simp_all);obtain⟨mr,bw⟩:∃ mr,mr=memT y (ns,0):=⟨_,rfl⟩;rw[<-bw]at hc HJ;clear bw;go_wp2_with fail;refine hc.mono ?_;rintro e w8 ⟨rfl,hb8⟩;have v:=xI hb8;clear hc hb8 e0 e1 d0 d1 d2 d3 d4 d5 d6 t0 t1;go_wp2_with fail
         go_roundw
         case rel=>exact⟨k+1,by go_num,by rw[HJ.out];rfl,by omega,ay.out.trans (v.out.mono ay.out.size)⟩
         case measure=>simp[intOf];omega
    )
end Go.Proofs.YteedihhdcbepmaaGreat
