/- The document's Variables. -/
import Derived.Test.YteedihhdcbepmaaGreatTwZ
import Derived.Test.YteedihhdcbepmaaGreatTw18
import Derived.Test.YteedihhdcbepmaaGreatTw22
set_option maxRecDepth 100000
set_option maxHeartbeats 12800000
set_option linter.all false
open Go.Value renaming slice→vS,int→vI,string→vT
open Go.IntKind renaming i64→i6
open Go.Proofs.Tryz
open Go.Proofs.Tryz renaming prog→tP
namespace Go.Proofs.YteedihhdcbepmaaGreat
open Go Go.RowKit
theorem zLt {ns:List Tn}{r:Nat}{L:List (List UInt8)}(h:∀ s,s∈L↔∃ i x,Rch ns r i/\ns[i]?=some x/\x.kind=19/\x.text=s):zHe ns r (srt L):=
 ⟨(zEu _).imp fun hab=>zDp hab,fun s=>by rw[zCd];exact h s⟩
theorem zIe {t:Ty}(h:¬ WfT t):varsT t=[]:=by
 have h1:accT t=noneT:=by unfold accT;rw[if_neg (show ¬ wfC t.1 t.2=0 from h)]
 unfold varsT;rw[h1,show varL noneT.1 (visR noneT.1 noneT.2.toNat)=[] by rfl];have h2:=zCs ([]:List (List UInt8));exact Cc (by simpa using h2)
theorem zDr {ns:List Tn}{root:Int}{A:Option Addr}{c:Nat}(w:World) (hT:TyP w w.heap.size ns root [vS A ns.length c,vI i6 root]) (hn:ns.length<=1000000) (hko:∀ x∈ns,kidOk x) (hlf:left ns (List.replicate ns.length false)<=100000000) :
  Calls tP 41 #[.agg #[vS A ns.length c,vI i6 root]] w fun e w'=>∃ v,e=.returned v/\OwnN w' w.heap.size v (varsT (ns,root))/\bW w w':=by
 obtain⟨X,hX,E,kX,G⟩:=aW w (oE A ns.length c root)
 have F:TyP X X.heap.size ns root [vS A ns.length c,vI i6 root]:=(hT.on E).up (by omega);have hc:=zKb X F hn;obtain⟨x0,x1⟩:=zAf kX;rw[hX]at x0 x1;have T:Hid (RowP w w.heap.size 8 (vS A ns.length c) ns.length (tnR w (fun b=>b<w.heap.size) ns)):=xI (by
  obtain⟨u,hu,_,h⟩:=hT;injection hu with hu _;rw[hu];exact h)
 have HE:=xI (aN hn (aN hko (aN hlf (aN F (aN E (aN kX G))))));clear hT hn hko hlf F E kX G;go_enter func41,ntmps41;go_wp2_with fail;rw[<-hX];clear hX x0 x1;refine hc.mono ?_;rintro e w1 ⟨rfl,hb1⟩;clear hc;obtain⟨hn,hko,hlf,F,E,kX,G⟩:=HE.out;have t:bW w w1:=E.trans (hb1.mono (by omega));by_cases m:WfT (ns,root)
 ·have k1:=(hb1.block w.heap.size (by omega)).trans kX;obtain⟨y0,y1⟩:=zAf k1;have Z:TyP w1 w1.heap.size ns root [vS A ns.length c,vI i6 root]:=(F.on hb1).up hb1.size;have hc:=zIv w1 Z m hn hko hlf;have N:wfC ns root=0:=m;rw[N];have H1:=xI (aN m (aN t k1));clear hn hko hlf F E kX G t m k1 Z hb1 N;go_wp2_with fail;clear y0 y1;refine hc.mono ?_;rintro e w2 ⟨g,v,rfl,hr,hvl,hrch,hg,hb2⟩;clear hc;have q:=H1.out.2.1.trans (hb2.mono H1.out.2.1.size);have O:=q.size;have R:Hid (∀ U,bW w2 U->(jT U w.heap.size A ns.length c root)/\bW w U/\BRow U g v/\w2.heap.size<=U.heap.size):=xI fun U hU=>by
   have hk:=H1.out.2.2;have hl:=(Cr.1 hk).1;exact⟨zAf ((hU.block _ (by have:=hb2.size;omega)).trans ((hb2.block _ hl).trans hk)),q.trans (hU.mono q.size),hr.on (hU.block _ hr.lt),hU.size⟩
  have HV:=xI (aN hvl hrch);clear hr hg hb2 q O hvl hrch;generalize hnl:ns.length=n at *;have J:=xI hnl;clear hnl;go_wp2_with fail
  go_loopw [3,5] (fun lv iv wr=>∃ (i:Nat) (L:List (List UInt8)),iv=vI i6 i/\i<=n/\OwnE elS7 9 1 wr w2.heap.size lv L/\(∀ s,s∈L↔∃ j x,j<i/\dn v j=true/\ns[j]?=some x/\x.kind=19/\x.text=s)/\(∀ s∈L,s.length<=maxLen)/\L.length<=i/\bW w2 wr) (fun _ i _=>((n:Int)-intOf i).toNat)
  case atStart=>exact⟨0,[],rfl,by omega,OwnE.nil _ _ _ _ _,fun s=>⟨fun h=>(by cases h),fun h=>(by obtain⟨j,_,h,_⟩:=h;omega)⟩,fun s h=>(by cases h),by simp,Bv _ _⟩
  case round=>
   obtain⟨i,L,rfl,hi,ho,d,a,D,l⟩:=hrel;obtain⟨A2,c2,rfl⟩:=ho.form;obtain⟨⟨t0,t1⟩,o,Q,P⟩:=R.out wr l;have ae:n<=1000000:=by have:=HE.out.1;have:=J.out;omega
   have HI:=xI (aN ho (aN d (aN a (aN D l))));clear ho d a D l;by_cases hin:i<n
   ·have mp:(i:Int)<(n:Int):=by omega
    have m0:(0:Int)<=(i:Int):=by omega
    have ad:IntKind.i64.wrap ((i:Int)+1)=(i:Int)+1:=Bq _ (by omega);have Y:i<ns.length:=by have:=J.out;omega
    have e:=Q.cell (k:=i) (by rw[HV.out.1];exact hin);have hx:=By Y;generalize ns[i]=x at hx;have C:RowP w w.heap.size 8 (vS A n c) ns.length (tnR w (fun b=>b<w.heap.size) ns):=by have h:=T.out;rw[J.out];exact h
    rw[<-J.out]at C;obtain⟨bn,on,aa,Ak,ck,Af,cf,hu,S,H,_,_,d0,_,_,d3,_,_,_,_⟩:=TyB.at8 C hx;injection hu with hA _ hcc;subst hA hcc;have e0:=(o.cell (p:=(aD bn _)) S).trans d0;have e3:=(o.cell (p:=(aD bn _)) S).trans d3;have f:Hid (∀ s,(∃ j y,j<i+1/\dn v j=true/\ns[j]?=some y/\y.kind=19/\y.text=s)↔(∃ j y,j<i/\dn v j=true/\ns[j]?=some y/\y.kind=19/\y.text=s)\/(dn v i=true/\x.kind=19/\x.text=s)):=xI fun s=>by
     constructor
     ·rintro⟨j,y,h1,h2,h3,h4,h5⟩;rcases Nat.lt_or_ge j i with h|h
      ·exact .inl ⟨j,y,h,h2,h3,h4,h5⟩
      ·obtain rfl:j=i:=by omega
       rw[hx]at h3;injection h3 with h3;subst h3;exact .inr ⟨h2,h4,h5⟩
     ·rintro (⟨j,y,h1,h2⟩|⟨h2,h4,h5⟩)
      ·exact⟨j,y,by omega,h2⟩
      ·exact⟨i,x,by omega,h2,hx,h4,h5⟩
    have V:x.text.length<=maxLen:=H.2.2.2.1;have ab:=xI V;clear hx C H Q o d0 d3 S Y V;cases hd:dn v i with
    | false=>
     rw[hd]at e;have HD:=xI hd;clear hd;go_wp2_with fail
     go_roundw
     case rel=>
      obtain⟨ho,d,a,D,l⟩:=HI.out;exact⟨i+1,L,by go_num,by omega,ho,fun s=>by rw[f.out s,HD.out];simpa using d s,a,by omega,l⟩
     case measure=>simp[intOf];omega
    | true=>
     rw[hd]at e;have HD:=xI hd;clear hd;by_cases hk:x.kind=19
     ·have HK:=xI hk;rw[hk]at e0;have ho:=HI.out.1;have W:L.length<=300000000:=by have:=HI.out.2.2.2.1;omega
      have I:=zKv (x:=x.text) (w:=w) (B:=fun _=>True) (cs:=[vT ⟨x.text.toArray⟩]) rfl;generalize x.text=tx at *;generalize x.kind=kd at *;clear hk;go_wp2_with (at_builtin;refine zFm elS7 namS7 rfl _ _ rfl w2.heap.size _ L rfl ho tx [vT ⟨tx.toArray⟩] 1 _ rfl rfl _ rfl rfl rfl I W P ?_;intro g9 cap9 w9 ho9 hb9 _ _;refine Hid.out ?_);refine xI ?_;have HG:=xI (aN ho9 hb9);clear ho9 hb9 ho W I e e0 e3 t0 t1 P;go_wp2_with fail
      go_roundw
      case rel=>
       obtain⟨_,d,a,D,l⟩:=HI.out;refine⟨i+1,L++[tx],by go_num,by omega,by simpa using HG.out.1,fun s=>?_,fun s hs=>?_,by simp;omega,l.trans HG.out.2⟩
       ·rw[f.out s,B8,d s,Cq];have:=HD.out;have:=HK.out;constructor
        ·rintro (h|h)
         ·exact .inl h
         ·exact .inr ⟨by assumption,by assumption,h.symm⟩
        ·rintro (h|h)
         ·exact .inl h
         ·exact .inr h.2.2.symm
       ·rcases B8.1 hs with hs|hs
        ·exact a s hs
        ·rw[Cq.1 hs];exact ab.out
      case measure=>simp[intOf];omega
     ·have HK:=xI hk;go_wp2_with fail
      go_roundw
      case rel=>
       obtain⟨ho,d,a,D,l⟩:=HI.out;exact⟨i+1,L,by go_num,by omega,ho,fun s=>by
        rw[f.out s,d s];exact⟨fun h=>.inl h,fun h=>by
         rcases h with h|h
         ·exact h
         ·exact absurd h.2.1 HK.out⟩,a,by omega,l⟩
      case measure=>simp[intOf];omega
   ·obtain rfl:i=n:=by omega
    have mp:¬ ((i:Int)<(i:Int)):=by omega
    obtain⟨ho,d,a,D,l⟩:=HI.out;have hc:=zBn A2 L.length c2 L wr ((OwnE.names ho).rng a) (by omega);have HO:=xI (aN d o);clear ho d a D l o Q P t0 t1;go_wp2_with fail;refine hc.mono ?_;rintro e w5 ⟨A5,c5,rfl,K,M⟩;clear hc;have H5:=xI (aN K M);clear K M;go_wp2_with fail;go_ret;obtain⟨d,o⟩:=HO.out;obtain⟨K,M⟩:=H5.out;have m:=H1.out.1;have hv:srt L=varsT (ns,root):=zHe.unique (zLt (ns:=ns) (r:=root.toNat) fun s=>by
     rw[d s];constructor
     ·rintro⟨j,x,_,h2,h3⟩;exact⟨j,x,(HV.out.2 j).1 h2,h3⟩
     ·rintro⟨j,x,h2,h3,h4⟩;exact⟨j,x,by have:=(Bw.1 h3).1;have:=J.out;omega,(HV.out.2 j).2 h2,h3,h4⟩) (zKe m)
    exact⟨vS A5 (srt L).length c5,rfl,by rw[<-hv];exact K.mono o.size,o.trans (M.mono o.size)⟩
 ·have N:¬ wfC ns root=0:=m;have HB:=xI (aN t m);clear hn hko hlf F E kX G t m hb1;generalize wfC ns root=z at *;go_wp2_with fail;go_ret;rw[zIe HB.out.2];exact⟨_,rfl,OwnN.nil _ _,HB.out.1⟩
def zB1 (ns:List Tn) (root:Int):Int:=if wfC ns root=0 then (if ns.any (fun x=>decide (8<x.fds.length)) then 2 else if 60<ns.length\/8<(varsT (ns,root)).length then 2 else 0) else wfC ns root
theorem zHl {ns:List Tn}{root:Int}{A:Option Addr}{c:Nat}(w:World) (hT:TyP w w.heap.size ns root [vS A ns.length c,vI i6 root]) (hn:ns.length<=1000000) (hko:∀ x∈ns,kidOk x) (hlf:left ns (List.replicate ns.length false)<=100000000) :
  Calls tP 54 #[.agg #[vS A ns.length c,vI i6 root]] w fun e w'=>e=.returned (vI i6 (zB1 ns root))/\bW w w':=by
 obtain⟨X,hX,o,kX,G⟩:=aW w (oE A ns.length c root)
 have I:TyP X X.heap.size ns root [vS A ns.length c,vI i6 root]:=(hT.on o).up (by omega);have hc:=zKb X I hn;obtain⟨x0,x1⟩:=zAf kX;rw[hX]at x0 x1;have D:Hid (RowP w w.heap.size 8 (vS A ns.length c) ns.length (tnR w (fun b=>b<w.heap.size) ns)):=xI (by
  obtain⟨u,hu,_,h⟩:=hT;injection hu with hu _;rw[hu];exact h)
 have HB:Hid (∀ U,Below (w.heap.size+1) X U->(jT U w.heap.size A ns.length c root)/\bW w U/\w.heap.size+1<=U.heap.size/\TyP U U.heap.size ns root [vS A ns.length c,vI i6 root]):=xI fun U hU=>⟨zAf ((hU.block _ (by omega)).trans kX),o.trans (hU.mono (by omega)),by have:=hU.size;omega,(hT.on (o.trans (hU.mono (by omega)))).up (by have:=hU.size;omega)⟩;have HN:=xI hn;have HZ:=xI G;have L:=xI (aN hko hlf);clear hT hn I o kX G hko hlf;go_enter func54,ntmps54;go_wp2_with fail;rw[<-hX];clear hX x0 x1;refine hc.mono ?_;rintro e w1 ⟨rfl,hb1⟩;clear hc;have J:Below (w.heap.size+1) X w1:=hb1.mono (by have:=HZ.out;omega);have F:=xI J;clear hb1 J;by_cases hwf:wfC ns root=0
 ·have q:=xI hwf;rw[hwf];clear hwf;obtain⟨⟨t0,t1⟩,a,t,_⟩:=HB.out w1 F.out;obtain⟨n,m⟩:∃ n,n=ns.length:=⟨_,rfl⟩;rw[<-m]at t0;have g:=xI m;have Q:n<=1000000:=by have:=HN.out;omega
  have k:=m.symm
  try rw[k]
  clear a m;go_wp2_with fail
  go_loopw [4] (fun iv wr=>∃ i:Nat,iv=vI i6 i/\i<=n/\(∀ j x,j<i->ns[j]?=some x->x.fds.length<=8)/\Below (w.heap.size+1) X wr) (fun i _=>((n:Int)-intOf i).toNat)
  case atStart=>exact⟨0,rfl,by omega,fun j x h=>absurd h (by omega),F.out⟩
  case round=>
   obtain⟨i,rfl,hi,l,H⟩:=hrel;have HR:=xI (aN l H);clear l H t0 t1 t k;obtain⟨⟨t0,t1⟩,a,t,C⟩:=HB.out wr HR.out.2;rw[<-g.out]at t0;by_cases hin:i<n
   ·have mp:(i:Int)<(n:Int):=by omega
    have m0:(0:Int)<=(i:Int):=by omega
    have P:IntKind.i64.wrap ((i:Int)+1)=(i:Int)+1:=Bq _ (by omega);have v:i<ns.length:=by have:=g.out;omega
    have hx:=By v;have r:=Cw v;generalize ns[i]=x at hx r;obtain⟨bn,on,N,Ak,ck,Af,cf,hu,d,_,_,_,d0,d1,d2,d3,d4,d5,d6,d7⟩:=TyB.at8 D.out hx;injection hu with hA _ hcc;subst hA hcc;have e0:=(a.cell (p:=(aD bn _)) d).trans d0;have e1:=(a.cell (p:=(aD bn _)) d).trans d1;have e2:=(a.cell (p:=(aD bn _)) d).trans d2;have e3:=(a.cell (p:=(aD bn _)) d).trans d3;have e4:=(a.cell (p:=(aD bn _)) d).trans d4;have e5:=(a.cell (p:=(aD bn _)) d).trans d5;have e6:=(a.cell (p:=(aD bn _)) d).trans d6;have e7:=(a.cell (p:=(aD bn _)) d).trans d7;have HX:=xI (aN hx r);clear d0 d1 d2 d3 d4 d5 d6 d7 hx r d C v;obtain⟨fl,B⟩:∃ fl,fl=x.fds.length:=⟨_,rfl⟩;rw[<-B]at e5;have M:=xI B;clear B;clear a;by_cases h8:(8:Int)<(fl:Int)
    ·go_wp2_with fail;go_ret;exact⟨by
      unfold zB1;rw[if_pos q.out,if_pos (List.any_eq_true.2 ⟨x,HX.out.2,C5 (by have:=M.out;omega)⟩)]
      first|rfl|simp,(HB.out _ HR.out.2).2.1⟩
    ·go_wp2_with fail
     go_roundw
     case rel=>exact⟨i+1,by go_num,by omega,fun j y hj hy=>by
      rcases Nat.lt_or_ge j i with h|h
      ·exact HR.out.1 j y h hy
      ·obtain rfl:j=i:=by omega
       rw[HX.out.1]at hy;injection hy with hy;have:=M.out;rw[<-hy];omega,HR.out.2⟩
     case measure=>simp[intOf];omega
   ·obtain rfl:i=n:=by omega
    have mp:¬ ((i:Int)<(i:Int)):=by omega
    have f:Hid (ns.any (fun x=>decide (8<x.fds.length))=false):=xI (by
     rw[List.any_eq_false];intro x hx;obtain⟨j,hj⟩:=Dd.1 hx;have:=HR.out.1 j x (by have:=(Bw.1 hj).1;have:=g.out;omega) hj;simp;omega)
    have hc:=zDr wr C HN.out L.out.1 L.out.2;have E:=xI a;clear a C t;by_cases h60:(60:Int)<(i:Int)
    ·go_wp2_with fail;go_ret;exact⟨by
      unfold zB1;rw[if_pos q.out,f.out,if_neg (by simp),if_pos (.inl (by have:=g.out;omega))]
      first|rfl|simp,E.out⟩
    ·rw[<-g.out]at hc;go_wp2_with fail;refine hc.mono ?_;rintro e w5 ⟨v5,rfl,ho5,hb5⟩;clear hc t0 t1;obtain⟨A5,c5,rfl⟩:=ho5.form;have H5:=xI (E.out.trans (hb5.mono E.out.size));clear ho5 hb5;obtain⟨vl,s⟩:∃ vl,vl=(varsT (ns,root)).length:=⟨_,rfl⟩;rw[<-s];have K:=xI s;clear s;by_cases hv8:(8:Int)<(vl:Int)
     ·go_wp2_with fail;go_ret;exact⟨by
       unfold zB1;rw[if_pos q.out,f.out,if_neg (by simp),if_pos (.inr (by have:=K.out;omega))]
       first|rfl|simp,H5.out⟩
     ·go_wp2_with fail;go_ret;exact⟨by
       unfold zB1;rw[if_pos q.out,f.out,if_neg (by simp),if_neg (by have:=K.out;have:=g.out;omega)]
       first|rfl|simp,H5.out⟩
 ·obtain⟨z,hz⟩:∃ z,z=wfC ns root:=⟨_,rfl⟩;have HV:Hid (zB1 ns root=z):=xI (by unfold zB1;rw[if_neg hwf,hz]);rw[<-hz]at hwf ⊢;have O:=xI (HB.out w1 F.out).2.1;clear hz;go_wp2_with fail;go_ret;exact⟨by rw[HV.out];first|rfl|simp,O.out⟩
theorem zHk {ns:List Tn}{root:Int}{A:Option Addr}{c:Nat}(w:World) (hT:TyP w w.heap.size ns root [vS A ns.length c,vI i6 root]) (hn:ns.length<=1000000) :
  Calls tP 53 #[.agg #[vS A ns.length c,vI i6 root]] w fun e w'=>e=.returned (vI i6 (zB1 ns root))/\bW w w':=by
 obtain⟨X,hX,q,kX,G⟩:=aW w (oE A ns.length c root)
 have J:TyP X X.heap.size ns root [vS A ns.length c,vI i6 root]:=(hT.on q).up (by omega);have hc:=zFn X J hn;obtain⟨x0,x1⟩:=zAf kX;rw[hX]at x0 x1;have D:Hid (RowP w w.heap.size 8 (vS A ns.length c) ns.length (tnR w (fun b=>b<w.heap.size) ns)):=xI (by
  obtain⟨u,hu,_,h⟩:=hT;injection hu with hu _;rw[hu];exact h)
 have HB:Hid (∀ U,Below (w.heap.size+1) X U->(jT U w.heap.size A ns.length c root)/\bW w U/\w.heap.size+1<=U.heap.size/\TyP U U.heap.size ns root [vS A ns.length c,vI i6 root]):=xI fun U hU=>⟨zAf ((hU.block _ (by omega)).trans kX),q.trans (hU.mono (by omega)),by have:=hU.size;omega,(hT.on (q.trans (hU.mono (by omega)))).up (by have:=hU.size;omega)⟩;have HN:=xI hn;have HZ:=xI G;clear hT hn J q kX G;go_enter func53,ntmps53;go_wp2_with fail;rw[<-hX];clear hX x0 x1;refine hc.mono ?_;rintro e w1 ⟨rfl,hb1⟩;clear hc;have K:Below (w.heap.size+1) X w1:=hb1.mono (by have:=HZ.out;omega);have F:=xI K;clear hb1 K;by_cases hwf:wfC ns root=0
 ·have r:=xI hwf;rw[hwf];clear hwf;obtain⟨⟨t0,t1⟩,a,m,_⟩:=HB.out w1 F.out;obtain⟨n,o⟩:∃ n,n=ns.length:=⟨_,rfl⟩;rw[<-o]at t0;have g:=xI o;have Q:n<=1000000:=by have:=HN.out;omega
  have k:=o.symm
  try rw[k]
  clear a o;go_wp2_with fail
  go_loopw [14] (fun iv wr=>∃ i:Nat,iv=vI i6 i/\i<=n/\(∀ j x,j<i->ns[j]?=some x->x.fds.length<=8)/\Below (w.heap.size+1) X wr) (fun i _=>((n:Int)-intOf i).toNat)
  case atStart=>exact⟨0,rfl,by omega,fun j x h=>absurd h (by omega),F.out⟩
  case round=>
   obtain⟨i,rfl,hi,l,H⟩:=hrel;have HR:=xI (aN l H);clear l H t0 t1 m k;obtain⟨⟨t0,t1⟩,a,m,C⟩:=HB.out wr HR.out.2;rw[<-g.out]at t0;by_cases hin:i<n
   ·have mp:(i:Int)<(n:Int):=by omega
    have m0:(0:Int)<=(i:Int):=by omega
    have P:IntKind.i64.wrap ((i:Int)+1)=(i:Int)+1:=Bq _ (by omega);have v:i<ns.length:=by have:=g.out;omega
    have hx:=By v;have s:=Cw v;generalize ns[i]=x at hx s;obtain⟨bn,on,N,Ak,ck,Af,cf,hu,d,_,_,_,d0,d1,d2,d3,d4,d5,d6,d7⟩:=TyB.at8 D.out hx;injection hu with hA _ hcc;subst hA hcc;have e0:=(a.cell (p:=(aD bn _)) d).trans d0;have e1:=(a.cell (p:=(aD bn _)) d).trans d1;have e2:=(a.cell (p:=(aD bn _)) d).trans d2;have e3:=(a.cell (p:=(aD bn _)) d).trans d3;have e4:=(a.cell (p:=(aD bn _)) d).trans d4;have e5:=(a.cell (p:=(aD bn _)) d).trans d5;have e6:=(a.cell (p:=(aD bn _)) d).trans d6;have e7:=(a.cell (p:=(aD bn _)) d).trans d7;have HX:=xI (aN hx s);clear d0 d1 d2 d3 d4 d5 d6 d7 hx s d C v;obtain⟨fl,B⟩:∃ fl,fl=x.fds.length:=⟨_,rfl⟩;rw[<-B]at e5;have M:=xI B;clear B;obtain⟨V,hV⟩:∃ V,V=wr.alloc (oX x.kind x.lo x.hi ⟨x.text.toArray⟩ Ak x.kids.length ck Af fl cf x.r0 x.r1):=⟨_,rfl⟩;have I:Below (w.heap.size+1) X V:=HR.out.2.trans (by rw[hV];exact yR.alloc m _);have kV:V.heap[wr.heap.size]?=some (oX x.kind x.lo x.hi ⟨x.text.toArray⟩ Ak x.kids.length ck Af fl cf x.r0 x.r1):=by rw[hV];exact Bj wr _
    obtain⟨y0,y1,y2,y3,y4,y5,y6,y7⟩:=zAd kV;rw[hV]at y0 y1 y2 y3 y4 y5 y6 y7;have HV:=xI I;clear I kV;clear a;by_cases h8:(8:Int)<(fl:Int)
    ·go_wp2_with fail;rw[<-hV];go_ret;exact⟨by
      unfold zB1;rw[if_pos r.out,if_pos (List.any_eq_true.2 ⟨x,HX.out.2,C5 (by have:=M.out;omega)⟩)]
      first|rfl|simp,(HB.out _ HV.out).2.1⟩
    ·go_wp2_with fail;rw[<-hV]
     go_roundw
     case rel=>exact⟨i+1,by go_num,by omega,fun j y hj hy=>by
      rcases Nat.lt_or_ge j i with h|h
      ·exact HR.out.1 j y h hy
      ·obtain rfl:j=i:=by omega
       rw[HX.out.1]at hy;injection hy with hy;have:=M.out;rw[<-hy];omega,HV.out⟩
     case measure=>simp[intOf];omega
   ·obtain rfl:i=n:=by omega
    have mp:¬ ((i:Int)<(i:Int)):=by omega
    have f:Hid (ns.any (fun x=>decide (8<x.fds.length))=false):=xI (by
     rw[List.any_eq_false];intro x hx;obtain⟨j,hj⟩:=Dd.1 hx;have:=HR.out.1 j x (by have:=(Bw.1 hj).1;have:=g.out;omega) hj;simp;omega)
    have hc:=zCo wr C HN.out;have E:=xI a;clear a C m;by_cases h60:(60:Int)<(i:Int)
    ·go_wp2_with fail;go_ret;exact⟨by
      unfold zB1;rw[if_pos r.out,f.out,if_neg (by simp),if_pos (.inl (by have:=g.out;omega))]
      first|rfl|simp,E.out⟩
    ·rw[<-g.out]at hc;go_wp2_with fail;refine hc.mono ?_;rintro e w5 ⟨v5,rfl,ho5,hb5⟩;clear hc t0 t1;obtain⟨A5,c5,rfl⟩:=ho5.form;have H5:=xI (E.out.trans (hb5.mono E.out.size));clear ho5 hb5;obtain⟨vl,t⟩:∃ vl,vl=(varsT (ns,root)).length:=⟨_,rfl⟩;rw[show (srt (varL (accT (ns,root)).1 (visR (accT (ns,root)).1 (accT (ns,root)).2.toNat))).length=(varsT (ns,root)).length from rfl]at *;rw[<-t];have L:=xI t;clear t;by_cases hv8:(8:Int)<(vl:Int)
     ·go_wp2_with fail;go_ret;exact⟨by
       unfold zB1;rw[if_pos r.out,f.out,if_neg (by simp),if_pos (.inr (by have:=L.out;omega))]
       first|rfl|simp,H5.out⟩
     ·go_wp2_with fail;go_ret;exact⟨by
       unfold zB1;rw[if_pos r.out,f.out,if_neg (by simp),if_neg (by have:=L.out;have:=g.out;omega)]
       first|rfl|simp,H5.out⟩
 ·obtain⟨z,hz⟩:∃ z,z=wfC ns root:=⟨_,rfl⟩;have HV:Hid (zB1 ns root=z):=xI (by unfold zB1;rw[if_neg hwf,hz]);rw[<-hz]at hwf ⊢;have O:=xI (HB.out w1 F.out).2.1;clear hz;go_wp2_with fail;go_ret;exact⟨by rw[HV.out];first|rfl|simp,O.out⟩
theorem zJd {w:World}{H:Nat}{ns:List Tn}{root:Int}{u:Value}(h:TyP w H ns root [u,vI i6 root]):Short (varsT (ns,root)):=by
 by_cases hwf:WfT (ns,root)
 ·intro s hs;obtain⟨i,x,_,hx,_,rfl⟩:=((zKe hwf).2 s).1 hs;obtain⟨u',hu,_,hr⟩:=h;injection hu with hu _;subst hu;obtain⟨_,_,_,_,_,_,_,_,_,hb,_⟩:=TyB.at8 hr hx;rename_i hb2
  first|exact hb.2.2.2.1|exact hb2.2.2.2.1
 ·rw[zIe hwf];intro s hs;cases hs
theorem zEw {ns:List Tn}{root:Int}{A:Option Addr}{c:Nat}(w:World) (hT:TyP w w.heap.size ns root [vS A ns.length c,vI i6 root]) (hn:ns.length<=1000000) (hko:∀ x∈ns,kidOk x) (hlf:left ns (List.replicate ns.length false)<=100000000) :
  Calls tP 13 #[.agg #[vS A ns.length c,vI i6 root]] w fun e w'=>e=.returned (.bool true)/\bW w w':=by
 obtain⟨X,hX,G,kX,R⟩:=aW w (oE A ns.length c root)
 have f:TyAt X ns root A c:=(hT.on G).up (by omega);have J:=zJd hT;have W:Hid (∀ U,bW X U->Calls tP 52 #[.agg #[vS A ns.length c,vI i6 root]] U fun e w'=>∃ v,e=.returned v/\OwnN w' U.heap.size v (varsT (ns,root))/\bW U w'):=xI fun U hU=>zCo U (TyB.up (TyB.on f hU) hU.size) hn;have Y:Hid (∀ U,bW X U->Calls tP 41 #[.agg #[vS A ns.length c,vI i6 root]] U fun e w'=>∃ v,e=.returned v/\OwnN w' U.heap.size v (varsT (ns,root))/\bW U w'):=xI fun U hU=>zDr U (TyB.up (TyB.on f hU) hU.size) hn hko hlf;have T:Hid (∀ U,bW X U->Calls tP 12 #[.agg #[vS A ns.length c,vI i6 root]] U fun e w'=>e=.returned (vI i6 (wfC ns root))/\bW U w'):=xI fun U hU=>zFn U (TyB.up (TyB.on f hU) hU.size) hn;have V:Hid (∀ U,bW X U->Calls tP 32 #[.agg #[vS A ns.length c,vI i6 root]] U fun e w'=>e=.returned (vI i6 (wfC ns root))/\bW U w'):=xI fun U hU=>zKb U (TyB.up (TyB.on f hU) hU.size) hn;have Z:Hid (∀ U,bW X U->Calls tP 53 #[.agg #[vS A ns.length c,vI i6 root]] U fun e w'=>e=.returned (vI i6 (zB1 ns root))/\bW U w'):=xI fun U hU=>zHk U (TyB.up (TyB.on f hU) hU.size) hn;have aa:Hid (∀ U,bW X U->Calls tP 54 #[.agg #[vS A ns.length c,vI i6 root]] U fun e w'=>e=.returned (vI i6 (zB1 ns root))/\bW U w'):=xI fun U hU=>zHl U (TyB.up (TyB.on f hU) hU.size) hn hko hlf;have I:Hid (∀ U,bW X U->Calls tP 43 #[.agg #[vS A ns.length c,vI i6 root]] U fun e w'=>e=.returned (.bool (decide (((varsT (ns,root)).length:Int)=0)))/\bW U w'):=xI fun U hU=>zE6 U (TyB.up (TyB.on f hU) hU.size) hn;have HQ:Hid (∀ wq,bW X wq->jT wq w.heap.size A ns.length c root):=xI fun wq h=>zAf ((h.block _ (by omega)).trans kX);have HB:=xI (aN G J);generalize varsT (ns,root)=L at *;generalize wfC ns root=z at *;generalize zB1 ns root=y at *;have hd:bW X X.drew:=yR.drew;clear hT hn hko hlf G kX R f J;go_enter func13,ntmps13;go_wp2_with fail;rw[<-hX];clear hX;refine wR HQ (by kernel_rfl) (HQ.out _ hd) (fun _=>?_);refine oT 0 (HQ.out _ hd) ?_ (hy:=oB);refine oT 2 (HQ.out _ hd) ?_ (hy:=oB);refine oO 1 fun K hK=>?_;go_simp;refine (W.out _ hd).mono ?_;rintro e w5 ⟨v5,rfl,ho5,hb5⟩;have r:=hd.trans (hb5.mono hd.size);refine hK _ _ (HQ.out _ r) (oP ?_);clear hK K;refine oO 3 fun K hK=>?_;go_simp;refine (Y.out _ r).mono ?_;rintro e w6 ⟨v6,rfl,ho6,hb6⟩;have m:=r.trans (hb6.mono r.size);refine hK _ _ (HQ.out _ m) (oP ?_);clear hK K;refine oT 4 (HQ.out _ m) ?_ (hy:=oA);refine oT 5 (HQ.out _ m) ?_ (hy:=oA);refine wD ?_;have o:=OwnN.old ho5 hb6;obtain⟨A5,c5,rfl⟩:=ho5.form;obtain⟨A6,c6,rfl⟩:=ho6.form;have HR:Hid (∀ U,bW w6 U->NmS U U.heap.size A5 L.length L/\NmS U U.heap.size A6 L.length L/\bW X U):=xI fun U hU=>⟨(OwnN.old o hU).rng HB.out.2,(OwnN.old ho6 hU).rng HB.out.2,m.trans (hU.mono m.size)⟩;have q:L.length<=maxLen:=by
  have h:=ho5.1;obtain⟨_,h2|⟨_,_,_,h3,_,_,h4,h5,_⟩⟩:=ho5
  ·have:=h2.2;unfold maxLen;omega
  ·omega
 have t:=xI q;clear ho5 ho6 o hb5 hb6 r m hd q;obtain⟨n,u⟩:∃ n,n=L.length:=⟨_,rfl⟩;rw[<-u];rw[<-u]at HR I t;have HN:=xI u;clear u;have S:((n:Int) != (n:Int))=false:=by simp
 go_wp2_with fail;clear S
 go_loopw [5] (fun iv wr=>∃ i:Nat,iv=vI i6 i/\i<=n/\bW w6 wr) (fun i _=>((n:Int)-intOf i).toNat)
 case atStart=>exact⟨0,rfl,by omega,Bv _ _⟩
 case round=>
  obtain⟨i,rfl,hi,k⟩:=hrel;have F:=t.out;unfold maxLen at F;by_cases hin:i<n
  ·have mp:(i:Int)<(n:Int):=by omega
   have m0:(0:Int)<=(i:Int):=by omega
   have af:IntKind.i64.wrap ((i:Int)+1)=(i:Int)+1:=Bq _ (by omega);have hs:=By (l:=L) (i:=i) (by have:=HN.out;omega);generalize L[i]'(by have:=HN.out;omega)=s at hs;obtain⟨b5,o5,rfl,N,Q⟩:=(HR.out wr k).1.2.2 (by omega);obtain⟨b6,o6,rfl,M,O⟩:=(HR.out wr k).2.1.2.2 (by omega);have E:=Q i s hs;have D:=O i s hs;unfold encStr at E D;have HS:Hid (∀ wq,bW wr wq->wq.cell? (aD b5 (o5+i))=some (vT ⟨s.toArray⟩)/\wq.cell? (aD b6 (o6+i))=some (vT ⟨s.toArray⟩)):=xI fun wq h=>⟨(h.cell (p:=(aD b5 _)) N).trans E,(h.cell (p:=(aD b6 _)) M).trans D⟩;have ab:=xI (k.trans ((Bv wr.heap.size wr).drew.mono k.size));have b:bW wr wr.drew:=yR.drew;clear hs Q O E D N M k F;go_wp2_with fail;refine wR HS (by kernel_rfl) (HS.out _ b) (fun _=>?_);refine oT 0 (HS.out _ b) ?_ (hy:=oA);refine oT 1 (HS.out _ b) ?_ (hy:=oA);refine oT 2 (HS.out _ b) ?_ (hy:=oA);refine oT 3 (HS.out _ b) ?_ (hy:=oB);refine oT 4 (HS.out _ b) ?_ (hy:=oA);refine oT 5 (HS.out _ b) ?_ (hy:=oA);refine oT 6 (HS.out _ b) ?_ (hy:=oA);refine oT 7 (HS.out _ b) ?_ (hy:=oB);refine oT 8 (HS.out _ b) ?_ (hy:=oA);refine wD ?_;clear b;go_wp2
   go_roundw
   case rel=>exact⟨i+1,by go_num,by omega,ab.out⟩
   case measure=>simp[intOf];omega
  ·obtain rfl:i=n:=by omega
   have mp:¬ ((i:Int)<(i:Int)):=by omega
   have hB:=(HR.out wr k).2.2;have hd:=hB.drew;have ad:(z==z)=true:=by simp
   have ae:(y==y)=true:=by simp
   obtain⟨g,hg⟩:∃ g,g=decide ((i:Int)=0):=⟨_,rfl⟩;rw[<-hg]at I;have ah:((i:Int)==0)=g:=by rw[hg];rfl
   have ag:(g==g)=true:=by simp
   clear k F hg;go_wp2_with fail;refine wR HQ (by kernel_rfl) (HQ.out _ hd) (fun _=>?_);refine oT 0 (HQ.out _ hd) ?_ (hy:=oB);refine oT 2 (HQ.out _ hd) ?_ (hy:=oB);refine oO 1 fun K hK=>?_;go_simp;refine (T.out _ hd).mono ?_;rintro e w7 ⟨rfl,hb7⟩;have C:=hd.trans (hb7.mono hd.size);refine hK _ _ (HQ.out _ C) (oP ?_);clear hK K;refine oO 3 fun K hK=>?_;go_simp;refine (V.out _ C).mono ?_;rintro e w8 ⟨rfl,hb8⟩;have j:=C.trans (hb8.mono C.size);refine hK _ _ (HQ.out _ j) (oP ?_);clear hK K;refine oT 4 (HQ.out _ j) ?_ (hy:=oA);refine oT 5 (HQ.out _ j) ?_ (hy:=oA);refine oT 6 (HQ.out _ j) ?_ (hy:=oB);refine oT 8 (HQ.out _ j) ?_ (hy:=oB);refine oO 7 fun K hK=>?_;go_simp;refine (Z.out _ j).mono ?_;rintro e w9 ⟨rfl,hb9⟩;have B:=j.trans (hb9.mono j.size);refine hK _ _ (HQ.out _ B) (oP ?_);clear hK K;refine oO 9 fun K hK=>?_;go_simp;refine (aa.out _ B).mono ?_;rintro e w10 ⟨rfl,hb10⟩;have a:=B.trans (hb10.mono B.size);refine hK _ _ (HQ.out _ a) (oP ?_);clear hK K;refine oT 10 (HQ.out _ a) ?_ (hy:=oA);refine oT 11 (HQ.out _ a) ?_ (hy:=oA);refine oT 12 (HQ.out _ a) ?_ (hy:=oA);refine oT 13 (HQ.out _ a) ?_ (hy:=oB);refine oT 15 (HQ.out _ a) ?_ (hy:=oA);refine oT 16 (HQ.out _ a) ?_ (hy:=oA);refine oT 17 (HQ.out _ a) ?_ (hy:=oA);refine oO 14 fun K hK=>?_;go_simp;refine (I.out _ a).mono ?_;rintro e w11 ⟨rfl,hb11⟩;have d:=a.trans (hb11.mono a.size);refine hK _ _ (HQ.out _ d) (oP ?_);clear hK K;refine oT 18 (HQ.out _ d) ?_ (hy:=oA);refine oT 19 (HQ.out _ d) ?_ (hy:=oA);refine oT 20 (HQ.out _ d) ?_ (hy:=oA);refine wD ?_;go_wp2;go_ret;exact⟨by first|rfl|simp,HB.out.1.trans (d.mono HB.out.1.size)⟩
open Go.WideShapes Go.Deep
section
variable {H:Type}{enc:TypeId×Value->H}{P:Program}{w:World}{spare:Nat->Bool}{held:Bool}
def Wgt (P:Program) (t:TypeId) (d:DataW H):Prop:=∀ n∈d.weights P t,n<=reachBytes
theorem zR5 {ts:List TypeId}{ds:List (DataW H)}{t:TypeId}{d:DataW H}(h:(DataW.weightsEach P ts ds).all (·<=reachBytes)=true) (j:Nat) (ht:ts[j]?=some t) (hd:ds[j]?=some d):Wgt P t d:=fun n hn=>by
 have:=Cy.1 h _ (DataW.weights_mem_each ht hd n hn);simpa using this
theorem zFo {e:TypeId}:∀ {ds:List (DataW H)}{d:DataW H},d∈ds->∀ n∈d.weights P e,n∈DataW.weightsAll P e ds
 | d0::ds,d,h,n,hn=>by
  simp only[DataW.weightsAll,B8];rcases Ct.1 h with rfl|h
  ·exact .inl hn
  ·exact .inr (zFo h n hn)
theorem zCr {t:TypeId}{l:List (TypeId×Nat)}{k:Nat}{cs:List Value}{x:DataW H×List MemPlace}(hl:zC3 P t=some l) (h:DataW.trod enc P w 0 spare held k t cs=some x) (hw:Wgt P t x.1) :
  ∃ n,k=n+1/\cs.length=P.cellsOf t/\∀ (i:Nat) (p:TypeId×Nat),l[i]?=some p->∃ y,DataW.trod enc P w 0 spare held n p.1 ((cs.drop p.2).take (P.cellsOf p.1))=some y/\Wgt P p.1 y.1:=by
 obtain⟨fs,b,g,hf⟩:=zEl hl;obtain⟨xs,n,hk,c,a,e,hx⟩:=DataW.trod_struct b h;subst c;refine⟨n,hk,a,fun i p hp=>?_⟩;obtain⟨f,h1,h2,h3⟩:=hf i p hp;have h4:=hx i f h1;rw[h2,h3]at h4;have hi:i<xs.length:=by
  have:=(Bw.1 hp).1;omega
 have h5:=By hi;refine⟨xs[i],by rw[h4];exact h5,fun m hm=>hw m ?_⟩;simp only[DataW.weights,b];exact DataW.weights_mem_each (j:=i) (t:=p.1) (d:=xs[i].1) (by simp[h1,h2]) (by simp[h5]) m hm
theorem zK8 {t e:TypeId}{k:Nat}{a b:Value}{x:DataW H×List MemPlace}(ht:P.underlying t=some (.array 2 e)) (hc:P.cellsOf e=1) (h:DataW.trod enc P w 0 spare held k t [a,b]=some x) :
  ∃ n y z,DataW.trod enc P w 0 spare held n e [a]=some y/\DataW.trod enc P w 0 spare held n e [b]=some z:=by
 obtain⟨xs,m,_,_,_,hl,hx⟩:=DataW.trod_array ht h;have h0:=hx 0 (by omega);have h1:=hx 1 (by omega);rw[hc,By (by omega)]at h0 h1;exact⟨m,_,_,h0,h1⟩
theorem zF0 {n c:Nat}{t e:TypeId}{u:Value}{y:DataW H×List MemPlace}{α:Type}(R:α->List Value->Prop) (ht:P.underlying t=some (.slice e)) (hc:P.cellsOf e=c) (hpos:0<c)
  (h:DataW.trod enc P w 0 spare held n t [u]=some y) (hw:Wgt P t y.1) (hR:∀ m cs z,m<n->DataW.trod enc P w 0 spare held m e cs=some z->Wgt P e z.1->∃ x:α,R x cs) :
  ∃ l:List α,RowP w w.heap.size c u l.length (fun j cs=>∃ x,l[j]?=some x/\R x cs)/\l.length*P.bytesOf e<=reachBytes:=by
 rcases DataW.trod_slice ht h with⟨h0,_⟩|⟨a,len,cap,g,rest,m,rfl,hu,hy,hb,hl,hm,p,v,_⟩
 ·simp only[Bb,and_true]at h0;subst h0;exact⟨[],⟨none,0,rfl,⟨Bl _,B7 _⟩,fun hn=>absurd hn (by simp)⟩,by simp⟩
 ·simp only[Bb,and_true]at hu;subst hu hy;have s:len*P.bytesOf e<=reachBytes:=by
   have h1:=hw ((g.length+rest.length)*P.bytesOf e) (by simp[DataW.weights,ht]);rw[p]at h1;exact Ba (Di _ (Nat.le_add_right _ _)) h1
  have d:∀ i:Fin len,∃ x:α,∃ cs:List Value,cs.length=c/\(∀ q,q<c->w.cell? ((a.add (i.1*c)).add q)=cs[q]?)/\R x cs:=by
   intro i;have h1:=v i.1 i.2;rw[By (by omega),hc]at h1;obtain⟨cs,h2,h3⟩:=Option.bind_eq_some_iff.1 h1;obtain⟨_,h4,h5⟩:=World.cells?_some h2;obtain⟨x,hx⟩:=hR m cs _ (by omega) h3 fun q hq=>hw q (by
    simp only[DataW.weights,ht,Ct,B8];exact .inr (.inl (zFo (Cd.2 ⟨_,Cw _,rfl⟩) q hq)))
   exact⟨x,cs,h4,h5,hx⟩
  refine⟨List.ofFn fun i=>Classical.choose (d i),⟨some a,cap,by simp,⟨by simp;omega,by simp;omega⟩,fun hn=>?_⟩,by rw[List.length_ofFn];exact s⟩;rw[List.length_ofFn]at hn;obtain⟨b,r,o⟩:=a;obtain⟨A,k1,k2,_⟩:=Ec (d ⟨0,hn⟩);have k:=k2 0 hpos;rw[By (by omega)]at k;have f:o=none:=by simpa [Addr.add] using World.cell?_spot k
  subst f;refine⟨b,r,rfl,?_,?_,fun j hj=>?_⟩
  ·simpa [Addr.add] using World.block_lt_of_cell? _ _ k
  ·simpa [Addr.add] using World.block_lt_of_cell? _ _ k
  ·rw[List.length_ofFn]at hj;obtain⟨cs,k3,k4,k5⟩:=Ec (d ⟨j,hj⟩);refine⟨cs,k3,fun i hi=>?_,_,by rw[List.getElem?_ofFn,dif_pos hj],k5⟩;have:=k4 i hi;rw[zEp,zEp]at this;rw[<-this]
end
theorem zHx {H:Type}{enc:TypeId×Value->H}{W:World}{fuel:Nat}{u:Value}{x:DataW H×List MemPlace}(hf:DataW.trod enc tP W 0 (fun _=>true) true fuel 22 [u]=some x) (hw:Wgt tP 22 x.1) :
  ∃ ns:List Tn,RowP W W.heap.size 8 u ns.length (tnR W (fun b=>b<W.heap.size) ns)/\∀ y∈ns,szN y<=2 ^ 60:=by
 have g:zC3 tP 40=some [(3,0),(2,1),(2,2),(9,3),(25,4),(37,5),(38,6)]:=by kernel_rfl
 have k:zC3 tP 150=some [(131,0),(3,2),(4,3)]:=by kernel_rfl
 have j:zC3 tP 131=some [(3,0),(9,1)]:=by kernel_rfl
 have c1:tP.cellsOf 3=1:=by kernel_rfl
 have c2:tP.cellsOf 2=1:=by kernel_rfl
 have c3:tP.cellsOf 9=1:=by kernel_rfl
 have c4:tP.cellsOf 25=1:=by kernel_rfl
 have c5:tP.cellsOf 37=1:=by kernel_rfl
 have c6:tP.cellsOf 38=2:=by kernel_rfl
 have c7:tP.cellsOf 131=2:=by kernel_rfl
 have c8:tP.cellsOf 4=1:=by kernel_rfl
 have cN:tP.cellsOf 40=8:=by kernel_rfl
 have cF:tP.cellsOf 150=4:=by kernel_rfl
 have b1:tP.bytesOf 3=8:=by kernel_rfl
 have b2:tP.bytesOf 150=40:=by kernel_rfl
 have ui:tP.underlying 3=some (.int .i64):=underlying3;have ul:tP.underlying 2=some (.int .i64):=underlying2;have us:tP.underlying 9=some .string:=underlying9;have ub:tP.underlying 4=some .bool:=underlying4;have ua:tP.underlying 38=some (.array 2 3):=underlying38;obtain⟨l,hl,_⟩:=zF0 (α:=Tn) (fun y cs=>TnB W (fun b=>b<W.heap.size) y cs/\szN y<=2 ^ 60) underlying22 cN (by omega) hf hw (by
  intro m cs z _ hz hzw;obtain⟨q,rfl,c,hg⟩:=zCr g hz hzw;rw[cN]at c;obtain⟨a0,a1,a2,a3,a4,a5,a6,a7,rfl⟩:∃ a0 a1 a2 a3 a4 a5 a6 a7,cs=[a0,a1,a2,a3,a4,a5,a6,a7]:=by
   match cs,c with
   | [a0,a1,a2,a3,a4,a5,a6,a7],_=>exact⟨a0,a1,a2,a3,a4,a5,a6,a7,rfl⟩
  obtain⟨_,g0,_⟩:=hg 0 _ rfl;obtain⟨_,g1,_⟩:=hg 1 _ rfl;obtain⟨_,g2,_⟩:=hg 2 _ rfl;obtain⟨_,g3,_⟩:=hg 3 _ rfl;obtain⟨_,g4,w4⟩:=hg 4 _ rfl;obtain⟨_,g5,w5⟩:=hg 5 _ rfl;obtain⟨_,g6,_⟩:=hg 6 _ rfl;simp only[c1,c2,c3,c4,c5,c6,List.drop_zero,List.drop_succ_cons,Dc,D5]at g0 g1 g2 g3 g4 g5 g6;obtain⟨i0,e0,_,v0⟩:=De ui g0;obtain⟨i1,e1,_,v1⟩:=De ul g1;obtain⟨i2,e2,_,v2⟩:=De ul g2;obtain⟨s3,e3,_,v3⟩:=DataW.trod_string us g3;obtain⟨_,_,_,f6,f7⟩:=zK8 ua c1 g6;obtain⟨i9,e6,_,v6⟩:=De ui f6;obtain⟨i7,e7,_,v7⟩:=De ui f7;simp only[Bb,and_true]at e0 e1 e2 e3 e6 e7;subst e0 e1 e2 e3 e6 e7;obtain⟨a,hk,f⟩:=zF0 (α:=Int) (fun x cs=>cs=[vI i6 x]/\i64B x) underlying25 c1 (by omega) g4 w4 (fun m cs z _ hz _=>by
   obtain⟨i,e,_,wi⟩:=De ui hz;exact⟨i,e,wi⟩)
  obtain⟨d,hd,n⟩:=zF0 (α:=Fd) (fun x cs=>cs=fdC x/\FdOk x) underlying37 cF (by omega) g5 w5 (by
   intro m cs z _ hz hzw;obtain⟨q,rfl,c,hg⟩:=zCr k hz hzw;rw[cF]at c;obtain⟨a0,a1,a2,a3,rfl⟩:∃ a0 a1 a2 a3,cs=[a0,a1,a2,a3]:=by
    match cs,c with
    | [a0,a1,a2,a3],_=>exact⟨a0,a1,a2,a3,rfl⟩
   obtain⟨_,g0,w0⟩:=hg 0 _ rfl;obtain⟨_,g1,_⟩:=hg 1 _ rfl;obtain⟨_,g2,_⟩:=hg 2 _ rfl;simp only[c1,c7,c8,List.drop_zero,List.drop_succ_cons,Dc,D5]at g0 g1 g2;obtain⟨q,rfl,_,hg⟩:=zCr j g0 w0;obtain⟨_,k0,_⟩:=hg 0 _ rfl;obtain⟨_,k1,_⟩:=hg 1 _ rfl;simp only[c1,c3,List.drop_zero,List.drop_succ_cons,Dc,D5]at k0 k1;obtain⟨i0,e0,_,v0⟩:=De ui k0;obtain⟨s1,e1,_,v1⟩:=DataW.trod_string us k1;obtain⟨i2,e2,_,v2⟩:=De ui g1;obtain⟨b3,e3,_⟩:=DataW.trod_bool ub g2;simp only[Bb,and_true]at e0 e1 e2 e3;subst e0 e1 e2 e3;exact⟨⟨(i0,s1.data.toList),i2,b3⟩,by unfold fdC;rw[zKf],v0,by simpa using v1,v2⟩)
  rw[b1]at f;rw[b2]at n;have hr:=reachBytes_lt;exact⟨⟨i0,i1,i2,s3.data.toList,a,d,i9,i7⟩,⟨a4,a5,by rw[zKf],⟨v0,v1,v2,by simpa using v3,v6,v7⟩,hk,hd⟩,by unfold szN;show a.length+d.length<=2 ^ 60;omega⟩)
 refine⟨l,hl.sub (fun _ h=>h) fun _ _ ⟨x,hx,h,_⟩=>⟨x,hx,h⟩,fun y hy=>?_⟩;obtain⟨i,hi⟩:=Dd.1 hy;obtain⟨_,_,_,_,h3⟩:=id hl;obtain⟨_,_,_,_,_,h4⟩:=h3 (by have:=(Bw.1 hi).1;omega);obtain⟨_,_,_,x,hx,_,hz⟩:=h4 i (Bw.1 hi).1;rw[hi]at hx;injection hx with hx;rw[hx];exact hz
theorem zIh {H:Type}{enc:TypeId×Value->H}{W:World}{base:Nat}{v:Value}{d:DataW H}{p:List MemPlace}(hval:Value.okWide tP W .any base 24 v) (h:DataW.Trod enc tP W 0 (fun _=>true) true 24 v d p) (hw:Wgt tP 24 d) :
  ∃ A c q ns,v=.agg #[vS A (List.length ns) c,vI i6 q]/\TyP W W.heap.size ns q [vS A ns.length c,vI i6 q]/\∀ y∈ns,szN y<=2 ^ 60:=by
 have e:zC3 tP 24=some [(22,0),(3,1)]:=by kernel_rfl
 have k:tP.cellsOf 3=1:=by kernel_rfl
 have i:tP.cellsOf 22=1:=by kernel_rfl
 have j:tP.cellsOf 24=2:=by kernel_rfl
 obtain⟨fs,g,_⟩:=zEl e;obtain⟨cs,rfl,m⟩:=okWide_struct g hval;obtain⟨l,hf⟩:=h;have hc:(Value.agg cs).cells.toList=cs.toList:=rfl;rw[hc]at hf;obtain⟨q,rfl,hl,hg⟩:=zCr e hf hw;rw[j]at hl;obtain⟨a,b,f⟩:∃ a b,cs.toList=[a,b]:=by
  match h:cs.toList,hl with
  | [a,b],_=>exact⟨a,b,rfl⟩
 rw[f]at hg;obtain⟨z0,g0,w0⟩:=hg 0 _ rfl;obtain⟨z1,g1,_⟩:=hg 1 _ rfl;simp only[k,i,List.drop_zero,List.drop_succ_cons,Dc,D5]at g0 g1;obtain⟨ns,hN,hz⟩:=zHx g0 w0;obtain⟨A,c,rfl,_⟩:=hN.form;obtain⟨i1,e1,_,v1⟩:=De underlying3 g1;simp only[Bb,and_true]at e1;subst e1;exact⟨A,c,i1,ns,by rw[<-Array.toArray_toList (xs:=cs),f],⟨_,rfl,v1,hN⟩,hz⟩
end Go.Proofs.YteedihhdcbepmaaGreat
