/- The document's edges of a node. -/
import Derived.Test.YteedihhdcbepmaaGreatTsZ
import Derived.Test.YteedihhdcbepmaaGreatTs21
set_option maxRecDepth 100000
set_option maxHeartbeats 12800000
set_option linter.all false
open Go.Value renaming slice→vS,int→vI,string→vT
open Go.IntKind renaming i64→i6
open Go.Proofs.Tryz renaming prog→tP
namespace Go.Proofs.YteedihhdcbepmaaGreat
open Go Go.RowKit
theorem zJf {α:Type}(K:ElK α){t e:TypeId}{z:Value}{c bytes:Nat}(hN:Nam t e z c bytes) (h1K:∀ x w B cs,K.E x w B cs->∀ u∈cs,u.oneCell'=true){ops:Array Oper}{rest:List Oper}{o:Oper}{a:Act}{Q:Exit->Act->World->Prop}{w0:World}(hgd:o.guard=none) (s x:Operand)
  (ho:o.op=.call { callee:=.builtin .append,args:=#[s,x],argTypes:=#[t,t] }) (base:Nat) (v:Value) (l:List α) (hs:a.eval s=v) (hown:OwnE K e c w0 base v l)
  (A:Option Addr) (m cap1:Nat) (l':List α) (hm:l'.length=m) (Bs:Nat->Prop) (hx:a.eval x=vS A m cap1)
  (hR:RowB w0 Bs c (vS A m cap1) m (fun j cs=>∃ y,l'[j]?=some y/\K.E y w0 (fun b=>base<=b/\b<w0.heap.size/\some b≠v.ownBlock) cs)) (hn:l.length+m<=300000000) (hbase:base<=w0.heap.size)
  (h:∀ v' w',OwnE K e c w' base v' (l++l')->Below base w0 w'->(∀ b,b<w0.heap.size->some b≠v.ownBlock->w'.heap[b]?=w0.heap[b]?)->(∀ g,v'.ownBlock=some g->v.ownBlock=some g\/w0.heap.size<=g)->wpList tP ops Q rest (a.put o.dst v') w') :
  wpList tP ops Q (o::rest) a w0:=by
 obtain⟨i0,hi,i,f,d⟩:=Cp hN.inf;obtain⟨v',w',h1,h2,h3,h4,h5⟩:=zBh K t o.type e i0 z c bytes hN.und hi i f d hN.siz hN.pos hN.few h1K w0 base v l hown A m cap1 l' hm Bs hR hn hbase;exact Lib.wpList_append_run _ hgd s x t t ho v _ hs hx _ w' h1 (h v' w' h2 h3 h4 h5)
theorem zN1 {x:Tn}{Ak Af:Option Addr}{ck cf:Nat}(w:World) (hN:TnP w w.heap.size x [vI i6 x.kind,vI i6 x.lo,vI i6 x.hi,vT ⟨x.text.toArray⟩,vS Ak x.kids.length ck,vS Af x.fds.length cf,vI i6 x.r0,vI i6 x.r1]) (hlk:x.kids.length<=1048576) (hlf:x.fds.length<=1048576) :
  Calls tP 126 #[.agg #[vI i6 x.kind,vI i6 x.lo,vI i6 x.hi,vT ⟨x.text.toArray⟩,vS Ak x.kids.length ck,vS Af x.fds.length cf,vI i6 x.r0,vI i6 x.r1]] w fun e w'=>∃ A c,e=.returned (vS A (edg x).length c)/\OwnI w' (w.heap.size+1) (vS A (edg x).length c) (edg x)/\bW w w':=by
 obtain⟨X,hX,H,kX,ab⟩:=aW w (oX x.kind x.lo x.hi ⟨x.text.toArray⟩ Ak x.kids.length ck Af x.fds.length cf x.r0 x.r1)
 obtain⟨uk,uf,R,a,N,O⟩:=hN;simp only[Bb,and_true,true_and]at R;obtain⟨rfl,rfl⟩:=R;have z:RowB X (fun b=>b<w.heap.size) 1 (vS Ak x.kids.length ck) x.kids.length (fun j cs=>∃ y,x.kids[j]?=some y/\elI.E y X (fun b=>w.heap.size+1<=b/\b<X.heap.size/\some b≠(vS none 0 0).ownBlock) cs):=N.on H fun _ _ h=>h;have hB:Hid (∀ U,Below (w.heap.size+1) X U->U.heap[w.heap.size]?=some (oX x.kind x.lo x.hi ⟨x.text.toArray⟩ Ak x.kids.length ck Af x.fds.length cf x.r0 x.r1)/\bW w U/\w.heap.size+1<=U.heap.size):=xI fun U hU=>⟨(hU.block _ (by omega)).trans kX,H.trans (hU.mono (by omega)),by have:=hU.size;omega⟩;have Q:Hid (edg x=x.kids++x.fds.map Fd.node++(if x.kind=13 then [x.r0,x.r1] else [])):=xI rfl;obtain⟨x0,x1,x2,x3,x4,x5,x6,x7⟩:=zAe kX;rw[hX]at x0 x1 x2 x3 x4 x5 x6 x7;have D:w.heap.size+1<=X.heap.size:=by omega
 have d:OwnI X (w.heap.size+1) (vS none 0 0) []:=OwnE.nil _ _ _ _ _;have o:∀ (y:Int) (w:World) (B:Nat->Prop) (cs:List Value),elI.E y w B cs->∀ u∈cs,u.oneCell'=true:=fun _ _ _ _ h=>zGb h;have HF:=xI (aN O (aN a (aN hlk hlf)));have F:([]:List Int).length+x.kids.length<=300000000:=by simp;omega
 clear H kX ab N O a hlk hlf;rw[hX]at z D d;generalize hek:edg x=ed at *;generalize hkl:x.kids=kl at *;generalize hfl:x.fds=fl at *;have HE:=xI (aN hek (aN hkl hfl));clear hek hkl hfl;obtain⟨kn,m⟩:∃ kn,kn=kl.length:=⟨_,rfl⟩;obtain⟨fn,t⟩:∃ fn,fn=fl.length:=⟨_,rfl⟩;rw[<-m,<-t]at x0 x1 x2 x3 x4 x5 x6 x7;rw[<-m]at F;rw[<-m,<-t]at z D d hX hB ⊢;have HN:=xI (aN m t);have s:=m.symm;clear m t;go_enter Tryz.func126,Tryz.ntmps126;go_wp2_with (at_builtin;refine zJf elI namI o rfl _ _ rfl (w.heap.size+1) _ [] rfl d Ak kn ck kl s _ rfl z F D ?_;intro v1 w1 ho1 hb1 _ _;refine Hid.out ?_);refine xI ?_;rw[<-hX]at hb1;have H1:=xI (aN ho1 hb1);clear ho1 hb1 z F D d x0 x1 x2 x3 x4 x5 x6 x7 hX s;rw[Cn]at H1;go_wp2_with fail
 go_loopw [3,4] (fun lv iv wr=>∃ i:Nat,iv=vI i6 i/\i<=fn/\OwnI wr (w.heap.size+1) lv (kl++(fl.take i).map Fd.node)/\Below (w.heap.size+1) X wr) (fun _ i _=>((fn:Int)-intOf i).toNat)
 case atStart=>exact⟨0,rfl,by omega,by simpa using H1.out.1,H1.out.2⟩
 case round=>
  obtain⟨i,rfl,hi,ho,G⟩:=hrel;obtain⟨A2,c2,rfl⟩:=ho.form;obtain⟨kW,C,v⟩:=hB.out wr G;obtain⟨y0,y1,y2,y3,y4,y5,y6,y7⟩:=zAe kW;obtain⟨L,hL⟩:∃ L,L=kl++(fl.take i).map Fd.node:=⟨_,rfl⟩;rw[<-hL]at ho ⊢;have ae:=HF.out.2.2;have q:L.length<=2200000:=by
   rw[hL,Bd,Bk,Bg];omega
  have HL:=xI hL;have HR:=xI (aN ho (aN G (aN C (aN v (aN q kW)))));clear ho G ae q hL y1 y2 y3 y4 y6 y7;have t:fn<=1048576:=by have:=HF.out.2.2.2;have:=HN.out.2;omega
  by_cases hin:i<fn
  ·have mp:(i:Int)<(fn:Int):=by omega
   have m0:(0:Int)<=(i:Int):=by omega
   have ag:IntKind.i64.wrap ((i:Int)+1)=(i:Int)+1:=Br _ (by omega);have hx:=By (l:=fl) (i:=i) (by have:=HN.out.2;omega);generalize fl[i]'(by have:=HN.out.2;omega)=f at hx;obtain⟨b,aa,hA,S,P,_,_,d2,_⟩:=fd_at HF.out.1 hx;subst hA;have e2:=(C.cell (p:=(aD b (aa+i*4+2))) S).trans d2;have HX:Hid (kl++(fl.take (i+1)).map Fd.node=L++[f.node]):=xI (by rw[HL.out,Cr,hx,Dl,<-D6];rfl);have Y:=HR.out.1;have a:i64B f.node:=P.2.2;have r:L.length<=300000000:=by have:=HR.out.2.2.2.2.1;omega
   have k:=zGb (x:=f.node) (w:=w) (B:=fun _=>True) (cs:=[vI i6 f.node]) ⟨rfl,a⟩;generalize f.node=fnd at *;clear hx P d2 C kW S y0;go_wp2_with (at_builtin;refine zFm elI namI rfl _ _ rfl (w.heap.size+1) _ L rfl Y fnd [vI i6 fnd] 1 _ rfl rfl _ rfl ⟨rfl,a⟩ rfl k r v ?_;intro g cap w4 ho4 hb4 _ _;refine Hid.out ?_);refine xI ?_;have HG:=xI (aN ho4 (HR.out.2.1.trans hb4));clear ho4 hb4 Y r k y5 e2 v;go_wp2_with fail
   go_roundw
   case rel=>exact⟨i+1,by go_num,by omega,by rw[HX.out];simpa using HG.out.1,HG.out.2⟩
   case measure=>simp[intOf];omega
  ·obtain rfl:i=fn:=by omega
   have mp:¬ ((i:Int)<(i:Int)):=by omega
   have K:fl.take i=fl:=B8 (by have:=HN.out.2;omega);have Z:Hid (L=kl++fl.map Fd.node):=xI (by rw[HL.out,K]);clear K C v y0 y5;obtain⟨y0,_,_,_,_,_,y6,y7⟩:=zAe kW;clear kW;by_cases h13:x.kind=13
   ·obtain⟨X3,T,I,_,ad⟩:=aW wr (.cells #[vI i6 x.r0,vI i6 x.r1] 3 (0,0))
    have k3:JRow X3 wr.heap.size [x.r0,x.r1]:=by rw[T];exact Bl wr _
    have W:OwnI X3 (w.heap.size+1) (vS A2 L.length c2) L:=OwnE.old HR.out.1 I;have a:=HF.out.2.1;have V:RowB X3 (fun b=>b<X3.heap.size) 1 (vS (some (aH wr 0)) 2 2) 2 (fun j cs=>∃ y,[x.r0,x.r1][j]?=some y/\elI.E y X3 (fun b=>w.heap.size+1<=b/\b<X3.heap.size/\some b≠(vS A2 L.length c2).ownBlock) cs):=
     (k3.row (n:=2) rfl (fun y hy=>by
      simp at hy;rcases hy with rfl|rfl
      ·exact a.2.2.2.2.1
      ·exact a.2.2.2.2.2) (by unfold maxLen;decide) (show wr.heap.size<X3.heap.size by omega)).sub (fun _ h=>h) fun _ _ h=>h
    have r:L.length+2<=300000000:=by have:=HR.out.2.2.2.2.1;omega
    have M:w.heap.size+1<=X3.heap.size:=by have:=HR.out.2.2.2.1;omega
    have af:=xI I;have J:Hid (ed=L++[x.r0,x.r1]):=xI (by rw[Q.out,Z.out,if_pos h13]);clear k3 ad a I;subst T;rw[h13]at y0;go_wp2_with (at_builtin;refine zJf elI namI o rfl _ _ rfl (w.heap.size+1) _ L rfl W (some (aH wr 0)) 2 2 [x.r0,x.r1] rfl _ rfl V r M ?_;intro v9 w9 ho9 hb9 _ _;refine Hid.out ?_);refine xI ?_;have HG:=xI (aN ho9 (af.out.mono (by have:=HR.out.2.2.2.1;omega:w.heap.size+1<=wr.heap.size) |>.trans hb9));clear ho9 hb9 W V r M y0 y6 y7;go_wp2_with fail;go_ret;have hO:=HG.out.1;rw[<-J.out]at hO;obtain⟨A9,c9,rfl⟩:=hO.form;exact⟨A9,c9,rfl,hO,HR.out.2.2.1.trans (HG.out.2.mono (by omega))⟩
   ·have J:Hid (ed=L):=xI (by rw[Q.out,Z.out,if_neg h13,Do]);clear y6 y7;go_wp2_with fail;go_ret;rw[J.out];exact⟨A2,c2,rfl,HR.out.1,HR.out.2.2.1⟩
theorem OwnI.pop {w:World}{base:Nat}{v:Value}{l:List Int}{x:Int}(h:OwnI w base v (l++[x])):∃ g cap,v=vS (some (aD g 0)) (l.length+1) cap/\l.length+1<=cap/\base<=g/\w.cell? (aD g l.length)=some (vI i6 x)/\OwnI w base (vS (some (aD g 0)) l.length cap) l:=by
 obtain⟨xs,ho,hx⟩:=h;rcases ho.2 with⟨_,hn⟩|⟨g,cap,c,rfl,hB,hg,h1,h2,h3,h4⟩
 ·simp at hn
 ·rw[Bd,Dg]at *;refine⟨g,cap,rfl,h1,hB,?_,xs.take l.length,⟨?_,.inr ⟨g,cap,c,rfl,hB,hg,by omega,h2,h3,?_⟩⟩,fun j y hj=>?_⟩
  ·have a:=(hx l.length x (by simp)).1;refine (Bv hg _).trans ?_;have h5:xs[l.length]?=some (vI i6 x):=by
    have h6:((xs.drop (l.length*1)).take 1)[0]?=some (vI i6 x):=by rw[a];rfl
    simpa using h6
   rw[<-h4,Co (by omega)]at h5;simpa using h5
  ·rw[Bg,ho.1];simp
  ·rw[<-h4,List.take_take];congr 1;omega
  ·have b:=(Bx.1 hj).1;have:=hx j y (by rw[Dt b];exact hj);rw[List.drop_take,List.take_take,show min 1 (l.length-j*1)=1 by omega];exact this
def zOf (w:World) (g:Nat):List Bool:=match w.heap[g]? with
 | some (.cells cs _ _)=>cs.toList.map fun u=>match u with
  | .bool b=>b
  | _=>false
 | _=>[]
def zHn:Value->Nat
 | vS _ n _=>n
 | _=>0
theorem zHa {w:World}{g:Nat}{v:List Bool}(h:BRow w g v):zOf w g=v:=by
 unfold zOf;rw[h];simp[Function.comp_def]
theorem WfT.edges {t:Ty}(h:WfT t):EdgOk t.1:=zKw h.wf.node
theorem zIs {ns:List Tn}{root:Int}{A:Option Addr}{c:Nat}(w:World) (hT:TyP w w.heap.size ns root [vS A ns.length c,vI i6 root]) (hwf:WfT (ns,root)) (hn:ns.length<=1000000) (hko:∀ x∈ns,kidOk x) (hlf:left ns (List.replicate ns.length false)<=100000000) :
  Calls tP 85 #[.agg #[vS A ns.length c,vI i6 root]] w fun e w'=>∃ g v,e=.returned (vS (some (aD g 0)) ns.length ns.length)/\BRow w' g v/\v.length=ns.length/\(∀ i,dn v i=true↔Rch ns root.toNat i)/\w.heap.size<=g/\bW w w':=by
 obtain⟨X,hX,au,kX,al⟩:=aW w (oE A ns.length c root)
 obtain⟨W1,ad,r,ah,D⟩:=zEh X ns.length hn;rw[al]at ad r D;have Q:bW w W1:=au.trans (ah.mono (by omega));have W:=(ah.block w.heap.size (by omega)).trans kX;obtain⟨W2,ai,T,k2,_⟩:=aW W1 (.cells #[vI i6 root] 3 (0,0))
 have aA:W2.heap.size=w.heap.size+3:=by rw[ai];simp;omega
 have Z:=hwf.rt;have am:i64B root:=by
  obtain⟨_,_,h,_⟩:=hT;exact h
 have M:OwnI W2 W1.heap.size (vS (some (aH W1 0)) 1 1) [root]:=by
  refine⟨[vI i6 root],⟨rfl,.inr ⟨W1.heap.size,1,_,rfl,Bc _,k2,Bc _,by unfold maxLen;decide,rfl,rfl⟩⟩,fun j x hj=>?_⟩;cases j with
  | zero=>
   simp at hj;subst hj;exact⟨rfl,am⟩
  | succ j=>simp at hj
 obtain⟨rn,S⟩:∃ rn:Nat,root=(rn:Int):=⟨root.toNat,by have:=Z.1;show root=_;omega⟩;have aa:rn<ns.length:=by have:=Z.2;rw[show ((ns,root):Ty).2=root from rfl,S]at this;exact_mod_cast this
 have o:WorkS ns rn (List.replicate ns.length false) [root]:=by rw[S];exact WorkS.start aa
 have HT:Hid (∀ U,Below (w.heap.size+1) W2 U->(jT U w.heap.size A ns.length c root)/\bW w U/\w.heap.size+3<=U.heap.size):=xI fun U hU=>
  ⟨zAf ((hU.block _ (by omega)).trans ((T.block _ (by omega)).trans W)),Q.trans ((T.mono (by omega)).trans (hU.mono (by omega))),by have:=hU.size;omega⟩
 have aj:Hid (RowP w w.heap.size 8 (vS A ns.length c) ns.length (tnR w (fun b=>b<w.heap.size) ns)):=xI (by
  obtain⟨u,hu,_,h⟩:=hT;injection hu with hu _;rw[hu];exact h)
 have H0:Hid (OwnI W2 W1.heap.size (vS (some (aH W1 0)) 1 1) [root]/\BRow W2 (w.heap.size+1) (List.replicate ns.length false)/\WorkS ns rn (List.replicate ns.length false) [root]):=xI ⟨M,r.on (T.block _ (by omega)),o⟩;have HE:=xI (aN hwf.edges (aN hko (aN hlf (aN hn D))));obtain⟨x0,x1⟩:=zAf kX;obtain⟨y0,y1⟩:=zAf W;rw[hX]at x0 x1 ad;clear au kX al r ah D Q W T k2 aA Z am M o hT hwf hko hlf hX hn;generalize hnl:ns.length=n at *;have V:=xI (aN hnl (aN S aa));clear hnl S aa;go_enter Tryz.func85,Tryz.ntmps85;go_wp2_with fail;rw[<-ai];clear ai x0 x1 y0 y1 ad
 go_loopw [4] (fun lv wr=>∃ l v,OwnI wr W1.heap.size lv l/\BRow wr (w.heap.size+1) v/\WorkS ns rn v l/\l.length+left ns v<=100000001/\Below (w.heap.size+1) W2 wr) (fun lv wr=>left ns (zOf wr (w.heap.size+1))+zHn lv)
 case atStart=>exact⟨[root],_,H0.out.1,H0.out.2.1,H0.out.2.2,by have:=HE.out.2.2.1;simp only[Dg];omega,Bw _ _⟩
 case round=>
  obtain⟨l,v,ho,hr,hw,ae,z⟩:=hrel;obtain⟨⟨t0,t1⟩,G,aI⟩:=HT.out wr z;rcases List.eq_nil_or_concat l with rfl|⟨l2,k,hlk⟩
  ·obtain⟨A2,c2,rfl⟩:=ho.form;simp only[Cl];have HR:=xI (aN hr (aN hw G));clear ho hr hw ae z G t0 t1;go_wp2_with fail;go_ret;obtain⟨hr,hw,G⟩:=HR.out;exact⟨w.heap.size+1,v,rfl,hr,hw.len.trans V.out.1,fun i=>by rw[V.out.2.1,Cb];exact hw.done i,by omega,G⟩
  ·rw[List.concat_eq_append]at hlk;subst hlk;obtain⟨g,cap,rfl,ag,aL,aC,H⟩:=OwnI.pop ho;have hk:=hw.ok k (by simp);obtain⟨kn,rfl⟩:∃ kn:Nat,k=(kn:Int):=⟨k.toNat,by omega⟩;have af:kn<ns.length:=by have:=hk.2;exact_mod_cast this
   have t:=zHa hr;have d:l2.length+1+left ns v<=100000001:=by simpa using ae
   have HW:=xI (aN hw (aN z (aN G (aN t (aN d (aN H hr))))));have e:=hr.cell (k:=kn) (by rw[hw.len];exact af);have aB:=hr.froz kn;have u1:(kn:Int)<(n:Int):=by have:=V.out.1;omega
   have u0:(0:Int)<=(kn:Int):=by omega
   obtain⟨m,hm⟩:∃ m,m=l2.length:=⟨_,rfl⟩;rw[<-hm]at aC ag ⊢;have aK:m<=100000001:=by omega
   have aJ:IntKind.i64.wrap (((m+1:Nat):Int)-1)=(m:Int):=by rw[Br _ (by omega)];omega
   have m0:(0:Int)<=(m:Int):=by omega
   have m1:(m:Int)<((m+1:Nat):Int):=by omega
   have m2:(m:Int)<=(cap:Int):=by omega
   have m3:(0:Int)<((m+1:Nat):Int):=by omega
   have HM:=xI hm;clear hm ho hw ae hk d H hr z G t;cases hd:dn v kn with
   | true=>
    rw[hd]at e;go_wp2_with fail
    go_roundw
    case rel=>
     obtain⟨hw,z,_,_,d,H,hr⟩:=HW.out;exact⟨l2,v,by rw[HM.out];exact H,hr,hw.drop (by simpa using hd),by omega,z⟩
    case measure=>simp[zHn]
   | false=>
    rw[hd]at e;obtain⟨hw,z,G,t,d,H,hr⟩:=HW.out;obtain⟨V1,I⟩:∃ V1,V1=wr.setCell (aE w kn) (.bool true):=⟨_,rfl⟩;have aw:∀ b,b≠w.heap.size+1->V1.heap[b]?=wr.heap[b]?:=fun b hb=>by rw[I];exact Bq _ (aD _ kn) b _ hb
    have aF:V1.heap.size=wr.heap.size:=by rw[I];simp
    have r:BRow V1 (w.heap.size+1) (v.set kn true):=by rw[I];exact hr.set kn true
    have av:Below (w.heap.size+1) wr V1:=by rw[I];exact yR.setCell (p:=(aD _ kn)) lR _
    have f:=z.trans av;obtain⟨⟨s0,s1⟩,a,J⟩:=HT.out V1 f;have D:=HE.out.2.2.2.2;have N:OwnI V1 W1.heap.size (vS (some (aD g 0)) l2.length cap) l2:=OwnE.stay (fun _ _ _ _ _ _ h=>h) H fun q hq _=>aw q (by
     have:g=q:=by simpa [Value.ownBlock] using hq
     omega)
    have hx:=By af;have Y:=Cx af;generalize ns[kn]=x at hx Y;have hko:=HE.out.2.1 x Y;have L:RowP w w.heap.size 8 (vS A ns.length c) ns.length (tnR w (fun b=>b<w.heap.size) ns):=by have h:=aj.out;rw[V.out.1];exact h
    obtain⟨bn,on,aG,Ak,ck,Af,cf,hu,C,K,P,aq,d0,d1,d2,d3,d4,d5,d6,d7⟩:=TyB.at8 L hx;injection hu with hA _ hcc;subst hA hcc;have ay:TnP V1 V1.heap.size x [vI i6 x.kind,vI i6 x.lo,vI i6 x.hi,vT ⟨x.text.toArray⟩,vS Ak x.kids.length ck,vS Af x.fds.length cf,vI i6 x.r0,vI i6 x.r1]:=((show TnP w w.heap.size x [vI i6 x.kind,vI i6 x.lo,vI i6 x.hi,vT ⟨x.text.toArray⟩,vS Ak x.kids.length ck,vS Af x.fds.length cf,vI i6 x.r0,vI i6 x.r1]from⟨_,_,rfl,K,P,aq⟩).on a).up (by omega);have hc:=zN1 V1 ay hko.1 hko.2;have e0:=(a.cell (p:=(aD bn _)) C).trans d0;have e1:=(a.cell (p:=(aD bn _)) C).trans d1;have e2:=(a.cell (p:=(aD bn _)) C).trans d2;have e3:=(a.cell (p:=(aD bn _)) C).trans d3;have e4:=(a.cell (p:=(aD bn _)) C).trans d4;have e5:=(a.cell (p:=(aD bn _)) C).trans d5;have e6:=(a.cell (p:=(aD bn _)) C).trans d6;have e7:=(a.cell (p:=(aD bn _)) C).trans d7;have F:=zKp hw.len hx hd;have o:=hw.see HE.out.1 (by rw[Cb];exact hx);rw[Cb]at o;obtain⟨es,ar⟩:∃ es,es=edg x:=⟨_,rfl⟩;rw[<-ar]at hc F o;obtain⟨ne,s⟩:∃ ne,ne=es.length:=⟨_,rfl⟩;rw[<-s]at hc F;have HS:=xI (aN F (aN o (aN N (aN r (aN f (aN D (aN J (aN s (aN t d)))))))));clear F o N r f D ar L K P aq d0 d1 d2 d3 d4 d5 d6 d7 ay C hw z G t d H hr aw av hx Y hko a aF J s1 s;rw[I]at s0 e0 e1 e2 e3 e4 e5 e6 e7;generalize x.kids.length=kl at *;generalize x.fds.length=fl at *;go_wp2_with fail;rw[<-I];clear I s0 e0 e1 e2 e3 e4 e5 e6 e7 e aB t0 t1;refine hc.mono ?_;rintro e w5 ⟨A5,c5,rfl,ho5,hb5⟩;clear hc;obtain⟨F,o,N,r,f,D,J,s,t,d⟩:=HS.out;have ao:OwnI w5 W1.heap.size (vS (some (aD g 0)) m cap) l2:=by rw[HM.out];exact OwnE.old N hb5
    have ax:RowB w5 (Btw (V1.heap.size+1) w5.heap.size) 1 (vS A5 ne c5) ne (fun j cs=>∃ y,es[j]?=some y/\elI.E y w5 (fun b=>W1.heap.size<=b/\b<w5.heap.size/\some b≠(vS (some (aD g 0)) m cap).ownBlock) cs):=by
     rw[s]at ho5 ⊢;exact OwnI.row ho5 (by unfold maxLen;omega)
    have ap:l2.length+ne<=300000000:=by omega
    have R:W1.heap.size<=w5.heap.size:=by have:=hb5.size;omega
    have ab:∀ (y:Int) (w:World) (B:Nat->Prop) (cs:List Value),elI.E y w B cs->∀ u∈cs,u.oneCell'=true:=fun _ _ _ _ h=>zGb h;have O:=s.symm;have ak:w.heap.size+1<W1.heap.size/\w.heap.size+3<=V1.heap.size:=⟨by omega,J⟩;have az:=xI ak;have HH:=xI (aN (r.on (hb5.block _ (by omega))) (f.trans (hb5.mono (by omega))));clear F o N r f t d ho5 hb5 s D J ak;go_wp2_with (at_builtin;refine zJf elI namI ab rfl _ _ rfl W1.heap.size _ l2 rfl ao A5 ne c5 es O _ rfl ax ap R ?_;intro v9 w9 ho9 hb9 _ _;refine Hid.out ?_);refine xI ?_;have an:=HH.out.1.on (hb9.block _ az.out.1);have HG:=xI (aN ho9 (aN an (HH.out.2.trans (hb9.mono (Du az.out.1)))));clear ho9 hb9 an ao ax ap R O;go_wp2_with fail
    go_roundw
    case rel=>
     obtain⟨F,o,_,_,_,_,_,s,_,d⟩:=HS.out;exact⟨l2++es,v.set kn true,HG.out.1,HG.out.2.1,o,by rw[Bd];omega,HG.out.2.2⟩
    case measure=>
     obtain⟨F,_,_,_,_,_,_,s,t,_⟩:=HS.out;obtain⟨A9,c9,rfl⟩:=HG.out.1.form;rw[t,zHa HG.out.2.1];simp only[zHn,Bd];have:=HM.out;omega
theorem zLq {ns:List Tn}{r:Nat}{L:List (List UInt8)}(h:∀ s,s∈L↔∃ i x,Rch ns r i/\ns[i]?=some x/\x.kind=19/\x.text=s):zHf ns r (srt L):=
 ⟨(zD2 _).imp fun hab=>zDq hab,fun s=>by rw[zBq];exact h s⟩
theorem zMj {t:Ty}(h:¬ WfT t):varsT t=[]:=by
 have h1:accT t=noneT:=by unfold accT;rw[if_neg (show ¬ wfC t.1 t.2=0 from h)]
 unfold varsT;rw[h1,show varL noneT.1 (visR noneT.1 noneT.2.toNat)=[] by rfl];have h2:=zB4 ([]:List (List UInt8));exact Cf (by simpa using h2)
theorem zGk {ns:List Tn}{root:Int}{A:Option Addr}{c:Nat}(w:World) (hT:TyP w w.heap.size ns root [vS A ns.length c,vI i6 root]) (hn:ns.length<=1000000) (hko:∀ x∈ns,kidOk x) (hlf:left ns (List.replicate ns.length false)<=100000000) :
  Calls tP 41 #[.agg #[vS A ns.length c,vI i6 root]] w fun e w'=>∃ v,e=.returned v/\OwnN w' w.heap.size v (varsT (ns,root))/\bW w w':=by
 obtain⟨X,hX,E,kX,G⟩:=aW w (oE A ns.length c root)
 have F:TyP X X.heap.size ns root [vS A ns.length c,vI i6 root]:=(hT.on E).up (by omega);have hc:=zMe X F hn;obtain⟨x0,x1⟩:=zAf kX;rw[hX]at x0 x1;have T:Hid (RowP w w.heap.size 8 (vS A ns.length c) ns.length (tnR w (fun b=>b<w.heap.size) ns)):=xI (by
  obtain⟨u,hu,_,h⟩:=hT;injection hu with hu _;rw[hu];exact h)
 have HE:=xI (aN hn (aN hko (aN hlf (aN F (aN E (aN kX G))))));clear hT hn hko hlf F E kX G;go_enter Tryz.func41,Tryz.ntmps41;go_wp2_with fail;rw[<-hX];clear hX x0 x1;refine hc.mono ?_;rintro e w1 ⟨rfl,hb1⟩;clear hc;obtain⟨hn,hko,hlf,F,E,kX,G⟩:=HE.out;have t:bW w w1:=E.trans (hb1.mono (by omega));by_cases m:WfT (ns,root)
 ·have k1:=(hb1.block w.heap.size (by omega)).trans kX;obtain⟨y0,y1⟩:=zAf k1;have Z:TyP w1 w1.heap.size ns root [vS A ns.length c,vI i6 root]:=(F.on hb1).up hb1.size;have hc:=zIs w1 Z m hn hko hlf;have N:wfC ns root=0:=m;rw[N];have H1:=xI (aN m (aN t k1));clear hn hko hlf F E kX G t m k1 Z hb1 N;go_wp2_with fail;clear y0 y1;refine hc.mono ?_;rintro e w2 ⟨g,v,rfl,hr,hvl,hrch,hg,hb2⟩;clear hc;have q:=H1.out.2.1.trans (hb2.mono H1.out.2.1.size);have O:=q.size;have R:Hid (∀ U,bW w2 U->(jT U w.heap.size A ns.length c root)/\bW w U/\BRow U g v/\w2.heap.size<=U.heap.size):=xI fun U hU=>by
   have hk:=H1.out.2.2;have hl:=(Cv.1 hk).1;exact⟨zAf ((hU.block _ (by have:=hb2.size;omega)).trans ((hb2.block _ hl).trans hk)),q.trans (hU.mono q.size),hr.on (hU.block _ hr.lt),hU.size⟩
  have HV:=xI (aN hvl hrch);clear hr hg hb2 q O hvl hrch;generalize hnl:ns.length=n at *;have J:=xI hnl;clear hnl;go_wp2_with fail
  go_loopw [3,5] (fun lv iv wr=>∃ (i:Nat) (L:List (List UInt8)),iv=vI i6 i/\i<=n/\OwnE elS7 9 1 wr w2.heap.size lv L/\(∀ s,s∈L↔∃ j x,j<i/\dn v j=true/\ns[j]?=some x/\x.kind=19/\x.text=s)/\(∀ s∈L,s.length<=maxLen)/\L.length<=i/\bW w2 wr) (fun _ i _=>((n:Int)-intOf i).toNat)
  case atStart=>exact⟨0,[],rfl,by omega,OwnE.nil _ _ _ _ _,fun s=>⟨fun h=>(by cases h),fun h=>(by obtain⟨j,_,h,_⟩:=h;omega)⟩,fun s h=>(by cases h),by simp,Bw _ _⟩
  case round=>
   obtain⟨i,L,rfl,hi,ho,d,a,D,l⟩:=hrel;obtain⟨A2,c2,rfl⟩:=ho.form;obtain⟨⟨t0,t1⟩,o,Q,P⟩:=R.out wr l;have ae:n<=1000000:=by have:=HE.out.1;have:=J.out;omega
   have HI:=xI (aN ho (aN d (aN a (aN D l))));clear ho d a D l;by_cases hin:i<n
   ·have mp:(i:Int)<(n:Int):=by omega
    have m0:(0:Int)<=(i:Int):=by omega
    have ad:IntKind.i64.wrap ((i:Int)+1)=(i:Int)+1:=Br _ (by omega);have Y:i<ns.length:=by have:=J.out;omega
    have e:=Q.cell (k:=i) (by rw[HV.out.1];exact hin);have hx:=By Y;generalize ns[i]=x at hx;have C:RowP w w.heap.size 8 (vS A n c) ns.length (tnR w (fun b=>b<w.heap.size) ns):=by have h:=T.out;rw[J.out];exact h
    rw[<-J.out]at C;obtain⟨bn,on,aa,Ak,ck,Af,cf,hu,S,H,_,_,d0,_,_,d3,_,_,_,_⟩:=TyB.at8 C hx;injection hu with hA _ hcc;subst hA hcc;have e0:=(o.cell (p:=(aD bn _)) S).trans d0;have e3:=(o.cell (p:=(aD bn _)) S).trans d3;have f:Hid (∀ s,(∃ j y,j<i+1/\dn v j=true/\ns[j]?=some y/\y.kind=19/\y.text=s)↔(∃ j y,j<i/\dn v j=true/\ns[j]?=some y/\y.kind=19/\y.text=s)\/(dn v i=true/\x.kind=19/\x.text=s)):=xI fun s=>by
     constructor
     ·rintro⟨j,y,h1,h2,h3,h4,h5⟩;rcases Nat.lt_or_ge j i with h|h
      ·exact .inl ⟨j,y,h,h2,h3,h4,h5⟩
      ·obtain rfl:j=i:=by omega
       rw[hx]at h3;injection h3 with h3;subst h3;exact .inr ⟨h2,h4,h5⟩
     ·rintro (⟨j,y,h1,h2⟩|⟨h2,h4,h5⟩)
      ·exact⟨j,y,by omega,h2⟩
      ·exact⟨i,x,by omega,h2,hx,h4,h5⟩
    have V:x.text.length<=maxLen:=H.2.2.2.1;have ab:=xI V;clear hx C H Q o d0 d3 S Y V;cases hd:dn v i with
    | false=>
     rw[hd]at e;have HD:=xI hd;clear hd;go_wp2_with fail
     go_roundw
     case rel=>
      obtain⟨ho,d,a,D,l⟩:=HI.out;exact⟨i+1,L,by go_num,by omega,ho,fun s=>by rw[f.out s,HD.out];simpa using d s,a,by omega,l⟩
     case measure=>simp[intOf];omega
    | true=>
     rw[hd]at e;have HD:=xI hd;clear hd;by_cases hk:x.kind=19
     ·have HK:=xI hk;rw[hk]at e0;have ho:=HI.out.1;have W:L.length<=300000000:=by have:=HI.out.2.2.2.1;omega
      have I:=zKv (x:=x.text) (w:=w) (B:=fun _=>True) (cs:=[vT ⟨x.text.toArray⟩]) rfl;generalize x.text=tx at *;generalize x.kind=kd at *;clear hk;go_wp2_with (at_builtin;refine zFm elS7 namS7 rfl _ _ rfl w2.heap.size _ L rfl ho tx [vT ⟨tx.toArray⟩] 1 _ rfl rfl _ rfl rfl rfl I W P ?_;intro g9 cap9 w9 ho9 hb9 _ _;refine Hid.out ?_);refine xI ?_;have HG:=xI (aN ho9 hb9);clear ho9 hb9 ho W I e e0 e3 t0 t1 P;go_wp2_with fail
      go_roundw
      case rel=>
       obtain⟨_,d,a,D,l⟩:=HI.out;refine⟨i+1,L++[tx],by go_num,by omega,by simpa using HG.out.1,fun s=>?_,fun s hs=>?_,by simp;omega,l.trans HG.out.2⟩
       ·rw[f.out s,B7,d s,Ct];have:=HD.out;have:=HK.out;constructor
        ·rintro (h|h)
         ·exact .inl h
         ·exact .inr ⟨by assumption,by assumption,h.symm⟩
        ·rintro (h|h)
         ·exact .inl h
         ·exact .inr h.2.2.symm
       ·rcases B7.1 hs with hs|hs
        ·exact a s hs
        ·rw[Ct.1 hs];exact ab.out
      case measure=>simp[intOf];omega
     ·have HK:=xI hk;go_wp2_with fail
      go_roundw
      case rel=>
       obtain⟨ho,d,a,D,l⟩:=HI.out;exact⟨i+1,L,by go_num,by omega,ho,fun s=>by
        rw[f.out s,d s];exact⟨fun h=>.inl h,fun h=>by
         rcases h with h|h
         ·exact h
         ·exact absurd h.2.1 HK.out⟩,a,by omega,l⟩
      case measure=>simp[intOf];omega
   ·obtain rfl:i=n:=by omega
    have mp:¬ ((i:Int)<(i:Int)):=by omega
    obtain⟨ho,d,a,D,l⟩:=HI.out;have hc:=zBo A2 L.length c2 L wr ((OwnE.names ho).rng a) (by omega);have HO:=xI (aN d o);clear ho d a D l o Q P t0 t1;go_wp2_with fail;refine hc.mono ?_;rintro e w5 ⟨A5,c5,rfl,K,M⟩;clear hc;have H5:=xI (aN K M);clear K M;go_wp2_with fail;go_ret;obtain⟨d,o⟩:=HO.out;obtain⟨K,M⟩:=H5.out;have m:=H1.out.1;have hv:srt L=varsT (ns,root):=zHf.unique (zLq (ns:=ns) (r:=root.toNat) fun s=>by
     rw[d s];constructor
     ·rintro⟨j,x,_,h2,h3⟩;exact⟨j,x,(HV.out.2 j).1 h2,h3⟩
     ·rintro⟨j,x,h2,h3,h4⟩;exact⟨j,x,by have:=(Bx.1 h3).1;have:=J.out;omega,(HV.out.2 j).2 h2,h3,h4⟩) (zOt m)
    exact⟨vS A5 (srt L).length c5,rfl,by rw[<-hv];exact K.mono o.size,o.trans (M.mono o.size)⟩
 ·have N:¬ wfC ns root=0:=m;have HB:=xI (aN t m);clear hn hko hlf F E kX G t m hb1;generalize wfC ns root=z at *;go_wp2_with fail;go_ret;rw[zMj HB.out.2];exact⟨_,rfl,OwnN.nil _ _,HB.out.1⟩
end Go.Proofs.YteedihhdcbepmaaGreat
