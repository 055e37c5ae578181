/- The program's visit: the walk over the .. -/
import Derived.Test.YteedihhdcbepmaaGreatTfZ
import Derived.Test.YteedihhdcbepmaaGreatTf10
set_option maxRecDepth 100000
set_option maxHeartbeats 25600000
set_option linter.all false
open Go.Value renaming slice→vS,int→vI,string→vT
open Go.IntKind renaming i64→i6
open Go.Proofs.Tryz
open Go.Proofs.Tryz renaming prog→tP
namespace Go.Proofs.YteedihhdcbepmaaGreat
open Go Go.RowKit Go.Shelf
attribute [local go_sem] Oper.semAt_some
def noP (Q:Exit->Act->World->Prop):Exit->Act->World->Prop
 | .panic _,_,_=>False
 | e,a,w=>Q e a w
attribute [local go_sem] noP
theorem zOd {Q:Exit->Act->World->Prop}{a:Act}{w:World}(h:Q .normal a w):noP Q .normal a w:=h
theorem zRk {Q:Exit->Act->World->Prop}:∀ (e:Exit) (a:Act) (w:World),noP Q e a w->Q e a w
 | .panic _,_,_,h=>h.elim
 | .normal,_,_,h=>h
 | .ret,_,_,h=>h
 | .exit _,_,_,h=>h
 | .goto _,_,_,h=>h
 | .outgrown,_,_,h=>h
structure VK (wb vb:Nat) (o:Option Nat) (w w':World):Prop where
 low:Below 0 w w'
 blk:∀ b,b<w.heap.size->b≠wb->b≠vb->o≠some b->w'.heap[b]?=w.heap[b]?
theorem VK.of_below {wb vb:Nat}{o:Option Nat}{w w':World}(h:bW w w'):VK wb vb o w w':=⟨h.mono (Bq _),fun b hb _ _ _=>h.block b hb⟩
theorem VK.trans {wb vb:Nat}{o o':Option Nat}{w w' w'':World}(h:VK wb vb o w w') (h':VK wb vb o' w' w'') (ho:∀ g,o'=some g->o=some g\/w.heap.size<=g):VK wb vb o w w'':=
 ⟨h.low.trans h'.low,fun b hb h1 h2 h3=>(h'.blk b (Bl hb h.low.size) h1 h2 fun e=>by
  rcases ho b e with h4|h4
  ·exact h3 h4
  ·omega).trans (h.blk b hb h1 h2 h3)⟩
theorem VK.below {wb vb H:Nat}{o:Option Nat}{w w':World}(h:VK wb vb o w w') (h1:H<=wb) (h2:H<=vb) (h3:∀ g,o=some g->H<=g) (hH:H<=w.heap.size):Below H w w':=
 ⟨h.low.os,h.low.tape,h.low.output,h.low.size,fun k hk=>h.blk k (by omega) (by omega) (by omega) fun e=>by have:=h3 k e;omega⟩
structure VisW (A:Option Addr) (nn c cp wb vb base:Nat) (w:World) (v:Value) (s:List Bool×List Int):Prop where
 box:w.heap[wb]?=some (.cells #[vS A nn c,vS (some (aD vb 0)) nn cp,v] 167 (0,0))
 own:OwnI w base v s.2
 vis:BRow w vb s.1
theorem VisW.stay {A:Option Addr}{nn c cp wb vb base:Nat}{w w':World}{v:Value}{s:List Bool×List Int}(h:VisW A nn c cp wb vb base w v s) (h1:w'.heap[wb]?=w.heap[wb]?) (h2:w'.heap[vb]?=w.heap[vb]?) (h3:∀ g,v.ownBlock=some g->g<w.heap.size->w'.heap[g]?=w.heap[g]?):VisW A nn c cp wb vb base w' v s:=
 ⟨h1.trans h.box,OwnE.stay zAp h.own h3,h.vis.on h2⟩
theorem VisW.grown {A:Option Addr}{nn c cp wb vb base:Nat}{w w':World}{v:Value}{s:List Bool×List Int}{row:Option Nat}(h:VisW A nn c cp wb vb base w v s) (hg:w.grownBy w' row) (hr:∀ r,row=some r->∃ o:Obj,w.heap[r]?=some o/\o.isCells=false):VisW A nn c cp wb vb base w' v s:=
 h.stay ((grownBy_keeps_cells hg hr h.box rfl)) (grownBy_keeps_cells hg hr h.vis rfl) fun g hgv hl=>by
  obtain⟨xs,⟨_,h2⟩,_⟩:=h.own;rcases h2 with⟨rfl,_⟩|⟨g',cap,a,rfl,_,hc,_⟩
  ·simp[Value.ownBlock]at hgv
  ·simp only[Value.ownBlock,Cu]at hgv;subst hgv;exact grownBy_keeps_cells hg hr hc rfl
theorem VisW.notCells {A:Option Addr}{nn c cp wb vb base:Nat}{w:World}{v:Value}{s:List Bool×List Int}{k:Nat}{o:Obj}(h:VisW A nn c cp wb vb base w v s) (hk:w.heap[k]?=some o) (ho:o.isCells=false):k≠wb/\k≠vb/\v.ownBlock≠some k:=by
 refine⟨fun e=>?_,fun e=>?_,fun e=>?_⟩
 ·rw[e,h.box]at hk;injection hk with hk;rw[<-hk]at ho;cases ho
 ·have hv:w.heap[vb]?=_:=h.vis;rw[e,hv]at hk;injection hk with hk;rw[<-hk]at ho;cases ho
 ·obtain⟨xs,⟨_,h2⟩,_⟩:=h.own;rcases h2 with⟨rfl,_⟩|⟨g',cap,a,rfl,_,hc,_⟩
  ·simp[Value.ownBlock]at e
  ·simp only[Value.ownBlock,Cu]at e;rw[<-e,hc]at hk;injection hk with hk;rw[<-hk]at ho;cases ho
theorem VK.grown {wb vb:Nat}{o:Option Nat}{w0 w w':World}{row:Option Nat}(h:VK wb vb o w0 w) (hg:w.grownBy w' row) (hr:∀ r,row=some r->w0.heap.size<=r):VK wb vb o w0 w':=
 ⟨h.low.grown hg (Bq _) (fun k _=>Bq k),fun b hb h1 h2 h3=>(hg.block b (Bl hb h.low.size) (fun e=>by have:=hr b e.symm;omega)).trans (h.blk b hb h1 h2 h3)⟩
theorem zL8 (a:Option Addr) (w:World):Calls tP 91 #[.pointer a] w fun e w'=>e=.returned (.func (.func 140) #[] #[.pointer (some (aD w.heap.size 0))])/\w'=w.alloc (.cells #[.pointer a] 91 (0,0)):=(callsIn_wide (n:=6)).1 (zJz 6 a w)
theorem zHv (ns:List Tn) (A:Option Addr) (c cp H wb vb base:Nat) (he:EdgOk ns) (hbs:H<=wb/\H<=vb/\wb≠vb/\wb<base/\vb<base) (hnn:ns.length<=1000000):∀ (u:Nat) (s:List Bool×List Int) (n:Nat) (v:Value) (w:World),fls s.1<u->s.1.length=ns.length->n<ns.length->s.2.length+fls s.1<=ns.length ->
  RowP w H 8 (vS A ns.length c) ns.length (tnR w (fun b=>b<H) ns)->base<=w.heap.size->VisW A ns.length c cp wb vb base w v s ->
  Calls tP 142 #[.pointer (some (aD wb 0)),vI i6 n] w fun e w'=>e=.returned (.tuple #[])/\∃ v',VisW A ns.length c cp wb vb base w' v' (visC ns u s n)/\VK wb vb v.ownBlock w w'/\∀ g,v'.ownBlock=some g->v.ownBlock=some g\/w.heap.size<=g:=by
 intro u
 induction u with
 | zero=>intro s n v w h;omega
 | succ u ih=>
  intro s n v w hz hsl hn hsz hrow d hV;have hx:=Bw hn;have aq:=Cv hn;generalize ns[n]=x at hx aq;have aG:=he x aq;obtain⟨bn,on,a6,Ak,ck,Af,cf,hu,aA,_,T,az,d0,_,_,_,d4,d5,d6,d7⟩:=TyB.at8 hrow hx;injection hu with hA hmm hcc;clear hmm;subst hA hcc;have ab:bW w (w.alloc (.cells #[.pointer (some (aD wb 0))] 186 (0,0))):=(By _ w).alloc lR _;have ae:wb<w.heap.size:=by omega
  have ag:vb<w.heap.size:=by omega
  have ad:VisW (some (aD bn on)) ns.length c cp wb vb base (w.alloc (.cells #[.pointer (some (aD wb 0))] 186 (0,0))) v s:=hV.stay (ab.block _ ae) (ab.block _ ag) fun g _ hl=>ab.block g hl;have e1:(w.alloc (.cells #[.pointer (some (aD wb 0))] 186 (0,0))).cell? (aD wb 1)=some (vS (some (aD vb 0)) ns.length cp):=cH ad.box 1;have st:=ad.vis.cell (k:=n) (by omega);have u1:(0:Int)<=(n:Int):=by omega
  have u2:(n:Int)<(ns.length:Int):=by omega
  by_cases hd:dn s.1 n=true
  ·have V:Hid (visC ns (u+1) s n=s):=xI (by unfold visC;rw[if_pos hd]);rw[hd]at st;have HV:=xI (aN ad ab);clear ad ab hV hrow T az hx aq aG d0 d4 d5 d6 d7 hd hz hsl hsz d;go_enter func142,ntmps142;go_wp2_with fail;refine Cx (v:=.tuple #[]) (by simp[results,results142,go_sem]) rfl ?_;rw[V.out];exact⟨rfl,v,HV.out.1,VK.of_below HV.out.2,fun g h=>.inl h⟩
  have h0:dn s.1 n=false:=Ep.2 hd;have aJ:=zJh (hsl ▸ hn) h0;have V:Hid (visC ns (u+1) s n=(edg x).foldl (fun s k=>visC ns u s k.toNat) (s.1.set n true,s.2++[(n:Int)])):=xI (by
   show (if dn s.1 n=true then s else _)=_;rw[if_neg hd,hx])
  rw[h0]at st;have a0:=ad.vis.froz n;obtain⟨Av,cv,rfl⟩:=hV.own.form;have aZ:=hV.vis.froz n;obtain⟨W1,ao⟩:∃ W1,W1=(w.setCell (aD vb n) (.bool true)).alloc (.cells #[.pointer (some (aD wb 0))] 186 (0,0)):=⟨_,rfl⟩;have E:Below w.heap.size (w.setCell (aD vb n) (.bool true)) W1:=by rw[ao];exact yR.alloc (by simp) _
  have C:∀ b,b<w.heap.size->b≠vb->W1.heap[b]?=w.heap[b]?:=fun b hb hv=>(E.block b hb).trans (Bp _ (aD vb n) b _ hv);have aw:W1.heap.size=w.heap.size+1:=by rw[ao];simp
  have I:OwnI W1 base (vS Av s.2.length cv) s.2:=OwnE.stay zAp hV.own fun g hg hl=>C g hl (by have:=(OwnE.ltB hV.own hg).1;omega);have G:BRow W1 vb (s.1.set n true):=(hV.vis.set n true).on (E.block vb ag);have m:W1.heap[wb]?=some (.cells #[vS (some (aD bn on)) ns.length c,vS (some (aD vb 0)) ns.length cp,vS Av s.2.length cv] 167 (0,0)):=(C wb ae hbs.2.2.1).trans hV.box;have S:W1.heap[w.heap.size]?=some (.cells #[.pointer (some (aD wb 0))] 186 (0,0)):=by rw[ao];exact zAf _ (by simp)
  have af:VK wb vb (vS Av s.2.length cv).ownBlock w W1:=⟨((By 0 w).setCell (p:=(aD vb n)) (Bq _) _).trans (E.mono (Bq _)),fun b hb _ h2 _=>C b hb h2⟩;have j:OwnI W1.drew base (vS Av s.2.length cv) s.2:=OwnE.old I yR.drew;have ay:i64B (n:Int):=zB4 (by omega) (by omega);obtain⟨gl,f,w4,aM,ax,aC,aj,aR⟩:=appG elI namI 25 W1.drew base (vS Av s.2.length cv) s.2 j (n:Int) [vI i6 n] ⟨rfl,ay⟩ rfl (zM1 (w:=w) (B:=fun _=>True) ⟨rfl,ay⟩) (by omega) (by show base<=W1.heap.size;omega) (w.heap.size+1) aw 1;have O:W1.drew.cell? (aH w 0)=some (.pointer (some (aD wb 0))):=cH S 0;have N:W1.drew.cell? (aD wb 2)=some (vS Av s.2.length cv):=cH m 2;have X:∀ g,(vS Av s.2.length cv).ownBlock=some g->base<=g/\g<w.heap.size:=fun g hg=>OwnE.ltB hV.own hg;have R:w4.heap[w.heap.size]?=some (.cells #[.pointer (some (aD wb 0))] 186 (0,0)):=(aj _ (by show _<W1.heap.size;omega) fun e=>by have:=X _ e.symm;omega).trans S;have a:w4.heap[wb]?=some (.cells #[vS (some (aD bn on)) ns.length c,vS (some (aD vb 0)) ns.length cp,vS Av s.2.length cv] 167 (0,0)):=(aj wb (by show _<W1.heap.size;omega) fun e=>by have:=X _ e.symm;omega).trans m;have F:BRow w4 vb (s.1.set n true):=G.on (aj vb (by show _<W1.heap.size;omega) fun e=>by have:=X _ e.symm;omega);have au:w4.cell? (aH w 0)=some (.pointer (some (aD wb 0))):=cH R 0;have ar:w4.cell? (aD wb 2)=some (vS Av s.2.length cv):=cH a 2;have a1:=Bz a 2;have Q:VK wb vb (vS Av s.2.length cv).ownBlock w w4:=af.trans (o':=(vS Av s.2.length cv).ownBlock) ⟨(By 0 W1).drew.trans (aC.mono (Bq _)),fun b hb _ _ h3=>aj b hb fun e=>h3 e.symm⟩ fun g h=>.inl h;obtain⟨Y,hY⟩:∃ Y,Y=w4.setCell (aD wb 2) (vS (some (aD gl 0)) (s.2.length+1) f):=⟨_,rfl⟩;have an:∀ b,b≠wb->Y.heap[b]?=w4.heap[b]?:=fun b hb=>by rw[hY];exact Bp _ (aD wb 2) b _ hb
  have aS:Y.heap.size=w4.heap.size:=by rw[hY];simp
  have M:Y.heap[wb]?=some (.cells #[vS (some (aD bn on)) ns.length c,vS (some (aD vb 0)) ns.length cp,vS (some (aD gl 0)) (s.2.length+1) f] 167 (0,0)):=by rw[hY];exact (Bm w4 wb 2 _ _ _ a).trans rfl
  have J:BRow Y vb (s.1.set n true):=F.on (an vb (fun e=>hbs.2.2.1 e.symm));have am:Y.heap[w.heap.size]?=some (.cells #[.pointer (some (aD wb 0))] 186 (0,0)):=(an _ (by omega)).trans R;have L:OwnI Y base (vS (some (aD gl 0)) (s.2.length+1) f) (s.2++[(n:Int)]):=OwnE.stay zAp ax fun g hg _=>an g (by have:=(OwnE.ltB ax hg).1;omega);have U:VK wb vb (vS Av s.2.length cv).ownBlock w Y:=⟨by rw[hY];exact Q.low.setCell (p:=(aD wb 2)) (Bq _) _,fun b hb h1 h2 h3=>(an b h1).trans (Q.blk b hb h1 h2 h3)⟩;have aU:Below H w Y:=U.below hbs.1 hbs.2.1 (fun g h=>by have:=(X g h).1;omega) (by omega);have aT:w.heap.size+1<=Y.heap.size:=by rw[aS];have:=aC.size;have h9:W1.drew.heap.size=W1.heap.size:=rfl;omega
  have al:(vS Av s.2.length cv).ownBlock=some gl\/w.heap.size+1<=gl:=aR;have HW:Hid (VisW (some (aD bn on)) ns.length c cp wb vb base Y (vS (some (aD gl 0)) (s.2.length+1) f) (s.1.set n true,s.2++[(n:Int)])):=xI ⟨M,L,J⟩;have HY:=xI (aN U (aN aU (aN aT (aN al (aN am X)))));have HX:=xI (aN hx (aN aG (aN hz (aN hsl (aN hsz (aN d aJ))))));have HR:=xI (aN hrow (aN T (aN az (aN d0 (aN d4 (aN d5 (aN d6 (aN d7 aA))))))));have a8:=xI aM;clear hx aq aG hz hsl hsz d aJ hrow T az d0 d4 d5 d6 d7 U aU aT al am M L J aS an X Q af F R a aR aj aC ax aM j ay S m G I C ad hV hd h0 ab E;refine (callsIn_wide (n:=6)).1 ?_;refine callsIn_of_wp_marks func142 rfl trivial ?_ rfl;simp only[ntmps142,Dg,Ci,Ch,Nat.reduceAdd,Nat.reduceSub,Array.replicate_succ,Array.replicate_zero,List.push_toArray,List.append_toArray,Cl,Dt];refine wpIn_wide.2 ?_;refine Code.wp_mono zRk ?_;go_wp2_with fail;rw[<-ao];clear ao e1 st a0;refine ub 10 (fun wq=>wq.cell? (aH w 0)=some (.pointer (some (aD wb 0)))) (fun wq=>wq.cell? (aD wb 2)=some (vS Av s.2.length cv)) ?_;refine oM 0 ⟨O,N⟩ ?_ (hy:=oA);refine oM 1 ⟨O,N⟩ ?_ (hy:=oA);refine oM 2 ⟨O,N⟩ ?_ (hy:=oA);refine oM 3 ⟨O,N⟩ ?_ (hy:=oA);refine oK 4 ⟨O,N⟩ ?_ (hy:=oA);refine oM 5 ⟨O,N⟩ ?_ (hy:=oA);refine uo 6 (fun K9 hK=>?_);go_simp;have aB:bW W1 (W1.alloc (.cells #[vI i6 n] 3 (0,0))).drew:=((By _ W1).alloc lR _).drew;have av:wb<W1.heap.size/\w.heap.size<W1.heap.size:=by omega
  refine hK _ _ ⟨(aB.cell (p:=(aH w 0)) av.2).trans O,fun _=>(aB.cell (p:=(aD wb 2)) av.1).trans N⟩ (oQ ?_);clear hK K9 aB av;refine uo 7 (fun K9 hK=>?_);refine Lib.wp_append_run _ _ _ _ _ rfl _ _ rfl rfl _ w4 a8.out ?_;refine hK _ _ ⟨au,fun _=>ar⟩ (oQ ?_);clear hK K9 O N;refine oM 8 ⟨au,ar⟩ ?_ (hy:=oA);refine oM 9 ⟨au,ar⟩ ?_ (hy:=oA);refine uo 10 (fun K9 hK=>?_);go_simp;rw[<-hY];clear hY a1;have y0:Y.cell? (aH w 0)=some (.pointer (some (aD wb 0))):=cH HY.out.2.2.2.2.1 0;refine hK _ _ ⟨y0,ug⟩ (oQ ?_);clear hK K9 au ar;refine (ud ?_) _;have y1:Y.cell? (aD wb 0)=some (vS (some (aD bn on)) ns.length c):=cH HW.out.box 0;go_wp2_with (go_at_call 91;refine (zL8 _ _).mono ?_;rintro e w' ⟨rfl,rfl⟩);obtain⟨xs,aK⟩:∃ xs:List {k:Int // 0<=k/\k<ns.length},xs.map Subtype.val=edg x:=by
   refine⟨(edg x).attach.map fun k=>⟨k.1,HX.out.2.1 k.1 k.2⟩,?_⟩;rw[List.map_map];exact List.attach_map_subtype_val (edg x)
  obtain⟨Z,hZ,aa,_,a2⟩:=aW Y (.cells #[.pointer (some (aD bn (on+n*8)))] 91 (0,0));rw[<-hZ]
  have a3:Z.cell? (aH Y 0)=some (.pointer (some (aD bn (on+n*8)))):=(Bu (by rw[hZ];exact Bk Y _) 0).trans rfl;have aF:=HY.out.2.2.1;have ai:=HY.out.2.2.2.2.2;have aP:=HY.out.2.2.2.1;have al:base<=gl/\gl<Y.heap.size:=OwnE.ltB HW.out.own rfl;have ak:gl≠w.heap.size:=by
   rcases aP with h|h
   ·have:=ai gl h;omega
   ·omega
  have a4:VisW (some (aD bn on)) ns.length c cp wb vb base Z (vS (some (aD gl 0)) (s.2.length+1) f) (s.1.set n true,s.2++[(n:Int)]):=HW.out.stay (aa.block _ (by omega)) (aa.block _ (by omega)) fun g hg hl=>aa.block _ hl;have ap:Below H w Z:=HY.out.2.1.trans (aa.mono (by omega));have a5:NdAt (fun b=>b<H\/b=Y.heap.size) Z bn (on+n*8) x Ak Af ck cf:=by
   have hc:=fun q v (h:w.cell? (aD bn q)=some v)=>(ap.cell (p:=(aD bn q)) aA).trans h;obtain⟨r0,r1,r2,r3,r4,r5,r6,r7,_⟩:=HR.out;exact⟨⟨.inl aA,by omega⟩,hc _ _ r3,hc _ _ r4,hc _ _ r5,hc _ _ r6,hc _ _ r7,(RowB.on r1 ap fun _ _ h=>h).sub (fun b hb=>.inl hb) fun _ _ h=>h,(RowB.on r2 ap fun _ _ h=>h).sub (fun b hb=>.inl hb) fun _ _ h=>h⟩
  have ah:Z.heap[w.heap.size]?=some (.cells #[.pointer (some (aD wb 0))] 186 (0,0)):=(aa.block _ (by omega)).trans HY.out.2.2.2.2.1;have aX:=xI aK;have HZ:=xI (aN al (aN ak (aN ah (aN ap (aN a2 aF)))));have HU:Hid (∀ pre:List {k:Int // 0<=k/\k<ns.length},VLen ns (s.1.set n true,s.2++[(n:Int)]) ((pre.map Subtype.val).foldl (fun s k=>visC ns u s k.toNat) (s.1.set n true,s.2++[(n:Int)]))):=xI fun pre=>
   zHw (fun s n h1 h2=>zNp he u s n h1 h2) _ _ (fun k hk=>by obtain⟨y,_,rfl⟩:=Ca.1 hk;exact y.2) (by simpa using HX.out.2.2.2.1)
  have aV:∀ b,(b<H\/b=Y.heap.size)->b<Z.heap.size:=fun b hb=>by rcases hb with h|h<;>omega
  clear aK ai aP ap ah;refine (wpIn_wide (n:=6)).1 ?_;refine wpIn_rangeFunc_ownG rfl (by omega) (gf:=140) (lb:=#[.pointer (some (aH Y 0))]) rfl trivial (enters_of func140 (by kernel_rfl) rfl)
   (zFm 5 Y.heap.size (by omega) (fun b=>b<H\/b=Y.heap.size) bn (on+n*8) x Ak Af ck cf (fun k=>0<=k/\k<ns.length) xs aX.out Z aV (.inr rfl) a3 a5) zL0 (zL1 (n0:=Z.heap.size) aV lR) yR (fun _=>rfl)
   (fun pre W=>∃ v',VisW (some (aD bn on)) ns.length c cp wb vb base W v' ((pre.map Subtype.val).foldl (fun s k=>visC ns u s k.toNat) (s.1.set n true,s.2++[(n:Int)]))/\VK wb vb (some gl) Z W/\∀ g,v'.ownBlock=some g->g=gl\/Z.heap.size<=g)
   (fun _ _ _=>False)
   (fun pre A B row hs hg hr=>by
    obtain⟨v',h1,h2,h3⟩:=hs;exact⟨v',h1.grown hg (fun r e=>(hr r e).2),h2.grown hg (fun r e=>(hr r e).1),h3⟩)
   (fun _ _ _ _ _ h _ _=>h)
   ⟨_,a4,VK.of_below yR,fun g h=>.inl (by simpa [Value.ownBlock] using h.symm)⟩
   (fun y=>{ tmps:=#[Value.pointer (some (aD wb 0)),Value.int IntKind.i64 ↑n,Value.pointer (some (aH w 0)),undef,vI i6 y.1,Value.pointer (some (aD wb 0)),Value.pointer (some (aD wb 0)),Value.pointer (some (aD wb 1)),vS (some (aD vb 0)) ns.length cp,Value.int IntKind.i64 ↑n,Value.pointer (some (aD vb n)),Value.bool false,Value.pointer (some (aD wb 0)),Value.pointer (some (aD wb 0)),Value.pointer (some (aD wb 1)),vS (some (aD vb 0)) ns.length cp,Value.int IntKind.i64 ↑n,Value.pointer (some (aD vb n)),Value.pointer (some (aD wb 0)),Value.pointer (some (aD wb 0)),Value.pointer (some (aD wb 0)),Value.pointer (some (aD wb 2)),vS Av s.snd.length cv,Value.int IntKind.i64 ↑n,vS (some (aE w 0)) 1 1,vS (some (aD gl 0)) (s.snd.length+1) f,Value.pointer (some (aD wb 0)),Value.pointer (some (aD wb 2)),Value.pointer (some (aD wb 0)),Value.pointer (some (aD wb 0)),Value.pointer (some (aD wb 0)),vS (some (aD bn on)) ns.length c,Value.int IntKind.i64 ↑n,Value.pointer (some (aD bn (on+n*8))),Value.func (Fn.func 140) #[] #[Value.pointer (some (aH Y 0))],vI i6 y.1,undef,undef,undef],defers:=[] }) ?assign ?body ?done ?stop
  case assign=>
   intro l x W K hK
   gi_wp2
   exact hK
  case stop=>rintro D c pre W _ _ h _;exact h.elim
  case body=>
   rintro l pre y W ⟨v',t,z,P⟩ _;obtain⟨k,bb,ba⟩:=y;obtain⟨kn,rfl⟩:∃ kn:Nat,k=(kn:Int):=⟨k.toNat,by omega⟩;have hu:=HU.out pre;have hl:=hu.2.1;have aO:=hu.2.2;have aI:Below H w W:=HZ.out.2.2.2.1.trans (z.below hbs.1 hbs.2.1 (fun g h=>by injection h with h;have:=al.1;omega) (by omega));have aL:RowP W H 8 (vS (some (aD bn on)) ns.length c) ns.length (tnR W (fun b=>b<H) ns):=RowB.on HR.out.1 aI fun _ _ ⟨y,hy,h⟩=>⟨y,hy,TnB.on h aI⟩;have aY:=HX.out;have hc:=ih _ kn v' W (by simp only at hl;omega) hu.1 (by omega) (by simp only[Bd,Ci,Ch]at aO;omega) aL (by have:=z.low.size;omega) t;have a9:W.cell? (aH w 0)=some (.pointer (some (aD wb 0))):=(Bu ((z.blk w.heap.size (by omega) (by omega) (by omega) (fun e=>by injection e with e;exact ak e)).trans HZ.out.2.2.1) 0).trans rfl;have a7:=xI (aN t (aN z P));clear t z P hu hl aO aI aL aY
   gi_wp2_with (refine⟨trivial,?_⟩;gi_at_call 142;refine (CallsIn.inRound l (callsIn_wide.2 hc)).mono ?_;rintro e w2 ⟨rfl,v2,hV2,hK2,hO2⟩)
   obtain⟨t,z,P⟩:=a7.out;have d:=HX.out.2.2.2.2.2.1;refine⟨⟨hK2.low.size,fun b o _ hb ho=>(hK2.blk b (Cp.1 hb).1 (t.notCells hb ho).1 (t.notCells hb ho).2.1 (t.notCells hb ho).2.2).trans hb⟩,⟨hK2.low.size,fun b i hB hl=>Bg (hK2.blk b hl ?_ ?_ ?_)⟩,v2,?_,z.trans hK2 ?_,?_⟩
   ·rcases hB with h|h<;>omega
   ·rcases hB with h|h<;>omega
   ·intro e;have h1:=OwnE.ltB t.own e;rcases P b e with h2|h2<;>rcases hB with h|h<;>omega
   ·rw[Dh,List.foldl_append];exact hV2
   ·intro g hg;rcases P g hg with h|h
    ·exact .inl (by rw[h])
    ·exact .inr h
   ·intro g hg;rcases hO2 g hg with h|h
    ·exact P g h
    ·exact .inr (Ba z.low.size h)
  case done=>
   rintro D ys W hD rfl ⟨v',t,z,P⟩ hKd
   gi_wp2
   refine zOd ?_;obtain⟨q1,q2,q3,q4,q5,q6⟩:=HY.out;have aQ:∀ g,some gl=some g->(vS Av s.2.length cv).ownBlock=some g\/w.heap.size<=g:=fun g e=>by
    injection e with e;subst e;rcases q4 with h|h
    ·exact .inl h
    ·exact .inr (by omega)
   refine⟨by simp,.inl ⟨_,_,rfl,run_takeDeferred hKd,?_⟩⟩;refine⟨.tuple #[],by simp[results,results142,go_sem],rfl,v',?_,?_,?_⟩
   ·have h:=t.grown (grownBy_putObj' W D (.deferred none)) (fun r e=>by cases e;exact⟨_,hKd,rfl⟩);rw[aX.out,<-V.out]at h;exact h
   ·exact (q1.trans ((VK.of_below (o:=some gl) aa).trans z fun g e=>.inl e) aQ).grown (grownBy_putObj' W D (.deferred none)) (fun r e=>by cases e;have:=q2.size;omega)
   ·intro g hg;rcases P g hg with h|h
    ·exact aQ g (by rw[h])
    ·exact .inr (by have:=q2.size;omega)
theorem nb0 (n:Nat):((n:Int)==0)=decide (n=0):=by rw[Dl];simp
theorem nb1 (n:Nat):((n:Int)==1)=decide (n=1):=by rw[Dl];simp;omega
theorem nb2 (n:Nat):((n:Int)==2)=decide (n=2):=by rw[Dl];simp;omega
theorem zNn (ns:List Tn) (root:Int) (A:Option Addr) (c:Nat) (kd lo hi:Int) (tx:List UInt8) (ks:List Int) (fds:List Fd) (r0 r1:Int) (Ak:Option Addr) (ck:Nat) (Af:Option Addr) (cf:Nat) (w:World)
  (hT:TyP w w.heap.size ns root [vS A ns.length c,vI i6 root]) (hN:TnP w w.heap.size ⟨kd,lo,hi,tx,ks,fds,r0,r1⟩ [vI i6 kd,vI i6 lo,vI i6 hi,vT ⟨tx.toArray⟩,vS Ak ks.length ck,vS Af fds.length cf,vI i6 r0,vI i6 r1])
  (hkids:ks.all (idxB ns.length)=true) (hkd:kd=1\/kd=2\/kd=3\/kd=4\/kd=5\/kd=7\/kd=8\/kd=9\/kd=10\/kd=11\/kd=12\/kd=14\/kd=15\/kd=16\/kd=17\/kd=18) :
  Calls tP 75 #[.agg #[vS A ns.length c,vI i6 root],.agg #[vI i6 kd,vI i6 lo,vI i6 hi,vT ⟨tx.toArray⟩,vS Ak ks.length ck,vS Af fds.length cf,vI i6 r0,vI i6 r1]] w fun e w'=>e=.returned (.bool (tnB ns.length ⟨kd,lo,hi,tx,ks,fds,r0,r1⟩))/\bW w w':=by
 have B:=xI hkd;clear hkd;obtain⟨uk,uf,x,q,b,v⟩:=hN;simp only[Bc,and_true]at x;obtain⟨_,_,_,_,rfl,rfl,_,_⟩:=x;obtain⟨bk,ok,g,u⟩:=zDz b;have g:0<ks.length->Ak=some (aD bk ok)/\bk<w.heap.size:=g;have o:ks.length<=maxLen:=by obtain⟨_,_,h,h',_⟩:=b;exact h'.1
 have hF:=WF.start w (oE A ns.length c root) (oX kd lo hi ⟨tx.toArray⟩ Ak ks.length ck Af fds.length cf r0 r1);obtain⟨W,hW⟩:∃ W,W=((w.alloc (oE A ns.length c root)).alloc (oX kd lo hi ⟨tx.toArray⟩ Ak ks.length ck Af fds.length cf r0 r1)):=⟨_,rfl⟩;rw[<-hW]at hF;have HQ:Hid (∀ wq,bW W wq->((jT wq w.heap.size A ns.length c root)/\wq.cell? (aE w 4)=some (vS Ak ks.length ck)/\∀ j k,ks[j]?=some k->wq.cell? (aD bk (ok+j))=some (vI i6 k))):=xI fun wq hb=>by
  have F:=hF.next hb
  refine⟨⟨cH F.t 0,cH F.t 1⟩,cH F.n 4,fun j k hj=>(F.bel.cell (p:=(aD bk (ok+j))) (g (by have:=(Bx.1 hj).1;omega)).2).trans (u j k hj).1⟩
 have HT:Hid (∀ wq,bW W wq->TyP wq w.heap.size ns root [vS A ns.length c,vI i6 root]):=xI fun wq hb=>hT.on (hF.next hb).bel
 have HF:=xI hF;have HK:=xI (aN o (aN g (aN v q)));clear hF hT u b g v q;unfold maxLen at o;go_enter func75,ntmps75;go_wp2_with fail;rw[<-hW];clear hW
 go_loopw [5] (fun iv wr=>∃ j:Nat,iv=vI i6 j/\j<=ks.length/\(∀ m k,m<j->ks[m]?=some k->idxB ns.length k=true)/\bW W wr) (fun i _=>((ks.length:Int)-intOf i).toNat)
 case atStart=>exact⟨0,rfl,by omega,fun m k hm=>absurd hm (by omega),By _ _⟩
 case round=>
  obtain⟨j,rfl,hj,d,f⟩:=hrel;have s:=(HQ.out wr f).2.1;by_cases hjn:j<ks.length
  ·have mp:(j:Int)<(ks.length:Int):=by omega
   have m0:(0:Int)<=(j:Int):=by omega
   have C:IntKind.i64.wrap ((j:Int)+1)=(j:Int)+1:=Br _ (by omega);have l:=Bw hjn;generalize ks[j]=kj at l;obtain⟨rfl,E⟩:=HK.out.2.1 (by omega);have hd:bW W wr.drew:=f.drew;have hq:=HQ.out _ hd;have HA:=xI (aN hj (aN d f));have hc:=zAy kj wr.drew (HT.out _ hd);have a:Hid (∀ wq,Below wr.drew.heap.size wr.drew wq->((jT wq w.heap.size A ns.length c root)/\wq.cell? (aE w 4)=some (vS (some (aD bk ok)) ks.length ck)/\wq.cell? (aD bk (ok+j))=some (vI i6 kj))):=xI fun wq hb=>by
    have h:=HQ.out wq (hd.trans (hb.mono hd.size));exact⟨h.1,h.2.1,h.2.2 j kj l⟩
   clear d f hq;generalize hkn:ks.length=kl at mp s a;have y:=xI hkn;clear hkn;go_wp2_with fail;clear s;refine ub 7 (fun wq=>((jT wq w.heap.size A ns.length c root)/\wq.cell? (aE w 4)=some (vS (some (aD bk ok)) kl ck)/\wq.cell? (aD bk (ok+j))=some (vI i6 kj))) (fun _=>True) ?_;refine oM 0 ⟨a.out _ yR,trivial⟩ ?_;refine oM 1 ⟨a.out _ yR,trivial⟩ ?_;refine oM 2 ⟨a.out _ yR,trivial⟩ ?_;refine oM 3 ⟨a.out _ yR,trivial⟩ ?_;refine oM 4 ⟨a.out _ yR,trivial⟩ ?_;refine oM 5 ⟨a.out _ yR,trivial⟩ ?_;refine uo 6 (fun K hK=>?_);go_simp;refine hc.mono ?_;rintro e w5 ⟨rfl,hb5⟩;clear hc;refine hK _ _ ⟨a.out _ hb5,fun _=>trivial⟩ (oQ ?_);clear hK K;refine uo 7 (fun K hK=>?_);go_simp;refine hK _ _ ⟨a.out _ hb5,fun _=>trivial⟩ (oQ ?_);clear hK K;refine (ud ?_) _;cases hix:idxB ns.length kj with
   | false=>
    rw[B7]at hkids;rw[hkids kj (Bi l)]at hix;exact absurd hix (by decide)
   | true=>
    go_wp2_with fail
    go_roundw
    case rel=>
     refine⟨j+1,by go_num,by omega,fun m k hm hk=>?_,hd.trans (hb5.mono hd.size)⟩;by_cases hmj:m=j
     ·subst hmj;rw[l]at hk;injection hk with hk;rw[<-hk];exact hix
     ·exact HA.out.2.1 m k (by omega) hk
    case measure=>have:=y.out;simp[intOf];omega
  ·have mp:¬ (j:Int)<(ks.length:Int):=by omega
   have F:=HF.out.next f
   obtain⟨n0,n1,n2,n3,n4,n5,n6,n7⟩:=zAe F.n;have D:=fun W=>zEo HK.out.2.2.2.2.2.2.2.1 HK.out.2.2.2.2.2.2.2.2 W;have r:tx.length<=maxLen:=HK.out.2.2.2.2.2.2.1;have HB:=xI F.bel;clear d f F o;have z:=xI hkids;clear HK HQ HT HF hkids;generalize hkn:ks.length=nk at *;generalize hfn:fds.length=nf at *;have HN:=xI (aN hkn hfn);have G:=xI r;clear hkn hfn r;rcases B.out with rfl|rfl|rfl|rfl|rfl|rfl|rfl|rfl|rfl|rfl|rfl|rfl|rfl|rfl|rfl|rfl
   all_goals go_wp2
   all_goals go_ret
   all_goals refine⟨?_,HB.out⟩
   all_goals simp only[tnB,useB,formB,z.out,zCb,HN.out.1,HN.out.2,nb0,nb1,nb2]
   all_goals try simp only[Bool.not_eq_true',Bool.not_eq_false',List.isEmpty_iff,List.isEmpty_eq_false_iff,Cw,Be,ne_eq]at *
   all_goals first|(simp[*];done)|(simp_all;done)|(simp_all;omega)|(simp_all [nb0,nb1,nb2];done)|(simp_all [nb0,nb1,nb2];omega)|(simp_all;rw[Dl];simp;omega)
theorem zNo (ns:List Tn) (root:Int) (A:Option Addr) (c:Nat) (kd lo hi:Int) (tx:List UInt8) (ks:List Int) (fds:List Fd) (r0 r1:Int) (Ak:Option Addr) (ck:Nat) (Af:Option Addr) (cf:Nat) (w:World)
  (hT:TyP w w.heap.size ns root [vS A ns.length c,vI i6 root]) (hN:TnP w w.heap.size ⟨kd,lo,hi,tx,ks,fds,r0,r1⟩ [vI i6 kd,vI i6 lo,vI i6 hi,vT ⟨tx.toArray⟩,vS Ak ks.length ck,vS Af fds.length cf,vI i6 r0,vI i6 r1])
  (hkids:ks.all (idxB ns.length)=true) (hkd:kd=6) :
  Calls tP 75 #[.agg #[vS A ns.length c,vI i6 root],.agg #[vI i6 kd,vI i6 lo,vI i6 hi,vT ⟨tx.toArray⟩,vS Ak ks.length ck,vS Af fds.length cf,vI i6 r0,vI i6 r1]] w fun e w'=>e=.returned (.bool (tnB ns.length ⟨kd,lo,hi,tx,ks,fds,r0,r1⟩))/\bW w w':=by
 have C:=xI hkd;clear hkd;obtain⟨uk,uf,x,q,b,v⟩:=hN;simp only[Bc,and_true]at x;obtain⟨_,_,_,_,rfl,rfl,_,_⟩:=x;obtain⟨bk,ok,g,u⟩:=zDz b;have g:0<ks.length->Ak=some (aD bk ok)/\bk<w.heap.size:=g;have o:ks.length<=maxLen:=by obtain⟨_,_,h,h',_⟩:=b;exact h'.1
 have hF:=WF.start w (oE A ns.length c root) (oX kd lo hi ⟨tx.toArray⟩ Ak ks.length ck Af fds.length cf r0 r1);obtain⟨W,hW⟩:∃ W,W=((w.alloc (oE A ns.length c root)).alloc (oX kd lo hi ⟨tx.toArray⟩ Ak ks.length ck Af fds.length cf r0 r1)):=⟨_,rfl⟩;rw[<-hW]at hF;have HQ:Hid (∀ wq,bW W wq->((jT wq w.heap.size A ns.length c root)/\wq.cell? (aE w 4)=some (vS Ak ks.length ck)/\∀ j k,ks[j]?=some k->wq.cell? (aD bk (ok+j))=some (vI i6 k))):=xI fun wq hb=>by
  have F:=hF.next hb
  refine⟨⟨cH F.t 0,cH F.t 1⟩,cH F.n 4,fun j k hj=>(F.bel.cell (p:=(aD bk (ok+j))) (g (by have:=(Bx.1 hj).1;omega)).2).trans (u j k hj).1⟩
 have HT:Hid (∀ wq,bW W wq->TyP wq w.heap.size ns root [vS A ns.length c,vI i6 root]):=xI fun wq hb=>hT.on (hF.next hb).bel
 have HF:=xI hF;have HK:=xI (aN o (aN g (aN v q)));clear hF hT u b g v q;unfold maxLen at o;go_enter func75,ntmps75;go_wp2_with fail;rw[<-hW];clear hW
 go_loopw [5] (fun iv wr=>∃ j:Nat,iv=vI i6 j/\j<=ks.length/\(∀ m k,m<j->ks[m]?=some k->idxB ns.length k=true)/\bW W wr) (fun i _=>((ks.length:Int)-intOf i).toNat)
 case atStart=>exact⟨0,rfl,by omega,fun m k hm=>absurd hm (by omega),By _ _⟩
 case round=>
  obtain⟨j,rfl,hj,d,f⟩:=hrel;have s:=(HQ.out wr f).2.1;by_cases hjn:j<ks.length
  ·have mp:(j:Int)<(ks.length:Int):=by omega
   have m0:(0:Int)<=(j:Int):=by omega
   have D:IntKind.i64.wrap ((j:Int)+1)=(j:Int)+1:=Br _ (by omega);have l:=Bw hjn;generalize ks[j]=kj at l;obtain⟨rfl,G⟩:=HK.out.2.1 (by omega);have hd:bW W wr.drew:=f.drew;have hq:=HQ.out _ hd;have HA:=xI (aN hj (aN d f));have hc:=zAy kj wr.drew (HT.out _ hd);have a:Hid (∀ wq,Below wr.drew.heap.size wr.drew wq->((jT wq w.heap.size A ns.length c root)/\wq.cell? (aE w 4)=some (vS (some (aD bk ok)) ks.length ck)/\wq.cell? (aD bk (ok+j))=some (vI i6 kj))):=xI fun wq hb=>by
    have h:=HQ.out wq (hd.trans (hb.mono hd.size));exact⟨h.1,h.2.1,h.2.2 j kj l⟩
   clear d f hq;generalize hkn:ks.length=kl at mp s a;have z:=xI hkn;clear hkn;go_wp2_with fail;clear s;refine ub 7 (fun wq=>((jT wq w.heap.size A ns.length c root)/\wq.cell? (aE w 4)=some (vS (some (aD bk ok)) kl ck)/\wq.cell? (aD bk (ok+j))=some (vI i6 kj))) (fun _=>True) ?_;refine oM 0 ⟨a.out _ yR,trivial⟩ ?_;refine oM 1 ⟨a.out _ yR,trivial⟩ ?_;refine oM 2 ⟨a.out _ yR,trivial⟩ ?_;refine oM 3 ⟨a.out _ yR,trivial⟩ ?_;refine oM 4 ⟨a.out _ yR,trivial⟩ ?_;refine oM 5 ⟨a.out _ yR,trivial⟩ ?_;refine uo 6 (fun K hK=>?_);go_simp;refine hc.mono ?_;rintro e w5 ⟨rfl,hb5⟩;clear hc;refine hK _ _ ⟨a.out _ hb5,fun _=>trivial⟩ (oQ ?_);clear hK K;refine uo 7 (fun K hK=>?_);go_simp;refine hK _ _ ⟨a.out _ hb5,fun _=>trivial⟩ (oQ ?_);clear hK K;refine (ud ?_) _;cases hix:idxB ns.length kj with
   | false=>
    rw[B7]at hkids;rw[hkids kj (Bi l)]at hix;exact absurd hix (by decide)
   | true=>
    go_wp2_with fail
    go_roundw
    case rel=>
     refine⟨j+1,by go_num,by omega,fun m k hm hk=>?_,hd.trans (hb5.mono hd.size)⟩;by_cases hmj:m=j
     ·subst hmj;rw[l]at hk;injection hk with hk;rw[<-hk];exact hix
     ·exact HA.out.2.1 m k (by omega) hk
    case measure=>have:=z.out;simp[intOf];omega
  ·have mp:¬ (j:Int)<(ks.length:Int):=by omega
   have F:=HF.out.next f
   obtain⟨n0,n1,n2,n3,n4,n5,n6,n7⟩:=zAe F.n;have E:=fun W=>zEo HK.out.2.2.2.2.2.2.2.1 HK.out.2.2.2.2.2.2.2.2 W;have r:tx.length<=maxLen:=HK.out.2.2.2.2.2.2.1;have HB:=xI F.bel;clear d f F o;have B:=xI hkids;clear HK HQ HT HF hkids;generalize hkn:ks.length=nk at *;generalize hfn:fds.length=nf at *;have HN:=xI (aN hkn hfn);have y:=xI r;clear hkn hfn r;obtain rfl:=C.out;have hc:=fun U=>zCt ⟨tx.toArray⟩ U (by simpa [ByteArray.size] using y.out);go_wp2_with (go_at_call 115;refine (hc _).mono ?_;rintro e w5 ⟨rfl,rfl⟩)
   all_goals go_ret
   all_goals refine⟨?_,HB.out⟩
   all_goals simp only[tnB,useB,formB,B.out,zCb,HN.out.1,HN.out.2,nb0,nb1,nb2]
   all_goals try simp only[Bool.not_eq_true',Bool.not_eq_false',List.isEmpty_iff,List.isEmpty_eq_false_iff,Cw,Be,ne_eq]at *
   all_goals first|(simp[*];done)|(simp_all;done)|(simp_all;omega)|(simp_all [nb0,nb1,nb2];done)|(simp_all [nb0,nb1,nb2];omega)|(simp_all;rw[Dl];simp;omega)
theorem zQg (ns:List Tn) (root:Int) (A:Option Addr) (c:Nat) (kd lo hi:Int) (tx:List UInt8) (ks:List Int) (fds:List Fd) (r0 r1:Int) (Ak:Option Addr) (ck:Nat) (Af:Option Addr) (cf:Nat) (w:World)
  (hT:TyP w w.heap.size ns root [vS A ns.length c,vI i6 root]) (hN:TnP w w.heap.size ⟨kd,lo,hi,tx,ks,fds,r0,r1⟩ [vI i6 kd,vI i6 lo,vI i6 hi,vT ⟨tx.toArray⟩,vS Ak ks.length ck,vS Af fds.length cf,vI i6 r0,vI i6 r1])
  (hkids:ks.all (idxB ns.length)=true) (hkd:kd=19) :
  Calls tP 75 #[.agg #[vS A ns.length c,vI i6 root],.agg #[vI i6 kd,vI i6 lo,vI i6 hi,vT ⟨tx.toArray⟩,vS Ak ks.length ck,vS Af fds.length cf,vI i6 r0,vI i6 r1]] w fun e w'=>e=.returned (.bool (tnB ns.length ⟨kd,lo,hi,tx,ks,fds,r0,r1⟩))/\bW w w':=by
 have C:=xI hkd;clear hkd;obtain⟨uk,uf,x,q,b,v⟩:=hN;simp only[Bc,and_true]at x;obtain⟨_,_,_,_,rfl,rfl,_,_⟩:=x;obtain⟨bk,ok,g,u⟩:=zDz b;have g:0<ks.length->Ak=some (aD bk ok)/\bk<w.heap.size:=g;have o:ks.length<=maxLen:=by obtain⟨_,_,h,h',_⟩:=b;exact h'.1
 have hF:=WF.start w (oE A ns.length c root) (oX kd lo hi ⟨tx.toArray⟩ Ak ks.length ck Af fds.length cf r0 r1);obtain⟨W,hW⟩:∃ W,W=((w.alloc (oE A ns.length c root)).alloc (oX kd lo hi ⟨tx.toArray⟩ Ak ks.length ck Af fds.length cf r0 r1)):=⟨_,rfl⟩;rw[<-hW]at hF;have HQ:Hid (∀ wq,bW W wq->((jT wq w.heap.size A ns.length c root)/\wq.cell? (aE w 4)=some (vS Ak ks.length ck)/\∀ j k,ks[j]?=some k->wq.cell? (aD bk (ok+j))=some (vI i6 k))):=xI fun wq hb=>by
  have F:=hF.next hb
  refine⟨⟨cH F.t 0,cH F.t 1⟩,cH F.n 4,fun j k hj=>(F.bel.cell (p:=(aD bk (ok+j))) (g (by have:=(Bx.1 hj).1;omega)).2).trans (u j k hj).1⟩
 have HT:Hid (∀ wq,bW W wq->TyP wq w.heap.size ns root [vS A ns.length c,vI i6 root]):=xI fun wq hb=>hT.on (hF.next hb).bel
 have HF:=xI hF;have HK:=xI (aN o (aN g (aN v q)));clear hF hT u b g v q;unfold maxLen at o;go_enter func75,ntmps75;go_wp2_with fail;rw[<-hW];clear hW
 go_loopw [5] (fun iv wr=>∃ j:Nat,iv=vI i6 j/\j<=ks.length/\(∀ m k,m<j->ks[m]?=some k->idxB ns.length k=true)/\bW W wr) (fun i _=>((ks.length:Int)-intOf i).toNat)
 case atStart=>exact⟨0,rfl,by omega,fun m k hm=>absurd hm (by omega),By _ _⟩
 case round=>
  obtain⟨j,rfl,hj,d,f⟩:=hrel;have s:=(HQ.out wr f).2.1;by_cases hjn:j<ks.length
  ·have mp:(j:Int)<(ks.length:Int):=by omega
   have m0:(0:Int)<=(j:Int):=by omega
   have D:IntKind.i64.wrap ((j:Int)+1)=(j:Int)+1:=Br _ (by omega);have l:=Bw hjn;generalize ks[j]=kj at l;obtain⟨rfl,G⟩:=HK.out.2.1 (by omega);have hd:bW W wr.drew:=f.drew;have hq:=HQ.out _ hd;have HA:=xI (aN hj (aN d f));have hc:=zAy kj wr.drew (HT.out _ hd);have a:Hid (∀ wq,Below wr.drew.heap.size wr.drew wq->((jT wq w.heap.size A ns.length c root)/\wq.cell? (aE w 4)=some (vS (some (aD bk ok)) ks.length ck)/\wq.cell? (aD bk (ok+j))=some (vI i6 kj))):=xI fun wq hb=>by
    have h:=HQ.out wq (hd.trans (hb.mono hd.size));exact⟨h.1,h.2.1,h.2.2 j kj l⟩
   clear d f hq;generalize hkn:ks.length=kl at mp s a;have z:=xI hkn;clear hkn;go_wp2_with fail;clear s;refine ub 7 (fun wq=>((jT wq w.heap.size A ns.length c root)/\wq.cell? (aE w 4)=some (vS (some (aD bk ok)) kl ck)/\wq.cell? (aD bk (ok+j))=some (vI i6 kj))) (fun _=>True) ?_;refine oM 0 ⟨a.out _ yR,trivial⟩ ?_;refine oM 1 ⟨a.out _ yR,trivial⟩ ?_;refine oM 2 ⟨a.out _ yR,trivial⟩ ?_;refine oM 3 ⟨a.out _ yR,trivial⟩ ?_;refine oM 4 ⟨a.out _ yR,trivial⟩ ?_;refine oM 5 ⟨a.out _ yR,trivial⟩ ?_;refine uo 6 (fun K hK=>?_);go_simp;refine hc.mono ?_;rintro e w5 ⟨rfl,hb5⟩;clear hc;refine hK _ _ ⟨a.out _ hb5,fun _=>trivial⟩ (oQ ?_);clear hK K;refine uo 7 (fun K hK=>?_);go_simp;refine hK _ _ ⟨a.out _ hb5,fun _=>trivial⟩ (oQ ?_);clear hK K;refine (ud ?_) _;cases hix:idxB ns.length kj with
   | false=>
    rw[B7]at hkids;rw[hkids kj (Bi l)]at hix;exact absurd hix (by decide)
   | true=>
    go_wp2_with fail
    go_roundw
    case rel=>
     refine⟨j+1,by go_num,by omega,fun m k hm hk=>?_,hd.trans (hb5.mono hd.size)⟩;by_cases hmj:m=j
     ·subst hmj;rw[l]at hk;injection hk with hk;rw[<-hk];exact hix
     ·exact HA.out.2.1 m k (by omega) hk
    case measure=>have:=z.out;simp[intOf];omega
  ·have mp:¬ (j:Int)<(ks.length:Int):=by omega
   have F:=HF.out.next f
   obtain⟨n0,n1,n2,n3,n4,n5,n6,n7⟩:=zAe F.n;have E:=fun W=>zEo HK.out.2.2.2.2.2.2.2.1 HK.out.2.2.2.2.2.2.2.2 W;have r:tx.length<=maxLen:=HK.out.2.2.2.2.2.2.1;have HB:=xI F.bel;clear d f F o;have B:=xI hkids;clear HK HQ HT HF hkids;generalize hkn:ks.length=nk at *;generalize hfn:fds.length=nf at *;have HN:=xI (aN hkn hfn);have y:=xI r;clear hkn hfn r;obtain rfl:=C.out;have hc:=fun U=>zBj ⟨tx.toArray⟩ U (by simpa [ByteArray.size] using y.out);go_wp2_with (go_at_call 29;refine (hc _).mono ?_;rintro e w5 ⟨rfl,rfl⟩)
   all_goals go_ret
   all_goals refine⟨?_,HB.out⟩
   all_goals simp only[tnB,useB,formB,B.out,zCb,HN.out.1,HN.out.2,nb0,nb1,nb2]
   all_goals try simp only[Bool.not_eq_true',Bool.not_eq_false',List.isEmpty_iff,List.isEmpty_eq_false_iff,Cw,Be,ne_eq]at *
   all_goals first|(simp[*];done)|(simp_all;done)|(simp_all;omega)|(simp_all [nb0,nb1,nb2];done)|(simp_all [nb0,nb1,nb2];omega)|(simp_all;rw[Dl];simp;omega)
theorem zLt (ns:List Tn) (root:Int) (A:Option Addr) (c:Nat) (kd lo hi:Int) (tx:List UInt8) (ks:List Int) (fds:List Fd) (r0 r1:Int) (Ak:Option Addr) (ck:Nat) (Af:Option Addr) (cf:Nat) (w:World)
  (hT:TyP w w.heap.size ns root [vS A ns.length c,vI i6 root]) (hN:TnP w w.heap.size ⟨kd,lo,hi,tx,ks,fds,r0,r1⟩ [vI i6 kd,vI i6 lo,vI i6 hi,vT ⟨tx.toArray⟩,vS Ak ks.length ck,vS Af fds.length cf,vI i6 r0,vI i6 r1])
  (hkids:ks.all (idxB ns.length)=true) (hkd:¬ kd=1/\¬ kd=2/\¬ kd=3/\¬ kd=4/\¬ kd=5/\¬ kd=6/\¬ kd=7/\¬ kd=8/\¬ kd=9/\¬ kd=10/\¬ kd=11/\¬ kd=12/\¬ kd=13/\¬ kd=14/\¬ kd=15/\¬ kd=16/\¬ kd=17/\¬ kd=18/\¬ kd=19) :
  Calls tP 75 #[.agg #[vS A ns.length c,vI i6 root],.agg #[vI i6 kd,vI i6 lo,vI i6 hi,vT ⟨tx.toArray⟩,vS Ak ks.length ck,vS Af fds.length cf,vI i6 r0,vI i6 r1]] w fun e w'=>e=.returned (.bool (tnB ns.length ⟨kd,lo,hi,tx,ks,fds,r0,r1⟩))/\bW w w':=by
 have B:=xI hkd;clear hkd;obtain⟨uk,uf,x,q,b,v⟩:=hN;simp only[Bc,and_true]at x;obtain⟨_,_,_,_,rfl,rfl,_,_⟩:=x;obtain⟨bk,ok,g,u⟩:=zDz b;have g:0<ks.length->Ak=some (aD bk ok)/\bk<w.heap.size:=g;have o:ks.length<=maxLen:=by obtain⟨_,_,h,h',_⟩:=b;exact h'.1
 have hF:=WF.start w (oE A ns.length c root) (oX kd lo hi ⟨tx.toArray⟩ Ak ks.length ck Af fds.length cf r0 r1);obtain⟨W,hW⟩:∃ W,W=((w.alloc (oE A ns.length c root)).alloc (oX kd lo hi ⟨tx.toArray⟩ Ak ks.length ck Af fds.length cf r0 r1)):=⟨_,rfl⟩;rw[<-hW]at hF;have HQ:Hid (∀ wq,bW W wq->((jT wq w.heap.size A ns.length c root)/\wq.cell? (aE w 4)=some (vS Ak ks.length ck)/\∀ j k,ks[j]?=some k->wq.cell? (aD bk (ok+j))=some (vI i6 k))):=xI fun wq hb=>by
  have F:=hF.next hb
  refine⟨⟨cH F.t 0,cH F.t 1⟩,cH F.n 4,fun j k hj=>(F.bel.cell (p:=(aD bk (ok+j))) (g (by have:=(Bx.1 hj).1;omega)).2).trans (u j k hj).1⟩
 have HT:Hid (∀ wq,bW W wq->TyP wq w.heap.size ns root [vS A ns.length c,vI i6 root]):=xI fun wq hb=>hT.on (hF.next hb).bel
 have HF:=xI hF;have HK:=xI (aN o (aN g (aN v q)));clear hF hT u b g v q;unfold maxLen at o;go_enter func75,ntmps75;go_wp2_with fail;rw[<-hW];clear hW
 go_loopw [5] (fun iv wr=>∃ j:Nat,iv=vI i6 j/\j<=ks.length/\(∀ m k,m<j->ks[m]?=some k->idxB ns.length k=true)/\bW W wr) (fun i _=>((ks.length:Int)-intOf i).toNat)
 case atStart=>exact⟨0,rfl,by omega,fun m k hm=>absurd hm (by omega),By _ _⟩
 case round=>
  obtain⟨j,rfl,hj,d,f⟩:=hrel;have s:=(HQ.out wr f).2.1;by_cases hjn:j<ks.length
  ·have mp:(j:Int)<(ks.length:Int):=by omega
   have m0:(0:Int)<=(j:Int):=by omega
   have O:IntKind.i64.wrap ((j:Int)+1)=(j:Int)+1:=Br _ (by omega);have l:=Bw hjn;generalize ks[j]=kj at l;obtain⟨rfl,Q⟩:=HK.out.2.1 (by omega);have hd:bW W wr.drew:=f.drew;have hq:=HQ.out _ hd;have HA:=xI (aN hj (aN d f));have hc:=zAy kj wr.drew (HT.out _ hd);have a:Hid (∀ wq,Below wr.drew.heap.size wr.drew wq->((jT wq w.heap.size A ns.length c root)/\wq.cell? (aE w 4)=some (vS (some (aD bk ok)) ks.length ck)/\wq.cell? (aD bk (ok+j))=some (vI i6 kj))):=xI fun wq hb=>by
    have h:=HQ.out wq (hd.trans (hb.mono hd.size));exact⟨h.1,h.2.1,h.2.2 j kj l⟩
   clear d f hq;generalize hkn:ks.length=kl at mp s a;have y:=xI hkn;clear hkn;go_wp2_with fail;clear s;refine ub 7 (fun wq=>((jT wq w.heap.size A ns.length c root)/\wq.cell? (aE w 4)=some (vS (some (aD bk ok)) kl ck)/\wq.cell? (aD bk (ok+j))=some (vI i6 kj))) (fun _=>True) ?_;refine oM 0 ⟨a.out _ yR,trivial⟩ ?_;refine oM 1 ⟨a.out _ yR,trivial⟩ ?_;refine oM 2 ⟨a.out _ yR,trivial⟩ ?_;refine oM 3 ⟨a.out _ yR,trivial⟩ ?_;refine oM 4 ⟨a.out _ yR,trivial⟩ ?_;refine oM 5 ⟨a.out _ yR,trivial⟩ ?_;refine uo 6 (fun K hK=>?_);go_simp;refine hc.mono ?_;rintro e w5 ⟨rfl,hb5⟩;clear hc;refine hK _ _ ⟨a.out _ hb5,fun _=>trivial⟩ (oQ ?_);clear hK K;refine uo 7 (fun K hK=>?_);go_simp;refine hK _ _ ⟨a.out _ hb5,fun _=>trivial⟩ (oQ ?_);clear hK K;refine (ud ?_) _;cases hix:idxB ns.length kj with
   | false=>
    rw[B7]at hkids;rw[hkids kj (Bi l)]at hix;exact absurd hix (by decide)
   | true=>
    go_wp2_with fail
    go_roundw
    case rel=>
     refine⟨j+1,by go_num,by omega,fun m k hm hk=>?_,hd.trans (hb5.mono hd.size)⟩;by_cases hmj:m=j
     ·subst hmj;rw[l]at hk;injection hk with hk;rw[<-hk];exact hix
     ·exact HA.out.2.1 m k (by omega) hk
    case measure=>have:=y.out;simp[intOf];omega
  ·have mp:¬ (j:Int)<(ks.length:Int):=by omega
   have F:=HF.out.next f
   obtain⟨n0,n1,n2,n3,n4,n5,n6,n7⟩:=zAe F.n;have P:=fun W=>zEo HK.out.2.2.2.2.2.2.2.1 HK.out.2.2.2.2.2.2.2.2 W;have r:tx.length<=maxLen:=HK.out.2.2.2.2.2.2.1;have HB:=xI F.bel;clear d f F o;have z:=xI hkids;clear HK HQ HT HF hkids;generalize hkn:ks.length=nk at *;generalize hfn:fds.length=nf at *;have HN:=xI (aN hkn hfn);have R:=xI r;clear hkn hfn r;obtain⟨k1,k2,k3,k4,k5,k6,k7,k8,k9,N,M,L,J,I,H,G,E,D,C⟩:=B.out
   all_goals go_wp2
   all_goals go_ret
   all_goals refine⟨?_,HB.out⟩
   all_goals simp only[tnB,useB,formB,z.out,zCb,HN.out.1,HN.out.2,nb0,nb1,nb2]
   all_goals try simp only[Bool.not_eq_true',Bool.not_eq_false',List.isEmpty_iff,List.isEmpty_eq_false_iff,Cw,Be,ne_eq]at *
   all_goals first|(simp[*];done)|(simp_all;done)|(simp_all;omega)|(simp_all [nb0,nb1,nb2];done)|(simp_all [nb0,nb1,nb2];omega)|(simp_all;rw[Dl];simp;omega)
end Go.Proofs.YteedihhdcbepmaaGreat
