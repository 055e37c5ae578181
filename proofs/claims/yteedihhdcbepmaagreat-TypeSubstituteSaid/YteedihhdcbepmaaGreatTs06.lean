/- Appending a whole row; what copies, Tuple .. -/
import Derived.Test.YteedihhdcbepmaaGreatTsZ
import Derived.Test.YteedihhdcbepmaaGreatTs05
set_option maxRecDepth 100000
set_option maxHeartbeats 3200000
set_option linter.all false
open Go.Value renaming slice→vS,int→vI,string→vT
open Go.IntKind renaming i64→i6
open Go.Proofs.Tryz
open Go.Proofs.Tryz renaming prog→tP
namespace Go.Proofs.YteedihhdcbepmaaGreat
open Go Go.RowKit
theorem zKj {w:World}{B:Nat->Prop}{c n cap:Nat}{A:Option Addr}{R:Nat->List Value->Prop}(hc:0<c) (h:RowB w B c (vS A n cap) n R) (hn:0<n) :
  ∃ b off,∃ news:List Value,A=some (aD b off)/\news.length=n*c/\(∀ q u,news[q]?=some u->w.cell? (aD b (off+q))=some u)/\(∀ j,j<n->R j ((news.drop (j*c)).take c))/\∀ u,u∈news->∃ j cs,R j cs/\u∈cs:=by
 obtain⟨A',g,h1,_,h3⟩:=h;obtain⟨b,off,rfl,_,_,h7⟩:=h3 hn;injection h1 with hA _ _;have f:∀ j:Fin n,∃ cs:List Value,cs.length=c/\(∀ i,i<c->w.cell? (aD b (off+j.1*c+i))=cs[i]?)/\R j.1 cs:=fun j=>h7 j.1 j.2;let enc:Fin n->List Value:=fun j=>Classical.choose (f j);have he:∀ j,(enc j).length=c/\(∀ i,i<c->w.cell? (aD b (off+j.1*c+i))=(enc j)[i]?)/\R j.1 (enc j):=fun j=>Classical.choose_spec (f j);have e:∀ j (hj:j<n),(List.finRange n)[j]?=some ⟨j,hj⟩:=fun j hj=>by simp[hj]
 have d:∀ l:List (Fin n),(l.flatMap enc).length=l.length*c:=by
  intro l
  induction l with
  | nil=>simp
  | cons a s ih=>rw[Es,Bd,ih,(he a).1,Cj,C6];omega
 refine⟨b,off,(List.finRange n).flatMap enc,hA,by rw[d,List.length_finRange],fun q u hq=>?_,fun j hj=>?_,fun u hu=>?_⟩
 ·obtain⟨x,hx,hu⟩:=zNu (fun x=>(he x).1) hc hq;have hd:q / c<n:=by have:=(Bx.1 hx).1;simpa using this
  rw[e _ hd]at hx;injection hx with hx;subst hx;have:=(he ⟨q / c,hd⟩).2.1 (q % c) (Nat.mod_lt _ hc);rw[hu,Da,show q / c*c+q % c=q by rw[Nat.mul_comm];exact Nat.div_add_mod q c]at this;exact this
 ·rw[zEo (fun x=>(he x).1) (e j hj)];exact (he ⟨j,hj⟩).2.2
 ·obtain⟨x,_,hx⟩:=List.mem_flatMap.1 hu;exact⟨x.1,enc x,(he x).2.2,hx⟩
theorem zBh {α:Type}(K:ElK α) (t ty:TypeId) (e:TypeId) (i:TypeInfo) (z:Value) (c bytes:Nat) (ht:tP.underlying t=some (.slice e)) (hi:tP.info? e=some i) (hz:i.zero=some z)
  (hsize:i.size=c) (hby:i.bytes=bytes) (hzs:z.cells.size=c) (hc:0<c) (hb8:bytes<=1000) (h1K:∀ x w B cs,K.E x w B cs->∀ u∈cs,u.oneCell'=true)
  (w0:World) (base:Nat) (v:Value) (l:List α) (h:OwnE K e c w0 base v l) (A:Option Addr) (m cap1:Nat) (l':List α) (hm:l'.length=m) (Bs:Nat->Prop)
  (hx:RowB w0 Bs c (vS A m cap1) m (fun j cs=>∃ x,l'[j]?=some x/\K.E x w0 (fun b=>base<=b/\b<w0.heap.size/\some b≠v.ownBlock) cs))
  (hn:l.length+m<=300000000) (hbase:base<=w0.heap.size) :
  ∃ v' w',(Builtin.append_ #[t,t] ty #[v,vS A m cap1]).run tP w0=.ok v' w'/\OwnE K e c w' base v' (l++l')/\Below base w0 w'/\(∀ b,b<w0.heap.size->some b≠v.ownBlock->w'.heap[b]?=w0.heap[b]?)/\(∀ g,v'.ownBlock=some g->v.ownBlock=some g\/w0.heap.size<=g):=by
 subst hm;have r:=h;obtain⟨xs,ho,J⟩:=h;have p:∀ b,v.ownBlock=some b->base<=b/\b<w0.heap.size:=by
  intro b hb;rcases ho.2 with⟨rfl,_⟩|⟨g',U,T,rfl,hB,hg,_⟩
  ·simp[Value.ownBlock]at hb
  ·simp[Value.ownBlock]at hb;subst hb;exact⟨hB,(Cv.1 hg).1⟩
 have n:A=none->l'=[]:=by
  intro hA;rcases Dz l'.length with h0|h0
  ·exact Cf h0
  ·obtain⟨b,I,a,H,_⟩:=zKj hc hx h0;rw[hA]at H;cases H
 rcases A with _|ad
 ·have S:=n rfl;subst S;have hr:(Builtin.append_ #[t,t] ty #[v,vS none 0 cap1]).run tP w0=.ok v w0:=by
   rcases ho.2 with⟨rfl,_⟩|⟨g,cap,T,rfl,_,_,o,_⟩
   ·simp[Builtin.append_,run_underlying ht,sizeOf,typeInfo,hi,Builtin.lenOf,Builtin.firstCells]
   ·simp[Builtin.append_,run_underlying ht,sizeOf,typeInfo,hi,Builtin.lenOf,Builtin.firstCells,o,storeCells]
  exact⟨v,w0,hr,by rw[Do];exact r,Bw _ _,fun _ _ _=>rfl,fun g hg=>.inl hg⟩
 ·obtain⟨a,s,o,C,D⟩:∃ a:List Value,a.length=l'.length*c/\(∀ q u,a[q]?=some u->w0.cell? (ad.add q)=some u)/\(∀ j,j<l'.length->∃ x,l'[j]?=some x/\K.E x w0 (fun b=>base<=b/\b<w0.heap.size/\some b≠v.ownBlock) ((a.drop (j*c)).take c))/\∀ u,u∈a->u.oneCell'=true:=by
   rcases Dz l'.length with h0|h0
   ·exact⟨[],by simp[h0],fun q u h=>by simp at h,fun j hj=>by omega,fun u h=>by cases h⟩
   ·obtain⟨b,I,a,hA,s,o,C,D⟩:=zKj hc hx h0;injection hA with hA;subst hA;exact⟨a,s,fun j u hj=>by rw[zK4];exact o j u hj,C,fun u hu=>by obtain⟨j,cs,⟨x,_,hE⟩,hm⟩:=D u hu;exact h1K x _ _ cs hE u hm⟩
  have F:(l.length+l'.length)*bytes<=140737488355328:=Ba (Nat.mul_le_mul (show l.length+l'.length<=300000001 by omega) hb8) (by decide);obtain⟨v',w',hr,h2,h3,_,h4⟩:=run_append_own_at (P:=tP) (w:=w0) base t ty e i z c bytes ht hi hz hsize hby hzs hc v l.length xs ho ad l'.length cap1 a s o D (by unfold maxLen;omega) F hbase;have d:∀ b,b<w0.heap.size->some b≠v.ownBlock->w'.heap[b]?=w0.heap[b]?:=fun b hb hne=>h3.block b hb hne;have O:=h3.size;have G:Same (fun b=>base<=b/\b<w0.heap.size/\some b≠v.ownBlock) w0 w':=⟨O,fun b i hB hl=>Bi (d b hl hB.2.2)⟩;have f:∀ b,(base<=b/\b<w0.heap.size/\some b≠v.ownBlock)->(base<=b/\b<w'.heap.size/\some b≠v'.ownBlock):=by
   intro b ⟨a1,a2,a3⟩;refine⟨a1,by omega,?_⟩;rcases h4 with h4|h4
   ·rw[h4];exact a3
   ·rw[h4];intro e;injection e with e;omega
  have Q:(l++l').length=l.length+l'.length:=by simp
  refine⟨v',w',hr,⟨xs++a,by rw[Q];exact h2,fun j y hj=>?_⟩,(Bw base w0).grown h3 hbase (fun k hk=>(p k hk).1),d,fun g' hg'=>by
   rcases h4 with h4|h4
   ·exact .inl (h4 ▸ hg')
   ·right;rw[h4]at hg';injection hg' with hg';omega⟩
  have V:j<l.length+l'.length:=by have:=(Bx.1 hj).1;omega
  have L:=ho.1;by_cases hjn:j<l.length
  ·rw[Dt hjn]at hj;have R:(j+1)*c<=l.length*c:=Di c hjn;rw[C6,Nat.one_mul]at R;rw[show ((xs++a).drop (j*c)).take c=(xs.drop (j*c)).take c by rw[List.drop_append_of_le_length (by omega),Fk (by rw[Cc];omega)]];exact K.sub f (K.keep G (J j y hj))
  ·rw[Dw (by omega)]at hj;obtain⟨x,N,M⟩:=C (j-l.length) (by omega);rw[N]at hj;injection hj with hj;subst hj;have hq:j*c=xs.length+(j-l.length)*c:=by rw[L,<-C6,show l.length+(j-l.length)=j by omega]
   rw[hq,List.drop_append,Fy (Nat.le_add_right _ _),Cn,Nat.add_sub_cancel_left];exact K.sub f (K.keep G M)
theorem zBg (k:Nat) (x:Vl) (w:World) (B:Nat->Prop) (cs:List Value) (h:(elV k).E x w B cs):∀ u∈cs,u.oneCell'=true:=by
 obtain⟨a,i,s,A1,n1,c1,A2,n2,c2,A3,n3,c3,A4,n4,c4,rfl⟩:=VB.form7 h;intro u hu;simp only[Cs,List.not_mem_nil,or_false]at hu;rcases hu with rfl|rfl|rfl|rfl|rfl|rfl|rfl<;>rfl
theorem zBt (k:Nat) (x:En) (w:World) (B:Nat->Prop) (cs:List Value) (h:(elE k).E x w B cs):∀ u∈cs,u.oneCell'=true:=by
 obtain⟨a,f,r,_,ua,rs,rfl,⟨A,cap,rfl,_⟩,hr⟩:=h;obtain⟨a,i,s,A1,n1,c1,A2,n2,c2,A3,n3,c3,A4,n4,c4,rfl⟩:=VB.form7 hr;intro u hu;simp only[Cs,List.not_mem_nil,or_false]at hu;rcases hu with rfl|rfl|rfl|rfl|rfl|rfl|rfl|rfl|rfl<;>rfl
theorem zH7 {lo:Nat}{w w':World}(hb:Below lo w w') (hk:∀ b,b<w.heap.size->w'.heap[b]?=w.heap[b]?):bW w w':=⟨hb.os,hb.tape,hb.output,hb.size,hk⟩
abbrev RowV (k lo:Nat) (w:World) (v:Value) (l:List Vl):Prop:=RowB w (Btw lo w.heap.size) 7 v l.length (fun j cs=>∃ x,l[j]?=some x/\VB k w (Btw lo w.heap.size) x cs)
theorem RowV.on {k lo:Nat}{w w':World}{v:Value}{l:List Vl}(h:RowV k lo w v l) (hb:bW w w'):RowV k lo w' v l:=by
 have hs:Same (Btw lo w.heap.size) w w':=.of_below hb fun _ h=>h.2;have a:∀ b,Btw lo w.heap.size b->Btw lo w'.heap.size b:=fun b h=>⟨h.1,by have:=h.2;have:=hb.size;omega⟩;exact (RowB.keep h hs fun _ _ h=>h).sub a fun j cs ⟨x,hx,hv⟩=>⟨x,hx,VB.sub a lR (VB.keep hs hv)⟩
def elVB (k:Nat) (B0:Nat->Prop):ElK Vl:=⟨fun x w B cs=>VB k w (fun b=>B b/\B0 b) x cs,fun h h'=>VB.keep ⟨h.size,fun b i hB hl=>h.cell b i hB.1 hl⟩ h',fun h h'=>VB.sub (fun b hb=>⟨h b hb.1,hb.2⟩) lR h'⟩
theorem zQo (k:Nat) (B0:Nat->Prop) (x:Vl) (w:World) (B:Nat->Prop) (cs:List Value) (h:(elVB k B0).E x w B cs):∀ u∈cs,u.oneCell'=true:=zBg k x w _ cs h
abbrev OwnVB (k:Nat) (B0:Nat->Prop) (w:World) (base:Nat) (v:Value) (l:List Vl):Prop:=OwnE (elVB k B0) 33 7 w base v l
theorem zMa {ops:Array Oper}{rest:List Oper}{o:Oper}{a:Act}{Q:Exit->Act->World->Prop}{w0:World}(hgd:o.guard=none) (s x:Operand)
  (ho:o.op=.call { callee:=.builtin .append,args:=#[s,x],argTypes:=#[28,28] }) (k:Nat) (B0:Nat->Prop) (base:Nat) (v:Value) (l:List Vl) (hs:a.eval s=v) (hown:OwnVB k B0 w0 base v l)
  (A:Option Addr) (m cap1:Nat) (l':List Vl) (hm:l'.length=m) (Bs:Nat->Prop) (hx:a.eval x=vS A m cap1)
  (hR:RowB w0 Bs 7 (vS A m cap1) m (fun j cs=>∃ y,l'[j]?=some y/\(elVB k B0).E y w0 (fun b=>base<=b/\b<w0.heap.size/\some b≠v.ownBlock) cs)) (hn:l.length+m<=300000000) (hbase:base<=w0.heap.size)
  (h:∀ v' w',OwnVB k B0 w' base v' (l++l')->Below base w0 w'->(∀ b,b<w0.heap.size->some b≠v.ownBlock->w'.heap[b]?=w0.heap[b]?)->(∀ g,v'.ownBlock=some g->v.ownBlock=some g\/w0.heap.size<=g)->wpList tP ops Q rest (a.put o.dst v') w') :
  wpList tP ops Q (o::rest) a w0:=by
 obtain⟨i0,hi,e,d,c⟩:=Cp Tryz.infoV;obtain⟨v',w',h1,h2,h3,h4,h5⟩:=zBh (elVB k B0) 28 o.type 33 i0 (.agg nV) 7 128 underlying28 hi e d c rfl (by decide) (by decide) (zQo k B0) w0 base v l hown A m cap1 l' hm Bs hR hn hbase;exact Lib.wpList_append_run _ hgd s x 28 28 ho v _ hs hx _ w' h1 (h v' w' h2 h3 h4 h5)
abbrev RowT (k:Nat) (w:World) (B:Nat->Prop) (B0:Nat->Prop) (v:Value) (l:List Vl):Prop:=RowB w B 7 v l.length (fun j cs=>∃ x,l[j]?=some x/\VB k w B0 x cs)
theorem zLx (k:Nat) (B0:Nat->Prop) (Bs:Nat->Prop) (A:Option Addr) (c:Nat) (l:List Vl) (w:World) (hB:∀ b,B0 b->b<w.heap.size) (hl:RowT k w Bs B0 (vS A l.length c) l) (hn:l.length<=300000000) :
  Calls tP 57 #[vS A l.length c] w fun e w'=>∃ A' c',e=.returned (vS A' l.length c')/\RowT k w' (Btw w.heap.size w'.heap.size) B0 (vS A' l.length c') l/\bW w w':=by
 have HL:=xI hl;clear hl;go_enter func57,ntmps57;go_wp2_with (refine zMa rfl _ _ rfl k B0 0 (vS none 0 0) [] rfl (OwnE.nil _ _ _ _ _) A l.length c l rfl Bs rfl (RowB.sub HL.out (fun _ h=>h) fun j cs ⟨x,hx,hv⟩=>⟨x,hx,VB.sub (fun b h=>⟨⟨Bt _,hB b h,by simp[Value.ownBlock]⟩,h⟩) lR hv⟩) (by simpa using hn) (Bt _) ?_);intro v' w' ho hb hk hg;have a:OwnVB k B0 w' 0 v' l:=ho;obtain⟨A',c',rfl⟩:=a.form;have d:Hid (RowT k w' (Btw w.heap.size w'.heap.size) B0 (vS A' l.length c') l/\bW w w'):=xI (by
  refine⟨?_,zH7 hb fun b hb=>hk b hb (by simp[Value.ownBlock])⟩;obtain⟨xs,f,hx⟩:=a;refine zCu f (by unfold maxLen;omega) (fun g hg1 h1 h2=>⟨(hg g hg1).resolve_left (by simp[Value.ownBlock]),h2⟩) (fun j hj=>⟨l[j],By hj,VB.sub (fun b h=>h.2) lR (hx j _ (By hj))⟩) (by omega))
 clear ho a hb hk hg;go_wp2;go_ret;exact⟨A',c',rfl,d.out⟩
theorem zIn (k lo:Nat) (A:Option Addr) (c:Nat) (l:List Vl) (w:World) (hlo:lo<=w.heap.size) (hl:RowV k lo w (vS A l.length c) l) (hn:l.length<=300000000) :
  Calls tP 15 #[vS A l.length c] w fun e w'=>∃ cs,e=.returned (.agg cs.toArray)/\VB (k+1) w' (Btw lo w'.heap.size) (tupV l) cs/\bW w w':=by
 have d:bW w (w.alloc oG):=yR.alloc lR _;have k0:=Bl w oG;have hc:=zLx k (Btw lo w.heap.size) (Btw lo w.heap.size) A c l _ (fun b h=>Bj h.2 d.size) (RowB.keep hl (.of_below d fun _ h=>h.2) fun j cs ⟨x,hx,hv⟩=>⟨x,hx,VB.keep (.of_below d fun _ h=>h.2) hv⟩) hn;clear hl;go_enter func15,ntmps15;go_wp2_with fail;refine hc.mono ?_;rintro e w1 ⟨A',c',rfl,hr,hb1⟩;clear hc;have k1:w1.heap[w.heap.size]?=some oG:=(hb1.block _ (by simp)).trans k0;have z:bW w w1:=d.trans (hb1.mono (by simp));have HR:=xI (show RowT k w1 (Btw (w.heap.size+1) w1.heap.size) (Btw lo w.heap.size) (vS A' l.length c') l by simpa using hr);have i:w.heap.size+1<=w1.heap.size:=by have:=hb1.size;simpa using this
 clear k0 d hb1 hr;obtain⟨e0,e1,e2,e3,e4,e5,e6⟩:=zAc k1;obtain⟨z0,z1,z2,z3,z4,z5,z6⟩:=zAd k1;go_wp2;refine nW fun V hV=>?_;have y:V.heap[w.heap.size]?=some (oV 6 0 ⟨#[]⟩ A' l.length c' none 0 0 none 0 0 none 0 0):=by rw[hV];exact obj7 k1 (vI i6 6) (vI i6 0) (vT ⟨#[]⟩) (vS A' l.length c') (vS none 0 0) (vS none 0 0) (vS none 0 0)
 have C:bW w V:=by rw[hV];exact Bu (Bu (Bu (Bu (Bu (Bu (Bu (z) (p:=(aH w 0)) lR _) (p:=(aH w 1)) lR _) (p:=(aH w 2)) lR _) (p:=(aH w 3)) lR _) (p:=(aH w 4)) lR _) (p:=(aH w 5)) lR _) (p:=(aH w 6)) lR _
 have f:V.heap.size=w1.heap.size:=by rw[hV];simp
 have m:∀ B:Nat->Prop,¬ B w.heap.size->Same B w1 V:=fun B h=>by rw[hV];exact zAa (zAa (zAa (zAa (zAa (zAa (zAa ((Same.refl _ _)) h) h) h) h) h) h) h
 clear hV e0 z0 e1 z1 e2 z2 e3 z3 e4 z4 e5 z5 e6 z6;obtain⟨u,t,s,r,q,o,n⟩:=zAc y;refine Cw (v:=.agg #[vI i6 6,vI i6 0,vT ⟨#[]⟩,vS A' l.length c',vS none 0 0,vS none 0 0,vS none 0 0]) (by simp[results,results15,go_sem,u,t,s,r,q,o,n]) rfl ?_;have E:V.heap.size=w1.heap.size:=f;have hr:=HR.out;have D:=i;have g:∀ b,Btw (w.heap.size+1) w1.heap.size b->Btw lo V.heap.size b:=fun b h=>⟨by have:=h.1;omega,by have:=h.2;omega⟩;have a:∀ b,Btw lo w.heap.size b->Btw lo V.heap.size b:=fun b h=>⟨h.1,by have:=h.2;omega⟩;refine⟨_,rfl,⟨_,_,_,_,rfl,by decide,by decide,Bt _,RowB.sub (RowB.keep hr (m _ (fun h=>by have:=h.1;omega)) (fun _ _ h=>h)) g ?_,zBv _ _ _ _,zBv _ _ _ _,zBv _ _ _ _⟩,C⟩;rintro j cs ⟨x,hx,hv⟩;exact⟨x,hx,VB.sub a lR (VB.keep (m _ (fun h=>by have:=h.2;omega)) hv)⟩
theorem zCz (k lo:Nat) (u v:Vl) (ca cb:List Value) (w:World) (hlo:lo<=w.heap.size) (ha:VB k w (Btw lo w.heap.size) u ca) (hb:VB k w (Btw lo w.heap.size) v cb) :
  Calls tP 16 #[.agg ca.toArray,.agg cb.toArray] w fun e w'=>∃ cs,e=.returned (.agg cs.toArray)/\VB (k+1) w' (Btw lo w'.heap.size) (consV u v) cs/\bW w w':=by
 obtain⟨a,i,s,B1,n1,d1,B2,n2,d2,B3,n3,d3,B4,n4,d4,rfl⟩:=ha.form7;obtain⟨a',i',s',z,l,r,y,g,p,x,f,o,t,d,n,rfl⟩:=hb.form7;go_enter func16,ntmps16;go_wp2;refine nW fun V hV=>?_;have A:bW w V:=by rw[hV];exact (((yR.alloc lR _).alloc (by simp) _).alloc (by simp;omega) _).alloc (by simp;omega) _
 have hz:V.heap.size=w.heap.size+4:=by rw[hV];simp
 have k4:V.heap[w.heap.size+3]?=some (.cells #[vI i6 a,vI i6 i,vT s,vS B1 n1 d1,vS B2 n2 d2,vS B3 n3 d3,vS B4 n4 d4,vI i6 a',vI i6 i',vT s',vS z l r,vS y g p,vS x f o,vS t d n] 33 (0,0)):=by rw[hV];exact zAg _ (by simp)
 have k3:V.heap[w.heap.size+2]?=some (oV 7 0 ⟨#[]⟩ (some (aD (w.heap.size+1+1+1) 0)) 2 2 none 0 0 none 0 0 none 0 0):=by rw[hV,Bp _ _ _ (by simp)];exact zAg _ (by simp)
 obtain⟨e0,e1,e2,e3,e4,e5,e6⟩:=zAc k3;clear hV;refine Cw (v:=.agg #[vI i6 7,vI i6 0,vT ⟨#[]⟩,vS (some (aD (w.heap.size+1+1+1) 0)) 2 2,vS none 0 0,vS none 0 0,vS none 0 0]) (by simp[results,results16,go_sem,e0,e1,e2,e3,e4,e5,e6]) rfl ?_;have hs:Same (Btw lo w.heap.size) w V:=.of_below A fun _ h=>h.2;have m:∀ b,Btw lo w.heap.size b->Btw lo V.heap.size b:=fun b h=>⟨h.1,by have:=h.2;omega⟩;refine⟨_,rfl,⟨_,_,_,_,rfl,by decide,by decide,Bt _,⟨_,_,rfl,by unfold maxLen;simp,fun _=>⟨w.heap.size+3,0,rfl,⟨by omega,by omega⟩,by omega,fun j hj=>?_⟩⟩,zBv _ _ _ _,zBv _ _ _ _,zBv _ _ _ _⟩,A⟩;have c:∀ q,V.cell? (aD (w.heap.size+3) q)=(#[vI i6 a,vI i6 i,vT s,vS B1 n1 d1,vS B2 n2 d2,vS B3 n3 d3,vS B4 n4 d4,vI i6 a',vI i6 i',vT s',vS z l r,vS y g p,vS x f o,vS t d n]:Array Value)[q]?:=fun q=>Bv k4 q
 match j,hj with
 | 0,_=>
  refine⟨[vI i6 a,vI i6 i,vT s,vS B1 n1 d1,vS B2 n2 d2,vS B3 n3 d3,vS B4 n4 d4],rfl,fun q hq=>?_,u,rfl,VB.sub m lR (VB.keep hs ha)⟩;rw[show 0+0*7+q=q by omega,c]
  match q,hq with
  | 0,_=>rfl
  | 1,_=>rfl
  | 2,_=>rfl
  | 3,_=>rfl
  | 4,_=>rfl
  | 5,_=>rfl
  | 6,_=>rfl
 | 1,_=>
  refine⟨[vI i6 a',vI i6 i',vT s',vS z l r,vS y g p,vS x f o,vS t d n],rfl,fun q hq=>?_,v,rfl,VB.sub m lR (VB.keep hs hb)⟩;rw[show 0+1*7+q=7+q by omega,c]
  match q,hq with
  | 0,_=>rfl
  | 1,_=>rfl
  | 2,_=>rfl
  | 3,_=>rfl
  | 4,_=>rfl
  | 5,_=>rfl
  | 6,_=>rfl
def zB2:Vl->List (List UInt8) | .mk _ _ _ _ _ _ l=>l
def withL (ls:List (List UInt8)):Vl->Vl | .mk k i t v y e _=>.mk k i t v y e ls
def DrawR (k h p:Nat) (w:World) (e:Ending) (w':World):Prop:=
 (∃ v cs,e=.returned (.agg cs.toArray)/\VB k w' (Btw w.heap.size w'.heap.size) v cs/\okV v=true/\sml v)/\SrcOk h p w'/\Eff p w w'
def zOl (k h p:Nat) (w:World) (e:Ending) (w':World):Prop:=
 (∃ v cs,e=.returned (.agg cs.toArray)/\VB k w' (Btw w.heap.size w'.heap.size) v cs/\okV v=true/\sml v/\zB2 v=[])/\SrcOk h p w'/\Eff p w w'
theorem zEf {v:Vl}{ls:List (List UInt8)}(h:okV v=true) (hl:zAj ls=true):okV (withL ls v)=true:=by
 obtain⟨k,i,t,v,y,e,l⟩:=v;unfold okV at h;unfold withL okV;simp only[Cy]at h ⊢;exact⟨⟨⟨⟨hl,h.1.1.1.2⟩,h.1.1.2⟩,h.1.2⟩,h.2⟩
theorem zEc {v:Vl}{ls:List (List UInt8)}(h:sml v) (hl:ls.length<=2):sml (withL ls v):=by
 obtain⟨k,i,t,v,y,e,l⟩:=v;unfold sml at h;unfold withL sml;exact⟨h.1,h.2.1,h.2.2.1,hl,h.2.2.2.2⟩
theorem Eff.same {p:Nat}{w w':World}(h:Eff p w w'){B:Nat->Prop}(hB:∀ b,B b->b≠p):Same B w w':=⟨h.size,fun b _ hb hl=>Bi (h.other b (hB b hb) hl)⟩
theorem zCc {k:Nat}{w:World}{B:Nat->Prop}{v:Vl}{a i:Value}{s u1 u2 u3 u4 ul:Value}{ls:List (List UInt8)}(h:VB k w B v [a,i,s,u1,u2,u3,u4]) (hl:RowB w B 1 ul ls.length (fun j cs=>∃ x,ls[j]?=some x/\cs=[vT ⟨x.toArray⟩]/\x.length<=maxLen)) :
  VB k w B (withL ls v) [a,i,s,u1,u2,u3,ul]:=by
 cases k with
 | zero=>exact h.elim
 | succ k=>
  obtain⟨kd,it,tx,b,c,d,l⟩:=v;obtain⟨uk,uy,ue,e,h1,h2,h3,h4,h5,h6,h7,h8⟩:=h;simp only[Bb,and_true]at h1;obtain⟨rfl,rfl,rfl,rfl,rfl,rfl,rfl⟩:=h1;exact⟨_,_,_,_,rfl,h2,h3,h4,h5,h6,h7,hl⟩
theorem zDs (k h p:Nat) (n:Int) (w:World) (hS:SrcOk h p w) (hv:∀ W,SrcOk h p W->Calls tP 55 #[.pointer (some (aD p 0)),vI i6 n] W (zOl k h p W)) :
  Calls tP 14 #[.pointer (some (aD p 0)),vI i6 n] w (DrawR k h p w):=by
 have E:=hS.lt;have A:bW w (w.alloc oG):=yR.alloc lR _;have P:(w.alloc oG).heap.size=w.heap.size+1:=by simp
 have hc:=hv _ (hS.below A);have k0:=Bl w oG;have F:=Eff.of_below A (Du E);clear hv;go_enter func14,ntmps14;go_wp2_with fail;refine hc.mono ?_;rintro e w1 ⟨⟨v,cs,rfl,hvb,l,j,hlv⟩,hS1,hE1⟩;clear hc;obtain⟨a,i,s,B1,n1,d1,B2,n2,d2,B3,n3,d3,B4,n4,d4,rfl⟩:=hvb.form7;have O:=hE1.size;rw[P]at O hvb;have k1:w1.heap[w.heap.size]?=some oG:=(hE1.other _ (by omega) (by omega)).trans k0;obtain⟨W,hW,d,kW,Y⟩:=aW w1 (oV a i s B1 n1 d1 B2 n2 d2 B3 n3 d3 B4 n4 d4)
 have kr:W.heap[w.heap.size]?=some oG:=(d.block _ (by omega)).trans k1;have D:Eff p w W:=(F.trans hE1).trans (Eff.of_below d (by omega));have f:=VB.keep (Same.of_below d (B:=Btw (w.heap.size+1) w1.heap.size) fun _ h=>h.2) hvb;have hl:=zDn h p W (hS1.below d);have HA:=xI (aN l (aN j (aN D f)));clear A k0 F hvb l j hlv hS1 hE1 k1 d D f hS;go_wp2_with fail;rw[<-hW];clear hW;refine hl.mono ?_;rintro e w3 ⟨⟨LA,ln,lc,ls,rfl,m,y,o,hlN,q⟩,C,c⟩;clear hl;have aa:=c.size;have m0:w3.heap[w.heap.size]?=some oG:=(c.other _ (by omega) (by omega)).trans kr;have m5:w3.heap[w1.heap.size]?=some (oV a i s B1 n1 d1 B2 n2 d2 B3 n3 d3 B4 n4 d4):=(c.other _ (by omega) (by omega)).trans kW;have HB:=xI (aN m (aN y (aN o (aN q (aN C c)))));clear kr kW q C c hlN o y m;obtain⟨e0,e1,e2,e3,e4,e5,e6⟩:=zAc m0;obtain⟨z0,z1,z2,z3,z4,z5,z6⟩:=zAd m0;have g0:w3.cell? (aH w1 0)=some (vI i6 a):=cH m5 0;have g1:w3.cell? (aH w1 1)=some (vI i6 i):=cH m5 1;have g2:w3.cell? (aH w1 2)=some (vT s):=cH m5 2;have g3:w3.cell? (aH w1 3)=some (vS B1 n1 d1):=cH m5 3;have g4:w3.cell? (aH w1 4)=some (vS B2 n2 d2):=cH m5 4;have g5:w3.cell? (aH w1 5)=some (vS B3 n3 d3):=cH m5 5;have g6:w3.cell? (aH w1 6)=some (vS B4 n4 d4):=cH m5 6;have y6:=Bz m5 6;have ab:¬ w1.heap.size=w.heap.size:=by omega
 have u:¬ w.heap.size=w1.heap.size:=by omega
 go_wp2;refine nW fun V hV=>?_;have N:(w3.setCell (aH w1 6) (vS LA ln lc)).heap[w.heap.size]?=some oG:=(Bq _ _ _ _ u).trans m0;have U:V.heap[w.heap.size]?=some (oV a i s B1 n1 d1 B2 n2 d2 B3 n3 d3 LA ln lc):=by rw[hV];exact obj7 N (vI i6 a) (vI i6 i) (vT s) (vS B1 n1 d1) (vS B2 n2 d2) (vS B3 n3 d3) (vS LA ln lc)
 have z:SrcOk h p V/\Eff p w V:=by
  obtain⟨q1,q2⟩:=zBe (g:=w1.heap.size) (i:=6) (x:=vS LA ln lc) HB.out.2.2.2.2.1 (HA.out.2.2.1.trans HB.out.2.2.2.2.2) (by omega) (by omega);rw[hV];exact zB9 q1 q2 lR E _ _ _ _ _ _ _
 have Z:V.heap.size=w3.heap.size:=by rw[hV];simp
 have r:∀ B:Nat->Prop,¬ B w.heap.size->¬ B w1.heap.size->Same B w3 V:=fun B h h'=>by
  have t:Same B w3 (w3.setCell (aH w1 6) (vS LA ln lc)):=zAa (Same.refl _ _) h';rw[hV];exact zAa (zAa (zAa (zAa (zAa (zAa (zAa (t) h) h) h) h) h) h) h
 clear hV e0 z0 e1 z1 e2 z2 e3 z3 e4 z4 e5 z5 e6 z6 g0 g1 g2 g3 g4 g5 g6 y6;obtain⟨M,L,K,J,I,H,G⟩:=zAc U;refine Cw (v:=.agg #[vI i6 a,vI i6 i,vT s,vS B1 n1 d1,vS B2 n2 d2,vS B3 n3 d3,vS LA ln lc]) (by simp[results,results14,go_sem,M,L,K,J,I,H,G]) rfl ?_;obtain⟨l,j,D,f⟩:=HA.out;obtain⟨m,y,o,q,C,c⟩:=HB.out;subst m;have T:=VB.keep (c.same (B:=Btw (w.heap.size+1) w1.heap.size) fun b hb=>by have:=hb.1;omega) f;have S:VB k w3 (fun b=>Btw (w.heap.size+1) w3.heap.size b/\b≠w1.heap.size) v _:=VB.sub (fun b hb=>⟨⟨hb.1,by have:=hb.2;omega⟩,by have:=hb.2;omega⟩) lR T;have X:RowB w3 (fun b=>Btw (w.heap.size+1) w3.heap.size b/\b≠w1.heap.size) 1 (vS LA ls.length lc) ls.length _:=RowB.sub q (fun b hb=>⟨⟨by have:=hb.1;omega,hb.2⟩,by have:=hb.1;omega⟩) (fun _ _ h=>h);have R:=zCc S X;have Q:=VB.keep (r _ (fun h=>by have:=h.1.1;omega) (fun h=>h.2 rfl)) R;exact⟨⟨withL ls v,_,rfl,VB.sub (fun b hb=>⟨by have:=hb.1.1;omega,by have:=hb.1.2;omega⟩) lR Q,zEf l o,zEc j (by omega)⟩,z⟩
theorem zF4 {α:Type}{c:α->α->Int}{x:α}:∀ {l:List α}{p:Nat},p<=l.length->(∀ y∈l.take p,c y x<0)->(∀ y,l[p]?=some y->¬ c y x<0/\c y x≠0)->ins c x l=l.take p++x::l.drop p
 | [],p,hp,_,_=>by
  have:p=0:=by simpa using hp
  subst this;rfl
 | a::l,0,_,_,hh=>by
  obtain⟨h1,h2⟩:=hh a (by simp);unfold ins;rw[if_neg h1,if_neg h2];rfl
 | a::l,p+1,hp,hl,hh=>by
  unfold ins;rw[if_pos (hl a (by simp)),zF4 (l:=l) (p:=p) (by simpa using hp) (fun y hy=>hl y (by simp[hy])) (fun y hy=>hh y (by simpa using hy))];rfl
theorem zHz {α:Type}{c:α->α->Int}{x:α}:∀ {l:List α}{p:Nat}{y:α},(∀ y∈l.take p,c y x<0)->l[p]?=some y->c y x=0->ins c x l=l
 | [],p,y,_,h,_=>by simp at h
 | a::l,0,y,_,h,h0=>by
  simp only[D0,Cq]at h;subst h;unfold ins;rw[if_neg (by omega),if_pos h0]
 | a::l,p+1,y,hl,h,h0=>by
  unfold ins;rw[if_pos (hl a (by simp)),zHz (l:=l) (p:=p) (fun y hy=>hl y (by simp[hy])) (by simpa using h) h0]
theorem zBr {α:Type}{c:α->α->Int}{l:List α}{k:Nat}{s:α}(hs:l[k]?=some s):srtC c (l.take (k+1))=ins c s (srtC c (l.take k)):=by
 rw[Cr,hs];simp[srtC,List.foldl_append]
theorem zFc {α:Type}{c:α->α->Int}(l:List α):(srtC c l).length<=l.length:=by
 have hi:∀ (x:α) (m:List α),(ins c x m).length<=m.length+1:=by
  intro x m
  induction m with
  | nil=>simp[ins]
  | cons a m ih=>
   unfold ins;split
   ·simp;omega
   ·split<;>simp
 have hf:∀ (l m:List α),(l.foldl (fun acc x=>ins c x acc) m).length<=m.length+l.length:=by
  intro l
  induction l with
  | nil=>intro m;simp
  | cons a l ih=>
   intro m;rw[Dn];have:=ih (ins c a m);have:=hi a m;rw[Cj];omega
 simpa [srtC] using hf l []
def elC {α:Type}(Pr:α->List Value->Prop):ElK α:=⟨fun x _ _ cs=>Pr x cs,fun _ h=>h,fun _ h=>h⟩
theorem zE4 (k:Nat) (u v:Vl) (ca cb:List Value) (w:World) (ha:VS k w w.heap.size u ca) (hb:VS k w w.heap.size v cb):Calls tP 145 #[.agg ca.toArray,.agg cb.toArray] w fun e w'=>e=.returned (.bool (decide (cmpV u v=0)))/\bW w w':=by
 obtain⟨a,i,s,B1,n1,d1,B2,n2,d2,B3,n3,d3,B4,n4,d4,rfl⟩:=ha.form7;obtain⟨a',i',s',t,g,n,q,f,m,p,d,l,o,c,j,rfl⟩:=hb.form7;obtain⟨W,hW⟩:∃ W,W=(w.alloc (oV a i s B1 n1 d1 B2 n2 d2 B3 n3 d3 B4 n4 d4)).alloc (oV a' i' s' t g n q f m p d l o c j):=⟨_,rfl⟩;have b:bW w W:=by rw[hW];exact (yR.alloc lR _).alloc (by simp) _
 have q0:W.cell? (aH w 0)=some (vI i6 a):=by rw[hW];simp
 have q1:W.cell? (aH w 1)=some (vI i6 i):=by rw[hW];simp
 have q2:W.cell? (aH w 2)=some (vT s):=by rw[hW];simp
 have q3:W.cell? (aH w 3)=some (vS B1 n1 d1):=by rw[hW];simp
 have q4:W.cell? (aH w 4)=some (vS B2 n2 d2):=by rw[hW];simp
 have q5:W.cell? (aH w 5)=some (vS B3 n3 d3):=by rw[hW];simp
 have q6:W.cell? (aH w 6)=some (vS B4 n4 d4):=by rw[hW];simp
 have r0:W.cell? (aE w 0)=some (vI i6 a'):=by rw[hW];simp
 have r1:W.cell? (aE w 1)=some (vI i6 i'):=by rw[hW];simp
 have r2:W.cell? (aE w 2)=some (vT s'):=by rw[hW];simp
 have r3:W.cell? (aE w 3)=some (vS t g n):=by rw[hW];simp
 have r4:W.cell? (aE w 4)=some (vS q f m):=by rw[hW];simp
 have r5:W.cell? (aE w 5)=some (vS p d l):=by rw[hW];simp
 have r6:W.cell? (aE w 6)=some (vS o c j):=by rw[hW];simp
 have hc:=zCk k u v _ _ W (VS.up b.size lR (VS.on b ha)) (VS.up b.size lR (VS.on b hb));have HB:=xI b;clear ha hb b;generalize hz:decide (cmpV u v=0)=r;have HZ:=xI hz;clear hz;generalize cmpV u v=z at hc HZ;go_enter func145,ntmps145;go_wp2_with fail;rw[<-hW];clear hW;go_wp2_with (go_at_call 171;refine hc.mono ?_;rintro e w1 ⟨rfl,hb1⟩;refine Hid.out ?_);refine xI ?_;clear hc;go_wp2;go_ret;exact⟨zAb (by rw[<-HZ.out];by_cases h:z=0<;>simp[h]),HB.out.trans (hb1.mono HB.out.size)⟩
theorem zKz (z:Int):(z==0)=decide (z=0):=by
 by_cases h:z=0
 ·simp[h]
 ·rw[Ci h,Cm];exact h
theorem zFs {w:World}{B:Nat}{v:Value}{ls:List (List UInt8)}(ho:OwnN w B v ls) (hs:Short ls) (hn:ls.length<=maxLen):RowB w (Btw B w.heap.size) 1 v ls.length (fun j cs=>∃ x,ls[j]?=some x/\cs=[vT ⟨x.toArray⟩]/\x.length<=maxLen):=by
 refine zCu ho hn (fun g _ h1 h2=>⟨h1,h2⟩) (fun j hj=>⟨ls[j],By hj,?_,hs _ (Cx hj)⟩) (by omega);apply Dq;intro i
 match i with
 | 0=>rw[Co (by omega),C7];simp[encStr,By hj]
 | i+1=>rw[List.getElem?_take_eq_none (by omega),Ce (by simp)]
theorem zFp {ss:List Strg}(h:Short ss):Short (srt ss):=fun x hx=>h x ((zBq ss x).1 hx)
theorem zCn (k lo:Nat) (v:Vl) (cs:List Value) (A:Option Addr) (n c:Nat) (ss:List Strg) (w:World) (hlo:lo<=w.heap.size) (hv:VB k w (Btw lo w.heap.size) v cs) (hR:NmS w w.heap.size A n ss) (hn:n<=1000000) :
  Calls tP 136 #[.agg cs.toArray,vS A n c] w fun e w'=>∃ cs',e=.returned (.agg cs'.toArray)/\VB k w' (Btw lo w'.heap.size) (withL (srt ss) v) cs'/\bW w w':=by
 obtain⟨a,i,s,B1,n1,d1,B2,n2,d2,B3,n3,d3,B4,n4,d4,rfl⟩:=hv.form7;obtain⟨W,hW⟩:∃ W,W=(w.alloc (oV a i s B1 n1 d1 B2 n2 d2 B3 n3 d3 B4 n4 d4)).alloc oG:=⟨_,rfl⟩;have f:bW w W:=by rw[hW];exact (yR.alloc lR _).alloc (by simp) _
 have N:W.heap.size=w.heap.size+2:=by rw[hW];simp
 have k1:W.heap[w.heap.size]?=some (oV a i s B1 n1 d1 B2 n2 d2 B3 n3 d3 B4 n4 d4):=by rw[hW,Bp _ _ _ (by simp)];exact Bl w _
 have k2:W.heap[w.heap.size+1]?=some oG:=by rw[hW];exact zAg _ (by simp)
 have hc:=zBo A n c ss W ((hR.below f).mono f.size) hn;have g:=VB.keep (Same.of_below f (B:=Btw lo w.heap.size) fun _ h=>h.2) hv;have m:=xI (zFp hR.2.1);have J:=xI (Ba (zB4 ss) (by have:=hR.1;omega:ss.length<=1000000));have HA:=xI (aN f g);clear hv hR f g;go_enter func136,ntmps136;go_wp2_with fail;rw[<-hW];clear hW;refine hc.mono ?_;rintro e w3 ⟨LA,lc,rfl,ho,d⟩;clear hc;have P:=d.size;have m5:w3.heap[w.heap.size]?=some (oV a i s B1 n1 d1 B2 n2 d2 B3 n3 d3 B4 n4 d4):=(d.block _ (by omega)).trans k1;have m0:w3.heap[w.heap.size+1]?=some oG:=(d.block _ (by omega)).trans k2;have HB:=xI (aN (zFs ho m.out (by have:=J.out;unfold maxLen;omega)) d);generalize hL:(srt ss).length=ln;rw[hL]at HB;have HL:=xI hL;clear ho d k1 k2 hL m;obtain⟨e0,e1,e2,e3,e4,e5,e6⟩:=zAc m0;obtain⟨z0,z1,z2,z3,z4,z5,z6⟩:=zAd m0;have g0:w3.cell? (aH w 0)=some (vI i6 a):=cH m5 0;have g1:w3.cell? (aH w 1)=some (vI i6 i):=cH m5 1;have g2:w3.cell? (aH w 2)=some (vT s):=cH m5 2;have g3:w3.cell? (aH w 3)=some (vS B1 n1 d1):=cH m5 3;have g4:w3.cell? (aH w 4)=some (vS B2 n2 d2):=cH m5 4;have g5:w3.cell? (aH w 5)=some (vS B3 n3 d3):=cH m5 5;have g6:w3.cell? (aH w 6)=some (vS B4 n4 d4):=cH m5 6;have y6:=Bz m5 6;have I:¬ w.heap.size+1=w.heap.size:=by omega
 have H:¬ w.heap.size=w.heap.size+1:=by omega
 go_wp2;refine nW fun V hV=>?_;have z:(w3.setCell (aH w 6) (vS LA ln lc)).heap[w.heap.size+1]?=some oG:=(Bq _ _ _ _ I).trans m0;have G:V.heap[w.heap.size+1]?=some (oV a i s B1 n1 d1 B2 n2 d2 B3 n3 d3 LA ln lc):=by rw[hV];exact obj7 z (vI i6 a) (vI i6 i) (vT s) (vS B1 n1 d1) (vS B2 n2 d2) (vS B3 n3 d3) (vS LA ln lc)
 have M:bW w V:=by rw[hV];exact Bu (Bu (Bu (Bu (Bu (Bu (Bu ((HA.out.1.trans (HB.out.2.mono HA.out.1.size)).setCell (p:=(aH w 6)) lR _) (p:=(aE w 0)) (Cg _) _) (p:=(aE w 1)) (Cg _) _) (p:=(aE w 2)) (Cg _) _) (p:=(aE w 3)) (Cg _) _) (p:=(aE w 4)) (Cg _) _) (p:=(aE w 5)) (Cg _) _) (p:=(aE w 6)) (Cg _) _
 have O:V.heap.size=w3.heap.size:=by rw[hV];simp
 have j:∀ B:Nat->Prop,¬ B (w.heap.size+1)->¬ B w.heap.size->Same B w3 V:=fun B h h'=>by
  have l:Same B w3 (w3.setCell (aH w 6) (vS LA ln lc)):=zAa (Same.refl _ _) h';rw[hV];exact zAa (zAa (zAa (zAa (zAa (zAa (zAa (l) h) h) h) h) h) h) h
 clear hV e0 z0 e1 z1 e2 z2 e3 z3 e4 z4 e5 z5 e6 z6 g0 g1 g2 g3 g4 g5 g6 y6;obtain⟨y,x,u,t,r,q,o⟩:=zAc G;refine Cw (v:=.agg #[vI i6 a,vI i6 i,vT s,vS B1 n1 d1,vS B2 n2 d2,vS B3 n3 d3,vS LA ln lc]) (by simp[results,results136,go_sem,y,x,u,t,r,q,o]) rfl ?_;obtain⟨f,g⟩:=HA.out;obtain⟨K,d⟩:=HB.out;have hL:=HL.out;subst hL;have F:=VB.keep (Same.of_below d (B:=Btw lo w.heap.size) fun b hb=>by have:=hb.2;omega) g;have E:VB k w3 (fun b=>Btw lo w3.heap.size b/\b≠w.heap.size/\b≠w.heap.size+1) v _:=VB.sub (fun b hb=>⟨⟨hb.1,by have:=hb.2;omega⟩,by have:=hb.2;omega,by have:=hb.2;omega⟩) lR F;have L:RowB w3 (fun b=>Btw lo w3.heap.size b/\b≠w.heap.size/\b≠w.heap.size+1) 1 (vS LA (srt ss).length lc) (srt ss).length _:=RowB.sub K (fun b hb=>⟨⟨by have:=hb.1;omega,hb.2⟩,by have:=hb.1;omega,by have:=hb.1;omega⟩) (fun _ _ h=>h);have D:=zCc E L;have C:=VB.keep (j _ (fun h=>h.2.2 rfl) (fun h=>h.2.1 rfl)) D;exact⟨_,rfl,VB.sub (fun b hb=>⟨hb.1.1,by have:=hb.1.2;omega⟩) lR C,M⟩
def zG2:Vl->Int | .mk _ i _ _ _ _ _=>i
def zMn:Vl->List UInt8 | .mk _ _ t _ _ _ _=>t
def zDt:Vl->List Vl | .mk _ _ _ v _ _ _=>v
def zNj:Vl->List (Int×List UInt8) | .mk _ _ _ _ y _ _=>y
def zNz:Vl->List En | .mk _ _ _ _ _ e _=>e
def labsV:Vl->List (List UInt8) | .mk _ _ _ _ _ _ l=>l
def zA7 (c:Vl->Nat->Bool) (l:List Vl) (ks:List Int):Bool:=decide (l.length=ks.length)&&(l.zip ks).all fun p=>c p.1 p.2.toNat
def toOf (x:Tn) (k:Int×List UInt8):Int:=match x.fds.find? (fun f=>decide (f.key=k))with
 | some f=>f.node
 | none=>if k.1=0 then x.r0 else x.r1
def mapMC (c:Vl->Nat->Bool) (v:Vl) (x:Tn):Bool:=x.fds.all (fun f=>f.opt||(zNj v).any (fun k=>decide (k=f.key)))&&((zNj v).zip (zDt v)).all fun p=>c p.2 (toOf x p.1).toNat
def entMC (c:Vl->Nat->Bool) (x:Tn) (e:En):Bool:=!zA7 c (zHc e) (x.kids.take (x.kids.length-1))||(!zH3 e&&c (resOf e) ((x.kids[x.kids.length-1]?).getD 0).toNat)
def funMC (c:Vl->Nat->Bool) (v:Vl) (x:Tn):Bool:=decide (zG2 v=(x.kids.length:Int)-1)&&(zNz v).all (entMC c x)
def memS (c:Vl->Nat->Bool) (x:Tn) (v:Vl):Bool:=
 if x.kind=2 then true
 else if x.kind=3 then decide (zAn v=1)&&(decide (x.lo<=zG2 v)&&decide (zG2 v<=x.hi))
 else if x.kind=4 then decide (zAn v=2)&&decide (zMn v=x.text)
 else if x.kind=5 then decide (zAn v=2)
 else if x.kind=6 then decide (zAn v=3)&&decide (zMn v=x.text)
 else if x.kind=7 then decide (zAn v=3)
 else if x.kind=8 then decide (zAn v=4)
 else if x.kind=9 then decide (zAn v=5)
 else if x.kind=11 then decide (zAn v=6)
 else if x.kind=15 then decide (zAn v=9)
 else if x.kind=10 then decide (zAn v=6)&&zA7 c (zDt v) x.kids
 else if x.kind=12 then decide (zAn v=7)&&zA7 c (zDt v) x.kids
 else if x.kind=13 then decide (zAn v=8)&&mapMC c v x
 else if x.kind=14 then decide (zAn v=9)&&funMC c v x
 else if x.kind=16 then x.kids.any fun k=>c v k.toNat
 else if x.kind=17 then x.kids.all fun k=>c v k.toNat
 else if x.kind=18 then !c v ((x.kids[0]?).getD 0).toNat
 else if x.kind=19 then (labsV v).any fun l=>decide (l=x.text)
 else false
def mem (ns:List Tn):Nat->Vl->Nat->Bool
 | 0,_,_=>false
 | u+1,v,k=>match ns[k]? with
  | some x=>memS (mem ns u) x v
  | none=>false
structure Wf (ns:List Tn):Prop where
 node:∀ x∈ns,tnB ns.length x=true
 ctr:Ctr ns
theorem Wf.edg {ns:List Tn}(h:Wf ns):EdgOk ns:=zKw h.node
theorem Wf.of_zero {ns:List Tn}{r:Int}(h:wfC ns r=0):Wf ns/\0<=r/\r<ns.length:=by
 have h:=zKd.1 h;have h1:=h.1;simp only[idxB,Cy,Bf]at h1;exact⟨⟨h.2.1,h.2.2⟩,h1⟩
open Classical in
noncomputable def rk (ns:List Tn) (k:Nat):Nat:=
 match ns[k]? with
 | some x=>if conn x=true then (if h:Ctr ns then Classical.choose h k else 0)+1 else 0
 | none=>0
noncomputable def rkM (ns:List Tn):Nat:=((List.range ns.length).map (rk ns)).sum+1
noncomputable def fu (ns:List Tn) (v:Vl) (k:Nat):Nat:=dep v*rkM ns+rk ns k+1
noncomputable def memB (ns:List Tn) (v:Vl) (k:Nat):Bool:=mem ns (fu ns v k) v k
theorem rk_lt {ns:List Tn}(k:Nat):rk ns k<rkM ns:=by
 by_cases hk:k<ns.length
 ·have:=zCb (Ep (f:=rk ns) (List.mem_range.2 hk));unfold rkM;omega
 ·unfold rk;rw[Ce (by omega)];exact Nat.succ_pos _
theorem zIl {ns:List Tn}(hc:Ctr ns){k:Nat}{x:Tn}(hx:ns[k]?=some x) (hcx:conn x=true){i:Int}(hi:i∈x.kids):rk ns i.toNat<rk ns k:=by
 unfold rk;rw[hx];simp only[hcx,if_true,dif_pos hc];cases hy:ns[i.toNat]? with
 | none=>simp
 | some y=>
  by_cases hcy:conn y=true
  ·simp only[hcy,if_true];have:=Classical.choose_spec hc k x hx hcx i hi y hy hcy;omega
  ·simp[hcy]
theorem zF7 {ns:List Tn}{v v':Vl}(k k':Nat) (h:dep v'<dep v):fu ns v' k'<fu ns v k:=by
 have h1:=rk_lt (ns:=ns) k';have h2:=Di (rkM ns) (show dep v'+1<=dep v from h);rw[C6,Nat.one_mul]at h2;unfold fu;omega
theorem zGc {v x:Vl}(h:x∈zDt v):dep x<dep v:=by
 obtain⟨k,i,t,vs,y,e,l⟩:=v;have:=zGd (show x∈vs from h);simp only[dep];omega
theorem zN5 {v x:Vl}{e:En}(he:e∈zNz v) (h:x∈zHc e):dep x<dep v:=by
 obtain⟨k,i,t,vs,y,es,l⟩:=v;obtain⟨a,f,r⟩:=e;have h1:=zGe (show En.mk a f r∈es from he);have h2:=zGd (show x∈a from h);simp only[depE]at h1;simp only[dep];omega
theorem zN4 {v:Vl}{e:En}(he:e∈zNz v):dep (resOf e)<dep v:=by
 obtain⟨k,i,t,vs,y,es,l⟩:=v;obtain⟨a,f,r⟩:=e;have h1:=zGe (show En.mk a f r∈es from he);simp only[depE]at h1;simp only[dep,resOf];omega
theorem zCh {α:Type}{l:List α}{p q:α->Bool}(h:∀ x∈l,p x=q x):l.all p=l.all q:=by
 induction l with
 | nil=>rfl
 | cons a l ih=>rw[De,De,h a (Ca ..),ih fun x hx=>h x (C0 _ hx)]
theorem zJc {α:Type}{l:List α}{p q:α->Bool}(h:∀ x∈l,p x=q x):l.any p=l.any q:=by
 induction l with
 | nil=>rfl
 | cons a l ih=>rw[List.any_cons,List.any_cons,h a (Ca ..),ih fun x hx=>h x (C0 _ hx)]
theorem zE5 {c c':Vl->Nat->Bool}{l:List Vl}{ks:List Int}(h:∀ x∈l,∀ k∈ks,c x k.toNat=c' x k.toNat):zA7 c l ks=zA7 c' l ks:=by
 unfold zA7;rw[zCh fun p hp=>h p.1 (List.of_mem_zip hp).1 p.2 (List.of_mem_zip hp).2]
theorem zHl (x:Tn) (hx:x.kind=13) (k:Int×List UInt8):toOf x k∈edg x:=by
 unfold toOf edg;rw[if_pos hx];cases hf:x.fds.find? (fun f=>decide (f.key=k))with
 | some f=>exact List.mem_append_left _ (List.mem_append_right _ (Ep (List.mem_of_find?_eq_some hf)))
 | none=>
  simp only;split<;>simp
theorem zGy {c c':Vl->Nat->Bool}{n:Nat}{x:Tn}{v:Vl}(hx:tnB n x=true) (h1:conn x=true->∀ k∈x.kids,c v k.toNat=c' v k.toNat) (h2:∀ v',dep v'<dep v->∀ k∈edg x,c v' k.toNat=c' v' k.toNat):memS c x v=memS c' x v:=by
 have hk:∀ k∈x.kids,k∈edg x:=fun k hk=>by unfold edg;simp[hk]
 have hm:zA7 c (zDt v) x.kids=zA7 c' (zDt v) x.kids:=zE5 fun y hy k hk'=>h2 y (zGc hy) k (hk k hk');unfold memS;rw[hm];by_cases e13:x.kind=13
 ·have:mapMC c v x=mapMC c' v x:=by
   unfold mapMC;rw[zCh (l:=(zNj v).zip (zDt v)) fun p hp=>h2 p.2 (zGc (List.of_mem_zip hp).2) _ (zHl x e13 p.1)]
  rw[this];simp[e13]
 by_cases e14:x.kind=14
 ·have a:1<=x.kids.length:=by
   simp only[tnB,Cy]at hx;have:=hx.2;unfold formB at this;simp[e14]at this;exact this.1
  have:funMC c v x=funMC c' v x:=by
   unfold funMC;rw[zCh fun e he=>?_];unfold entMC;rw[zE5 fun y hy k hk'=>h2 y (zN5 he hy) k (hk k (Ey hk')),h2 _ (zN4 he) _ (hk _ (by
    rw[By (by omega)];exact Cx _))]
  rw[this];simp[e14]
 by_cases ec:conn x=true
 ·have h:=h1 ec;have h3:(x.kids.any fun k=>c v k.toNat)=x.kids.any fun k=>c' v k.toNat:=zJc h;have h4:(x.kids.all fun k=>c v k.toNat)=x.kids.all fun k=>c' v k.toNat:=zCh h;rw[h3,h4];by_cases e18:x.kind=18
  ·have a:x.kids.length=1:=by
    simp only[tnB,Cy]at hx;have:=hx.2;unfold formB at this;simpa [e18] using this
   rw[h ((x.kids[0]?).getD 0) (by
    rw[By (by omega)];exact Cx _)]
   simp[e18]
  ·simp[e13,e14,e18]
 ·unfold conn at ec;simp only[Bf,not_or]at ec;simp[e13,e14,ec]
theorem zDl {ns:List Tn}(hw:Wf ns):∀ (m:Nat) (v:Vl) (k u:Nat),fu ns v k<=m->fu ns v k<=u->mem ns u v k=memB ns v k:=by
 intro m
 induction m with
 | zero=>intro v k u h;unfold fu at h;omega
 | succ m ih=>
  intro v k u hm hu;unfold memB;obtain⟨a,rfl⟩:∃ a,u=a+1:=⟨u-1,by unfold fu at hu;omega⟩;obtain⟨b,hb⟩:∃ b,fu ns v k=b+1:=⟨fu ns v k-1,by unfold fu;omega⟩;rw[hb];unfold mem;cases hx:ns[k]? with
  | none=>rfl
  | some x=>
   simp only;refine zGy (hw.node x (Bh hx)) (fun hc i hi=>?_) (fun v' hv' i hi=>?_)
   ·have h1:=zIl hw.ctr hx hc hi;have h2:fu ns v i.toNat<fu ns v k:=by unfold fu;omega
    rw[ih v i.toNat a (by omega) (by omega),ih v i.toNat b (by omega) (by omega)]
   ·have h2:=zF7 (ns:=ns) k i.toNat hv';rw[ih v' i.toNat a (by omega) (by omega),ih v' i.toNat b (by omega) (by omega)]
theorem zBn {ns:List Tn}(hw:Wf ns){k:Nat}{x:Tn}(hx:ns[k]?=some x) (v:Vl):memB ns v k=memS (memB ns) x v:=by
 obtain⟨b,hb⟩:∃ b,fu ns v k=b+1:=⟨fu ns v k-1,by unfold fu;omega⟩;unfold memB;rw[hb];show mem ns (b+1) v k=memS (memB ns) x v;unfold mem;rw[hx];simp only;refine zGy (hw.node x (Bh hx)) (fun hc i hi=>?_) (fun v' hv' i hi=>?_)
 ·have h1:=zIl hw.ctr hx hc hi;have h2:fu ns v i.toNat<fu ns v k:=by unfold fu;omega
  exact zDl hw _ v i.toNat b lR (by omega)
 ·have h2:=zF7 (ns:=ns) k i.toNat hv';exact zDl hw _ v' i.toNat b lR (by omega)
end Go.Proofs.YteedihhdcbepmaaGreat
