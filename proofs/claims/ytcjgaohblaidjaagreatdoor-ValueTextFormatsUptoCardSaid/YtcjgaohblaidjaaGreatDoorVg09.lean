/- Appending a whole row; what copies, Tuple and Cons of the document return. -/
import Derived.Test.YtcjgaohblaidjaaGreatDoorVgZ
import Derived.Test.YtcjgaohblaidjaaGreatDoorVg01
import Derived.Test.YtcjgaohblaidjaaGreatDoorVg02
import Derived.Test.YtcjgaohblaidjaaGreatDoorVg08
set_option maxRecDepth 100000
set_option maxHeartbeats 3200000
namespace Go.Proofs.YtcjgaohblaidjaaGreatDoor
open Go Go.RowKit
theorem zLy {w:World}{B:Nat→Prop}{c n cap:Nat}{A:Option Addr}{R:Nat→List Value→Prop}(hc:0<c) (h:RowB w B c (.slice A n cap) n R) (hn:0<n) :
  ∃ b off,∃ news:List Value,A=some ⟨b,off,none⟩∧news.length=n*c∧(∀ q u,news[q]?=some u→w.cell? ⟨b,off+q,none⟩=some u)∧(∀ j,j<n→R j ((news.drop (j*c)).take c))∧∀ u,u∈news→∃ j cs,R j cs∧u∈cs:=by
 obtain⟨A',cap',h1,_,h3⟩:=h;obtain⟨b,off,rfl,_,_,h7⟩:=h3 hn;injection h1 with hA _ _;have hch:∀ j:Fin n,∃ cs:List Value,cs.length=c∧(∀ i,i<c→w.cell? ⟨b,off+j.1*c+i,none⟩=cs[i]?)∧R j.1 cs:=fun j=>h7 j.1 j.2;let enc:Fin n→List Value:=fun j=>Classical.choose (hch j);have he:∀ j,(enc j).length=c∧(∀ i,i<c→w.cell? ⟨b,off+j.1*c+i,none⟩=(enc j)[i]?)∧R j.1 (enc j):=fun j=>Classical.choose_spec (hch j);have hfr:∀ j (hj:j<n),(List.finRange n)[j]?=some ⟨j,hj⟩:=fun j hj=>by simp[hj]
 have hlen:∀ l:List (Fin n),(l.flatMap enc).length=l.length*c:=by
  intro l
  induction l with
  | nil=>simp
  | cons a s ih=>rw[List.flatMap_cons,List.length_append,ih,(he a).1,List.length_cons,Nat.add_mul];omega
 refine⟨b,off,(List.finRange n).flatMap enc,hA,by rw[hlen,List.length_finRange],fun q u hq=>?_,fun j hj=>?_,fun u hu=>?_⟩
 ·obtain⟨x,hx,hu⟩:=zQ5 (fun x=>(he x).1) hc hq;have hd:q / c<n:=by have:=(List.getElem?_eq_some_iff.1 hx).1;simpa using this
  rw[hfr _ hd]at hx;injection hx with hx;subst hx;have:=(he ⟨q / c,hd⟩).2.1 (q % c) (Nat.mod_lt _ hc);rw[hu,Nat.add_assoc,show q / c*c+q % c=q by rw[Nat.mul_comm];exact Nat.div_add_mod q c]at this;exact this
 ·rw[zI1 (fun x=>(he x).1) (hfr j hj)];exact (he ⟨j,hj⟩).2.2
 ·obtain⟨x,_,hx⟩:=List.mem_flatMap.1 hu;exact⟨x.1,enc x,(he x).2.2,hx⟩
theorem zBr {α:Type}(K:ElK α) (t ty:TypeId) (e:TypeId) (i:TypeInfo) (z:Value) (c bytes:Nat) (ht:Tryz.prog.underlying t=some (.slice e)) (hi:Tryz.prog.info? e=some i) (hz:i.zero=some z)
  (hsize:i.size=c) (hby:i.bytes=bytes) (hzs:z.cells.size=c) (hc:0<c) (hb8:bytes≤1000) (h1K:∀ x w B cs,K.E x w B cs→∀ u∈cs,u.oneCell'=true)
  (w0:World) (base:Nat) (v:Value) (l:List α) (h:OwnE K e c w0 base v l) (A:Option Addr) (m cap1:Nat) (l':List α) (hm:l'.length=m) (Bs:Nat→Prop)
  (hx:RowB w0 Bs c (.slice A m cap1) m (fun j cs=>∃ x,l'[j]?=some x∧K.E x w0 (fun b=>base≤b∧b<w0.heap.size∧some b≠v.ownBlock) cs))
  (hn:l.length+m≤300000000) (hbase:base≤w0.heap.size) :
  ∃ v' w',(Builtin.append_ #[t,t] ty #[v,.slice A m cap1]).run Tryz.prog w0=.ok v' w'∧OwnE K e c w' base v' (l++l')∧Below base w0 w'∧(∀ b,b<w0.heap.size→some b≠v.ownBlock→w'.heap[b]?=w0.heap[b]?)∧(∀ g,v'.ownBlock=some g→v.ownBlock=some g∨w0.heap.size≤g):=by
 subst hm;have hown:=h;obtain⟨xs,ho,hxs⟩:=h;have hvlt:∀ b,v.ownBlock=some b→base≤b∧b<w0.heap.size:=by
  intro b hb;rcases ho.2 with⟨rfl,_⟩|⟨g',cap',cur,rfl,hB,hg,_⟩
  ·simp[Value.ownBlock]at hb
  ·simp[Value.ownBlock]at hb;subst hb;exact⟨hB,(Array.getElem?_eq_some_iff.1 hg).1⟩
 have hnone:A=none→l'=[]:=by
  intro hA;rcases Nat.eq_zero_or_pos l'.length with h0|h0
  ·exact List.eq_nil_of_length_eq_zero h0
  ·obtain⟨b,off,news,hA',_⟩:=zLy hc hx h0;rw[hA]at hA';cases hA'
 rcases A with _|ad
 ·have hl':=hnone rfl;subst hl';have hr:(Builtin.append_ #[t,t] ty #[v,.slice none 0 cap1]).run Tryz.prog w0=.ok v w0:=by
   rcases ho.2 with⟨rfl,_⟩|⟨g,cap,cur,rfl,_,_,hnc,_⟩
   ·simp[Builtin.append_,run_underlying ht,sizeOf,typeInfo,hi,Builtin.lenOf,Builtin.firstCells]
   ·simp[Builtin.append_,run_underlying ht,sizeOf,typeInfo,hi,Builtin.lenOf,Builtin.firstCells,hnc,storeCells]
  exact⟨v,w0,hr,by rw[List.append_nil];exact hown,Below.refl _ _,fun _ _ _=>rfl,fun g hg=>.inl hg⟩
 ·obtain⟨news,hnl,hnc,hnR,hn1⟩:∃ news:List Value,news.length=l'.length*c∧(∀ q u,news[q]?=some u→w0.cell? (ad.add q)=some u)∧(∀ j,j<l'.length→∃ x,l'[j]?=some x∧K.E x w0 (fun b=>base≤b∧b<w0.heap.size∧some b≠v.ownBlock) ((news.drop (j*c)).take c))∧∀ u,u∈news→u.oneCell'=true:=by
   rcases Nat.eq_zero_or_pos l'.length with h0|h0
   ·exact⟨[],by simp[h0],fun q u h=>by simp at h,fun j hj=>by omega,fun u h=>by cases h⟩
   ·obtain⟨b,off,news,hA,hnl,hnc,hnR,hn1⟩:=zLy hc hx h0;injection hA with hA;subst hA;exact⟨news,hnl,fun j u hj=>by rw[zMj];exact hnc j u hj,hnR,fun u hu=>by obtain⟨j,cs,⟨x,_,hE⟩,hm⟩:=hn1 u hu;exact h1K x _ _ cs hE u hm⟩
  have hby8:(l.length+l'.length)*bytes≤140737488355328:=Nat.le_trans (Nat.mul_le_mul (show l.length+l'.length≤300000001 by omega) hb8) (by decide);obtain⟨v',w',hr,h2,h3,_,h4⟩:=run_append_own_at (P:=Tryz.prog) (w:=w0) base t ty e i z c bytes ht hi hz hsize hby hzs hc v l.length xs ho ad l'.length cap1 news hnl hnc hn1 (by unfold maxLen;omega) hby8 hbase;have hkeep:∀ b,b<w0.heap.size→some b≠v.ownBlock→w'.heap[b]?=w0.heap[b]?:=fun b hb hne=>h3.block b hb hne;have hs3:=h3.size;have hsm:Same (fun b=>base≤b∧b<w0.heap.size∧some b≠v.ownBlock) w0 w':=⟨hs3,fun b i hB hl=>World.cell?_of_block (hkeep b hl hB.2.2)⟩;have hsub:∀ b,(base≤b∧b<w0.heap.size∧some b≠v.ownBlock)→(base≤b∧b<w'.heap.size∧some b≠v'.ownBlock):=by
   intro b ⟨a1,a2,a3⟩;refine⟨a1,by omega,?_⟩;rcases h4 with h4|h4
   ·rw[h4];exact a3
   ·rw[h4];intro e;injection e with e;omega
  have hll:(l++l').length=l.length+l'.length:=by simp
  refine⟨v',w',hr,⟨xs++news,by rw[hll];exact h2,fun j y hj=>?_⟩,(Below.refl base w0).grown h3 hbase (fun k hk=>(hvlt k hk).1),hkeep,fun g' hg'=>by
   rcases h4 with h4|h4
   ·exact .inl (h4 ▸ hg')
   ·right;rw[h4]at hg';injection hg' with hg';omega⟩
  have hjl:j<l.length+l'.length:=by have:=(List.getElem?_eq_some_iff.1 hj).1;omega
  have hxl:=ho.1;by_cases hjn:j<l.length
  ·rw[List.getElem?_append_left hjn]at hj;have hle:(j+1)*c≤l.length*c:=Nat.mul_le_mul_right c hjn;rw[Nat.add_mul,Nat.one_mul]at hle;rw[show ((xs++news).drop (j*c)).take c=(xs.drop (j*c)).take c by rw[List.drop_append_of_le_length (by omega),List.take_append_of_le_length (by rw[List.length_drop];omega)]];exact K.sub hsub (K.keep hsm (hxs j y hj))
  ·rw[List.getElem?_append_right (by omega)]at hj;obtain⟨x,hx1,hx2⟩:=hnR (j-l.length) (by omega);rw[hx1]at hj;injection hj with hj;subst hj;have hq:j*c=xs.length+(j-l.length)*c:=by rw[hxl,←Nat.add_mul,show l.length+(j-l.length)=j by omega]
   rw[hq,List.drop_append,List.drop_eq_nil_of_le (Nat.le_add_right _ _),List.nil_append,Nat.add_sub_cancel_left];exact K.sub hsub (K.keep hsm hx2)
theorem zBn (k:Nat) (x:Vl) (w:World) (B:Nat→Prop) (cs:List Value) (h:(elV k).E x w B cs):∀ u∈cs,u.oneCell'=true:=by
 obtain⟨a,i,s,A1,n1,c1,A2,n2,c2,A3,n3,c3,A4,n4,c4,rfl⟩:=VB.form7 h;intro u hu;simp only[List.mem_cons,List.not_mem_nil,or_false]at hu;rcases hu with rfl|rfl|rfl|rfl|rfl|rfl|rfl<;>rfl
theorem zB5 (k:Nat) (x:En) (w:World) (B:Nat→Prop) (cs:List Value) (h:(elE k).E x w B cs):∀ u∈cs,u.oneCell'=true:=by
 obtain⟨a,f,r,_,ua,rs,rfl,⟨A,cap,rfl,_⟩,hr⟩:=h;obtain⟨a,i,s,A1,n1,c1,A2,n2,c2,A3,n3,c3,A4,n4,c4,rfl⟩:=VB.form7 hr;intro u hu;simp only[List.mem_cons,List.not_mem_nil,or_false]at hu;rcases hu with rfl|rfl|rfl|rfl|rfl|rfl|rfl|rfl|rfl<;>rfl
theorem PrsW.lt {p:Nat}{r:Bs}{d:Int}{w:World}(h:PrsW p r d w):p<w.heap.size:=(Array.getElem?_eq_some_iff.1 h).1
theorem PrsW.below {p H:Nat}{r:Bs}{d:Int}{w w':World}(h:PrsW p r d w) (hb:Below H w w') (hp:p<H):PrsW p r d w':=(hb.block p hp).trans h
theorem PrsW.dep {p:Nat}{r:Bs}{d:Int}{w:World}(h:PrsW p r d w) (e:Int):PrsW p r e (w.setCell ⟨p,1,none⟩ (.int .i64 e)):=by
 have:=heap_setCell_same w p 1 _ _ (.int .i64 e) h;exact this
theorem Eff.set (p i:Nat) (w:World) (v:Value):Eff p w (w.setCell ⟨p,i,none⟩ v):=
 ⟨(Below.refl p w).setCell (p:=⟨p,i,none⟩) lR v,fun _ hb _=>heap_setCell_other _ _ _ _ hb⟩
theorem Eff.same {p:Nat}{w w':World}(h:Eff p w w'){B:Nat→Prop}(hB:∀ b,B b→b≠p):Same B w w':=
 ⟨h.size,fun b _ hb hl=>World.cell?_of_block (h.other b (hB b hb) hl)⟩
def EnvW (w:World):Prop:=Tb w∧(∃ tp q,w.var? Tryz.prog "strconv.ErrSyntax" = some #[.iface tp q])∧(∃ tp q,w.var? Tryz.prog "strconv.ErrRange" = some #[.iface tp q])
def EnvH (B:Nat) (w:World):Prop:=∀ w',Below B w w'→EnvW w'
theorem EnvH.below {B:Nat}{w w':World}(h:EnvH B w) (hb:Below B w w'):EnvH B w':=fun w2 h2=>h w2 (hb.trans h2)
theorem EnvH.eff {B p:Nat}{w w':World}(h:EnvH B w) (hb:Eff p w w') (hp:B≤p):EnvH B w':=h.below (hb.below.mono hp)
theorem EnvH.now {B:Nat}{w:World}(h:EnvH B w):EnvW w:=h w bR
abbrev limP:Nat:=1048576
def Left (p:Nat) (q r:Bs) (d:Int) (w w':World):Prop:=Eff p w w'∧PrsW p q d w'∧q.length≤r.length
theorem Left.trans {p:Nat}{q r s:Bs}{d:Int}{w w1 w2:World}(h:Left p q r d w w1) (h2:Left p s q d w1 w2):Left p s r d w w2:=⟨h.1.trans h2.1,h2.2.1,Nat.le_trans h2.2.2 h.2.2⟩
theorem Left.refl {p:Nat}{r:Bs}{d:Int}{w:World}(h:PrsW p r d w):Left p r r d w w:=⟨Eff.refl _ _,h,Nat.le_refl _⟩
theorem Left.below {p:Nat}{q r:Bs}{d:Int}{w w1 w2:World}(h:Left p q r d w w1) (hb:Below w1.heap.size w1 w2):Left p q r d w w2:=
 ⟨h.1.trans (Eff.of_below hb (Nat.le_of_lt h.2.1.lt)),h.2.1.below hb h.2.1.lt,h.2.2⟩
theorem zOt {s r q:Bs}(h:cutP s r=some q):cutR s r=q:=by unfold cutR;rw[h];rfl
theorem zOu {s r:Bs}(h:cutP s r=none):cutR s r=r:=by unfold cutR;rw[h];rfl
theorem zAk (p:Nat) (r s q:Bs) (d:Int) (w:World) (h:PrsW p r d w) (hc:cutP s r=some q) :
  Calls Tryz.prog 43 #[.pointer (some ⟨p,0,none⟩),.string ⟨s.toArray⟩] w fun e w'=>e=.returned (.bool true)∧Left p q r d w w'∧w'.heap.size=w.heap.size:=by
 refine (zIi p r s d w h).mono ?_;rintro e w' ⟨rfl,rfl⟩;rw[hc,zOt hc];exact⟨rfl,⟨Eff.set _ _ _ _,h.set q,by have:=zA2 hc;omega⟩,by simp⟩
theorem zAr (p:Nat) (r s:Bs) (d:Int) (w:World) (h:PrsW p r d w) (hc:cutP s r=none) :
  Calls Tryz.prog 43 #[.pointer (some ⟨p,0,none⟩),.string ⟨s.toArray⟩] w fun e w'=>e=.returned (.bool false)∧Left p r r d w w'∧w'.heap.size=w.heap.size:=by
 refine (zIi p r s d w h).mono ?_;rintro e w' ⟨rfl,rfl⟩;rw[hc,zOu hc];exact⟨rfl,⟨Eff.set _ _ _ _,h.set r,Nat.le_refl _⟩,by simp⟩
theorem zE7 {α:Type}{item:Rd α}{sep r:Bs}(l:List α) (h:cutP sep r=none):contL item sep l r=some (l,r):=by unfold contL;rw[h]
theorem zD3 {α:Type}{item:Rd α}{sep r r':Bs}(l:List α) (h:cutP sep r=some r') (h2:item r'=none):contL item sep l r=none:=by
 unfold contL;rw[h];simp only;rw[zDd h2];rfl
theorem zD2 {α:Type}{item:Rd α}{sep r r' t:Bs}{x:α}(l:List α) (h:cutP sep r=some r') (h2:item r'=some (x,t)) (hl:t.length≤r'.length) (hs:sep≠[]):contL item sep l r=contL item sep (l++[x]) t:=by
 rw[←zOv,←zDc h2 hl hs];unfold contL preO;rw[h]
theorem OwnE.blk5 {α:Type}{K:ElK α}{e:TypeId}{c:Nat}{w:World}{base:Nat}{v:Value}{l:List α}(h:OwnE K e c w base v l):∀ b,v.ownBlock=some b→base≤b∧b<w.heap.size:=by
 intro b hb;obtain⟨xs,ho,_⟩:=h;rcases ho.2 with⟨rfl,_⟩|⟨g',cap',cur,rfl,hB,hg,_⟩
 ·simp[Value.ownBlock]at hb
 ·simp[Value.ownBlock]at hb;subst hb;exact⟨hB,(Array.getElem?_eq_some_iff.1 hg).1⟩
def zDp (k p:Nat) (d:Int) (o:Option (Vl×Bs)) (r:Bs) (w:World) (e:Ending) (w':World):Prop:=
 ∃ a i s A1 n1 c1 A2 n2 c2 A3 n3 c3 A4 n4 c4 q,e=.returned (.tuple #[.agg #[.int .i64 a,.int .i64 i,.string s,.slice A1 n1 c1,.slice A2 n2 c2,.slice A3 n3 c3,.slice A4 n4 c4],.bool o.isSome])∧Left p q r d w w' ∧
  ∀ v t,o=some (v,t)→q=t∧VB k w' (Btw w.heap.size w'.heap.size) v [.int .i64 a,.int .i64 i,.string s,.slice A1 n1 c1,.slice A2 n2 c2,.slice A3 n3 c3,.slice A4 n4 c4]
def zRb (p:Nat) (d:Int) (o:Option (Bs×Bs)) (r:Bs) (w:World) (e:Ending) (w':World):Prop:=
 ∃ s q,e=.returned (.tuple #[.string s,.bool o.isSome])∧Left p q r d w w'∧∀ v t,o=some (v,t)→q=t∧s=⟨v.toArray⟩∧v.length≤maxLen
def FlB (k:Nat) (x:(Int×Bs)×Vl) (w:World) (B:Nat→Prop) (cs:List Value):Prop:=
 ∃ rs,cs=.int .i64 x.1.1::.string ⟨x.1.2.toArray⟩::rs∧(Lit.int .i64 x.1.1).wf=true∧x.1.2.length≤maxLen∧VB k w B x.2 rs
def elF (k:Nat):ElK ((Int×Bs)×Vl):=⟨FlB k,fun hs ⟨rs,h1,h2,h3,h4⟩=>⟨rs,h1,h2,h3,VB.keep hs h4⟩,fun hs ⟨rs,h1,h2,h3,h4⟩=>⟨rs,h1,h2,h3,VB.sub hs lR h4⟩⟩
theorem zOp (k:Nat) (x:(Int×Bs)×Vl) (w:World) (B:Nat→Prop) (cs:List Value) (h:(elF k).E x w B cs):∀ u∈cs,u.oneCell'=true:=by
 obtain⟨rs,rfl,_,_,h4⟩:=h;have h5:=zBn k x.2 w B rs h4;intro u hu;simp only[List.mem_cons]at hu;rcases hu with rfl|rfl|hu
 ·rfl
 ·rfl
 ·exact h5 u hu
def elL5:ElK Bs:=⟨fun x _ _ cs=>cs=[.string ⟨x.toArray⟩]∧x.length≤maxLen,fun _ h=>h,fun _ h=>h⟩
theorem zL9 (x:Bs) (w:World) (B:Nat→Prop) (cs:List Value) (h:elL5.E x w B cs):∀ u∈cs,u.oneCell'=true:=by
 obtain⟨rfl,_⟩:=h;intro u hu;rw[List.mem_singleton]at hu;rw[hu];rfl
def zLm (k p:Nat) (d:Int) (o:Option (((Int×Bs)×Vl)×Bs)) (r:Bs) (w:World) (e:Ending) (w':World):Prop:=
 ∃ y z a i s A1 n1 c1 A2 n2 c2 A3 n3 c3 A4 n4 c4 q,e=.returned (.tuple #[.agg #[.int .i64 y,.string z,.int .i64 a,.int .i64 i,.string s,.slice A1 n1 c1,.slice A2 n2 c2,.slice A3 n3 c3,.slice A4 n4 c4],.bool o.isSome])∧Left p q r d w w' ∧
  ∀ v t,o=some (v,t)→q=t∧FlB k v w' (Btw w.heap.size w'.heap.size) [.int .i64 y,.string z,.int .i64 a,.int .i64 i,.string s,.slice A1 n1 c1,.slice A2 n2 c2,.slice A3 n3 c3,.slice A4 n4 c4]
def zLn (k p:Nat) (d:Int) (o:Option (En×Bs)) (r:Bs) (w:World) (e:Ending) (w':World):Prop:=
 ∃ A0 n0 c0 f a i s A1 n1 c1 A2 n2 c2 A3 n3 c3 A4 n4 c4 q,e=.returned (.tuple #[.agg #[.slice A0 n0 c0,.bool f,.int .i64 a,.int .i64 i,.string s,.slice A1 n1 c1,.slice A2 n2 c2,.slice A3 n3 c3,.slice A4 n4 c4],.bool o.isSome])∧Left p q r d w w' ∧
  ∀ v t,o=some (v,t)→q=t∧EnB k v w' (Btw w.heap.size w'.heap.size) [.slice A0 n0 c0,.bool f,.int .i64 a,.int .i64 i,.string s,.slice A1 n1 c1,.slice A2 n2 c2,.slice A3 n3 c3,.slice A4 n4 c4]
def zCa {α:Type}(K:ElK α) (T:TypeId) (c p:Nat) (d:Int) (o:Option (List α×Bs)) (r:Bs) (w:World) (e:Ending) (w':World):Prop:=
 ∃ A n cap q l,e=.returned (.tuple #[.slice A n cap,.bool o.isSome])∧Left p q r d w w'∧(n=l.length∧n≤r.length+1∧OwnE K T c w' w.heap.size (.slice A n cap) l)∧∀ m t,o=some (m,t)→q=t∧l=m
theorem zCa.old {α:Type}{K:ElK α}{T:TypeId}{c p:Nat}{d:Int}{o:Option (List α×Bs)}{r:Bs}{w:World}{e:Ending}{w':World}(h:zCa K T c p d o r w e w') :
  ∃ A n cap q,e=.returned (.tuple #[.slice A n cap,.bool o.isSome])∧Left p q r d w w'∧∀ l t,o=some (l,t)→q=t∧n=l.length∧n≤r.length+1∧OwnE K T c w' w.heap.size (.slice A n cap) l:=by
 obtain⟨A,n,cap,q,l,h1,h2,⟨h3,h4,h5⟩,h6⟩:=h;refine⟨A,n,cap,q,h1,h2,fun m t hm=>?_⟩;obtain⟨rfl,rfl⟩:=h6 m t hm;exact⟨rfl,h3,h4,h5⟩
def ValI (B k p:Nat) (d:Int) (item:Rd Vl):Prop:=∀ (r:Bs) (w:World),PrsW p r d w→r.length≤limP→EnvH B w→Calls Tryz.prog 21 #[.pointer (some ⟨p,0,none⟩)] w (zDp k p d (item r) r w)
def LabI (B p:Nat) (d:Int) (item:Rd Bs):Prop:=∀ (r:Bs) (w:World),PrsW p r d w→r.length≤limP→EnvH B w→Calls Tryz.prog 45 #[.pointer (some ⟨p,0,none⟩)] w (zRb p d (item r) r w)
def FldI (B k p:Nat) (d:Int) (item:Rd ((Int×Bs)×Vl)):Prop:=∀ (r:Bs) (w:World),PrsW p r d w→r.length≤limP→EnvH B w→Calls Tryz.prog 128 #[.pointer (some ⟨p,0,none⟩)] w (zLm k p d (item r) r w)
def EntI (B k p:Nat) (d:Int) (item:Rd En):Prop:=∀ (r:Bs) (w:World),PrsW p r d w→r.length≤limP→EnvH B w→Calls Tryz.prog 130 #[.pointer (some ⟨p,0,none⟩)] w (zLn k p d (item r) r w)
theorem zM3 (B p:Nat) (d:Int):LabI B p d zDi:=by
 intro r w h hr _;unfold limP at hr;refine (zM4 p r d w h (by unfold maxLen;omega)).mono ?_;rintro e w' ⟨rfl,rfl⟩;have hl:=(List.takeWhile_sublist nameC (l:=r)).length_le;have hd:=(List.dropWhile_sublist nameC (l:=r)).length_le;refine⟨⟨(r.takeWhile nameC).toArray⟩,r.dropWhile nameC,?_,⟨Eff.set _ _ _ _,h.set _,hd⟩,?_⟩
 ·unfold zDi takeL;cases hb:varB (r.takeWhile nameC)<;>simp[hb]
 ·intro v t hv;unfold zDi takeL at hv;cases hb:varB (r.takeWhile nameC)with
  | false=>simp[hb]at hv
  | true=>
   simp[hb]at hv;obtain⟨rfl,rfl⟩:=hv;exact⟨rfl,rfl,by unfold maxLen;omega⟩
theorem zJa {ops:Array Oper}{rest:List Oper}{o:Oper}{a:Act}{Q:Exit→Act→World→Prop}{w0:World}(hgd:o.guard=none) (s x:Operand)
  (ho:o.op=.call { callee:=.builtin .append,args:=#[s,x],argTypes:=#[22,22] }) (k:Nat) (base:Nat) (v:Value) (l:List Vl) (hs:a.eval s=v) (hown:OwnE (elV k) 27 7 w0 base v l)
  (y:Vl) (cs:List Value) (cap1:Nat) (H:Nat) (hH:w0.heap.size=H) (hx:a.eval x=.slice (some ⟨H,0,none⟩) 1 cap1) (cells:Array Value) (hcells:cells=cs.toArray)
  (hy:(elV k).E y w0 (fun b=>base≤b∧b<w0.heap.size∧some b≠v.ownBlock) cs) (hcs:cs.length=7) (h1c:∀ u∈cs,u.oneCell'=true) (hn:l.length≤300000000) (hbase:base≤w0.heap.size)
  (h:∀ g cap w',OwnE (elV k) 27 7 w' base (.slice (some ⟨g,0,none⟩) (l.length+1) cap) (l++[y])→Below base w0 w'→wpList Tryz.prog ops Q rest (a.put o.dst (.slice (some ⟨g,0,none⟩) (l.length+1) cap)) w') :
  wpList Tryz.prog ops Q (o::rest) a (w0.alloc (.cells cells 27)):=by
 subst hcells;obtain⟨i0,hi,hz0,hz1,hz2⟩:=info_parts Tryz.infoV;obtain⟨g,cap,w',h1,h2,h3,_,_⟩:=zBa (elV k) 22 o.type 27 i0 (.agg #[.int .i64 0,.int .i64 0,.string ⟨#[]⟩,.slice none 0 0,.slice none 0 0,.slice none 0 0,.slice none 0 0]) 7 128 Tryz.underlying22 hi hz0 hz1 hz2 rfl (by decide) (by decide) w0 base v l hown y cs hy hcs h1c hn hbase H hH cap1;exact Lib.wpList_append_run _ hgd s x 22 22 ho v _ hs hx _ w' h1 (h g cap w' h2 h3)
theorem zLw (B k p:Nat) (hBp:B≤p) (d:Int) (item:Rd Vl) (hI:Hid (ValI B k p d item)) (sep:Bs) (hsep:sep≠[]) (r:Bs) (w:World) (h:PrsW p r d w) (hr:r.length≤limP) (hE:EnvH B w) :
  Calls Tryz.prog 125 #[.pointer (some ⟨p,0,none⟩),.func (.func 21) #[.pointer (some ⟨p,0,none⟩)] #[],.string ⟨sep.toArray⟩] w (zCa (elV k) 27 7 p d (seqL item sep r) r w):=by
 have hp0:=h.lt;have H0:=xI (Left.refl h);have HE:=xI hE;unfold limP at hr;clear h hE;go_enter Tryz.func125,Tryz.ntmps125;go_wp2_with fail
 go_loopg [8] (r.length+2) (fun gk lv wr=>∃ A cap ls rc,lv=.slice A (List.length (α:=Vl) ls) cap∧Left p rc r d w wr∧OwnE (elV k) 27 7 wr w.heap.size (.slice A ls.length cap) ls∧rc.length+ls.length≤r.length+1∧((ls=[]∧r=rc∧rc.length+1<gk)∨(ls≠[]∧rc.length<gk∧seqL item sep r=contL item sep ls rc)))
 case atStart=>exact⟨none,0,[],r,rfl,H0.out,OwnE.nil _ _ _ _ _,by simp,.inl ⟨rfl,rfl,by omega⟩⟩
 case round=>
  obtain⟨A,cap,ls,rc,rfl,hL,hO,hlen,hcase0⟩:=hrel;have hrc:=hL.2.2;rcases id hcase0 with⟨rfl,rfl,hg⟩|⟨hne,hg,heq⟩
  ·have hvc:=hI.out r wr hL.2.1 (by unfold limP;omega) (HE.out.eff hL.1 hBp);have hzW:=hL.1.size;cases ho:item r with
   | none=>
    rw[ho]at hvc;have HQ:=xI (show seqL item sep r=none from zDd ho);have HL:=xI hL;clear hO hL hcase0;go_wp2_with fail;refine hvc.mono ?_;rintro e w3 ⟨a,i,s,A1,n1,c1,A2,n2,c2,A3,n3,c3,A4,n4,c4,q,rfl,hL3,hres⟩;clear hvc hres;have HX:=xI ((HL.out.trans hL3).below (bR.alloc lR (.cells #[.int .i64 a,.int .i64 i,.string s,.slice A1 n1 c1,.slice A2 n2 c2,.slice A3 n3 c3,.slice A4 n4 c4] 27)));clear hL3;go_wp2;refine bodyPost_ret (v:=.tuple #[.slice none 0 0,.bool false]) (by simp[results,Tryz.results125,go_sem]) rfl ?_;exact⟨none,0,0,q,[],by rw[HQ.out];rfl,HX.out,⟨rfl,by omega,OwnE.nil _ _ _ _ _⟩,fun l t h=>by rw[HQ.out]at h;cases h⟩
   | some vt=>
    obtain⟨v,t⟩:=vt;rw[ho]at hvc;have HL:=xI hL;have HO:=xI hO;have HLL:=xI hlen;clear hO hL hcase0 hlen;go_wp2_with fail;refine hvc.mono ?_;rintro e w3 ⟨a,i,s,A1,n1,c1,A2,n2,c2,A3,n3,c3,A4,n4,c4,q,rfl,hL3,hres⟩;obtain⟨rfl,hvb⟩:=hres _ _ rfl;clear hvc hres;have hl3:=hL3.2.2;have HQ:=xI (show seqL item sep r=contL item sep ([]++[v]) q from zDc ho hl3 hsep);have hO3:=HO.out.eff hL3.1 hp0;have hblk:=HO.out.blk5;have hz3:=hL3.1.size;have hLa:=HL.out.trans hL3;have hbx:Below w3.heap.size w3 (w3.alloc (.cells #[.int .i64 a,.int .i64 i,.string s,.slice A1 n1 c1,.slice A2 n2 c2,.slice A3 n3 c3,.slice A4 n4 c4] 27)):=bR.alloc lR _;have hO4:=hO3.old hbx;have hLb:=hLa.below hbx;have hvb4:(elV k).E v (w3.alloc (.cells #[.int .i64 a,.int .i64 i,.string s,.slice A1 n1 c1,.slice A2 n2 c2,.slice A3 n3 c3,.slice A4 n4 c4] 27)) (fun b=>w.heap.size≤b∧b<(w3.alloc (.cells #[.int .i64 a,.int .i64 i,.string s,.slice A1 n1 c1,.slice A2 n2 c2,.slice A3 n3 c3,.slice A4 n4 c4] 27)).heap.size∧some b≠(Value.slice A ([]:List Vl).length cap).ownBlock) [.int .i64 a,.int .i64 i,.string s,.slice A1 n1 c1,.slice A2 n2 c2,.slice A3 n3 c3,.slice A4 n4 c4]:=((elV k).sub (fun b hb=>⟨by have:=hb.1;omega,by have:=hb.2;simp;omega,fun e=>by have:=hblk b e.symm;have:=hb.1;omega⟩) ((elV k).keep (Same.of_below hbx fun b hb=>hb.2) hvb));have hll:=HLL.out;have hz4:w.heap.size≤(w3.alloc (.cells #[.int .i64 a,.int .i64 i,.string s,.slice A1 n1 c1,.slice A2 n2 c2,.slice A3 n3 c3,.slice A4 n4 c4] 27)).heap.size:=by simp;omega
    have HLB:=xI hLb;have HG:=xI (aN hg hl3);clear hLb hLa hL3 hO3 hbx hvb hg ho;obtain⟨V,hV⟩:∃ V,V=w3.alloc (.cells #[.int .i64 a,.int .i64 i,.string s,.slice A1 n1 c1,.slice A2 n2 c2,.slice A3 n3 c3,.slice A4 n4 c4] 27):=⟨_,rfl⟩;go_wp2_with (at_builtin;refine zJa rfl _ _ rfl k w.heap.size (.slice A ([]:List Vl).length cap) [] rfl hO4 v _ 1 (w3.heap.size+1) (by simp) rfl _ rfl hvb4 rfl (zBn k v _ _ _ hvb4) (by omega) hz4 ?_;intro g2 cap2 w4 ho4 hb4;refine Hid.out ?_);refine xI ?_;have HO4:=xI ho4;have HL4:=xI (show Left p q r d w w4 from⟨HLB.out.1.grow hb4 hp0,HLB.out.2.1.below hb4 hp0,HLB.out.2.2⟩);clear ho4 hb4 hvb4 hO4;go_wp2_with fail
    go_roundg (q.length+1)
    case measure=>have:=HG.out.1;have:=HG.out.2;omega
    case rel=>
     have:=HG.out.2;have hll:=HLL.out;exact⟨some ⟨g2,0,none⟩,cap2,[]++[v],q,by rw[List.length_append];rfl,HL4.out,by rw[List.length_append];exact HO4.out,by rw[List.length_append];simp only[List.length_singleton,List.length_nil];simp at hll;omega,.inr ⟨by simp,by omega,HQ.out⟩⟩
  ·have hpos:=List.length_pos_iff.2 hne;cases hcut:cutP sep rc with
   | none=>
    have hac:=zAr p rc sep d wr hL.2.1 hcut;have HQ:=xI (heq.trans (zE7 ls hcut));have HL:=xI hL;have HO:=xI hO;clear hL hO hcase0 heq;generalize hln:ls.length=m at *;have HLN:=xI hln;have HGS:=xI hg;clear hln hg;have k1:¬ (m:Int)=0:=by omega
    go_wp2_with fail;refine hac.mono ?_;rintro e w1 ⟨rfl,hL1,hs1⟩;clear hac;have HL1:=xI hL1;have HS1:=xI hs1;clear hL1 hs1;go_wp2;refine bodyPost_ret (v:=.tuple #[.slice A m cap,.bool true]) (by simp[results,Tryz.results125,go_sem]) rfl ?_;refine⟨A,m,cap,rc,ls,by rw[HQ.out];rfl,HL.out.trans HL1.out,⟨HLN.out.symm,by omega,HO.out.eff HL1.out.1 hp0⟩,fun l t h=>?_⟩;rw[HQ.out]at h;simp only[Option.some.injEq,Prod.mk.injEq]at h;obtain⟨rfl,rfl⟩:=h;exact⟨rfl,rfl⟩
   | some r'=>
    have hac:=zAk p rc sep r' d wr hL.2.1 hcut;have hcl:=zA2 hcut;have k1:¬ (ls.length:Int)=0:=by omega
    have HL0:=xI hL;have HO0:=xI hO;have HQ0:=xI (aN heq (aN hcut hlen));have HG0:=xI hg;clear hL hO hcase0 heq hcut hlen hg;go_wp2_with fail;refine hac.mono ?_;rintro e w1 ⟨rfl,hL1,hs1⟩;clear hac hs1;have hL:=HL0.out.trans hL1;have hO:=HO0.out.eff hL1.1 hp0;obtain⟨heq,hcut,hlen⟩:=HQ0.out;have hg:=HG0.out;have hvc:=hI.out r' w1 hL.2.1 (by unfold limP;omega) (HE.out.eff hL.1 hBp);clear hL1;have hcase0:=True.intro;have hzW:=hL.1.size;cases ho:item r' with
    | none=>
     rw[ho]at hvc;have HQ:=xI (show seqL item sep r=none from (heq.trans (zD3 ls hcut ho)));have HL:=xI hL;clear hO hL hcase0;go_wp2_with fail;refine hvc.mono ?_;rintro e w3 ⟨a,i,s,A1,n1,c1,A2,n2,c2,A3,n3,c3,A4,n4,c4,q,rfl,hL3,hres⟩;clear hvc hres;have HX:=xI ((HL.out.trans hL3).below (bR.alloc lR (.cells #[.int .i64 a,.int .i64 i,.string s,.slice A1 n1 c1,.slice A2 n2 c2,.slice A3 n3 c3,.slice A4 n4 c4] 27)));clear hL3;go_wp2;refine bodyPost_ret (v:=.tuple #[.slice none 0 0,.bool false]) (by simp[results,Tryz.results125,go_sem]) rfl ?_;exact⟨none,0,0,q,[],by rw[HQ.out];rfl,HX.out,⟨rfl,by omega,OwnE.nil _ _ _ _ _⟩,fun l t h=>by rw[HQ.out]at h;cases h⟩
    | some vt=>
     obtain⟨v,t⟩:=vt;rw[ho]at hvc;have HL:=xI hL;have HO:=xI hO;have HLL:=xI hlen;clear hO hL hcase0 hlen;go_wp2_with fail;refine hvc.mono ?_;rintro e w3 ⟨a,i,s,A1,n1,c1,A2,n2,c2,A3,n3,c3,A4,n4,c4,q,rfl,hL3,hres⟩;obtain⟨rfl,hvb⟩:=hres _ _ rfl;clear hvc hres;have hl3:=hL3.2.2;have HQ:=xI (show seqL item sep r=contL item sep (ls++[v]) q from (heq.trans (zD2 ls hcut ho hl3 hsep)));have hO3:=HO.out.eff hL3.1 hp0;have hblk:=HO.out.blk5;have hz3:=hL3.1.size;have hLa:=HL.out.trans hL3;have hbx:Below w3.heap.size w3 (w3.alloc (.cells #[.int .i64 a,.int .i64 i,.string s,.slice A1 n1 c1,.slice A2 n2 c2,.slice A3 n3 c3,.slice A4 n4 c4] 27)):=bR.alloc lR _;have hO4:=hO3.old hbx;have hLb:=hLa.below hbx;have hvb4:(elV k).E v (w3.alloc (.cells #[.int .i64 a,.int .i64 i,.string s,.slice A1 n1 c1,.slice A2 n2 c2,.slice A3 n3 c3,.slice A4 n4 c4] 27)) (fun b=>w.heap.size≤b∧b<(w3.alloc (.cells #[.int .i64 a,.int .i64 i,.string s,.slice A1 n1 c1,.slice A2 n2 c2,.slice A3 n3 c3,.slice A4 n4 c4] 27)).heap.size∧some b≠(Value.slice A ls.length cap).ownBlock) [.int .i64 a,.int .i64 i,.string s,.slice A1 n1 c1,.slice A2 n2 c2,.slice A3 n3 c3,.slice A4 n4 c4]:=((elV k).sub (fun b hb=>⟨by have:=hb.1;omega,by have:=hb.2;simp;omega,fun e=>by have:=hblk b e.symm;have:=hb.1;omega⟩) ((elV k).keep (Same.of_below hbx fun b hb=>hb.2) hvb));have hll:=HLL.out;have hz4:w.heap.size≤(w3.alloc (.cells #[.int .i64 a,.int .i64 i,.string s,.slice A1 n1 c1,.slice A2 n2 c2,.slice A3 n3 c3,.slice A4 n4 c4] 27)).heap.size:=by simp;omega
     have HLB:=xI hLb;have HG:=xI (aN hg hl3);clear hLb hLa hL3 hO3 hbx hvb hg ho;obtain⟨V,hV⟩:∃ V,V=w3.alloc (.cells #[.int .i64 a,.int .i64 i,.string s,.slice A1 n1 c1,.slice A2 n2 c2,.slice A3 n3 c3,.slice A4 n4 c4] 27):=⟨_,rfl⟩;go_wp2_with (at_builtin;refine zJa rfl _ _ rfl k w.heap.size (.slice A ls.length cap) ls rfl hO4 v _ 1 (w3.heap.size+1) (by simp) rfl _ rfl hvb4 rfl (zBn k v _ _ _ hvb4) (by omega) hz4 ?_;intro g2 cap2 w4 ho4 hb4;refine Hid.out ?_);refine xI ?_;have HO4:=xI ho4;have HL4:=xI (show Left p q r d w w4 from⟨HLB.out.1.grow hb4 hp0,HLB.out.2.1.below hb4 hp0,HLB.out.2.2⟩);clear ho4 hb4 hvb4 hO4;go_wp2_with fail
     go_roundg (q.length+1)
     case measure=>have:=HG.out.1;have:=HG.out.2;have:=zA2 hcut;have:=List.length_pos_iff.2 hsep;omega
     case rel=>
      have:=HG.out.2;have hll:=HLL.out;exact⟨some ⟨g2,0,none⟩,cap2,ls++[v],q,by rw[List.length_append];rfl,HL4.out,by rw[List.length_append];exact HO4.out,by rw[List.length_append];simp only[List.length_singleton];have:=zA2 hcut;have:=List.length_pos_iff.2 hsep;omega,.inr ⟨by simp,by omega,HQ.out⟩⟩
theorem zAs {B:Nat→Prop}{w V:World}{g i:Nat}{v:Value}(h:Same B w V) (hg:¬ B g):Same B w (V.setCell ⟨g,i,none⟩ v):=
 ⟨by simpa using h.size,fun b j hB hl=>(World.cell?_of_block (heap_setCell_other _ _ _ _ (show b≠g from fun e=>hg (e ▸ hB)))).trans (h.cell b j hB hl)⟩
theorem Left.set {p g i:Nat}{q r:Bs}{d:Int}{w w3:World}{v:Value}(h:Left p q r d w w3) (hp:p<w.heap.size) (hg:w.heap.size≤g):Left p q r d w (w3.setCell ⟨g,i,none⟩ v):=
 ⟨h.1.grow (bR.setCell (p:=⟨g,i,none⟩) hg v) hp,(heap_setCell_other _ _ _ _ (show p≠g by omega)).trans h.2.1,h.2.2⟩
theorem zE8 {w:World}{g:Nat}{e:TypeId}{z0 z1:Value}(h:w.heap[g]?=some (.cells #[z0,z1] e (0,0))):w.cell? ⟨g,0,none⟩=some z0∧w.cell? ⟨g,1,none⟩=some z1:=
 ⟨cH h 0,cH h 1⟩
theorem zGt {w:World}{g:Nat}{e:TypeId}{z0 z1:Value}(h:w.heap[g]?=some (.cells #[z0,z1] e (0,0))):w.frozen? ⟨g,0,none⟩=false∧w.frozen? ⟨g,1,none⟩=false:=
 ⟨Lib.frozen_of_heap h 0,Lib.frozen_of_heap h 1⟩
theorem boxR2 {p g:Nat}{q r:Bs}{d:Int}{w w3:World}{e:TypeId}{z0 z1:Value}(hk:w3.heap[g]?=some (.cells #[z0,z1] e (0,0))) (hg:w.heap.size≤g) (hp:p<w.heap.size) (hL:Left p q r d w w3) (v0 v1:Value) (V:World) (hV:V=((w3.setCell ⟨g,0,none⟩ v0).setCell ⟨g,1,none⟩ v1)) :
  Left p q r d w V∧V.heap[g]?=some (.cells #[v0,v1] e (0,0))∧V.heap.size=w3.heap.size∧(∀ B:Nat→Prop,¬ B g→Same B w3 V)∧(∀ b,b≠g→V.heap[b]?=w3.heap[b]?):=by
 subst hV;refine⟨((hL.set hp hg).set hp hg),(heap_setCell_same _ g 1 _ _ v1 (heap_setCell_same _ g 0 _ _ v0 hk)),by simp,fun B h=>zAs (zAs (Same.refl _ _) h) h,fun b hb=>?_⟩;rw[heap_setCell_other _ _ _ _ hb];rw[heap_setCell_other _ _ _ _ hb]
theorem boxR7 {p g:Nat}{q r:Bs}{d:Int}{w w3:World}{e:TypeId}{z0 z1 z2 z3 z4 z5 z6:Value}(hk:w3.heap[g]?=some (.cells #[z0,z1,z2,z3,z4,z5,z6] e (0,0))) (hg:w.heap.size≤g) (hp:p<w.heap.size) (hL:Left p q r d w w3) (v0 v1 v2 v3 v4 v5 v6:Value) (V:World) (hV:V=(((((((w3.setCell ⟨g,0,none⟩ v0).setCell ⟨g,1,none⟩ v1).setCell ⟨g,2,none⟩ v2).setCell ⟨g,3,none⟩ v3).setCell ⟨g,4,none⟩ v4).setCell ⟨g,5,none⟩ v5).setCell ⟨g,6,none⟩ v6)) :
  Left p q r d w V∧V.heap[g]?=some (.cells #[v0,v1,v2,v3,v4,v5,v6] e (0,0))∧V.heap.size=w3.heap.size∧(∀ B:Nat→Prop,¬ B g→Same B w3 V)∧(∀ b,b≠g→V.heap[b]?=w3.heap[b]?):=by
 subst hV;refine⟨(((((((hL.set hp hg).set hp hg).set hp hg).set hp hg).set hp hg).set hp hg).set hp hg),obj7 hk v0 v1 v2 v3 v4 v5 v6,by simp,fun B h=>zAs (zAs (zAs (zAs (zAs (zAs (zAs (Same.refl _ _) h) h) h) h) h) h) h,fun b hb=>?_⟩;rw[heap_setCell_other _ _ _ _ hb];rw[heap_setCell_other _ _ _ _ hb];rw[heap_setCell_other _ _ _ _ hb];rw[heap_setCell_other _ _ _ _ hb];rw[heap_setCell_other _ _ _ _ hb];rw[heap_setCell_other _ _ _ _ hb];rw[heap_setCell_other _ _ _ _ hb]
theorem zCg {w:World}{g:Nat}{e:TypeId}{z0 z1 z2 z3 z4 z5 z6 z7 z8:Value}(h:w.heap[g]?=some (.cells #[z0,z1,z2,z3,z4,z5,z6,z7,z8] e (0,0))):w.cell? ⟨g,0,none⟩=some z0∧w.cell? ⟨g,1,none⟩=some z1∧w.cell? ⟨g,2,none⟩=some z2∧w.cell? ⟨g,3,none⟩=some z3∧w.cell? ⟨g,4,none⟩=some z4∧w.cell? ⟨g,5,none⟩=some z5∧w.cell? ⟨g,6,none⟩=some z6∧w.cell? ⟨g,7,none⟩=some z7∧w.cell? ⟨g,8,none⟩=some z8:=
 ⟨cH h 0,cH h 1,cH h 2,cH h 3,cH h 4,cH h 5,cH h 6,cH h 7,cH h 8⟩
theorem zC3 {w:World}{g:Nat}{e:TypeId}{z0 z1 z2 z3 z4 z5 z6 z7 z8:Value}(h:w.heap[g]?=some (.cells #[z0,z1,z2,z3,z4,z5,z6,z7,z8] e (0,0))):w.frozen? ⟨g,0,none⟩=false∧w.frozen? ⟨g,1,none⟩=false∧w.frozen? ⟨g,2,none⟩=false∧w.frozen? ⟨g,3,none⟩=false∧w.frozen? ⟨g,4,none⟩=false∧w.frozen? ⟨g,5,none⟩=false∧w.frozen? ⟨g,6,none⟩=false∧w.frozen? ⟨g,7,none⟩=false∧w.frozen? ⟨g,8,none⟩=false:=
 ⟨Lib.frozen_of_heap h 0,Lib.frozen_of_heap h 1,Lib.frozen_of_heap h 2,Lib.frozen_of_heap h 3,Lib.frozen_of_heap h 4,Lib.frozen_of_heap h 5,Lib.frozen_of_heap h 6,Lib.frozen_of_heap h 7,Lib.frozen_of_heap h 8⟩
theorem boxR9 {p g:Nat}{q r:Bs}{d:Int}{w w3:World}{e:TypeId}{z0 z1 z2 z3 z4 z5 z6 z7 z8:Value}(hk:w3.heap[g]?=some (.cells #[z0,z1,z2,z3,z4,z5,z6,z7,z8] e (0,0))) (hg:w.heap.size≤g) (hp:p<w.heap.size) (hL:Left p q r d w w3) (v0 v1 v2 v3 v4 v5 v6 v7 v8:Value) (V:World) (hV:V=(((((((((w3.setCell ⟨g,0,none⟩ v0).setCell ⟨g,1,none⟩ v1).setCell ⟨g,2,none⟩ v2).setCell ⟨g,3,none⟩ v3).setCell ⟨g,4,none⟩ v4).setCell ⟨g,5,none⟩ v5).setCell ⟨g,6,none⟩ v6).setCell ⟨g,7,none⟩ v7).setCell ⟨g,8,none⟩ v8)) :
  Left p q r d w V∧V.heap[g]?=some (.cells #[v0,v1,v2,v3,v4,v5,v6,v7,v8] e (0,0))∧V.heap.size=w3.heap.size∧(∀ B:Nat→Prop,¬ B g→Same B w3 V)∧(∀ b,b≠g→V.heap[b]?=w3.heap[b]?):=by
 subst hV;refine⟨(((((((((hL.set hp hg).set hp hg).set hp hg).set hp hg).set hp hg).set hp hg).set hp hg).set hp hg).set hp hg),obj9 hk v0 v1 v2 v3 v4 v5 v6 v7 v8,by simp,fun B h=>zAs (zAs (zAs (zAs (zAs (zAs (zAs (zAs (zAs (Same.refl _ _) h) h) h) h) h) h) h) h) h,fun b hb=>?_⟩;rw[heap_setCell_other _ _ _ _ hb];rw[heap_setCell_other _ _ _ _ hb];rw[heap_setCell_other _ _ _ _ hb];rw[heap_setCell_other _ _ _ _ hb];rw[heap_setCell_other _ _ _ _ hb];rw[heap_setCell_other _ _ _ _ hb];rw[heap_setCell_other _ _ _ _ hb];rw[heap_setCell_other _ _ _ _ hb];rw[heap_setCell_other _ _ _ _ hb]
theorem zAl {k p:Nat}{d:Int}{o:Option (Vl×Bs)}{q r:Bs}{w w':World}{a i:Int}{s:ByteArray}{A1 A2 A3 A4:Option Addr}{n1 c1 n2 c2 n3 c3 n4 c4:Nat}(ho:o=none) (hL:Left p q r d w w'):zDp k p d o r w (.returned (.tuple #[.agg #[.int .i64 a,.int .i64 i,.string s,.slice A1 n1 c1,.slice A2 n2 c2,.slice A3 n3 c3,.slice A4 n4 c4],.bool false])) w':=
 ⟨_,_,_,_,_,_,_,_,_,_,_,_,_,_,_,q,by rw[ho];rfl,hL,fun v t h=>by rw[ho]at h;cases h⟩
theorem zAt {k p:Nat}{d:Int}{v:Vl}{o:Option (Vl×Bs)}{q r:Bs}{w w':World}{a i:Int}{s:ByteArray}{A1 A2 A3 A4:Option Addr}{n1 c1 n2 c2 n3 c3 n4 c4:Nat}(ho:o=some (v,q)) (hL:Left p q r d w w') (hv:VB k w' (Btw w.heap.size w'.heap.size) v [.int .i64 a,.int .i64 i,.string s,.slice A1 n1 c1,.slice A2 n2 c2,.slice A3 n3 c3,.slice A4 n4 c4]):zDp k p d o r w (.returned (.tuple #[.agg #[.int .i64 a,.int .i64 i,.string s,.slice A1 n1 c1,.slice A2 n2 c2,.slice A3 n3 c3,.slice A4 n4 c4],.bool true])) w':=
 ⟨_,_,_,_,_,_,_,_,_,_,_,_,_,_,_,q,by rw[ho];rfl,hL,fun v' t h=>by rw[ho]at h;injection h with h;injection h with h1 h2;subst h1 h2;exact⟨rfl,hv⟩⟩
theorem zFq {k p:Nat}{d:Int}{o:Option (((Int×Bs)×Vl)×Bs)}{q r:Bs}{w w':World}{y:Int}{z:ByteArray}{a i:Int}{s:ByteArray}{A1 A2 A3 A4:Option Addr}{n1 c1 n2 c2 n3 c3 n4 c4:Nat}(ho:o=none) (hL:Left p q r d w w'):zLm k p d o r w (.returned (.tuple #[.agg #[.int .i64 y,.string z,.int .i64 a,.int .i64 i,.string s,.slice A1 n1 c1,.slice A2 n2 c2,.slice A3 n3 c3,.slice A4 n4 c4],.bool false])) w':=
 ⟨_,_,_,_,_,_,_,_,_,_,_,_,_,_,_,_,_,q,by rw[ho];rfl,hL,fun v t h=>by rw[ho]at h;cases h⟩
theorem zK9 {k p:Nat}{d:Int}{v:(Int×Bs)×Vl}{o:Option (((Int×Bs)×Vl)×Bs)}{q r:Bs}{w w':World}{y:Int}{z:ByteArray}{a i:Int}{s:ByteArray}{A1 A2 A3 A4:Option Addr}{n1 c1 n2 c2 n3 c3 n4 c4:Nat}(ho:o=some (v,q)) (hL:Left p q r d w w') (hv:FlB k v w' (Btw w.heap.size w'.heap.size) [.int .i64 y,.string z,.int .i64 a,.int .i64 i,.string s,.slice A1 n1 c1,.slice A2 n2 c2,.slice A3 n3 c3,.slice A4 n4 c4]):zLm k p d o r w (.returned (.tuple #[.agg #[.int .i64 y,.string z,.int .i64 a,.int .i64 i,.string s,.slice A1 n1 c1,.slice A2 n2 c2,.slice A3 n3 c3,.slice A4 n4 c4],.bool true])) w':=
 ⟨_,_,_,_,_,_,_,_,_,_,_,_,_,_,_,_,_,q,by rw[ho];rfl,hL,fun v' t h=>by rw[ho]at h;injection h with h;injection h with h1 h2;subst h1 h2;exact⟨rfl,hv⟩⟩
theorem zFs {k p:Nat}{d:Int}{o:Option (En×Bs)}{q r:Bs}{w w':World}{A0:Option Addr}{n0 c0:Nat}{f:Bool}{a i:Int}{s:ByteArray}{A1 A2 A3 A4:Option Addr}{n1 c1 n2 c2 n3 c3 n4 c4:Nat}(ho:o=none) (hL:Left p q r d w w'):zLn k p d o r w (.returned (.tuple #[.agg #[.slice A0 n0 c0,.bool f,.int .i64 a,.int .i64 i,.string s,.slice A1 n1 c1,.slice A2 n2 c2,.slice A3 n3 c3,.slice A4 n4 c4],.bool false])) w':=
 ⟨_,_,_,_,_,_,_,_,_,_,_,_,_,_,_,_,_,_,_,q,by rw[ho];rfl,hL,fun v t h=>by rw[ho]at h;cases h⟩
theorem zHl {k p:Nat}{d:Int}{v:En}{o:Option (En×Bs)}{q r:Bs}{w w':World}{A0:Option Addr}{n0 c0:Nat}{f:Bool}{a i:Int}{s:ByteArray}{A1 A2 A3 A4:Option Addr}{n1 c1 n2 c2 n3 c3 n4 c4:Nat}(ho:o=some (v,q)) (hL:Left p q r d w w') (hv:EnB k v w' (Btw w.heap.size w'.heap.size) [.slice A0 n0 c0,.bool f,.int .i64 a,.int .i64 i,.string s,.slice A1 n1 c1,.slice A2 n2 c2,.slice A3 n3 c3,.slice A4 n4 c4]):zLn k p d o r w (.returned (.tuple #[.agg #[.slice A0 n0 c0,.bool f,.int .i64 a,.int .i64 i,.string s,.slice A1 n1 c1,.slice A2 n2 c2,.slice A3 n3 c3,.slice A4 n4 c4],.bool true])) w':=
 ⟨_,_,_,_,_,_,_,_,_,_,_,_,_,_,_,_,_,_,_,q,by rw[ho];rfl,hL,fun v' t h=>by rw[ho]at h;injection h with h;injection h with h1 h2;subst h1 h2;exact⟨rfl,hv⟩⟩
def zRa (p:Nat) (d:Int) (o:Option (Int×Bs)) (r:Bs) (w:World) (e:Ending) (w':World):Prop:=
 ∃ n q,e=.returned (.tuple #[.int .i64 n,.bool o.isSome])∧(Lit.int .i64 n).wf=true∧Left p q r d w w'∧∀ m t,o=some (m,t)→q=t∧n=m
def zRc (p:Nat) (d:Int) (o:Option ((Int×Bs)×Bs)) (r:Bs) (w:World) (e:Ending) (w':World):Prop:=
 ∃ y z q,e=.returned (.tuple #[.agg #[.int .i64 y,.string z],.bool o.isSome])∧Left p q r d w w'∧∀ x t,o=some (x,t)→q=t∧y=x.1∧z=⟨x.2.toArray⟩∧(y=0∨y=1)∧x.2.length≤maxLen
theorem Left.alloc {p:Nat}{q r:Bs}{d:Int}{w w':World}(h:Left p q r d w w') (o:Obj):Left p q r d w (w'.alloc o):=h.below (bR.alloc lR o)
theorem Left.box {p g:Nat}{q r:Bs}{d:Int}{w w':World}{o:Obj}(h:Left p q r d w w') (hk:w.heap[g]?=some o) (hg:g≠p):w'.heap[g]?=some o:=
 (h.1.other g hg (Array.getElem?_eq_some_iff.1 hk).1).trans hk
theorem Left.size {p:Nat}{q r:Bs}{d:Int}{w w':World}(h:Left p q r d w w'):w.heap.size≤w'.heap.size:=h.1.size
theorem zL8 (B k p:Nat) (hBp:B≤p) (d:Int) (item:Rd Vl) (hI:Hid (ValI B k p d item)) (en:Bs) (r:Bs) (w:World) (h:PrsW p r d w) (hr:r.length≤limP) (hE:EnvH B w) :
  Calls Tryz.prog 79 #[.pointer (some ⟨p,0,none⟩),.func (.func 21) #[.pointer (some ⟨p,0,none⟩)] #[],.string ⟨en.toArray⟩] w (zCa (elV k) 27 7 p d (manyP item en r) r w):=by
 have hlp:=h.lt;unfold limP at hr;cases hc:cutP en r with
 | some q=>
  have hac:=zAk p r en q d w h hc;have HQ:=xI (zFn (item:=item) hc);clear hc h hE;go_enter Tryz.func79,Tryz.ntmps79;go_wp2_with fail;refine hac.mono ?_;rintro e w1 ⟨rfl,hL1,hs1⟩;clear hac;have HL1:=xI hL1;clear hL1 hs1;go_wp2;refine bodyPost_ret (v:=.tuple #[.slice none 0 0,.bool true]) (by simp[results,Tryz.results79,go_sem]) rfl ?_;refine⟨none,0,0,q,[],by rw[HQ.out];rfl,HL1.out,⟨rfl,by omega,OwnE.nil _ _ _ _ _⟩,fun l t hx=>?_⟩;rw[HQ.out]at hx;simp only[Option.some.injEq,Prod.mk.injEq]at hx;obtain⟨rfl,rfl⟩:=hx;exact⟨rfl,rfl⟩
 | none=>
  have hac:=zAr p r en d w h hc;have HC:=xI hc;have HE:=xI hE;clear hc h hE;go_enter Tryz.func79,Tryz.ntmps79;go_wp2_with fail;refine hac.mono ?_;rintro e w1 ⟨rfl,hL1,hs1⟩;clear hac;have hsq:=zLw B k p hBp d item hI zAc (by decide) r w1 hL1.2.1 (by unfold limP;omega) (HE.out.eff hL1.1 hBp);have HL1:=xI hL1;have HS1:=xI hs1;clear hL1 hs1;cases ho:seqL item zAc r with
  | none=>
   rw[ho]at hsq;have HQ:=xI (zFo HC.out ho);clear ho;go_wp2_with fail;refine hsq.mono ?_;rintro e w2 ⟨A,n,cap,q,l0,rfl,hL2,⟨hn,hn2,hown⟩,hres⟩;clear hsq hres;rw[HS1.out]at hown;have HOW:=xI (aN hn (aN hn2 hown));clear hn hn2 hown;have HL2:=xI (HL1.out.trans hL2);clear hL2;go_wp2;refine bodyPost_ret (v:=.tuple #[.slice A n cap,.bool false]) (by simp[results,Tryz.results79,go_sem]) rfl ?_;exact⟨A,n,cap,q,l0,by rw[HQ.out];rfl,HL2.out,HOW.out,fun l t hx=>by rw[HQ.out]at hx;cases hx⟩
  | some lt=>
   obtain⟨l,t⟩:=lt;rw[ho]at hsq;have HO:=xI ho;clear ho;go_wp2_with fail;refine hsq.mono ?_;rintro e w2 ⟨A,n,cap,q,l0,rfl,hL2,⟨hn,hn2,hown⟩,hres⟩;clear hsq;obtain⟨rfl,rfl⟩:=hres _ _ rfl;clear hres;have HN:=xI (aN hn hn2);rw[HS1.out]at hown;have HOW:=xI hown;have HL2:=xI (HL1.out.trans hL2);have hPq:=hL2.2.1;clear hn hn2 hown hL2;cases hd:cutP en q with
   | none=>
    have hac:=zAr p q en d w2 hPq hd;have HQ:Hid (manyP item en r=none):=xI ((zCr HC.out HO.out).trans (by rw[hd];rfl));clear hd hPq;go_wp2_with fail;refine hac.mono ?_;rintro e w3 ⟨rfl,hL3,hs3⟩;clear hac;have HL3:=xI (HL2.out.trans hL3);have HOW3:=xI (HOW.out.eff hL3.1 hlp);clear hL3 hs3;go_wp2;refine bodyPost_ret (v:=.tuple #[.slice A n cap,.bool false]) (by simp[results,Tryz.results79,go_sem]) rfl ?_;exact⟨A,n,cap,q,l0,by rw[HQ.out];rfl,HL3.out,⟨HN.out.1,HN.out.2,HOW3.out⟩,fun l t hx=>by rw[HQ.out]at hx;cases hx⟩
   | some u=>
    have hac:=zAk p q en u d w2 hPq hd;have HQ:Hid (manyP item en r=some (l0,u)):=xI ((zCr HC.out HO.out).trans (by rw[hd];rfl));clear hd hPq;go_wp2_with fail;refine hac.mono ?_;rintro e w3 ⟨rfl,hL3,hs3⟩;clear hac;have HL3:=xI (HL2.out.trans hL3);have HOW3:=xI (HOW.out.eff hL3.1 hlp);clear hL3 hs3;go_wp2;refine bodyPost_ret (v:=.tuple #[.slice A n cap,.bool true]) (by simp[results,Tryz.results79,go_sem]) rfl ?_;refine⟨A,n,cap,u,l0,by rw[HQ.out];rfl,HL3.out,⟨HN.out.1,HN.out.2,HOW3.out⟩,fun l' t hx=>?_⟩;rw[HQ.out]at hx;simp only[Option.some.injEq,Prod.mk.injEq]at hx;obtain⟨rfl,rfl⟩:=hx;exact⟨rfl,rfl⟩
end Go.Proofs.YtcjgaohblaidjaaGreatDoor
