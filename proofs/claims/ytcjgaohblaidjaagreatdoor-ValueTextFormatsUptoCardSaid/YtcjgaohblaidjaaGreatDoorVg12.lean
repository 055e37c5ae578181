/- Two rows that grow side by side: the keys and the values of a map that is read. -/
import Derived.Test.YtcjgaohblaidjaaGreatDoorVgZ
import Derived.Test.YtcjgaohblaidjaaGreatDoorVg01
import Derived.Test.YtcjgaohblaidjaaGreatDoorVg02
import Derived.Test.YtcjgaohblaidjaaGreatDoorVg03
import Derived.Test.YtcjgaohblaidjaaGreatDoorVg07
import Derived.Test.YtcjgaohblaidjaaGreatDoorVg09
import Derived.Test.YtcjgaohblaidjaaGreatDoorVg11
import Derived.Lib.AppendIntMem
import Derived.Lib.AtoiErrMem
import Derived.Shelf.Strconv.ErrVarParseInt
import Derived.Shelf.Bytes.WriteStringKept
import Derived.Lib.ItoaLen
import Derived.Lib.BufferOld
set_option maxRecDepth 100000
set_option maxHeartbeats 3200000
namespace Go.Proofs.YtcjgaohblaidjaaGreatDoor
open Go Go.RowKit
def kyP5 (x:Int×Bs) (cs:List Value):Prop:=cs=[.int .i64 x.1,.string ⟨x.2.toArray⟩]∧(Lit.int .i64 x.1).wf=true∧x.2.length≤maxLen
theorem zPx {x:Int×Bs}{cs:List Value}(h:kyP5 x cs):∀ u∈cs,u.oneCell'=true:=by
 obtain⟨rfl,_⟩:=h;intro u hu;simp only[List.mem_cons,List.not_mem_nil,or_false]at hu;rcases hu with rfl|rfl<;>rfl
theorem OwnC5.kept {α:Type}{Pr:α→List Value→Prop}{e:TypeId}{c:Nat}{w w':World}{base:Nat}{v:Value}{l:List α}(h:OwnE (elC Pr) e c w base v l) (hb:∀ g,v.ownBlock=some g→w'.heap[g]?=w.heap[g]?):OwnE (elC Pr) e c w' base v l:=by
 obtain⟨xs,ho,hx⟩:=h;refine⟨xs,⟨ho.1,?_⟩,hx⟩;rcases ho.2 with hn|⟨g,cap,cur,rfl,hB,hg,rest⟩
 ·exact .inl hn
 ·exact .inr ⟨g,cap,cur,rfl,hB,(hb g (by simp[Value.ownBlock])).trans hg,rest⟩
structure MpR (Pr:Vl→List Value→Prop) (H:Nat) (w:World) (u1 u2:Value) (ks:List (Int×Bs)) (vs:List Vl):Prop where
 ky:OwnE (elC kyP5) 80 2 w H u1 ks
 vl:OwnE (elC Pr) 27 7 w H u2 vs
 dj:∀ g,u1.ownBlock=some g→u2.ownBlock=some g→False
theorem MpR.nil (Pr:Vl→List Value→Prop) (H:Nat) (w:World):MpR Pr H w (.slice none 0 0) (.slice none 0 0) [] []:=
 ⟨OwnE.nil _ _ _ _ _,OwnE.nil _ _ _ _ _,fun g h=>by simp[Value.ownBlock]at h⟩
theorem MpR.keep {Pr:Vl→List Value→Prop}{H:Nat}{w w':World}{u1 u2:Value}{ks:List (Int×Bs)}{vs:List Vl}(h:MpR Pr H w u1 u2 ks vs) (hb:∀ b,H≤b→b<w.heap.size→w'.heap[b]?=w.heap[b]?):MpR Pr H w' u1 u2 ks vs:=
 ⟨OwnC5.kept h.ky fun g hg=>hb g (h.ky.blk5 g hg).1 (h.ky.blk5 g hg).2,OwnC5.kept h.vl fun g hg=>hb g (h.vl.blk5 g hg).1 (h.vl.blk5 g hg).2,h.dj⟩
theorem MpR.key {Pr:Vl→List Value→Prop}{H:Nat}{w w':World}{u1 u1' u2:Value}{ks ks':List (Int×Bs)}{vs:List Vl}(h:MpR Pr H w u1 u2 ks vs) (ho:OwnE (elC kyP5) 80 2 w' H u1' ks') (hk:∀ b,b<w.heap.size→some b≠u1.ownBlock→w'.heap[b]?=w.heap[b]?) (hg:∀ g,u1'.ownBlock=some g→u1.ownBlock=some g∨w.heap.size≤g):MpR Pr H w' u1' u2 ks' vs:=by
 refine⟨ho,OwnC5.kept h.vl fun g hg2=>hk g (h.vl.blk5 g hg2).2 fun e=>h.dj g e.symm hg2,fun g h1 h2=>?_⟩;rcases hg g h1 with h3|h3
 ·exact h.dj g h3 h2
 ·have:=(h.vl.blk5 g h2).2;omega
theorem MpR.val {Pr:Vl→List Value→Prop}{H:Nat}{w w':World}{u1 u2 u2':Value}{ks:List (Int×Bs)}{vs vs':List Vl}(h:MpR Pr H w u1 u2 ks vs) (ho:OwnE (elC Pr) 27 7 w' H u2' vs') (hk:∀ b,b<w.heap.size→some b≠u2.ownBlock→w'.heap[b]?=w.heap[b]?) (hg:∀ g,u2'.ownBlock=some g→u2.ownBlock=some g∨w.heap.size≤g):MpR Pr H w' u1 u2' ks vs':=by
 refine⟨OwnC5.kept h.ky fun g hg1=>hk g (h.ky.blk5 g hg1).2 fun e=>h.dj g hg1 e.symm,ho,fun g h1 h2=>?_⟩;rcases hg g h2 with h3|h3
 ·exact h.dj g h1 h3
 ·have:=(h.ky.blk5 g h1).2;omega
theorem zMm {ops:Array Oper}{rest:List Oper}{o:Oper}{a:Act}{Q:Exit→Act→World→Prop}{w0:World}(hgd:o.guard=none) (s x:Operand)
  (ho:o.op=.call { callee:=.builtin .append,args:=#[s,x],argTypes:=#[23,23] }) (base:Nat) (v:Value) (l:List (Int×Bs)) (hs:a.eval s=v) (hown:OwnE (elC kyP5) 80 2 w0 base v l)
  (y:Int×Bs) (hy:(Lit.int .i64 y.1).wf=true∧y.2.length≤maxLen) (cap1:Nat) (H:Nat) (hH:w0.heap.size=H) (hx:a.eval x=.slice (some ⟨H,0,none⟩) 1 cap1) (hn:l.length≤300000000) (hbase:base≤w0.heap.size)
  (h:∀ g cap w',OwnE (elC kyP5) 80 2 w' base (.slice (some ⟨g,0,none⟩) (l.length+1) cap) (l++[y])→Below base w0 w'→(∀ b,b<w0.heap.size→some b≠v.ownBlock→w'.heap[b]?=w0.heap[b]?)→(v.ownBlock=some g∨w0.heap.size≤g)→wpList Tryz.prog ops Q rest (a.put o.dst (.slice (some ⟨g,0,none⟩) (l.length+1) cap)) w') :
  wpList Tryz.prog ops Q (o::rest) a (w0.alloc (.cells #[.int .i64 y.1,.string ⟨y.2.toArray⟩] 80)):=by
 obtain⟨i0,hi,hz0,hz1,hz2⟩:=info_parts Tryz.infoK;subst hH;obtain⟨g,cap,w',h1,h2,h3,h4,h5⟩:=zBa (elC kyP5) 23 o.type 80 i0 (.agg #[.int .i64 0,.string ⟨#[]⟩]) 2 24 Tryz.underlying23 hi hz0 hz1 hz2 rfl (by decide) (by decide) w0 base v l hown y [.int .i64 y.1,.string ⟨y.2.toArray⟩] ⟨rfl,hy⟩ rfl (zPx ⟨rfl,hy⟩) hn hbase _ rfl cap1;exact Lib.wpList_append_run _ hgd s x 23 23 ho v _ hs hx _ w' h1 (h g cap w' h2 h3 h4 h5)
theorem zMl {ops:Array Oper}{rest:List Oper}{o:Oper}{a:Act}{Q:Exit→Act→World→Prop}{w0:World}(hgd:o.guard=none) (s x:Operand)
  (ho:o.op=.call { callee:=.builtin .append,args:=#[s,x],argTypes:=#[22,22] }) (Pr:Vl→List Value→Prop) (base:Nat) (v:Value) (l:List Vl) (hs:a.eval s=v) (hown:OwnE (elC Pr) 27 7 w0 base v l)
  (y:Vl) (cs:List Value) (hy:Pr y cs) (hcs:cs.length=7) (h1c:∀ u∈cs,u.oneCell'=true) (cells:Array Value) (hcells:cells=cs.toArray) (cap1:Nat) (H:Nat) (hH:w0.heap.size=H) (hx:a.eval x=.slice (some ⟨H,0,none⟩) 1 cap1) (hn:l.length≤300000000) (hbase:base≤w0.heap.size)
  (h:∀ g cap w',OwnE (elC Pr) 27 7 w' base (.slice (some ⟨g,0,none⟩) (l.length+1) cap) (l++[y])→Below base w0 w'→(∀ b,b<w0.heap.size→some b≠v.ownBlock→w'.heap[b]?=w0.heap[b]?)→(v.ownBlock=some g∨w0.heap.size≤g)→wpList Tryz.prog ops Q rest (a.put o.dst (.slice (some ⟨g,0,none⟩) (l.length+1) cap)) w') :
  wpList Tryz.prog ops Q (o::rest) a (w0.alloc (.cells cells 27)):=by
 obtain⟨i0,hi,hz0,hz1,hz2⟩:=info_parts Tryz.infoV;subst hH hcells;obtain⟨g,cap,w',h1,h2,h3,h4,h5⟩:=zBa (elC Pr) 22 o.type 27 i0 (.agg #[.int .i64 0,.int .i64 0,.string ⟨#[]⟩,.slice none 0 0,.slice none 0 0,.slice none 0 0,.slice none 0 0]) 7 128 Tryz.underlying22 hi hz0 hz1 hz2 rfl (by decide) (by decide) w0 base v l hown y cs hy hcs h1c hn hbase _ rfl cap1;exact Lib.wpList_append_run _ hgd s x 22 22 ho v _ hs hx _ w' h1 (h g cap w' h2 h3 h4 h5)
theorem zQs (k:Nat){w2 V:World}{B B':Nat→Prop}{lo:Nat}{u1 u2:Value}{ks:List (Int×Bs)}{vs:List Vl}(h:MpR (fun x cs=>VB k w2 B x cs) lo V u1 u2 ks vs) (hsm:Same B w2 V) (hB:∀ b,B b→B' b) (hB2:∀ b,lo≤b→b<V.heap.size→B' b) (hk:ks.length≤maxLen) (hv:vs.length≤maxLen) :
  VB (k+1) V B' (.mk 8 0 [] vs ks [] []) [.int .i64 8,.int .i64 0,.string ⟨#[]⟩,u2,u1,.slice none 0 0,.slice none 0 0]:=by
 have hn:∀ (c:Nat) (R:Nat→List Value→Prop),RowB V B' c (.slice none 0 0) 0 R:=fun c R=>⟨none,0,rfl,⟨Nat.zero_le _,Nat.le_refl _⟩,fun h=>absurd h (Nat.lt_irrefl _)⟩;refine⟨_,_,_,_,rfl,by decide,by decide,by simp,?_,?_,hn _ _,hn _ _⟩
 ·refine (h.vl.row (by decide) hv).sub (fun b hb=>hB2 b hb.1 hb.2) ?_;rintro j cs ⟨x,hx,hv⟩;exact⟨x,hx,VB.sub hB lR (VB.keep hsm hv)⟩
 ·refine (h.ky.row (by decide) hk).sub (fun b hb=>hB2 b hb.1 hb.2) ?_;rintro j cs ⟨x,hx,h1,h2,h3⟩;exact⟨x,hx,h1,h2,h3⟩
theorem zMa (k:Nat) (x:En) (w:World) (B:Nat→Prop) (cs:List Value) (h:(elE k).E x w B cs):∀ u∈cs,u.oneCell'=true:=by
 obtain⟨a,f,r,rfl,ua,rs,rfl,h3,h4⟩:=h;have h5:=zBn k r w B rs h4;obtain⟨A,c,rfl,_⟩:=h3.form;intro u hu;simp only[List.mem_cons]at hu;rcases hu with rfl|rfl|hu
 ·rfl
 ·rfl
 ·exact h5 u hu
theorem zJd {ops:Array Oper}{rest:List Oper}{o:Oper}{a:Act}{Q:Exit→Act→World→Prop}{w0:World}(hgd:o.guard=none) (s x:Operand)
  (ho:o.op=.call { callee:=.builtin .append,args:=#[s,x],argTypes:=#[24,24] }) (k:Nat) (base:Nat) (v:Value) (l:List En) (hs:a.eval s=v) (hown:OwnE (elE k) 45 9 w0 base v l)
  (y:En) (cs:List Value) (cap1:Nat) (H:Nat) (hH:w0.heap.size=H) (hx:a.eval x=.slice (some ⟨H,0,none⟩) 1 cap1) (cells:Array Value) (hcells:cells=cs.toArray)
  (hy:(elE k).E y w0 (fun b=>base≤b∧b<w0.heap.size∧some b≠v.ownBlock) cs) (hcs:cs.length=9) (h1c:∀ u∈cs,u.oneCell'=true) (hn:l.length≤300000000) (hbase:base≤w0.heap.size)
  (h:∀ g cap w',OwnE (elE k) 45 9 w' base (.slice (some ⟨g,0,none⟩) (l.length+1) cap) (l++[y])→Below base w0 w'→wpList Tryz.prog ops Q rest (a.put o.dst (.slice (some ⟨g,0,none⟩) (l.length+1) cap)) w') :
  wpList Tryz.prog ops Q (o::rest) a (w0.alloc (.cells cells 45)):=by
 subst hcells;obtain⟨i0,hi,hz0,hz1,hz2⟩:=info_parts Tryz.infoE;obtain⟨g,cap,w',h1,h2,h3,_,_⟩:=zBa (elE k) 24 o.type 45 i0 (.agg #[.slice none 0 0,.bool false,.int .i64 0,.int .i64 0,.string ⟨#[]⟩,.slice none 0 0,.slice none 0 0,.slice none 0 0,.slice none 0 0]) 9 160 Tryz.underlying24 hi hz0 hz1 hz2 rfl (by decide) (by decide) w0 base v l hown y cs hy hcs h1c hn hbase H hH cap1;exact Lib.wpList_append_run _ hgd s x 24 24 ho v _ hs hx _ w' h1 (h g cap w' h2 h3)
theorem zPn (B k p:Nat) (hBp:B≤p) (d:Int) (item:Rd En) (hI:Hid (EntI B k p d item)) (sep:Bs) (hsep:sep≠[]) (r:Bs) (w:World) (h:PrsW p r d w) (hr:r.length≤limP) (hE:EnvH B w) :
  Calls Tryz.prog 158 #[.pointer (some ⟨p,0,none⟩),.func (.func 130) #[.pointer (some ⟨p,0,none⟩)] #[],.string ⟨sep.toArray⟩] w (zCa (elE k) 45 9 p d (seqL item sep r) r w):=by
 have hp0:=h.lt;have H0:=xI (Left.refl h);have HE:=xI hE;unfold limP at hr;clear h hE;go_enter Tryz.func158,Tryz.ntmps158;go_wp2_with fail
 go_loopg [8] (r.length+2) (fun gk lv wr=>∃ A cap ls rc,lv=.slice A (List.length (α:=En) ls) cap∧Left p rc r d w wr∧OwnE (elE k) 45 9 wr w.heap.size (.slice A ls.length cap) ls∧rc.length+ls.length≤r.length+1∧((ls=[]∧r=rc∧rc.length+1<gk)∨(ls≠[]∧rc.length<gk∧seqL item sep r=contL item sep ls rc)))
 case atStart=>exact⟨none,0,[],r,rfl,H0.out,OwnE.nil _ _ _ _ _,by simp,.inl ⟨rfl,rfl,by omega⟩⟩
 case round=>
  obtain⟨A,cap,ls,rc,rfl,hL,hO,hlen,hcase0⟩:=hrel;have hrc:=hL.2.2;rcases id hcase0 with⟨rfl,rfl,hg⟩|⟨hne,hg,heq⟩
  ·have hvc:=hI.out r wr hL.2.1 (by unfold limP;omega) (HE.out.eff hL.1 hBp);have hzW:=hL.1.size;cases ho:item r with
   | none=>
    rw[ho]at hvc;have HQ:=xI (show seqL item sep r=none from zDd ho);have HL:=xI hL;clear hO hL hcase0;go_wp2_with fail;refine hvc.mono ?_;rintro e w3 ⟨A0,n0,c0,f,a,i,s,A1,n1,c1,A2,n2,c2,A3,n3,c3,A4,n4,c4,q,rfl,hL3,hres⟩;clear hvc hres;have HX:=xI ((HL.out.trans hL3).below (bR.alloc lR (.cells #[.slice A0 n0 c0,.bool f,.int .i64 a,.int .i64 i,.string s,.slice A1 n1 c1,.slice A2 n2 c2,.slice A3 n3 c3,.slice A4 n4 c4] 45)));clear hL3;go_wp2;refine bodyPost_ret (v:=.tuple #[.slice none 0 0,.bool false]) (by simp[results,Tryz.results158,go_sem]) rfl ?_;exact⟨none,0,0,q,[],by rw[HQ.out];rfl,HX.out,⟨rfl,by omega,OwnE.nil _ _ _ _ _⟩,fun l t h=>by rw[HQ.out]at h;cases h⟩
   | some vt=>
    obtain⟨v,t⟩:=vt;rw[ho]at hvc;have HL:=xI hL;have HO:=xI hO;have HLL:=xI hlen;clear hO hL hcase0 hlen;go_wp2_with fail;refine hvc.mono ?_;rintro e w3 ⟨A0,n0,c0,f,a,i,s,A1,n1,c1,A2,n2,c2,A3,n3,c3,A4,n4,c4,q,rfl,hL3,hres⟩;obtain⟨rfl,hvb⟩:=hres _ _ rfl;clear hvc hres;have hl3:=hL3.2.2;have HQ:=xI (show seqL item sep r=contL item sep ([]++[v]) q from zDc ho hl3 hsep);have hO3:=HO.out.eff hL3.1 hp0;have hblk:=HO.out.blk5;have hz3:=hL3.1.size;have hLa:=HL.out.trans hL3;have hbx:Below w3.heap.size w3 (w3.alloc (.cells #[.slice A0 n0 c0,.bool f,.int .i64 a,.int .i64 i,.string s,.slice A1 n1 c1,.slice A2 n2 c2,.slice A3 n3 c3,.slice A4 n4 c4] 45)):=bR.alloc lR _;have hO4:=hO3.old hbx;have hLb:=hLa.below hbx;have hvb4:(elE k).E v (w3.alloc (.cells #[.slice A0 n0 c0,.bool f,.int .i64 a,.int .i64 i,.string s,.slice A1 n1 c1,.slice A2 n2 c2,.slice A3 n3 c3,.slice A4 n4 c4] 45)) (fun b=>w.heap.size≤b∧b<(w3.alloc (.cells #[.slice A0 n0 c0,.bool f,.int .i64 a,.int .i64 i,.string s,.slice A1 n1 c1,.slice A2 n2 c2,.slice A3 n3 c3,.slice A4 n4 c4] 45)).heap.size∧some b≠(Value.slice A ([]:List En).length cap).ownBlock) [.slice A0 n0 c0,.bool f,.int .i64 a,.int .i64 i,.string s,.slice A1 n1 c1,.slice A2 n2 c2,.slice A3 n3 c3,.slice A4 n4 c4]:=((elE k).sub (fun b hb=>⟨by have:=hb.1;omega,by have:=hb.2;simp;omega,fun e=>by have:=hblk b e.symm;have:=hb.1;omega⟩) ((elE k).keep (Same.of_below hbx fun b hb=>hb.2) hvb));have hll:=HLL.out;have hz4:w.heap.size≤(w3.alloc (.cells #[.slice A0 n0 c0,.bool f,.int .i64 a,.int .i64 i,.string s,.slice A1 n1 c1,.slice A2 n2 c2,.slice A3 n3 c3,.slice A4 n4 c4] 45)).heap.size:=by simp;omega
    have HLB:=xI hLb;have HG:=xI (aN hg hl3);clear hLb hLa hL3 hO3 hbx hvb hg ho;obtain⟨V,hV⟩:∃ V,V=w3.alloc (.cells #[.slice A0 n0 c0,.bool f,.int .i64 a,.int .i64 i,.string s,.slice A1 n1 c1,.slice A2 n2 c2,.slice A3 n3 c3,.slice A4 n4 c4] 45):=⟨_,rfl⟩;go_wp2_with (at_builtin;refine zJd rfl _ _ rfl k w.heap.size (.slice A ([]:List En).length cap) [] rfl hO4 v _ 1 (w3.heap.size+1) (by simp) rfl _ rfl hvb4 rfl (zMa k v _ _ _ hvb4) (by omega) hz4 ?_;intro g2 cap2 w4 ho4 hb4;refine Hid.out ?_);refine xI ?_;have HO4:=xI ho4;have HL4:=xI (show Left p q r d w w4 from⟨HLB.out.1.grow hb4 hp0,HLB.out.2.1.below hb4 hp0,HLB.out.2.2⟩);clear ho4 hb4 hvb4 hO4;go_wp2_with fail
    go_roundg (q.length+1)
    case measure=>have:=HG.out.1;have:=HG.out.2;omega
    case rel=>
     have:=HG.out.2;have hll:=HLL.out;exact⟨some ⟨g2,0,none⟩,cap2,[]++[v],q,by rw[List.length_append];rfl,HL4.out,by rw[List.length_append];exact HO4.out,by rw[List.length_append];simp only[List.length_singleton,List.length_nil];simp at hll;omega,.inr ⟨by simp,by omega,HQ.out⟩⟩
  ·have hpos:=List.length_pos_iff.2 hne;cases hcut:cutP sep rc with
   | none=>
    have hac:=zAr p rc sep d wr hL.2.1 hcut;have HQ:=xI (heq.trans (zE7 ls hcut));have HL:=xI hL;have HO:=xI hO;clear hL hO hcase0 heq;generalize hln:ls.length=m at *;have HLN:=xI hln;have HGS:=xI hg;clear hln hg;have k1:¬ (m:Int)=0:=by omega
    go_wp2_with fail;refine hac.mono ?_;rintro e w1 ⟨rfl,hL1,hs1⟩;clear hac;have HL1:=xI hL1;have HS1:=xI hs1;clear hL1 hs1;go_wp2;refine bodyPost_ret (v:=.tuple #[.slice A m cap,.bool true]) (by simp[results,Tryz.results158,go_sem]) rfl ?_;refine⟨A,m,cap,rc,ls,by rw[HQ.out];rfl,HL.out.trans HL1.out,⟨HLN.out.symm,by omega,HO.out.eff HL1.out.1 hp0⟩,fun l t h=>?_⟩;rw[HQ.out]at h;simp only[Option.some.injEq,Prod.mk.injEq]at h;obtain⟨rfl,rfl⟩:=h;exact⟨rfl,rfl⟩
   | some r'=>
    have hac:=zAk p rc sep r' d wr hL.2.1 hcut;have hcl:=zA2 hcut;have k1:¬ (ls.length:Int)=0:=by omega
    have HL0:=xI hL;have HO0:=xI hO;have HQ0:=xI (aN heq (aN hcut hlen));have HG0:=xI hg;clear hL hO hcase0 heq hcut hlen hg;go_wp2_with fail;refine hac.mono ?_;rintro e w1 ⟨rfl,hL1,hs1⟩;clear hac hs1;have hL:=HL0.out.trans hL1;have hO:=HO0.out.eff hL1.1 hp0;obtain⟨heq,hcut,hlen⟩:=HQ0.out;have hg:=HG0.out;have hvc:=hI.out r' w1 hL.2.1 (by unfold limP;omega) (HE.out.eff hL.1 hBp);clear hL1;have hcase0:=True.intro;have hzW:=hL.1.size;cases ho:item r' with
    | none=>
     rw[ho]at hvc;have HQ:=xI (show seqL item sep r=none from (heq.trans (zD3 ls hcut ho)));have HL:=xI hL;clear hO hL hcase0;go_wp2_with fail;refine hvc.mono ?_;rintro e w3 ⟨A0,n0,c0,f,a,i,s,A1,n1,c1,A2,n2,c2,A3,n3,c3,A4,n4,c4,q,rfl,hL3,hres⟩;clear hvc hres;have HX:=xI ((HL.out.trans hL3).below (bR.alloc lR (.cells #[.slice A0 n0 c0,.bool f,.int .i64 a,.int .i64 i,.string s,.slice A1 n1 c1,.slice A2 n2 c2,.slice A3 n3 c3,.slice A4 n4 c4] 45)));clear hL3;go_wp2;refine bodyPost_ret (v:=.tuple #[.slice none 0 0,.bool false]) (by simp[results,Tryz.results158,go_sem]) rfl ?_;exact⟨none,0,0,q,[],by rw[HQ.out];rfl,HX.out,⟨rfl,by omega,OwnE.nil _ _ _ _ _⟩,fun l t h=>by rw[HQ.out]at h;cases h⟩
    | some vt=>
     obtain⟨v,t⟩:=vt;rw[ho]at hvc;have HL:=xI hL;have HO:=xI hO;have HLL:=xI hlen;clear hO hL hcase0 hlen;go_wp2_with fail;refine hvc.mono ?_;rintro e w3 ⟨A0,n0,c0,f,a,i,s,A1,n1,c1,A2,n2,c2,A3,n3,c3,A4,n4,c4,q,rfl,hL3,hres⟩;obtain⟨rfl,hvb⟩:=hres _ _ rfl;clear hvc hres;have hl3:=hL3.2.2;have HQ:=xI (show seqL item sep r=contL item sep (ls++[v]) q from (heq.trans (zD2 ls hcut ho hl3 hsep)));have hO3:=HO.out.eff hL3.1 hp0;have hblk:=HO.out.blk5;have hz3:=hL3.1.size;have hLa:=HL.out.trans hL3;have hbx:Below w3.heap.size w3 (w3.alloc (.cells #[.slice A0 n0 c0,.bool f,.int .i64 a,.int .i64 i,.string s,.slice A1 n1 c1,.slice A2 n2 c2,.slice A3 n3 c3,.slice A4 n4 c4] 45)):=bR.alloc lR _;have hO4:=hO3.old hbx;have hLb:=hLa.below hbx;have hvb4:(elE k).E v (w3.alloc (.cells #[.slice A0 n0 c0,.bool f,.int .i64 a,.int .i64 i,.string s,.slice A1 n1 c1,.slice A2 n2 c2,.slice A3 n3 c3,.slice A4 n4 c4] 45)) (fun b=>w.heap.size≤b∧b<(w3.alloc (.cells #[.slice A0 n0 c0,.bool f,.int .i64 a,.int .i64 i,.string s,.slice A1 n1 c1,.slice A2 n2 c2,.slice A3 n3 c3,.slice A4 n4 c4] 45)).heap.size∧some b≠(Value.slice A ls.length cap).ownBlock) [.slice A0 n0 c0,.bool f,.int .i64 a,.int .i64 i,.string s,.slice A1 n1 c1,.slice A2 n2 c2,.slice A3 n3 c3,.slice A4 n4 c4]:=((elE k).sub (fun b hb=>⟨by have:=hb.1;omega,by have:=hb.2;simp;omega,fun e=>by have:=hblk b e.symm;have:=hb.1;omega⟩) ((elE k).keep (Same.of_below hbx fun b hb=>hb.2) hvb));have hll:=HLL.out;have hz4:w.heap.size≤(w3.alloc (.cells #[.slice A0 n0 c0,.bool f,.int .i64 a,.int .i64 i,.string s,.slice A1 n1 c1,.slice A2 n2 c2,.slice A3 n3 c3,.slice A4 n4 c4] 45)).heap.size:=by simp;omega
     have HLB:=xI hLb;have HG:=xI (aN hg hl3);clear hLb hLa hL3 hO3 hbx hvb hg ho;obtain⟨V,hV⟩:∃ V,V=w3.alloc (.cells #[.slice A0 n0 c0,.bool f,.int .i64 a,.int .i64 i,.string s,.slice A1 n1 c1,.slice A2 n2 c2,.slice A3 n3 c3,.slice A4 n4 c4] 45):=⟨_,rfl⟩;go_wp2_with (at_builtin;refine zJd rfl _ _ rfl k w.heap.size (.slice A ls.length cap) ls rfl hO4 v _ 1 (w3.heap.size+1) (by simp) rfl _ rfl hvb4 rfl (zMa k v _ _ _ hvb4) (by omega) hz4 ?_;intro g2 cap2 w4 ho4 hb4;refine Hid.out ?_);refine xI ?_;have HO4:=xI ho4;have HL4:=xI (show Left p q r d w w4 from⟨HLB.out.1.grow hb4 hp0,HLB.out.2.1.below hb4 hp0,HLB.out.2.2⟩);clear ho4 hb4 hvb4 hO4;go_wp2_with fail
     go_roundg (q.length+1)
     case measure=>have:=HG.out.1;have:=HG.out.2;have:=zA2 hcut;have:=List.length_pos_iff.2 hsep;omega
     case rel=>
      have:=HG.out.2;have hll:=HLL.out;exact⟨some ⟨g2,0,none⟩,cap2,ls++[v],q,by rw[List.length_append];rfl,HL4.out,by rw[List.length_append];exact HO4.out,by rw[List.length_append];simp only[List.length_singleton];have:=zA2 hcut;have:=List.length_pos_iff.2 hsep;omega,.inr ⟨by simp,by omega,HQ.out⟩⟩
theorem zP6 (B k p:Nat) (hBp:B≤p) (d:Int) (item:Rd En) (hI:Hid (EntI B k p d item)) (en:Bs) (r:Bs) (w:World) (h:PrsW p r d w) (hr:r.length≤limP) (hE:EnvH B w) :
  Calls Tryz.prog 129 #[.pointer (some ⟨p,0,none⟩),.func (.func 130) #[.pointer (some ⟨p,0,none⟩)] #[],.string ⟨en.toArray⟩] w (zCa (elE k) 45 9 p d (manyP item en r) r w):=by
 have hlp:=h.lt;unfold limP at hr;cases hc:cutP en r with
 | some q=>
  have hac:=zAk p r en q d w h hc;have HQ:=xI (zFn (item:=item) hc);clear hc h hE;go_enter Tryz.func129,Tryz.ntmps129;go_wp2_with fail;refine hac.mono ?_;rintro e w1 ⟨rfl,hL1,hs1⟩;clear hac;have HL1:=xI hL1;clear hL1 hs1;go_wp2;refine bodyPost_ret (v:=.tuple #[.slice none 0 0,.bool true]) (by simp[results,Tryz.results129,go_sem]) rfl ?_;refine⟨none,0,0,q,[],by rw[HQ.out];rfl,HL1.out,⟨rfl,by omega,OwnE.nil _ _ _ _ _⟩,fun l t hx=>?_⟩;rw[HQ.out]at hx;simp only[Option.some.injEq,Prod.mk.injEq]at hx;obtain⟨rfl,rfl⟩:=hx;exact⟨rfl,rfl⟩
 | none=>
  have hac:=zAr p r en d w h hc;have HC:=xI hc;have HE:=xI hE;clear hc h hE;go_enter Tryz.func129,Tryz.ntmps129;go_wp2_with fail;refine hac.mono ?_;rintro e w1 ⟨rfl,hL1,hs1⟩;clear hac;have hsq:=zPn B k p hBp d item hI zAc (by decide) r w1 hL1.2.1 (by unfold limP;omega) (HE.out.eff hL1.1 hBp);have HL1:=xI hL1;have HS1:=xI hs1;clear hL1 hs1;cases ho:seqL item zAc r with
  | none=>
   rw[ho]at hsq;have HQ:=xI (zFo HC.out ho);clear ho;go_wp2_with fail;refine hsq.mono ?_;rintro e w2 ⟨A,n,cap,q,l0,rfl,hL2,⟨hn,hn2,hown⟩,hres⟩;clear hsq hres;rw[HS1.out]at hown;have HOW:=xI (aN hn (aN hn2 hown));clear hn hn2 hown;have HL2:=xI (HL1.out.trans hL2);clear hL2;go_wp2;refine bodyPost_ret (v:=.tuple #[.slice A n cap,.bool false]) (by simp[results,Tryz.results129,go_sem]) rfl ?_;exact⟨A,n,cap,q,l0,by rw[HQ.out];rfl,HL2.out,HOW.out,fun l t hx=>by rw[HQ.out]at hx;cases hx⟩
  | some lt=>
   obtain⟨l,t⟩:=lt;rw[ho]at hsq;have HO:=xI ho;clear ho;go_wp2_with fail;refine hsq.mono ?_;rintro e w2 ⟨A,n,cap,q,l0,rfl,hL2,⟨hn,hn2,hown⟩,hres⟩;clear hsq;obtain⟨rfl,rfl⟩:=hres _ _ rfl;clear hres;have HN:=xI (aN hn hn2);rw[HS1.out]at hown;have HOW:=xI hown;have HL2:=xI (HL1.out.trans hL2);have hPq:=hL2.2.1;clear hn hn2 hown hL2;cases hd:cutP en q with
   | none=>
    have hac:=zAr p q en d w2 hPq hd;have HQ:Hid (manyP item en r=none):=xI ((zCr HC.out HO.out).trans (by rw[hd];rfl));clear hd hPq;go_wp2_with fail;refine hac.mono ?_;rintro e w3 ⟨rfl,hL3,hs3⟩;clear hac;have HL3:=xI (HL2.out.trans hL3);have HOW3:=xI (HOW.out.eff hL3.1 hlp);clear hL3 hs3;go_wp2;refine bodyPost_ret (v:=.tuple #[.slice A n cap,.bool false]) (by simp[results,Tryz.results129,go_sem]) rfl ?_;exact⟨A,n,cap,q,l0,by rw[HQ.out];rfl,HL3.out,⟨HN.out.1,HN.out.2,HOW3.out⟩,fun l t hx=>by rw[HQ.out]at hx;cases hx⟩
   | some u=>
    have hac:=zAk p q en u d w2 hPq hd;have HQ:Hid (manyP item en r=some (l0,u)):=xI ((zCr HC.out HO.out).trans (by rw[hd];rfl));clear hd hPq;go_wp2_with fail;refine hac.mono ?_;rintro e w3 ⟨rfl,hL3,hs3⟩;clear hac;have HL3:=xI (HL2.out.trans hL3);have HOW3:=xI (HOW.out.eff hL3.1 hlp);clear hL3 hs3;go_wp2;refine bodyPost_ret (v:=.tuple #[.slice A n cap,.bool true]) (by simp[results,Tryz.results129,go_sem]) rfl ?_;refine⟨A,n,cap,u,l0,by rw[HQ.out];rfl,HL3.out,⟨HN.out.1,HN.out.2,HOW3.out⟩,fun l' t hx=>?_⟩;rw[HQ.out]at hx;simp only[Option.some.injEq,Prod.mk.injEq]at hx;obtain⟨rfl,rfl⟩:=hx;exact⟨rfl,rfl⟩
def strN:Value→Nat
 | .string b=>b.size
 | _=>0
theorem zGr {k i:Int}{t:Bs}{v:List Vl}{y:List (Int×Bs)}{e:List En}{l:List Bs}(h:okV (.mk k i t v y e l)=true) (hk:k=7):∃ a b,v=[a,b]∧okV a=true∧okV b=true∧(zAj b=5∨zAj b=7):=by
 subst hk;simp only[okV,zAn,Bool.and_eq_true,List.all_eq_true]at h;have hc:consB v=true:=h.1.1.2
 match v,hc,h.1.2 with
 | [a,b],hc,h2=>exact⟨a,b,rfl,h2 a (by simp),h2 b (by simp),by simpa [consB] using hc⟩
theorem zK4 {i:Int}{t:Bs}{v:List Vl}{y:List (Int×Bs)}{e:List En}(k:Int) (l:List Bs):k=5→l=[]→tlV (.mk k i t v y e l)=[93]:=by
 rintro rfl rfl;rw[zD8,if_neg (by simp),if_pos ⟨rfl,rfl⟩]
theorem zO0 (k:Nat) (hP:Hid (ShowR k)) (v:Vl) (cs:List Value) (w:World) (hv:VS (k+1) w w.heap.size v cs) (hk:zAj v=7) (hok:okV v=true) (hlm:(bodyV v).length≤LIM) (hT:Tb w) :
  Calls Tryz.prog 40 #[.agg cs.toArray] w fun e w'=>e=.returned (.string ⟨(bodyV v).toArray⟩)∧Below w.heap.size w w':=by
 obtain⟨kind,int,text,kids,keys,ents,labels⟩:=v;have hk7:kind=7:=hk;obtain⟨a,b,rfl,hoa,hob,hkb⟩:=zGr hok hk7;subst hk7;have eb:bodyV (.mk 7 int text [a,b] keys ents labels)=91::(showV a++tlV b):=by
  show 91::consL (shs [a,b])=_;rw[zBs]
 rw[eb]at hlm ⊢;clear eb;obtain⟨uk,uy,ue,ul,rfl,_,_,_,hkk,hyy,hee,hll⟩:=hv;obtain⟨Ay,cy,rfl,_⟩:=hyy.form;obtain⟨Ae,ce,rfl,_⟩:=hee.form;obtain⟨Al,cl,rfl,_⟩:=hll.form;obtain⟨bk,off,ck,x0,x1,x2,x3,x4,x5,x6,hu,hbk,⟨xa,hxa,hva⟩,c0,c1,c2,c3,c4,c5,c6⟩:=hkk.at7 (j:=0) (by simp);obtain⟨bk',off',ck',z0,z1,z2,z3,z4,z5,z6,hu',hbk',⟨xb,hxb,hvb⟩,d0,d1,d2,d3,d4,d5,d6⟩:=hkk.at7 (j:=1) (by simp);rw[hu]at hu';injection hu' with e1 _ e3;injection e1 with e1;injection e1 with e1 e2;subst e1 e2 e3 hu;have hxa':a=xa:=by simpa using hxa
 have hxb':b=xb:=by simpa using hxb
 subst hxa' hxb';clear hxa hxb hkk hyy hee hll hok hk;obtain⟨za,zi,zs,Z3,n3,y3,Z4,n4,y4,Z5,n5,y5,Z6,n6,y6,he7⟩:=hvb.form7;simp only[List.cons.injEq,and_true]at he7;obtain⟨rfl,rfl,rfl,rfl,rfl,rfl,rfl⟩:=he7;obtain⟨W,hW⟩:∃ W,W=w.alloc (.cells #[.int .i64 7,.int .i64 int,.string ⟨text.toArray⟩,.slice (some ⟨bk,off,none⟩) 2 ck,.slice Ay keys.length cy,.slice Ae ents.length ce,.slice Al labels.length cl] 27):=⟨_,rfl⟩;have hbW:Below w.heap.size w W:=by rw[hW];exact bR.alloc lR _
 have kW:W.heap[w.heap.size]?=some (.cells #[.int .i64 7,.int .i64 int,.string ⟨text.toArray⟩,.slice (some ⟨bk,off,none⟩) 2 ck,.slice Ay keys.length cy,.slice Ae ents.length ce,.slice Al labels.length cl] 27 (0,0)):=by rw[hW];exact heap_alloc_new w _
 have hsW:w.heap.size<W.heap.size:=by rw[hW];simp
 simp only[Nat.zero_mul,Nat.add_zero,Nat.one_mul,Nat.add_assoc,Nat.reduceAdd]at c0 c1 c2 c3 c4 c5 c6 d0 d1 d2 d3 d4 d5 d6;have hc:=hP.out a _ W (VS.up hbW.size lR (VS.on hbW hva)) hoa (by simp only[List.length_cons,List.length_append]at hlm;omega) (hT.below lR hbW);have HLM:=xI hlm;have HT:=xI hT;have HK:=xI hkb;have HVB:=xI hvb;clear hlm hT hkb hva hvb;go_enter Tryz.func40,Tryz.ntmps40;go_wp2_with fail;rw[←hW];refine hc.mono ?_;rintro e w1 ⟨rfl,hb1⟩;clear hc;have hbw1:Below w.heap.size w w1:=hbW.trans (hb1.mono hbW.size);have k1:=(hb1.block _ hsW).trans kW;have hs1:w.heap.size<w1.heap.size:=Nat.lt_of_lt_of_le hsW hb1.size;have d0':=(hbw1.cell (p:=⟨bk,off+7,none⟩) hbk).trans d0;have d1':=(hbw1.cell (p:=⟨bk,off+8,none⟩) hbk).trans d1;have d2':=(hbw1.cell (p:=⟨bk,off+9,none⟩) hbk).trans d2;have d3':=(hbw1.cell (p:=⟨bk,off+10,none⟩) hbk).trans d3;have d4':=(hbw1.cell (p:=⟨bk,off+11,none⟩) hbk).trans d4;have d5':=(hbw1.cell (p:=⟨bk,off+12,none⟩) hbk).trans d5;have d6':=(hbw1.cell (p:=⟨bk,off+13,none⟩) hbk).trans d6;obtain⟨e0,e1,e2,e3,e4,e5,e6⟩:=zAd k1;obtain⟨f0,f1,f2,f3,f4,f5,f6⟩:=zAe k1;have hA:=add_b Tryz.prog [91] (showV a) (by have:=HLM.out;unfold LIM at this;simp only[List.length_cons,List.length_append,List.length_nil]at this ⊢;omega);have HB1:=xI hbw1;have HK1:=xI k1;clear hbW kW hsW hb1 hbw1 k1 d0 d1 d2 d3 d4 d5 d6 c0 c1 c2 c3 c4 c5 c6 hW;go_wp2_with fail;obtain⟨V,hV⟩:∃ V,V=(((((((w1.setCell ⟨w.heap.size,0,none⟩ (Value.int .i64 za)).setCell ⟨w.heap.size,1,none⟩ (Value.int .i64 zi)).setCell ⟨w.heap.size,2,none⟩ (Value.string zs)).setCell ⟨w.heap.size,3,none⟩ (Value.slice Z3 n3 y3)).setCell ⟨w.heap.size,4,none⟩ (Value.slice Z4 n4 y4)).setCell ⟨w.heap.size,5,none⟩ (Value.slice Z5 n5 y5)).setCell ⟨w.heap.size,6,none⟩ (Value.slice Z6 n6 y6)):=⟨_,rfl⟩;rw[←hV];obtain⟨kV,hsV,hbV,hoV⟩:=box7s HK1.out lR (Value.int .i64 za) (Value.int .i64 zi) (Value.string zs) (Value.slice Z3 n3 y3) (Value.slice Z4 n4 y4) (Value.slice Z5 n5 y5) (Value.slice Z6 n6 y6) V hV;have HBV:=xI (HB1.out.trans hbV);have HKV:=xI kV;have HSV:=xI (show w.heap.size<V.heap.size by rw[hsV];exact hs1);have HOB:=xI hob;clear hV kV hsV hbV hoV e0 e1 e2 e3 e4 e5 e6 f0 f1 f2 f3 f4 f5 f6 d0' d1' d2' d3' d4' d5' d6' hs1 hA hob
 go_loopw [3] (fun s wr=>∃ (x:Vl) (q:Bs) (m0 m1 m2 m3 m4 m5 m6:Value),s=.string ⟨q.toArray⟩∧Below w.heap.size w wr∧wr.heap[w.heap.size]?=some (.cells #[m0,m1,m2,m3,m4,m5,m6] 27 (0,0))∧VS k wr w.heap.size x [m0,m1,m2,m3,m4,m5,m6]∧okV x=true∧(zAj x=5∨zAj x=7)∧91::(showV a++tlV b)=q++tlV x∧w.heap.size<wr.heap.size) (fun s _=>(91::(showV a++tlV b)).length-strN s)
 case atStart=>exact⟨b,91::showV a,_,_,_,_,_,_,_,rfl,HBV.out,HKV.out,VS.on HBV.out HVB.out,HOB.out,HK.out,rfl,HSV.out⟩
 case round=>
  obtain⟨x,q,m0,m1,m2,m3,m4,m5,m6,rfl,hb,hk,hx,hox,hkx,hq,hlt⟩:=hrel;obtain⟨k',rfl⟩:∃ k',k=k'+1:=by
   cases k with
   | zero=>exact hx.elim
   | succ k'=>exact⟨k',rfl⟩
  obtain⟨kd,i2,t2,v2,y2,en2,l2⟩:=x;have hx0:=hx;obtain⟨uk2,uy2,ue2,ul2,hcs,_,_,_,hkk2,hyy2,hee2,hll2⟩:=hx;obtain⟨Ak2,ck2,rfl,_⟩:=hkk2.form;obtain⟨Ay2,cy2,rfl,_⟩:=hyy2.form;obtain⟨Ae2,ce2,rfl,_⟩:=hee2.form;obtain⟨Al2,cl2,rfl,hl2m⟩:=hll2.form;simp only[List.cons.injEq,and_true]at hcs;obtain⟨rfl,rfl,rfl,rfl,rfl,rfl,rfl⟩:=hcs;obtain⟨e0,e1,e2,e3,e4,e5,e6⟩:=zAd hk;obtain⟨f0,f1,f2,f3,f4,f5,f6⟩:=zAe hk;have hlm:=HLM.out;rw[hq]at hlm;by_cases hl0:l2=[]
  ·subst hl0;rcases hkx with hk5|hk7
   ·have hk5':kd=5:=hk5;subst hk5';have htl:tlV (.mk 5 i2 t2 v2 y2 en2 [])=[93]:=zK4 5 [] rfl rfl;rw[htl]at hq hlm;unfold LIM at hlm;simp only[List.length_append,List.length_cons,List.length_nil]at hlm;have hA:=add_b Tryz.prog q [93] (by simp;omega);have HQ:=xI hq;have HB:=xI hb;clear hq hlm hb hx0 hkk2 hyy2 hee2 hll2 htl hk hox hk5 hl2m;go_wp2;go_ret;exact⟨by rw[HQ.out];rfl,HB.out⟩
   ·have hk7':kd=7:=hk7;obtain⟨a2,b2,rfl,hoa2,hob2,hkb2⟩:=zGr hox hk7';subst hk7';have htl:tlV (.mk 7 i2 t2 [a2,b2] y2 en2 [])=zAc++(showV a2++tlV b2):=by rw[zD8,if_pos ⟨rfl,rfl⟩,zBs]
    rw[htl]at hq hlm;unfold LIM at hlm;simp only[List.length_append,zAc,List.length_cons,List.length_nil]at hlm;obtain⟨bk2,off2,cq2,x0',x1',x2',x3',x4',x5',x6',hu,hbk2,⟨xa,hxa,hva⟩,c0,c1,c2,c3,c4,c5,c6⟩:=hkk2.at7 (j:=0) (by simp);obtain⟨bk3,off3,cq3,z0,z1,z2,z3,z4,z5,z6,hu',hbk3,⟨xb,hxb,hvb⟩,d0,d1,d2,d3,d4,d5,d6⟩:=hkk2.at7 (j:=1) (by simp);rw[hu]at hu';injection hu' with e1' _ e3';injection e1' with e1';injection e1' with e1' e2';subst e1' e2' e3';injection hu with hu1 _ hu3;subst hu1 hu3;have hxa':a2=xa:=by simpa using hxa
    have hxb':b2=xb:=by simpa using hxb
    subst hxa' hxb';obtain⟨za2,zi2,zs2,Z3',n3',y3',Z4',n4',y4',Z5',n5',y5',Z6',n6',y6',he7⟩:=hvb.form7;simp only[List.cons.injEq,and_true]at he7;obtain⟨rfl,rfl,rfl,rfl,rfl,rfl,rfl⟩:=he7;simp only[Nat.zero_mul,Nat.add_zero,Nat.one_mul,Nat.add_assoc,Nat.reduceAdd]at c0 c1 c2 c3 c4 c5 c6 d0 d1 d2 d3 d4 d5 d6;have hA1:=add_b Tryz.prog q [44,32] (by simp;omega);have hA2:=add_b Tryz.prog (q++[44,32]) (showV a2) (by simp;omega);have hc:=hP.out a2 _ wr (VS.up (Nat.le_of_lt hlt) (Nat.le_succ _) hva) hoa2 (by unfold LIM;omega) (HT.out.below lR hb);have HQ:=xI hq;have HLM2:=xI hlm;have HB:=xI hb;have HVB2:=xI hvb;have HOK2:=xI (aN hob2 hkb2);have HKW:=xI hk;clear hq hlm hb hx0 hkk2 hyy2 hee2 hll2 htl hox hk7 hl2m hxa hxb hva hvb hoa2 hob2 hkb2 hk;go_wp2_with fail;refine hc.mono ?_;rintro e w1 ⟨rfl,hb1⟩;clear hc;have hbw1:Below w.heap.size w w1:=HB.out.trans (hb1.mono HB.out.size);have k1:=(hb1.block _ hlt).trans HKW.out;have hs1:w.heap.size<w1.heap.size:=Nat.lt_of_lt_of_le hlt hb1.size;have d0':=(hb1.cell (p:=⟨bk2,off2+7,none⟩) (Nat.lt_trans hbk2 hlt)).trans d0;have d1':=(hb1.cell (p:=⟨bk2,off2+8,none⟩) (Nat.lt_trans hbk2 hlt)).trans d1;have d2':=(hb1.cell (p:=⟨bk2,off2+9,none⟩) (Nat.lt_trans hbk2 hlt)).trans d2;have d3':=(hb1.cell (p:=⟨bk2,off2+10,none⟩) (Nat.lt_trans hbk2 hlt)).trans d3;have d4':=(hb1.cell (p:=⟨bk2,off2+11,none⟩) (Nat.lt_trans hbk2 hlt)).trans d4;have d5':=(hb1.cell (p:=⟨bk2,off2+12,none⟩) (Nat.lt_trans hbk2 hlt)).trans d5;have d6':=(hb1.cell (p:=⟨bk2,off2+13,none⟩) (Nat.lt_trans hbk2 hlt)).trans d6;have HVB3:=xI (VS.on (hb1.mono (Nat.le_of_lt hlt)) HVB2.out);clear e0 e1 e2 e3 e4 e5 e6 f0 f1 f2 f3 f4 f5 f6 d0 d1 d2 d3 d4 d5 d6 c0 c1 c2 c3 c4 c5 c6;obtain⟨e0,e1,e2,e3,e4,e5,e6⟩:=zAd k1;obtain⟨f0,f1,f2,f3,f4,f5,f6⟩:=zAe k1;have HB1:=xI hbw1;have HK1:=xI k1;clear hb1 hbw1 k1;go_wp2_with fail;obtain⟨V,hV⟩:∃ V,V=(((((((w1.setCell ⟨w.heap.size,0,none⟩ (Value.int .i64 za2)).setCell ⟨w.heap.size,1,none⟩ (Value.int .i64 zi2)).setCell ⟨w.heap.size,2,none⟩ (Value.string zs2)).setCell ⟨w.heap.size,3,none⟩ (Value.slice Z3' n3' y3')).setCell ⟨w.heap.size,4,none⟩ (Value.slice Z4' n4' y4')).setCell ⟨w.heap.size,5,none⟩ (Value.slice Z5' n5' y5')).setCell ⟨w.heap.size,6,none⟩ (Value.slice Z6' n6' y6')):=⟨_,rfl⟩;rw[←hV];obtain⟨kV,hsV,hbV,hoV⟩:=box7s HK1.out lR (Value.int .i64 za2) (Value.int .i64 zi2) (Value.string zs2) (Value.slice Z3' n3' y3') (Value.slice Z4' n4' y4') (Value.slice Z5' n5' y5') (Value.slice Z6' n6' y6') V hV;clear hV e0 e1 e2 e3 e4 e5 e6 f0 f1 f2 f3 f4 f5 f6 d0' d1' d2' d3' d4' d5' d6'
    go_roundw
    case rel=>exact⟨b2,q++zAc++showV a2,_,_,_,_,_,_,_,by simp[zAc],HB1.out.trans hbV,kV,VS.up lR (Nat.le_succ _) (VS.on hbV HVB3.out),HOK2.out.1,HOK2.out.2,by rw[HQ.out];simp,by rw[hsV];exact hs1⟩
    case measure=>
     have h1:=HLM2.out;have h2:=congrArg List.length HQ.out;simp only[zAc,List.length_append,List.length_cons,List.length_nil]at h2;simp only[strN,ByteArray.size,List.size_toArray,List.length_append,List.length_cons];omega
  ·have htl:tlV (.mk kd i2 t2 v2 y2 en2 l2)=[32,124,32]++showV (.mk kd i2 t2 v2 y2 en2 l2)++[93]:=by rw[zD8,if_neg (fun h=>hl0 h.2),if_neg (fun h=>hl0 h.2)]
   rw[htl]at hq hlm;unfold LIM at hlm;simp only[List.length_append,List.length_cons,List.length_nil]at hlm;have hlp:(0:Int)<(l2.length:Int):=by
    have:0<l2.length:=List.length_pos_iff.2 hl0;omega
   have hA1:=add_b Tryz.prog q [32,124,32] (by simp;omega);have hA2:=add_b Tryz.prog (q++[32,124,32]) (showV (.mk kd i2 t2 v2 y2 en2 l2)) (by simp;omega);have hA3:=add_b Tryz.prog (q++32::124::32::showV (.mk kd i2 t2 v2 y2 en2 l2)) [93] (by simp;omega);have hc:=hP.out _ _ wr (VS.up (Nat.le_of_lt hlt) lR hx0) hox (by unfold LIM;omega) (HT.out.below lR hb);have HQ:=xI hq;have HB:=xI hb;clear hq hlm hb hx0 hkk2 hyy2 hee2 hll2 htl hk hox hl2m;generalize showV (.mk kd i2 t2 v2 y2 en2 l2)=z at hA2 hA3 hc HQ;have hd0:(l2.length:Int)≠0:=by omega
   rcases hkx with hk5|hk7
   ·have hk5':kd=5:=hk5;subst hk5';clear hk5;go_wp2_with fail;refine hc.mono ?_;rintro e w1 ⟨rfl,hb1⟩;clear hc;go_wp2;go_ret;exact⟨by rw[HQ.out];simp,HB.out.trans (hb1.mono HB.out.size)⟩
   ·have hk7':kd=7:=hk7;subst hk7';clear hk7;go_wp2_with fail;refine hc.mono ?_;rintro e w1 ⟨rfl,hb1⟩;clear hc;go_wp2;go_ret;exact⟨by rw[HQ.out];simp,HB.out.trans (hb1.mono HB.out.size)⟩
theorem zBw (n:Int) (hn:(Lit.int .i64 n).wf=true) (w:World) (hT:Tb w) :
  Calls Tryz.prog 37 #[.int .i64 n,.int .i64 10] w fun e w'=>e=.returned (.string ⟨(Lib.itoa n).toArray⟩)∧Below w.heap.size w w':=by
 have hr:-9223372036854775808≤n∧n≤9223372036854775807:=by
  simp[Lit.wf,IntKind.min,IntKind.max,IntKind.signed,IntKind.bits]at hn;omega
 refine (Tryz.strconv_FormatInt_10 n hr.1 hr.2 w hT).mono ?_;rintro e w' ⟨rfl,k,os,rfl⟩;exact⟨rfl,Lib.below_grow _ w lR k os⟩
theorem zGg (k:Int) (t:Bs) (w:World) (hk:keyB k t=true) :
  Calls Tryz.prog 41 #[.agg #[.int .i64 k,.string ⟨t.toArray⟩]] w fun e w'=>e=.returned (.string ⟨(keyL k t).toArray⟩)∧Below w.heap.size w w':=by
 obtain⟨W,hW⟩:∃ W,W=w.alloc (.cells #[.int .i64 k,.string ⟨t.toArray⟩] 80):=⟨_,rfl⟩;have hb0:Below w.heap.size w W:=by rw[hW];exact bR.alloc lR _
 have c0:W.cell? ⟨w.heap.size,0,none⟩=some (.int .i64 k):=by rw[hW];simp
 have c1:W.cell? ⟨w.heap.size,1,none⟩=some (.string ⟨t.toArray⟩):=by rw[hW];simp
 have hs0:w.heap.size<W.heap.size:=by rw[hW];simp
 have ht:t.length≤64:=by
  unfold keyB at hk;split at hk
  ·have h2:nameB lowB atomT t=true:=hk;unfold nameB at h2;simp only[Bool.and_eq_true,decide_eq_true_eq]at h2;omega
  ·split at hk
   ·simpa using hk
   ·cases hk
 have hv:=zCe k ⟨t.toArray⟩ W (by show t.length≤maxLen;unfold maxLen;omega);rw[show keyB k (⟨t.toArray⟩:ByteArray).data.toList=true from hk]at hv;have h01:k=0∨k=1:=by
  unfold keyB at hk;split at hk
  ·exact .inl ‹_›
  ·split at hk
   ·exact .inr ‹_›
   ·cases hk
 clear hk;go_enter Tryz.func41,Tryz.ntmps41;go_wp2_with fail;rw[←hW];clear hW;refine hv.mono ?_;rintro e w1 ⟨rfl,hb1⟩;clear hv;have d0:=(hb1.cell (p:=⟨w.heap.size,0,none⟩) hs0).trans c0;have d1:=(hb1.cell (p:=⟨w.heap.size,1,none⟩) hs0).trans c1;have hbw:Below w.heap.size w w1:=hb0.trans (hb1.mono hb0.size);have hq:=zF2 ⟨t.toArray⟩ w1 (by show t.length≤35184372088830;omega);clear c0 c1 hs0 hb1 hb0 ht;rcases h01 with rfl|rfl
 ·go_wp2;go_ret;exact⟨rfl,hbw⟩
 ·go_wp2_with fail;refine hq.mono ?_;rintro e w2 ⟨rfl,hb2⟩;go_wp2;go_ret;exact⟨rfl,hbw.trans (hb2.mono hbw.size)⟩
theorem zIx (s:ByteArray) (hlim:s.size≤281474976710656) (h:∀ v,Lib.parseIntB 64 s.data.toList≠.ok v) (w:World) (tp:TypeId) (q:Value) (hv1:w.var? Tryz.prog "strconv.ErrSyntax" = some #[.iface tp q]) (tp2:TypeId) (q2:Value) (hv2:w.var? Tryz.prog "strconv.ErrRange" = some #[.iface tp2 q2]) :
  Calls Tryz.prog 131 #[.string s,.int .i64 10,.int .i64 64] w fun e w'=>∃ N n,e=.returned (.tuple #[.int .i64 n,.iface 179 (.pointer (some ⟨N,0,none⟩))])∧(Lit.int .i64 n).wf=true∧Below w.heap.size w w':=by
 rcases hp:Lib.parseIntB 64 s.data.toList with v|_|_
 ·exact absurd hp (h v)
 ·refine (Any.strconv_ParseInt_10_at64_syntax_var Tryz.laysC174 s hlim hp tp q w hv1).mono ?_;rintro e w' ⟨N,rfl,_,_,hb⟩;exact⟨N,0,rfl,by decide,hb⟩
 ·refine (Any.strconv_ParseInt_10_at64_range_var Tryz.laysC174 s hlim hp tp2 q2 w hv2).mono ?_;rintro e w' ⟨N,rfl,_,_,hb⟩;refine⟨N,_,rfl,?_,hb⟩;unfold Lib.intSat;split<;>decide
theorem zEf (B p:Nat) (hBp:B≤p) (r:Bs) (d:Int) (w:World) (h:PrsW p r d w) (hr:r.length≤limP) (hE:EnvH B w) :
  Calls Tryz.prog 83 #[.pointer (some ⟨p,0,none⟩)] w (zRa p d (numP r) r w):=by
 have hlp:=h.lt;have ht:=zKm p r d w h (by unfold maxLen limP at *;omega);have hq:numP r=(numV (r.takeWhile numC)).map fun x=>(x,r.dropWhile numC):=rfl;have hld:=(List.dropWhile_sublist numC (l:=r)).length_le;have hlt:=(List.takeWhile_sublist numC (l:=r)).length_le;have HQ:=xI hq;clear hq;unfold limP at hr;have hL:Left p (r.dropWhile numC) r d w (w.setCell ⟨p,0,none⟩ (.string ⟨(r.dropWhile numC).toArray⟩)):=⟨Eff.set _ _ _ _,h.set _,hld⟩;generalize numP r=o at HQ ⊢;generalize r.takeWhile numC=t at ht HQ hlt;generalize r.dropWhile numC=u at ht HQ hL;generalize w.setCell ⟨p,0,none⟩ (.string ⟨u.toArray⟩)=w1 at ht hL;obtain⟨hT,⟨tp,qv,hv1⟩,⟨tp2,qv2,hv2⟩⟩:=(hE.eff hL.1 hBp).now;have HL:=xI hL;have hsz:(⟨t.toArray⟩:ByteArray).size=t.length:=rfl;clear h hld hE hL;by_cases hp:∃ v,Lib.parseIntB 64 t=.ok v
 ·obtain⟨n,hp⟩:=hp;have hrg:=zDg hp;have hwf:(Lit.int .i64 n).wf=true:=by
   simp[Lit.wf,IntKind.min,IntKind.max,IntKind.signed,IntKind.bits];omega
  have hpi:=Tryz.strconv_ParseInt_10_at64_ok ⟨t.toArray⟩ (by rw[hsz];omega) n hp w1;have HN:Hid (o=(if Lib.itoa n=t then some n else none).map fun x=>(x,u)):=xI (HQ.out.trans (by rw[zQ0 hp]));have HW:=xI hwf;have HT:=xI hT;clear hp hv1 hv2 hT hwf hsz hrg;go_enter Tryz.func83,Tryz.ntmps83;go_wp2_with fail;refine ht.mono ?_;rintro e w0 ⟨rfl,rfl⟩;clear ht;go_wp2_with fail;refine hpi.mono ?_;rintro e w2 ⟨rfl,hw2⟩;clear hpi;have hb2:Below w0.heap.size w0 w2:=by
   rcases hw2 with rfl|⟨z,rfl⟩
   ·exact Below.refl _ _
   ·exact Lib.bytesWorld_below _ _ _
  have HL2:=xI (HL.out.below hb2);have hfi:=zBw n HW.out w2 (HT.out.below lR hb2);clear hb2 hw2;go_wp2_with fail;refine hfi.mono ?_;rintro e w3 ⟨rfl,hb3⟩;clear hfi;have HL3:=xI (HL2.out.below hb3);clear hb3;by_cases he:Lib.itoa n=t
  ·have HE:=xI he;have hbe:(⟨(Lib.itoa n).toArray⟩:ByteArray)=⟨t.toArray⟩:=by rw[he]
   clear he;go_wp2;refine bodyPost_ret (v:=.tuple #[.int .i64 n,.bool true]) (by simp[results,Tryz.results83,go_sem]) rfl ?_;have ho:=HN.out;rw[if_pos HE.out]at ho;exact⟨n,u,by rw[ho];rfl,HW.out,HL3.out,fun m z hm=>by rw[ho]at hm;simp at hm;exact⟨hm.2,hm.1⟩⟩
  ·have HE:=xI he;have hbe:¬ (⟨(Lib.itoa n).toArray⟩:ByteArray)=⟨t.toArray⟩:=by
    intro e;have:=congrArg (fun b=>b.data.toList) e;exact he this
   clear he;go_wp2;refine bodyPost_ret (v:=.tuple #[.int .i64 n,.bool false]) (by simp[results,Tryz.results83,go_sem,HE.out]) rfl ?_;have ho:=HN.out;rw[if_neg HE.out]at ho;exact⟨n,u,by rw[ho];rfl,HW.out,HL3.out,fun m z hm=>by rw[ho]at hm;cases hm⟩
 ·have hpi:=zIx ⟨t.toArray⟩ (by rw[hsz];omega) (fun v h=>hp ⟨v,h⟩) w1 tp qv hv1 tp2 qv2 hv2;have HN:Hid (o=none):=xI (HQ.out.trans (by rw[zPt (fun v h=>hp ⟨v,h⟩)];rfl));clear hp hv1 hv2 hT hsz;go_enter Tryz.func83,Tryz.ntmps83;go_wp2_with fail;refine ht.mono ?_;rintro e w0 ⟨rfl,rfl⟩;clear ht;go_wp2_with fail;refine hpi.mono ?_;rintro e w2 ⟨N,n,rfl,hwf,hb2⟩;clear hpi;have HW:=xI hwf;have HL2:=xI (HL.out.below hb2);clear hb2 hwf;go_wp2;refine bodyPost_ret (v:=.tuple #[.int .i64 n,.bool false]) (by simp[results,Tryz.results83,go_sem]) rfl ?_;exact⟨n,u,by rw[HN.out];rfl,HW.out,HL2.out,fun m z hm=>by rw[HN.out]at hm;cases hm⟩
abbrev BufW (B b:Nat) (l:Bs) (w:World):Prop:=Lib.IsBuffer 54 5 B b (Lib.byteCells l) w∧B≤w.heap.size
def TbH (B:Nat) (w:World):Prop:=∀ w',Below B w w'→Tb w'
theorem TbH.below {B:Nat}{w w':World}(h:TbH B w) (hb:Below B w w'):TbH B w':=fun w2 h2=>h w2 (hb.trans h2)
def Wr (B b:Nat) (w w':World):Prop:=Below B w w'∧Lib.OthersKept 5 (some b) w w'
theorem Wr.trans {B b:Nat}{w w1 w2:World}(h:Wr B b w w1) (h':Wr B b w1 w2):Wr B b w w2:=⟨h.1.trans h'.1,h.2.trans h'.2⟩
theorem Wr.refl (B b:Nat) (w:World):Wr B b w w:=⟨Below.refl _ _,Lib.OthersKept.refl _ _ _⟩
theorem Wr.of_below {B b:Nat}{w w':World}(h:Below w.heap.size w w') (hB:B≤w.heap.size):Wr B b w w':=
 ⟨h.mono hB,fun k o hk _ _=>(h.block k (by rcases Nat.lt_or_ge k w.heap.size with h'|h';exact h';rw[Array.getElem?_eq_none h']at hk;cases hk)).trans hk⟩
theorem bufW (B b:Nat) (l s:Bs) (w:World) (h:BufW B b l w) (hlim:l.length+s.length≤140737488355328) :
  Calls Tryz.prog 28 #[.pointer (some ⟨b,0,none⟩),.string ⟨s.toArray⟩] w fun e w'=>e=.returned (.tuple #[.int .i64 s.length,.nilIface])∧BufW B b (l++s) w'∧Wr B b w w':=
 (Any.Buffer_WriteString_kept Tryz.laysM178 B b _ ⟨s.toArray⟩ w h.1 h.2 (Lib.byteCells_one _) (by rw[Lib.byteCells_length];exact hlim)).mono fun _ _ ⟨he,h1,h2,h3⟩=>⟨he,⟨by rw[Lib.byteCells_append];exact h1,Nat.le_trans h.2 h2.size⟩,h2,h3⟩
theorem zCd (B b:Nat) (l:Bs) (n:Int) (hn:(Lit.int .i64 n).wf=true) (w:World) (h:BufW B b l w) (hT:TbH B w) (hlim:l.length+(Lib.itoa n).length≤140737488355328) :
  Calls Tryz.prog 27 #[.pointer (some ⟨b,0,none⟩),.int .i64 n] w fun e w'=>e=.returned (.tuple #[])∧BufW B b (l++Lib.itoa n) w'∧Wr B b w w':=by
 have hc:=zBw n hn w (hT w bR);generalize Lib.itoa n=I at hc hlim ⊢;have H:=xI h;clear h hT;go_enter Tryz.func27,Tryz.ntmps27;go_wp2_with fail;refine hc.mono ?_;rintro e w1 ⟨rfl,hb1⟩;clear hc;have hb:Below B w w1:=hb1.mono H.out.2;have h1:BufW B b l w1:=⟨H.out.1.old hb1,Nat.le_trans H.out.2 hb1.size⟩;have hc2:=bufW B b l I w1 h1 hlim;have HB:=xI (Wr.of_below (b:=b) hb1 H.out.2);clear hb1 h1 hb;go_wp2_with fail;refine hc2.mono ?_;rintro e w2 ⟨rfl,h2,hb2⟩;go_wp2
 go_end0
 exact⟨rfl,h2,HB.out.trans hb2⟩
theorem zDu {s:Bs}{l:List Bs}{x:Bs}{j:Nat}(h:l[j]?=some x):sepL s (l.take (j+1))=sepL s (l.take j)++preL s j++x:=by
 have hj:=(List.getElem?_eq_some_iff.1 h).1;rw[List.take_add_one,h];simp only[Option.toList_some];rw[zEs,List.length_take,Nat.min_eq_left (by omega)]
theorem zFi (s:Bs) (l:List Bs) (j:Nat) (hj:j<l.length):(sepL s (l.take (j+1))).length≤(sepL s l).length:=by
 induction h:l.length-(j+1) generalizing j with
 | zero=>rw[List.take_of_length_le (by omega)];exact Nat.le_refl _
 | succ n ih=>
  have h1:=ih (j+1) (by omega) (by omega);have h2:=zDu (s:=s) (List.getElem?_eq_getElem (l:=l) (i:=j+1) (by omega));rw[h2]at h1;simp only[List.length_append]at h1;omega
def labP (labs:List Bs) (j:Nat):Bs:=if j=0 then [] else 64::40::sepL [32] (labs.take j)
theorem zN4 {labs:List Bs}{j:Nat}{x:Bs}(h:labs[j]?=some x):labP labs (j+1)=labP labs j++(if j=0 then [64,40] else [32])++x:=by
 unfold labP;rw[if_neg (by omega),zDu h];by_cases h0:j=0
 ·subst h0;simp[sepL,preL]
 ·simp[h0,preL]
theorem zPw (labs:List Bs) (j:Nat) (hj:j<labs.length):(labP labs (j+1)).length+1≤(labsL labs).length:=by
 have h1:=zFi [32] labs j hj;have hl:labs≠[]:=by rintro rfl;simp at hj
 unfold labP labsL;rw[if_neg (by omega),if_neg hl];simp only[List.length_cons,List.length_append,List.length_nil];omega
theorem zAy (B b:Nat) (l:Bs) (labs:List Bs) (A:Option Addr) (cap:Nat) (w:World) (h:BufW B b l w) (hR:RowP w B 1 (.slice A labs.length cap) labs.length (fun j cs=>∃ x,labs[j]?=some x∧cs=[.string ⟨x.toArray⟩]∧x.length≤maxLen)) (hlim:l.length+(labsL labs).length≤140737488355328) :
  Calls Tryz.prog 35 #[.pointer (some ⟨b,0,none⟩),.slice A labs.length cap] w fun e w'=>e=.returned (.tuple #[])∧BufW B b (l++labsL labs) w'∧Wr B b w w':=by
 obtain⟨A0,cap0,hA0,hll⟩:=hR.form;clear hA0 A0 cap0;unfold maxLen at hll;have H:=xI h;have HR:=xI hR;have HLM:=xI hlim;clear h hR hlim;go_enter Tryz.func35,Tryz.ntmps35;go_wp2_with fail
 go_loopw [8] (fun iv wr=>∃ j:Nat,iv=.int .i64 j∧j≤labs.length∧BufW B b (l++labP labs j) wr∧Wr B b w wr) (fun iv _=>labs.length-(intOf iv).toNat)
 case atStart=>exact⟨0,rfl,by omega,by simpa [labP] using H.out,Wr.refl _ _ _⟩
 case round=>
  obtain⟨j,rfl,hj,hB,hb⟩:=hrel;by_cases hjn:j<labs.length
  ·obtain⟨bl,offl,capl,xl,hul,hbl,⟨x,hx,hxl,_⟩,cl0⟩:=(HR.out.on hb.1 (fun _ _ h=>h)).at1 hjn;injection hul with hAl _ hcl;subst hAl hcl;simp only[List.cons.injEq,and_true]at hxl;subst hxl;have kn:(j:Int)<(labs.length:Int):=by omega
   have k0:(0:Int)≤(j:Int):=by omega
   have hst:=zN4 hx;have hle:=zPw labs j hjn;have hlm:=HLM.out;rw[hst]at hle;simp only[List.length_append]at hle;obtain⟨S,hS⟩:∃ S:Bs,S=if j=0 then [64,40] else [32]:=⟨_,rfl⟩;rw[←hS]at hst hle;have hc1:=bufW B b (l++labP labs j) S wr hB (by simp only[List.length_append];omega);have HC2:Hid (∀ w1,BufW B b (l++labP labs j++S) w1→Calls Tryz.prog 28 #[.pointer (some ⟨b,0,none⟩),.string ⟨x.toArray⟩] w1 fun e w'=>e=.returned (.tuple #[.int .i64 x.length,.nilIface])∧BufW B b (l++labP labs j++S++x) w'∧Wr B b w1 w'):=xI fun w1 h1=>bufW B b _ x w1 h1 (by simp only[List.length_append];omega);have HS:Hid (l++labP labs j++S++x=l++labP labs (j+1)):=xI (by rw[hst];simp);have HB:=xI hb;clear hst hle hlm hx hb hB;by_cases h0:j=0
   ·have hS0:S=[64,40]:=by rw[hS,if_pos h0]
    subst h0;rw[hS0]at hc1 HC2 HS;simp only[Nat.add_zero]at cl0;clear hS hS0;go_wp2_with fail;refine hc1.mono ?_;rintro e w1 ⟨rfl,h1,hb1⟩;have hc2:=HC2.out w1 h1;have HB1:=xI (HB.out.trans hb1);clear hc1 h1 hb1 cl0;go_wp2_with fail;refine hc2.mono ?_;rintro e w2 ⟨rfl,h2,hb2⟩;clear hc2;go_wp2
    go_roundw
    case rel=>exact⟨1,by go_num,by omega,by rw[←HS.out];exact h2,HB1.out.trans hb2⟩
    case measure=>simp[intOf];omega
   ·have hS0:S=[32]:=by rw[hS,if_neg h0]
    rw[hS0]at hc1 HC2 HS;have hj0:¬ (j:Int)=0:=by omega
    clear hS hS0;go_wp2_with fail;refine hc1.mono ?_;rintro e w1 ⟨rfl,h1,hb1⟩;have hc2:=HC2.out w1 h1;have HB1:=xI (HB.out.trans hb1);clear hc1 h1 hb1 cl0;go_wp2_with fail;refine hc2.mono ?_;rintro e w2 ⟨rfl,h2,hb2⟩;clear hc2;go_wp2
    go_roundw
    case rel=>exact⟨j+1,by go_num,by omega,by rw[←HS.out];exact h2,HB1.out.trans hb2⟩
    case measure=>simp[intOf];omega
  ·have hje:j=labs.length:=by omega
   have hjn':¬ (j:Int)<(labs.length:Int):=by omega
   by_cases hl0:labs=[]
   ·subst hl0;have h1:BufW B b (l++labsL []) wr:=by
     have:labP [] j=[]:=by rw[hje];rfl
     rw[this]at hB;simpa [labsL] using hB
    have H1:=xI h1;clear hB h1 hje;go_wp2
    go_end0
    exact⟨rfl,H1.out,hb⟩
   ·have hlp:(0:Int)<(labs.length:Int):=by
     have:0<labs.length:=List.length_pos_iff.2 hl0;omega
    have hlj:l++labP labs j++[41]=l++labsL labs:=by
     unfold labP labsL;rw[if_neg (by omega),if_neg hl0,hje,List.take_length];simp
    have hc1:=bufW B b (l++labP labs j) [41] wr hB (by have:=HLM.out;rw[←List.length_append,←hlj,List.length_append]at this;exact this);rw[hlj]at hc1;have HB:=xI hb;clear hB hje hlj hb;go_wp2_with fail;refine hc1.mono ?_;rintro e w1 ⟨rfl,h1,hb1⟩;clear hc1;go_wp2
    go_end0
    exact⟨rfl,h1,HB.out.trans hb1⟩
end Go.Proofs.YtcjgaohblaidjaaGreatDoor
