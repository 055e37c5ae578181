/- What sequence of the program's parser gives, for items of the kind string: one item or more, with the separator between them. -/
import Derived.Test.YtcjgaohblaidjaaGreatDoorVgZ
import Derived.Test.YtcjgaohblaidjaaGreatDoorVg01
import Derived.Test.YtcjgaohblaidjaaGreatDoorVg02
import Derived.Test.YtcjgaohblaidjaaGreatDoorVg07
import Derived.Test.YtcjgaohblaidjaaGreatDoorVg09
set_option maxRecDepth 100000
set_option maxHeartbeats 3200000
namespace Go.Proofs.YtcjgaohblaidjaaGreatDoor
open Go Go.RowKit
theorem Tryz.infoL5:(Tryz.prog.info? 9).map (fun i=>(i.zero,i.size,i.bytes))=some (some (.string ⟨#[]⟩),1,16):=by kernel_rfl
theorem zJb {ops:Array Oper}{rest:List Oper}{o:Oper}{a:Act}{Q:Exit→Act→World→Prop}{w0:World}(hgd:o.guard=none) (s x:Operand)
  (ho:o.op=.call { callee:=.builtin .append,args:=#[s,x],argTypes:=#[25,25] }) (base:Nat) (v:Value) (l:List Bs) (hs:a.eval s=v) (hown:OwnE elL5 9 1 w0 base v l)
  (y:Bs) (cs:List Value) (cap1:Nat) (H:Nat) (hH:w0.heap.size=H) (hx:a.eval x=.slice (some ⟨H,0,none⟩) 1 cap1) (cells:Array Value) (hcells:cells=cs.toArray)
  (hy:elL5.E y w0 (fun b=>base≤b∧b<w0.heap.size∧some b≠v.ownBlock) cs) (hcs:cs.length=1) (h1c:∀ u∈cs,u.oneCell'=true) (hn:l.length≤300000000) (hbase:base≤w0.heap.size)
  (h:∀ g cap w',OwnE elL5 9 1 w' base (.slice (some ⟨g,0,none⟩) (l.length+1) cap) (l++[y])→Below base w0 w'→wpList Tryz.prog ops Q rest (a.put o.dst (.slice (some ⟨g,0,none⟩) (l.length+1) cap)) w') :
  wpList Tryz.prog ops Q (o::rest) a (w0.alloc (.cells cells 9)):=by
 subst hcells;obtain⟨i0,hi,hz0,hz1,hz2⟩:=info_parts Tryz.infoL5;obtain⟨g,cap,w',h1,h2,h3,_,_⟩:=zBa elL5 25 o.type 9 i0 (.string ⟨#[]⟩) 1 16 Tryz.underlying25 hi hz0 hz1 hz2 rfl (by decide) (by decide) w0 base v l hown y cs hy hcs h1c hn hbase H hH cap1;exact Lib.wpList_append_run _ hgd s x 25 25 ho v _ hs hx _ w' h1 (h g cap w' h2 h3)
theorem zPl (B p:Nat) (hBp:B≤p) (d:Int) (item:Rd Bs) (hI:Hid (LabI B p d item)) (sep:Bs) (hsep:sep≠[]) (r:Bs) (w:World) (h:PrsW p r d w) (hr:r.length≤limP) (hE:EnvH B w) :
  Calls Tryz.prog 44 #[.pointer (some ⟨p,0,none⟩),.func (.func 45) #[.pointer (some ⟨p,0,none⟩)] #[],.string ⟨sep.toArray⟩] w (zCa elL5 9 1 p d (seqL item sep r) r w):=by
 have hp0:=h.lt;have H0:=xI (Left.refl h);have HE:=xI hE;unfold limP at hr;clear h hE;go_enter Tryz.func44,Tryz.ntmps44;go_wp2_with fail
 go_loopg [8] (r.length+2) (fun gk lv wr=>∃ A cap ls rc,lv=.slice A (List.length (α:=Bs) ls) cap∧Left p rc r d w wr∧OwnE elL5 9 1 wr w.heap.size (.slice A ls.length cap) ls∧rc.length+ls.length≤r.length+1∧((ls=[]∧r=rc∧rc.length+1<gk)∨(ls≠[]∧rc.length<gk∧seqL item sep r=contL item sep ls rc)))
 case atStart=>exact⟨none,0,[],r,rfl,H0.out,OwnE.nil _ _ _ _ _,by simp,.inl ⟨rfl,rfl,by omega⟩⟩
 case round=>
  obtain⟨A,cap,ls,rc,rfl,hL,hO,hlen,hcase0⟩:=hrel;have hrc:=hL.2.2;rcases id hcase0 with⟨rfl,rfl,hg⟩|⟨hne,hg,heq⟩
  ·have hvc:=hI.out r wr hL.2.1 (by unfold limP;omega) (HE.out.eff hL.1 hBp);have hzW:=hL.1.size;cases ho:item r with
   | none=>
    rw[ho]at hvc;have HQ:=xI (show seqL item sep r=none from zDd ho);have HL:=xI hL;clear hO hL hcase0;go_wp2_with fail;refine hvc.mono ?_;rintro e w3 ⟨s,q,rfl,hL3,hres⟩;clear hvc hres;have HX:=xI ((HL.out.trans hL3));clear hL3;go_wp2;refine bodyPost_ret (v:=.tuple #[.slice none 0 0,.bool false]) (by simp[results,Tryz.results44,go_sem]) rfl ?_;exact⟨none,0,0,q,[],by rw[HQ.out];rfl,HX.out,⟨rfl,by omega,OwnE.nil _ _ _ _ _⟩,fun l t h=>by rw[HQ.out]at h;cases h⟩
   | some vt=>
    obtain⟨v,t⟩:=vt;rw[ho]at hvc;have HL:=xI hL;have HO:=xI hO;have HLL:=xI hlen;clear hO hL hcase0 hlen;go_wp2_with fail;refine hvc.mono ?_;rintro e w3 ⟨s,q,rfl,hL3,hres⟩;rcases hres _ _ rfl with⟨rfl,rfl,hvb⟩;clear hvc hres;have hl3:=hL3.2.2;have HQ:=xI (show seqL item sep r=contL item sep ([]++[v]) q from zDc ho hl3 hsep);have hO3:=HO.out.eff hL3.1 hp0;have hblk:=HO.out.blk5;have hz3:=hL3.1.size;have hLa:=HL.out.trans hL3;have hbx:Below w3.heap.size w3 w3:=Below.refl _ _;have hO4:=hO3.old hbx;have hLb:=hLa.below hbx;have hvb4:elL5.E v (w3) (fun b=>w.heap.size≤b∧b<(w3).heap.size∧some b≠(Value.slice A ([]:List Bs).length cap).ownBlock) [.string ⟨v.toArray⟩]:=⟨rfl,hvb⟩;have hll:=HLL.out;have hz4:w.heap.size≤(w3).heap.size:=by omega
    have HLB:=xI hLb;have HG:=xI (aN hg hl3);clear hLb hLa hL3 hO3 hbx hvb hg ho;skip;go_wp2_with (at_builtin;refine zJb rfl _ _ rfl  w.heap.size (.slice A ([]:List Bs).length cap) [] rfl hO4 v _ 1 w3.heap.size rfl rfl _ rfl hvb4 rfl (zL9 v _ _ _ hvb4) (by omega) hz4 ?_;intro g2 cap2 w4 ho4 hb4;refine Hid.out ?_);refine xI ?_;have HO4:=xI ho4;have HL4:=xI (show Left p q r d w w4 from⟨HLB.out.1.grow hb4 hp0,HLB.out.2.1.below hb4 hp0,HLB.out.2.2⟩);clear ho4 hb4 hvb4 hO4;go_wp2_with fail
    go_roundg (q.length+1)
    case measure=>have:=HG.out.1;have:=HG.out.2;omega
    case rel=>
     have:=HG.out.2;have hll:=HLL.out;exact⟨some ⟨g2,0,none⟩,cap2,[]++[v],q,by rw[List.length_append];rfl,HL4.out,by rw[List.length_append];exact HO4.out,by rw[List.length_append];simp only[List.length_singleton,List.length_nil];simp at hll;omega,.inr ⟨by simp,by omega,HQ.out⟩⟩
  ·have hpos:=List.length_pos_iff.2 hne;cases hcut:cutP sep rc with
   | none=>
    have hac:=zAr p rc sep d wr hL.2.1 hcut;have HQ:=xI (heq.trans (zE7 ls hcut));have HL:=xI hL;have HO:=xI hO;clear hL hO hcase0 heq;generalize hln:ls.length=m at *;have HLN:=xI hln;have HGS:=xI hg;clear hln hg;have k1:¬ (m:Int)=0:=by omega
    go_wp2_with fail;refine hac.mono ?_;rintro e w1 ⟨rfl,hL1,hs1⟩;clear hac;have HL1:=xI hL1;have HS1:=xI hs1;clear hL1 hs1;go_wp2;refine bodyPost_ret (v:=.tuple #[.slice A m cap,.bool true]) (by simp[results,Tryz.results44,go_sem]) rfl ?_;refine⟨A,m,cap,rc,ls,by rw[HQ.out];rfl,HL.out.trans HL1.out,⟨HLN.out.symm,by omega,HO.out.eff HL1.out.1 hp0⟩,fun l t h=>?_⟩;rw[HQ.out]at h;simp only[Option.some.injEq,Prod.mk.injEq]at h;obtain⟨rfl,rfl⟩:=h;exact⟨rfl,rfl⟩
   | some r'=>
    have hac:=zAk p rc sep r' d wr hL.2.1 hcut;have hcl:=zA2 hcut;have k1:¬ (ls.length:Int)=0:=by omega
    have HL0:=xI hL;have HO0:=xI hO;have HQ0:=xI (aN heq (aN hcut hlen));have HG0:=xI hg;clear hL hO hcase0 heq hcut hlen hg;go_wp2_with fail;refine hac.mono ?_;rintro e w1 ⟨rfl,hL1,hs1⟩;clear hac hs1;have hL:=HL0.out.trans hL1;have hO:=HO0.out.eff hL1.1 hp0;obtain⟨heq,hcut,hlen⟩:=HQ0.out;have hg:=HG0.out;have hvc:=hI.out r' w1 hL.2.1 (by unfold limP;omega) (HE.out.eff hL.1 hBp);clear hL1;have hcase0:=True.intro;have hzW:=hL.1.size;cases ho:item r' with
    | none=>
     rw[ho]at hvc;have HQ:=xI (show seqL item sep r=none from (heq.trans (zD3 ls hcut ho)));have HL:=xI hL;clear hO hL hcase0;go_wp2_with fail;refine hvc.mono ?_;rintro e w3 ⟨s,q,rfl,hL3,hres⟩;clear hvc hres;have HX:=xI ((HL.out.trans hL3));clear hL3;go_wp2;refine bodyPost_ret (v:=.tuple #[.slice none 0 0,.bool false]) (by simp[results,Tryz.results44,go_sem]) rfl ?_;exact⟨none,0,0,q,[],by rw[HQ.out];rfl,HX.out,⟨rfl,by omega,OwnE.nil _ _ _ _ _⟩,fun l t h=>by rw[HQ.out]at h;cases h⟩
    | some vt=>
     obtain⟨v,t⟩:=vt;rw[ho]at hvc;have HL:=xI hL;have HO:=xI hO;have HLL:=xI hlen;clear hO hL hcase0 hlen;go_wp2_with fail;refine hvc.mono ?_;rintro e w3 ⟨s,q,rfl,hL3,hres⟩;rcases hres _ _ rfl with⟨rfl,rfl,hvb⟩;clear hvc hres;have hl3:=hL3.2.2;have HQ:=xI (show seqL item sep r=contL item sep (ls++[v]) q from (heq.trans (zD2 ls hcut ho hl3 hsep)));have hO3:=HO.out.eff hL3.1 hp0;have hblk:=HO.out.blk5;have hz3:=hL3.1.size;have hLa:=HL.out.trans hL3;have hbx:Below w3.heap.size w3 w3:=Below.refl _ _;have hO4:=hO3.old hbx;have hLb:=hLa.below hbx;have hvb4:elL5.E v (w3) (fun b=>w.heap.size≤b∧b<(w3).heap.size∧some b≠(Value.slice A ls.length cap).ownBlock) [.string ⟨v.toArray⟩]:=⟨rfl,hvb⟩;have hll:=HLL.out;have hz4:w.heap.size≤(w3).heap.size:=by omega
     have HLB:=xI hLb;have HG:=xI (aN hg hl3);clear hLb hLa hL3 hO3 hbx hvb hg ho;skip;go_wp2_with (at_builtin;refine zJb rfl _ _ rfl  w.heap.size (.slice A ls.length cap) ls rfl hO4 v _ 1 w3.heap.size rfl rfl _ rfl hvb4 rfl (zL9 v _ _ _ hvb4) (by omega) hz4 ?_;intro g2 cap2 w4 ho4 hb4;refine Hid.out ?_);refine xI ?_;have HO4:=xI ho4;have HL4:=xI (show Left p q r d w w4 from⟨HLB.out.1.grow hb4 hp0,HLB.out.2.1.below hb4 hp0,HLB.out.2.2⟩);clear ho4 hb4 hvb4 hO4;go_wp2_with fail
     go_roundg (q.length+1)
     case measure=>have:=HG.out.1;have:=HG.out.2;have:=zA2 hcut;have:=List.length_pos_iff.2 hsep;omega
     case rel=>
      have:=HG.out.2;have hll:=HLL.out;exact⟨some ⟨g2,0,none⟩,cap2,ls++[v],q,by rw[List.length_append];rfl,HL4.out,by rw[List.length_append];exact HO4.out,by rw[List.length_append];simp only[List.length_singleton];have:=zA2 hcut;have:=List.length_pos_iff.2 hsep;omega,.inr ⟨by simp,by omega,HQ.out⟩⟩
def i64B (i:Int):Bool:=decide (-9223372036854775808≤i∧i≤9223372036854775807)
mutual
def rngV:Vl→Bool
 | .mk _ i _ v _ e _=>i64B i&&rngVs v&&rngEs e
def rngVs:List Vl→Bool
 | []=>true
 | a::s=>rngV a&&rngVs s
def rngE:En→Bool
 | .mk a _ r=>rngVs a&&rngV r
def rngEs:List En→Bool
 | []=>true
 | a::s=>rngE a&&rngEs s
end
theorem zDf:∀ l:List Vl,rngVs l=l.all rngV
 | []=>rfl
 | a::s=>by rw[rngVs,zDf s,List.all_cons]
theorem zG6:∀ l:List En,rngEs l=l.all rngE
 | []=>rfl
 | a::s=>by rw[rngEs,zG6 s,List.all_cons]
structure Fit (n:Nat) (v:Vl):Prop where
 ok:okV v=true
 rng:rngV v=true
 dep:dep v≤n
structure FitE (n:Nat) (e:En):Prop where
 ok:okE e=true
 rng:rngE e=true
 dep:depE e≤n
theorem Fit.mono {n m:Nat}{v:Vl}(h:Fit n v) (hm:n≤m):Fit m v:=⟨h.ok,h.rng,Nat.le_trans h.dep hm⟩
theorem FitE.args {n:Nat}{a:List Vl}{f:Bool}{r:Vl}(h:FitE n (.mk a f r)):(∀ x∈a,Fit n x)∧(f=true∨Fit n r):=by
 obtain⟨h1,h2,h3⟩:=h;simp only[okE,rngE,depE,zAn,zDf,Bool.and_eq_true,Bool.or_eq_true,List.all_eq_true]at h1 h2 h3;refine⟨fun x hx=>⟨h1.1 x hx,h2.1 x hx,?_⟩,?_⟩
 ·have:=zHn hx;omega
 ·rcases h1.2 with h|h
  ·exact .inl h
  ·exact .inr ⟨h,h2.2,by omega⟩
structure Parts (n:Nat) (k i:Int) (t:Bs) (v:List Vl) (y:List (Int×Bs)) (e:List En) (l:List Bs):Prop where
 labs:zAi l=true
 uses:usesB k i t v y e=true
 kind:kindB k i t v y e=true
 kids:∀ x∈v,Fit n x
 ents:∀ x∈e,FitE n x
 lo:-9223372036854775808≤i
 hi:i≤9223372036854775807
theorem Fit.parts {n:Nat}{k i:Int}{t:Bs}{v:List Vl}{y:List (Int×Bs)}{e:List En}{l:List Bs}(h:Fit (n+1) (.mk k i t v y e l)):Parts n k i t v y e l:=by
 obtain⟨h1,h2,h3⟩:=h;simp only[okV,rngV,Go.Proofs.YtcjgaohblaidjaaGreatDoor.dep,zAn,zAx,zDf,zG6,i64B,Bool.and_eq_true,List.all_eq_true,decide_eq_true_eq]at h1 h2 h3;refine⟨h1.1.1.1.1,h1.1.1.1.2,h1.1.1.2,fun x hx=>⟨h1.1.2 x hx,h2.1.2 x hx,?_⟩,fun x hx=>⟨h1.2 x hx,h2.2 x hx,?_⟩,h2.1.1.1,h2.1.1.2⟩
 ·have:=zHn hx;omega
 ·have:=zKa hx;omega
theorem Fit.pos {n:Nat}{v:Vl}(h:Fit n v):∃ m,n=m+1:=by
 obtain⟨k,i,t,v,y,e,l⟩:=v;have:=h.dep;simp only[Go.Proofs.YtcjgaohblaidjaaGreatDoor.dep]at this;exact⟨n-1,by omega⟩
theorem kinds {k i:Int}{t:Bs}{v:List Vl}{y:List (Int×Bs)}{e:List En}(h:kindB k i t v y e=true):k=1∨k=2∨k=3∨k=4∨k=5∨k=6∨k=7∨k=8∨k=9:=by
 unfold kindB at h
 repeat (split at h;omega)
 cases h
def folB (c:UInt8):Bool:=c==44||c==125||c==93||c==32||c==41
def folU (c:UInt8):Bool:=folB c||c==64
def Fol (p:UInt8→Bool) (r:Bs):Prop:=∀ c q,r=c::q→p c=true
theorem Fol.nil (p:UInt8→Bool):Fol p []:=by intro c q h;cases h
theorem Fol.cons {p:UInt8→Bool}{c:UInt8}(q:Bs) (h:p c=true):Fol p (c::q):=by
 intro d q' h';injection h' with h1 _;rw[←h1];exact h
theorem zIc {c:UInt8}(h:folU c=true):c=44∨c=125∨c=93∨c=32∨c=41∨c=64:=by
 simp only[folU,folB,Bool.or_eq_true,beq_iff_eq]at h;rcases h with ((((h|h)|h)|h)|h)|h<;>simp[h]
theorem Fol.up {r:Bs}(h:Fol folB r):Fol folU r:=by
 intro c q e;unfold folU;rw[h c q e];rfl
theorem Fol.num {r:Bs}(h:Fol folU r):Brk numC r:=by
 intro c q e;rcases zIc (h c q e)with rfl|rfl|rfl|rfl|rfl|rfl<;>decide
theorem Fol.name {r:Bs}(h:Fol folU r):Brk nameC r:=by
 intro c q e;rcases zIc (h c q e)with rfl|rfl|rfl|rfl|rfl|rfl<;>decide
theorem Fol.cut {p:UInt8→Bool}{r:Bs}(h:Fol p r){d:UInt8}(hd:p d=false) (s:Bs):cutP (d::s) r=none:=by
 cases r with
 | nil=>exact zP8 d s
 | cons c q=>
  refine zAw s q ?_;rintro rfl;rw[h c q rfl]at hd;cases hd
def headB (c:UInt8):Bool:=!(c==125||c==93||c==41||c==33)
theorem zJ6 (n:Int):∃ c q,Lib.itoa n=c::q∧numC c=true:=by
 obtain⟨c,q,e⟩:=List.exists_cons_of_ne_nil (zQ2 n);exact⟨c,q,e,zL5 n c (by rw[e];simp)⟩
theorem zDh {c:UInt8}(h:numC c=true):∀ d:UInt8,numC d=false→c≠d:=by
 rintro d hd rfl;rw[h]at hd;cases hd
theorem zKe {n:Nat}{v:Vl}(h:Fit n v):∃ c q,bodyV v=c::q∧headB c=true:=by
 obtain⟨m,rfl⟩:=h.pos;obtain⟨k,i,t,v,y,e,l⟩:=v;have hp:=h.parts;rcases kinds hp.kind with rfl|rfl|rfl|rfl|rfl|rfl|rfl|rfl|rfl
 ·obtain⟨c,q,e1,e2⟩:=zJ6 i;refine⟨c,q,e1,?_⟩;simp only[headB,Bool.not_eq_true',Bool.or_eq_false_iff,beq_eq_false_iff_ne];exact⟨⟨⟨zDh e2 _ (by decide),zDh e2 _ (by decide)⟩,zDh e2 _ (by decide)⟩,zDh e2 _ (by decide)⟩
 ·exact⟨34,_,rfl,by decide⟩
 ·have ha:atomB t=true:=hp.kind;obtain⟨⟨c,q,e1,e2⟩,_⟩:=zDn ha;refine⟨c,q,e1,?_⟩;simp only[headB,Bool.not_eq_true',Bool.or_eq_false_iff,beq_eq_false_iff_ne];refine⟨⟨⟨?_,?_⟩,?_⟩,?_⟩<;>(rintro rfl;exact absurd e2 (by decide))
 ·exact⟨35,_,rfl,by decide⟩
 ·exact⟨91,_,rfl,by decide⟩
 ·exact⟨123,_,rfl,by decide⟩
 ·exact⟨91,_,rfl,by decide⟩
 ·exact⟨37,_,rfl,by decide⟩
 ·exact⟨102,_,rfl,by decide⟩
theorem zNv {n:Nat}{v:Vl}(h:Fit n v):∃ c q,showV v=c::q∧headB c=true:=by
 obtain⟨c,q,e1,e2⟩:=zKe h;exact⟨c,q++labsL (lbsV v),by rw[zAg,e1];rfl,e2⟩
theorem zEr {n:Nat}{v:Vl}(h:Fit n v){d:UInt8}(hd:headB d=false) (s q:Bs):cutP (d::s) (showV v++q)=none:=by
 obtain⟨c,p,e1,e2⟩:=zNv h;rw[e1];refine zAw s (p++q) ?_;rintro rfl;rw[e2]at hd;cases hd
def Full (n:Nat) (val:Rd Vl):Prop:=∀ v,Fit n v→∀ r,Fol folB r→val (showV v++r)=some (v,r)
theorem zCs (q:Bs):Fol folB (zAc++q):=Fol.cons (c:=44) _ (by decide)
theorem zLc {n:Nat}{val:Rd Vl}(h:Full n val){e:En}(he:FitE n e) (hz:zFr e=true→resOf e=zeroV){r:Bs}(hr:Fol folB r):zB8 val (showE e++r)=some (e,r):=by
 obtain⟨a,f,x⟩:=e;obtain⟨h1,h2⟩:=he.args;have e1:showE (.mk a f x)++r=[40]++(sepL zAc (a.map showV)++([41,32,45,62,32]++((if f then [33] else showV x)++r))):=by
  rw[zCx];simp
 rw[e1];unfold zB8;rw[zAp];simp only;rw[zDx (item:=val) (f:=showV) (G:=Fol folB) (e:=[41,32,45,62,32]) (r:=(if f then [33] else showV x)++r) (l:=a) zCs (Fol.cons (c:=41) _ (by decide)) (zAw (c:=41) (d:=44) _ _ (by decide)) (fun x hx q=>zEr (h1 x hx) (d:=41) (by decide) _ _) (fun x hx q hq=>h x (h1 x hx) q hq)];simp only;cases f with
 | true=>
  have hx:x=zeroV:=hz rfl;subst hx;simp only[if_true,zAp]
 | false=>
  have hx:Fit n x:=h2.resolve_left (by decide);simp only[Bool.false_eq_true,if_false];rw[zEr hx (by decide)];simp only;rw[h x hx r hr]
theorem zLa {n:Nat}{val:Rd Vl}(h:Full n val){k:Int}{t:Bs}{v:Vl}(hk:keyB k t=true) (h0:k=0∨k=1) (hv:Fit n v){r:Bs}(hr:Fol folB r) :
  zB7 val (keyL k t++[58,32]++showV v++r)=some (((k,t),v),r):=by
 unfold zB7;rw[List.append_assoc,List.append_assoc,zHg hk h0 (show Brk nameC ([58,32]++(showV v++r))from Brk.cons (c:=58) _ (by decide))];simp only;rw[zAp];simp only;rw[h v hv r hr]
theorem zHh {k:Int}{t:Bs}(h:keyB k t=true):k=0∨k=1:=by
 unfold keyB at h;split at h
 ·exact .inl ‹_›
 ·split at h
  ·exact .inr ‹_›
  ·cases h
theorem zH8:∀ (n:Nat) (b:Vl),Fit n b→(zAj b=5∨zAj b=7)→∃ (l:List Vl) (t:Vl),b=l.foldr cnV t∧(t=nlV∨(lbsV t≠[]∧Fit n t))∧∀ x∈l,Fit n x
 | 0,b,h,_=>by obtain⟨m,hm⟩:=h.pos;omega
 | n+1,.mk k i t v y e l,h,hk=>by
  have hp:=h.parts;by_cases hl:l=[]
  ·subst hl;have hu:=hp.uses;unfold usesB at hu;rcases hk with hk|hk
   ·have hk':k=5:=hk;subst hk';simp only[Bool.and_eq_true,Bool.or_eq_true,decide_eq_true_eq,List.isEmpty_iff]at hu;obtain⟨⟨⟨⟨h1,h2⟩,h3⟩,h4⟩,h5⟩:=hu;have e1:i=0:=h1.resolve_left (by decide);have e2:t=[]:=h2.resolve_left (by decide);have e3:v=[]:=h3.resolve_left (by decide);have e4:y=[]:=h4.resolve_left (by decide);have e5:e=[]:=h5.resolve_left (by decide);subst e1 e2 e3 e4 e5;exact⟨[],nlV,rfl,.inl rfl,by simp⟩
   ·have hk':k=7:=hk;subst hk';simp only[Bool.and_eq_true,Bool.or_eq_true,decide_eq_true_eq,List.isEmpty_iff]at hu;obtain⟨⟨⟨⟨h1,h2⟩,-⟩,h4⟩,h5⟩:=hu;have e1:i=0:=h1.resolve_left (by decide);have e2:t=[]:=h2.resolve_left (by decide);have e4:y=[]:=h4.resolve_left (by decide);have e5:e=[]:=h5.resolve_left (by decide);subst e1 e2 e4 e5;have hc:consB v=true:=hp.kind
    match v,hc,hp.kids with
    | [a,b],hc,hkids=>
     have hb:=hkids b (by simp);have hkb:zAj b=5∨zAj b=7:=by
      simpa [consB] using hc
     obtain⟨l,t,h6,h7,h8⟩:=zH8 n b hb hkb;refine⟨a::l,t,by rw[List.foldr_cons,←h6];rfl,?_,?_⟩
     ·rcases h7 with h7|⟨h7,h9⟩
      ·exact .inl h7
      ·exact .inr ⟨h7,h9.mono (Nat.le_succ n)⟩
     ·intro x hx;rcases List.mem_cons.1 hx with rfl|hx
      ·exact (hkids _ (by simp)).mono (Nat.le_succ n)
      ·exact (h8 x hx).mono (Nat.le_succ n)
  ·exact⟨[],_,rfl,.inr ⟨hl,h⟩,by simp⟩
theorem zM1 {n:Nat}{val:Rd Vl}(h:Full n val){a:Vl}{l:List Vl}{t:Vl}(ha:∀ x∈a::l,Fit n x) (ht:t=nlV∨(lbsV t≠[]∧Fit n t)) (r:Bs) :
  listP val (sepL zAc ((a::l).map showV)++(tlV t++r))=some ((a::l).foldr cnV t,r):=by
 have h1:cutP [93] (sepL zAc ((a::l).map showV)++(tlV t++r))=none:=by
  cases l with
  | nil=>simpa [sepL] using zEr (ha a (by simp)) (d:=93) (by decide) [] (tlV t++r)
  | cons b l=>simpa [sepL] using zEr (ha a (by simp)) (d:=93) (by decide) [] (zAc++(sepL zAc ((b::l).map showV)++(tlV t++r)))
 unfold listP;rw[h1];simp only;rcases ht with rfl|⟨hl,hf⟩
 ·rw[zRp,zDe (f:=showV) zCs (by simp[zAc]) (show Fol folB ([93]++r)from Fol.cons (c:=93) r (by decide)) (zAw (c:=93) (d:=44) _ _ (by decide)) (by simp) (fun x hx q hq=>h x (ha x hx) q hq)];simp only;rw[show cutP [32,124,32] ([93]++r)=none from zAw _ _ (by decide),zAp]
 ·have e:tlV t++r=[32,124,32]++(showV t++([93]++r)):=by rw[zNn hl];simp
  rw[e,zDe (f:=showV) zCs (by simp[zAc]) (show Fol folB ([32,124,32]++(showV t++([93]++r)))from Fol.cons (c:=32) _ (by decide)) (zAw (c:=32) (d:=44) _ _ (by decide)) (by simp) (fun x hx q hq=>h x (ha x hx) q hq)];simp only;rw[zAp];simp only;rw[h t hf _ (show Fol folB ([93]++r)from Fol.cons (c:=93) r (by decide))];simp only;rw[if_neg hl,zAp]
theorem zH2 {k i:Int}{t:Bs}{v:List Vl}{y:List (Int×Bs)}{e:List En}(h:usesB k i t v y e=true) :
  (k=1∨k=4∨k=9∨i=0)∧(k=2∨k=3∨t=[])∧(k=6∨k=7∨k=8∨v=[])∧(k=8∨y=[])∧(k=9∨e=[]):=by
 unfold usesB at h;simp only[Bool.and_eq_true,Bool.or_eq_true,decide_eq_true_eq,List.isEmpty_iff]at h;obtain⟨⟨⟨⟨h1,h2⟩,h3⟩,h4⟩,h5⟩:=h;refine⟨?_,?_,?_,h4,h5⟩
 ·rcases h1 with (h|h|h)|h<;>simp[h]
 ·rcases h2 with (h|h)|h<;>simp[h]
 ·rcases h3 with (h|h|h)|h<;>simp[h]
theorem zHo {d:Bs}{r:Bs}{c:UInt8}{q:Bs}(hd:d=c::q) (hc:numC c=true){x:UInt8}(hx:numC x=false) (s:Bs):cutP (x::s) (d++r)=none:=by
 rw[hd];exact zAw s (q++r) (zDh hc x hx)
theorem zQg {t r:Bs}(h:∀ c∈t,nameC c=true) (hr:Fol folU r):cutP [102,117,110,47] (t++r)=none:=by
 refine zHp ?_;intro q e;obtain⟨e1,e2⟩:=zEp h hr.name;have e3:=zEp (p:=nameC) (d:=[102,117,110]) (r:=47::q) (by decide) (Brk.cons q (by decide));have e4:[102,117,110,47]++q=[102,117,110]++47::q:=by simp
 rw[e,e4,e3.2]at e2;have:=hr 47 q e2.symm;exact absurd this (by decide)
theorem zCu:∀ (y:List (Int×Bs)) (v:List Vl),y.length=v.length→(y.zip v).map Prod.fst=y∧(y.zip v).map Prod.snd=v
 | [],[],_=>⟨rfl,rfl⟩
 | [],_::_,h=>by simp at h
 | _::_,[],h=>by simp at h
 | a::y,b::v,h=>by
  obtain⟨h1,h2⟩:=zCu y v (by simpa using h);simp[h1,h2]
theorem zEc {y:List (Int×Bs)}{v:List Vl}{x:(Int×Bs)×Vl}(h:x∈y.zip v):x.1∈y∧x.2∈v:=by
 obtain⟨a,b⟩:=x;exact⟨(List.of_mem_zip h).1,(List.of_mem_zip h).2⟩
theorem zJf {n:Nat}{val:Rd Vl}(h:Full n val){v:Vl}(hv:Fit (n+1) v){r:Bs}(hr:Fol folU r):unlP val (bodyV v++r)=some (setL [] v,r):=by
 obtain⟨k,i,t,v,y,e,l⟩:=v;have hp:=hv.parts;obtain⟨u1,u2,u3,u4,u5⟩:=zH2 hp.uses;rcases kinds hp.kind with rfl|rfl|rfl|rfl|rfl|rfl|rfl|rfl|rfl
 ·have e2:t=[]:=by simpa using u2
  have e3:v=[]:=by simpa using u3
  have e4:y=[]:=by simpa using u4
  have e5:e=[]:=by simpa using u5
  subst e2 e3 e4 e5;obtain⟨c,q,ei,ec⟩:=zJ6 i;show unlP val (Lib.itoa i++r)=_;unfold unlP;rw[zHo ei ec (by decide),zHo ei ec (by decide),zHo ei ec (by decide),zHo ei ec (by decide),zHo ei ec (by decide)];simp only;rw[if_pos (by rw[ei];simpa using ec),zG9 hp.lo hp.hi hr.num];rfl
 ·have e1:i=0:=by simpa using u1
  have e3:v=[]:=by simpa using u3
  have e4:y=[]:=by simpa using u4
  have e5:e=[]:=by simpa using u5
  subst e1 e3 e4 e5;have hk:keyB 1 t=true:=hp.kind;show unlP val (zAq t++r)=_;have eq:zAq t++r=34::((t.flatMap qByte++[34])++r):=rfl;unfold unlP;rw[eq,zAw _ _ (by decide),zAw _ _ (by decide),zAw _ _ (by decide),zAw _ _ (by decide),zAw _ _ (by decide)];simp only;rw[if_neg (by simp only[List.head?_cons,Option.any_some];decide),←eq,show zAq t=keyL 1 t from rfl,zHg hk (.inr rfl) hr.name];rfl
 ·have e1:i=0:=by simpa using u1
  have e3:v=[]:=by simpa using u3
  have e4:y=[]:=by simpa using u4
  have e5:e=[]:=by simpa using u5
  subst e1 e3 e4 e5;have hk:keyB 0 t=true:=hp.kind;obtain⟨⟨c,q,ei,ec⟩,hn⟩:=zDn (l:=t) hp.kind;show unlP val (t++r)=_;have hf:=zQg hn hr;have hx:∀ x:UInt8,lowB x.toNat=false→c≠x:=by
   rintro x hx rfl;rw[ec]at hx;cases hx
  have hc:∀ (x:UInt8) (s:Bs),lowB x.toNat=false→cutP (x::s) (t++r)=none:=by
   intro x s hx';rw[ei];exact zAw s (q++r) (hx x hx')
  unfold unlP;rw[hc _ _ (by decide),hc _ _ (by decide),hc _ _ (by decide),hf,hc _ _ (by decide)];simp only;have hnum:numC c=false:=by
   have h97:97≤c.toNat:=by
    unfold lowB at ec;simp only[Bool.and_eq_true,decide_eq_true_eq]at ec;omega
   unfold numC digC;simp only[Bool.or_eq_false_iff,decide_eq_false_iff_not];omega
  rw[if_neg (by rw[ei];simp[hnum]),show t=keyL 0 t from rfl,zHg hk (.inl rfl) hr.name];rfl
 ·have e2:t=[]:=by simpa using u2
  have e3:v=[]:=by simpa using u3
  have e4:y=[]:=by simpa using u4
  have e5:e=[]:=by simpa using u5
  subst e2 e3 e4 e5;show unlP val ([35]++(Lib.itoa i++r))=_;unfold unlP;rw[show cutP [123] ([35]++(Lib.itoa i++r))=none from zAw _ _ (by decide),show cutP [91] ([35]++(Lib.itoa i++r))=none from zAw _ _ (by decide),
   show cutP [37,123] ([35]++(Lib.itoa i++r))=none from zAw _ _ (by decide),show cutP [102,117,110,47] ([35]++(Lib.itoa i++r))=none from zAw _ _ (by decide),zAp]
  simp only;rw[zG9 hp.lo hp.hi hr.num];rfl
 ·have e1:i=0:=by simpa using u1
  have e2:t=[]:=by simpa using u2
  have e3:v=[]:=by simpa using u3
  have e4:y=[]:=by simpa using u4
  have e5:e=[]:=by simpa using u5
  subst e1 e2 e3 e4 e5;show unlP val ([91]++([93]++r))=_;unfold unlP;rw[show cutP [123] ([91]++([93]++r))=none from zAw _ _ (by decide),zAp];simp only;unfold listP;rw[zAp];rfl
 ·have e1:i=0:=by simpa using u1
  have e2:t=[]:=by simpa using u2
  have e4:y=[]:=by simpa using u4
  have e5:e=[]:=by simpa using u5
  subst e1 e2 e4 e5;have eb:bodyV (.mk 6 0 [] v [] [] l)++r=[123]++(sepL zAc (v.map showV)++([125]++r)):=by
   show 123::(sepL zAc (v.map showV)++[125])++r=_;simp
  rw[eb];unfold unlP;rw[zAp];simp only;rw[zDx (item:=val) (f:=showV) (G:=Fol folB) (e:=[125]) (r:=r) (l:=v) zCs (Fol.cons (c:=125) _ (by decide)) (zAw (c:=125) (d:=44) _ _ (by decide)) (fun x hx q=>zEr (hp.kids x hx) (d:=125) (by decide) _ _) (fun x hx q hq=>h x (hp.kids x hx) q hq)];rfl
 ·have e1:i=0:=by simpa using u1
  have e2:t=[]:=by simpa using u2
  have e4:y=[]:=by simpa using u4
  have e5:e=[]:=by simpa using u5
  subst e1 e2 e4 e5;have hc:consB v=true:=hp.kind
  match v,hc,hp.kids with
  | [a,b],hc,hkids=>
   have hkb:zAj b=5∨zAj b=7:=by simpa [consB] using hc
   obtain⟨ls,tl,h6,h7,h8⟩:=zH8 n b (hkids b (by simp)) hkb;have ha:∀ x∈a::ls,Fit n x:=by
    intro x hx;rcases List.mem_cons.1 hx with rfl|hx
    ·exact hkids _ (by simp)
    ·exact h8 x hx
   have eb:bodyV (.mk 7 0 [] [a,b] [] [] l)=[91]++(sepL zAc ((a::ls).map showV)++tlV tl):=by
    show bodyV (cnV a b)=_;rw[h6];exact zO3 tl a ls
   have es:setL [] (.mk 7 0 [] [a,b] [] [] l)=(a::ls).foldr cnV tl:=by
    rw[List.foldr_cons,←h6];rfl
   rw[eb,es,List.append_assoc,List.append_assoc];unfold unlP;rw[show ∀ z:Bs,cutP [123] ([91]++z)=none from fun z=>zAw _ _ (by decide),zAp];simp only;rw[zM1 h ha h7]
 ·have e1:i=0:=by simpa using u1
  have e2:t=[]:=by simpa using u2
  have e5:e=[]:=by simpa using u5
  subst e1 e2 e5;have hk:(y.all (fun x=>keyB x.1 x.2)&&decide (AscC cmpK y)&&decide (y.length=v.length))=true:=hp.kind;simp only[Bool.and_eq_true,List.all_eq_true,decide_eq_true_eq]at hk;obtain⟨⟨hk1,-⟩,hk2⟩:=hk;obtain⟨z1,z2⟩:=zCu y v hk2;have eb:bodyV (.mk 8 0 [] v y [] l)++r=[37,123]++(sepL zAc ((y.zip v).map fun x=>keyL x.1.1 x.1.2++[58,32]++showV x.2)++([125]++r)):=by
   show [37,123]++(sepL zAc (List.zipWith (fun x z=>keyL x.1 x.2++[58,32]++z) y (v.map showV))++[125])++r=_;rw[←zCb,z1,z2];simp
  rw[eb];unfold unlP;rw[show ∀ z:Bs,cutP [123] ([37,123]++z)=none from fun z=>zAw _ _ (by decide),show ∀ z:Bs,cutP [91] ([37,123]++z)=none from fun z=>zAw _ _ (by decide),zAp];simp only;rw[zDx (item:=zB7 val) (f:=fun x=>keyL x.1.1 x.1.2++[58,32]++showV x.2) (G:=Fol folB) (e:=[125]) (r:=r) (l:=y.zip v) zCs (Fol.cons (c:=125) _ (by decide)) (zAw (c:=125) (d:=44) _ _ (by decide)) ?_ ?_]
  ·simp only[Option.map_some,z1,z2];rfl
  ·rintro⟨⟨k,t⟩,x⟩ hx q;obtain⟨m1,m2⟩:=zEc hx;have hkb:=hk1 _ m1;simp only at hkb;simp only;rcases zHh hkb with rfl|rfl
   ·obtain⟨⟨c,q',ei,ec⟩,-⟩:=zDn (l:=t) (by simpa [keyB] using hkb);rw[show keyL 0 t=t from rfl,ei];refine zAw _ _ ?_;rintro rfl;exact absurd ec (by decide)
   ·exact zAw (c:=34) _ _ (by decide)
  ·rintro⟨⟨k,t⟩,x⟩ hx q hq;obtain⟨m1,m2⟩:=zEc hx;have hkb:=hk1 _ m1;exact zLa h hkb (zHh hkb) (hp.kids x m2) hq
 ·have e2:t=[]:=by simpa using u2
  have e3:v=[]:=by simpa using u3
  have e4:y=[]:=by simpa using u4
  subst e2 e3 e4;have hk:(decide (0≤i∧i≤4)&&e.all (entB i)&&decide (AscC cmpE e))=true:=hp.kind;simp only[Bool.and_eq_true,List.all_eq_true]at hk;have hz:∀ x∈e,zFr x=true→resOf x=zeroV:=by
   intro x hx hf;have:=hk.1.2 x hx;unfold entB at this;rw[hf]at this;simp only[Bool.not_true,Bool.false_or,Bool.and_eq_true]at this;exact zK5.1 this.2
  have eb:bodyV (.mk 9 i [] [] [] e l)++r=[102,117,110,47]++(Lib.itoa i++([123]++(sepL zAc (e.map showE)++([125]++r)))):=by
   show [102,117,110,47]++Lib.itoa i++[123]++(sepL zAc (e.map showE)++[125])++r=_;simp
  rw[eb];unfold unlP;rw[show ∀ z:Bs,cutP [123] ([102,117,110,47]++z)=none from fun z=>zAw _ _ (by decide),show ∀ z:Bs,cutP [91] ([102,117,110,47]++z)=none from fun z=>zAw _ _ (by decide),
   show ∀ z:Bs,cutP [37,123] ([102,117,110,47]++z)=none from fun z=>zAw _ _ (by decide),zAp]
  simp only;unfold funcP;rw[zG9 hp.lo hp.hi (show Brk numC ([123]++(sepL zAc (e.map showE)++([125]++r)))from Brk.cons (c:=123) _ (by decide))];simp only;rw[zAp];simp only;rw[zDx (item:=zB8 val) (f:=showE) (G:=Fol folB) (e:=[125]) (r:=r) (l:=e) zCs (Fol.cons (c:=125) _ (by decide)) (zAw (c:=125) (d:=44) _ _ (by decide)) ?_ (fun x hx q hq=>zLc h (hp.ents x hx) (hz x hx) hq)]
  ·rfl
  ·rintro⟨a,f,x⟩ hx q;rw[zCx];exact zAw (c:=40) _ _ (by decide)
theorem zJl {v:Vl}:setL (lbsV v) (setL [] v)=v:=by cases v;rfl
theorem zGq {n:Nat}{v:Vl}(h:Fit n v):∀ x∈lbsV v,varB x=true:=by
 obtain⟨m,rfl⟩:=h.pos;obtain⟨k,i,t,v,y,e,l⟩:=v;have hp:=h.parts.labs;unfold zAi at hp;simp only[Bool.and_eq_true,List.all_eq_true]at hp;exact hp.1
theorem zKx:∀ n,Full n (pV n)
 | 0=>by
  intro v hv;obtain⟨m,hm⟩:=hv.pos;omega
 | n+1=>by
  intro v hv r hr;have hl:=zGq hv;by_cases he:lbsV v=[]
  ·have e1:showV v=bodyV v:=by rw[zAg,he];simp[labsL]
   have e2:setL [] v=v:=by
    have:=zJl (v:=v);rw[he]at this;cases v;exact this
   simp only[pV];rw[e1,zJf (zKx n) hv hr.up];simp only;rw[hr.cut (d:=64) (by decide),e2]
  ·have e1:showV v++r=bodyV v++([64,40]++(sepL [32] ((lbsV v).map id)++([41]++r))):=by
    rw[zAg];unfold labsL;rw[if_neg he];simp
   simp only[pV];rw[e1,zJf (zKx n) hv (show Fol folU ([64,40]++(sepL [32] ((lbsV v).map id)++([41]++r)))from Fol.cons (c:=64) _ (by decide))];simp only;rw[zAp];simp only;rw[zDe (item:=zDi) (f:=id) (G:=Brk nameC) (sep:=[32]) (r:=[41]++r) (l:=lbsV v) (fun q=>Brk.cons (c:=32) q (by decide)) (by simp) (Brk.cons (c:=41) r (by decide)) (zAw (c:=41) (d:=32) _ _ (by decide)) he (fun x hx q hq=>zK3 (hl x hx) hq)];simp only;rw[zAp];simp only[zJl]
noncomputable def zH6 (n:Nat) (s:Bs):Option Vl:=match pV n s with
 | none=>none
 | some (v,r)=>if r=[]∧okV v=true then some v else none
theorem zKw {n:Nat}{v:Vl}(hv:Fit n v):zH6 n (showV v)=some v:=by
 have h1:=zKx n v hv [] (Fol.nil _);rw[List.append_nil]at h1;unfold zH6;rw[h1];simp only;rw[if_pos ⟨trivial,hv.ok⟩]
theorem zOx {l:List Vl}(h:l.length≠2):consB l=false:=by
 match l,h with
 | [],_=>rfl
 | [_],_=>rfl
 | [_,_],h=>exact absurd rfl h
 | _::_::_::_,_=>rfl
theorem zJ4 {k:Nat}{w:World}{B:Nat→Prop}{v:Vl}{cs:List Value}(h:VB k w B v cs):cs[0]?=some (.int .i64 (zAj v)):=by
 cases k with
 | zero=>exact h.elim
 | succ k=>
  obtain⟨kd,it,tx,kids,keys,ents,labs⟩:=v;obtain⟨uk,uy,ue,ul,rfl,_⟩:=h;rfl
theorem zOl (it:Int) (tx:List UInt8) (kids:List Vl) (keys:List (Int×List UInt8)) (ents:List En) (A Y E L:Option Addr) (c cy ce nl cl:Nat) (w:World):Calls Tryz.prog 113 #[.agg #[.int .i64 1,.int .i64 it,.string ⟨tx.toArray⟩,.slice A kids.length c,.slice Y keys.length cy,.slice E ents.length ce,.slice L nl cl]] w fun e w'=>e=.returned (.bool (kindB 1 it tx kids keys ents))∧Below w.heap.size w w':=by
 have HK:Hid (kindB 1 it tx kids keys ents=true):=xI (by simp[kindB]);generalize kindB 1 it tx kids keys ents=r at HK ⊢;go_enter Tryz.func113,Tryz.ntmps113;go_wp2
 all_goals go_ret
 all_goals exact⟨zAb (by rw[HK.out]),bR.alloc lR _⟩
theorem zOh (it:Int) (tx:List UInt8) (kids:List Vl) (keys:List (Int×List UInt8)) (ents:List En) (A Y E L:Option Addr) (c cy ce nl cl:Nat) (w:World):Calls Tryz.prog 113 #[.agg #[.int .i64 5,.int .i64 it,.string ⟨tx.toArray⟩,.slice A kids.length c,.slice Y keys.length cy,.slice E ents.length ce,.slice L nl cl]] w fun e w'=>e=.returned (.bool (kindB 5 it tx kids keys ents))∧Below w.heap.size w w':=by
 have HK:Hid (kindB 5 it tx kids keys ents=true):=xI (by simp[kindB]);generalize kindB 5 it tx kids keys ents=r at HK ⊢;go_enter Tryz.func113,Tryz.ntmps113;go_wp2
 all_goals go_ret
 all_goals exact⟨zAb (by rw[HK.out]),bR.alloc lR _⟩
theorem zOk (it:Int) (tx:List UInt8) (kids:List Vl) (keys:List (Int×List UInt8)) (ents:List En) (A Y E L:Option Addr) (c cy ce nl cl:Nat) (w:World) (ht:tx.length≤maxLen):Calls Tryz.prog 113 #[.agg #[.int .i64 2,.int .i64 it,.string ⟨tx.toArray⟩,.slice A kids.length c,.slice Y keys.length cy,.slice E ents.length ce,.slice L nl cl]] w fun e w'=>e=.returned (.bool (kindB 2 it tx kids keys ents))∧Below w.heap.size w w':=by
 have HK:Hid (kindB 2 it tx kids keys ents=decide (tx.length≤64)):=xI (by simp[kindB]);unfold maxLen at ht;generalize kindB 2 it tx kids keys ents=r at HK ⊢;go_enter Tryz.func113,Tryz.ntmps113;go_wp2
 all_goals go_ret
 all_goals exact⟨zAb (by rw[HK.out];simp;omega),bR.alloc lR _⟩
theorem zOi (it:Int) (tx:List UInt8) (kids:List Vl) (keys:List (Int×List UInt8)) (ents:List En) (A Y E L:Option Addr) (c cy ce nl cl:Nat) (w:World):Calls Tryz.prog 113 #[.agg #[.int .i64 4,.int .i64 it,.string ⟨tx.toArray⟩,.slice A kids.length c,.slice Y keys.length cy,.slice E ents.length ce,.slice L nl cl]] w fun e w'=>e=.returned (.bool (kindB 4 it tx kids keys ents))∧Below w.heap.size w w':=by
 have HK:Hid (kindB 4 it tx kids keys ents=decide (0≤it)):=xI (by simp[kindB]);generalize kindB 4 it tx kids keys ents=r at HK ⊢;go_enter Tryz.func113,Tryz.ntmps113;go_wp2
 all_goals go_ret
 all_goals exact⟨zAb (by rw[HK.out]),bR.alloc lR _⟩
theorem zOg (it:Int) (tx:List UInt8) (kids:List Vl) (keys:List (Int×List UInt8)) (ents:List En) (A Y E L:Option Addr) (c cy ce nl cl:Nat) (w:World) (hn:kids.length≤maxLen):Calls Tryz.prog 113 #[.agg #[.int .i64 6,.int .i64 it,.string ⟨tx.toArray⟩,.slice A kids.length c,.slice Y keys.length cy,.slice E ents.length ce,.slice L nl cl]] w fun e w'=>e=.returned (.bool (kindB 6 it tx kids keys ents))∧Below w.heap.size w w':=by
 have HK:Hid (kindB 6 it tx kids keys ents=decide (kids.length≤4)):=xI (by simp[kindB]);unfold maxLen at hn;generalize kindB 6 it tx kids keys ents=r at HK ⊢;go_enter Tryz.func113,Tryz.ntmps113;go_wp2
 all_goals go_ret
 all_goals exact⟨zAb (by rw[HK.out];simp;omega),bR.alloc lR _⟩
theorem zOj (it:Int) (tx:List UInt8) (kids:List Vl) (keys:List (Int×List UInt8)) (ents:List En) (A Y E L:Option Addr) (c cy ce nl cl:Nat) (w:World) (ht:tx.length≤maxLen):Calls Tryz.prog 113 #[.agg #[.int .i64 3,.int .i64 it,.string ⟨tx.toArray⟩,.slice A kids.length c,.slice Y keys.length cy,.slice E ents.length ce,.slice L nl cl]] w fun e w'=>e=.returned (.bool (kindB 3 it tx kids keys ents))∧Below w.heap.size w w':=by
 have HK:Hid (kindB 3 it tx kids keys ents=atomB tx):=xI (by simp[kindB]);have hc:=fun W=>zK7 tx W ht;generalize atomB tx=z at hc HK;generalize kindB 3 it tx kids keys ents=r at HK ⊢;go_enter Tryz.func113,Tryz.ntmps113;go_wp2_with (go_at_call 142;refine (hc _).mono ?_;rintro e w1 ⟨rfl,hb1⟩;refine Hid.out ?_);refine xI ?_;clear hc;go_wp2;go_ret;exact⟨zAb HK.out.symm,((Below.refl w.heap.size w).alloc lR _).trans (hb1.mono (by simp))⟩
theorem zOf (k:Nat) (it:Int) (tx:List UInt8) (kids:List Vl) (keys:List (Int×List UInt8)) (ents:List En) (A Y E L:Option Addr) (c cy ce nl cl:Nat) (w:World) (hk:RowP w w.heap.size 7 (.slice A kids.length c) kids.length (fun j cs=>∃ x,kids[j]?=some x∧VS k w w.heap.size x cs)):Calls Tryz.prog 113 #[.agg #[.int .i64 7,.int .i64 it,.string ⟨tx.toArray⟩,.slice A kids.length c,.slice Y keys.length cy,.slice E ents.length ce,.slice L nl cl]] w fun e w'=>e=.returned (.bool (kindB 7 it tx kids keys ents))∧Below w.heap.size w w':=by
 have HK:Hid (kindB 7 it tx kids keys ents=consB kids):=xI (by simp[kindB]);obtain⟨_,_,_,hkn⟩:=hk.form;unfold maxLen at hkn;generalize kindB 7 it tx kids keys ents=r at HK ⊢;by_cases hn:kids.length=2
 case neg=>
  have hq:((kids.length:Int)==2)=false:=by rw[beq_eq_false_iff_ne];omega
  have HU:Hid (r=false):=xI (by rw[HK.out];exact zOx hn);clear hk hn;go_enter Tryz.func113,Tryz.ntmps113;go_wp2;go_ret;exact⟨zAb HU.out.symm,bR.alloc lR _⟩
 obtain⟨x,y,rfl⟩:∃ x y,kids=[x,y]:=by
  match kids,hn with
  | [x,y],_=>exact⟨x,y,rfl⟩
 have HR:Hid (r=(decide (zAj y=5)||decide (zAj y=7))):=HK;obtain⟨b,off,cap0,x0,x1,x2,x3,x4,x5,x6,hu,hbH,⟨x',hx,hv⟩,c0,-,-,-,-,-,-⟩:=hk.at7 (show 1 < [x,y].length by simp);simp only[List.getElem?_cons_succ,List.getElem?_cons_zero,Option.some.injEq]at hx;subst hx;have hkd:=zJ4 hv;simp only[List.getElem?_cons_zero,Option.some.injEq]at hkd;subst hkd;injection hu with hA _ hcap;subst hA hcap;generalize zAj y=q at c0 HR;have g0:(w.alloc (.cells #[.int .i64 7,.int .i64 it,.string ⟨tx.toArray⟩,.slice (some ⟨b,off,none⟩) 2 c,.slice Y keys.length cy,.slice E ents.length ce,.slice L nl cl] 27)).cell? ⟨b,off+7,none⟩=some (.int .i64 q):=(((Below.refl w.heap.size w).alloc lR _).cell (p:=⟨b,off+7,none⟩) hbH).trans (by simpa using c0);clear hk hv c0 HK hn hkn;by_cases h5:q=5
 ·subst h5;have HU:Hid (r=true):=xI (by rw[HR.out];rfl);clear HR;go_enter Tryz.func113,Tryz.ntmps113;go_wp2;go_ret;exact⟨zAb HU.out.symm,bR.alloc lR _⟩
 ·have hq5:(q==5)=false:=by rw[beq_eq_false_iff_ne];exact h5
  have HU:Hid (r=(q==7)):=xI (by rw[HR.out];by_cases h7:q=7<;>simp[h5,h7]);clear HR h5;go_enter Tryz.func113,Tryz.ntmps113;go_wp2;go_ret;exact⟨zAb HU.out.symm,bR.alloc lR _⟩
theorem zOe (it:Int) (tx:List UInt8) (kids:List Vl) (keys:List (Int×List UInt8)) (ents:List En) (A Y E L:Option Addr) (c cy ce nl cl:Nat) (w:World) (hy:RowP w w.heap.size 2 (.slice Y keys.length cy) keys.length (fun j cs=>∃ x,keys[j]?=some x∧cs=[.int .i64 x.1,.string ⟨x.2.toArray⟩]∧(Lit.int .i64 x.1).wf=true∧x.2.length≤maxLen)):Calls Tryz.prog 113 #[.agg #[.int .i64 8,.int .i64 it,.string ⟨tx.toArray⟩,.slice A kids.length c,.slice Y keys.length cy,.slice E ents.length ce,.slice L nl cl]] w fun e w'=>e=.returned (.bool (kindB 8 it tx kids keys ents))∧Below w.heap.size w w':=by
 have HK:Hid (kindB 8 it tx kids keys ents=(keys.all (fun x=>keyB x.1 x.2)&&decide (AscC cmpK keys)&&decide (keys.length=kids.length))):=xI (by simp[kindB]);obtain⟨_,_,_,hyn⟩:=hy.form;unfold maxLen at hyn;have egv:=enters_of Tryz.func118 (by kernel_rfl) rfl;obtain⟨W,hW⟩:∃ W,W=w.alloc (.cells #[.int .i64 8,.int .i64 it,.string ⟨tx.toArray⟩,.slice A kids.length c,.slice Y keys.length cy,.slice E ents.length ce,.slice L nl cl] 27):=⟨_,rfl⟩;have hbb:Below w.heap.size w W:=by rw[hW];exact bR.alloc lR _
 have hzz:w.heap.size<W.heap.size:=by rw[hW];simp
 have q0:W.cell? ⟨w.heap.size,0,none⟩=some (.int .i64 8):=by rw[hW];simp
 have q1:W.cell? ⟨w.heap.size,1,none⟩=some (.int .i64 it):=by rw[hW];simp
 have q2:W.cell? ⟨w.heap.size,2,none⟩=some (.string ⟨tx.toArray⟩):=by rw[hW];simp
 have q3:W.cell? ⟨w.heap.size,3,none⟩=some (.slice A kids.length c):=by rw[hW];simp
 have q4:W.cell? ⟨w.heap.size,4,none⟩=some (.slice Y keys.length cy):=by rw[hW];simp
 have q5:W.cell? ⟨w.heap.size,5,none⟩=some (.slice E ents.length ce):=by rw[hW];simp
 have q6:W.cell? ⟨w.heap.size,6,none⟩=some (.slice L nl cl):=by rw[hW];simp
 have HB:=xI hbb;have h1:Hid (∀ V,Below w.heap.size w V→Calls Tryz.prog 143 #[.slice Y keys.length cy,.func (.func 118) #[] #[]] V fun e w'=>e=.returned (.bool (keys.all fun x=>keyB x.1 x.2))∧Below V.heap.size V w'):=xI fun V hV=>all2 _ egv (fun x=>keyB x.1 x.2) Y cy keys V (xI fun x U hx=>zIp x U hx.2) ((hy.on hV fun _ _ h=>h).mono hV.size fun _ _ h=>h);have h2:Hid (∀ V,Below w.heap.size w V→Calls Tryz.prog 144 #[.slice Y keys.length cy,.func (.func 145) #[] #[]] V fun e w'=>e=.returned (.bool (decide (AscC cmpK keys)))∧Below V.heap.size V w'):=xI fun V hV=>asc2 Y cy keys V ((hy.on hV fun _ _ h=>h).mono hV.size fun _ _ h=>h);clear hy hbb egv;generalize kindB 8 it tx kids keys ents=r at HK ⊢;generalize (keys.all fun x=>keyB x.1 x.2)=z1 at h1 HK;generalize decide (AscC cmpK keys)=z2 at h2 HK;by_cases hn:keys.length=kids.length
 case neg=>
  have hq:((keys.length:Int)==(kids.length:Int))=false:=by rw[beq_eq_false_iff_ne];omega
  have HU:Hid (r=false):=xI (by rw[HK.out];simp[hn]);clear hn;go_enter Tryz.func113,Tryz.ntmps113;go_wp2_with fail;rw[←hW];clear hW;go_wp2;go_ret;exact⟨zAb HU.out.symm,HB.out⟩
 have hq:((keys.length:Int)==(kids.length:Int))=true:=by rw[beq_iff_eq];omega
 have HR:Hid (r=(z1&&z2)):=xI (by rw[HK.out];simp[hn]);have HN:=xI hn;clear hn HK;go_enter Tryz.func113,Tryz.ntmps113;go_wp2_with fail;rw[←hW];clear hW;go_wp2_with (go_at_call 143;refine (h1.out _ HB.out).mono ?_;rintro e w1 ⟨rfl,hb1⟩;refine Hid.out ?_);refine xI ?_;have q4':w1.cell? ⟨w.heap.size,4,none⟩=some (.slice Y keys.length cy):=(hb1.cell (p:=⟨_,4,none⟩) hzz).trans q4;have HB1:=xI (HB.out.trans (hb1.mono HB.out.size));clear hb1 q0 q1 q2 q3 q4 q5 q6;cases z1
 ·have HU:Hid (r=false):=xI (by rw[HR.out];rfl);go_wp2;go_ret;exact⟨zAb HU.out.symm,HB1.out⟩
 ·have HU:Hid (r=z2):=xI (by rw[HR.out];rfl);go_wp2_with (go_at_call 144;refine (h2.out _ HB1.out).mono ?_;rintro e w2 ⟨rfl,hb2⟩;refine Hid.out ?_);refine xI ?_;go_wp2;go_ret;exact⟨zAb HU.out.symm,HB1.out.trans (hb2.mono HB1.out.size)⟩
theorem zOd (k:Nat) (it:Int) (tx:List UInt8) (kids:List Vl) (keys:List (Int×List UInt8)) (ents:List En) (A Y E L:Option Addr) (c cy ce nl cl:Nat) (w:World) (he:RowP w w.heap.size 9 (.slice E ents.length ce) ents.length (fun j cs=>∃ x,ents[j]?=some x∧ES (k+1) w w.heap.size x cs)):Calls Tryz.prog 113 #[.agg #[.int .i64 9,.int .i64 it,.string ⟨tx.toArray⟩,.slice A kids.length c,.slice Y keys.length cy,.slice E ents.length ce,.slice L nl cl]] w fun e w'=>e=.returned (.bool (kindB 9 it tx kids keys ents))∧Below w.heap.size w w':=by
 have HK:Hid (kindB 9 it tx kids keys ents=(decide (0≤it∧it≤4)&&ents.all (entB it)&&decide (AscC cmpE ents))):=xI (by simp[kindB]);have egv:=enters_of Tryz.func147 (by kernel_rfl) rfl;obtain⟨W,hW⟩:∃ W,W=w.alloc (.cells #[.int .i64 9,.int .i64 it,.string ⟨tx.toArray⟩,.slice A kids.length c,.slice Y keys.length cy,.slice E ents.length ce,.slice L nl cl] 27):=⟨_,rfl⟩;have hbb:Below w.heap.size w W:=by rw[hW];exact bR.alloc lR _
 have hzz:w.heap.size<W.heap.size:=by rw[hW];simp
 have q0:W.cell? ⟨w.heap.size,0,none⟩=some (.int .i64 9):=by rw[hW];simp
 have q1:W.cell? ⟨w.heap.size,1,none⟩=some (.int .i64 it):=by rw[hW];simp
 have q2:W.cell? ⟨w.heap.size,2,none⟩=some (.string ⟨tx.toArray⟩):=by rw[hW];simp
 have q3:W.cell? ⟨w.heap.size,3,none⟩=some (.slice A kids.length c):=by rw[hW];simp
 have q4:W.cell? ⟨w.heap.size,4,none⟩=some (.slice Y keys.length cy):=by rw[hW];simp
 have q5:W.cell? ⟨w.heap.size,5,none⟩=some (.slice E ents.length ce):=by rw[hW];simp
 have q6:W.cell? ⟨w.heap.size,6,none⟩=some (.slice L nl cl):=by rw[hW];simp
 have HB:=xI hbb;have hP:Hid (∀ (a b:En) (ca cb:List Value) (w:World),ES (k+1) w w.heap.size a ca→ES (k+1) w w.heap.size b cb→Calls Tryz.prog 150 #[.agg ca.toArray,.agg cb.toArray] w fun e w'=>e=.returned (.int .i64 (cmpE a b))∧Below w.heap.size w w'):=xI fun a b ca cb w h1 h2=>zL7 (k+1) (xI fun a b ca cb w h1 h2=>zGd (k+1) a b ca cb w h1 h2) a b ca cb w h1 h2;have h1:Hid (∀ V,Below W.heap.size W V→Calls Tryz.prog 65 #[.slice E ents.length ce,.func (.func 147) #[] #[.pointer (some ⟨w.heap.size,0,none⟩)]] V fun e w'=>e=.returned (.bool (ents.all (entB it)))∧Below V.heap.size V w'):=xI fun V hV=>by
  have hwV:=hbb.trans (hV.mono hbb.size);exact all9c (k+1) _ egv _ (entB it) E ce ents V (xI fun e cs U hU he'=>zOm k e cs it w.heap.size U he' (Nat.lt_of_lt_of_le hzz (Nat.le_trans hV.size hU.size)) (((hV.trans (hU.mono hV.size)).cell (p:=⟨w.heap.size,1,none⟩) hzz).trans q1)) ((he.on hwV fun _ _ ⟨x,h1,h2⟩=>⟨x,h1,ES.up hwV.size lR (ES.on hwV h2)⟩).mono hwV.size fun _ _ h=>h)
 have h2:Hid (∀ V,Below w.heap.size w V→Calls Tryz.prog 149 #[.slice E ents.length ce,.func (.func 150) #[] #[]] V fun e w'=>e=.returned (.bool (decide (AscC cmpE ents)))∧Below V.heap.size V w'):=xI fun V hV=>asc9 (k+1) hP E ce ents V ((he.on hV fun _ _ ⟨x,h1,h2⟩=>⟨x,h1,ES.up hV.size lR (ES.on hV h2)⟩).mono hV.size fun _ _ h=>h);have h0:=zHw it;have HB0:=xI (Below.refl W.heap.size W);clear he hbb egv hP;generalize kindB 9 it tx kids keys ents=r at HK ⊢;generalize decide (0≤it∧it≤4)=z0 at h0 HK;generalize ents.all (entB it)=z1 at h1 HK;generalize decide (AscC cmpE ents)=z2 at h2 HK;have hmf:∀ (fn:Fn) (first cap:Array Value) (w:World),(Instr.makeFunc fn first cap).run Tryz.prog w=.ok (.func fn first cap) w:=fun _ _ _ _=>rfl
 go_enter Tryz.func113,Tryz.ntmps113;go_wp2_with fail;rw[←hW];clear hW;go_wp2_with (go_at_call 146;refine (h0 _).mono ?_;rintro e w1 ⟨rfl,rfl⟩;refine Hid.out ?_);refine xI ?_;cases z0
 ·have HU:Hid (r=false):=xI (by rw[HK.out];rfl);go_wp2;go_ret;exact⟨zAb HU.out.symm,HB.out⟩
 go_wp2_with (go_at_call 65;refine (h1.out _ HB0.out).mono ?_;rintro e w1 ⟨rfl,hb1⟩;refine Hid.out ?_);refine xI ?_;have q5':w1.cell? ⟨w.heap.size,5,none⟩=some (.slice E ents.length ce):=(hb1.cell (p:=⟨_,5,none⟩) hzz).trans q5;have HB1:=xI (HB.out.trans (hb1.mono HB.out.size));clear hb1 q0 q1 q2 q3 q4 q5 q6;cases z1
 ·have HU:Hid (r=false):=xI (by rw[HK.out];rfl);go_wp2;go_ret;exact⟨zAb HU.out.symm,HB1.out⟩
 ·have HU:Hid (r=z2):=xI (by rw[HK.out];rfl);go_wp2_with (go_at_call 149;refine (h2.out _ HB1.out).mono ?_;rintro e w2 ⟨rfl,hb2⟩;refine Hid.out ?_);refine xI ?_;go_wp2;go_ret;exact⟨zAb HU.out.symm,HB1.out.trans (hb2.mono HB1.out.size)⟩
theorem zOc (kd:Int) (it:Int) (tx:List UInt8) (kids:List Vl) (keys:List (Int×List UInt8)) (ents:List En) (A Y E L:Option Addr) (c cy ce nl cl:Nat) (w:World) (h1:kd≠1) (h5:kd≠5) (h2:kd≠2) (h3:kd≠3) (h4:kd≠4) (h6:kd≠6) (h7:kd≠7) (h8:kd≠8) (h9:kd≠9):Calls Tryz.prog 113 #[.agg #[.int .i64 kd,.int .i64 it,.string ⟨tx.toArray⟩,.slice A kids.length c,.slice Y keys.length cy,.slice E ents.length ce,.slice L nl cl]] w fun e w'=>e=.returned (.bool (kindB kd it tx kids keys ents))∧Below w.heap.size w w':=by
 have HK:Hid (kindB kd it tx kids keys ents=false):=xI (by simp[kindB,h1,h5,h2,h3,h4,h6,h7,h8,h9]);have q1:(kd==1)=false:=by rw[beq_eq_false_iff_ne];exact h1
 have q5:(kd==5)=false:=by rw[beq_eq_false_iff_ne];exact h5
 have q2:(kd==2)=false:=by rw[beq_eq_false_iff_ne];exact h2
 have q3:(kd==3)=false:=by rw[beq_eq_false_iff_ne];exact h3
 have q4:(kd==4)=false:=by rw[beq_eq_false_iff_ne];exact h4
 have q6:(kd==6)=false:=by rw[beq_eq_false_iff_ne];exact h6
 have q7:(kd==7)=false:=by rw[beq_eq_false_iff_ne];exact h7
 have q8:(kd==8)=false:=by rw[beq_eq_false_iff_ne];exact h8
 have q9:(kd==9)=false:=by rw[beq_eq_false_iff_ne];exact h9
 generalize kindB kd it tx kids keys ents=r at HK ⊢;clear h1 h5 h2 h3 h4 h6 h7 h8 h9;go_enter Tryz.func113,Tryz.ntmps113;go_wp2;go_ret;exact⟨zAb HK.out.symm,bR.alloc lR _⟩
theorem zP1 (kd:Int) (k:Nat) (it:Int) (tx:List UInt8) (kids:List Vl) (keys:List (Int×List UInt8)) (ents:List En) (A Y E L:Option Addr) (c cy ce nl cl:Nat) (w:World) (ht:tx.length≤maxLen) (hk:RowP w w.heap.size 7 (.slice A kids.length c) kids.length (fun j cs=>∃ x,kids[j]?=some x∧VS k w w.heap.size x cs)) (hy:RowP w w.heap.size 2 (.slice Y keys.length cy) keys.length (fun j cs=>∃ x,keys[j]?=some x∧cs=[.int .i64 x.1,.string ⟨x.2.toArray⟩]∧(Lit.int .i64 x.1).wf=true∧x.2.length≤maxLen)) (he:RowP w w.heap.size 9 (.slice E ents.length ce) ents.length (fun j cs=>∃ x,ents[j]?=some x∧ES (k+1) w w.heap.size x cs)):Calls Tryz.prog 113 #[.agg #[.int .i64 kd,.int .i64 it,.string ⟨tx.toArray⟩,.slice A kids.length c,.slice Y keys.length cy,.slice E ents.length ce,.slice L nl cl]] w fun e w'=>e=.returned (.bool (kindB kd it tx kids keys ents))∧Below w.heap.size w w':=by
 obtain⟨_,_,_,hkn⟩:=hk.form;by_cases h1:kd=1
 ·subst h1;exact zOl it tx kids keys ents A Y E L c cy ce nl cl w
 by_cases h5:kd=5
 ·subst h5;exact zOh it tx kids keys ents A Y E L c cy ce nl cl w
 by_cases h2:kd=2
 ·subst h2;exact zOk it tx kids keys ents A Y E L c cy ce nl cl w ht
 by_cases h3:kd=3
 ·subst h3;exact zOj it tx kids keys ents A Y E L c cy ce nl cl w ht
 by_cases h4:kd=4
 ·subst h4;exact zOi it tx kids keys ents A Y E L c cy ce nl cl w
 by_cases h6:kd=6
 ·subst h6;exact zOg it tx kids keys ents A Y E L c cy ce nl cl w hkn
 by_cases h7:kd=7
 ·subst h7;exact zOf k it tx kids keys ents A Y E L c cy ce nl cl w hk
 by_cases h8:kd=8
 ·subst h8;exact zOe it tx kids keys ents A Y E L c cy ce nl cl w hy
 by_cases h9:kd=9
 ·subst h9;exact zOd k it tx kids keys ents A Y E L c cy ce nl cl w he
 exact zOc kd it tx kids keys ents A Y E L c cy ce nl cl w h1 h5 h2 h3 h4 h6 h7 h8 h9
end Go.Proofs.YtcjgaohblaidjaaGreatDoor
