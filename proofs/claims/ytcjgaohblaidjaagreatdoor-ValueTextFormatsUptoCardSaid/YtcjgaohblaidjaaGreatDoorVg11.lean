/- What atomOrString of the program's parser gives: the atom, or the string, whose notation comes next. -/
import Derived.Test.YtcjgaohblaidjaaGreatDoorVgZ
import Derived.Test.YtcjgaohblaidjaaGreatDoorVg04
import Derived.Test.YtcjgaohblaidjaaGreatDoorVg09
import Derived.Test.YtcjgaohblaidjaaGreatDoorVg10
set_option maxRecDepth 100000
set_option maxHeartbeats 3200000
namespace Go.Proofs.YtcjgaohblaidjaaGreatDoor
open Go Go.RowKit
def atomV (x:Int×Bs):Vl:=.mk (if x.1=1 then 2 else 3) 0 x.2 [] [] [] []
theorem zFd (k:Nat) (w:World) (B:Nat→Prop) (kd i:Int) (t:Bs) (h1:(Lit.int .i64 kd).wf=true) (h2:(Lit.int .i64 i).wf=true) (h3:t.length≤maxLen):VB (k+1) w B (.mk kd i t [] [] [] []) [.int .i64 kd,.int .i64 i,.string ⟨t.toArray⟩,.slice none 0 0,.slice none 0 0,.slice none 0 0,.slice none 0 0]:=by
 have hn:∀ (c:Nat) (R:Nat→List Value→Prop),RowB w B c (.slice none 0 0) 0 R:=fun c R=>⟨none,0,rfl,⟨Nat.zero_le _,Nat.le_refl _⟩,fun h=>absurd h (Nat.lt_irrefl _)⟩;exact⟨_,_,_,_,rfl,h1,h2,h3,hn _ _,hn _ _,hn _ _,hn _ _⟩
theorem zIg (k p:Nat) (r:Bs) (d:Int) (w:World) (h:PrsW p r d w) (hr:r.length≤limP) :
  Calls Tryz.prog 85 #[.pointer (some ⟨p,0,none⟩)] w (zDp (k+1) p d ((keyP r).map fun x=>(atomV x.1,x.2)) r w):=by
 have hlp:=h.lt;unfold limP at hr;obtain⟨W,hW⟩:∃ W,W=w.alloc (.cells #[.int .i64 0,.int .i64 0,.string ⟨#[]⟩,.slice none 0 0,.slice none 0 0,.slice none 0 0,.slice none 0 0] 27):=⟨_,rfl⟩;have kW:W.heap[w.heap.size]?=some (.cells #[.int .i64 0,.int .i64 0,.string ⟨#[]⟩,.slice none 0 0,.slice none 0 0,.slice none 0 0,.slice none 0 0] 27 (0,0)):=by rw[hW];exact heap_alloc_new w _
 have hLW:Left p r r d w W:=by rw[hW];exact (Left.refl h).alloc _
 have hsW:W.heap.size=w.heap.size+1:=by rw[hW];simp
 have hne:w.heap.size≠p:=by omega
 clear h;have hk:=zL4 p r d W hLW.2.1 (by unfold limP;omega);have HLW:=xI hLW;clear hLW;generalize keyP r=o at hk ⊢;have HKW:=xI kW;clear kW;go_enter Tryz.func85,Tryz.ntmps85;go_wp2_with fail;rw[←hW];clear hW;refine hk.mono ?_;rintro e w2 ⟨y,z,q,rfl,hL2',hres⟩;clear hk;have k2:=hL2'.box HKW.out hne;have hL2:=HLW.out.trans hL2';have k3:=(Below.heap_alloc w2 (.cells #[.int .i64 y,.string z] 80) _ (Array.getElem?_eq_some_iff.1 k2).1).trans k2;have hL3:=hL2.alloc (.cells #[.int .i64 y,.string z] 80);have HR:=xI hres;have HS2:=xI hL2.size;clear k2 hL2 hL2' hres;generalize hob0:o.isSome=ob;have HO:=xI hob0;clear hob0;by_cases hy:y=1
 ·subst hy;obtain⟨e0,e1,e2,e3,e4,e5,e6⟩:=zAd k3;obtain⟨z0,z1,z2,z3,z4,z5,z6⟩:=zAe k3;have HK3:=xI k3;have HL3:=xI hL3;clear k3 hL3;go_wp2;obtain⟨V,hV⟩:∃ V,V=((((((((w2.alloc (.cells #[.int .i64 1,.string z] 80)).setCell ⟨w.heap.size,0,none⟩ (.int .i64 2)).setCell ⟨w.heap.size,1,none⟩ (.int .i64 0)).setCell ⟨w.heap.size,2,none⟩ (.string z)).setCell ⟨w.heap.size,3,none⟩ (.slice none 0 0)).setCell ⟨w.heap.size,4,none⟩ (.slice none 0 0)).setCell ⟨w.heap.size,5,none⟩ (.slice none 0 0)).setCell ⟨w.heap.size,6,none⟩ (.slice none 0 0)):=⟨_,rfl⟩;rw[←hV];obtain⟨hLV,hob,hszV,hsm,hoth⟩:=boxR7 HK3.out lR hlp HL3.out (.int .i64 2) (.int .i64 0) (.string z) (.slice none 0 0) (.slice none 0 0) (.slice none 0 0) (.slice none 0 0) V hV;clear hV e0 e1 e2 e3 e4 e5 e6 z0 z1 z2 z3 z4 z5 z6;obtain⟨ps0,ps1,ps2,ps3,ps4,ps5,ps6⟩:=zAd hob;refine bodyPost_ret (v:=.tuple #[.agg #[.int .i64 2,.int .i64 0,.string z,.slice none 0 0,.slice none 0 0,.slice none 0 0,.slice none 0 0],.bool ob]) (by simp[results,Tryz.results85,go_sem,ps0,ps1,ps2,ps3,ps4,ps5,ps6]) rfl ?_;cases o with
  | none=>have hob1:false=ob:=HO.out;subst hob1;exact zAl rfl hLV
  | some xt=>
   obtain⟨x,t⟩:=xt;obtain⟨rfl,e1,rfl,h01,hxl⟩:=HR.out _ _ rfl;have hob1:true=ob:=HO.out;subst hob1;refine zAt (v:=atomV x) rfl hLV ?_;have e2:atomV x=.mk 2 0 x.2 [] [] [] []:=by
    unfold atomV;rw[if_pos e1.symm]
   rw[e2];exact zFd k V _ 2 0 x.2 (by decide) (by decide) hxl
 ·have HY:=xI hy;obtain⟨e0,e1,e2,e3,e4,e5,e6⟩:=zAd k3;obtain⟨z0,z1,z2,z3,z4,z5,z6⟩:=zAe k3;have HK3:=xI k3;have HL3:=xI hL3;clear k3 hL3;go_wp2;obtain⟨V,hV⟩:∃ V,V=((((((((w2.alloc (.cells #[.int .i64 y,.string z] 80)).setCell ⟨w.heap.size,0,none⟩ (.int .i64 3)).setCell ⟨w.heap.size,1,none⟩ (.int .i64 0)).setCell ⟨w.heap.size,2,none⟩ (.string z)).setCell ⟨w.heap.size,3,none⟩ (.slice none 0 0)).setCell ⟨w.heap.size,4,none⟩ (.slice none 0 0)).setCell ⟨w.heap.size,5,none⟩ (.slice none 0 0)).setCell ⟨w.heap.size,6,none⟩ (.slice none 0 0)):=⟨_,rfl⟩;rw[←hV];obtain⟨hLV,hob,hszV,hsm,hoth⟩:=boxR7 HK3.out lR hlp HL3.out (.int .i64 3) (.int .i64 0) (.string z) (.slice none 0 0) (.slice none 0 0) (.slice none 0 0) (.slice none 0 0) V hV;clear hV e0 e1 e2 e3 e4 e5 e6 z0 z1 z2 z3 z4 z5 z6;obtain⟨ps0,ps1,ps2,ps3,ps4,ps5,ps6⟩:=zAd hob;refine bodyPost_ret (v:=.tuple #[.agg #[.int .i64 3,.int .i64 0,.string z,.slice none 0 0,.slice none 0 0,.slice none 0 0,.slice none 0 0],.bool ob]) (by simp[results,Tryz.results85,go_sem,ps0,ps1,ps2,ps3,ps4,ps5,ps6]) rfl ?_;cases o with
  | none=>have hob1:false=ob:=HO.out;subst hob1;exact zAl rfl hLV
  | some xt=>
   obtain⟨x,t⟩:=xt;obtain⟨rfl,e1,rfl,h01,hxl⟩:=HR.out _ _ rfl;have hob1:true=ob:=HO.out;subst hob1;refine zAt (v:=atomV x) rfl hLV ?_;have e2:atomV x=.mk 3 0 x.2 [] [] [] []:=by
    unfold atomV;rw[if_neg (fun h=>HY.out (e1.trans h))]
   rw[e2];exact zFd k V _ 3 0 x.2 (by decide) (by decide) hxl
theorem Tryz.infoF5:(Tryz.prog.info? 143).map (fun i=>(i.zero,i.size,i.bytes))=some (some (.agg #[.int .i64 0,.string ⟨#[]⟩,.int .i64 0,.int .i64 0,.string ⟨#[]⟩,.slice none 0 0,.slice none 0 0,.slice none 0 0,.slice none 0 0]),9,152):=by kernel_rfl
theorem zJc {ops:Array Oper}{rest:List Oper}{o:Oper}{a:Act}{Q:Exit→Act→World→Prop}{w0:World}(hgd:o.guard=none) (s x:Operand)
  (ho:o.op=.call { callee:=.builtin .append,args:=#[s,x],argTypes:=#[139,139] }) (k:Nat) (base:Nat) (v:Value) (l:List ((Int×Bs)×Vl)) (hs:a.eval s=v) (hown:OwnE (elF k) 143 9 w0 base v l)
  (y:((Int×Bs)×Vl)) (cs:List Value) (cap1:Nat) (H:Nat) (hH:w0.heap.size=H) (hx:a.eval x=.slice (some ⟨H,0,none⟩) 1 cap1) (cells:Array Value) (hcells:cells=cs.toArray)
  (hy:(elF k).E y w0 (fun b=>base≤b∧b<w0.heap.size∧some b≠v.ownBlock) cs) (hcs:cs.length=9) (h1c:∀ u∈cs,u.oneCell'=true) (hn:l.length≤300000000) (hbase:base≤w0.heap.size)
  (h:∀ g cap w',OwnE (elF k) 143 9 w' base (.slice (some ⟨g,0,none⟩) (l.length+1) cap) (l++[y])→Below base w0 w'→wpList Tryz.prog ops Q rest (a.put o.dst (.slice (some ⟨g,0,none⟩) (l.length+1) cap)) w') :
  wpList Tryz.prog ops Q (o::rest) a (w0.alloc (.cells cells 143)):=by
 subst hcells;obtain⟨i0,hi,hz0,hz1,hz2⟩:=info_parts Tryz.infoF5;obtain⟨g,cap,w',h1,h2,h3,_,_⟩:=zBa (elF k) 139 o.type 143 i0 (.agg #[.int .i64 0,.string ⟨#[]⟩,.int .i64 0,.int .i64 0,.string ⟨#[]⟩,.slice none 0 0,.slice none 0 0,.slice none 0 0,.slice none 0 0]) 9 152 Tryz.underlying139 hi hz0 hz1 hz2 rfl (by decide) (by decide) w0 base v l hown y cs hy hcs h1c hn hbase H hH cap1;exact Lib.wpList_append_run _ hgd s x 139 139 ho v _ hs hx _ w' h1 (h g cap w' h2 h3)
theorem zPm (B k p:Nat) (hBp:B≤p) (d:Int) (item:Rd ((Int×Bs)×Vl)) (hI:Hid (FldI B k p d item)) (sep:Bs) (hsep:sep≠[]) (r:Bs) (w:World) (h:PrsW p r d w) (hr:r.length≤limP) (hE:EnvH B w) :
  Calls Tryz.prog 157 #[.pointer (some ⟨p,0,none⟩),.func (.func 128) #[.pointer (some ⟨p,0,none⟩)] #[],.string ⟨sep.toArray⟩] w (zCa (elF k) 143 9 p d (seqL item sep r) r w):=by
 have hp0:=h.lt;have H0:=xI (Left.refl h);have HE:=xI hE;unfold limP at hr;clear h hE;go_enter Tryz.func157,Tryz.ntmps157;go_wp2_with fail
 go_loopg [8] (r.length+2) (fun gk lv wr=>∃ A cap ls rc,lv=.slice A (List.length (α:=((Int×Bs)×Vl)) ls) cap∧Left p rc r d w wr∧OwnE (elF k) 143 9 wr w.heap.size (.slice A ls.length cap) ls∧rc.length+ls.length≤r.length+1∧((ls=[]∧r=rc∧rc.length+1<gk)∨(ls≠[]∧rc.length<gk∧seqL item sep r=contL item sep ls rc)))
 case atStart=>exact⟨none,0,[],r,rfl,H0.out,OwnE.nil _ _ _ _ _,by simp,.inl ⟨rfl,rfl,by omega⟩⟩
 case round=>
  obtain⟨A,cap,ls,rc,rfl,hL,hO,hlen,hcase0⟩:=hrel;have hrc:=hL.2.2;rcases id hcase0 with⟨rfl,rfl,hg⟩|⟨hne,hg,heq⟩
  ·have hvc:=hI.out r wr hL.2.1 (by unfold limP;omega) (HE.out.eff hL.1 hBp);have hzW:=hL.1.size;cases ho:item r with
   | none=>
    rw[ho]at hvc;have HQ:=xI (show seqL item sep r=none from zDd ho);have HL:=xI hL;clear hO hL hcase0;go_wp2_with fail;refine hvc.mono ?_;rintro e w3 ⟨y,z,a,i,s,A1,n1,c1,A2,n2,c2,A3,n3,c3,A4,n4,c4,q,rfl,hL3,hres⟩;clear hvc hres;have HX:=xI ((HL.out.trans hL3).below (bR.alloc lR (.cells #[.int .i64 y,.string z,.int .i64 a,.int .i64 i,.string s,.slice A1 n1 c1,.slice A2 n2 c2,.slice A3 n3 c3,.slice A4 n4 c4] 143)));clear hL3;go_wp2;refine bodyPost_ret (v:=.tuple #[.slice none 0 0,.bool false]) (by simp[results,Tryz.results157,go_sem]) rfl ?_;exact⟨none,0,0,q,[],by rw[HQ.out];rfl,HX.out,⟨rfl,by omega,OwnE.nil _ _ _ _ _⟩,fun l t h=>by rw[HQ.out]at h;cases h⟩
   | some vt=>
    obtain⟨v,t⟩:=vt;rw[ho]at hvc;have HL:=xI hL;have HO:=xI hO;have HLL:=xI hlen;clear hO hL hcase0 hlen;go_wp2_with fail;refine hvc.mono ?_;rintro e w3 ⟨y,z,a,i,s,A1,n1,c1,A2,n2,c2,A3,n3,c3,A4,n4,c4,q,rfl,hL3,hres⟩;obtain⟨rfl,hvb⟩:=hres _ _ rfl;clear hvc hres;have hl3:=hL3.2.2;have HQ:=xI (show seqL item sep r=contL item sep ([]++[v]) q from zDc ho hl3 hsep);have hO3:=HO.out.eff hL3.1 hp0;have hblk:=HO.out.blk5;have hz3:=hL3.1.size;have hLa:=HL.out.trans hL3;have hbx:Below w3.heap.size w3 (w3.alloc (.cells #[.int .i64 y,.string z,.int .i64 a,.int .i64 i,.string s,.slice A1 n1 c1,.slice A2 n2 c2,.slice A3 n3 c3,.slice A4 n4 c4] 143)):=bR.alloc lR _;have hO4:=hO3.old hbx;have hLb:=hLa.below hbx;have hvb4:(elF k).E v (w3.alloc (.cells #[.int .i64 y,.string z,.int .i64 a,.int .i64 i,.string s,.slice A1 n1 c1,.slice A2 n2 c2,.slice A3 n3 c3,.slice A4 n4 c4] 143)) (fun b=>w.heap.size≤b∧b<(w3.alloc (.cells #[.int .i64 y,.string z,.int .i64 a,.int .i64 i,.string s,.slice A1 n1 c1,.slice A2 n2 c2,.slice A3 n3 c3,.slice A4 n4 c4] 143)).heap.size∧some b≠(Value.slice A ([]:List ((Int×Bs)×Vl)).length cap).ownBlock) [.int .i64 y,.string z,.int .i64 a,.int .i64 i,.string s,.slice A1 n1 c1,.slice A2 n2 c2,.slice A3 n3 c3,.slice A4 n4 c4]:=((elF k).sub (fun b hb=>⟨by have:=hb.1;omega,by have:=hb.2;simp;omega,fun e=>by have:=hblk b e.symm;have:=hb.1;omega⟩) ((elF k).keep (Same.of_below hbx fun b hb=>hb.2) hvb));have hll:=HLL.out;have hz4:w.heap.size≤(w3.alloc (.cells #[.int .i64 y,.string z,.int .i64 a,.int .i64 i,.string s,.slice A1 n1 c1,.slice A2 n2 c2,.slice A3 n3 c3,.slice A4 n4 c4] 143)).heap.size:=by simp;omega
    have HLB:=xI hLb;have HG:=xI (aN hg hl3);clear hLb hLa hL3 hO3 hbx hvb hg ho;obtain⟨V,hV⟩:∃ V,V=w3.alloc (.cells #[.int .i64 y,.string z,.int .i64 a,.int .i64 i,.string s,.slice A1 n1 c1,.slice A2 n2 c2,.slice A3 n3 c3,.slice A4 n4 c4] 143):=⟨_,rfl⟩;go_wp2_with (at_builtin;refine zJc rfl _ _ rfl k w.heap.size (.slice A ([]:List ((Int×Bs)×Vl)).length cap) [] rfl hO4 v _ 1 (w3.heap.size+1) (by simp) rfl _ rfl hvb4 rfl (zOp k v _ _ _ hvb4) (by omega) hz4 ?_;intro g2 cap2 w4 ho4 hb4;refine Hid.out ?_);refine xI ?_;have HO4:=xI ho4;have HL4:=xI (show Left p q r d w w4 from⟨HLB.out.1.grow hb4 hp0,HLB.out.2.1.below hb4 hp0,HLB.out.2.2⟩);clear ho4 hb4 hvb4 hO4;go_wp2_with fail
    go_roundg (q.length+1)
    case measure=>have:=HG.out.1;have:=HG.out.2;omega
    case rel=>
     have:=HG.out.2;have hll:=HLL.out;exact⟨some ⟨g2,0,none⟩,cap2,[]++[v],q,by rw[List.length_append];rfl,HL4.out,by rw[List.length_append];exact HO4.out,by rw[List.length_append];simp only[List.length_singleton,List.length_nil];simp at hll;omega,.inr ⟨by simp,by omega,HQ.out⟩⟩
  ·have hpos:=List.length_pos_iff.2 hne;cases hcut:cutP sep rc with
   | none=>
    have hac:=zAr p rc sep d wr hL.2.1 hcut;have HQ:=xI (heq.trans (zE7 ls hcut));have HL:=xI hL;have HO:=xI hO;clear hL hO hcase0 heq;generalize hln:ls.length=m at *;have HLN:=xI hln;have HGS:=xI hg;clear hln hg;have k1:¬ (m:Int)=0:=by omega
    go_wp2_with fail;refine hac.mono ?_;rintro e w1 ⟨rfl,hL1,hs1⟩;clear hac;have HL1:=xI hL1;have HS1:=xI hs1;clear hL1 hs1;go_wp2;refine bodyPost_ret (v:=.tuple #[.slice A m cap,.bool true]) (by simp[results,Tryz.results157,go_sem]) rfl ?_;refine⟨A,m,cap,rc,ls,by rw[HQ.out];rfl,HL.out.trans HL1.out,⟨HLN.out.symm,by omega,HO.out.eff HL1.out.1 hp0⟩,fun l t h=>?_⟩;rw[HQ.out]at h;simp only[Option.some.injEq,Prod.mk.injEq]at h;obtain⟨rfl,rfl⟩:=h;exact⟨rfl,rfl⟩
   | some r'=>
    have hac:=zAk p rc sep r' d wr hL.2.1 hcut;have hcl:=zA2 hcut;have k1:¬ (ls.length:Int)=0:=by omega
    have HL0:=xI hL;have HO0:=xI hO;have HQ0:=xI (aN heq (aN hcut hlen));have HG0:=xI hg;clear hL hO hcase0 heq hcut hlen hg;go_wp2_with fail;refine hac.mono ?_;rintro e w1 ⟨rfl,hL1,hs1⟩;clear hac hs1;have hL:=HL0.out.trans hL1;have hO:=HO0.out.eff hL1.1 hp0;obtain⟨heq,hcut,hlen⟩:=HQ0.out;have hg:=HG0.out;have hvc:=hI.out r' w1 hL.2.1 (by unfold limP;omega) (HE.out.eff hL.1 hBp);clear hL1;have hcase0:=True.intro;have hzW:=hL.1.size;cases ho:item r' with
    | none=>
     rw[ho]at hvc;have HQ:=xI (show seqL item sep r=none from (heq.trans (zD3 ls hcut ho)));have HL:=xI hL;clear hO hL hcase0;go_wp2_with fail;refine hvc.mono ?_;rintro e w3 ⟨y,z,a,i,s,A1,n1,c1,A2,n2,c2,A3,n3,c3,A4,n4,c4,q,rfl,hL3,hres⟩;clear hvc hres;have HX:=xI ((HL.out.trans hL3).below (bR.alloc lR (.cells #[.int .i64 y,.string z,.int .i64 a,.int .i64 i,.string s,.slice A1 n1 c1,.slice A2 n2 c2,.slice A3 n3 c3,.slice A4 n4 c4] 143)));clear hL3;go_wp2;refine bodyPost_ret (v:=.tuple #[.slice none 0 0,.bool false]) (by simp[results,Tryz.results157,go_sem]) rfl ?_;exact⟨none,0,0,q,[],by rw[HQ.out];rfl,HX.out,⟨rfl,by omega,OwnE.nil _ _ _ _ _⟩,fun l t h=>by rw[HQ.out]at h;cases h⟩
    | some vt=>
     obtain⟨v,t⟩:=vt;rw[ho]at hvc;have HL:=xI hL;have HO:=xI hO;have HLL:=xI hlen;clear hO hL hcase0 hlen;go_wp2_with fail;refine hvc.mono ?_;rintro e w3 ⟨y,z,a,i,s,A1,n1,c1,A2,n2,c2,A3,n3,c3,A4,n4,c4,q,rfl,hL3,hres⟩;obtain⟨rfl,hvb⟩:=hres _ _ rfl;clear hvc hres;have hl3:=hL3.2.2;have HQ:=xI (show seqL item sep r=contL item sep (ls++[v]) q from (heq.trans (zD2 ls hcut ho hl3 hsep)));have hO3:=HO.out.eff hL3.1 hp0;have hblk:=HO.out.blk5;have hz3:=hL3.1.size;have hLa:=HL.out.trans hL3;have hbx:Below w3.heap.size w3 (w3.alloc (.cells #[.int .i64 y,.string z,.int .i64 a,.int .i64 i,.string s,.slice A1 n1 c1,.slice A2 n2 c2,.slice A3 n3 c3,.slice A4 n4 c4] 143)):=bR.alloc lR _;have hO4:=hO3.old hbx;have hLb:=hLa.below hbx;have hvb4:(elF k).E v (w3.alloc (.cells #[.int .i64 y,.string z,.int .i64 a,.int .i64 i,.string s,.slice A1 n1 c1,.slice A2 n2 c2,.slice A3 n3 c3,.slice A4 n4 c4] 143)) (fun b=>w.heap.size≤b∧b<(w3.alloc (.cells #[.int .i64 y,.string z,.int .i64 a,.int .i64 i,.string s,.slice A1 n1 c1,.slice A2 n2 c2,.slice A3 n3 c3,.slice A4 n4 c4] 143)).heap.size∧some b≠(Value.slice A ls.length cap).ownBlock) [.int .i64 y,.string z,.int .i64 a,.int .i64 i,.string s,.slice A1 n1 c1,.slice A2 n2 c2,.slice A3 n3 c3,.slice A4 n4 c4]:=((elF k).sub (fun b hb=>⟨by have:=hb.1;omega,by have:=hb.2;simp;omega,fun e=>by have:=hblk b e.symm;have:=hb.1;omega⟩) ((elF k).keep (Same.of_below hbx fun b hb=>hb.2) hvb));have hll:=HLL.out;have hz4:w.heap.size≤(w3.alloc (.cells #[.int .i64 y,.string z,.int .i64 a,.int .i64 i,.string s,.slice A1 n1 c1,.slice A2 n2 c2,.slice A3 n3 c3,.slice A4 n4 c4] 143)).heap.size:=by simp;omega
     have HLB:=xI hLb;have HG:=xI (aN hg hl3);clear hLb hLa hL3 hO3 hbx hvb hg ho;obtain⟨V,hV⟩:∃ V,V=w3.alloc (.cells #[.int .i64 y,.string z,.int .i64 a,.int .i64 i,.string s,.slice A1 n1 c1,.slice A2 n2 c2,.slice A3 n3 c3,.slice A4 n4 c4] 143):=⟨_,rfl⟩;go_wp2_with (at_builtin;refine zJc rfl _ _ rfl k w.heap.size (.slice A ls.length cap) ls rfl hO4 v _ 1 (w3.heap.size+1) (by simp) rfl _ rfl hvb4 rfl (zOp k v _ _ _ hvb4) (by omega) hz4 ?_;intro g2 cap2 w4 ho4 hb4;refine Hid.out ?_);refine xI ?_;have HO4:=xI ho4;have HL4:=xI (show Left p q r d w w4 from⟨HLB.out.1.grow hb4 hp0,HLB.out.2.1.below hb4 hp0,HLB.out.2.2⟩);clear ho4 hb4 hvb4 hO4;go_wp2_with fail
     go_roundg (q.length+1)
     case measure=>have:=HG.out.1;have:=HG.out.2;have:=zA2 hcut;have:=List.length_pos_iff.2 hsep;omega
     case rel=>
      have:=HG.out.2;have hll:=HLL.out;exact⟨some ⟨g2,0,none⟩,cap2,ls++[v],q,by rw[List.length_append];rfl,HL4.out,by rw[List.length_append];exact HO4.out,by rw[List.length_append];simp only[List.length_singleton];have:=zA2 hcut;have:=List.length_pos_iff.2 hsep;omega,.inr ⟨by simp,by omega,HQ.out⟩⟩
theorem zP5 (B k p:Nat) (hBp:B≤p) (d:Int) (item:Rd ((Int×Bs)×Vl)) (hI:Hid (FldI B k p d item)) (en:Bs) (r:Bs) (w:World) (h:PrsW p r d w) (hr:r.length≤limP) (hE:EnvH B w) :
  Calls Tryz.prog 127 #[.pointer (some ⟨p,0,none⟩),.func (.func 128) #[.pointer (some ⟨p,0,none⟩)] #[],.string ⟨en.toArray⟩] w (zCa (elF k) 143 9 p d (manyP item en r) r w):=by
 have hlp:=h.lt;unfold limP at hr;cases hc:cutP en r with
 | some q=>
  have hac:=zAk p r en q d w h hc;have HQ:=xI (zFn (item:=item) hc);clear hc h hE;go_enter Tryz.func127,Tryz.ntmps127;go_wp2_with fail;refine hac.mono ?_;rintro e w1 ⟨rfl,hL1,hs1⟩;clear hac;have HL1:=xI hL1;clear hL1 hs1;go_wp2;refine bodyPost_ret (v:=.tuple #[.slice none 0 0,.bool true]) (by simp[results,Tryz.results127,go_sem]) rfl ?_;refine⟨none,0,0,q,[],by rw[HQ.out];rfl,HL1.out,⟨rfl,by omega,OwnE.nil _ _ _ _ _⟩,fun l t hx=>?_⟩;rw[HQ.out]at hx;simp only[Option.some.injEq,Prod.mk.injEq]at hx;obtain⟨rfl,rfl⟩:=hx;exact⟨rfl,rfl⟩
 | none=>
  have hac:=zAr p r en d w h hc;have HC:=xI hc;have HE:=xI hE;clear hc h hE;go_enter Tryz.func127,Tryz.ntmps127;go_wp2_with fail;refine hac.mono ?_;rintro e w1 ⟨rfl,hL1,hs1⟩;clear hac;have hsq:=zPm B k p hBp d item hI zAc (by decide) r w1 hL1.2.1 (by unfold limP;omega) (HE.out.eff hL1.1 hBp);have HL1:=xI hL1;have HS1:=xI hs1;clear hL1 hs1;cases ho:seqL item zAc r with
  | none=>
   rw[ho]at hsq;have HQ:=xI (zFo HC.out ho);clear ho;go_wp2_with fail;refine hsq.mono ?_;rintro e w2 ⟨A,n,cap,q,l0,rfl,hL2,⟨hn,hn2,hown⟩,hres⟩;clear hsq hres;rw[HS1.out]at hown;have HOW:=xI (aN hn (aN hn2 hown));clear hn hn2 hown;have HL2:=xI (HL1.out.trans hL2);clear hL2;go_wp2;refine bodyPost_ret (v:=.tuple #[.slice A n cap,.bool false]) (by simp[results,Tryz.results127,go_sem]) rfl ?_;exact⟨A,n,cap,q,l0,by rw[HQ.out];rfl,HL2.out,HOW.out,fun l t hx=>by rw[HQ.out]at hx;cases hx⟩
  | some lt=>
   obtain⟨l,t⟩:=lt;rw[ho]at hsq;have HO:=xI ho;clear ho;go_wp2_with fail;refine hsq.mono ?_;rintro e w2 ⟨A,n,cap,q,l0,rfl,hL2,⟨hn,hn2,hown⟩,hres⟩;clear hsq;obtain⟨rfl,rfl⟩:=hres _ _ rfl;clear hres;have HN:=xI (aN hn hn2);rw[HS1.out]at hown;have HOW:=xI hown;have HL2:=xI (HL1.out.trans hL2);have hPq:=hL2.2.1;clear hn hn2 hown hL2;cases hd:cutP en q with
   | none=>
    have hac:=zAr p q en d w2 hPq hd;have HQ:Hid (manyP item en r=none):=xI ((zCr HC.out HO.out).trans (by rw[hd];rfl));clear hd hPq;go_wp2_with fail;refine hac.mono ?_;rintro e w3 ⟨rfl,hL3,hs3⟩;clear hac;have HL3:=xI (HL2.out.trans hL3);have HOW3:=xI (HOW.out.eff hL3.1 hlp);clear hL3 hs3;go_wp2;refine bodyPost_ret (v:=.tuple #[.slice A n cap,.bool false]) (by simp[results,Tryz.results127,go_sem]) rfl ?_;exact⟨A,n,cap,q,l0,by rw[HQ.out];rfl,HL3.out,⟨HN.out.1,HN.out.2,HOW3.out⟩,fun l t hx=>by rw[HQ.out]at hx;cases hx⟩
   | some u=>
    have hac:=zAk p q en u d w2 hPq hd;have HQ:Hid (manyP item en r=some (l0,u)):=xI ((zCr HC.out HO.out).trans (by rw[hd];rfl));clear hd hPq;go_wp2_with fail;refine hac.mono ?_;rintro e w3 ⟨rfl,hL3,hs3⟩;clear hac;have HL3:=xI (HL2.out.trans hL3);have HOW3:=xI (HOW.out.eff hL3.1 hlp);clear hL3 hs3;go_wp2;refine bodyPost_ret (v:=.tuple #[.slice A n cap,.bool true]) (by simp[results,Tryz.results127,go_sem]) rfl ?_;refine⟨A,n,cap,u,l0,by rw[HQ.out];rfl,HL3.out,⟨HN.out.1,HN.out.2,HOW3.out⟩,fun l' t hx=>?_⟩;rw[HQ.out]at hx;simp only[Option.some.injEq,Prod.mk.injEq]at hx;obtain⟨rfl,rfl⟩:=hx;exact⟨rfl,rfl⟩
theorem zI7 {lo:Nat}{w w':World}(hb:Below lo w w') (hk:∀ b,b<w.heap.size→w'.heap[b]?=w.heap[b]?):Below w.heap.size w w':=⟨hb.os,hb.tape,hb.output,hb.size,hk⟩
abbrev RowV (k lo:Nat) (w:World) (v:Value) (l:List Vl):Prop:=RowB w (Btw lo w.heap.size) 7 v l.length (fun j cs=>∃ x,l[j]?=some x∧VB k w (Btw lo w.heap.size) x cs)
theorem RowV.on {k lo:Nat}{w w':World}{v:Value}{l:List Vl}(h:RowV k lo w v l) (hb:Below w.heap.size w w'):RowV k lo w' v l:=by
 have hs:Same (Btw lo w.heap.size) w w':=.of_below hb fun _ h=>h.2;have hsub:∀ b,Btw lo w.heap.size b→Btw lo w'.heap.size b:=fun b h=>⟨h.1,by have:=h.2;have:=hb.size;omega⟩;exact (RowB.keep h hs fun _ _ h=>h).sub hsub fun j cs ⟨x,hx,hv⟩=>⟨x,hx,VB.sub hsub lR (VB.keep hs hv)⟩
def elVB (k:Nat) (B0:Nat→Prop):ElK Vl:=⟨fun x w B cs=>VB k w (fun b=>B b∧B0 b) x cs,fun h h'=>VB.keep ⟨h.size,fun b i hB hl=>h.cell b i hB.1 hl⟩ h',fun h h'=>VB.sub (fun b hb=>⟨h b hb.1,hb.2⟩) lR h'⟩
theorem zP7 (k:Nat) (B0:Nat→Prop) (x:Vl) (w:World) (B:Nat→Prop) (cs:List Value) (h:(elVB k B0).E x w B cs):∀ u∈cs,u.oneCell'=true:=zBn k x w _ cs h
abbrev OwnVB (k:Nat) (B0:Nat→Prop) (w:World) (base:Nat) (v:Value) (l:List Vl):Prop:=OwnE (elVB k B0) 27 7 w base v l
theorem zNh {ops:Array Oper}{rest:List Oper}{o:Oper}{a:Act}{Q:Exit→Act→World→Prop}{w0:World}(hgd:o.guard=none) (s x:Operand)
  (ho:o.op=.call { callee:=.builtin .append,args:=#[s,x],argTypes:=#[22,22] }) (k:Nat) (B0:Nat→Prop) (base:Nat) (v:Value) (l:List Vl) (hs:a.eval s=v) (hown:OwnVB k B0 w0 base v l)
  (A:Option Addr) (m cap1:Nat) (l':List Vl) (hm:l'.length=m) (Bs:Nat→Prop) (hx:a.eval x=.slice A m cap1)
  (hR:RowB w0 Bs 7 (.slice A m cap1) m (fun j cs=>∃ y,l'[j]?=some y∧(elVB k B0).E y w0 (fun b=>base≤b∧b<w0.heap.size∧some b≠v.ownBlock) cs)) (hn:l.length+m≤300000000) (hbase:base≤w0.heap.size)
  (h:∀ v' w',OwnVB k B0 w' base v' (l++l')→Below base w0 w'→(∀ b,b<w0.heap.size→some b≠v.ownBlock→w'.heap[b]?=w0.heap[b]?)→(∀ g,v'.ownBlock=some g→v.ownBlock=some g∨w0.heap.size≤g)→wpList Tryz.prog ops Q rest (a.put o.dst v') w') :
  wpList Tryz.prog ops Q (o::rest) a w0:=by
 obtain⟨i0,hi,hz0,hz1,hz2⟩:=info_parts Tryz.infoV;obtain⟨v',w',h1,h2,h3,h4,h5⟩:=zBr (elVB k B0) 22 o.type 27 i0 (.agg #[.int .i64 0,.int .i64 0,.string ⟨#[]⟩,.slice none 0 0,.slice none 0 0,.slice none 0 0,.slice none 0 0]) 7 128 Tryz.underlying22 hi hz0 hz1 hz2 rfl (by decide) (by decide) (zP7 k B0) w0 base v l hown A m cap1 l' hm Bs hR hn hbase;exact Lib.wpList_append_run _ hgd s x 22 22 ho v _ hs hx _ w' h1 (h v' w' h2 h3 h4 h5)
abbrev RowT (k:Nat) (w:World) (B:Nat→Prop) (B0:Nat→Prop) (v:Value) (l:List Vl):Prop:=RowB w B 7 v l.length (fun j cs=>∃ x,l[j]?=some x∧VB k w B0 x cs)
theorem zM9 (k:Nat) (B0:Nat→Prop) (Bs:Nat→Prop) (A:Option Addr) (c:Nat) (l:List Vl) (w:World) (hB:∀ b,B0 b→b<w.heap.size) (hl:RowT k w Bs B0 (.slice A l.length c) l) (hn:l.length≤300000000) :
  Calls Tryz.prog 107 #[.slice A l.length c] w fun e w'=>∃ A' c',e=.returned (.slice A' l.length c')∧RowT k w' (Btw w.heap.size w'.heap.size) B0 (.slice A' l.length c') l∧Below w.heap.size w w':=by
 have HL:=xI hl;clear hl;go_enter Tryz.func107,Tryz.ntmps107;go_wp2_with (refine zNh rfl _ _ rfl k B0 0 (.slice none 0 0) [] rfl (OwnE.nil _ _ _ _ _) A l.length c l rfl Bs rfl (RowB.sub HL.out (fun _ h=>h) fun j cs ⟨x,hx,hv⟩=>⟨x,hx,VB.sub (fun b h=>⟨⟨Nat.zero_le _,hB b h,by simp[Value.ownBlock]⟩,h⟩) lR hv⟩) (by simpa using hn) (Nat.zero_le _) ?_);intro v' w' ho hb hk hg;have ho':OwnVB k B0 w' 0 v' l:=ho;obtain⟨A',c',rfl⟩:=ho'.form;have hfin:Hid (RowT k w' (Btw w.heap.size w'.heap.size) B0 (.slice A' l.length c') l∧Below w.heap.size w w'):=xI (by
  refine⟨?_,zI7 hb fun b hb=>hk b hb (by simp[Value.ownBlock])⟩;obtain⟨xs,ho1,hx⟩:=ho';refine zEd ho1 (by unfold maxLen;omega) (fun g hg1 h1 h2=>⟨(hg g hg1).resolve_left (by simp[Value.ownBlock]),h2⟩) (fun j hj=>⟨l[j],List.getElem?_eq_getElem hj,VB.sub (fun b h=>h.2) lR (hx j _ (List.getElem?_eq_getElem hj))⟩) (by omega))
 clear ho ho' hb hk hg;go_wp2;go_ret;exact⟨A',c',rfl,hfin.out⟩
theorem zJq (k lo:Nat) (A:Option Addr) (c:Nat) (l:List Vl) (w:World) (hlo:lo≤w.heap.size) (hl:RowV k lo w (.slice A l.length c) l) (hn:l.length≤300000000) :
  Calls Tryz.prog 55 #[.slice A l.length c] w fun e w'=>∃ cs,e=.returned (.agg cs.toArray)∧VB (k+1) w' (Btw lo w'.heap.size) (tupV l) cs∧Below w.heap.size w w':=by
 have hba:Below w.heap.size w (w.alloc (.cells #[.int .i64 0,.int .i64 0,.string ⟨#[]⟩,.slice none 0 0,.slice none 0 0,.slice none 0 0,.slice none 0 0] 27)):=bR.alloc lR _;have k0:=heap_alloc_new w (.cells #[.int .i64 0,.int .i64 0,.string ⟨#[]⟩,.slice none 0 0,.slice none 0 0,.slice none 0 0,.slice none 0 0] 27);have hc:=zM9 k (Btw lo w.heap.size) (Btw lo w.heap.size) A c l _ (fun b h=>Nat.lt_of_lt_of_le h.2 hba.size) (RowB.keep hl (.of_below hba fun _ h=>h.2) fun j cs ⟨x,hx,hv⟩=>⟨x,hx,VB.keep (.of_below hba fun _ h=>h.2) hv⟩) hn;clear hl;go_enter Tryz.func55,Tryz.ntmps55;go_wp2_with fail;refine hc.mono ?_;rintro e w1 ⟨A',c',rfl,hr,hb1⟩;clear hc;have k1:w1.heap[w.heap.size]?=some (.cells #[.int .i64 0,.int .i64 0,.string ⟨#[]⟩,.slice none 0 0,.slice none 0 0,.slice none 0 0,.slice none 0 0] 27 (0,0)):=(hb1.block _ (by simp)).trans k0;have hbb:Below w.heap.size w w1:=hba.trans (hb1.mono (by simp));have HR:=xI (show RowT k w1 (Btw (w.heap.size+1) w1.heap.size) (Btw lo w.heap.size) (.slice A' l.length c') l by simpa using hr);have hb1z:w.heap.size+1≤w1.heap.size:=by have:=hb1.size;simpa using this
 clear k0 hba hb1 hr;obtain⟨e0,e1,e2,e3,e4,e5,e6⟩:=zAd k1;obtain⟨z0,z1,z2,z3,z4,z5,z6⟩:=zAe k1;go_wp2;obtain⟨V,hV⟩:∃ V,V=(((((((w1.setCell ⟨w.heap.size,0,none⟩ (Value.int .i64 6)).setCell ⟨w.heap.size,1,none⟩ (Value.int .i64 0)).setCell ⟨w.heap.size,2,none⟩ (Value.string ⟨#[]⟩)).setCell ⟨w.heap.size,3,none⟩ (Value.slice A' l.length c')).setCell ⟨w.heap.size,4,none⟩ (Value.slice none 0 0)).setCell ⟨w.heap.size,5,none⟩ (Value.slice none 0 0)).setCell ⟨w.heap.size,6,none⟩ (Value.slice none 0 0)):=⟨_,rfl⟩;rw[←hV];have hob:V.heap[w.heap.size]?=some (.cells #[.int .i64 6,.int .i64 0,.string ⟨#[]⟩,.slice A' l.length c',.slice none 0 0,.slice none 0 0,.slice none 0 0] 27 (0,0)):=by rw[hV];exact obj7 k1 (Value.int .i64 6) (Value.int .i64 0) (Value.string ⟨#[]⟩) (Value.slice A' l.length c') (Value.slice none 0 0) (Value.slice none 0 0) (Value.slice none 0 0)
 have hBV:Below w.heap.size w V:=by rw[hV];exact Below.setCell (Below.setCell (Below.setCell (Below.setCell (Below.setCell (Below.setCell (Below.setCell (hbb) (p:=⟨w.heap.size,0,none⟩) lR _) (p:=⟨w.heap.size,1,none⟩) lR _) (p:=⟨w.heap.size,2,none⟩) lR _) (p:=⟨w.heap.size,3,none⟩) lR _) (p:=⟨w.heap.size,4,none⟩) lR _) (p:=⟨w.heap.size,5,none⟩) lR _) (p:=⟨w.heap.size,6,none⟩) lR _
 have hszV:V.heap.size=w1.heap.size:=by rw[hV];simp
 have hsm:∀ B:Nat→Prop,¬ B w.heap.size→Same B w1 V:=fun B h=>by rw[hV];exact zAa (zAa (zAa (zAa (zAa (zAa (zAa ((Same.refl _ _)) h) h) h) h) h) h) h
 clear hV e0 z0 e1 z1 e2 z2 e3 z3 e4 z4 e5 z5 e6 z6;obtain⟨ps0,ps1,ps2,ps3,ps4,ps5,ps6⟩:=zAd hob;refine bodyPost_ret (v:=.agg #[.int .i64 6,.int .i64 0,.string ⟨#[]⟩,.slice A' l.length c',.slice none 0 0,.slice none 0 0,.slice none 0 0]) (by simp[results,Tryz.results55,go_sem,ps0,ps1,ps2,ps3,ps4,ps5,ps6]) rfl ?_;have hsz:V.heap.size=w1.heap.size:=hszV;have hr:=HR.out;have hz1:=hb1z;have hsub:∀ b,Btw (w.heap.size+1) w1.heap.size b→Btw lo V.heap.size b:=fun b h=>⟨by have:=h.1;omega,by have:=h.2;omega⟩;have hsub2:∀ b,Btw lo w.heap.size b→Btw lo V.heap.size b:=fun b h=>⟨h.1,by have:=h.2;omega⟩;refine⟨_,rfl,⟨_,_,_,_,rfl,by decide,by decide,Nat.zero_le _,RowB.sub (RowB.keep hr (hsm _ (fun h=>by have:=h.1;omega)) (fun _ _ h=>h)) hsub ?_,zC9 _ _ _ _,zC9 _ _ _ _,zC9 _ _ _ _⟩,hBV⟩;rintro j cs ⟨x,hx,hv⟩;exact⟨x,hx,VB.sub hsub2 lR (VB.keep (hsm _ (fun h=>by have:=h.2;omega)) hv)⟩
theorem zCz (k lo:Nat) (u v:Vl) (ca cb:List Value) (w:World) (hlo:lo≤w.heap.size) (ha:VB k w (Btw lo w.heap.size) u ca) (hb:VB k w (Btw lo w.heap.size) v cb) :
  Calls Tryz.prog 57 #[.agg ca.toArray,.agg cb.toArray] w fun e w'=>∃ cs,e=.returned (.agg cs.toArray)∧VB (k+1) w' (Btw lo w'.heap.size) (consV u v) cs∧Below w.heap.size w w':=by
 obtain⟨a,i,s,B1,n1,d1,B2,n2,d2,B3,n3,d3,B4,n4,d4,rfl⟩:=ha.form7;obtain⟨a',i',s',B1',n1',d1',B2',n2',d2',B3',n3',d3',B4',n4',d4',rfl⟩:=hb.form7;go_enter Tryz.func57,Tryz.ntmps57;go_wp2;obtain⟨V,hV⟩:∃ V,V=(((w.alloc (.cells #[.int .i64 a,.int .i64 i,.string s,.slice B1 n1 d1,.slice B2 n2 d2,.slice B3 n3 d3,.slice B4 n4 d4] 27)).alloc (.cells #[.int .i64 a',.int .i64 i',.string s',.slice B1' n1' d1',.slice B2' n2' d2',.slice B3' n3' d3',.slice B4' n4' d4'] 27)).alloc (.cells #[.int .i64 7,.int .i64 0,.string ⟨#[]⟩,.slice (some ⟨w.heap.size+1+1+1,0,none⟩) 2 2,.slice none 0 0,.slice none 0 0,.slice none 0 0] 27)).alloc (.cells #[.int .i64 a,.int .i64 i,.string s,.slice B1 n1 d1,.slice B2 n2 d2,.slice B3 n3 d3,.slice B4 n4 d4,.int .i64 a',.int .i64 i',.string s',.slice B1' n1' d1',.slice B2' n2' d2',.slice B3' n3' d3',.slice B4' n4' d4'] 27):=⟨_,rfl⟩;rw[←hV];have hb4:Below w.heap.size w V:=by rw[hV];exact (((bR.alloc lR _).alloc (by simp) _).alloc (by simp;omega) _).alloc (by simp;omega) _
 have hz:V.heap.size=w.heap.size+4:=by rw[hV];simp
 have k4:V.heap[w.heap.size+3]?=some (.cells #[.int .i64 a,.int .i64 i,.string s,.slice B1 n1 d1,.slice B2 n2 d2,.slice B3 n3 d3,.slice B4 n4 d4,.int .i64 a',.int .i64 i',.string s',.slice B1' n1' d1',.slice B2' n2' d2',.slice B3' n3' d3',.slice B4' n4' d4'] 27 (0,0)):=by rw[hV];exact zB2 _ (by simp)
 have k3:V.heap[w.heap.size+2]?=some (.cells #[.int .i64 7,.int .i64 0,.string ⟨#[]⟩,.slice (some ⟨w.heap.size+1+1+1,0,none⟩) 2 2,.slice none 0 0,.slice none 0 0,.slice none 0 0] 27 (0,0)):=by rw[hV,Below.heap_alloc _ _ _ (by simp)];exact zB2 _ (by simp)
 obtain⟨e0,e1,e2,e3,e4,e5,e6⟩:=zAd k3;clear hV;refine bodyPost_ret (v:=.agg #[.int .i64 7,.int .i64 0,.string ⟨#[]⟩,.slice (some ⟨w.heap.size+1+1+1,0,none⟩) 2 2,.slice none 0 0,.slice none 0 0,.slice none 0 0]) (by simp[results,Tryz.results57,go_sem,e0,e1,e2,e3,e4,e5,e6]) rfl ?_;have hs:Same (Btw lo w.heap.size) w V:=.of_below hb4 fun _ h=>h.2;have hsub:∀ b,Btw lo w.heap.size b→Btw lo V.heap.size b:=fun b h=>⟨h.1,by have:=h.2;omega⟩;refine⟨_,rfl,⟨_,_,_,_,rfl,by decide,by decide,Nat.zero_le _,⟨_,_,rfl,by unfold maxLen;simp,fun _=>⟨w.heap.size+3,0,rfl,⟨by omega,by omega⟩,by omega,fun j hj=>?_⟩⟩,zC9 _ _ _ _,zC9 _ _ _ _,zC9 _ _ _ _⟩,hb4⟩;have hcell:∀ q,V.cell? ⟨w.heap.size+3,q,none⟩=(#[.int .i64 a,.int .i64 i,.string s,.slice B1 n1 d1,.slice B2 n2 d2,.slice B3 n3 d3,.slice B4 n4 d4,.int .i64 a',.int .i64 i',.string s',.slice B1' n1' d1',.slice B2' n2' d2',.slice B3' n3' d3',.slice B4' n4' d4']:Array Value)[q]?:=fun q=>Lib.cell_of_heap k4 q
 match j,hj with
 | 0,_=>
  refine⟨[.int .i64 a,.int .i64 i,.string s,.slice B1 n1 d1,.slice B2 n2 d2,.slice B3 n3 d3,.slice B4 n4 d4],rfl,fun q hq=>?_,u,rfl,VB.sub hsub lR (VB.keep hs ha)⟩;rw[show 0+0*7+q=q by omega,hcell]
  match q,hq with
  | 0,_=>rfl
  | 1,_=>rfl
  | 2,_=>rfl
  | 3,_=>rfl
  | 4,_=>rfl
  | 5,_=>rfl
  | 6,_=>rfl
 | 1,_=>
  refine⟨[.int .i64 a',.int .i64 i',.string s',.slice B1' n1' d1',.slice B2' n2' d2',.slice B3' n3' d3',.slice B4' n4' d4'],rfl,fun q hq=>?_,v,rfl,VB.sub hsub lR (VB.keep hs hb)⟩;rw[show 0+1*7+q=7+q by omega,hcell]
  match q,hq with
  | 0,_=>rfl
  | 1,_=>rfl
  | 2,_=>rfl
  | 3,_=>rfl
  | 4,_=>rfl
  | 5,_=>rfl
  | 6,_=>rfl
def zRt:Vl→List (List UInt8) | .mk _ _ _ _ _ _ l=>l
def withL (ls:List (List UInt8)):Vl→Vl | .mk k i t v y e _=>.mk k i t v y e ls
def DrawR (k h p:Nat) (w:World) (e:Ending) (w':World):Prop:=
 (∃ v cs,e=.returned (.agg cs.toArray)∧VB k w' (Btw w.heap.size w'.heap.size) v cs∧okV v=true∧sml v)∧SrcOk h p w'∧Eff p w w'
def zO9 (k h p:Nat) (w:World) (e:Ending) (w':World):Prop:=
 (∃ v cs,e=.returned (.agg cs.toArray)∧VB k w' (Btw w.heap.size w'.heap.size) v cs∧okV v=true∧sml v∧zRt v=[])∧SrcOk h p w'∧Eff p w w'
theorem zE0 {v:Vl}{ls:List (List UInt8)}(h:okV v=true) (hl:zAi ls=true):okV (withL ls v)=true:=by
 obtain⟨k,i,t,v,y,e,l⟩:=v;unfold okV at h;unfold withL okV;simp only[Bool.and_eq_true]at h ⊢;exact⟨⟨⟨⟨hl,h.1.1.1.2⟩,h.1.1.2⟩,h.1.2⟩,h.2⟩
theorem zEq {v:Vl}{ls:List (List UInt8)}(h:sml v) (hl:ls.length≤2):sml (withL ls v):=by
 obtain⟨k,i,t,v,y,e,l⟩:=v;unfold sml at h;unfold withL sml;exact⟨h.1,h.2.1,h.2.2.1,hl,h.2.2.2.2⟩
theorem zDq {k:Nat}{w:World}{B:Nat→Prop}{v:Vl}{a i:Value}{s u1 u2 u3 u4 ul:Value}{ls:List (List UInt8)}(h:VB k w B v [a,i,s,u1,u2,u3,u4]) (hl:RowB w B 1 ul ls.length (fun j cs=>∃ x,ls[j]?=some x∧cs=[.string ⟨x.toArray⟩]∧x.length≤maxLen)) :
  VB k w B (withL ls v) [a,i,s,u1,u2,u3,ul]:=by
 cases k with
 | zero=>exact h.elim
 | succ k=>
  obtain⟨kd,it,tx,kids,keys,ents,l⟩:=v;obtain⟨uk,uy,ue,ul',h1,h2,h3,h4,h5,h6,h7,h8⟩:=h;simp only[List.cons.injEq,and_true]at h1;obtain⟨rfl,rfl,rfl,rfl,rfl,rfl,rfl⟩:=h1;exact⟨_,_,_,_,rfl,h2,h3,h4,h5,h6,h7,hl⟩
theorem zD6 (k h p:Nat) (n:Int) (w:World) (hS:SrcOk h p w) (hv:∀ W,SrcOk h p W→Calls Tryz.prog 24 #[.pointer (some ⟨p,0,none⟩),.int .i64 n] W (zO9 k h p W)) :
  Calls Tryz.prog 15 #[.pointer (some ⟨p,0,none⟩),.int .i64 n] w (DrawR k h p w):=by
 have hlp:=hS.lt;have hba:Below w.heap.size w (w.alloc (.cells #[.int .i64 0,.int .i64 0,.string ⟨#[]⟩,.slice none 0 0,.slice none 0 0,.slice none 0 0,.slice none 0 0] 27)):=bR.alloc lR _;have hz0:(w.alloc (.cells #[.int .i64 0,.int .i64 0,.string ⟨#[]⟩,.slice none 0 0,.slice none 0 0,.slice none 0 0,.slice none 0 0] 27)).heap.size=w.heap.size+1:=by simp
 have hc:=hv _ (hS.below hba);have k0:=heap_alloc_new w (.cells #[.int .i64 0,.int .i64 0,.string ⟨#[]⟩,.slice none 0 0,.slice none 0 0,.slice none 0 0,.slice none 0 0] 27);have hE0:=Eff.of_below hba (Nat.le_of_lt hlp);clear hv;go_enter Tryz.func15,Tryz.ntmps15;go_wp2_with fail;refine hc.mono ?_;rintro e w1 ⟨⟨v,cs,rfl,hvb,hok,hsm,hlv⟩,hS1,hE1⟩;clear hc;obtain⟨a,i,s,B1,n1,d1,B2,n2,d2,B3,n3,d3,B4,n4,d4,rfl⟩:=hvb.form7;have hz1:=hE1.size;rw[hz0]at hz1 hvb;have k1:w1.heap[w.heap.size]?=some (.cells #[.int .i64 0,.int .i64 0,.string ⟨#[]⟩,.slice none 0 0,.slice none 0 0,.slice none 0 0,.slice none 0 0] 27 (0,0)):=(hE1.other _ (by omega) (by omega)).trans k0;obtain⟨W,hW⟩:∃ W,W=w1.alloc (.cells #[.int .i64 a,.int .i64 i,.string s,.slice B1 n1 d1,.slice B2 n2 d2,.slice B3 n3 d3,.slice B4 n4 d4] 27):=⟨_,rfl⟩;have hbW:Below w1.heap.size w1 W:=by rw[hW];exact bR.alloc lR _
 have hzW:W.heap.size=w1.heap.size+1:=by rw[hW];simp
 have kW:W.heap[w1.heap.size]?=some (.cells #[.int .i64 a,.int .i64 i,.string s,.slice B1 n1 d1,.slice B2 n2 d2,.slice B3 n3 d3,.slice B4 n4 d4] 27 (0,0)):=by rw[hW];exact heap_alloc_new w1 _
 have kr:W.heap[w.heap.size]?=some (.cells #[.int .i64 0,.int .i64 0,.string ⟨#[]⟩,.slice none 0 0,.slice none 0 0,.slice none 0 0,.slice none 0 0] 27 (0,0)):=(hbW.block _ (by omega)).trans k1;have hEW:Eff p w W:=(hE0.trans hE1).trans (Eff.of_below hbW (by omega));have hvW:=VB.keep (Same.of_below hbW (B:=Btw (w.heap.size+1) w1.heap.size) fun _ h=>h.2) hvb;have hl:=zDz h p W (hS1.below hbW);have HA:=xI (aN hok (aN hsm (aN hEW hvW)));clear hba k0 hE0 hvb hok hsm hlv hS1 hE1 k1 hbW hEW hvW hS;go_wp2_with fail;rw[←hW];clear hW;refine hl.mono ?_;rintro e w3 ⟨⟨LA,ln,lc,ls,rfl,hln,hl2,hlb,hlN,hlR⟩,hS3,hE3⟩;clear hl;have hz3:=hE3.size;have m0:w3.heap[w.heap.size]?=some (.cells #[.int .i64 0,.int .i64 0,.string ⟨#[]⟩,.slice none 0 0,.slice none 0 0,.slice none 0 0,.slice none 0 0] 27 (0,0)):=(hE3.other _ (by omega) (by omega)).trans kr;have m5:w3.heap[w1.heap.size]?=some (.cells #[.int .i64 a,.int .i64 i,.string s,.slice B1 n1 d1,.slice B2 n2 d2,.slice B3 n3 d3,.slice B4 n4 d4] 27 (0,0)):=(hE3.other _ (by omega) (by omega)).trans kW;have HB:=xI (aN hln (aN hl2 (aN hlb (aN hlR (aN hS3 hE3)))));clear kr kW hlR hS3 hE3 hlN hlb hl2 hln;obtain⟨e0,e1,e2,e3,e4,e5,e6⟩:=zAd m0;obtain⟨z0,z1,z2,z3,z4,z5,z6⟩:=zAe m0;have g0:w3.cell? ⟨w1.heap.size,0,none⟩=some (.int .i64 a):=cH m5 0;have g1:w3.cell? ⟨w1.heap.size,1,none⟩=some (.int .i64 i):=cH m5 1;have g2:w3.cell? ⟨w1.heap.size,2,none⟩=some (.string s):=cH m5 2;have g3:w3.cell? ⟨w1.heap.size,3,none⟩=some (.slice B1 n1 d1):=cH m5 3;have g4:w3.cell? ⟨w1.heap.size,4,none⟩=some (.slice B2 n2 d2):=cH m5 4;have g5:w3.cell? ⟨w1.heap.size,5,none⟩=some (.slice B3 n3 d3):=cH m5 5;have g6:w3.cell? ⟨w1.heap.size,6,none⟩=some (.slice B4 n4 d4):=cH m5 6;have y6:=Lib.frozen_of_heap m5 6;have hne:¬ w1.heap.size=w.heap.size:=by omega
 have hne2:¬ w.heap.size=w1.heap.size:=by omega
 go_wp2;obtain⟨V,hV⟩:∃ V,V=((((((((w3.setCell ⟨w1.heap.size,6,none⟩ (Value.slice LA ln lc)).setCell ⟨w.heap.size,0,none⟩ (Value.int .i64 a)).setCell ⟨w.heap.size,1,none⟩ (Value.int .i64 i)).setCell ⟨w.heap.size,2,none⟩ (Value.string s)).setCell ⟨w.heap.size,3,none⟩ (Value.slice B1 n1 d1)).setCell ⟨w.heap.size,4,none⟩ (Value.slice B2 n2 d2)).setCell ⟨w.heap.size,5,none⟩ (Value.slice B3 n3 d3)).setCell ⟨w.heap.size,6,none⟩ (Value.slice LA ln lc)):=⟨_,rfl⟩;rw[←hV];have m0':(w3.setCell ⟨w1.heap.size,6,none⟩ (Value.slice LA ln lc)).heap[w.heap.size]?=some (.cells #[.int .i64 0,.int .i64 0,.string ⟨#[]⟩,.slice none 0 0,.slice none 0 0,.slice none 0 0,.slice none 0 0] 27 (0,0)):=(heap_setCell_other _ _ _ _ hne2).trans m0;have hob:V.heap[w.heap.size]?=some (.cells #[.int .i64 a,.int .i64 i,.string s,.slice B1 n1 d1,.slice B2 n2 d2,.slice B3 n3 d3,.slice LA ln lc] 27 (0,0)):=by rw[hV];exact obj7 m0' (Value.int .i64 a) (Value.int .i64 i) (Value.string s) (Value.slice B1 n1 d1) (Value.slice B2 n2 d2) (Value.slice B3 n3 d3) (Value.slice LA ln lc)
 have hfin:SrcOk h p V∧Eff p w V:=by
  obtain⟨q1,q2⟩:=zBl (g:=w1.heap.size) (i:=6) (x:=Value.slice LA ln lc) HB.out.2.2.2.2.1 (HA.out.2.2.1.trans HB.out.2.2.2.2.2) (by omega) (by omega);rw[hV];exact zA7 q1 q2 lR hlp _ _ _ _ _ _ _
 have hzV:V.heap.size=w3.heap.size:=by rw[hV];simp
 have hsmV:∀ B:Nat→Prop,¬ B w.heap.size→¬ B w1.heap.size→Same B w3 V:=fun B h h'=>by
  have hsm0:Same B w3 (w3.setCell ⟨w1.heap.size,6,none⟩ (Value.slice LA ln lc)):=zAa (Same.refl _ _) h';rw[hV];exact zAa (zAa (zAa (zAa (zAa (zAa (zAa (hsm0) h) h) h) h) h) h) h
 clear hV e0 z0 e1 z1 e2 z2 e3 z3 e4 z4 e5 z5 e6 z6 g0 g1 g2 g3 g4 g5 g6 y6;obtain⟨ps0,ps1,ps2,ps3,ps4,ps5,ps6⟩:=zAd hob;refine bodyPost_ret (v:=.agg #[.int .i64 a,.int .i64 i,.string s,.slice B1 n1 d1,.slice B2 n2 d2,.slice B3 n3 d3,.slice LA ln lc]) (by simp[results,Tryz.results15,go_sem,ps0,ps1,ps2,ps3,ps4,ps5,ps6]) rfl ?_;obtain⟨hok,hsm,hEW,hvW⟩:=HA.out;obtain⟨hln,hl2,hlb,hlR,hS3,hE3⟩:=HB.out;subst hln;have hv3:=VB.keep (hE3.same (B:=Btw (w.heap.size+1) w1.heap.size) fun b hb=>by have:=hb.1;omega) hvW;have hv4:VB k w3 (fun b=>Btw (w.heap.size+1) w3.heap.size b∧b≠w1.heap.size) v _:=VB.sub (fun b hb=>⟨⟨hb.1,by have:=hb.2;omega⟩,by have:=hb.2;omega⟩) lR hv3;have hl4:RowB w3 (fun b=>Btw (w.heap.size+1) w3.heap.size b∧b≠w1.heap.size) 1 (.slice LA ls.length lc) ls.length _:=RowB.sub hlR (fun b hb=>⟨⟨by have:=hb.1;omega,hb.2⟩,by have:=hb.1;omega⟩) (fun _ _ h=>h);have hv5:=zDq hv4 hl4;have hv6:=VB.keep (hsmV _ (fun h=>by have:=h.1.1;omega) (fun h=>h.2 rfl)) hv5;exact⟨⟨withL ls v,_,rfl,VB.sub (fun b hb=>⟨by have:=hb.1.1;omega,by have:=hb.1.2;omega⟩) lR hv6,zE0 hok hlb,zEq hsm (by omega)⟩,hfin⟩
theorem zHk {α:Type}{c:α→α→Int}{x:α}:∀ {l:List α}{p:Nat},p≤l.length→(∀ y∈l.take p,c y x<0)→(∀ y,l[p]?=some y→¬ c y x<0∧c y x≠0)→ins c x l=l.take p++x::l.drop p
 | [],p,hp,_,_=>by
  have:p=0:=by simpa using hp
  subst this;rfl
 | a::l,0,_,_,hh=>by
  obtain⟨h1,h2⟩:=hh a (by simp);unfold ins;rw[if_neg h1,if_neg h2];rfl
 | a::l,p+1,hp,hl,hh=>by
  unfold ins;rw[if_pos (hl a (by simp)),zHk (l:=l) (p:=p) (by simpa using hp) (fun y hy=>hl y (by simp[hy])) (fun y hy=>hh y (by simpa using hy))];rfl
theorem zI0 {α:Type}{c:α→α→Int}{x:α}:∀ {l:List α}{p:Nat}{y:α},(∀ y∈l.take p,c y x<0)→l[p]?=some y→c y x=0→ins c x l=l
 | [],p,y,_,h,_=>by simp at h
 | a::l,0,y,_,h,h0=>by
  simp only[List.getElem?_cons_zero,Option.some.injEq]at h;subst h;unfold ins;rw[if_neg (by omega),if_pos h0]
 | a::l,p+1,y,hl,h,h0=>by
  unfold ins;rw[if_pos (hl a (by simp)),zI0 (l:=l) (p:=p) (fun y hy=>hl y (by simp[hy])) (by simpa using h) h0]
theorem zBv {α:Type}{c:α→α→Int}{l:List α}{k:Nat}{s:α}(hs:l[k]?=some s):srtC c (l.take (k+1))=ins c s (srtC c (l.take k)):=by
 rw[List.take_add_one,hs];simp[srtC,List.foldl_append]
theorem zGi {α:Type}{c:α→α→Int}(l:List α):(srtC c l).length≤l.length:=by
 have hi:∀ (x:α) (m:List α),(ins c x m).length≤m.length+1:=by
  intro x m
  induction m with
  | nil=>simp[ins]
  | cons a m ih=>
   unfold ins;split
   ·simp;omega
   ·split<;>simp
 have hf:∀ (l m:List α),(l.foldl (fun acc x=>ins c x acc) m).length≤m.length+l.length:=by
  intro l
  induction l with
  | nil=>intro m;simp
  | cons a l ih=>
   intro m;rw[List.foldl_cons];have:=ih (ins c a m);have:=hi a m;rw[List.length_cons];omega
 simpa [srtC] using hf l []
def elC {α:Type}(Pr:α→List Value→Prop):ElK α:=⟨fun x _ _ cs=>Pr x cs,fun _ h=>h,fun _ h=>h⟩
theorem zF3 (k:Nat) (u v:Vl) (ca cb:List Value) (w:World) (ha:VS k w w.heap.size u ca) (hb:VS k w w.heap.size v cb):Calls Tryz.prog 13 #[.agg ca.toArray,.agg cb.toArray] w fun e w'=>e=.returned (.bool (decide (cmpV u v=0)))∧Below w.heap.size w w':=by
 obtain⟨a,i,s,B1,n1,d1,B2,n2,d2,B3,n3,d3,B4,n4,d4,rfl⟩:=ha.form7;obtain⟨a',i',s',B1',n1',d1',B2',n2',d2',B3',n3',d3',B4',n4',d4',rfl⟩:=hb.form7;obtain⟨W,hW⟩:∃ W,W=(w.alloc (.cells #[.int .i64 a,.int .i64 i,.string s,.slice B1 n1 d1,.slice B2 n2 d2,.slice B3 n3 d3,.slice B4 n4 d4] 27)).alloc (.cells #[.int .i64 a',.int .i64 i',.string s',.slice B1' n1' d1',.slice B2' n2' d2',.slice B3' n3' d3',.slice B4' n4' d4'] 27):=⟨_,rfl⟩;have hbb:Below w.heap.size w W:=by rw[hW];exact (bR.alloc lR _).alloc (by simp) _
 have q0:W.cell? ⟨w.heap.size,0,none⟩=some (.int .i64 a):=by rw[hW];simp
 have q1:W.cell? ⟨w.heap.size,1,none⟩=some (.int .i64 i):=by rw[hW];simp
 have q2:W.cell? ⟨w.heap.size,2,none⟩=some (.string s):=by rw[hW];simp
 have q3:W.cell? ⟨w.heap.size,3,none⟩=some (.slice B1 n1 d1):=by rw[hW];simp
 have q4:W.cell? ⟨w.heap.size,4,none⟩=some (.slice B2 n2 d2):=by rw[hW];simp
 have q5:W.cell? ⟨w.heap.size,5,none⟩=some (.slice B3 n3 d3):=by rw[hW];simp
 have q6:W.cell? ⟨w.heap.size,6,none⟩=some (.slice B4 n4 d4):=by rw[hW];simp
 have r0:W.cell? ⟨w.heap.size+1,0,none⟩=some (.int .i64 a'):=by rw[hW];simp
 have r1:W.cell? ⟨w.heap.size+1,1,none⟩=some (.int .i64 i'):=by rw[hW];simp
 have r2:W.cell? ⟨w.heap.size+1,2,none⟩=some (.string s'):=by rw[hW];simp
 have r3:W.cell? ⟨w.heap.size+1,3,none⟩=some (.slice B1' n1' d1'):=by rw[hW];simp
 have r4:W.cell? ⟨w.heap.size+1,4,none⟩=some (.slice B2' n2' d2'):=by rw[hW];simp
 have r5:W.cell? ⟨w.heap.size+1,5,none⟩=some (.slice B3' n3' d3'):=by rw[hW];simp
 have r6:W.cell? ⟨w.heap.size+1,6,none⟩=some (.slice B4' n4' d4'):=by rw[hW];simp
 have hc:=zCi k u v _ _ W (VS.up hbb.size lR (VS.on hbb ha)) (VS.up hbb.size lR (VS.on hbb hb));have HB:=xI hbb;clear ha hb hbb;generalize hz:decide (cmpV u v=0)=r;have HZ:=xI hz;clear hz;generalize cmpV u v=z at hc HZ;go_enter Tryz.func13,Tryz.ntmps13;go_wp2_with fail;rw[←hW];clear hW;go_wp2_with (go_at_call 22;refine hc.mono ?_;rintro e w1 ⟨rfl,hb1⟩;refine Hid.out ?_);refine xI ?_;clear hc;go_wp2;go_ret;exact⟨zAb (by rw[←HZ.out];by_cases h:z=0<;>simp[h]),HB.out.trans (hb1.mono HB.out.size)⟩
theorem zMd (z:Int):(z==0)=decide (z=0):=by
 by_cases h:z=0
 ·simp[h]
 ·rw[decide_eq_false h,beq_eq_false_iff_ne];exact h
end Go.Proofs.YtcjgaohblaidjaaGreatDoor
