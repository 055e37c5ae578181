/- What Normalize returns: the normal form of .. -/
import Derived.Test.YteedihhdcbepmaaGreatTwZ
import Derived.Test.YteedihhdcbepmaaGreatTw17
import Derived.StillTailTactics
import Derived.Test.YteedihhdcbepmaaGreatTwShelfS
set_option maxRecDepth 100000
set_option maxHeartbeats 12800000
set_option linter.all false
open Go.Value renaming slice→vS,int→vI,string→vT
open Go.IntKind renaming i64→i6
open Go.Proofs.Tryz
open Go.Proofs.Tryz renaming prog→tP
namespace Go.Proofs.YteedihhdcbepmaaGreat.Iv
open Go.RowKit
theorem zNl {a b:List Rg}(h:a.Perm b) (n:Int):hasI a n↔hasI b n:=by
 unfold hasI;constructor
 ·rintro⟨r,hr,h1⟩;exact⟨r,h.mem_iff.1 hr,h1⟩
 ·rintro⟨r,hr,h1⟩;exact⟨r,h.mem_iff.2 hr,h1⟩
theorem zJv (l:List Rg) (n:Int):hasI (l.filter neB) n↔hasI l n:=by
 unfold hasI;constructor
 ·rintro⟨r,hr,h1⟩;exact⟨r,(Dj.1 hr).1,h1⟩
 ·rintro⟨r,hr,h1⟩;refine⟨r,Dj.2 ⟨hr,?_⟩,h1⟩;unfold inR at h1;simp[neB,zBb];omega
theorem zDu {l:List Rg}{k:Nat}{r:Rg}(h:l[k]?=some r) (n:Int):hasI (l.take (k+1)) n↔hasI (l.take k) n\/inR r n:=by
 rw[Cp,h];exact zEh _ _ _
structure zBk (ts M:List Rg) (k:Nat):Prop where
 nf:Nf M
 mem:∀ n,hasI M n↔hasI (ts.take k) n
 low:∀ (x r:Rg) (j:Nat),x∈M->k<=j->ts[j]?=some r->x.1<=r.1
 fit:Fit M
 len:M.length<=k
theorem zBk.start (ts:List Rg):zBk ts [] 0:=⟨zSa,fun n=>by simp[hasI],by simp,by simp[Fit],B7 _⟩
theorem zBk.add {ts M:List Rg}{k:Nat}{r:Rg}(h:zBk ts M k) (hr:ts[k]?=some r) (hf:Fit1 r) (ha:Asc ts) (hne:r.1<=r.2) (hg:∀ x∈M,x.2+1<r.1):zBk ts (M++[r]) (k+1):=
 ⟨zM6 h.nf hne hg,fun n=>by rw[zEh,zDu hr,h.mem],fun x y j hx hj hy=>by
  rcases B8.1 hx with hx|hx
  ·exact h.low x y j hx (by omega) hy
  ·rw[Cq.1 hx];exact ha k j r y (by omega) hr hy,fun x hx=>by
  rcases B8.1 hx with hx|hx
  ·exact h.fit x hx
  ·rw[Cq.1 hx];exact hf,by have:=h.len;simp;omega⟩
theorem zBk.first {ts:List Rg}{k:Nat}{r:Rg}(h:zBk ts [] k) (hr:ts[k]?=some r) (hf:Fit1 r) (ha:Asc ts) (hne:r.1<=r.2):zBk ts [r] (k+1):=h.add hr hf ha hne (by simp)
theorem zBk.gap {ts M:List Rg}{k:Nat}{x r:Rg}(h:zBk ts (M++[x]) k) (hr:ts[k]?=some r) (hf:Fit1 r) (ha:Asc ts) (hne:r.1<=r.2) (hg:x.2+1<r.1):zBk ts (M++[x]++[r]) (k+1):=by
 refine h.add hr hf ha hne ?_;obtain⟨a,b,c⟩:=zF1 h.nf;intro y hy;rcases B8.1 hy with hy|hy
 ·have:=c y hy;omega
 ·rw[Cq.1 hy];exact hg
theorem zBk.merge {ts M:List Rg}{k:Nat}{x r:Rg}(h:zBk ts (M++[x]) k) (hr:ts[k]?=some r) (hf:Fit1 r) (hne:r.1<=r.2) (hg:¬ x.2+1<r.1):zBk ts (M++[(x.1,max x.2 r.2)]) (k+1):=by
 have hl:=h.low x r k (by simp) lR hr;obtain⟨h1,h2⟩:=zPd h.nf hl (by omega) hne;refine⟨h1,fun n=>by rw[h2,zDu hr,h.mem],?_,?_,by have:=h.len;simp at this ⊢;omega⟩
 ·intro y z j hy hj hz;rcases B8.1 hy with hy|hy
  ·exact h.low y z j (List.mem_append_left _ hy) (by omega) hz
  ·rw[Cq.1 hy];exact h.low x z j (by simp) (by omega) hz
 ·intro y hy;rcases B8.1 hy with hy|hy
  ·exact h.fit y (List.mem_append_left _ hy)
  ·rw[Cq.1 hy];have hx:=h.fit x (by simp);unfold Fit1 at hx hf ⊢;simp only;omega
theorem zI1 {wr wq w':World}{g i H:Nat}{a b c d:Value}(hH:H=wr.heap.size) (hg:g<wr.heap.size) (hb:bW wq w') (h:wq.cell? (aD H 0)=some a/\wq.cell? (aD H 1)=some b/\wq.cell? (aD g i)=some c/\wq.cell? (aD g (i+1))=some d/\H<wq.heap.size/\bW wr wq) :
  w'.cell? (aD H 0)=some a/\w'.cell? (aD H 1)=some b/\w'.cell? (aD g i)=some c/\w'.cell? (aD g (i+1))=some d/\H<w'.heap.size/\bW wr w':=
 have hs:=hb.size;have hz:=h.2.2.2.2.2.size;have hl:=h.2.2.2.2.1
 ⟨(hb.cell (p:=(aD H 0)) hl).trans h.1,(hb.cell (p:=(aD H 1)) hl).trans h.2.1,(hb.cell (p:=(aD g i)) (by show g<_;omega)).trans h.2.2.1,(hb.cell (p:=(aD g (i+1))) (by show g<_;omega)).trans h.2.2.2.1,by omega,h.2.2.2.2.2.trans (hb.mono (by omega))⟩
theorem zLa (l:List Rg):l=[]\/∃ (m:List Rg) (x:Rg),l=m++[x]:=by
 rcases List.eq_nil_or_concat l with h|⟨m,x,h⟩
 ·exact .inl h
 ·exact .inr ⟨m,x,by rw[h,List.concat_eq_append]⟩
theorem zJr (M:List Rg) (x:Rg) (nm:Nat) (h:nm=(M++[x]).length):(M++[x])[nm-1]?=some x:=by
 have:nm-1=M.length:=by simp at h;omega
 rw[this];simp
theorem zOz (M:List Rg) (x y:Rg) (nm:Nat) (h:nm=(M++[x]).length):(M++[x]).set (nm-1) y=M++[y]:=by
 have:nm-1=M.length:=by simp at h;omega
 rw[this];simp
theorem zPa (A:Option Addr) (n cap:Nat) (rs:List Rg) (w:World) (hR:RngS w w.heap.size A n rs) (hn:n<=1000000) :
  Calls tP 59 #[vS A n cap] w fun e w'=>∃ m,m=nfOf (hasI rs)/\Nf m/\(∀ x,hasI m x↔hasI rs x)/\m.length<=n/\RetR m w e w':=by
 have o:=hR.2.1;have l:=hR.1;have H:=zOa A n cap rs w _ hR (by omega);have HF:=xI o;have HL:=xI l;clear o l hR;go_enter func59,ntmps59;go_wp2_with (go_at_call 102;refine H.mono ?_;rintro e w1 ⟨v1,rfl,ho1,hb1⟩;refine Hid.out ?_);refine xI ?_;clear H;have K:=hb1.size;have hd:=zGq v1 rs w1 w.heap.size ho1 HF.out K (by have:=HL.out;omega);have ad:=xI ho1;clear ho1;go_wp2_with (go_at_call 101;refine hd.mono ?_;rintro e w2 ⟨v2,rfl,ho2,hb2⟩;refine Hid.out ?_);refine xI ?_;clear hd;have Z:=hb2.size;have P:(rs.filter neB).length<=n:=by rw[HL.out];exact Fy _ _
 have G:=zOx v2 (rs.filter neB) w2 w.heap.size ho2 (by omega) (by omega);have ab:=xI ho2;clear ho2;go_wp2_with (go_at_call 104;refine G.mono ?_;rintro e w3 ⟨rfl,ts,hperm,hasc,ho3,hb3⟩;refine Hid.out ?_);refine xI ?_;obtain⟨A2,c2,rfl⟩:=ho3.form;have d:Fit ts:=fun r hr=>HF.out r (Dj.1 (hperm.mem_iff.1 hr)).1;have j:∀ r∈ts,r.1<=r.2:=fun r hr=>by
  have:=(Dj.1 (hperm.mem_iff.1 hr)).2;simp[neB,zBb]at this;omega
 have hS:=ho3.rng d;have t:bW w w3:=(hb1.trans hb2).trans hb3;have c:∀ x,hasI ts x↔hasI rs x:=fun x=>(zNl hperm x).trans (zJv rs x);have O:ts.length<=n:=by rw[hperm.length_eq];exact P
 obtain⟨n2,B⟩:∃ n2,n2=ts.length:=⟨_,rfl⟩;rw[<-B]at hS O ⊢;have HS:=xI hS;have HA:=xI hasc;have T:=xI j;have F:=xI c;have U:=xI B;have W:=xI t;have Y:=hb3.size;clear hS hasc j c B t ho3 hperm G hb3 hb2 hb1 d;go_wp2
 go_loopw [4,6,7,15] (fun vm _ _ i wr=>∃ (k:Nat) (M:List Rg),i=vI i6 k/\k<=n2/\zBk ts M k/\OwnR wr w3.heap.size vm M/\bW w3 wr) (fun _ _ _ i _=>n2-(intOf i).toNat)
 case atStart=>exact⟨0,[],rfl,by omega,zBk.start _,OwnR.nil _ _,Bv _ _⟩
 case round=>
  obtain⟨k,M,rfl,hk,hI,hM,f⟩:=hrel;have HI:=xI hI;have HM:=xI hM;have z:=f.size;have R:=hI.len;clear hI hM;by_cases hkn:k<n2
  ·obtain⟨b,X,r1,r2,rfl,aa,hx,hf,c1,c2⟩:=(HS.out.below f).at hkn;have HX:=xI hx;have y:=xI hf;have E:=xI (T.out _ (Bh hx));clear hx hf;have D:bW wr (wr.alloc (.cells #[vI i6 r1,vI i6 r2] 83)):=yR.alloc lR _;rcases zLa M with rfl|⟨M',x,rfl⟩
   ·obtain⟨A3,c3,rfl⟩:=HM.out.form;have HQ:Hid (∀ q,OwnR ((wr.alloc (.cells #[vI i6 r1,vI i6 r2] 83)).drewN q) w3.heap.size (vS A3 0 c3) []):=xI (fun q=>(HM.out.old D).drewN q);have HB:Hid (∀ q,bW w3 ((wr.alloc (.cells #[vI i6 r1,vI i6 r2] 83)).drewN q)):=xI (fun q=>zA5 (f.trans (D.mono z)) q);go_wp2_with fail
    go_quiet (fail)
    go_wp2_with (at_builtin;(refine zIb rfl _ _ rfl w3.heap.size _ _ rfl (HQ.out _) [(r1,r2)] 1 1 rfl _ rfl _ (by simp) rfl (by simp) (by simp;omega) ?_);intro v' w4 hown' s;refine Hid.out ?_);refine xI ?_;go_wp2
    go_roundw
    case rel=>exact⟨k+1,[(r1,r2)],by go_num,by omega,HI.out.first HX.out y.out HA.out E.out,hown',(HB.out _).trans s⟩
    case measure=>simp[intOf];omega
   ·obtain⟨x1,x2⟩:=x;obtain⟨g,c3,rfl,S,v,Q⟩:=HM.out.formG (by simp);obtain⟨nm,u⟩:∃ nm,nm=(M'++[(x1,x2)]).length:=⟨_,rfl⟩;have N:1<=nm:=by rw[u];simp
    have L:nm<=k:=by omega
    have a:=xI u;have V:=xI (HI.out.fit (x1,x2) (by simp));rw[<-u]at HM Q ⊢;clear u R;have d1:=HM.out.lo a.out.symm (zJr _ _ _ a.out);have d2:=HM.out.hi a.out.symm (zJr _ _ _ a.out);simp only at d1 d2;have i1:IntKind.i64.wrap ((nm:Int)-1)=(nm:Int)-1:=Bq _ (by omega);have i2:(1:Int)<=(nm:Int):=by omega
    have i3:((nm:Int)-1).toNat=nm-1:=by omega
    have i4:(nm:Int)-1<(nm:Int):=by omega
    have q2:decide (0<nm)=true:=by simp;omega
    have h:Hid (∀ q,((wr.alloc (.cells #[vI i6 r1,vI i6 r2] 83)).drewN q).cell? (aH wr 0)=some (vI i6 r1)/\((wr.alloc (.cells #[vI i6 r1,vI i6 r2] 83)).drewN q).cell? (aH wr 1)=some (vI i6 r2)/\((wr.alloc (.cells #[vI i6 r1,vI i6 r2] 83)).drewN q).cell? (aD g ((nm-1)*2))=some (vI i6 x1)/\((wr.alloc (.cells #[vI i6 r1,vI i6 r2] 83)).drewN q).cell? (aD g ((nm-1)*2+1))=some (vI i6 x2)/\wr.heap.size<((wr.alloc (.cells #[vI i6 r1,vI i6 r2] 83)).drewN q).heap.size/\bW wr ((wr.alloc (.cells #[vI i6 r1,vI i6 r2] 83)).drewN q)):=xI (fun q=>by
     have C:=zA5 D q;refine⟨by simp,by simp,(C.cell (p:=(aD g ((nm-1)*2))) v).trans d1,(C.cell (p:=(aD g ((nm-1)*2+1))) v).trans d2,by simp,C⟩)
    have hm:=fun w=>zNj x1 x2 r1 r2 w V.out y.out;cases hgp:gapB (x1,x2) (r1,r2)
    ·rw[hgp]at hm;have HG:=xI hgp;clear hgp;go_wp2_with fail
     go_region_held3 (fun wq=>wq.cell? (aH wr 0)=some (vI i6 r1)/\wq.cell? (aH wr 1)=some (vI i6 r2)/\wq.cell? (aD g ((nm-1)*2))=some (vI i6 x1)/\wq.cell? (aD g ((nm-1)*2+1))=some (vI i6 x2)/\wr.heap.size<wq.heap.size/\bW wr wq) (first|exact h.out _|exact h.out 0|exact h.out 1|exact zI1 rfl v (by assumption) (by assumption)|go_keep) (first|(go_at_call 107;refine (hm _).mono ?_;rintro e w' ⟨rfl,hb⟩))
     rename_i hSq;obtain⟨s1,s2,s3,s4,s5,s6⟩:=hSq;have f1:=(HM.out.old s6).free a.out.symm ((nm-1)*2+1);have S6:=xI s6;clear s6;go_wp2_with fail
     go_still_tail 14,(by kernel_rfl)
     go_wp2
     go_roundw
     case rel=>
      have I:=(HM.out.old S6.out).setHi a.out.symm (nm-1) (x1,x2) (max x2 r2) (zJr _ _ _ a.out);rw[zOz _ _ _ _ a.out]at I;have s:bW w3 w':=f.trans (S6.out.mono z);refine⟨k+1,M'++[(x1,max x2 r2)],by go_num,by omega,HI.out.merge HX.out y.out E.out (by have:=HG.out;unfold gapB at this;simpa using this),I.drewN 1,(s.setCell (p:=(aD g ((nm-1)*2+1))) S _).drew⟩
     case measure=>simp[intOf];omega
    ·rw[hgp]at hm;have HG:=xI hgp;clear hgp;go_wp2_with fail
     go_region_held3 (fun wq=>wq.cell? (aH wr 0)=some (vI i6 r1)/\wq.cell? (aH wr 1)=some (vI i6 r2)/\wq.cell? (aD g ((nm-1)*2))=some (vI i6 x1)/\wq.cell? (aD g ((nm-1)*2+1))=some (vI i6 x2)/\wr.heap.size<wq.heap.size/\bW wr wq) (first|exact h.out _|exact h.out 0|exact h.out 1|exact zI1 rfl v (by assumption) (by assumption)|go_keep) (first|(go_at_call 107;refine (hm _).mono ?_;rintro e w' ⟨rfl,hb⟩))
     rename_i hSq;obtain⟨s1,s2,s3,s4,s5,s6⟩:=hSq;have J:w3.heap.size<=w'.heap.size:=by have:=s6.size;omega
     have S6:=xI s6;clear s6;go_wp2_with (at_builtin;(refine zIb rfl _ _ rfl w3.heap.size _ _ rfl (HM.out.old S6.out) [(r1,r2)] 1 1 rfl _ rfl _ rfl rfl (by have:=a.out;omega) J ?_);intro v' w4 hown' s;refine Hid.out ?_);refine xI ?_;go_wp2
     go_roundw
     case rel=>exact⟨k+1,M'++[(x1,x2)]++[(r1,r2)],by go_num,by omega,HI.out.gap HX.out y.out HA.out E.out (by have:=HG.out;unfold gapB at this;simpa using this),hown',(f.trans (S6.out.mono z)).trans s⟩
     case measure=>simp[intOf];omega
  ·obtain rfl:k=n2:=by omega
   obtain⟨A3,c3,rfl⟩:=HM.out.form;have HT:Hid (∀ x,hasI M x↔hasI rs x):=xI (fun x=>by rw[HI.out.mem,Cx (by have:=U.out;omega)];exact F.out x);go_wp2;go_ret;exact⟨M,zRi HI.out.nf HT.out,HI.out.nf,HT.out,by omega,_,_,_,rfl,HM.out.rng HI.out.fit,W.out.trans (f.mono (by omega))⟩
end Go.Proofs.YteedihhdcbepmaaGreat.Iv
namespace Go.Proofs.YteedihhdcbepmaaGreat
open Go Go.RowKit
def elTy:ElK Ty:=⟨fun x w B cs=>TyB w B x.1 x.2 cs,fun hs h=>TyB.keep hs h,fun hs h=>TyB.sub hs h⟩
theorem zQi {x:Ty}{w:World}{B:Nat->Prop}{cs:List Value}(h:elTy.E x w B cs):∀ u∈cs,u.oneCell'=true:=by
 obtain⟨u,rfl,_,hr⟩:TyB w B x.1 x.2 cs:=h;obtain⟨A,c,rfl,_⟩:=hr.form;intro v hv;simp at hv;rcases hv with rfl|rfl<;>rfl
theorem namTy:Nam 65 24 (.agg #[vS none 0 0,vI i6 0]) 2 32:=⟨underlying65,by kernel_rfl,rfl,by decide,by decide⟩
abbrev OwnTy (w:World) (base:Nat) (v:Value) (l:List Ty):Prop:=OwnE elTy 24 2 w base v l
def rgT (r:Iv.Rg):Ty:=([⟨3,r.1,r.2,[],[],[],0,0⟩],0)
theorem zQw (r:Iv.Rg):SmT 1000000 (rgT r):=⟨by simp[rgT],fun x hx=>by simp[rgT]at hx;subst hx;exact⟨by simp,by simp⟩⟩
theorem zQe {A:Option Addr}{n cap:Nat}{rs:List Iv.Rg}(w:World) (hR:Iv.RngS w w.heap.size A n rs) (hn:n<=50) :
  Calls tP 18 #[vS A n cap] w fun e w'=>∃ m,Iv.Nf m/\(∀ x,Iv.hasI m x↔Iv.hasI rs x)/\TyOut 0 w (conT 16 noneT (m.map rgT)) e w':=by
 obtain⟨W,hW,hb,kR,k⟩:=aW w (oE none 0 0 0)
 have hc:=Iv.zPa A n cap rs W (hR.kept hb (by omega)) (by omega);have HP:=xI (aN hn (aN hb (aN kR k)));clear hn hb kR hR k;go_enter func18,ntmps18;go_wp2_with fail;rw[<-hW];clear hW;refine hc.mono ?_;clear hc;rintro e w1 ⟨m,-,hnf,hmem,hml,A1,n1,c1,rfl,hR1,hb1⟩;have HM:=xI (aN hnf hmem);clear hnf hmem;have z:=hR1.1;have c:=hR1.2.1;have HN:=xI (aN hR1 (aN hb1 (aN c z)));have G:=hb1.size;have H:n1<=50:=by have:=HP.out.1;omega
 clear hR1 hb1 c z hml;go_wp2_with fail
 go_loopw [3,9] (fun v i wr=>∃ (j cv:Nat) (Av:Option Addr),i=vI i6 j/\v=vS Av j cv/\j<=n1/\OwnTy wr w1.heap.size v ((m.map rgT).take j)/\bW w1 wr) (fun _ i _=>((n1:Int)-intOf i).toNat)
 case atStart=>exact⟨0,0,none,rfl,rfl,Bl _,OwnE.nil _ _ _ _ _,Bv _ _⟩
 case round=>
  obtain⟨j,cv,Av,rfl,rfl,hj,hO,p⟩:=hrel;have F:=p.size;have HO:=xI (aN hO p);clear hO p;by_cases hlt:j<n1
  ·obtain⟨b,J,r1,r2,rfl,M,hx,hf,O,N⟩:=(HN.out.1.below HO.out.2).at hlt;have mp:(j:Int)<(n1:Int):=by omega
   have m0:(0:Int)<=(j:Int):=by omega
   have L:IntKind.i64.wrap ((j:Int)+1)=(j:Int)+1:=Bq _ (by omega);obtain⟨X,hX,B,_,f⟩:=aW wr (.cells #[vI i6 r1,vI i6 r2] 83 (0,0))
   have hc:Calls tP 60 #[.agg #[vI i6 3,vI i6 r1,vI i6 r2,vT ⟨#[]⟩,vS none 0 0,vS none 0 0,vI i6 0,vI i6 0]] X (TyOut 0 X (rgT (r1,r2))):=
    zKp 3 r1 r2 [] [] [] 0 0 none none 0 0 0 X (by omega) (leafT 3 r1 r2 [] (by show i64B 3;decide) (zB3 hf.1 hf.2.1) (zB3 hf.2.2.1 hf.2.2.2) (by unfold maxLen;decide))
   have d:(m.map rgT).take (j+1)=(m.map rgT).take j++[rgT (r1,r2)]:=by rw[Cp,Cj,hx];rfl
   have D:=xI d;have HX:=xI (aN B f);clear B f d hx hf;go_wp2_with fail;rw[<-hX];clear hX;refine hc.mono ?_;clear hc;rintro e w5 ⟨⟨Ao,co,rfl,hT5⟩,hb5⟩;have K:=hb5.size;have f:=HX.out.2;have a:bW wr w5:=HX.out.1.trans (hb5.mono (by omega));generalize hlj:(m.map rgT).take j=lj at HO D;have I:lj.length=j:=by rw[<-hlj,Bg,Bi];have:=HN.out.2.2.2;omega
   have C:OwnTy w5 w1.heap.size (vS Av j cv) lj:=HO.out.1.kept (by omega) fun b _ hl=>a.block b hl;have y:∀ g,(vS Av j cv).ownBlock=some g->g<wr.heap.size:=fun g hg=>(OwnE.ltB HO.out.1 hg).2;have s:elTy.E (rgT (r1,r2)) w5 (fun b=>w1.heap.size<=b/\b<w5.heap.size/\some b≠(vS Av j cv).ownBlock) [vS Ao 1 co,vI i6 0]:=TyB.sub (fun b hb=>by
    rcases hb with h|h
    ·omega
    ·refine⟨by omega,h.2,fun e=>?_⟩;have:=y b e.symm;omega) hT5
   have HG:=xI (aN (HO.out.2.trans (a.mono F)) I);clear hb5 a y hT5;go_wp2_with (at_builtin;refine zFm elTy namTy rfl _ _ rfl w1.heap.size (vS Av j cv) lj rfl C (rgT (r1,r2)) [vS Ao 1 co,vI i6 0] 1 _ rfl rfl _ rfl s rfl (zQi s) (by omega) (by omega) ?_;intro g cap w6 ho6 hb6 _ _;refine Hid.out ?_);refine xI ?_;have HR:=xI (aN ho6 (HG.out.1.trans hb6));clear ho6 hb6 C s;go_wp2_with fail
   go_roundw
   case rel=>exact⟨j+1,cap,some (aD g 0),by go_num,rfl,by omega,by rw[D.out];have h:=HR.out.1;rw[HG.out.2]at h;exact h,HR.out.2⟩
   case measure=>simp[intOf];omega
  ·obtain rfl:j=n1:=by omega
   have mp:¬ ((j:Nat):Int)<(j:Int):=by omega
   have o:(m.map rgT).length=j:=by rw[Bi];exact HN.out.2.2.2.symm
   have hO:=HO.out.1;rw[Cx (by omega)]at hO;have u:RowB wr (fun b=>b<wr.heap.size) 2 (vS Av (m.map rgT).length cv) (m.map rgT).length (tyR wr (fun b=>b<wr.heap.size) (m.map rgT)):=by
    have h:=OwnE.rowB hO (by decide) (by unfold maxLen;omega) (Bl _);rw[o]at h ⊢;exact RowB.sub h (fun _ hb=>hb.2) fun _ _ ⟨t,ht,hT⟩=>⟨t,ht,TyB.sub (fun _ hb=>hb.2) hT⟩
   have hc:=zMk (l:=m.map rgT) wr lR u (fun t ht=>by
    obtain⟨r,_,rfl⟩:=Cd.1 ht;exact zQw r) (by omega)
   rw[o]at hc;have HQ:=xI (HN.out.2.1.trans (HO.out.2.mono G));clear hO u o;go_wp2_with fail;refine hc.mono ?_;clear hc;rintro e w2 ⟨⟨A2,c2,rfl,hT2⟩,hb2⟩;have q:=HQ.out.trans (hb2.mono (by have:=HQ.out.size;omega));have k:=HP.out.2.2.2;have kz:=(q.block w.heap.size (by omega)).trans HP.out.2.2.1;have f0:=Bz kz 0;have f1:=Bz kz 1;have c0:=cH kz 0;have c1:=cH kz 1;have HC:=xI (aN hT2 (aN hb2 q));clear hT2 hb2 q;go_wp2;refine ret2s kz rfl rfl rfl fun V hz hbb hl=>⟨m,HM.out.1,HM.out.2,⟨_,_,rfl,?_⟩,(HP.out.2.1.trans (HC.out.2.2.mono (by omega))).trans (hl _ lR)⟩;exact TyOut.put HC.out.1 (Bl _) (by have:=HQ.out.size;omega) (by have:=HQ.out.size;omega) hz hbb
def lst0:List Tn:=[⟨16,0,0,[],[1,2],[],0,0⟩,⟨9,0,0,[],[],[],0,0⟩,⟨12,0,0,[],[],[],0,0⟩]
def lstT (t:Ty):Ty:=((gr (fun _=>none) (accT t) lst0).1.set 2 ⟨12,0,0,[],[(gr (fun _=>none) (accT t) lst0).2,0],[],0,0⟩,0)
theorem zRm:∀ x∈lst0,kidOk x:=fun x hx=>by
 simp[lst0]at hx;rcases hx with rfl|rfl|rfl<;>exact⟨by decide,by decide⟩
theorem zLp (ns:List Tn) (root:Int) (A:Option Addr) (c:Nat) (w:World) (hsm:SmT 1000000 (ns,root)) (hT:TyP w w.heap.size ns root [vS A ns.length c,vI i6 root]) :
  Calls tP 23 #[.agg #[vS A ns.length c,vI i6 root]] w (TyOut 0 w (lstT (ns,root))):=by
 obtain⟨Wa,d⟩:∃ Wa,Wa=((((w.alloc (oE A ns.length c root)).alloc (oE none 0 0 0)).alloc (.cells #[vI i6 1,vI i6 2] 3 (0,0))).alloc (.cells #[vI i6 16,vI i6 0,vI i6 0,vT ⟨#[]⟩,vS (some (aF w 0)) 2 2,vS none 0 0,vI i6 0,vI i6 0,vI i6 9,vI i6 0,vI i6 0,vT ⟨#[]⟩,vS none 0 0,vS none 0 0,vI i6 0,vI i6 0,vI i6 12,vI i6 0,vI i6 0,vT ⟨#[]⟩,vS none 0 0,vS none 0 0,vI i6 0,vI i6 0] 40 (0,0))).alloc (.cells #[vS (some (aD (w.heap.size+1+1+1) 0)) 3 3] 101 (0,0)):=⟨_,rfl⟩;have C:bW w Wa:=by rw[d];exact ((((yR.alloc lR _).alloc (by simp) _).alloc (by simp<;>omega) _).alloc (by simp<;>omega) _).alloc (by simp<;>omega) _
 have kE:Wa.heap[w.heap.size]?=some (oE A ns.length c root):=by rw[d,Bm _ _ _ (by simp<;>omega),Bm _ _ _ (by simp<;>omega),Bm _ _ _ (by simp<;>omega),Bm _ _ _ (by simp)];exact Bj w _
 have kR:Wa.heap[w.heap.size+1]?=some (oE none 0 0 0):=by rw[d,Bm _ _ _ (by simp<;>omega),Bm _ _ _ (by simp<;>omega),Bm _ _ _ (by simp)];exact zAg _ (by simp)
 have kK:Wa.heap[w.heap.size+1+1]?=some (.cells #[vI i6 1,vI i6 2] 3 (0,0)):=by rw[d,Bm _ _ _ (by simp<;>omega),Bm _ _ _ (by simp)];exact zAg _ (by simp)
 have kN:Wa.heap[w.heap.size+1+1+1]?=some (.cells #[vI i6 16,vI i6 0,vI i6 0,vT ⟨#[]⟩,vS (some (aF w 0)) 2 2,vS none 0 0,vI i6 0,vI i6 0,vI i6 9,vI i6 0,vI i6 0,vT ⟨#[]⟩,vS none 0 0,vS none 0 0,vI i6 0,vI i6 0,vI i6 12,vI i6 0,vI i6 0,vT ⟨#[]⟩,vS none 0 0,vS none 0 0,vI i6 0,vI i6 0] 40 (0,0)):=by rw[d,Bm _ _ _ (by simp)];exact zAg _ (by simp)
 have kB:Wa.heap[w.heap.size+1+1+1+1]?=some (.cells #[vS (some (aD (w.heap.size+1+1+1) 0)) 3 3] 101 (0,0)):=by rw[d];exact zAg _ (by simp)
 have D:Wa.heap.size=w.heap.size+5:=by rw[d];simp
 have k:OwnQ Wa (w.heap.size+1+1+1) (vS (some (aD (w.heap.size+1+1+1) 0)) 3 3) [[vI i6 16,vI i6 0,vI i6 0,vT ⟨#[]⟩,vS (some (aF w 0)) 2 2,vS none 0 0,vI i6 0,vI i6 0],[vI i6 9,vI i6 0,vI i6 0,vT ⟨#[]⟩,vS none 0 0,vS none 0 0,vI i6 0,vI i6 0],[vI i6 12,vI i6 0,vI i6 0,vT ⟨#[]⟩,vS none 0 0,vS none 0 0,vI i6 0,vI i6 0]]:=by
  refine⟨[vI i6 16,vI i6 0,vI i6 0,vT ⟨#[]⟩,vS (some (aF w 0)) 2 2,vS none 0 0,vI i6 0,vI i6 0,vI i6 9,vI i6 0,vI i6 0,vT ⟨#[]⟩,vS none 0 0,vS none 0 0,vI i6 0,vI i6 0,vI i6 12,vI i6 0,vI i6 0,vT ⟨#[]⟩,vS none 0 0,vS none 0 0,vI i6 0,vI i6 0],⟨rfl,.inr ⟨w.heap.size+1+1+1,3,_,rfl,B7 _,kN,B7 _,by unfold maxLen;decide,rfl,rfl⟩⟩,fun j x hj=>?_⟩;rcases j with _|_|_|j
  all_goals simp at hj
  all_goals subst hj
  all_goals exact⟨rfl,rfl,fun u hu=>by simp at hu;rcases hu with rfl|rfl|rfl|rfl|rfl|rfl|rfl|rfl<;>rfl⟩
 have J:RowB Wa (GD 0 (w.heap.size+1+1) (w.heap.size+1+1+1+1) (vS (some (aD (w.heap.size+1+1+1) 0)) 3 3) Wa) 1 (vS (some (aF w 0)) 2 2) 2 (kidR [1,2]):=by
  have h:JRow Wa (w.heap.size+1+1) [1,2]:=kK;refine (h.row (B:=GD 0 (w.heap.size+1+1) (w.heap.size+1+1+1+1) (vS (some (aD (w.heap.size+1+1+1) 0)) 3 3) Wa) (n:=2) rfl (fun x hx=>?_) (by unfold maxLen;decide) ⟨by omega,by omega,fun e=>by simp[Value.ownBlock]at e,by omega⟩);simp at hx;rcases hx with rfl|rfl<;>exact zB3 (by decide) (by decide)
 have G:NdsB Wa (GD 0 (w.heap.size+1+1) (w.heap.size+1+1+1+1) (vS (some (aD (w.heap.size+1+1+1) 0)) 3 3) Wa) [[vI i6 16,vI i6 0,vI i6 0,vT ⟨#[]⟩,vS (some (aF w 0)) 2 2,vS none 0 0,vI i6 0,vI i6 0],[vI i6 9,vI i6 0,vI i6 0,vT ⟨#[]⟩,vS none 0 0,vS none 0 0,vI i6 0,vI i6 0],[vI i6 12,vI i6 0,vI i6 0,vT ⟨#[]⟩,vS none 0 0,vS none 0 0,vI i6 0,vI i6 0]] lst0:=by
  refine⟨rfl,fun j cs x h1 h2=>?_⟩;unfold lst0 at h2;rcases j with _|_|_|j
  all_goals simp at h1 h2
  all_goals subst h1 h2
  ·exact⟨_,_,rfl,⟨by show i64B 16;decide,by show i64B 0;decide,by show i64B 0;decide,by simp,by show i64B 0;decide,by show i64B 0;decide⟩,J,RowB.nil ..⟩
  ·exact⟨_,_,rfl,⟨by show i64B 9;decide,by show i64B 0;decide,by show i64B 0;decide,by simp,by show i64B 0;decide,by show i64B 0;decide⟩,RowB.nil ..,RowB.nil ..⟩
  ·exact⟨_,_,rfl,⟨by show i64B 12;decide,by show i64B 0;decide,by show i64B 0;decide,by simp,by show i64B 0;decide,by show i64B 0;decide⟩,RowB.nil ..,RowB.nil ..⟩
 have hc:=zGb (ns:=ns) (root:=root) (H:=w.heap.size) (Z:=w.heap.size+1+1) (bb:=w.heap.size+1+1+1+1) (base:=w.heap.size+1+1+1) (v:=vS (some (aD (w.heap.size+1+1+1) 0)) 3 3) (css:=[[vI i6 16,vI i6 0,vI i6 0,vT ⟨#[]⟩,vS (some (aF w 0)) 2 2,vS none 0 0,vI i6 0,vI i6 0],[vI i6 9,vI i6 0,vI i6 0,vT ⟨#[]⟩,vS none 0 0,vS none 0 0,vI i6 0,vI i6 0],[vI i6 12,vI i6 0,vI i6 0,vT ⟨#[]⟩,vS none 0 0,vS none 0 0,vI i6 0,vI i6 0]]) (bs:=lst0) Wa (hT.keep (Same.of_below C fun b hb=>hb)) hsm.1 hsm.2 ⟨by omega,by omega,by omega,by omega⟩ (fun e=>by simp[Value.ownBlock]at e) (by omega) kB k G (by simp);have L:=zNm (m:=3) (f:=fun _=>none) (bs:=lst0) (zD9 (ns,root)) (zFk hsm (by decide)) (by decide) zRm;have T:=zNn (f:=fun _=>none) (bs:=lst0) (zD9 (ns,root)) (fun s p h=>by cases h);have z:=zI2 (f:=fun _=>none) (t:=accT (ns,root)) (bs:=lst0) (j:=2) (x:=⟨12,0,0,[],[],[],0,0⟩) rfl;have aw:=(zFk hsm (by decide)).1;have I:lstT (ns,root)=((gr (fun _=>none) (accT (ns,root)) lst0).1.set 2 ⟨12,0,0,[],[(gr (fun _=>none) (accT (ns,root)) lst0).2,0],[],0,0⟩,0):=rfl;generalize (gr (fun _=>none) (accT (ns,root)) lst0).1=xs at *;generalize (gr (fun _=>none) (accT (ns,root)) lst0).2=hd at *;rw[show lst0.length=3 by rfl]at T;have K:i64B hd:=zB3 (by omega) (by have:=T.2;omega);obtain⟨x0,x1⟩:=zAf kE;rw[d]at x0 x1;have HP:=xI (aN C (aN kR (aN D (aN L (aN z (aN I K))))));clear C kE kR kK kN kB D k J G L T z I K aw hsm hT;go_enter func23,ntmps23;go_wp2_with fail;rw[<-d];clear d x0 x1;refine hc.mono ?_;rintro e w5 ⟨rfl,v5,css5,hG⟩;clear hc;obtain⟨C,kR,D,L,z,I,K⟩:=HP.out;obtain⟨q1,q2,q3,q4,q5⟩:=hG;have W:=q3.1;have al:2<xs.length:=(Bw.1 z).1;obtain⟨g,cp,rfl,av,ap,au⟩:=OwnE.formG q2 (by omega);have Q:=By (l:=css5) (i:=2) (by omega);generalize css5[2]'(by omega)=cs at Q;obtain⟨uk,uf,ar,am,J,U⟩:=q3.2 2 cs _ Q z;obtain⟨Ak,ck,ax,_⟩:=J.form;obtain⟨Af,cf,ay,_⟩:=U.form;subst ax ay ar;have ad:=q4.low.size;have aq:g=w.heap.size+1+1+1\/Wa.heap.size<=g:=by
  rcases q5 g rfl with h|h
  ·simp[Value.ownBlock]at h;omega
  ·exact .inr h
 obtain⟨X,hX,q,kX,ae⟩:=aW w5 (.cells #[vI i6 hd,vI i6 0] 3 (0,0))
 have aa:OwnQ X (w.heap.size+1+1+1) (vS (some (aD g 0)) css5.length cp) css5:=OwnE.stay zBr q2 fun g _ hl=>q.block g hl;have Y:NdsB X (GD 0 (w.heap.size+1+1) (w.heap.size+1+1+1+1) (vS (some (aD g 0)) css5.length cp) X) css5 xs:=(q3.keep (Same.of_below q fun b hb=>hb.1)).sub fun b hb=>⟨by have:=hb.1;omega,hb.2⟩;obtain⟨ao,_,_,o,M,_,E⟩:=aa.at8N Q;have d4:=o 4 (by decide);have f4:=M (2*8+4);simp only[D3,D4]at d4;have e3:w5.cell? (aD (w.heap.size+1+1+1+1) 0)=some (vS (some (aD g 0)) css5.length cp):=cH q1 0;obtain⟨V1,y⟩:∃ V1,V1=X.setCell (aD g 20) (vS (some (aH w5 0)) 2 2):=⟨_,rfl⟩;have P:∀ b,b≠g->V1.heap[b]?=X.heap[b]?:=fun b hb=>by rw[y];exact Bu _ (aD g 20) b _ hb
 have ah:V1.heap.size=X.heap.size:=by rw[y];simp
 have a:=E 4 (vS (some (aH w5 0)) 2 2) (by decide) rfl;rw[show 2*8+4=20 by rfl,<-y]at a;rw[show 2*8+4=20 by rfl]at d4 f4;have ak:JRow V1 w5.heap.size [hd,0]:=(show JRow X w5.heap.size [hd,0]from kX).on (P _ (by omega));have aj:RowB V1 (fun b=>b<V1.heap.size/\(b<0\/w.heap.size+1+1<=b)) 1 (vS (some (aH w5 0)) 2 2) 2 (kidR [hd,0]):=ak.row (n:=2) rfl (fun x hx=>by
  simp at hx;rcases hx with rfl|rfl
  ·exact K
  ·exact zB3 (by decide) (by decide)) (by unfold maxLen;decide) ⟨by omega,.inr (by omega)⟩
 have S:Same (GD 0 (w.heap.size+1+1) (w.heap.size+1+1+1+1) (vS (some (aD g 0)) css5.length cp) X) X V1:=⟨by omega,fun b i hb _=>Bf (P b fun e=>hb.2.2.1 (by rw[e];rfl))⟩;have R:∀ b,GD 0 (w.heap.size+1+1) (w.heap.size+1+1+1+1) (vS (some (aD g 0)) css5.length cp) X b->b<V1.heap.size/\(b<0\/w.heap.size+1+1<=b):=fun b hb=>⟨by have:=hb.1;omega,by
  rcases hb.2.2.2 with h|h
  ·exact .inl h
  ·exact .inr (by omega)⟩
 have N:=(U.keep (Same.of_below q fun b hb=>hb.1) fun _ _ h=>h).sub (B':=GD 0 (w.heap.size+1+1) (w.heap.size+1+1+1+1) (vS (some (aD g 0)) css5.length cp) X) (fun b hb=>⟨by have:=hb.1;omega,hb.2⟩) fun _ _ h=>h;have ai:TnB V1 (fun b=>b<V1.heap.size/\(b<0\/w.heap.size+1+1<=b)) ⟨12,0,0,[],[hd,0],[],0,0⟩ [vI i6 12,vI i6 0,vI i6 0,vT ⟨#[]⟩,vS (some (aH w5 0)) 2 2,vS Af 0 cf,vI i6 0,vI i6 0]:=⟨_,_,rfl,⟨by show i64B 12;decide,by show i64B 0;decide,by show i64B 0;decide,by simp,by show i64B 0;decide,by show i64B 0;decide⟩,aj,(N.keep S fun _ _ h=>h).sub R fun _ _ h=>h⟩;have F:=((Y.keep S).sub R).set 2 ai;have r:=OwnE.nodes a (B':=fun b=>b<V1.heap.size/\(b<0\/w.heap.size+1+1<=b)) F (by rw[Cn];have:=L.1;unfold maxLen;omega) (fun b hb=>hb) fun b h1 h2=>⟨h2,.inr (by omega)⟩;rw[Cn,<-W]at r;have O:=(P (w.heap.size+1+1+1+1) (by omega)).trans ((q.block _ (by omega)).trans q1);have af:=zEs (some (aD g 0)) css5.length cp (w.heap.size+1+1+1+1) 0 V1 (cH O 0);have ab:=(P (w.heap.size+1) (by omega)).trans ((q.block (w.heap.size+1) (by omega)).trans ((q4.blk (w.heap.size+1) (by omega) (by omega) (by omega) (fun e=>by have e:some (w.heap.size+1+1+1)=some (w.heap.size+1):=e;injection e with e;omega)).trans kR));have ag:bW w V1:=by
  have h1:=q4.below (H:=w.heap.size) (by omega) (by omega) (fun g h=>by simp[Value.ownBlock]at h;omega) (by omega);have h2:=(C.trans h1).trans (q.mono (by omega));rw[y];exact h2.setCell (p:=(aD g 20)) (by show w.heap.size<=g;omega) _
 have HF:=xI (aN r (aN I (aN ab (aN ag (aN W (aN ad (aN D (aN ah ae))))))));have az:Hid (2<css5.length):=xI (by omega);have u9:(2:Int)<(css5.length:Int):=by have:=az.out;omega
 have e4:X.cell? (aD (w.heap.size+1+1+1+1) 0)=some (vS (some (aD g 0)) css5.length cp):=(Bt ((q.block _ (by omega)).trans q1) 0).trans rfl;rw[hX]at d4 f4 e4;rw[hX]at y;clear r I ab ag ah q1 q2 q3 q4 q5 aa Y O a ak aj F ai N S R o M E ao am J U Q W av ap au aq P q kX ae hX ad D C kR L z K al HP;go_wp2_with fail;rw[<-y];clear y d4 f4 e3 e4;refine af.mono ?_;rintro e w2 ⟨rfl,hb2⟩;clear af;have h9:=HF.out.2.2.2.2;have kz:=(hb2.block (w.heap.size+1) (by omega)).trans HF.out.2.2.1;have f0:=Bz kz 0;have f1:=Bz kz 1;have c0:=cH kz 0;have c1:=cH kz 1;have HB:=xI hb2;have H9:=xI h9;clear hb2 h9;go_wp2;have h9:=H9.out;have aA:=HB.out.size;refine ret2s kz rfl rfl rfl fun V hz hbb hl=>⟨⟨some (aD g 0),cp,?_,?_⟩,?_⟩
 ·rw[HF.out.2.1,h9.1];simp
 ·have an:TyB V1 (fun b=>b<V1.heap.size/\(b<0\/w.heap.size+1+1<=b)) (xs.set 2 ⟨12,0,0,[],[hd,0],[],0,0⟩) 0 [vS (some (aD g 0)) css5.length cp,vI i6 0]:=⟨_,rfl,by show i64B 0;decide,by rw[Cn,<-h9.1];exact HF.out.1⟩;rw[HF.out.2.1];simp only[Cn];rw[<-h9.1];refine (an.keep (w':=V) ⟨by omega,fun b i hb2 hl2=>Bf ((hbb b (by rcases hb2.2 with h|h<;>omega)).trans (HB.out.block b hl2))⟩).sub fun b hb2=>?_;rcases hb2.2 with h|h
  ·exact .inl h
  ·exact .inr ⟨by omega,by have:=hb2.1;omega⟩
 ·exact (HF.out.2.2.2.1.trans (HB.out.mono (by omega))).trans (hl _ (by omega))
open Go.Sort Go.Shelf Go.Proofs
theorem Tryz.sortS_string (blk off cap:Nat) (ss:List Strg) (w:World) (hH:Holds encStr w blk off ss.toArray) (hblk:blk<w.heap.size) (hsz:ss.length<4611686018427387904) :
  Calls tP 94 #[vS (some (aD blk off)) ss.length cap] w fun e w'=>e=.returned (.tuple #[])/\∃ n os,w'=grow (putRow encStr (Sort.ahead w n) blk off (ss.mergeSort fun x y=>decide (x<=y)).toArray) os:=
 Any.slices_Sort_string Tryz.laysSortS blk off cap ss w hH hblk hsz
theorem Tryz.sortS_none (p:Option Addr) (cap:Nat) (w:World) :
  Calls tP 94 #[vS p 0 cap] w fun e w'=>e=.returned (.tuple #[])/\w'=w:=
 calls_of_every_depth fun D=>AnyS.slices_Sort_string_none_in Tryz.laysSortS D p cap w
theorem zGy {w:World}{B g n cap q m:Nat}{ss:List Strg}{d:Array Strg}{os:Array Obj}(h:OwnN w B (vS (some (aD g 0)) n cap) ss) (hn:ss.length=n) (hd:d.size=n) (hm:m<=n) :
  OwnN (grow (putRow encStr (Sort.ahead w q) g 0 d) os) B (vS (some (aD g 0)) m cap) (d.toList.take m)/\w.grownBy (grow (putRow encStr (Sort.ahead w q) g 0 d) os) (some g):=by
 subst hn;rcases h.2 with⟨h',_⟩|⟨g',o,b,h',hb,hg,p,l,i,a⟩
 ·simp at h'
 ·simp only[Value.slice.injEq,Cs,Addr.mk.injEq,and_true,true_and]at h';obtain⟨rfl,rfl⟩:=h';have c:g<w.heap.size:=(Cr.1 hg).1;have hh:(grow (putRow encStr (Sort.ahead w q) g 0 d) os).heap[g]?=some (.cells (putCells encStr 0 d b) 9 (0,0)):=by
   rw[heap_grow_old _ _ (by simpa [putRow,mapBlock,Sort.ahead] using c)];simp[putRow,mapBlock,Sort.ahead,Array.getElem?_modify,hg,onCells]
  have hl:(d.toList.take m).length=m:=by rw[Bg,Array.length_toList];omega
  refine⟨⟨by simp,.inr ⟨g,cap,_,by rw[hl],hb,hh,by rw[hl];omega,l,by simp[putCells,i],?_⟩⟩,rfl,rfl,rfl,?_,fun k hk hne=>?_⟩
  ·rw[hl];apply Dp;intro j;by_cases hj:j<m
   ·rw[Cl (by omega),Eh,Cj,Cl hj,Eh];have hc:j<b.size:=by omega
    have f:j<d.size:=by omega
    simp[putCells,hc,f]
   ·rw[List.getElem?_take_eq_none (by omega),Ce (by rw[Bi,hl];omega)]
  ·simp[putRow,mapBlock,Sort.ahead,grow]
  ·rw[heap_grow_old _ _ (by simpa [putRow,mapBlock,Sort.ahead] using hk)];have:g≠k:=fun e=>hne (by rw[e]);simp[putRow,mapBlock,Sort.ahead,Array.getElem?_modify,this]
theorem zMr (v:Value) (ss:List Strg) (w:World) (B:Nat) (hO:OwnN w B v ss) (hB:B<=w.heap.size) (hn:ss.length<=1000000000) :
  Calls tP 94 #[v] w fun e w'=>e=.returned (.tuple #[])/\OwnN w' B v (ss.mergeSort fun x y=>decide (x<=y))/\Below B w w':=by
 rcases C7 ss.length with h0|h0
 ·have hr:ss=[]:=Cc h0;subst hr;obtain⟨A,c,rfl⟩:=hO.form;exact (Tryz.sortS_none A c w).mono fun e w' ⟨he,hw⟩=>⟨he,by rw[hw,List.mergeSort_nil];exact hO,by rw[hw];exact Bv _ _⟩
 ·obtain⟨g,c,rfl,f,a,b⟩:=hO.formG h0;refine (Tryz.sortS_string g 0 c ss w (hO.holds rfl) a (by omega)).mono fun e w' ⟨he,q,os,hw⟩=>?_;have hl:(ss.mergeSort fun x y=>decide (x<=y)).length=ss.length:=List.length_mergeSort _;have:=zGy (q:=q) (os:=os) (m:=ss.length) (d:=(ss.mergeSort fun x y=>decide (x<=y)).toArray) hO rfl (by simp) lR;rw[<-hw]at this;refine⟨he,?_,yR.grown this.2 hB (fun k hk=>by injection hk with hk;omega)⟩;have h1:=this.1;rw[Cx (by simp)]at h1;simpa using h1
theorem zI7 (v:Value) (ss:List Strg) (w:World) (B:Nat) (hO:OwnN w B v ss) (hB:B<=w.heap.size) (hn:ss.length<=1000000000) :
  Calls tP 95 #[v] w fun e w'=>∃ v',e=.returned v'/\OwnN w' B v' (Lib.compact ss)/\Below B w w':=by
 rcases C7 ss.length with h0|h0
 ·have hr:ss=[]:=Cc h0;subst hr;obtain⟨A,c,rfl⟩:=hO.form;exact (Tryz.slices_Compact_string_empty A c w).mono fun e w' ⟨he,hw⟩=>⟨_,he,by rw[hw];exact hO,by rw[hw];exact Bv _ _⟩
 ·obtain⟨g,c,rfl,h,f,a⟩:=hO.formG h0;have b:(Lib.compact ss).length<=ss.length:=by
   unfold Lib.compact Lib.compactUpTo;rw[Bi];simpa using Fy (Lib.keeps ss.toArray) (List.range ss.length)
  refine (Tryz.slices_Compact_string g 0 c ss w (hO.holds rfl) (by omega) a).mono fun e w' ⟨he,q,hw⟩=>?_;have:=zGy (q:=q) (os:=#[]) (m:=(Lib.compact ss).length) (d:=(Lib.compact ss++List.replicate (ss.length-(Lib.compact ss).length) []).toArray) hO rfl (by simp;omega) b;rw[grow_empty,<-hw]at this;refine⟨_,he,?_,yR.grown this.2 hB (fun k hk=>by injection hk with hk;omega)⟩;have h1:=this.1;rw[List.toList_toArray,List.take_left]at h1;exact h1
def elS7:ElK (List UInt8):=⟨fun x _ _ cs=>cs=[vT ⟨x.toArray⟩],fun _ h=>h,fun _ h=>h⟩
theorem zKv {x:List UInt8}{w:World}{B:Nat->Prop}{cs:List Value}(h:elS7.E x w B cs):∀ u∈cs,u.oneCell'=true:=by
 obtain rfl:=h;intro u hu;simp at hu;subst hu;rfl
theorem namS7:Nam 31 9 (vT .empty) 1 16:=⟨underlying31,by kernel_rfl,rfl,by decide,by decide⟩
theorem OwnE.names {w:World}{base:Nat}{v:Value}{l:List (List UInt8)}(h:OwnE elS7 9 1 w base v l):OwnN w base v l:=by
 obtain⟨xs,h1,h2⟩:=h;have hx:xs=l.map encStr:=by
  apply Dp;intro j;have hl:xs.length=l.length*1:=h1.1;by_cases hj:j<l.length
  ·have h3:=h2 j _ (By hj);have h4:(xs.drop (j*1)).take 1=[vT ⟨(l[j]).toArray⟩]:=h3;rw[Nat.mul_one]at h4;have h5:((xs.drop j).take 1)[0]?=xs[j]?:=by rw[Cl (by decide),C6,Dr]
   rw[<-h5,h4,Cj,By hj];rfl
  ·rw[Ce (by omega),Ce (by rw[Bi];omega)]
 rw[hx]at h1;exact h1
def varL (ns:List Tn) (l:List Int):List (List UInt8):=(l.filter fun n=>decide ((nd ns n).kind=19)).map fun n=>(nd ns n).text
theorem zIf (ns:List Tn) (l:List Int) (n:Int):varL ns (l++[n])=varL ns l++(if (nd ns n).kind=19 then [(nd ns n).text] else []):=by
 unfold varL;rw[List.filter_append,Dl,List.filter_cons];by_cases h:(nd ns n).kind=19<;>simp[h]
theorem zOp (ns:List Tn) (l:List Int):(varL ns l).length<=l.length:=by unfold varL;rw[Bi];exact Fy _ _
theorem zCo {ns:List Tn}{root:Int}{A:Option Addr}{c:Nat}(w:World) (hT:TyP w w.heap.size ns root [vS A ns.length c,vI i6 root]) (hn:ns.length<=1000000) :
  Calls tP 52 #[.agg #[vS A ns.length c,vI i6 root]] w fun e w'=>∃ v,e=.returned v/\OwnN w' w.heap.size v (srt (varL (accT (ns,root)).1 (visR (accT (ns,root)).1 (accT (ns,root)).2.toNat)))/\bW w w':=by
 obtain⟨W0,Y,W,Q,J⟩:=aW w (oE A ns.length c root)
 have T:=zHd (H:=w.heap.size) W0 (by omega) (hT.on W) hn;have N:(accT (ns,root)).1.length<=1000000:=by
  unfold accT;split
  ·exact hn
  ·simp[noneT]
 have K:=zD9 (ns,root);obtain⟨q0,q1⟩:=zAf Q;rw[Y]at q0 q1;have HP:=xI (aN W (aN Q J));generalize hta:accT (ns,root)=ta at *;obtain⟨ms,r⟩:=ta;clear hta hn hT W Q J;dsimp only at T N K ⊢;go_enter func52,ntmps52;go_wp2_with fail;rw[<-Y];refine T.mono ?_;rintro e w1 ⟨⟨A1,c1,rfl,hT1⟩,hb1⟩;clear T q0 q1 Y;have J:=HP.out.2.2;have k1:=(hb1.block w.heap.size (by omega)).trans HP.out.2.1;obtain⟨q0,q1⟩:=zAf k1;have f0:=Bz k1 0;have f1:=Bz k1 1;obtain⟨V1,aa⟩:∃ V1,V1=(w1.setCell (aH w 0) (vS A1 ms.length c1)).setCell (aH w 1) (vI i6 r):=⟨_,rfl⟩;obtain⟨p1,p2,p3,p4⟩:=box2x k1 _ _ V1 aa;have aC:=hb1.size;have ax:bW w V1:=(HP.out.1.trans (hb1.mono (by omega))).trans (p4 _ lR);have S:∀ b,Bo w.heap.size W0 w1 b->b<V1.heap.size/\b≠w.heap.size:=fun b hb=>by rcases hb with h|h<;>exact⟨by omega,by omega⟩
 have ae:TyB V1 (fun b=>b<V1.heap.size/\b≠w.heap.size) ms r [vS A1 ms.length c1,vI i6 r]:=(hT1.keep (w':=V1) ⟨by omega,fun b i hb _=>Bf (p3 b (S b hb).2)⟩).sub S;have ar:=zFx (H:=V1.heap.size) V1 lR (ae.sub fun b hb=>hb.1) K N;obtain⟨t0,t1⟩:=zAf p1;have HT:=xI (aN N (aN K (aN ae (aN p1 (aN ax (show w.heap.size<V1.heap.size by omega))))));have ag:=xI aa;clear aa p1 p2 p3 p4 aC ax S ae hT1 hb1 J k1 N K;rw[ag.out]at t0 t1;go_wp2_with fail;rw[<-ag.out];clear t0 t1 q0 q1 f0 f1 ag;refine ar.mono ?_;rintro e U ⟨v,rfl,hO,hbU⟩;clear ar;obtain⟨a,f⟩:∃ a,a=visR ms r.toNat:=⟨_,rfl⟩;rw[<-f]at hO;obtain⟨Ao,co,rfl⟩:=hO.form;have I:Hid ((∀ i∈a,0<=i/\i.toNat<ms.length)/\a.length<=1000000):=xI (by
  have hv:=zBy (t:=(ms,r)) HT.out.2.1;have al:=HT.out.2.1.rt;refine⟨fun i hi=>?_,?_⟩
  ·rw[f]at hi;have h:=(hv i).1 hi;exact⟨h.1,h.2.lt HT.out.2.1.wf.edg (by simp only at al ⊢;omega)⟩
  ·rw[f];have h2:=zHw ms.length (visR ms r.toNat) (zEr (t:=(ms,r)) HT.out.2.1) fun k hk=>by
    have h:=(hv k).1 hk;have:=h.2.lt HT.out.2.1.wf.edg (by simp only at al ⊢;omega);exact⟨h.1,by simp only at this;omega⟩
   have:=HT.out.1;omega)
 have HU:=xI (aN hO hbU);have ah:=xI f;clear hO hbU f;go_wp2_with fail
 go_loopw [12,3] (fun i v wr=>∃ j:Nat,i=vI i6 j/\j<=a.length/\OwnE elS7 9 1 wr U.heap.size v (varL ms (a.take j))/\bW U wr) (fun i _ _=>((a.length:Int)-intOf i).toNat)
 case atStart=>exact⟨0,rfl,Bl _,OwnE.nil _ _ _ _ _,Bv _ _⟩
 case round=>
  obtain⟨j,rfl,hj,P,aw⟩:=hrel;obtain⟨Av,cv,rfl⟩:=P.form;have an:∀ g,(vS Av (varL ms (a.take j)).length cv).ownBlock=some g->U.heap.size<=g:=fun g hg=>(OwnE.ltB P hg).1;have z:=zOp ms (a.take j);generalize hnl:varL ms (a.take j)=nl at *;have ai:=xI hnl;have HI:=xI (aN P (aN aw (aN an z)));clear P aw an z hnl;by_cases hlt:j<a.length
  ·have mp:(j:Int)<(a.length:Int):=by omega
   have m0:(0:Int)<=(j:Int):=by omega
   have aL:IntKind.i64.wrap ((j:Int)+1)=(j:Int)+1:=Bq _ (by have:=I.out.2;omega);have E:=By hlt;have n:=Cw hlt;have p:a.take (j+1)=a.take j++[a[j]]:=by rw[Cp,E];rfl
   generalize a[j]=m at E n p;have ap:=I.out.1 m n;obtain⟨mn,rfl⟩:∃ mn:Nat,m=(mn:Int):=⟨m.toNat,by omega⟩;have az:=xI p;have aD:mn<ms.length:=by omega
   have u1:(0:Int)<=(mn:Int):=by omega
   have u2:(mn:Int)<(ms.length:Int):=by omega
   have hx:=By aD;generalize ms[mn]=x at hx;have l:nd ms (mn:Int)=x:=nd_at hx;have ad:=HU.out.2.size;have Z:=HT.out.2.2.2.2.2;have o:bW V1 wr:=HU.out.2.trans (HI.out.2.1.mono ad);have af:OwnI wr V1.heap.size (vS Ao a.length co) a:=OwnE.stay zAj HU.out.1 fun g hg hl=>HI.out.2.1.block g hl;obtain⟨bo,oo,aG,av,am,_⟩:=zDa ((OwnI.row af (by have:=I.out.2;unfold maxLen;omega)).sub (fun b hb=>hb.2) fun _ _ h=>h) E;subst aG;have aF:=HT.out.2.2.1.keep (Same.of_below o fun b hb=>hb.1);obtain⟨uu,R,_,q⟩:=aF;injection R with R _;subst R;obtain⟨bn,on,aI,Ak,ck,Af,cf,hu,_,d0,d1,d2,d3,d4,d5,d6,d7⟩:=TyB.at8B q hx;injection hu with hA hq1 hq2;clear hq1;subst hA hq2;obtain⟨t0,t1⟩:=zAf ((o.block w.heap.size Z).trans HT.out.2.2.2.1);obtain⟨X,hX,O,kX,aj⟩:=aW wr (oX x.kind x.lo x.hi ⟨x.text.toArray⟩ Ak x.kids.length ck Af x.fds.length cf x.r0 x.r1)
   have F:OwnE elS7 9 1 X U.heap.size (vS Av nl.length cv) nl:=OwnE.old HI.out.1 O;have d:bW U X:=HI.out.2.1.trans (O.mono HI.out.2.1.size);have L:=HI.out.2.2.2;have M:(a.take j).length<=1000000:=by rw[Bg];have:=I.out.2;omega
   obtain⟨x0,x1,x2,x3,x4,x5,x6,x7⟩:=zAd kX;rw[hX]at x0 x1 x2 x3 x4 x5 x6 x7;by_cases hk:x.kind=19
   ·have HV:Hid (varL ms (a.take (j+1))=nl++[x.text]):=xI (by rw[az.out,zIf,ai.out,l,if_pos hk]);have aE:=d.size;have u:nl.length<=300000000:=by omega
    have s:U.heap.size<=X.heap.size:=d.size;have G:=xI d;have C:=zKv (x:=x.text) (w:=w) (B:=fun _=>True) (cs:=[vT ⟨x.text.toArray⟩]) rfl;clear d L M O kX aj ad Z o af q E n p ap hx l av;subst hX;rw[hk]at F s G x0 x1 x2 x3 x4 x5 x6 x7;go_wp2_with (at_builtin;refine zFm elS7 namS7 rfl _ _ rfl U.heap.size _ nl rfl F x.text [vT ⟨x.text.toArray⟩] 1 (wr.heap.size+1) (by simp) rfl _ rfl rfl rfl C u s ?_;intro g cap w4 ho4 hb4 _ _;refine Hid.out ?_);refine xI ?_;have HF:=xI (aN ho4 hb4);clear ho4 hb4 F C u s x0 x1 x2 x3 x4 x5 x6 x7 d0 d1 d2 d3 d4 d5 d6 d7 t0 t1 am;go_wp2_with fail
    go_roundw
    case rel=>exact⟨j+1,by go_num,by omega,by rw[HV.out];exact HF.out.1,G.out.trans HF.out.2⟩
    case measure=>simp[intOf];omega
   ·have HV:Hid (varL ms (a.take (j+1))=nl):=xI (by rw[az.out,zIf,ai.out,l,if_neg hk,Dn]);have G:=xI (aN F d);clear F d L M O kX aj ad Z o af q E n p ap hx l av;go_wp2_with fail;clear x0 x1 x2 x3 x4 x5 x6 x7 d0 d1 d2 d3 d4 d5 d6 d7 t0 t1 am
    try rw[<-hX]
    go_roundw
    case rel=>exact⟨j+1,by go_num,by omega,by rw[HV.out];exact G.out.1,G.out.2⟩
    case measure=>simp[intOf];omega
  ·obtain rfl:j=a.length:=by omega
   have mp:¬ ((a.length:Nat):Int)<(a.length:Int):=by omega
   have L:=HI.out.2.2.2;have ao:=I.out.2;have M:(a.take a.length).length<=1000000:=by rw[List.take_length];exact ao
   have ay:=HI.out.1.names;have ab:=HI.out.2.1.size;have au:=zMr _ _ wr U.heap.size ay ab (by omega);have D:nl.length<=1000000:=by omega
   have aJ:=xI D;clear L ao ay ab M D;go_wp2_with (go_at_call 94;refine au.mono ?_;rintro e w3 ⟨rfl,ho3,hb3⟩;refine Hid.out ?_);refine xI ?_;have aB:=hb3.size;have aq:(nl.mergeSort fun x y=>decide (x<=y)).length=nl.length:=List.length_mergeSort _;have V:=zI7 _ _ w3 U.heap.size ho3 (by have:=HI.out.2.1.size;omega) (by rw[aq];have:=aJ.out;omega);have ak:Lib.compact (nl.mergeSort fun x y=>decide (x<=y))=srt nl:=rfl;rw[ak]at V;have aK:=xI hb3;clear au ho3 hb3 aB aq ak;go_wp2_with (go_at_call 95;refine V.mono ?_;rintro e w4 ⟨v4,rfl,ho4,hb4⟩;refine Hid.out ?_);refine xI ?_;have aA:=xI (aN ho4 hb4);clear V ho4 hb4;go_wp2;go_ret;have ab:=HI.out.2.1.size;have hn:nl=varL ms a:=by rw[<-ai.out,List.take_length]
   refine⟨v4,by first|rfl|simp,?_,?_⟩
   ·rw[<-ah.out,<-hn];exact OwnN.mono aA.out.1 (by have:=HU.out.2.size;have:=HT.out.2.2.2.2.2;omega)
   ·have h1:=HT.out.2.2.2.2.1.trans (HU.out.2.mono (by have:=HT.out.2.2.2.2.2;omega));have h2:=h1.trans (HI.out.2.1.mono (by have:=h1.size;omega));exact (h2.trans (aK.out.mono (by have:=h1.size;omega))).trans (aA.out.2.mono (by have:=h1.size;omega))
def varsT (t:Ty):List (List UInt8):=srt (varL (accT t).1 (visR (accT t).1 (accT t).2.toNat))
theorem zE6 {ns:List Tn}{root:Int}{A:Option Addr}{c:Nat}(w:World) (hT:TyP w w.heap.size ns root [vS A ns.length c,vI i6 root]) (hn:ns.length<=1000000) :
  Calls tP 43 #[.agg #[vS A ns.length c,vI i6 root]] w fun e w'=>e=.returned (.bool (decide (((varsT (ns,root)).length:Int)=0)))/\bW w w':=by
 obtain⟨W,hW,hb,kW,_⟩:=aW w (oE A ns.length c root)
 have hc:=zCo W ((hT.on hb).up hb.size) hn;have hv:varsT (ns,root)=srt (varL (accT (ns,root)).1 (visR (accT (ns,root)).1 (accT (ns,root)).2.toNat)):=rfl;rw[<-hv]at hc;generalize varsT (ns,root)=vs at *;obtain⟨q0,q1⟩:=zAf kW;rw[hW]at q0 q1;have HB:=xI hb;clear hT hb kW hv;go_enter func43,ntmps43;go_wp2_with fail;rw[<-hW];clear hW q0 q1;refine hc.mono ?_;rintro e w1 ⟨v,rfl,hO,hb1⟩;obtain⟨Av,cv,rfl⟩:=hO.form;have HC:=xI hb1;clear hO hb1 hc;go_wp2;go_ret;exact⟨by first|rfl|simp,HB.out.trans (HC.out.mono HB.out.size)⟩
theorem zKe {t:Ty}(h:WfT t):zHe t.1 t.2.toNat (varsT t):=by
 unfold varsT;rw[zR4 h];refine⟨(zEu _).imp fun hab=>zDp hab,fun s=>?_⟩;rw[zCd];unfold varL;rw[Cd];constructor
 ·rintro⟨n,hn,rfl⟩;obtain⟨h1,h2⟩:=Dj.1 hn;have h3:=(zBy h n).1 h1;have h4:=h3.2.lt h.wf.edg (by have:=h.rt;omega);have h5:=By h4;refine⟨n.toNat,nd t.1 n,h3.2,?_,by simpa using h2,rfl⟩;rw[nd_at h5];exact h5
 ·rintro⟨i,x,h1,h2,h3,rfl⟩;have hx:nd t.1 (i:Int)=x:=nd_at (by simpa using h2);refine⟨(i:Int),Dj.2 ⟨(zBy h _).2 ⟨by omega,by simpa using h1⟩,by rw[hx];simpa using h3⟩,by rw[hx]⟩
end Go.Proofs.YteedihhdcbepmaaGreat
