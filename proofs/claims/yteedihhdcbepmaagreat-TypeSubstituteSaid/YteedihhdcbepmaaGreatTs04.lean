/- What the document's Sorted returns: the .. -/
import Derived.Test.YteedihhdcbepmaaGreatTsZ
import Derived.Test.YteedihhdcbepmaaGreatTs03
import Derived.RangeFuncNested
import Derived.RangeFuncBound
import Derived.Test.YteedihhdcbepmaaGreatRows
import Derived.Deep.DeepHandedRow
import Derived.Lib.SmallJoins
set_option maxRecDepth 100000
set_option maxHeartbeats 3200000
set_option linter.all false
open Go.Value renaming slice→vS,int→vI,string→vT
open Go.IntKind renaming i64→i6
open Go.Proofs.Tryz
open Go.Proofs.Tryz renaming prog→tP
namespace Go.Proofs.YteedihhdcbepmaaGreat
open Go.RowKit Go.Sort
theorem zBo (A:Option Addr) (n c:Nat) (ss:List Strg) (w:World) (hR:NmS w w.heap.size A n ss) (hn:n<=1000000) :
  Calls tP 86 #[vS A n c] w fun e w'=>∃ A' c',e=.returned (vS A' (srt ss).length c')/\OwnN w' w.heap.size (vS A' (srt ss).length c') (srt ss)/\bW w w':=by
 have HR:=xI hR;clear hR;go_enter func86,ntmps86;go_wp2_with fail
 go_loopw [3,4] (fun v i wr=>∃ (k:Nat) (Ao:Option Addr) (cap:Nat) (out:List Strg),i=vI i6 k/\k<=n/\v=vS Ao out.length cap/\OwnN wr w.heap.size (vS Ao out.length cap) out/\out=srt (ss.take k)/\(out.length=0->Ao=none/\cap=0)/\bW w wr) (fun _ i _=>n-(intOf i).toNat)
 case atStart=>exact⟨0,none,0,[],rfl,by omega,rfl,OwnN.nil _ _,by rw[List.take_zero];exact zNy zOi (fun x=>Iff.rfl),fun _=>⟨rfl,rfl⟩,Bw _ _⟩
 case round=>
  obtain⟨k,Ao,cap,out,rfl,hk,rfl,hO,U,N,hb⟩:=hrel;have J:=xI U;have Y:=xI hO;have L:=hb.size;clear U;by_cases hkn:k<n
  ·obtain⟨bs,b,s,rfl,al,hx,hs,cs⟩:=(HR.out.below hb).at hkn;have HX:=xI hx;have ad:Hid (Short out):=xI (fun x hx=>HR.out.2.1 x (Ey ((zBq _ x).1 (by rw[<-J.out];exact hx))));have ah:out.length<=n:=by
    rw[J.out];exact Ba (zB4 _) (Ba (zBd _ _) (by have:=HR.out.1;omega))
   have V:=xI (hO.rng ad.out);have kn:(k:Int)<(n:Int):=by omega
   have k0:(0:Int)<=(k:Int):=by omega
   clear hx;by_cases he:out.length=0
   ·obtain⟨rfl,rfl⟩:=N he;obtain rfl:out=[]:=Cf he;clear N he hO;go_wp2_with fail
    go_loopw [5] (fun i wq=>i=vI i6 0/\∃ q,wq=wr.drewN q) (fun i _=>0)
    case atStart=>exact⟨rfl,0,rfl⟩
    case round=>
     obtain⟨rfl,q,rfl⟩:=hrel;go_wp2_with fail
     go_quiet (fail)
     go_wp2_with fail
     go_quiet (fail)
     go_wp2_with fail;have Q:Hid (∀ y∈([]:List Strg).take 0,bl y s=true):=xI (by simp);have R:Hid (∀ z,([]:List Strg)[0]?=some z->bl s z=true):=xI (by simp);generalize hw1:wr.drewN _=w1;have E:bW wr w1:=by rw[<-hw1];exact zA0 yR _
     have G:OwnN w1 wr.heap.size (vS none 0 0) ([]++([]:List Strg).take 0):=OwnN.nil _ _;clear hw1;have W:=E.size;have HS:∀ wq,bW wr wq->wq.cell? (aD bs (b+k))=some (vT ⟨s.toArray⟩):=fun wq h=>(h.cell (p:=(aD bs (b+k))) (by show bs<wr.heap.size;omega)).trans cs;have r:bW wr (w1.drew.alloc (.cells #[vT ⟨s.toArray⟩] 9)):=E.drew.alloc (by show wr.heap.size<=w1.heap.size;omega) _;have f:OwnN (w1.drew.alloc (.cells #[vT ⟨s.toArray⟩] 9)) w1.heap.size (vS (some (aH w1 0)) 1 1) [s]:=OwnN.lit w1.drew w1.heap.size lR [s] _ 1 rfl rfl (by unfold maxLen;simp);have a:OwnN (w1.drew.alloc (.cells #[vT ⟨s.toArray⟩] 9)) wr.heap.size (vS none 0 0) ([]++([]:List Strg).take 0):=G.old ((yR.drew).alloc lR _);have B:(([]:List Strg).take 0).length<=0:=zBd _ _;obtain⟨v2,w2,M,u,I⟩:=zAs a (by have:=r.size;omega) (some (aH w1 0)) 1 1 [s] (f.rng (fun x hx=>by rw[Ct.1 hx];exact hs)) (by simp only[Cn];omega) 31;have o:bW wr w2:=r.grown I (by have:=r.size;omega) (fun j hj=>(a.lt j hj).1);obtain⟨v3,w3,t,d,H⟩:=zAs (B':=wr.heap.size) u o.size (none) (0) (0) ([]) (NmS.nil _ _ _) (by simp<;>omega) 31;have D:bW wr w3:=o.grown H o.size (fun j hj=>(u.lt j hj).1);have m:=xI (zHy J.out HX.out Q.out R.out);obtain⟨A3,c3,rfl⟩:=d.form;have l:(([]++([]:List Strg).take 0)++[s])++[]=([]:List Strg).take 0++s::([]:List Strg).drop 0:=by simp
     rw[l]at d t;rw[m.out]at d t;have C:¬ (srt (ss.take (k+1))).length=0:=by rw[<-m.out];simp
     have O:=xI (d.mono L);have P:=xI (hb.trans (D.mono L));generalize hLL:(srt (ss.take (k+1))).length=LL at *;have F:=xI hLL;clear G f a u d I H l B hLL;refine Be (S:=fun wq=>wq.cell? (aD bs (b+k))=some (vT ⟨s.toArray⟩)) (by kernel_rfl) (HS _ E.drew) (fun hHeld=>?_);refine tk 0 hHeld ?_;simp only[pK];refine tk 1 hHeld ?_;simp only[pK];refine tk 2 hHeld ?_;simp only[pK];refine tk 3 hHeld ?_;simp only[pK];refine tk 4 hHeld ?_;simp only[pK];refine tk 7 hHeld ?_;simp only[pK];refine tk 8 hHeld ?_;simp only[pK];refine tk 9 hHeld ?_;simp only[pK];refine oO 5 fun K hK=>?_;go_simp;refine hK _ _ (HS _ r) (oP ?_);refine oO 6 fun K hK=>?_;refine Lib.wp_append_run _ _ _ _ _ rfl _ _ rfl rfl v2 w2 M ?_;refine hK _ _ (HS _ o) (oP ?_);refine oO 10 fun K hK=>?_;refine Lib.wp_append_run _ _ _ _ _ rfl _ _ rfl rfl _ w3 t ?_;refine hK _ _ (HS _ D) (oP ?_);refine oO 11 fun K hK=>?_;go_simp;refine hK _ _ (HS _ D) (oP ?_);refine wD ?_;go_wp2_with fail
     go_roundw
     case rel=>exact⟨k+1,A3,c3,srt (ss.take (k+1)),by go_num,by omega,by rw[F.out],by rw[F.out];exact O.out,rfl,fun h=>absurd (F.out ▸ h) C,P.out⟩
     case measure=>simp[intOf];omega
   ·obtain⟨g,ab,hv,am,aj,ai⟩:=hO.formG (by omega);injection hv with e1 e2 e3;subst e1 e3;clear N hO;go_wp2_with fail
    go_loopw [5] (fun i wq=>∃ p:Nat,i=vI i6 p/\p<=out.length/\(∀ y∈out.take p,bl y s=true)/\∃ q,wq=wr.drewN q) (fun i _=>out.length-(intOf i).toNat)
    case atStart=>exact⟨0,rfl,Bt _,by simp,0,rfl⟩
    case round=>
     obtain⟨p,rfl,hp,X,q,rfl⟩:=hrel;have Q:=xI X;have ag:p<=cap:=by omega
     have ak:¬ cap=0:=by omega
     clear X;by_cases hpl:p<out.length
     ·obtain⟨g',af,y,hA,hg,hy,T,cy⟩:=V.out.at hpl;injection hA with hA;injection hA with e1 e2;subst e1 e2;rw[Dx]at cy;have HY:=xI hy;have pl:(p:Int)<(out.length:Int):=by omega
      have p0:(0:Int)<=(p:Int):=by omega
      have aa:¬ cap=p:=by omega
      clear hy;cases hbl:bl y s
      ·have qb:Op.bytesLess y s=false:=hbl;by_cases T:y=s
       ·subst T;have qs:(y==y)=true:=by simp
        have HT:=xI (zO3 J.out HX.out (Bh HY.out));go_wp2_with fail
        go_quiet (fail)
        go_wp2_with fail
        go_quiet (fail)
        go_wp2_with fail
        go_roundw
        case rel=>exact⟨k+1,_,cap,out,by go_num,by omega,rfl,Y.out,HT.out,fun h=>absurd h he,zA0 hb _⟩
        case measure=>simp[intOf];omega
       ·have qs:(y==s)=false:=by rw[Cm];exact T
        have R:Hid (∀ z,out[p]?=some z->bl s z=true):=xI (fun z hz=>by
         rw[HY.out]at hz;injection hz with hz;rw[<-hz];rcases zK0 s y with h|h|h
         ·exact h
         ·exact absurd h.symm T
         ·rw[hbl]at h;cases h)
        clear hbl T;go_wp2_with fail
        go_quiet (fail)
        go_wp2_with fail
        go_quiet (fail)
        go_wp2_with (at_builtin;(refine zEt rfl _ _ rfl wr.heap.size wr.heap.size (vS none 0 0) [] rfl (OwnN.nil _ _) (some (aD g 0)) p _ (out.take p) rfl ((V.out.take (by omega)).drewN _) (by simp only[Cl];omega) lR ?_);intro v1 w1 G hb1';refine Hid.out ?_);refine xI ?_;have E:bW wr w1:=(zA0 yR _).trans hb1';clear hb1';go_wp2_with fail;have W:=E.size;have HS:∀ wq,bW wr wq->wq.cell? (aD bs (b+k))=some (vT ⟨s.toArray⟩):=fun wq h=>(h.cell (p:=(aD bs (b+k))) (by show bs<wr.heap.size;omega)).trans cs;have r:bW wr (w1.drew.alloc (.cells #[vT ⟨s.toArray⟩] 9)):=E.drew.alloc (by show wr.heap.size<=w1.heap.size;omega) _;have f:OwnN (w1.drew.alloc (.cells #[vT ⟨s.toArray⟩] 9)) w1.heap.size (vS (some (aH w1 0)) 1 1) [s]:=OwnN.lit w1.drew w1.heap.size lR [s] _ 1 rfl rfl (by unfold maxLen;simp);have a:OwnN (w1.drew.alloc (.cells #[vT ⟨s.toArray⟩] 9)) wr.heap.size v1 ([]++out.take p):=G.old ((yR.drew).alloc lR _);have B:(out.take p).length<=out.length:=zBd _ _;obtain⟨v2,w2,M,u,I⟩:=zAs a (by have:=r.size;omega) (some (aH w1 0)) 1 1 [s] (f.rng (fun x hx=>by rw[Ct.1 hx];exact hs)) (by simp only[Cn];omega) 31;have o:bW wr w2:=r.grown I (by have:=r.size;omega) (fun j hj=>(a.lt j hj).1);obtain⟨v3,w3,t,d,H⟩:=zAs (B':=wr.heap.size) u o.size (some (aD g p)) (out.length-p) (cap-p) (out.drop p) (by have:=V.out.drop hpl;rw[Dx]at this;exact this.below o) (by simp<;>omega) 31;have D:bW wr w3:=o.grown H o.size (fun j hj=>(u.lt j hj).1);have m:=xI (zHy J.out HX.out Q.out R.out);obtain⟨A3,c3,rfl⟩:=d.form;have l:(([]++out.take p)++[s])++out.drop p=out.take p++s::out.drop p:=by simp
        rw[l]at d t;rw[m.out]at d t;have C:¬ (srt (ss.take (k+1))).length=0:=by rw[<-m.out];simp
        have O:=xI (d.mono L);have P:=xI (hb.trans (D.mono L));generalize hLL:(srt (ss.take (k+1))).length=LL at *;have F:=xI hLL;clear G f a u d I H l B hLL;refine Be (S:=fun wq=>wq.cell? (aD bs (b+k))=some (vT ⟨s.toArray⟩)) (by kernel_rfl) (HS _ E.drew) (fun hHeld=>?_);refine tk 0 hHeld ?_;simp only[pK];refine tk 1 hHeld ?_;simp only[pK];refine tk 2 hHeld ?_;simp only[pK];refine tk 3 hHeld ?_;simp only[pK];refine tk 4 hHeld ?_;simp only[pK];refine tk 7 hHeld ?_;simp only[pK];refine tk 8 hHeld ?_;simp only[pK];refine tk 9 hHeld ?_;simp only[pK];refine oO 5 fun K hK=>?_;go_simp;refine hK _ _ (HS _ r) (oP ?_);refine oO 6 fun K hK=>?_;refine Lib.wp_append_run _ _ _ _ _ rfl _ _ rfl rfl v2 w2 M ?_;refine hK _ _ (HS _ o) (oP ?_);refine oO 10 fun K hK=>?_;refine Lib.wp_append_run _ _ _ _ _ rfl _ _ rfl rfl _ w3 t ?_;refine hK _ _ (HS _ D) (oP ?_);refine oO 11 fun K hK=>?_;go_simp;refine hK _ _ (HS _ D) (oP ?_);refine wD ?_;go_wp2_with fail
        go_roundw
        case rel=>exact⟨k+1,A3,c3,srt (ss.take (k+1)),by go_num,by omega,by rw[F.out],by rw[F.out];exact O.out,rfl,fun h=>absurd (F.out ▸ h) C,P.out⟩
        case measure=>simp[intOf];omega
      ·have qb:Op.bytesLess y s=true:=hbl;have HT:Hid (∀ z∈out.take (p+1),bl z s=true):=xI (fun z hz=>by
        rw[Cr,HY.out]at hz;rcases B7.1 hz with hz|hz
        ·exact Q.out z hz
        ·obtain rfl:z=y:=by simpa using hz
         exact hbl)
       clear hbl;go_wp2_with fail
       go_quiet (fail)
       go_wp2_with fail
       go_roundw
       case rel=>exact⟨p+1,by go_num,by omega,HT.out,_,by first|rfl|rw[World.drewN_drewN]⟩
       case measure=>simp[intOf];omega
     ·have pl:decide ((p:Int)<(out.length:Int))=false:=by simpa using hpl
      obtain rfl:p=out.length:=by omega
      have R:Hid (∀ z,out[out.length]?=some z->bl s z=true):=xI (fun z hz=>by simp at hz);by_cases aa:cap=out.length
      ·go_wp2_with fail
       go_quiet (fail)
       go_wp2_with fail
       go_quiet (fail)
       go_wp2_with (at_builtin;(refine zEt rfl _ _ rfl wr.heap.size wr.heap.size (vS none 0 0) [] rfl (OwnN.nil _ _) (some (aD g 0)) out.length _ (out.take out.length) rfl ((V.out.take (by omega)).drewN _) (by simp only[Cl];omega) lR ?_);intro v1 w1 G hb1';refine Hid.out ?_);refine xI ?_;have E:bW wr w1:=(zA0 yR _).trans hb1';clear hb1';go_wp2_with fail;have W:=E.size;have HS:∀ wq,bW wr wq->wq.cell? (aD bs (b+k))=some (vT ⟨s.toArray⟩):=fun wq h=>(h.cell (p:=(aD bs (b+k))) (by show bs<wr.heap.size;omega)).trans cs;have r:bW wr (w1.drew.alloc (.cells #[vT ⟨s.toArray⟩] 9)):=E.drew.alloc (by show wr.heap.size<=w1.heap.size;omega) _;have f:OwnN (w1.drew.alloc (.cells #[vT ⟨s.toArray⟩] 9)) w1.heap.size (vS (some (aH w1 0)) 1 1) [s]:=OwnN.lit w1.drew w1.heap.size lR [s] _ 1 rfl rfl (by unfold maxLen;simp);have a:OwnN (w1.drew.alloc (.cells #[vT ⟨s.toArray⟩] 9)) wr.heap.size v1 ([]++out.take out.length):=G.old ((yR.drew).alloc lR _);have B:(out.take out.length).length<=out.length:=zBd _ _;obtain⟨v2,w2,M,u,I⟩:=zAs a (by have:=r.size;omega) (some (aH w1 0)) 1 1 [s] (f.rng (fun x hx=>by rw[Ct.1 hx];exact hs)) (by simp only[Cn];omega) 31;have o:bW wr w2:=r.grown I (by have:=r.size;omega) (fun j hj=>(a.lt j hj).1);obtain⟨v3,w3,t,d,H⟩:=zAs (B':=wr.heap.size) u o.size (some (aD g 0)) (0) (0) ([]) (NmS.nil _ _ _) (by simp<;>omega) 31;have D:bW wr w3:=o.grown H o.size (fun j hj=>(u.lt j hj).1);have m:=xI (zHy J.out HX.out Q.out R.out);obtain⟨A3,c3,rfl⟩:=d.form;have l:(([]++out.take out.length)++[s])++[]=out.take out.length++s::out.drop out.length:=by simp
       rw[l]at d t;rw[m.out]at d t;have C:¬ (srt (ss.take (k+1))).length=0:=by rw[<-m.out];simp
       have O:=xI (d.mono L);have P:=xI (hb.trans (D.mono L));generalize hLL:(srt (ss.take (k+1))).length=LL at *;have F:=xI hLL;clear G f a u d I H l B hLL;refine Be (S:=fun wq=>wq.cell? (aD bs (b+k))=some (vT ⟨s.toArray⟩)) (by kernel_rfl) (HS _ E.drew) (fun hHeld=>?_);refine tk 0 hHeld ?_;simp only[pK];refine tk 1 hHeld ?_;simp only[pK];refine tk 2 hHeld ?_;simp only[pK];refine tk 3 hHeld ?_;simp only[pK];refine tk 4 hHeld ?_;simp only[pK];refine tk 7 hHeld ?_;simp only[pK];refine tk 8 hHeld ?_;simp only[pK];refine tk 9 hHeld ?_;simp only[pK];refine oO 5 fun K hK=>?_;go_simp;refine hK _ _ (HS _ r) (oP ?_);refine oO 6 fun K hK=>?_;refine Lib.wp_append_run _ _ _ _ _ rfl _ _ rfl rfl v2 w2 M ?_;refine hK _ _ (HS _ o) (oP ?_);refine oO 10 fun K hK=>?_;refine Lib.wp_append_run _ _ _ _ _ rfl _ _ rfl rfl _ w3 t ?_;refine hK _ _ (HS _ D) (oP ?_);refine oO 11 fun K hK=>?_;go_simp;refine hK _ _ (HS _ D) (oP ?_);refine wD ?_;go_wp2_with fail
       go_roundw
       case rel=>exact⟨k+1,A3,c3,srt (ss.take (k+1)),by go_num,by omega,by rw[F.out],by rw[F.out];exact O.out,rfl,fun h=>absurd (F.out ▸ h) C,P.out⟩
       case measure=>simp[intOf];omega
      ·go_wp2_with fail
       go_quiet (fail)
       go_wp2_with fail
       go_quiet (fail)
       go_wp2_with (at_builtin;(refine zEt rfl _ _ rfl wr.heap.size wr.heap.size (vS none 0 0) [] rfl (OwnN.nil _ _) (some (aD g 0)) out.length _ (out.take out.length) rfl ((V.out.take (by omega)).drewN _) (by simp only[Cl];omega) lR ?_);intro v1 w1 G hb1';refine Hid.out ?_);refine xI ?_;have E:bW wr w1:=(zA0 yR _).trans hb1';clear hb1';go_wp2_with fail;have W:=E.size;have HS:∀ wq,bW wr wq->wq.cell? (aD bs (b+k))=some (vT ⟨s.toArray⟩):=fun wq h=>(h.cell (p:=(aD bs (b+k))) (by show bs<wr.heap.size;omega)).trans cs;have r:bW wr (w1.drew.alloc (.cells #[vT ⟨s.toArray⟩] 9)):=E.drew.alloc (by show wr.heap.size<=w1.heap.size;omega) _;have f:OwnN (w1.drew.alloc (.cells #[vT ⟨s.toArray⟩] 9)) w1.heap.size (vS (some (aH w1 0)) 1 1) [s]:=OwnN.lit w1.drew w1.heap.size lR [s] _ 1 rfl rfl (by unfold maxLen;simp);have a:OwnN (w1.drew.alloc (.cells #[vT ⟨s.toArray⟩] 9)) wr.heap.size v1 ([]++out.take out.length):=G.old ((yR.drew).alloc lR _);have B:(out.take out.length).length<=out.length:=zBd _ _;obtain⟨v2,w2,M,u,I⟩:=zAs a (by have:=r.size;omega) (some (aH w1 0)) 1 1 [s] (f.rng (fun x hx=>by rw[Ct.1 hx];exact hs)) (by simp only[Cn];omega) 31;have o:bW wr w2:=r.grown I (by have:=r.size;omega) (fun j hj=>(a.lt j hj).1);obtain⟨v3,w3,t,d,H⟩:=zAs (B':=wr.heap.size) u o.size (some (aD g out.length)) (0) (cap-out.length) ([]) (NmS.nil _ _ _) (by simp<;>omega) 31;have D:bW wr w3:=o.grown H o.size (fun j hj=>(u.lt j hj).1);have m:=xI (zHy J.out HX.out Q.out R.out);obtain⟨A3,c3,rfl⟩:=d.form;have l:(([]++out.take out.length)++[s])++[]=out.take out.length++s::out.drop out.length:=by simp
       rw[l]at d t;rw[m.out]at d t;have C:¬ (srt (ss.take (k+1))).length=0:=by rw[<-m.out];simp
       have O:=xI (d.mono L);have P:=xI (hb.trans (D.mono L));generalize hLL:(srt (ss.take (k+1))).length=LL at *;have F:=xI hLL;clear G f a u d I H l B hLL;refine Be (S:=fun wq=>wq.cell? (aD bs (b+k))=some (vT ⟨s.toArray⟩)) (by kernel_rfl) (HS _ E.drew) (fun hHeld=>?_);refine tk 0 hHeld ?_;simp only[pK];refine tk 1 hHeld ?_;simp only[pK];refine tk 2 hHeld ?_;simp only[pK];refine tk 3 hHeld ?_;simp only[pK];refine tk 4 hHeld ?_;simp only[pK];refine tk 7 hHeld ?_;simp only[pK];refine tk 8 hHeld ?_;simp only[pK];refine tk 9 hHeld ?_;simp only[pK];refine oO 5 fun K hK=>?_;go_simp;refine hK _ _ (HS _ r) (oP ?_);refine oO 6 fun K hK=>?_;refine Lib.wp_append_run _ _ _ _ _ rfl _ _ rfl rfl v2 w2 M ?_;refine hK _ _ (HS _ o) (oP ?_);refine oO 10 fun K hK=>?_;refine Lib.wp_append_run _ _ _ _ _ rfl _ _ rfl rfl _ w3 t ?_;refine hK _ _ (HS _ D) (oP ?_);refine oO 11 fun K hK=>?_;go_simp;refine hK _ _ (HS _ D) (oP ?_);refine wD ?_;go_wp2_with fail
       go_roundw
       case rel=>exact⟨k+1,A3,c3,srt (ss.take (k+1)),by go_num,by omega,by rw[F.out],by rw[F.out];exact O.out,rfl,fun h=>absurd (F.out ▸ h) C,P.out⟩
       case measure=>simp[intOf];omega
  ·have Z:Hid (ss.take k=ss):=xI (B8 (by have:=HR.out.1;omega));rw[Z.out]at J;have ae:=xI (show out=srt ss from J.out);go_wp2;go_ret;have h1:=ae.out;subst h1;exact⟨_,_,rfl,Y.out,hb⟩
open Go
def AtomN (s:List UInt8):Prop:=s=[97]\/s=[98]\/s=[111,107]\/s=[101,114,114,111,114]
theorem zCm (h p:Nat) (w:World) (hS:SrcOk h p w):Calls tP 127 #[.pointer (some (aD p 0))] w fun e w'=>(∃ s:List UInt8,e=.returned (vT ⟨s.toArray⟩)/\AtomN s)/\SrcOk h p w'/\Eff p w w':=by
 have b:=hS.lt;have a:bW w (w.alloc (.cells #[vT { data:=#[97] },vT { data:=#[98] },vT { data:=#[111,107] },vT { data:=#[101,114,114,111,114] }] 9)):=yR.alloc lR _;have hc:=zAh h p 4 _ (hS.below a) (by omega) (by omega);have k0:=Bl w (.cells #[vT { data:=#[97] },vT { data:=#[98] },vT { data:=#[111,107] },vT { data:=#[101,114,114,111,114] }] 9);have c:=Eff.of_below a (Du b);go_enter func127,ntmps127;go_wp2_with fail;refine hc.mono ?_;rintro e w1 ⟨j,rfl,j0,j1,hS1,hE⟩;have k1:w1.heap[w.heap.size]?=some (.cells #[vT { data:=#[97] },vT { data:=#[98] },vT { data:=#[111,107] },vT { data:=#[101,114,114,111,114] }] 9 (0,0)):=(hE.other _ (by omega) (by simp)).trans k0;have HF:=xI (aN hS1 (c.trans hE));clear hc hE hS1 a c k0 hS b;have hj:j=0\/j=1\/j=2\/j=3:=by omega
 have c0:w1.cell? (aH w 0)=some (vT { data:=#[97] }):=cH k1 0;have c1:w1.cell? (aH w 1)=some (vT { data:=#[98] }):=cH k1 1;have c2:w1.cell? (aH w 2)=some (vT { data:=#[111,107] }):=cH k1 2;have c3:w1.cell? (aH w 3)=some (vT { data:=#[101,114,114,111,114] }):=cH k1 3;clear k1;rcases hj with rfl|rfl|rfl|rfl
 ·go_wp2;go_ret;exact⟨⟨[97],rfl,by unfold AtomN;simp⟩,HF.out⟩
 ·go_wp2;go_ret;exact⟨⟨[98],rfl,by unfold AtomN;simp⟩,HF.out⟩
 ·go_wp2;go_ret;exact⟨⟨[111,107],rfl,by unfold AtomN;simp⟩,HF.out⟩
 ·go_wp2;go_ret;exact⟨⟨[101,114,114,111,114],rfl,by unfold AtomN;simp⟩,HF.out⟩
def WordN (s:List UInt8):Prop:=s=[]\/s=[115]\/s=[120,32,121]\/s=[97]
theorem zFa (h p:Nat) (w:World) (hS:SrcOk h p w):Calls tP 128 #[.pointer (some (aD p 0))] w fun e w'=>(∃ s:List UInt8,e=.returned (vT ⟨s.toArray⟩)/\WordN s)/\SrcOk h p w'/\Eff p w w':=by
 have b:=hS.lt;have a:bW w (w.alloc (.cells #[vT { data:=#[] },vT { data:=#[115] },vT { data:=#[120,32,121] },vT { data:=#[97] }] 9)):=yR.alloc lR _;have hc:=zAh h p 4 _ (hS.below a) (by omega) (by omega);have k0:=Bl w (.cells #[vT { data:=#[] },vT { data:=#[115] },vT { data:=#[120,32,121] },vT { data:=#[97] }] 9);have c:=Eff.of_below a (Du b);go_enter func128,ntmps128;go_wp2_with fail;refine hc.mono ?_;rintro e w1 ⟨j,rfl,j0,j1,hS1,hE⟩;have k1:w1.heap[w.heap.size]?=some (.cells #[vT { data:=#[] },vT { data:=#[115] },vT { data:=#[120,32,121] },vT { data:=#[97] }] 9 (0,0)):=(hE.other _ (by omega) (by simp)).trans k0;have HF:=xI (aN hS1 (c.trans hE));clear hc hE hS1 a c k0 hS b;have hj:j=0\/j=1\/j=2\/j=3:=by omega
 have c0:w1.cell? (aH w 0)=some (vT { data:=#[] }):=cH k1 0;have c1:w1.cell? (aH w 1)=some (vT { data:=#[115] }):=cH k1 1;have c2:w1.cell? (aH w 2)=some (vT { data:=#[120,32,121] }):=cH k1 2;have c3:w1.cell? (aH w 3)=some (vT { data:=#[97] }):=cH k1 3;clear k1;rcases hj with rfl|rfl|rfl|rfl
 ·go_wp2;go_ret;exact⟨⟨[],rfl,by unfold WordN;simp⟩,HF.out⟩
 ·go_wp2;go_ret;exact⟨⟨[115],rfl,by unfold WordN;simp⟩,HF.out⟩
 ·go_wp2;go_ret;exact⟨⟨[120,32,121],rfl,by unfold WordN;simp⟩,HF.out⟩
 ·go_wp2;go_ret;exact⟨⟨[97],rfl,by unfold WordN;simp⟩,HF.out⟩
def LabN (s:List UInt8):Prop:=s=[65]\/s=[66]\/s=[67]
theorem zF2 (h p:Nat) (w:World) (hS:SrcOk h p w):Calls tP 100 #[.pointer (some (aD p 0))] w fun e w'=>(∃ s:List UInt8,e=.returned (vT ⟨s.toArray⟩)/\LabN s)/\SrcOk h p w'/\Eff p w w':=by
 have b:=hS.lt;have a:bW w (w.alloc (.cells #[vT { data:=#[65] },vT { data:=#[66] },vT { data:=#[67] }] 9)):=yR.alloc lR _;have hc:=zAh h p 3 _ (hS.below a) (by omega) (by omega);have k0:=Bl w (.cells #[vT { data:=#[65] },vT { data:=#[66] },vT { data:=#[67] }] 9);have c:=Eff.of_below a (Du b);go_enter func100,ntmps100;go_wp2_with fail;refine hc.mono ?_;rintro e w1 ⟨j,rfl,j0,j1,hS1,hE⟩;have k1:w1.heap[w.heap.size]?=some (.cells #[vT { data:=#[65] },vT { data:=#[66] },vT { data:=#[67] }] 9 (0,0)):=(hE.other _ (by omega) (by simp)).trans k0;have HF:=xI (aN hS1 (c.trans hE));clear hc hE hS1 a c k0 hS b;have hj:j=0\/j=1\/j=2:=by omega
 have c0:w1.cell? (aH w 0)=some (vT { data:=#[65] }):=cH k1 0;have c1:w1.cell? (aH w 1)=some (vT { data:=#[66] }):=cH k1 1;have c2:w1.cell? (aH w 2)=some (vT { data:=#[67] }):=cH k1 2;clear k1;rcases hj with rfl|rfl|rfl
 ·go_wp2;go_ret;exact⟨⟨[65],rfl,by unfold LabN;simp⟩,HF.out⟩
 ·go_wp2;go_ret;exact⟨⟨[66],rfl,by unfold LabN;simp⟩,HF.out⟩
 ·go_wp2;go_ret;exact⟨⟨[67],rfl,by unfold LabN;simp⟩,HF.out⟩
def NumN (x:Int):Prop:=(Lit.int .i64 x).wf=true
theorem zLg (h p:Nat) (w:World) (hS:SrcOk h p w):Calls tP 137 #[.pointer (some (aD p 0))] w fun e w'=>(∃ x:Int,e=.returned (vI i6 x)/\NumN x)/\SrcOk h p w'/\Eff p w w':=by
 have b:=hS.lt;have a:bW w (w.alloc (.cells #[vI i6 (0),vI i6 (1),vI i6 (-1),vI i6 (2),vI i6 (3),vI i6 (-2),vI i6 (7),vI i6 (-9223372036854775808),vI i6 (9223372036854775807),vI i6 (10)] 2)):=yR.alloc lR _;have hc:=zAh h p 10 _ (hS.below a) (by omega) (by omega);have k0:=Bl w (.cells #[vI i6 (0),vI i6 (1),vI i6 (-1),vI i6 (2),vI i6 (3),vI i6 (-2),vI i6 (7),vI i6 (-9223372036854775808),vI i6 (9223372036854775807),vI i6 (10)] 2);have c:=Eff.of_below a (Du b);go_enter func137,ntmps137;go_wp2_with fail;refine hc.mono ?_;rintro e w1 ⟨j,rfl,j0,j1,hS1,hE⟩;have k1:w1.heap[w.heap.size]?=some (.cells #[vI i6 (0),vI i6 (1),vI i6 (-1),vI i6 (2),vI i6 (3),vI i6 (-2),vI i6 (7),vI i6 (-9223372036854775808),vI i6 (9223372036854775807),vI i6 (10)] 2 (0,0)):=(hE.other _ (by omega) (by simp)).trans k0;have HF:=xI (aN hS1 (c.trans hE));clear hc hE hS1 a c k0 hS b;have hj:j=0\/j=1\/j=2\/j=3\/j=4\/j=5\/j=6\/j=7\/j=8\/j=9:=by omega
 have c0:w1.cell? (aH w 0)=some (vI i6 (0)):=cH k1 0;have c1:w1.cell? (aH w 1)=some (vI i6 (1)):=cH k1 1;have c2:w1.cell? (aH w 2)=some (vI i6 (-1)):=cH k1 2;have c3:w1.cell? (aH w 3)=some (vI i6 (2)):=cH k1 3;have c4:w1.cell? (aH w 4)=some (vI i6 (3)):=cH k1 4;have c5:w1.cell? (aH w 5)=some (vI i6 (-2)):=cH k1 5;have c6:w1.cell? (aH w 6)=some (vI i6 (7)):=cH k1 6;have c7:w1.cell? (aH w 7)=some (vI i6 (-9223372036854775808)):=cH k1 7;have c8:w1.cell? (aH w 8)=some (vI i6 (9223372036854775807)):=cH k1 8;have c9:w1.cell? (aH w 9)=some (vI i6 (10)):=cH k1 9;clear k1;rcases hj with rfl|rfl|rfl|rfl|rfl|rfl|rfl|rfl|rfl|rfl
 ·go_wp2;go_ret;exact⟨⟨(0),rfl,by unfold NumN;decide⟩,HF.out⟩
 ·go_wp2;go_ret;exact⟨⟨(1),rfl,by unfold NumN;decide⟩,HF.out⟩
 ·go_wp2;go_ret;exact⟨⟨(-1),rfl,by unfold NumN;decide⟩,HF.out⟩
 ·go_wp2;go_ret;exact⟨⟨(2),rfl,by unfold NumN;decide⟩,HF.out⟩
 ·go_wp2;go_ret;exact⟨⟨(3),rfl,by unfold NumN;decide⟩,HF.out⟩
 ·go_wp2;go_ret;exact⟨⟨(-2),rfl,by unfold NumN;decide⟩,HF.out⟩
 ·go_wp2;go_ret;exact⟨⟨(7),rfl,by unfold NumN;decide⟩,HF.out⟩
 ·go_wp2;go_ret;exact⟨⟨(-9223372036854775808),rfl,by unfold NumN;decide⟩,HF.out⟩
 ·go_wp2;go_ret;exact⟨⟨(9223372036854775807),rfl,by unfold NumN;decide⟩,HF.out⟩
 ·go_wp2;go_ret;exact⟨⟨(10),rfl,by unfold NumN;decide⟩,HF.out⟩
def intV (n:Int):Vl:=.mk 1 n [] [] [] [] []
def nilV:Vl:=.mk 5 0 [] [] [] [] []
def consV (a b:Vl):Vl:=.mk 7 0 [] [a,b] [] [] []
def tupV (l:List Vl):Vl:=.mk 6 0 [] l [] [] []
theorem zBv (w:World) (B:Nat->Prop) (c:Nat) (R:Nat->List Value->Prop):RowB w B c (vS none 0 0) 0 R:=⟨none,0,rfl,⟨Bt _,Bc _⟩,fun h=>absurd h (by omega)⟩
theorem nilVB (k:Nat) (V:World) (B:Nat->Prop):VB (k+1) V B nilV [vI i6 5,vI i6 0,vT ⟨#[]⟩,vS none 0 0,vS none 0 0,vS none 0 0,vS none 0 0]:=
 ⟨_,_,_,_,rfl,by decide,by decide,Bt _,zBv _ _ _ _,zBv _ _ _ _,zBv _ _ _ _,zBv _ _ _ _⟩
open Go.Shelf
attribute [local go_sem] Oper.semAt_some
def listV (l:List Vl):Vl:=l.foldr consV nilV
def zA9 (P:Program) (md:Region.Mode) (ops:Array Oper) (Q:Exit->Act->World->Prop) (q:Nat) (R S:World->Prop):Nat->Array Bool->Act->World->Prop
 | 0,listed,a,w=>Region.ready md ops listed=[]/\Q .normal a w
 | fuel+1,listed,a,w=>(Region.ready md ops listed=[]->Q .normal a w)/\∀ i∈Region.ready md ops listed,wpOp P ops Q i (fun a' w'=>(R w'/\((listed.setIfInBounds i true).getD q true=false->S w'))/\zA9 P md ops Q q R S fuel (listed.setIfInBounds i true) a' w') a w
section
variable {P:Program}{ops:Array Oper}{Q:Exit->Act->World->Prop}{md:Region.Mode}{R S T:World->Prop}{q:Nat}
theorem zGq:∀ (fuel:Nat) (listed:Array Bool) (a:Act) (w:World),zA9 P md ops Q q R S fuel listed a w->wpAny P md ops Q fuel listed a w
 | 0,_,_,_,h=>h
 | fuel+1,_,_,_,h=>⟨h.1,fun i hi=>wpOp_mono (fun a' w' h'=>zGq fuel _ a' w' h'.2) (h.2 i hi)⟩
theorem zCj {l:Array Bool}{i k:Nat}(h:i≠k):(l.setIfInBounds i true).getD k true=l.getD k true:=getD_set_ne true h
theorem zC6 {i:Nat}{oi:Oper}{v:Value}(hi:ops[i]?=some oi) (hsel:∀ (j:Nat) (o:Oper) cs b,ops[j]?=some o->o.op≠.select cs b)
  (hQ:∀ c a w,Q (.panic c) (a.put oi.dst v) w->Q (.panic c) a w) (hqi:i≠q) (hT:(∀ w,R w->T w)\/((∀ w,S w->T w)/\∀ oj,ops[q]?=some oj->∃ e∈oj.after,Region.binds md e=true/\e.on=i)) :
  ∀ (fuel:Nat) (listed:Array Bool) (a:Act) (w:World),
   (∀ j oj,ops[j]?=some oj->j≠i->listed.getD j true=false->(∀ e∈oj.after,Region.binds md e=true->e.on≠i)->oi.apart ops oj=true) ->
   i∈Region.ready md ops listed->YieldsIf P ops T oi v a->T w->R w->(listed.getD q true=false->S w)->((∀ w,R w->T w)\/listed.getD q true=false) ->
   zA9 P md ops Q q R S fuel (listed.setIfInBounds i true) (a.put oi.dst v) w->zA9 P md ops Q q R S (fuel+1) listed a w:=by
 intro fuel
 induction fuel with
 | zero=>
  intro listed a w _ hr hy hTw hR hS _ H;refine⟨fun h=>(by rw[h]at hr;cases hr),fun j hj=>?_⟩;by_cases hji:j=i
  ·subst hji;exact hy.wpOp hi hTw ⟨⟨hR,fun h=>hS (by rwa [zCj hqi]at h)⟩,H⟩
  ·have:=ready_mono hj hji;rw[H.1]at this;cases this
 | succ fuel ih=>
  intro listed a w hfree hr hy hTw hR hS hq0 H;refine⟨fun h=>(by rw[h]at hr;cases hr),fun j hj=>?_⟩;by_cases hji:j=i
  ·subst hji;exact hy.wpOp hi hTw ⟨⟨hR,fun h=>hS (by rwa [zCj hqi]at h)⟩,H⟩
  ·have h1:=H.2 j (ready_mono hj hji);obtain⟨g,oj,l,p⟩:=mem_ready.1 hj;have f:∀ e∈oj.after,Region.binds md e=true->e.on≠i:=fun e he hb n=>by
    have h1:=p e he hb;have h0:=(mem_ready.1 hr).1;rw[n]at h1;rcases Nat.lt_or_ge i listed.size with h'|h'
    ·simp[h']at h0 h1;rw[h0]at h1;cases h1
    ·simp[Array.getElem?_eq_none h']at h1
   have h2:=wpOp_putIf l (hfree j oj l hji g f) (fun cs b=>hsel i oi cs b hi) (fun cs b=>hsel j oj cs b l) hQ hy h1;have d:∀ k ok,ops[k]?=some ok->k≠i->(listed.setIfInBounds j true).getD k true=false ->
     (∀ e∈ok.after,Region.binds md e=true->e.on≠i)->oi.apart ops ok=true:=fun k ok hk hki hun hno=>by
    refine hfree k ok hk hki ?_ hno;by_cases hjk:j=k
    ·subst hjk;exact g
    ·rw[getD_set_ne true hjk]at hun;exact hun
   have s:(∀ w,R w->T w)\/j≠q:=by
    rcases hT with h|⟨_,h⟩
    ·exact .inl h
    ·right;rintro rfl;obtain⟨e,he,hb,n⟩:=h oj l;exact f e he hb n
   refine wpOp_mono (fun a' w' h3=>?_) h2;have m:(listed.setIfInBounds j true).getD q true=false->S w':=fun h=>h3.2.1.2 (by rw[Array.setIfInBounds_comm _ _ (Ne.symm hji),zCj hqi];exact h);have r:(∀ w,R w->T w)\/(listed.setIfInBounds j true).getD q true=false:=by
    rcases s with h|h
    ·exact .inl h
    ·rcases hq0 with h0|h0
     ·exact .inl h0
     ·right;rw[zCj h];exact h0
   have t:T w':=by
    rcases r with h|h
    ·exact h w' h3.2.1.1
    ·rcases hT with h'|h'
     ·exact h' w' h3.2.1.1
     ·exact h'.1 w' (m h)
   refine⟨⟨h3.2.1.1,m⟩,ih (listed.setIfInBounds j true) a' w' d (ready_mono hr (Ne.symm hji)) h3.1 t h3.2.1.1 m r ?_⟩;rw[Array.setIfInBounds_comm _ _ hji];exact h3.2.2
end
def waits (md:Region.Mode) (l:List Oper) (q i:Nat):Bool:=match nthOp l q with
 | some o=>o.after.toList.any fun e=>Region.binds md e&&e.on==i
 | none=>false
theorem uk {P:Program}{md:Region.Mode}{l:List Oper}{Q:Exit->Act->World->Prop}{R S:World->Prop}{q:Nat}(i:Nat){oi:Oper}{v:Value}{fuel:Nat}{listed:Array Bool}{a:Act}{w:World}(hS:R w/\S w)
  (h:zA9 P md l.toArray Q q R S fuel (listed.setIfInBounds i true) (a.put oi.dst v) w)
  (hi:nthOp l i=some oi:=by exact rfl) (hs:Region.noSelect l.toArray=true:=by kernel_rfl) (hf:Region.free md l.toArray listed i=true:=by kernel_rfl) (hr:(Region.ready md l.toArray listed).contains i=true:=by kernel_rfl) (hwt:waits md l q i=true:=by kernel_rfl) (hql:listed.getD q true=false:=by kernel_rfl) (hqi:i≠q:=by decide)
  (hQ:∀ c a w,Q (.panic c) (a.put oi.dst v) w->Q (.panic c) a w:=by exact fun _ _ _ h=>h) (hy:YieldsIf P l.toArray S oi v a:=by exact Or.inl ⟨by rfl,(by intro w hSw;(try dsimp only at hSw);go_simp;try with_reducible rfl)⟩):zA9 P md l.toArray Q q R S (fuel+1) listed a w:=by
 refine zC6 (T:=S) (op_at hi) (Region.noSelect_spec hs) hQ hqi (.inr ⟨fun _ h=>h,fun oj hj=>?_⟩) fuel listed a w (Region.free_spec (op_at hi) hf) (by simpa using hr) hy hS.2 hS.1 (fun _=>hS.2) (.inr hql) h;unfold waits at hwt;rw[List.getElem?_toArray,zHs]at hj;rw[hj]at hwt;simp only[List.any_eq_true,Cy,beq_iff_eq]at hwt;obtain⟨e,he,hb,b⟩:=hwt;exact⟨e,by simpa using he,hb,b⟩
theorem um {P:Program}{md:Region.Mode}{l:List Oper}{Q:Exit->Act->World->Prop}{R S:World->Prop}{q:Nat}(i:Nat){oi:Oper}{v:Value}{fuel:Nat}{listed:Array Bool}{a:Act}{w:World}(hS:R w/\S w)
  (h:zA9 P md l.toArray Q q R S fuel (listed.setIfInBounds i true) (a.put oi.dst v) w)
  (hi:nthOp l i=some oi:=by exact rfl) (hs:Region.noSelect l.toArray=true:=by kernel_rfl) (hf:Region.free md l.toArray listed i=true:=by kernel_rfl) (hr:(Region.ready md l.toArray listed).contains i=true:=by kernel_rfl) (hqi:i≠q:=by decide)
  (hQ:∀ c a w,Q (.panic c) (a.put oi.dst v) w->Q (.panic c) a w:=by exact fun _ _ _ h=>h) (hy:YieldsIf P l.toArray R oi v a:=by exact Or.inl ⟨by rfl,(by intro w hSw;(try dsimp only at hSw);go_simp;try with_reducible rfl)⟩):zA9 P md l.toArray Q q R S (fuel+1) listed a w:=
 zC6 (T:=R) (op_at hi) (Region.noSelect_spec hs) hQ hqi (.inl fun _ h=>h) fuel listed a w (Region.free_spec (op_at hi) hf) (by simpa using hr) hy hS.1 hS.1 (fun _=>hS.2) (.inl fun _ h=>h) h
theorem un {P:Program}{md:Region.Mode}{l:List Oper}{Q:Exit->Act->World->Prop}{R S:World->Prop}{q:Nat}(i:Nat){oi:Oper}{v:Value}{fuel:Nat}{listed:Array Bool}{a:Act}{w:World}(hR:R w)
  (h:zA9 P md l.toArray Q q R S fuel (listed.setIfInBounds i true) (a.put oi.dst v) w)
  (hi:nthOp l i=some oi:=by exact rfl) (hs:Region.noSelect l.toArray=true:=by kernel_rfl) (hf:Region.free md l.toArray listed i=true:=by kernel_rfl) (hr:(Region.ready md l.toArray listed).contains i=true:=by kernel_rfl) (hqi:i≠q:=by decide) (hql:listed.getD q true=true:=by kernel_rfl)
  (hQ:∀ c a w,Q (.panic c) (a.put oi.dst v) w->Q (.panic c) a w:=by exact fun _ _ _ h=>h) (hy:YieldsIf P l.toArray R oi v a:=by exact Or.inl ⟨by rfl,(by intro w hSw;(try dsimp only at hSw);go_simp;try with_reducible rfl)⟩):zA9 P md l.toArray Q q R S (fuel+1) listed a w:=
 zC6 (T:=R) (op_at hi) (Region.noSelect_spec hs) hQ hqi (.inl fun _ h=>h) fuel listed a w (Region.free_spec (op_at hi) hf) (by simpa using hr) hy hR hR (fun h'=>by rw[hql]at h';exact absurd h' (by decide)) (.inl fun _ h=>h) h
theorem oK {P:Program}{md:Region.Mode}{l:List Oper}{Q:Exit->Act->World->Prop}{R S:World->Prop}{q:Nat}(i:Nat){oi:Oper}{v:Value}{fuel:Nat}{listed:Array Bool}{a a':Act}{w:World}(hS:R w/\S w) (h:zA9 P md l.toArray Q q R S fuel (listed.setIfInBounds i true) a' w) (hi:nthOp l i=some oi:=by exact rfl) (hs:Region.noSelect l.toArray=true:=by kernel_rfl) (hf:Region.free md l.toArray listed i=true:=by kernel_rfl) (hr:(Region.ready md l.toArray listed).contains i=true:=by kernel_rfl) (hwt:waits md l q i=true:=by kernel_rfl) (hql:listed.getD q true=false:=by kernel_rfl) (hqi:i≠q:=by decide) (hQ:∀ c a w,Q (.panic c) (a.put oi.dst v) w->Q (.panic c) a w:=by exact fun _ _ _ h=>h) (hy:YieldsIf P l.toArray S oi v a:=by exact Or.inl ⟨by rfl,(by intro w hSw;(try dsimp only at hSw);go_simp;try with_reducible rfl)⟩) (hp:a.put oi.dst v=a':=by (try simp only[pK]);try exact rfl):zA9 P md l.toArray Q q R S (fuel+1) listed a w:=by
 subst hp;exact uk i hS h hi hs hf hr hwt hql hqi hQ hy
theorem oM {P:Program}{md:Region.Mode}{l:List Oper}{Q:Exit->Act->World->Prop}{R S:World->Prop}{q:Nat}(i:Nat){oi:Oper}{v:Value}{fuel:Nat}{listed:Array Bool}{a a':Act}{w:World}(hS:R w/\S w) (h:zA9 P md l.toArray Q q R S fuel (listed.setIfInBounds i true) a' w) (hi:nthOp l i=some oi:=by exact rfl) (hs:Region.noSelect l.toArray=true:=by kernel_rfl) (hf:Region.free md l.toArray listed i=true:=by kernel_rfl) (hr:(Region.ready md l.toArray listed).contains i=true:=by kernel_rfl) (hqi:i≠q:=by decide) (hQ:∀ c a w,Q (.panic c) (a.put oi.dst v) w->Q (.panic c) a w:=by exact fun _ _ _ h=>h) (hy:YieldsIf P l.toArray R oi v a:=by exact Or.inl ⟨by rfl,(by intro w hSw;(try dsimp only at hSw);go_simp;try with_reducible rfl)⟩) (hp:a.put oi.dst v=a':=by (try simp only[pK]);try exact rfl):zA9 P md l.toArray Q q R S (fuel+1) listed a w:=by
 subst hp;exact um i hS h hi hs hf hr hqi hQ hy
theorem oN {P:Program}{md:Region.Mode}{l:List Oper}{Q:Exit->Act->World->Prop}{R S:World->Prop}{q:Nat}(i:Nat){oi:Oper}{v:Value}{fuel:Nat}{listed:Array Bool}{a a':Act}{w:World}(hR:R w) (h:zA9 P md l.toArray Q q R S fuel (listed.setIfInBounds i true) a' w) (hi:nthOp l i=some oi:=by exact rfl) (hs:Region.noSelect l.toArray=true:=by kernel_rfl) (hf:Region.free md l.toArray listed i=true:=by kernel_rfl) (hr:(Region.ready md l.toArray listed).contains i=true:=by kernel_rfl) (hqi:i≠q:=by decide) (hql:listed.getD q true=true:=by kernel_rfl) (hQ:∀ c a w,Q (.panic c) (a.put oi.dst v) w->Q (.panic c) a w:=by exact fun _ _ _ h=>h) (hy:YieldsIf P l.toArray R oi v a:=by exact Or.inl ⟨by rfl,(by intro w hSw;(try dsimp only at hSw);go_simp;try with_reducible rfl)⟩) (hp:a.put oi.dst v=a':=by (try simp only[pK]);try exact rfl):zA9 P md l.toArray Q q R S (fuel+1) listed a w:=by
 subst hp;exact un i hR h hi hs hf hr hqi hql hQ hy
theorem oQ {P:Program}{md:Region.Mode}{ops:Array Oper}{Q:Exit->Act->World->Prop}{q:Nat}{R S:World->Prop}{fuel:Nat}{listed:Array Bool}{a a':Act}{w:World}(h:zA9 P md ops Q q R S fuel listed a' w) (hp:a=a':=by (try simp only[pK]);try exact rfl):zA9 P md ops Q q R S fuel listed a w:=by
 subst hp;exact h
theorem ug {l:Array Bool}{q:Nat}{X:Prop}(h:l.getD q true=true:=by kernel_rfl):l.getD q true=false->X:=fun h'=>by rw[h]at h';exact absurd h' (by decide)
theorem uo {P:Program}{md:Region.Mode}{l:List Oper}{Q:Exit->Act->World->Prop}{R S:World->Prop}{q:Nat}(i:Nat){o:Oper}{fuel:Nat}{listed:Array Bool}{a:Act}{w:World}(h:∀ K':Act->World->Prop,(∀ a' w',R w'/\((listed.setIfInBounds i true).getD q true=false->S w')->zA9 P md l.toArray Q q R S fuel (listed.setIfInBounds i true) a' w'->K' a' w')->Oper.wp P o a w K' Q)
  (hr:Region.ready md l.toArray listed=[i]:=by kernel_rfl) (ho:nthOp l i=some o:=by exact rfl) (hw:Region.wanted o (yielded l.toArray a.tmps)=true:=by rfl):zA9 P md l.toArray Q q R S (fuel+1) listed a w:=by
 refine⟨fun h0=>absurd (hr ▸ h0) (by simp),?_⟩;rw[hr];intro j hj;obtain rfl:j=i:=by simpa using hj
 exact zAi ho hw fun K' hK=>h K' fun a w hS hW=>hK a w ⟨hS,hW⟩
theorem ua {P:Program}{md:Region.Mode}{l:List Oper}{Q:Exit->Act->World->Prop}{R S:World->Prop}{q:Nat}(rs:List Nat){fuel:Nat}{listed:Array Bool}{a:Act}{w:World}(h:∀ i∈rs,wpOp P l.toArray Q i (fun a' w'=>(R w'/\((listed.setIfInBounds i true).getD q true=false->S w'))/\zA9 P md l.toArray Q q R S fuel (listed.setIfInBounds i true) a' w') a w)
  (hr:Region.ready md l.toArray listed=rs:=by kernel_rfl) (hne:rs≠[]:=by decide):zA9 P md l.toArray Q q R S (fuel+1) listed a w:=
 ⟨fun h0=>absurd (hr ▸ h0) hne,by rw[hr];exact h⟩
theorem ud {P:Program}{md:Region.Mode}{ops:Array Oper}{Q:Exit->Act->World->Prop}{R S:World->Prop}{q:Nat}{listed:Array Bool}{a:Act}{w:World}(h:Q .normal a w) (hr:Region.ready md ops listed=[]:=by kernel_rfl):∀ fuel,zA9 P md ops Q q R S fuel listed a w
 | 0=>⟨hr,h⟩
 | _+1=>⟨fun _=>h,by rw[hr];simp⟩
theorem ub {P:Program}{ops:Array Oper}{Q:Exit->Act->World->Prop}{id:Nat}{a:Act}{w:World}(q:Nat) (R S:World->Prop) (h:zA9 P .any ops Q q R S ops.size (Array.replicate ops.size false) a w.drew) (hm:P.follows .mixedOrders=true:=by kernel_rfl):(Code.region id ops true).wp P Q a w:=
 wp_region_any hm (zGq (q:=q) (R:=R) (S:=S) _ _ _ _ h)
theorem zNi {k:Nat}{w:World}{B:Nat->Prop}{v:Vl}{cs:List Value}(h:VB k w B v cs):cs[0]?=some (vI i6 (zAn v)):=by
 cases k with
 | zero=>exact h.elim
 | succ k=>
  obtain⟨kd,it,tx,b,c,d,a⟩:=v;obtain⟨uk,uy,ue,ul,rfl,_⟩:=h;rfl
open Go.WideShapes Go.Deep
theorem zJe (b off q:Nat):((aD b off):Addr).add q=(aD b (off+q)):=by cases q<;>rfl
section
variable {H:Type}{enc:TypeId×Value->H}{P:Program}{w:World}{spare:Nat->Bool}{held:Bool}
theorem zPd {n c:Nat}{t e:TypeId}{u:Value}{y:DataW H×List MemPlace}{α:Type}(R:α->List Value->Prop) (ht:P.underlying t=some (.slice e)) (hc:P.cellsOf e=c) (hpos:0<c)
  (h:DataW.trod enc P w 0 spare held n t [u]=some y) (hR:∀ m cs z,m<n->DataW.trod enc P w 0 spare held m e cs=some z->∃ x:α,R x cs) :
  ∃ l:List α,RowP w w.heap.size c u l.length (fun j cs=>∃ x,l[j]?=some x/\R x cs):=by
 rcases DataW.trod_slice ht h with⟨h0,_⟩|⟨a,len,cap,o,rest,m,rfl,hu,_,hb,hl,hm,r,s,_⟩
 ·simp only[Bb,and_true]at h0;subst h0;exact⟨[],none,0,rfl,⟨Bt _,Bc _⟩,fun hn=>absurd hn (by simp)⟩
 ·simp only[Bb,and_true]at hu;subst hu;have d:∀ i:Fin len,∃ x:α,∃ cs:List Value,cs.length=c/\(∀ q,q<c->w.cell? ((a.add (i.1*c)).add q)=cs[q]?)/\R x cs:=by
   intro i;have h1:=s i.1 i.2;rw[By (by omega),hc]at h1;obtain⟨cs,h2,h3⟩:=Option.bind_eq_some_iff.1 h1;obtain⟨_,h4,h5⟩:=World.cells?_some h2;obtain⟨x,hx⟩:=hR m cs _ (by omega) h3;exact⟨x,cs,h4,h5,hx⟩
  refine⟨List.ofFn fun i=>Classical.choose (d i),some a,cap,by simp,⟨by simp;omega,by simp;omega⟩,fun hn=>?_⟩;rw[List.length_ofFn]at hn;obtain⟨b,p,k⟩:=a;obtain⟨v,k1,k2,_⟩:=Classical.choose_spec (d ⟨0,hn⟩);have g:=k2 0 hpos;rw[By (by omega)]at g;have f:k=none:=by simpa [Addr.add] using World.cell?_spot g
  subst f;refine⟨b,p,rfl,?_,?_,fun j hj=>?_⟩
  ·simpa [Addr.add] using World.block_lt_of_cell? _ _ g
  ·simpa [Addr.add] using World.block_lt_of_cell? _ _ g
  ·rw[List.length_ofFn]at hj;obtain⟨cs,k3,k4,k5⟩:=Classical.choose_spec (d ⟨j,hj⟩);refine⟨cs,k3,fun i hi=>?_,_,by rw[List.getElem?_ofFn,dif_pos hj],k5⟩;have:=k4 i hi;rw[zJe,zJe]at this;rw[<-this]
end
open Go.ChangeShapes Go.ChangeAt Go.Joins
theorem own:ownKnob tP.godebug=none:=by kernel_rfl
theorem zHx:laidOutB tP=true:=by kernel_rfl
theorem zRm {H:Type}{enc:TypeId×Value->H}{W:World}{fuel:Nat}{u:Value}{x:DataW H×List MemPlace}(hf:DataW.trod enc tP W 0 (fun _=>true) true fuel 25 [u]=some x) :
  ∃ A n c,u=vS A n c/\RowP W W.heap.size 1 (vS A n c) n (fun _ cs=>∃ x,cs=[vI i6 x]/\(Lit.int .i64 x).wf=true):=by
 obtain⟨l,hl⟩:=zPd (α:=Int) (fun x cs=>cs=[vI i6 x]/\(Lit.int .i64 x).wf=true) underlying25 (show tP.cellsOf 3=1 by kernel_rfl) (by omega) hf (fun m cs z _ hz=>by
  obtain⟨i,e,_,wi⟩:=DataW.trod_int underlying3 hz;exact⟨i,e,wi⟩)
 obtain⟨A,c,hu,_⟩:=hl.form;subst hu;exact⟨A,l.length,c,rfl,RowB.sub hl (fun _ h=>h) (fun _ _ ⟨x,_,hx⟩=>⟨x,hx⟩)⟩
theorem zC8 {H:Type}{enc:TypeId×Value->H}{W:World}{A:Option Addr}{n c:Nat}{d:DataW H}{p:List MemPlace}(h:DataW.Trod enc tP W 0 (fun _=>true) true 25 (vS A n c) d p) :
  RowP W W.heap.size 1 (vS A n c) n (fun _ cs=>∃ x,cs=[vI i6 x]/\(Lit.int .i64 x).wf=true):=by
 obtain⟨a,hf⟩:=h;have b:DataW.trod enc tP W 0 (fun _=>true) true a 25 [vS A n c]=some (d,p):=hf;obtain⟨A',n',c',hu,hR⟩:=zRm b;injection hu with e1 e2 e3;subst e1 e2 e3;exact hR
theorem zSh (s:ByteArray):∃ x:List UInt8,s=⟨x.toArray⟩:=⟨s.data.toList,by rw[Array.toArray_toList]⟩
end Go.Proofs.YteedihhdcbepmaaGreat
