/- The program's connect, Union and Intersect. -/
import Derived.Test.YteedihhdcbepmaaGreatTwZ
import Derived.Test.YteedihhdcbepmaaGreatTw16
import Derived.Test.YteedihhdcbepmaaGreatTwShelfR
import Derived.Shelf.SlSortCmp.NoneTotal
set_option maxRecDepth 100000
set_option maxHeartbeats 12800000
set_option linter.all false
open Go.Value renaming slice→vS,int→vI,string→vT
open Go.IntKind renaming i64→i6
open Go.Proofs.Tryz
open Go.Proofs.Tryz renaming prog→tP
namespace Go.Proofs.YteedihhdcbepmaaGreat
open Go Go.RowKit
def conT (kind:Int) (o:Ty) (l:List Ty):Ty:=match l with
 | []=>o
 | [t]=>pruT t
 | l=>compT kind (l.map accT)
theorem TyOut.up {H H':Nat}{w:World}{t:Ty}{e:Ending}{w':World}(h:TyOut H w t e w') (hH:H<=H'):TyOut H' w t e w':=by
 obtain⟨⟨A,c,h1,h2⟩,h3⟩:=h;exact⟨⟨A,c,h1,h2.sub fun b hb=>Bo.up hH hb⟩,h3⟩
def TyOZ (H Z:Nat) (w:World) (t:Ty) (e:Ending) (w':World):Prop:=(∃ A c,e=.returned (.agg #[vS A t.1.length c,vI i6 t.2])/\TyB w' (fun b=>(b<H\/Z<=b)/\b<w'.heap.size) t.1 t.2 [vS A t.1.length c,vI i6 t.2])/\bW w w'
theorem TyOut.oz {H Z:Nat}{w V:World}{ns:List Tn}{r:Int}{cs:List Value}(h:TyB V (Bo H w V) ns r cs) (hw:w.heap.size<=V.heap.size) (hZ:Z<=w.heap.size) (hH:H<=w.heap.size):TyB V (fun b=>(b<H\/Z<=b)/\b<V.heap.size) ns r cs:=h.sub fun b hb=>by
 rcases hb with h|h
 ·exact⟨.inl h,by omega⟩
 ·exact⟨.inr (by omega),h.2⟩
theorem zJ3 {l:List Ty}{Al Ao:Option Addr}{cl co H Z:Nat}(kind:Int) (o:Ty) (w:World) (hH:H<=w.heap.size) (hZ:Z<=w.heap.size) (ho:TyB w (fun b=>(b<0\/Z<=b)/\b<w.heap.size) o.1 o.2 [vS Ao o.1.length co,vI i6 o.2]) (hl:RowB w (fun b=>b<w.heap.size) 2 (vS Al l.length cl) l.length (tyR w (fun b=>b<H) l)) (hs:∀ t∈l,SmT 1000000 t) (hn:l.length<=50) (hkd:i64B kind) :
  Calls tP 77 #[vI i6 kind,.agg #[vS Ao o.1.length co,vI i6 o.2],vS Al l.length cl] w (TyOZ 0 Z w (conT kind o l)):=by
 obtain⟨W,hW⟩:∃ W,W=(w.alloc (oE Ao o.1.length co o.2)).alloc (oE none 0 0 0):=⟨_,rfl⟩;have hb:bW w W:=by rw[hW];exact (yR.alloc lR _).alloc (by simp) _
 have k0:W.heap[w.heap.size]?=some (oE Ao o.1.length co o.2):=by rw[hW,Bm _ _ _ (by simp)];exact Bj w _
 have kR:W.heap[w.heap.size+1]?=some (oE none 0 0 0):=by rw[hW];exact zAg _ (by simp)
 have d:W.heap.size=w.heap.size+2:=by rw[hW];simp
 have g:True:=trivial;have a:RowB W (fun b=>b<W.heap.size) 2 (vS Al l.length cl) l.length (tyR W (fun b=>b<H) l):=(tyR.keep hl (Same.of_below hb fun b hb=>hb) fun b hb=>by omega).sub (fun b hb=>by omega) fun _ _ h=>h
 match l,hs,hn,a with
 | [],hs,hn,a=>
  obtain⟨e0,e1⟩:=zAf k0;obtain⟨r0,r1⟩:=zAf kR;have f0:=Bz kR 0;have f1:=Bz kR 1;rw[hW]at e0 e1 r0 r1 f0 f1;have HP:=xI (aN ho hb);have HW:=xI hW;clear g hb kR d hl a hs hn k0 ho;simp only[Ck];clear hW;go_enter func77,ntmps77;go_wp2_with fail;obtain⟨V,hV⟩:∃ V,V=(w.alloc (oE Ao o.1.length co o.2)).alloc (oE Ao o.1.length co o.2):=⟨_,rfl⟩;rw[<-hV];have i:bW w V:=by rw[hV];exact (yR.alloc lR _).alloc (by simp) _
  have kV:V.heap[w.heap.size+1]?=some (oE Ao o.1.length co o.2):=by rw[hV];exact zAg _ (by simp)
  exact ret2 kV rfl rfl rfl ⟨⟨_,_,rfl,(HP.out.1.keep (Same.of_below i fun b hb=>hb.2)).sub fun b h=>⟨h.1,by have:=i.size;have:=h.2;omega⟩⟩,i⟩
 | [t],hs,hn,a=>
  obtain⟨bl,ol,n,A,c,hu,e0,e1,k⟩:=tyR.at a (j:=0) rfl;injection hu with hA hq1 hq2;clear hq1;subst hA hq2;simp only[Nat.zero_mul,Dr]at e0 e1;have hc:=zMy W (by omega) k (hs t (by simp));have p:=hs t (by simp);rw[hW]at e0 e1;clear g hl a k k0 ho;simp only[Ci,Ck,Du];go_enter func77,ntmps77;go_wp2_with fail;rw[<-hW];clear hW e0 e1;refine hc.mono ?_;clear hc;rintro e w2 ⟨⟨A2,c2,rfl,hT2⟩,hb2⟩;have kz:=(hb2.block (w.heap.size+1) (by omega)).trans kR;have f0:=Bz kz 0;have f1:=Bz kz 1;have c0:=cH kz 0;have c1:=cH kz 1;have HB:=xI (aN hT2 (aN hb2 (aN hb d)));clear hT2 hb2 d hb;go_wp2;exact ret2s kz rfl rfl rfl fun V hz hbb hl=>⟨⟨_,_,rfl,TyOut.oz (H:=0) (w:=w) (V:=V) (TyOut.put HB.out.1 (by have:=HB.out;omega) (by have:=HB.out;omega) (by have:=HB.out;omega) hz hbb) (by have h1:=HB.out;have h2:=h1.2.1.size;omega) hZ (Bl _)⟩,(HB.out.2.2.1.trans (HB.out.2.1.mono (by have:=HB.out;omega))).trans (hl _ (by omega))⟩
 | t1::t2::l,hs,hn,a=>
  have hc:=zJ4 kind W (by omega) a hs hn hkd;have r:¬ (((t1::t2::l).length:Nat):Int)=0:=by simp;omega
  have q:¬ (((t1::t2::l).length:Nat):Int)=1:=by simp;omega
  have f:conT kind o (t1::t2::l)=compT kind ((t1::t2::l).map accT):=rfl;rw[f];clear g hl a k0 ho f hs hn;generalize compT kind ((t1::t2::l).map accT)=res at *;generalize (t1::t2::l).length=m at *;go_enter func77,ntmps77;go_wp2_with fail;rw[<-hW];clear hW;refine hc.mono ?_;clear hc;rintro e w2 ⟨⟨A2,c2,rfl,hT2⟩,hb2⟩;have kz:=(hb2.block (w.heap.size+1) (by omega)).trans kR;have f0:=Bz kz 0;have f1:=Bz kz 1;have c0:=cH kz 0;have c1:=cH kz 1;have HB:=xI (aN hT2 (aN hb2 (aN hb d)));clear hT2 hb2 d hb;go_wp2;exact ret2s kz rfl rfl rfl fun V hz hbb hl=>⟨⟨_,_,rfl,TyOut.oz (H:=0) (w:=w) (V:=V) (TyOut.put HB.out.1 (by have:=HB.out;omega) (by have:=HB.out;omega) (by have:=HB.out;omega) hz hbb) (by have h1:=HB.out;have h2:=h1.2.1.size;omega) hZ (Bl _)⟩,(HB.out.2.2.1.trans (HB.out.2.1.mono (by have:=HB.out;omega))).trans (hl _ (by omega))⟩
theorem zMk {l:List Ty}{Al:Option Addr}{cl H:Nat}(w:World) (hH:H<=w.heap.size) (hl:RowB w (fun b=>b<w.heap.size) 2 (vS Al l.length cl) l.length (tyR w (fun b=>b<H) l)) (hs:∀ t∈l,SmT 1000000 t) (hn:l.length<=50) :
  Calls tP 33 #[vS Al l.length cl] w (TyOut 0 w (conT 16 noneT l)):=by
 obtain⟨W,hW,hb,kR,c⟩:=aW w (oE none 0 0 0)
 have hc:=zKl W;have HP:=xI (aN hl (aN hs (aN hn (aN hb kR))));clear hl hs hn hb kR;go_enter func33,ntmps33;go_wp2_with fail;rw[<-hW];clear hW;refine hc.mono ?_;rintro e w1 ⟨⟨Ao,co,rfl,hTo⟩,hb1⟩;clear hc;have a:bW w w1:=HP.out.2.2.2.1.trans (hb1.mono (by omega));have hc:=zJ3 (H:=H) (Z:=w.heap.size+1) 16 noneT w1 (by have:=a.size;omega) (by have:=hb1.size;omega) (hTo.sub fun b hb=>by
  rcases hb with h|h
  ·omega
  ·exact⟨.inr (by omega),h.2⟩) ((tyR.keep HP.out.1 (Same.of_below a fun b hb=>hb) fun b hb=>by omega).sub (fun b hb=>by have:=a.size;omega) fun _ _ h=>h) HP.out.2.1 HP.out.2.2.1 (by decide)
 have HB:=xI (aN a (aN hb1 c));clear hTo a hb1 c;go_wp2_with fail;refine hc.mono ?_;clear hc;rintro e w2 ⟨⟨A2,c2,rfl,hT2⟩,hb2⟩;have kz:=(hb2.block w.heap.size (by have:=HB.out.2.1.size;have:=HB.out.2.2;omega)).trans ((HB.out.2.1.block w.heap.size (by have:=HB.out.2.2;omega)).trans HP.out.2.2.2.2);have f0:=Bz kz 0;have f1:=Bz kz 1;have c0:=cH kz 0;have c1:=cH kz 1;have HC:=xI (aN hT2 hb2);clear hT2 hb2;go_wp2;refine ret2s kz rfl rfl rfl fun V hz hbb hl=>⟨⟨_,_,rfl,?_⟩,(HB.out.1.trans (HC.out.2.mono HB.out.1.size)).trans (hl _ lR)⟩;refine (HC.out.1.keep (w':=V) ⟨by omega,fun b i hb2 _=>Bf (hbb b (by rcases hb2.1 with h|h<;>omega))⟩).sub fun b hb2=>?_;rcases hb2.1 with h|h
 ·exact .inl h
 ·exact .inr ⟨by omega,by have:=hb2.2;omega⟩
end Go.Proofs.YteedihhdcbepmaaGreat
namespace Go.Proofs.YteedihhdcbepmaaGreat.Iv
abbrev Rg:=Int×Int
def LO:Int:=-9223372036854775808
def HI:Int:=9223372036854775807
def inR (r:Rg) (n:Int):Prop:=r.1<=n/\n<=r.2
def hasI (l:List Rg) (n:Int):Prop:=∃ r∈l,inR r n
def Fit1 (r:Rg):Prop:=LO<=r.1/\r.1<=HI/\LO<=r.2/\r.2<=HI
def Fit (l:List Rg):Prop:=∀ r∈l,Fit1 r
def Nf (l:List Rg):Prop:=(∀ r∈l,r.1<=r.2)/\l.Pairwise (fun a b=>a.2+1<b.1)
theorem zKq (n:Int):¬ hasI [] n:=by simp[hasI]
theorem zAz (r:Rg) (l:List Rg) (n:Int):hasI (r::l) n↔inR r n\/hasI l n:=by simp[hasI]
theorem zJw (a b:List Rg) (n:Int):hasI (a++b) n↔hasI a n\/hasI b n:=by
 simp only[hasI,B8];constructor
 ·rintro⟨r,h|h,hr⟩
  ·exact .inl ⟨r,h,hr⟩
  ·exact .inr ⟨r,h,hr⟩
 ·rintro (⟨r,h,hr⟩|⟨r,h,hr⟩)
  ·exact⟨r,.inl h,hr⟩
  ·exact⟨r,.inr h,hr⟩
theorem zSa:Nf []:=⟨by simp,.nil⟩
theorem zD2 {r:Rg}{l:List Rg}:Nf (r::l)↔r.1<=r.2/\(∀ x∈l,r.2+1<x.1)/\Nf l:=by
 simp only[Nf,Ct,Dq];constructor
 ·rintro⟨h1,h2,h3⟩;exact⟨h1 r (.inl rfl),h2,fun x hx=>h1 x (.inr hx),h3⟩
 ·rintro⟨h1,h2,h3,h4⟩;refine⟨?_,h2,h4⟩;rintro x (rfl|hx)
  ·exact h1
  ·exact h3 x hx
theorem zDi {r:Rg}{l:List Rg}(h:Nf (r::l)){n:Int}(hn:hasI l n):r.2+1<n:=by
 obtain⟨x,hx,h1,h2⟩:=hn;have:=(zD2.1 h).2.1 x hx;omega
theorem zIx:∀ (a b:List Rg),Nf a->Nf b->(∀ n,hasI a n↔hasI b n)->a=b
 | [],[],_,_,_=>rfl
 | [],r::b,_,hb,h=>by
  have h1:=(zD2.1 hb).1;exact absurd ((h r.1).2 ((zAz _ _ _).2 (.inl ⟨Int.le_refl _,h1⟩))) (zKq _)
 | r::a,[],ha,_,h=>by
  have h1:=(zD2.1 ha).1;exact absurd ((h r.1).1 ((zAz _ _ _).2 (.inl ⟨Int.le_refl _,h1⟩))) (zKq _)
 | r::a,s::b,ha,hb,h=>by
  have ra:=(zD2.1 ha).1;have sb:=(zD2.1 hb).1;have e1:r.1=s.1:=by
   have p:s.1<=r.1:=by
    rcases (zAz _ _ _).1 ((h r.1).1 ((zAz _ _ _).2 (.inl ⟨Int.le_refl _,ra⟩)))with hx|hx
    ·exact hx.1
    ·have:=zDi hb hx;omega
   have q:r.1<=s.1:=by
    rcases (zAz _ _ _).1 ((h s.1).2 ((zAz _ _ _).2 (.inl ⟨Int.le_refl _,sb⟩)))with hx|hx
    ·exact hx.1
    ·have:=zDi ha hx;omega
   omega
  have e2:r.2=s.2:=by
   by_cases hlt:r.2<s.2
   ·have:hasI (r::a) (r.2+1):=(h _).2 ((zAz _ _ _).2 (.inl ⟨by omega,by omega⟩));rcases (zAz _ _ _).1 this with hx|hx
    ·have:=hx.2;omega
    ·have:=zDi ha hx;omega
   ·by_cases hgt:s.2<r.2
    ·have:hasI (s::b) (s.2+1):=(h _).1 ((zAz _ _ _).2 (.inl ⟨by omega,by omega⟩));rcases (zAz _ _ _).1 this with hx|hx
     ·have:=hx.2;omega
     ·have:=zDi hb hx;omega
    ·omega
  have e:r=s:=Prod.ext e1 e2;subst e;congr 1;refine zIx a b (zD2.1 ha).2.2 (zD2.1 hb).2.2 fun n=>?_;constructor
  ·intro hn;have h1:=zDi ha hn;rcases (zAz _ _ _).1 ((h n).1 ((zAz _ _ _).2 (.inr hn)))with hx|hx
   ·have:=hx.2;omega
   ·exact hx
  ·intro hn;have h1:=zDi hb hn;rcases (zAz _ _ _).1 ((h n).2 ((zAz _ _ _).2 (.inr hn)))with hx|hx
   ·have:=hx.2;omega
   ·exact hx
open Classical in
noncomputable def nfOf (P:Int->Prop):List Rg:=if h:∃ m,Nf m/\∀ n,hasI m n↔P n then h.choose else []
theorem zRi {m:List Rg}{P:Int->Prop}(h1:Nf m) (h2:∀ n,hasI m n↔P n):m=nfOf P:=by
 have h:∃ m,Nf m/\∀ n,hasI m n↔P n:=⟨m,h1,h2⟩;unfold nfOf;rw[dif_pos h];exact zIx _ _ h1 h.choose_spec.1 fun n=>(h2 n).trans (h.choose_spec.2 n).symm
theorem zM6 {m:List Rg}{r:Rg}(h:Nf m) (hr:r.1<=r.2) (hg:∀ x∈m,x.2+1<r.1):Nf (m++[r]):=by
 refine⟨?_,?_⟩
 ·intro x hx;rcases B8.1 hx with hx|hx
  ·exact h.1 x hx
  ·rw[Cq.1 hx];exact hr
 ·rw[List.pairwise_append];refine⟨h.2,by simp,?_⟩;intro x hx y hy;rw[Cq.1 hy];exact hg x hx
theorem zF1 {m:List Rg}{r:Rg}(h:Nf (m++[r])):Nf m/\r.1<=r.2/\∀ x∈m,x.2+1<r.1:=by
 have h2:=List.pairwise_append.1 h.2;exact⟨⟨fun x hx=>h.1 x (List.mem_append_left _ hx),h2.1⟩,h.1 r (by simp),fun x hx=>h2.2.2 x hx r (by simp)⟩
theorem zEh (m:List Rg) (r:Rg) (n:Int):hasI (m++[r]) n↔hasI m n\/inR r n:=by
 rw[zJw];simp[hasI]
theorem zPd {m:List Rg}{x r:Rg}(h:Nf (m++[x])) (h1:x.1<=r.1) (h2:r.1<=x.2+1) (h3:r.1<=r.2) :
  Nf (m++[(x.1,max x.2 r.2)])/\∀ n,hasI (m++[(x.1,max x.2 r.2)]) n↔hasI (m++[x]) n\/inR r n:=by
 obtain⟨a,b,c⟩:=zF1 h;refine⟨zM6 a (by simp only;omega) c,fun n=>?_⟩;rw[zEh,zEh];simp only[inR];constructor
 ·rintro (q|q)
  ·exact .inl (.inl q)
  ·by_cases hn:n<=x.2
   ·exact .inl (.inr ⟨q.1,hn⟩)
   ·exact .inr ⟨by omega,by omega⟩
 ·rintro ((q|q)|q)
  ·exact .inl q
  ·exact .inr ⟨q.1,by omega⟩
  ·exact .inr ⟨by omega,by omega⟩
instance (l:List Rg):Decidable (Nf l):=by unfold Nf;infer_instance
end Go.Proofs.YteedihhdcbepmaaGreat.Iv
namespace Go.Proofs.YteedihhdcbepmaaGreat.Iv
open Go.RowKit
theorem zAb {a b:Bool}(h:a=b):Ending.returned (.bool a)=.returned (.bool b):=by rw[h]
theorem zMw {k:IntKind}{a b:Int}(h:a=b):Ending.returned (.int k a)=.returned (.int k b):=by rw[h]
theorem Tryz.infoR:(tP.info? 83).map (fun i=>(i.zero,i.size,i.bytes))=some (some (.agg #[vI i6 0,vI i6 0]),2,16):=by kernel_rfl
def zCj (r:Rg):List Value:=[vI i6 r.1,vI i6 r.2]
def flatR (l:List Rg):List Value:=l.flatMap zCj
theorem zI3 (a b:List Rg):flatR (a++b)=flatR a++flatR b:=by simp[flatR]
theorem zAx (r:Rg) (b:List Rg):flatR (r::b)=vI i6 r.1::vI i6 r.2::flatR b:=by simp[flatR,zCj]
theorem zAn:∀ (l:List Rg),(flatR l).length=l.length*2
 | []=>rfl
 | r::l=>by rw[zAx];simp[zAn l];omega
theorem zEk:∀ (l:List Rg),∀ u∈flatR l,u.oneCell'=true
 | [],u,h=>by simp[flatR]at h
 | r::l,u,h=>by
  rw[zAx]at h;rcases Ct.1 h with rfl|h
  ·rfl
  ·rcases Ct.1 h with rfl|h
   ·rfl
   ·exact zEk l u h
theorem zC2:∀ (l:List Rg) (j:Nat) (r:Rg),l[j]?=some r->(flatR l)[j*2]?=some (vI i6 r.1)
 | [],j,r,h=>by simp at h
 | x::l,0,r,h=>by simp at h;subst h;rw[zAx];rfl
 | x::l,j+1,r,h=>by
  rw[zAx,show (j+1)*2=j*2+1+1 by omega,D4,D4];exact zC2 l j r (by simpa using h)
theorem zDo:∀ (l:List Rg) (j:Nat) (r:Rg),l[j]?=some r->(flatR l)[j*2+1]?=some (vI i6 r.2)
 | [],j,r,h=>by simp at h
 | x::l,0,r,h=>by simp at h;subst h;rw[zAx];rfl
 | x::l,j+1,r,h=>by
  rw[zAx,show (j+1)*2+1=(j*2+1)+1+1 by omega,D4,D4];exact zDo l j r (by simpa using h)
def RngS (w:World) (B:Nat) (A:Option Addr) (n:Nat) (rs:List Rg):Prop:=
 n=rs.length/\Fit rs/\(0<n->∃ b off,A=some (aD b off)/\b<B/\∀ j r,rs[j]?=some r->w.cell? (aD b (off+j*2))=some (vI i6 r.1)/\w.cell? (aD b (off+j*2+1))=some (vI i6 r.2))
theorem RngS.below {w w':World}{B:Nat}{A:Option Addr}{n:Nat}{rs:List Rg}(h:RngS w B A n rs) (hb:Below B w w'):RngS w' B A n rs:=
 ⟨h.1,h.2.1,fun hn=>by
  obtain⟨b,a,hA,c,hc⟩:=h.2.2 hn;exact⟨b,a,hA,c,fun j k hk=>⟨(hb.cell (p:=(aD b (a+j*2))) c).trans (hc j k hk).1,(hb.cell (p:=(aD b (a+j*2+1))) c).trans (hc j k hk).2⟩⟩⟩
theorem RngS.mono {w:World}{B B':Nat}{A:Option Addr}{n:Nat}{rs:List Rg}(h:RngS w B A n rs) (hB:B<=B'):RngS w B' A n rs:=
 ⟨h.1,h.2.1,fun hn=>by
  obtain⟨b,a,hA,c,hc⟩:=h.2.2 hn;exact⟨b,a,hA,by omega,hc⟩⟩
theorem RngS.nil (w:World) (B:Nat) (A:Option Addr):RngS w B A 0 []:=⟨rfl,by simp[Fit],fun h=>by omega⟩
theorem RngS.kept {w w':World}{B:Nat}{A:Option Addr}{n:Nat}{rs:List Rg}(h:RngS w B A n rs) (hb:Below B w w') (hB:B<=w'.heap.size):RngS w' w'.heap.size A n rs:=(h.below hb).mono hB
theorem RngS.at {w:World}{B:Nat}{A:Option Addr}{n:Nat}{rs:List Rg}(h:RngS w B A n rs){k:Nat}(hk:k<n) :
  ∃ b off r1 r2,A=some (aD b off)/\b<B/\rs[k]?=some (r1,r2)/\Fit1 (r1,r2)/\w.cell? (aD b (off+k*2))=some (vI i6 r1)/\w.cell? (aD b (off+k*2+1))=some (vI i6 r2):=by
 obtain⟨b,off,hA,hb,hc⟩:=h.2.2 (by omega);have hx:rs[k]?=some (rs[k]'(by have:=h.1;omega)):=By _;have:=hc k _ hx;exact⟨b,off,_,_,hA,hb,hx,h.2.1 _ (Bh hx),this.1,this.2⟩
def OwnR (w:World) (B:Nat) (v:Value) (rs:List Rg):Prop:=w.ownsRow B 83 2 v rs.length (flatR rs)
theorem OwnR.nil (w:World) (B:Nat):OwnR w B (vS none 0 0) []:=World.ownsRow_nil _ _ _ _
theorem OwnR.form {w:World}{B:Nat}{v:Value}{rs:List Rg}(h:OwnR w B v rs):∃ A c,v=vS A rs.length c:=by
 rcases h.2 with⟨rfl,h0⟩|⟨g,cap,a,rfl,_⟩
 ·rw[h0];exact⟨_,_,rfl⟩
 ·exact⟨_,_,rfl⟩
theorem OwnR.rng {w:World}{B:Nat}{A:Option Addr}{n c:Nat}{rs:List Rg}(h:OwnR w B (vS A n c) rs) (hf:Fit rs):RngS w w.heap.size A n rs:=by
 have hl:=h.lt;have d:∀ g,(vS A n c).ownBlock=some g->∀ j u,(flatR rs)[j]?=some u->w.cell? (((aD g 0):Addr).add j)=some u:=fun g hg=>World.ownsRow.cells h hg;rcases h.2 with⟨hv,h0⟩|⟨g,cap,l,hv,hB,hg,f,k,i,e⟩
 ·injection hv with e1 e2 e3;subst e1 e2;exact⟨h0.symm,hf,fun h=>by omega⟩
 ·injection hv with e1 e2 e3;subst e1 e2;refine⟨rfl,hf,fun _=>⟨g,0,rfl,(hl g rfl).2,fun j r hj=>?_⟩⟩;have az:∀ q:Nat,((aD g 0):Addr).add q=(aD g (0+q)):=by
   intro q;unfold Addr.add;rcases C7 q with h|h
   ·subst h;simp
   ·simp[Nat.ne_of_gt h]
  have a:=d g rfl (j*2) _ (zC2 rs j r hj);have b:=d g rfl (j*2+1) _ (zDo rs j r hj);rw[az]at a b;exact⟨a,by rw[Ex];exact b⟩
theorem OwnR.old {w w':World}{B:Nat}{v:Value}{rs:List Rg}(h:OwnR w B v rs) (hb:bW w w'):OwnR w' B v rs:=by
 have hl:=h.lt;refine⟨h.1,?_⟩;rcases h.2 with hn|⟨g,cap,cur,rfl,hB,hg,rest⟩
 ·exact .inl hn
 ·exact .inr ⟨g,cap,cur,rfl,hB,by rw[hb.block g (hl g rfl).2];exact hg,rest⟩
theorem OwnR.drewN {w:World}{B:Nat}{v:Value}{rs:List Rg}(h:OwnR w B v rs) (n:Nat):OwnR (w.drewN n) B v rs:=h
theorem zA5 {B:Nat}{a w:World}(h:Below B a w) (n:Nat):Below B a (w.drewN n):=⟨h.os,h.tape,h.output,h.size,h.block⟩
theorem OwnR.mono {w:World}{B B':Nat}{v:Value}{rs:List Rg}(h:OwnR w B v rs) (hB:B'<=B):OwnR w B' v rs:=by
 refine⟨h.1,?_⟩;rcases h.2 with hn|⟨g,cap,cur,hv,hg,rest⟩
 ·exact .inl hn
 ·exact .inr ⟨g,cap,cur,hv,by omega,rest⟩
theorem OwnR.below {w0 w1:World}{B:Nat}{v:Value}{rs:List Rg}{o:Obj}(h:OwnR w0 B v rs) (hb:B<=w0.heap.size) (hg:(w0.alloc o).grownBy w1 v.ownBlock):Below B w0 w1:=
 ((Bv B w0).alloc hb o).grown hg (by simp;omega) (fun j hj=>(h.lt j hj).1)
theorem OwnR.lit (w:World) (B:Nat) (hB:B<=w.heap.size) (rs:List Rg) (cells:Array Value) (n:Nat) (hn:rs.length=n) (hc:cells.toList=flatR rs) (hl:rs.length<=maxLen) :
  OwnR (w.alloc (.cells cells 83)) B (vS (some (aD w.heap.size 0)) n n) rs:=by
 subst hn;have a:cells.size=rs.length*2:=by rw[<-Array.length_toList,hc,zAn]
 exact⟨zAn rs,.inr ⟨w.heap.size,rs.length,cells,rfl,hB,Bj w _,B7 _,hl,a,by rw[hc];rw[Cx];rw[zAn];exact B7 _⟩⟩
theorem zOl {ops:Array Oper}{rest:List Oper}{o:Oper}{a:Act}{Q:Exit->Act->World->Prop}{w0:World}(hgd:o.guard=none) (s x:Operand)
  (ho:o.op=.call { callee:=.builtin .append,args:=#[s,x],argTypes:=#[44,44] }) (B:Nat) (v:Value) (l:List Rg) (hs:a.eval s=v) (hown:OwnR w0 B v l)
  (l':List Rg) (m c:Nat) (hm:l'.length=m) (cells:Array Value) (hc:cells.toList=flatR l') (hx:a.eval x=vS (some (aD w0.heap.size 0)) m c)
  (hbytes:l.length+m<=1000000000) (hbase:B<=w0.heap.size)
  (h:∀ v' w',OwnR w' B v' (l++l')->Below B w0 w'->wpList tP ops Q rest (a.put o.dst v') w') :
  wpList tP ops Q (o::rest) a (w0.alloc (.cells cells 83)):=by
 obtain⟨i0,hi,e,d,b⟩:=Co Tryz.infoR;subst hm;refine wpList_append_own _ hgd s x 44 ho B 83 i0 (.agg #[vI i6 0,vI i6 0]) 2 16 underlying44 hi e d b rfl (by decide) v l.length (flatR l) hs (World.ownsRow.alloc hown _)
  (aH w0 0) l'.length c (flatR l') hx (zAn l') ?_ (zEk l') (by unfold maxLen;omega) (by omega) (by simp;omega) ?_
 ·rw[<-hc];exact World.news_of_block (Bj w0 _)
 ·intro v' w' h1 h2 _;exact h v' w' (by unfold OwnR;rw[Bc,zI3];exact h1) (hown.below hbase h2)
theorem zIb {ops:Array Oper}{rest:List Oper}{o:Oper}{a:Act}{Q:Exit->Act->World->Prop}{w0:World}(hgd:o.guard=none) (s x:Operand)
  (ho:o.op=.call { callee:=.builtin .append,args:=#[s,x],argTypes:=#[44,44] }) (B:Nat) (v:Value) (l:List Rg) (hs:a.eval s=v) (hown:OwnR w0 B v l)
  (l':List Rg) (m c:Nat) (hm:l'.length=m) (cells:Array Value) (hc:cells.toList=flatR l') (H:Nat) (hH:w0.heap.size=H) (hx:a.eval x=vS (some (aD H 0)) m c)
  (hbytes:l.length+m<=1000000000) (hbase:B<=w0.heap.size)
  (h:∀ v' w',OwnR w' B v' (l++l')->Below B w0 w'->wpList tP ops Q rest (a.put o.dst v') w') :
  wpList tP ops Q (o::rest) a (w0.alloc (.cells cells 83)):=by
 subst hH;exact zOl hgd s x ho B v l hs hown l' m c hm cells hc hx hbytes hbase h
def RetR (rs:List Rg) (w:World) (e:Ending) (w':World):Prop:=∃ A n c,e=.returned (vS A n c)/\RngS w' w'.heap.size A n rs/\bW w w'
def zBb (r:Rg):Bool:=decide (r.2<r.1)
def gapB (x r:Rg):Bool:=decide (x.2+1<r.1)
theorem zD6 (a b:Int) (w:World) :
  Calls tP 103 #[.agg #[vI i6 a,vI i6 b]] w fun e w'=>e=.returned (.bool (zBb (a,b)))/\bW w w':=by
 go_enter func103,ntmps103;go_wp2
 all_goals go_ret
 all_goals exact⟨zAb (by unfold zBb;simp),yR.alloc lR _⟩
theorem zNj (a b c d:Int) (w:World) (h:Fit1 (a,b)) (h':Fit1 (c,d)) :
  Calls tP 107 #[.agg #[vI i6 a,vI i6 b],.agg #[vI i6 c,vI i6 d]] w fun e w'=>e=.returned (.bool (gapB (a,b) (c,d)))/\bW w w':=by
 unfold Fit1 LO HI at h h';obtain⟨h1,h2,h3,h4⟩:=h;obtain⟨k1,k2,k3,k4⟩:=h';simp only at h1 h2 h3 h4 k1 k2 k3 k4;by_cases hlt:b<c
 ·have q:decide (b<c)=true:=by simpa using hlt
  go_enter func107,ntmps107;go_wp2
  all_goals go_ret
  all_goals exact⟨zAb (by unfold gapB;simp;omega),(yR.alloc lR _).alloc (by simp) _⟩
 ·have q:decide (b<c)=false:=by simpa using hlt
  go_enter func107,ntmps107;go_wp2
  all_goals go_ret
  all_goals exact⟨zAb (by unfold gapB;simp;omega),(yR.alloc lR _).alloc (by simp) _⟩
def cmpI (a b:Int):Int:=if a<b then -1 else if b<a then 1 else 0
theorem zJt (a:Int) (w:World) :
  Calls tP 149 #[vI i6 a] w fun e w'=>e=.returned (.bool false)/\w=w':=by
 go_enter func149,ntmps149;go_wp2
 all_goals go_ret
 all_goals exact⟨zAb (by simp),rfl⟩
theorem zN9 (a b:Int) (w:World) :
  Calls tP 106 #[vI i6 a,vI i6 b] w fun e w'=>e=.returned (vI i6 (cmpI a b))/\w=w':=by
 go_enter func106,ntmps106;go_wp2_with (first|(go_at_call 149;refine (zJt _ _).mono ?_;rintro e w' ⟨rfl,rfl⟩))
 all_goals go_ret
 all_goals exact⟨zMw (by unfold cmpI;split<;>simp_all<;>omega),rfl⟩
theorem zL7 (a:Addr) (c:Nat) (w:World) :
  Calls tP 102 #[vS (some a) 0 c] w fun e w'=>∃ v',e=.returned v'/\OwnR w' w.heap.size v' []/\bW w w':=by
 obtain⟨i0,hi,f,d,b⟩:=Co Tryz.infoR;have g:∀ (w:World) (a:Option Addr) (n c n' c':Nat),(binOp .eql 44 (vS a n c) (vS none n' c')).run tP w=.ok (.bool a.isNone) w:=fun w a n c n' c'=>Lib.run_eql_slice_nil w _ _ a n c n' c' underlying44;go_enter func102,ntmps102;go_wp2_with (at_builtin;refine wpList_append_own _ rfl _ _ 44 rfl w.heap.size 83 i0 (.agg #[vI i6 0,vI i6 0]) 2 16 underlying44 hi f d b rfl (by decide) _ _ _ rfl (World.ownsRow_made w #[] 0 lR (Bl _) rfl) a 0 c [] rfl rfl (by intro j u hj;simp at hj) (by intro u hu;cases hu) (by unfold maxLen;omega) (by omega) (by simp) ?_);intro v' w1 hown hgrow hnil;go_wp2;go_ret;refine⟨v',rfl,?_,?_⟩
 ·have:w1.ownsRow w.heap.size 83 2 v' 0 []:=by simpa using hown
  exact this
 ·exact ((Bv _ w).alloc lR _).grown hgrow (by simp) (by intro k hk;simp[Value.ownBlock]at hk;omega)
theorem zQg {w:World}{b off:Nat}{rs:List Rg}(h:∀ j r,rs[j]?=some r->w.cell? (aD b (off+j*2))=some (vI i6 r.1)/\w.cell? (aD b (off+j*2+1))=some (vI i6 r.2)) :
  ∀ j u,(flatR rs)[j]?=some u->w.cell? (aD b (off+j))=some u:=by
 intro j u hj;have hl:j<rs.length*2:=by
  have:=(Bw.1 hj).1
  rwa [zAn]at this
 have hx:rs[j / 2]?=some (rs[j / 2]'(by omega)):=By _;have h1:=zC2 rs _ _ hx;have h2:=zDo rs _ _ hx;have hc:=h _ _ hx;rcases Nat.mod_two_eq_zero_or_one j with e|e
 ·have:j / 2*2=j:=by omega
  rw[this]at h1 hc;rw[h1]at hj;exact hc.1.trans hj
 ·have:j / 2*2+1=j:=by omega
  rw[Ex,this]at hc;rw[this]at h2;rw[h2]at hj;exact hc.2.trans hj
theorem zOa (A:Option Addr) (n cap:Nat) (rs:List Rg) (w:World) (B:Nat) (hR:RngS w B A n rs) (hn:n<=1000000000) :
  Calls tP 102 #[vS A n cap] w fun e w'=>∃ v',e=.returned v'/\OwnR w' w.heap.size v' rs/\bW w w':=by
 rcases C7 n with h0|h0
 ·have hr:rs=[]:=Cc (hR.1.symm.trans h0);subst hr;subst h0;rcases A with _|a
  ·have:=AnyE.slices_Clone_nil Tryz.cloneR 0 cap w;change Calls tP 102 _ _ _ at this;exact this.mono fun e w' ⟨he,hw⟩=>⟨_,he,OwnR.nil _ _,by rw[hw];exact Bv _ _⟩
  ·exact zL7 a cap w
 ·obtain⟨b,c,rfl,hb,hc⟩:=hR.2.2 h0;obtain⟨i0,hi,g,f,d⟩:=Co Tryz.infoR;have:=AnyE.slices_Clone Tryz.cloneR i0 (.agg #[vI i6 0,vI i6 0]) 2 16 hi g f d rfl (by decide) sizeOf83 b c n cap (flatR rs) w (by rw[zAn,<-hR.1]) (by unfold maxLen;omega) (by omega) (zQg hc) (zEk rs);change Calls tP 102 _ _ _ at this;refine this.mono fun e w' ⟨v',he,ho,_,hbl⟩=>⟨v',he,?_,hbl⟩;unfold OwnR;rw[<-hR.1];exact ho
theorem zGd:∀ (l:List Rg) (j:Nat) (r:Rg),((flatR l).set (j*2) (vI i6 r.1)).set (j*2+1) (vI i6 r.2)=flatR (l.set j r)
 | [],j,r=>by simp[flatR]
 | x::l,0,r=>by
  rw[zAx];show vI i6 r.1::vI i6 r.2::flatR l=flatR (r::l);rw[zAx]
 | x::l,j+1,r=>by
  rw[zAx,show (j+1)*2+1=(j*2+1)+1+1 by omega,show (j+1)*2=j*2+1+1 by omega];rw[Df,Df,Df,Df,zGd l j r,Df,zAx]
theorem zG7:∀ (l:List Rg) (i:Nat),(flatR l).take (i*2)=flatR (l.take i)
 | l,0=>by simp[flatR]
 | [],i+1=>by simp[flatR]
 | x::l,i+1=>by
  rw[Dc,zAx,zAx,show (i+1)*2=i*2+1+1 by omega,Dc,Dc,zG7 l i]
section
variable {w:World}{B g n cap:Nat}{rs:List Rg}
theorem OwnR.formG {v:Value}(h:OwnR w B v rs) (h0:0<rs.length):∃ g c,v=vS (some (aD g 0)) rs.length c/\B<=g/\g<w.heap.size/\rs.length<=c:=by
 have hl:=h.lt;rcases h.2 with⟨rfl,hz⟩|⟨g,cap,b,rfl,hB,hg,a,_⟩
 ·omega
 ·exact⟨g,cap,rfl,hB,(hl g rfl).2,a⟩
theorem OwnR.lo (h:OwnR w B (vS (some (aD g 0)) n cap) rs) (hn:rs.length=n){j:Nat}{r:Rg}(hj:rs[j]?=some r):w.cell? (aD g (j*2))=some (vI i6 r.1):=by
 subst hn;have a:=(Bw.1 hj).1;rw[World.ownsRow.cellAt h (j*2) (by omega),zC2 rs j r hj]
theorem OwnR.hi (h:OwnR w B (vS (some (aD g 0)) n cap) rs) (hn:rs.length=n){j:Nat}{r:Rg}(hj:rs[j]?=some r):w.cell? (aD g (j*2+1))=some (vI i6 r.2):=by
 subst hn;have a:=(Bw.1 hj).1;rw[World.ownsRow.cellAt h (j*2+1) (by omega),zDo rs j r hj]
theorem OwnR.free (h:OwnR w B (vS (some (aD g 0)) n cap) rs) (hn:rs.length=n) (j:Nat):w.frozen? (aD g j)=false:=by
 subst hn;exact World.ownsRow.frozenAt h j
theorem OwnR.set (h:OwnR w B (vS (some ⟨g,0,none⟩) n cap) rs) (hn:rs.length=n) (j:Nat) (r:Rg) :
  OwnR ((w.setCell ⟨g,j*2,none⟩ (vI i6 r.1)).setCell ⟨g,j*2+1,none⟩ (vI i6 r.2)) B (vS (some ⟨g,0,none⟩) n cap) (rs.set j r):=by
 subst hn;unfold OwnR;rw[Cn,<-zGd];exact (World.ownsRow.stored (World.ownsRow.stored h (j*2) (vI i6 r.1)).1 (j*2+1) (vI i6 r.2)).1
theorem OwnR.setHi (h:OwnR w B (vS (some ⟨g,0,none⟩) n cap) rs) (hn:rs.length=n) (j:Nat) (r:Rg) (y:Int) (hj:rs[j]?=some r) :
  OwnR (w.setCell ⟨g,j*2+1,none⟩ (vI i6 y)) B (vS (some ⟨g,0,none⟩) n cap) (rs.set j (r.1,y)):=by
 subst hn;unfold OwnR;rw[Cn,<-zGd];have e:(flatR rs).set (j*2) (vI i6 r.1)=flatR rs:=by
  have h1:=zC2 rs j r hj;apply Dp;intro i;rw[Er];split
  ·rename_i hi;subst hi;rw[h1];split
   ·rfl
   ·rename_i hh;exact absurd (Bw.1 h1).1 hh
  ·rfl
 simp only;rw[e];exact (World.ownsRow.stored h (j*2+1) (vI i6 y)).1
end
theorem zGr (n:Nat):(Builtin.zeroCells #[vI i6 0,vI i6 0] n).toList=flatR (List.replicate n (0,0)):=by
 apply Dp;intro j;by_cases hj:j<n*2
 ·have hx:(List.replicate n ((0:Int),(0:Int)))[j / 2]?=some (0,0):=by rw[Eg];simp;omega
  have h1:=zC2 _ _ _ hx;have h2:=zDo _ _ _ hx;have e1:(Builtin.zeroCells #[vI i6 0,vI i6 0] n).toList[j]?=some (vI i6 0):=by
   simp[Builtin.zeroCells,hj];rcases Nat.mod_two_eq_zero_or_one j with e|e<;>rw[e]<;>rfl
  rw[e1];rcases Nat.mod_two_eq_zero_or_one j with e|e
  ·rw[show j / 2*2=j by omega]at h1;exact h1.symm
  ·rw[show j / 2*2+1=j by omega]at h2;exact h2.symm
 ·rw[Ce (by simp[Builtin.zeroCells];omega),Ce (by rw[zAn];simp;omega)]
theorem zLe {w:World}{B g n cap:Nat}{rs:List Rg}(h:OwnR w B (vS (some (aD g 0)) n cap) rs) (hn:rs.length=n) (i c:Nat) (hi:i<n) :
  ∃ w',(∀ ty,(Builtin.clear_ #[44] ty #[vS (some (aD g (i*2))) (n-i) c]).run tP w=.ok (.tuple #[]) w')/\OwnR w' B (vS (some (aD g 0)) i cap) (rs.take i)/\w.grownBy w' (some g):=by
 subst hn;have hl:(rs.take i).length=i:=by rw[Bg];omega
 rcases h.2 with⟨h',_⟩|⟨g',j,d,h',hb,hg,l,f,o,a⟩
 ·simp at h'
 ·simp only[Value.slice.injEq,Cs,Addr.mk.injEq,and_true,true_and]at h';obtain⟨rfl,rfl⟩:=h';have b:=run_storeCells_at (P:=tP) g (i*2) 83 (flatR (List.replicate (rs.length-i) (0,0))) 0 d w hg (by rw[zAn];simp;omega) (zEk _);simp only[Dr]at b;have hv:=zeroValue83;obtain⟨m,hm⟩:∃ m,rs.length-i=m+1:=⟨rs.length-i-1,by omega⟩;refine⟨w.setRow g (d.toList.take (i*2)++flatR (List.replicate (rs.length-i) (0,0))++d.toList.drop (i*2+(flatR (List.replicate (rs.length-i) (0,0))).length)).toArray,?_,⟨zAn _,.inr ⟨g,cap,_,by rw[hl],hb,setRow_heap w g d _ 83 (0,0) hg,by rw[hl];omega,f,?_,?_⟩⟩,⟨rfl,rfl,rfl,by simp,fun k _ hk=>setRow_other w g k _ (fun e=>hk (by simp[e]))⟩⟩
  ·intro ty;rw[<-zGr]at b;rw[hm]at b ⊢;simp[Builtin.clear_,run_underlying underlying44,hv,Value.cells,b];rw[<-zGr];simp
  ·simp only[Dh,Bc,Bg,Cb,Array.length_toList,zAn,Eo];omega
  ·rw[hl,Ez];rw[Fg (by simp;omega),List.take_take,Nat.min_self,<-zG7,<-a,List.take_take,show min (i*2) (rs.length*2)=i*2 by omega]
theorem zGa (A:Option Addr) (n cap:Nat) (rs:List Rg) (w:World) (hR:RngS w w.heap.size A n rs) (hn:n<=1000000000) (h:∀ r∈rs,zBb r=false) :
  Calls tP 147 #[vS A n cap,.func (.func 103) #[] #[]] w fun e w'=>e=.returned (vI i6 (-1))/\bW w w':=by
 have HR:=xI hR;have HE:=xI h;clear hR h;go_enter func147,ntmps147;go_wp2
 go_loopw [5,8] (fun _ i wr=>∃ k:Nat,i=vI i6 k/\k<=n/\bW w wr) (fun _ i _=>n-(intOf i).toNat)
 case atStart=>exact⟨0,rfl,by omega,Bv _ _⟩
 case round=>
  obtain⟨k,rfl,hk,hb⟩:=hrel;by_cases hkn:k<n
  ·obtain⟨b,a,r1,r2,rfl,c,hx,hf,c1,c2⟩:=(HR.out.below hb).at hkn;have q1:=HE.out _ (Bh hx);have hm:=fun w=>zD6 r1 r2 w;rw[q1]at hm;have HX:=xI hx;clear hx q1;go_wp2_with (first|(go_at_call 103;refine (hm _).mono ?_;rintro e w' ⟨rfl,hb1⟩))
   all_goals go_roundw
   case rel=>exact⟨k+1,by go_num,by omega,hb.trans (hb1.mono hb.size)⟩
   case measure=>simp[intOf];omega
  ·go_wp2;go_ret;exact⟨rfl,hb⟩
theorem zF9 (A:Option Addr) (n cap:Nat) (rs:List Rg) (w:World) (m:Nat) (x:Rg) (hR:RngS w w.heap.size A n rs) (hn:n<=1000000000) (hx:rs[m]?=some x) (hxe:zBb x=true) (h:∀ j r,j<m->rs[j]?=some r->zBb r=false) :
  Calls tP 147 #[vS A n cap,.func (.func 103) #[] #[]] w fun e w'=>e=.returned (vI i6 m)/\bW w w':=by
 have d:m<n:=by have:=(Bw.1 hx).1;rw[hR.1];exact this
 have HR:=xI hR;have HE:=xI h;have HM:=xI hx;clear hR h hx;go_enter func147,ntmps147;go_wp2
 go_loopw [5,8] (fun _ i wr=>∃ k:Nat,i=vI i6 k/\k<=m/\bW w wr) (fun _ i _=>n-(intOf i).toNat)
 case atStart=>exact⟨0,rfl,by omega,Bv _ _⟩
 case round=>
  obtain⟨k,rfl,hk,hb⟩:=hrel;have a:k<n:=by omega
  obtain⟨b,c,r1,r2,rfl,f,hx,hf,c1,c2⟩:=(HR.out.below hb).at a;have hm:=fun w=>zD6 r1 r2 w;by_cases hkm:k<m
  ·have q1:=HE.out k _ hkm hx;rw[q1]at hm;have HX:=xI hx;clear hx q1;go_wp2_with (first|(go_at_call 103;refine (hm _).mono ?_;rintro e w' ⟨rfl,hb1⟩))
   all_goals go_roundw
   case rel=>exact⟨k+1,by go_num,by omega,hb.trans (hb1.mono hb.size)⟩
   case measure=>simp[intOf];omega
  ·obtain rfl:k=m:=by omega
   have q1:zBb (r1,r2)=true:=by
    have:=HM.out;rw[hx]at this;injection this with this;rw[this];exact hxe
   rw[q1]at hm;have HX:=xI hx;clear hx q1;go_wp2_with (first|(go_at_call 103;refine (hm _).mono ?_;rintro e w' ⟨rfl,hb1⟩))
   all_goals go_ret
   all_goals exact⟨rfl,hb.trans (hb1.mono hb.size)⟩
def neB (r:Rg):Bool:=!zBb r
theorem zGe {rs:List Rg}(h:∀ r∈rs,zBb r=false):rs.filter neB=rs:=by
 rw[List.filter_eq_self];intro r hr;simp[neB,h r hr]
theorem zJz (rs:List Rg):(∀ r∈rs,zBb r=false)\/∃ (m:Nat) (x:Rg),rs[m]?=some x/\zBb x=true/\∀ (j:Nat) (r:Rg),j<m->rs[j]?=some r->zBb r=false:=by
 induction rs with
 | nil=>exact .inl (by simp)
 | cons y l ih=>
  by_cases hy:zBb y=true
  ·exact .inr ⟨0,y,rfl,hy,fun j r hj=>by omega⟩
  ·have a:zBb y=false:=by simpa using hy
   rcases ih with h|⟨m,x,h1,h2,h3⟩
   ·refine .inl ?_;intro r hr;rcases Ct.1 hr with rfl|hr
    ·exact a
    ·exact h r hr
   ·refine .inr ⟨m+1,x,by simpa using h1,h2,?_⟩;intro j r hj hr;cases j with
    | zero=>simp at hr;subst hr;exact a
    | succ j=>exact h3 j r (by omega) (by simpa using hr)
theorem zEy {rs:List Rg}{m:Nat}{x:Rg}(hx:rs[m]?=some x) (hxe:zBb x=true) (h:∀ j r,j<m->rs[j]?=some r->zBb r=false):(rs.take (m+1)).filter neB=rs.take m:=by
 rw[Cp,hx,List.filter_append];have:(rs.take m).filter neB=rs.take m:=by
  refine zGe fun r hr=>?_;obtain⟨j,hj⟩:=Dd.1 hr;rw[List.getElem?_take]at hj;split at hj
  ·exact h j r (by assumption) hj
  ·cases hj
 rw[this];simp[neB,hxe]
theorem zE9 {rs:List Rg}{j:Nat}{x:Rg}(hx:rs[j]?=some x) (hxe:zBb x=false):(rs.take (j+1)).filter neB=(rs.take j).filter neB++[x]:=by
 rw[Cp,hx,List.filter_append];simp[neB,hxe]
theorem zFa {rs:List Rg}{j:Nat}{x:Rg}(hx:rs[j]?=some x) (hxe:zBb x=true):(rs.take (j+1)).filter neB=(rs.take j).filter neB:=by
 rw[Cp,hx,List.filter_append];simp[neB,hxe]
structure zDy (rs M:List Rg) (i j:Nat):Prop where
 len:M.length=rs.length
 lt:i<j
 le:j<=rs.length
 done:M.take i=(rs.take j).filter neB
 rest:∀ k,j<=k->M[k]?=rs[k]?
theorem zDy.start {rs:List Rg}{m:Nat}{x:Rg}(hx:rs[m]?=some x) (hxe:zBb x=true) (h:∀ j r,j<m->rs[j]?=some r->zBb r=false):zDy rs rs m (m+1):=
 ⟨rfl,by omega,by have:=(Bw.1 hx).1;omega,(zEy hx hxe h).symm,fun _ _=>rfl⟩
theorem zDy.skip {rs M:List Rg}{i j:Nat}{x:Rg}(h:zDy rs M i j) (hx:rs[j]?=some x) (hxe:zBb x=true):zDy rs M i (j+1):=
 ⟨h.len,by have:=h.lt;omega,by have:=(Bw.1 hx).1;omega,by rw[zFa hx hxe];exact h.done,fun k hk=>h.rest k (by omega)⟩
theorem zDy.keep {rs M:List Rg}{i j:Nat}{x:Rg}(h:zDy rs M i j) (hx:rs[j]?=some x) (hxe:zBb x=false):zDy rs (M.set i x) (i+1) (j+1):=by
 have hl:=h.len;have a:=h.lt;have hj:=(Bw.1 hx).1;refine⟨by simpa using hl,by omega,by omega,?_,?_⟩
 ·rw[zE9 hx hxe,<-h.done,Cp,D6 (by omega),List.take_set_of_le lR];rfl
 ·intro k hk;rw[D7 (by omega)];exact h.rest k (by omega)
theorem bcell {W w1:World}(hb:bW W w1):(∀ b o,b<W.heap.size->w1.cell? (aD b o)=W.cell? (aD b o))/\(∀ b o,b<W.heap.size->w1.frozen? (aD b o)=W.frozen? (aD b o)):=
 ⟨fun b o h=>hb.cell (p:=(aD b o)) h,fun b o h=>hb.frozen (p:=(aD b o)) h⟩
theorem zGq (v:Value) (rs:List Rg) (w:World) (B:Nat) (hO:OwnR w B v rs) (hf:Fit rs) (hB:B<=w.heap.size) (hn:rs.length<=1000000000) :
  Calls tP 101 #[v,.func (.func 103) #[] #[]] w fun e w'=>∃ v',e=.returned v'/\OwnR w' B v' (rs.filter neB)/\Below B w w':=by
 rcases zJz rs with h|⟨m,x,hx,hxe,h⟩
 ·obtain⟨A,c,rfl⟩:=hO.form;have hc:=fun w' (hb:bW w w')=>zGa A rs.length c rs w' ((hO.rng hf).kept hb hb.size) hn h;have HO:=xI hO;have HE:=xI (zGe h);clear hO h;have d:=hc w yR;clear hc;go_enter func101,ntmps101;go_wp2_with (go_at_call 147;refine d.mono ?_;rintro e w' ⟨rfl,hb⟩)
  all_goals go_ret
  all_goals exact⟨_,rfl,by rw[HE.out];exact HO.out.old hb,hb.mono hB⟩
 ·have a:0<rs.length:=by have:=(Bw.1 hx).1;omega
  have s:m<rs.length:=(Bw.1 hx).1;obtain⟨g,c,rfl,r,H,t⟩:=hO.formG a;have d:=zF9 (some (aD g 0)) rs.length c rs w m x (hO.rng hf) hn hx hxe h;have HS:=xI (zDy.start hx hxe h);have HF:=xI hf;have HO:=xI hO;clear hO h hx hf;obtain⟨n,b⟩:∃ n,n=rs.length:=⟨_,rfl⟩;rw[<-b]at d hn a s t;have HN:=xI b;rw[<-b];have q1:((m:Int)==-1)=false:=by rw[Cf];omega
  clear b;go_enter func101,ntmps101;go_wp2_with (go_at_call 147;refine d.mono ?_;rintro e w' ⟨rfl,hb⟩)
  go_loopw [5,6,7] (fun s5 s6 _ wr=>∃ (i j:Nat) (M:List Rg),s5=vI i6 i/\s6=vI i6 j/\zDy rs M i j/\OwnR wr B (vS (some (aD g 0)) n c) M/\Below B w wr) (fun _ s6 _ _=>n-(intOf s6).toNat)
  case atStart=>exact⟨m,m+1,rs,rfl,by go_num,HS.out,by rw[HN.out];exact HO.out.old hb,hb.mono hB⟩
  case round=>
   obtain⟨i,j,M,rfl,rfl,hI,hM,f⟩:=hrel;have HI:=xI hI;have HM:=xI hM;have u:=hI.lt;have F:j<=n:=by rw[HN.out];exact hI.le
   have HL:Hid (M.length=n):=xI (by rw[HN.out];exact hI.len);have E:=f.size;clear hI hM;have G:g<wr.heap.size:=by omega
   by_cases hlt:j<n
   ·obtain⟨r1,r2,hx⟩:∃ r1 r2,rs[j]?=some (r1,r2):=⟨_,_,By (by have:=HN.out;omega)⟩;have hy:M[j]?=some (r1,r2):=(HI.out.rest j lR).trans hx;have c1:=HM.out.lo HL.out hy;have c2:=HM.out.hi HL.out hy;have HX:=xI hx;clear hx hy;simp only at c1 c2;have hm:=fun w=>zD6 r1 r2 w;cases he:zBb (r1,r2)
    ·rw[he]at hm;have HE:=xI he;clear he;obtain⟨y1,y2,hz⟩:∃ y1 y2,M[i]?=some (y1,y2):=⟨_,_,By (by have:=HL.out;omega)⟩;have d1:=HM.out.lo HL.out hz;have d2:=HM.out.hi HL.out hz;have f1:=HM.out.free HL.out (i*2);have f2:=HM.out.free HL.out (i*2+1);simp only at d1 d2;clear hz;go_wp2_with (go_at_call 103;refine (hm _).mono ?_;rintro e w' ⟨rfl,hb1⟩;refine Hid.out ?_);refine xI ?_;obtain⟨K,I⟩:=bcell hb1;have y:g<wr.heap.size+1:=by omega
     go_wp2
     all_goals go_roundw
     case rel=>
      have q:bW wr w':=(yR.alloc lR _).trans (hb1.mono (by simp));exact⟨i+1,j+1,M.set i (r1,r2),by go_num,by go_num,HI.out.keep HX.out HE.out,(HM.out.old q).set HL.out i (r1,r2),((f.trans (q.mono (by omega))).setCell (p:=(aD g (i*2))) r _).setCell (p:=(aD g (i*2+1))) r _⟩
     case measure=>simp[intOf];omega
    ·rw[he]at hm;have HE:=xI he;clear he;go_wp2_with (go_at_call 103;refine (hm _).mono ?_;rintro e w' ⟨rfl,hb1⟩)
     all_goals go_roundw
     case rel=>exact⟨i,j+1,M,rfl,by go_num,HI.out.skip HX.out HE.out,HM.out.old ((yR.alloc lR _).trans (hb1.mono (by simp))),f.trans (((yR.alloc lR _).trans (hb1.mono (by simp))).mono (by omega))⟩
     case measure=>simp[intOf];omega
   ·obtain rfl:j=n:=by omega
    obtain⟨w2,J,l,o⟩:=zLe HM.out HL.out i (c-i) u;have HT:Hid (M.take i=rs.filter neB):=xI (by rw[HI.out.done,HN.out,Cx lR]);have z:=xI l;have C:=xI o;clear l o;have ic:(i:Int)<=(j:Int):=by omega
    have jc:(j:Int)<=(c:Int):=by omega
    have D:¬ (c=i):=by omega
    go_wp2
    all_goals go_ret
    all_goals exact⟨_,rfl,by rw[<-HT.out];exact z.out,f.grown C.out (by omega) (fun k hk=>by injection hk with hk;omega)⟩
end Go.Proofs.YteedihhdcbepmaaGreat.Iv
namespace Go.Proofs.YteedihhdcbepmaaGreat.Iv
open Go.RowKit Go.Sort
theorem zI4 (d:Array Rg):(flatK zCj 2 d).toList=flatR d.toList:=by
 apply Dp;intro j;by_cases hj:j<d.size*2
 ·have hx:d.toList[j / 2]?=some d[j / 2]!:=by
   rw[D1 d (j / 2) (by omega),Eh,Fm (by omega)]
  have h1:=zC2 _ _ _ hx;have h2:=zDo _ _ _ hx;have e:(flatK zCj 2 d).toList[j]?=some (zCj d[j / 2]!)[j % 2]!:=by
   rw[Eh,Fm (by simpa using hj)];congr 1;have:=get_flatK zCj 2 d j hj
   rwa [D1 _ j (by simpa using hj)]at this
  rw[e];rcases Nat.mod_two_eq_zero_or_one j with q|q
  ·rw[show j / 2*2=j by omega]at h1;rw[h1,q];rfl
  ·rw[show j / 2*2+1=j by omega]at h2;rw[h2,q];rfl
 ·rw[Ce (by simp;omega),Ce (by rw[zAn];simp;omega)]
theorem zKs (d:Array Rg):flatK zCj 2 d=(flatR d.toList).toArray:=by rw[<-zI4]
theorem zH1 {w:World}{B g n cap:Nat}{rs:List Rg}(h:OwnR w B (vS (some (aD g 0)) n cap) rs) (hn:rs.length=n):HoldsK zCj 2 w g 0 rs.toArray:=by
 subst hn;unfold HoldsK;rw[zKs];intro j hj;have a:j<rs.length*2:=by
  rw[Dh,zAn]at hj;exact hj
 refine⟨?_,by rw[Du];exact World.ownsRow.frozenAt h j⟩;rw[Du,World.ownsRow.cellAt h j a];have hl:j<(flatR rs).length:=by rw[zAn];exact a
 rw[By hl];simp[hl]
theorem zFz {w:World}{B g n m cap:Nat}{rs:List Rg}{d:Array Rg}{os:Array Obj}(h:OwnR w B (vS (some (aD g 0)) n cap) rs) (hn:rs.length=n) (hd:d.size=n) :
  OwnR (sortWorldK zCj 2 w g 0 m d os) B (vS (some (aD g 0)) n cap) d.toList/\w.grownBy (sortWorldK zCj 2 w g 0 m d os) (some g):=by
 subst hn;rcases h.2 with⟨h',_⟩|⟨g',o,b,h',hb,hg,c,l,i,a⟩
 ·simp at h'
 ·simp only[Value.slice.injEq,Cs,Addr.mk.injEq,and_true,true_and]at h';obtain⟨rfl,rfl⟩:=h';have f:g<w.heap.size:=(Cr.1 hg).1;have hh:(sortWorldK zCj 2 w g 0 m d os).heap[g]?=some (.cells (putCells id 0 (flatK zCj 2 d) b) 83 (0,0)):=by
   unfold sortWorldK putRowK;rw[heap_grow_old _ _ (by simpa [putRow,mapBlock,Sort.ahead] using f)];simp[putRow,mapBlock,Sort.ahead,Array.getElem?_modify,hg,onCells]
  refine⟨⟨zAn _,.inr ⟨g,cap,_,by simp[hd],hb,hh,by simp[hd];exact c,l,by simp[putCells,i],?_⟩⟩,rfl,rfl,rfl,?_,fun k hk hne=>?_⟩
  ·rw[zKs];have hl:(flatR d.toList).length=d.toList.length*2:=zAn _;apply Dp;intro j;by_cases hj:j<d.toList.length*2
   ·rw[Cl hj,Eh];have hc:j<b.size:=by simp at hj;omega
    simp[putCells,hc,show j<(flatR d.toList).length by omega]
   ·rw[List.getElem?_take_eq_none (by omega),Ce (by omega)]
  ·simp[sortWorldK,putRowK,putRow,mapBlock,Sort.ahead,grow]
  ·unfold sortWorldK putRowK;rw[heap_grow_old _ _ (by simpa [putRow,mapBlock,Sort.ahead] using hk)];have:g≠k:=fun e=>hne (by rw[e]);simp[putRow,mapBlock,Sort.ahead,Array.getElem?_modify,this]
def cfR (x y:Rg):Int:=cmpI x.1 y.1
theorem ltLo (x y:Rg):ltOf cfR x y=decide (x.1<y.1):=by
 unfold ltOf cfR cmpI;by_cases h1:x.1<y.1
 ·simp[h1]
 ·by_cases h2:y.1<x.1<;>simp[h1,h2]
theorem swoLo:SWO (ltOf cfR) where
 irrefl x:=by rw[ltLo];simp
 trans x y z h1 h2:=by rw[ltLo]at *;simp at *;omega
 ntrans x y z h1 h2:=by rw[ltLo]at *;simp at *;omega
theorem zQn (x y:Rg) (W:World):Calls tP 105 #[.agg #[vI i6 x.1,vI i6 x.2],.agg #[vI i6 y.1,vI i6 y.2]] W fun e w'=>e=.returned (vI i6 (cfR x y))/\∃ q os',w'=grow (W.drewN q) os':=by
 have a:=fun W'=>zN9 x.1 y.1 W';unfold cfR;generalize cmpI x.1 y.1=r at a ⊢;go_enter func105,ntmps105;go_wp2_with (go_at_call 106;refine (a _).mono ?_;rintro e w' ⟨rfl,rfl⟩);go_ret;exact⟨rfl,0,_,by rw[alloc_eq_grow,alloc_eq_grow,grow_grow];rfl⟩
def Asc (l:List Rg):Prop:=∀ (i j:Nat) (x y:Rg),i<j->l[i]?=some x->l[j]?=some y->x.1<=y.1
theorem zOx (v:Value) (rs:List Rg) (w:World) (B:Nat) (hO:OwnR w B v rs) (hB:B<=w.heap.size) (hn:rs.length<=1000000000) :
  Calls tP 104 #[v,.func (.func 105) #[] #[]] w fun e w'=>e=.returned (.tuple #[])/\∃ ts,ts.Perm rs/\Asc ts/\OwnR w' B v ts/\Below B w w':=by
 rcases C7 rs.length with h0|h0
 ·have hr:rs=[]:=Cc h0;subst hr;obtain⟨A,c,rfl⟩:=hO.form;have:=AnyF.slices_SortFunc_none Tryz.sortR A c (.func (.func 105) #[] #[]) w;change Calls tP 104 _ _ _ at this;exact this.mono fun e w' ⟨he,hw⟩=>⟨he,[],List.Perm.refl _,by intro i j x y _ h;simp at h,by rw[hw];exact hO,by rw[hw];exact Bv _ _⟩
 ·obtain⟨g,c,rfl,f,b,d⟩:=hO.formG h0;have eg:∀ args w,(callFunc 105 args).run tP w=.ok (.enter 105 args) w:=enters_of func105 (by kernel_rfl) rfl;have a:=AnyQ.slices_SortFunc Tryz.sortR 2 isAgg83 sizeOf83 zCj (fun _=>rfl) (fun x v hv=>by simp[zCj]at hv;rcases hv with rfl|rfl<;>rfl) cfR swoLo 105 #[] g 0 c rs.toArray w eg (fun _ _ _ _ x y=>zQn x y _) (zH1 hO rfl) b (by simp;omega);change Calls tP 104 _ _ _ at a;rw[Dh]at a;refine a.mono fun e w' ⟨he,d',m,os,hp,hs,hw⟩=>⟨he,d'.toList,?_,?_,?_,?_⟩
  ·have h3:=hp.2.2;have e1:=hp.1;simp only[Dh]at e1;rw[<-e1,Array.extract_size]at h3;have:(rs.toArray.extract 0 d'.size).toList=rs:=by
    rw[e1];simp
   rwa [this]at h3
  ·intro i j x y hij hx hy;have e1:=hp.1;simp only[Dh]at e1;have hj:=(Bw.1 hy).1;have hi:=(Bw.1 hx).1;simp only[Array.length_toList]at hi hj;have h4:=hs i j (Bl _) hij (by omega);rw[ltLo]at h4;rw[Eh]at hx hy;rw[D1 d' i hi,D1 d' j hj]at h4;rw[Fm hi]at hx;rw[Fm hj]at hy;injection hx with hx;injection hy with hy;rw[hx,hy]at h4;simpa using h4
  ·have e1:=hp.1;simp only[Dh]at e1;rw[hw];exact (zFz hO rfl e1).1
  ·have e1:=hp.1;simp only[Dh]at e1;rw[hw];exact yR.grown (zFz hO rfl e1).2 hB (fun k hk=>by injection hk with hk;omega)
end Go.Proofs.YteedihhdcbepmaaGreat.Iv
namespace Go.Proofs.YteedihhdcbepmaaGreat
open Go Go.RowKit
end Go.Proofs.YteedihhdcbepmaaGreat
