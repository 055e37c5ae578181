/- What the document's functions on names and .. -/
import Derived.Test.YteedihhdcbepmaaGreatTsZ
import Derived.Test.YteedihhdcbepmaaGreatTs08
set_option maxRecDepth 100000
set_option maxHeartbeats 25600000
set_option linter.all false
open Go.Value renaming slice→vS,int→vI,string→vT
open Go.IntKind renaming i64→i6
open Go.Proofs.Tryz
open Go.Proofs.Tryz renaming prog→tP
namespace Go.Proofs.YteedihhdcbepmaaGreat
open Go.RowKit
theorem zEi (c:Int) (w:World) :
  Calls tP 71 #[.int .u8 c] w fun e w'=>e=.returned (.bool (lowB c))/\w=w':=by
 go_enter func71,ntmps71;go_wp2
 all_goals go_ret
 all_goals exact⟨zAb (by unfold lowB;simp;omega),rfl⟩
theorem zFn (c:Int) (w:World) :
  Calls tP 70 #[.int .u8 c] w fun e w'=>e=.returned (.bool (upB c))/\w=w':=by
 go_enter func70,ntmps70;go_wp2
 all_goals go_ret
 all_goals exact⟨zAb (by unfold upB;simp;omega),rfl⟩
theorem zI7 (c:Int) (w:World) :
  Calls tP 72 #[.int .u8 c] w fun e w'=>e=.returned (.bool (digB c))/\w=w':=by
 go_enter func72,ntmps72;go_wp2
 all_goals go_ret
 all_goals exact⟨zAb (by unfold digB;simp;omega),rfl⟩
theorem zCy (s:ByteArray) (w:World) (hs:s.size<=maxLen) :
  Calls tP 115 #[vT s] w fun e w'=>e=.returned (.bool (atomB s.data.toList))/\w=w':=by
 unfold maxLen at hs;unfold atomB;by_cases h1:s.size<1
 ·go_enter func115,ntmps115;go_wp2;go_ret;exact⟨zAb (zAq _ _ _ (by omega)).symm,rfl⟩
 ·by_cases h2:16<s.size
  ·go_enter func115,ntmps115;go_wp2;go_ret;exact⟨zAb (zAq _ _ _ (by omega)).symm,rfl⟩
  ·have h3:0<s.size:=by omega
   cases h4:lowB (s[0]'h3).toNat
   ·go_enter func115,ntmps115;go_wp2_with (go_at_call 71;refine (zEi _ _).mono ?_;rintro e w' ⟨rfl,rfl⟩);go_ret;exact⟨zAb (zAq _ _ _ (.inr (.inr (.inl ⟨h3,h4⟩)))).symm,rfl⟩
   ·go_enter func115,ntmps115;go_wp2_with (go_at_call 71;refine (zEi _ _).mono ?_;rintro e w' ⟨rfl,rfl⟩)
    go_loop [3] (fun i=>∃ k:Nat,1<=k/\k<=s.size/\i=vI i6 k/\∀ j (h:j<s.size),1<=j->j<k->atomT (s[j]'h).toNat=true) (fun i=>s.size-(intOf i).toNat)
    case atStart=>exact⟨1,by omega,by omega,rfl,fun j h a b=>by omega⟩
    case round=>
     obtain⟨k,d,hk,rfl,c⟩:=hrel;have HA:=xI c;clear c;go_wp2_with (first|(go_at_call 71;refine (zEi _ _).mono ?_;rintro e w' ⟨rfl,rfl⟩)|(go_at_call 72;refine (zI7 _ _).mono ?_;rintro e w' ⟨rfl,rfl⟩))
     ·go_round
      case rel=>exact⟨k+1,by omega,by omega,by go_num,zBa HA ‹_› (by simp_all [atomT])⟩
      case measure=>simp[intOf];omega
     ·go_round
      case rel=>exact⟨k+1,by omega,by omega,by go_num,zBa HA ‹_› (by simp_all [atomT])⟩
      case measure=>simp[intOf];omega
     ·go_ret;exact⟨zAb (zAq _ _ _ (.inr (.inr (.inr ⟨k,‹_›,d,by simp_all [atomT]⟩)))).symm,rfl⟩
     ·go_round
      case rel=>exact⟨k+1,by omega,by omega,by go_num,zBa HA ‹_› (by simp_all [atomT])⟩
      case measure=>simp[intOf];omega
     ·go_ret;exact⟨zAb (zDk _ _ _ h3 (by omega) h4 (fun j h a=>HA.out j h a (by omega))).symm,rfl⟩
theorem zA2 (s:ByteArray) (w:World) (hs:s.size<=maxLen) :
  Calls tP 29 #[vT s] w fun e w'=>e=.returned (.bool (varB s.data.toList))/\w=w':=by
 unfold maxLen at hs;unfold varB;by_cases h1:s.size<1
 ·go_enter func29,ntmps29;go_wp2;go_ret;exact⟨zAb (zAq _ _ _ (by omega)).symm,rfl⟩
 ·by_cases h2:16<s.size
  ·go_enter func29,ntmps29;go_wp2;go_ret;exact⟨zAb (zAq _ _ _ (by omega)).symm,rfl⟩
  ·have h3:0<s.size:=by omega
   cases h4:upB (s[0]'h3).toNat
   ·go_enter func29,ntmps29;go_wp2_with (go_at_call 70;refine (zFn _ _).mono ?_;rintro e w' ⟨rfl,rfl⟩);go_ret;exact⟨zAb (zAq _ _ _ (.inr (.inr (.inl ⟨h3,h4⟩)))).symm,rfl⟩
   ·go_enter func29,ntmps29;go_wp2_with (go_at_call 70;refine (zFn _ _).mono ?_;rintro e w' ⟨rfl,rfl⟩)
    go_loop [3] (fun i=>∃ k:Nat,1<=k/\k<=s.size/\i=vI i6 k/\∀ j (h:j<s.size),1<=j->j<k->varT (s[j]'h).toNat=true) (fun i=>s.size-(intOf i).toNat)
    case atStart=>exact⟨1,by omega,by omega,rfl,fun j h a b=>by omega⟩
    case round=>
     obtain⟨k,d,hk,rfl,c⟩:=hrel;have HA:=xI c;clear c;go_wp2_with (first|(go_at_call 71;refine (zEi _ _).mono ?_;rintro e w' ⟨rfl,rfl⟩)|(go_at_call 70;refine (zFn _ _).mono ?_;rintro e w' ⟨rfl,rfl⟩)|(go_at_call 72;refine (zI7 _ _).mono ?_;rintro e w' ⟨rfl,rfl⟩))
     ·go_round
      case rel=>exact⟨k+1,by omega,by omega,by go_num,zBa HA ‹_› (by simp_all [varT])⟩
      case measure=>simp[intOf];omega
     ·go_round
      case rel=>exact⟨k+1,by omega,by omega,by go_num,zBa HA ‹_› (by simp_all [varT])⟩
      case measure=>simp[intOf];omega
     ·go_round
      case rel=>exact⟨k+1,by omega,by omega,by go_num,zBa HA ‹_› (by simp_all [varT])⟩
      case measure=>simp[intOf];omega
     ·go_ret;exact⟨zAb (zAq _ _ _ (.inr (.inr (.inr ⟨k,‹_›,d,by simp_all [varT]⟩)))).symm,rfl⟩
     ·go_round
      case rel=>exact⟨k+1,by omega,by omega,by go_num,zBa HA ‹_› (by simp_all [varT])⟩
      case measure=>simp[intOf];omega
     ·go_ret;exact⟨zAb (zDk _ _ _ h3 (by omega) h4 (fun j h a=>HA.out j h a (by omega))).symm,rfl⟩
theorem zBf (k:Int) (s:ByteArray) (w:World) (hs:s.size<=maxLen) :
  Calls tP 116 #[.agg #[vI i6 k,vT s]] w fun e w'=>e=.returned (.bool (keyB k s.data.toList))/\bW w w':=by
 have a:=hs;unfold maxLen at a;have b:s.data.toList.length=s.size:=by simp
 by_cases h0:k=0
 ·subst h0;go_enter func116,ntmps116;go_wp2_with (go_at_call 115;refine (zCy _ _ hs).mono ?_;rintro e w' ⟨rfl,rfl⟩)
  all_goals go_ret
  all_goals exact⟨zAb (by simp_all [keyB]),yR.alloc lR _⟩
 ·by_cases h1:k=1
  ·subst h1;go_enter func116,ntmps116;go_wp2;go_ret;exact⟨zAb (by simp[keyB]<;>omega),yR.alloc lR _⟩
  ·go_enter func116,ntmps116;go_wp2;go_ret;exact⟨zAb (by simp[keyB,h0,h1]),yR.alloc lR _⟩
open Go
theorem zFk {n:Nat}{k:Int}:idxB n k=true↔0<=k/\k<n:=by simp[idxB]
theorem zAy {H:Nat}{ns:List Tn}{root:Int}{cs:List Value}(k:Int) (w:World) (hT:TyP w H ns root cs):Calls tP 74 #[.agg cs.toArray,vI i6 k] w fun e w'=>e=.returned (.bool (idxB ns.length k))/\bW w w':=by
 obtain⟨u,rfl,hr,a⟩:=hT;obtain⟨A,c,rfl,b⟩:=a.form;clear a;obtain⟨W,hW⟩:∃ W,W=w.alloc (oE A ns.length c root):=⟨_,rfl⟩;have hb:bW w W:=by rw[hW];exact yR.alloc lR _
 have e0:W.cell? (aH w 0)=some (vS A ns.length c):=(Bv (by rw[hW];exact Bl w _) 0).trans rfl;generalize hn:ns.length=n at *;by_cases h0:0<=k
 ·by_cases h1:k<(n:Int)
  ·have hr:idxB n k=true:=zFk.2 ⟨h0,h1⟩;go_enter func74,ntmps74;go_wp2;rw[<-hW];go_ret;exact⟨by first|rfl|(rw[hr];rfl),hb⟩
  ·have hr:idxB n k=false:=by rw[Eq];intro h;exact h1 (zFk.1 h).2
   go_enter func74,ntmps74;go_wp2;rw[<-hW];go_ret;exact⟨by first|rfl|(rw[hr];rfl),hb⟩
 ·have hr:idxB n k=false:=by rw[Eq];intro h;exact h0 (zFk.1 h).1
  go_enter func74,ntmps74;go_wp2;rw[<-hW];go_ret;exact⟨by first|rfl|(rw[hr];rfl),hb⟩
theorem zD6 {w:World}{H n c:Nat}{l:List Int}{A:Option Addr}(h:RowP w H 1 (vS A n c) l.length (kidR l)):∃ b off,(0<l.length->A=some (aD b off)/\b<H)/\∀ j k,l[j]?=some k->w.cell? (aD b (off+j))=some (vI i6 k)/\i64B k:=by
 by_cases h0:0<l.length
 ·obtain⟨b,off,hA,hb,_,_⟩:=zDa h (By h0);refine⟨b,off,fun _=>⟨hA,hb⟩,fun j k hk=>?_⟩;obtain⟨b',d,a,_,hc,hw⟩:=zDa h hk;rw[hA]at a;injection a with a;injection a with e1 e2 _;subst e1 e2;exact⟨hc,hw⟩
 ·exact⟨0,0,fun h=>absurd h h0,fun j k hk=>absurd (Bx.1 hk).1 (by omega)⟩
structure WF (w W:World) (T N:Obj):Prop where
 t:W.heap[w.heap.size]?=some T
 n:W.heap[w.heap.size+1]?=some N
 bel:bW w W
 siz:w.heap.size+2<=W.heap.size
theorem WF.start (w:World) (T N:Obj):WF w ((w.alloc T).alloc N) T N:=by
 refine⟨by rw[Bp _ _ _ (by simp)];exact Bl w _,zAg _ (by simp),(yR.alloc lR _).alloc (by simp) _,by simp⟩
theorem WF.next {w W W':World}{T N:Obj}(h:WF w W T N) (hb:bW W W'):WF w W' T N:=by
 have hz:=h.siz;have hs:=hb.size;exact⟨(hb.block _ (by omega)).trans h.t,(hb.block _ (by omega)).trans h.n,h.bel.trans (hb.mono (by omega)),by omega⟩
theorem zRg (ns:List Tn) (root:Int) (A:Option Addr) (c:Nat) (kd lo hi:Int) (tx:List UInt8) (ks:List Int) (fds:List Fd) (r0 r1:Int) (Ak:Option Addr) (ck:Nat) (Af:Option Addr) (cf:Nat) (w:World)
  (hT:TyP w w.heap.size ns root [vS A ns.length c,vI i6 root]) (hN:TnP w w.heap.size ⟨kd,lo,hi,tx,ks,fds,r0,r1⟩ [vI i6 kd,vI i6 lo,vI i6 hi,vT ⟨tx.toArray⟩,vS Ak ks.length ck,vS Af fds.length cf,vI i6 r0,vI i6 r1])
  (hkids:ks.all (idxB ns.length)=false) :
  Calls tP 75 #[.agg #[vS A ns.length c,vI i6 root],.agg #[vI i6 kd,vI i6 lo,vI i6 hi,vT ⟨tx.toArray⟩,vS Ak ks.length ck,vS Af fds.length cf,vI i6 r0,vI i6 r1]] w fun e w'=>e=.returned (.bool (tnB ns.length ⟨kd,lo,hi,tx,ks,fds,r0,r1⟩))/\bW w w':=by
 obtain⟨uk,uf,x,q,b,v⟩:=hN;simp only[Bb,and_true]at x;obtain⟨_,_,_,_,rfl,rfl,_,_⟩:=x;obtain⟨bk,ok,f,u⟩:=zD6 b;have f:0<ks.length->Ak=some (aD bk ok)/\bk<w.heap.size:=f;have s:ks.length<=maxLen:=by obtain⟨_,_,h,h',_⟩:=b;exact h'.1
 have hF:=WF.start w (oE A ns.length c root) (oX kd lo hi ⟨tx.toArray⟩ Ak ks.length ck Af fds.length cf r0 r1);obtain⟨W,hW⟩:∃ W,W=((w.alloc (oE A ns.length c root)).alloc (oX kd lo hi ⟨tx.toArray⟩ Ak ks.length ck Af fds.length cf r0 r1)):=⟨_,rfl⟩;rw[<-hW]at hF;have HQ:Hid (∀ wq,bW W wq->((jT wq w.heap.size A ns.length c root)/\wq.cell? (aE w 4)=some (vS Ak ks.length ck)/\∀ j k,ks[j]?=some k->wq.cell? (aD bk (ok+j))=some (vI i6 k))):=xI fun wq hb=>by
  have F:=hF.next hb
  refine⟨⟨cH F.t 0,cH F.t 1⟩,cH F.n 4,fun j k hj=>(F.bel.cell (p:=(aD bk (ok+j))) (f (by have:=(Bx.1 hj).1;omega)).2).trans (u j k hj).1⟩
 have HT:Hid (∀ wq,bW W wq->TyP wq w.heap.size ns root [vS A ns.length c,vI i6 root]):=xI fun wq hb=>hT.on (hF.next hb).bel
 have HF:=xI hF;have HK:=xI (aN s (aN f (aN v q)));clear hF hT u b f v q;unfold maxLen at s;go_enter func75,ntmps75;go_wp2_with fail;rw[<-hW];clear hW
 go_loopw [5] (fun iv wr=>∃ j:Nat,iv=vI i6 j/\j<=ks.length/\(∀ m k,m<j->ks[m]?=some k->idxB ns.length k=true)/\bW W wr) (fun i _=>((ks.length:Int)-intOf i).toNat)
 case atStart=>exact⟨0,rfl,by omega,fun m k hm=>absurd hm (by omega),Bw _ _⟩
 case round=>
  obtain⟨j,rfl,hj,d,g⟩:=hrel;have r:=(HQ.out wr g).2.1;by_cases hjn:j<ks.length
  ·have mp:(j:Int)<(ks.length:Int):=by omega
   have m0:(0:Int)<=(j:Int):=by omega
   have z:IntKind.i64.wrap ((j:Int)+1)=(j:Int)+1:=Br _ (by omega);have l:=By hjn;generalize ks[j]=kj at l;obtain⟨rfl,B⟩:=HK.out.2.1 (by omega);have hd:bW W wr.drew:=g.drew;have hq:=HQ.out _ hd;have HA:=xI (aN hj (aN d g));have hc:=zAy kj wr.drew (HT.out _ hd);have a:Hid (∀ wq,Below wr.drew.heap.size wr.drew wq->((jT wq w.heap.size A ns.length c root)/\wq.cell? (aE w 4)=some (vS (some (aD bk ok)) ks.length ck)/\wq.cell? (aD bk (ok+j))=some (vI i6 kj))):=xI fun wq hb=>by
    have h:=HQ.out wq (hd.trans (hb.mono hd.size));exact⟨h.1,h.2.1,h.2.2 j kj l⟩
   clear d g hq;generalize hkn:ks.length=kl at mp r a;have y:=xI hkn;clear hkn;go_wp2_with fail;clear r;refine ub 7 (fun wq=>((jT wq w.heap.size A ns.length c root)/\wq.cell? (aE w 4)=some (vS (some (aD bk ok)) kl ck)/\wq.cell? (aD bk (ok+j))=some (vI i6 kj))) (fun _=>True) ?_;refine oM 0 ⟨a.out _ yR,trivial⟩ ?_;refine oM 1 ⟨a.out _ yR,trivial⟩ ?_;refine oM 2 ⟨a.out _ yR,trivial⟩ ?_;refine oM 3 ⟨a.out _ yR,trivial⟩ ?_;refine oM 4 ⟨a.out _ yR,trivial⟩ ?_;refine oM 5 ⟨a.out _ yR,trivial⟩ ?_;refine uo 6 (fun K hK=>?_);go_simp;refine hc.mono ?_;rintro e w5 ⟨rfl,hb5⟩;clear hc;refine hK _ _ ⟨a.out _ hb5,fun _=>trivial⟩ (oQ ?_);clear hK K;refine uo 7 (fun K hK=>?_);go_simp;refine hK _ _ ⟨a.out _ hb5,fun _=>trivial⟩ (oQ ?_);clear hK K;refine (ud ?_) _;cases hix:idxB ns.length kj with
   | false=>
    go_wp2;go_ret;have o:tnB ns.length ⟨kd,lo,hi,tx,ks,fds,r0,r1⟩=false:=by simp[tnB,hkids]
    exact⟨by rw[o];rfl,HF.out.bel.trans ((HA.out.2.2.drew.trans (hb5.mono HA.out.2.2.drew.size)).mono (by have:=HF.out.siz;omega))⟩
   | true=>
    go_wp2_with fail
    go_roundw
    case rel=>
     refine⟨j+1,by go_num,by omega,fun m k hm hk=>?_,hd.trans (hb5.mono hd.size)⟩;by_cases hmj:m=j
     ·subst hmj;rw[l]at hk;injection hk with hk;rw[<-hk];exact hix
     ·exact HA.out.2.1 m k (by omega) hk
    case measure=>have:=y.out;simp[intOf];omega
  ·exfalso;have hq:ks.all (idxB ns.length)=true:=by
    rw[Cz];intro k hk;obtain⟨m,hm,rfl⟩:=List.mem_iff_getElem.1 hk;exact d m _ (by omega) (By hm)
   rw[hkids]at hq;simp at hq
theorem nb0 (n:Nat):((n:Int)==0)=decide (n=0):=by rw[Dk];simp
theorem nb1 (n:Nat):((n:Int)==1)=decide (n=1):=by rw[Dk];simp;omega
theorem nb2 (n:Nat):((n:Int)==2)=decide (n=2):=by rw[Dk];simp;omega
theorem zOq (ns:List Tn) (root:Int) (A:Option Addr) (c:Nat) (kd lo hi:Int) (tx:List UInt8) (ks:List Int) (fds:List Fd) (r0 r1:Int) (Ak:Option Addr) (ck:Nat) (Af:Option Addr) (cf:Nat) (w:World)
  (hT:TyP w w.heap.size ns root [vS A ns.length c,vI i6 root]) (hN:TnP w w.heap.size ⟨kd,lo,hi,tx,ks,fds,r0,r1⟩ [vI i6 kd,vI i6 lo,vI i6 hi,vT ⟨tx.toArray⟩,vS Ak ks.length ck,vS Af fds.length cf,vI i6 r0,vI i6 r1])
  (hkids:ks.all (idxB ns.length)=true) (hkd:kd=1\/kd=2\/kd=3\/kd=4\/kd=5\/kd=7\/kd=8\/kd=9\/kd=10\/kd=11\/kd=12\/kd=14\/kd=15\/kd=16\/kd=17\/kd=18) :
  Calls tP 75 #[.agg #[vS A ns.length c,vI i6 root],.agg #[vI i6 kd,vI i6 lo,vI i6 hi,vT ⟨tx.toArray⟩,vS Ak ks.length ck,vS Af fds.length cf,vI i6 r0,vI i6 r1]] w fun e w'=>e=.returned (.bool (tnB ns.length ⟨kd,lo,hi,tx,ks,fds,r0,r1⟩))/\bW w w':=by
 have B:=xI hkd;clear hkd;obtain⟨uk,uf,x,q,b,v⟩:=hN;simp only[Bb,and_true]at x;obtain⟨_,_,_,_,rfl,rfl,_,_⟩:=x;obtain⟨bk,ok,g,u⟩:=zD6 b;have g:0<ks.length->Ak=some (aD bk ok)/\bk<w.heap.size:=g;have o:ks.length<=maxLen:=by obtain⟨_,_,h,h',_⟩:=b;exact h'.1
 have hF:=WF.start w (oE A ns.length c root) (oX kd lo hi ⟨tx.toArray⟩ Ak ks.length ck Af fds.length cf r0 r1);obtain⟨W,hW⟩:∃ W,W=((w.alloc (oE A ns.length c root)).alloc (oX kd lo hi ⟨tx.toArray⟩ Ak ks.length ck Af fds.length cf r0 r1)):=⟨_,rfl⟩;rw[<-hW]at hF;have HQ:Hid (∀ wq,bW W wq->((jT wq w.heap.size A ns.length c root)/\wq.cell? (aE w 4)=some (vS Ak ks.length ck)/\∀ j k,ks[j]?=some k->wq.cell? (aD bk (ok+j))=some (vI i6 k))):=xI fun wq hb=>by
  have F:=hF.next hb
  refine⟨⟨cH F.t 0,cH F.t 1⟩,cH F.n 4,fun j k hj=>(F.bel.cell (p:=(aD bk (ok+j))) (g (by have:=(Bx.1 hj).1;omega)).2).trans (u j k hj).1⟩
 have HT:Hid (∀ wq,bW W wq->TyP wq w.heap.size ns root [vS A ns.length c,vI i6 root]):=xI fun wq hb=>hT.on (hF.next hb).bel
 have HF:=xI hF;have HK:=xI (aN o (aN g (aN v q)));clear hF hT u b g v q;unfold maxLen at o;go_enter func75,ntmps75;go_wp2_with fail;rw[<-hW];clear hW
 go_loopw [5] (fun iv wr=>∃ j:Nat,iv=vI i6 j/\j<=ks.length/\(∀ m k,m<j->ks[m]?=some k->idxB ns.length k=true)/\bW W wr) (fun i _=>((ks.length:Int)-intOf i).toNat)
 case atStart=>exact⟨0,rfl,by omega,fun m k hm=>absurd hm (by omega),Bw _ _⟩
 case round=>
  obtain⟨j,rfl,hj,d,f⟩:=hrel;have s:=(HQ.out wr f).2.1;by_cases hjn:j<ks.length
  ·have mp:(j:Int)<(ks.length:Int):=by omega
   have m0:(0:Int)<=(j:Int):=by omega
   have C:IntKind.i64.wrap ((j:Int)+1)=(j:Int)+1:=Br _ (by omega);have l:=By hjn;generalize ks[j]=kj at l;obtain⟨rfl,E⟩:=HK.out.2.1 (by omega);have hd:bW W wr.drew:=f.drew;have hq:=HQ.out _ hd;have HA:=xI (aN hj (aN d f));have hc:=zAy kj wr.drew (HT.out _ hd);have a:Hid (∀ wq,Below wr.drew.heap.size wr.drew wq->((jT wq w.heap.size A ns.length c root)/\wq.cell? (aE w 4)=some (vS (some (aD bk ok)) ks.length ck)/\wq.cell? (aD bk (ok+j))=some (vI i6 kj))):=xI fun wq hb=>by
    have h:=HQ.out wq (hd.trans (hb.mono hd.size));exact⟨h.1,h.2.1,h.2.2 j kj l⟩
   clear d f hq;generalize hkn:ks.length=kl at mp s a;have y:=xI hkn;clear hkn;go_wp2_with fail;clear s;refine ub 7 (fun wq=>((jT wq w.heap.size A ns.length c root)/\wq.cell? (aE w 4)=some (vS (some (aD bk ok)) kl ck)/\wq.cell? (aD bk (ok+j))=some (vI i6 kj))) (fun _=>True) ?_;refine oM 0 ⟨a.out _ yR,trivial⟩ ?_;refine oM 1 ⟨a.out _ yR,trivial⟩ ?_;refine oM 2 ⟨a.out _ yR,trivial⟩ ?_;refine oM 3 ⟨a.out _ yR,trivial⟩ ?_;refine oM 4 ⟨a.out _ yR,trivial⟩ ?_;refine oM 5 ⟨a.out _ yR,trivial⟩ ?_;refine uo 6 (fun K hK=>?_);go_simp;refine hc.mono ?_;rintro e w5 ⟨rfl,hb5⟩;clear hc;refine hK _ _ ⟨a.out _ hb5,fun _=>trivial⟩ (oQ ?_);clear hK K;refine uo 7 (fun K hK=>?_);go_simp;refine hK _ _ ⟨a.out _ hb5,fun _=>trivial⟩ (oQ ?_);clear hK K;refine (ud ?_) _;cases hix:idxB ns.length kj with
   | false=>
    rw[Cz]at hkids;rw[hkids kj (Bh l)]at hix;exact absurd hix (by decide)
   | true=>
    go_wp2_with fail
    go_roundw
    case rel=>
     refine⟨j+1,by go_num,by omega,fun m k hm hk=>?_,hd.trans (hb5.mono hd.size)⟩;by_cases hmj:m=j
     ·subst hmj;rw[l]at hk;injection hk with hk;rw[<-hk];exact hix
     ·exact HA.out.2.1 m k (by omega) hk
    case measure=>have:=y.out;simp[intOf];omega
  ·have mp:¬ (j:Int)<(ks.length:Int):=by omega
   have F:=HF.out.next f
   obtain⟨n0,n1,n2,n3,n4,n5,n6,n7⟩:=zAe F.n;have D:=fun W=>zEw HK.out.2.2.2.2.2.2.2.1 HK.out.2.2.2.2.2.2.2.2 W;have r:tx.length<=maxLen:=HK.out.2.2.2.2.2.2.1;have HB:=xI F.bel;clear d f F o;have z:=xI hkids;clear HK HQ HT HF hkids;generalize hkn:ks.length=nk at *;generalize hfn:fds.length=nf at *;have HN:=xI (aN hkn hfn);have G:=xI r;clear hkn hfn r;rcases B.out with rfl|rfl|rfl|rfl|rfl|rfl|rfl|rfl|rfl|rfl|rfl|rfl|rfl|rfl|rfl|rfl
   all_goals go_wp2
   all_goals go_ret
   all_goals refine⟨?_,HB.out⟩
   all_goals simp only[tnB,useB,formB,z.out,zCe,HN.out.1,HN.out.2,nb0,nb1,nb2]
   all_goals try simp only[Bool.not_eq_true',Bool.not_eq_false',List.isEmpty_iff,List.isEmpty_eq_false_iff,Cu,Bf,ne_eq]at *
   all_goals first|(simp[*];done)|(simp_all;done)|(simp_all;omega)|(simp_all [nb0,nb1,nb2];done)|(simp_all [nb0,nb1,nb2];omega)|(simp_all;rw[Dk];simp;omega)
theorem zOr (ns:List Tn) (root:Int) (A:Option Addr) (c:Nat) (kd lo hi:Int) (tx:List UInt8) (ks:List Int) (fds:List Fd) (r0 r1:Int) (Ak:Option Addr) (ck:Nat) (Af:Option Addr) (cf:Nat) (w:World)
  (hT:TyP w w.heap.size ns root [vS A ns.length c,vI i6 root]) (hN:TnP w w.heap.size ⟨kd,lo,hi,tx,ks,fds,r0,r1⟩ [vI i6 kd,vI i6 lo,vI i6 hi,vT ⟨tx.toArray⟩,vS Ak ks.length ck,vS Af fds.length cf,vI i6 r0,vI i6 r1])
  (hkids:ks.all (idxB ns.length)=true) (hkd:kd=6) :
  Calls tP 75 #[.agg #[vS A ns.length c,vI i6 root],.agg #[vI i6 kd,vI i6 lo,vI i6 hi,vT ⟨tx.toArray⟩,vS Ak ks.length ck,vS Af fds.length cf,vI i6 r0,vI i6 r1]] w fun e w'=>e=.returned (.bool (tnB ns.length ⟨kd,lo,hi,tx,ks,fds,r0,r1⟩))/\bW w w':=by
 have C:=xI hkd;clear hkd;obtain⟨uk,uf,x,q,b,v⟩:=hN;simp only[Bb,and_true]at x;obtain⟨_,_,_,_,rfl,rfl,_,_⟩:=x;obtain⟨bk,ok,g,u⟩:=zD6 b;have g:0<ks.length->Ak=some (aD bk ok)/\bk<w.heap.size:=g;have o:ks.length<=maxLen:=by obtain⟨_,_,h,h',_⟩:=b;exact h'.1
 have hF:=WF.start w (oE A ns.length c root) (oX kd lo hi ⟨tx.toArray⟩ Ak ks.length ck Af fds.length cf r0 r1);obtain⟨W,hW⟩:∃ W,W=((w.alloc (oE A ns.length c root)).alloc (oX kd lo hi ⟨tx.toArray⟩ Ak ks.length ck Af fds.length cf r0 r1)):=⟨_,rfl⟩;rw[<-hW]at hF;have HQ:Hid (∀ wq,bW W wq->((jT wq w.heap.size A ns.length c root)/\wq.cell? (aE w 4)=some (vS Ak ks.length ck)/\∀ j k,ks[j]?=some k->wq.cell? (aD bk (ok+j))=some (vI i6 k))):=xI fun wq hb=>by
  have F:=hF.next hb
  refine⟨⟨cH F.t 0,cH F.t 1⟩,cH F.n 4,fun j k hj=>(F.bel.cell (p:=(aD bk (ok+j))) (g (by have:=(Bx.1 hj).1;omega)).2).trans (u j k hj).1⟩
 have HT:Hid (∀ wq,bW W wq->TyP wq w.heap.size ns root [vS A ns.length c,vI i6 root]):=xI fun wq hb=>hT.on (hF.next hb).bel
 have HF:=xI hF;have HK:=xI (aN o (aN g (aN v q)));clear hF hT u b g v q;unfold maxLen at o;go_enter func75,ntmps75;go_wp2_with fail;rw[<-hW];clear hW
 go_loopw [5] (fun iv wr=>∃ j:Nat,iv=vI i6 j/\j<=ks.length/\(∀ m k,m<j->ks[m]?=some k->idxB ns.length k=true)/\bW W wr) (fun i _=>((ks.length:Int)-intOf i).toNat)
 case atStart=>exact⟨0,rfl,by omega,fun m k hm=>absurd hm (by omega),Bw _ _⟩
 case round=>
  obtain⟨j,rfl,hj,d,f⟩:=hrel;have s:=(HQ.out wr f).2.1;by_cases hjn:j<ks.length
  ·have mp:(j:Int)<(ks.length:Int):=by omega
   have m0:(0:Int)<=(j:Int):=by omega
   have D:IntKind.i64.wrap ((j:Int)+1)=(j:Int)+1:=Br _ (by omega);have l:=By hjn;generalize ks[j]=kj at l;obtain⟨rfl,G⟩:=HK.out.2.1 (by omega);have hd:bW W wr.drew:=f.drew;have hq:=HQ.out _ hd;have HA:=xI (aN hj (aN d f));have hc:=zAy kj wr.drew (HT.out _ hd);have a:Hid (∀ wq,Below wr.drew.heap.size wr.drew wq->((jT wq w.heap.size A ns.length c root)/\wq.cell? (aE w 4)=some (vS (some (aD bk ok)) ks.length ck)/\wq.cell? (aD bk (ok+j))=some (vI i6 kj))):=xI fun wq hb=>by
    have h:=HQ.out wq (hd.trans (hb.mono hd.size));exact⟨h.1,h.2.1,h.2.2 j kj l⟩
   clear d f hq;generalize hkn:ks.length=kl at mp s a;have z:=xI hkn;clear hkn;go_wp2_with fail;clear s;refine ub 7 (fun wq=>((jT wq w.heap.size A ns.length c root)/\wq.cell? (aE w 4)=some (vS (some (aD bk ok)) kl ck)/\wq.cell? (aD bk (ok+j))=some (vI i6 kj))) (fun _=>True) ?_;refine oM 0 ⟨a.out _ yR,trivial⟩ ?_;refine oM 1 ⟨a.out _ yR,trivial⟩ ?_;refine oM 2 ⟨a.out _ yR,trivial⟩ ?_;refine oM 3 ⟨a.out _ yR,trivial⟩ ?_;refine oM 4 ⟨a.out _ yR,trivial⟩ ?_;refine oM 5 ⟨a.out _ yR,trivial⟩ ?_;refine uo 6 (fun K hK=>?_);go_simp;refine hc.mono ?_;rintro e w5 ⟨rfl,hb5⟩;clear hc;refine hK _ _ ⟨a.out _ hb5,fun _=>trivial⟩ (oQ ?_);clear hK K;refine uo 7 (fun K hK=>?_);go_simp;refine hK _ _ ⟨a.out _ hb5,fun _=>trivial⟩ (oQ ?_);clear hK K;refine (ud ?_) _;cases hix:idxB ns.length kj with
   | false=>
    rw[Cz]at hkids;rw[hkids kj (Bh l)]at hix;exact absurd hix (by decide)
   | true=>
    go_wp2_with fail
    go_roundw
    case rel=>
     refine⟨j+1,by go_num,by omega,fun m k hm hk=>?_,hd.trans (hb5.mono hd.size)⟩;by_cases hmj:m=j
     ·subst hmj;rw[l]at hk;injection hk with hk;rw[<-hk];exact hix
     ·exact HA.out.2.1 m k (by omega) hk
    case measure=>have:=z.out;simp[intOf];omega
  ·have mp:¬ (j:Int)<(ks.length:Int):=by omega
   have F:=HF.out.next f
   obtain⟨n0,n1,n2,n3,n4,n5,n6,n7⟩:=zAe F.n;have E:=fun W=>zEw HK.out.2.2.2.2.2.2.2.1 HK.out.2.2.2.2.2.2.2.2 W;have r:tx.length<=maxLen:=HK.out.2.2.2.2.2.2.1;have HB:=xI F.bel;clear d f F o;have B:=xI hkids;clear HK HQ HT HF hkids;generalize hkn:ks.length=nk at *;generalize hfn:fds.length=nf at *;have HN:=xI (aN hkn hfn);have y:=xI r;clear hkn hfn r;obtain rfl:=C.out;have hc:=fun U=>zCy ⟨tx.toArray⟩ U (by simpa [ByteArray.size] using y.out);go_wp2_with (go_at_call 115;refine (hc _).mono ?_;rintro e w5 ⟨rfl,rfl⟩)
   all_goals go_ret
   all_goals refine⟨?_,HB.out⟩
   all_goals simp only[tnB,useB,formB,B.out,zCe,HN.out.1,HN.out.2,nb0,nb1,nb2]
   all_goals try simp only[Bool.not_eq_true',Bool.not_eq_false',List.isEmpty_iff,List.isEmpty_eq_false_iff,Cu,Bf,ne_eq]at *
   all_goals first|(simp[*];done)|(simp_all;done)|(simp_all;omega)|(simp_all [nb0,nb1,nb2];done)|(simp_all [nb0,nb1,nb2];omega)|(simp_all;rw[Dk];simp;omega)
theorem zRf (ns:List Tn) (root:Int) (A:Option Addr) (c:Nat) (kd lo hi:Int) (tx:List UInt8) (ks:List Int) (fds:List Fd) (r0 r1:Int) (Ak:Option Addr) (ck:Nat) (Af:Option Addr) (cf:Nat) (w:World)
  (hT:TyP w w.heap.size ns root [vS A ns.length c,vI i6 root]) (hN:TnP w w.heap.size ⟨kd,lo,hi,tx,ks,fds,r0,r1⟩ [vI i6 kd,vI i6 lo,vI i6 hi,vT ⟨tx.toArray⟩,vS Ak ks.length ck,vS Af fds.length cf,vI i6 r0,vI i6 r1])
  (hkids:ks.all (idxB ns.length)=true) (hkd:kd=19) :
  Calls tP 75 #[.agg #[vS A ns.length c,vI i6 root],.agg #[vI i6 kd,vI i6 lo,vI i6 hi,vT ⟨tx.toArray⟩,vS Ak ks.length ck,vS Af fds.length cf,vI i6 r0,vI i6 r1]] w fun e w'=>e=.returned (.bool (tnB ns.length ⟨kd,lo,hi,tx,ks,fds,r0,r1⟩))/\bW w w':=by
 have C:=xI hkd;clear hkd;obtain⟨uk,uf,x,q,b,v⟩:=hN;simp only[Bb,and_true]at x;obtain⟨_,_,_,_,rfl,rfl,_,_⟩:=x;obtain⟨bk,ok,g,u⟩:=zD6 b;have g:0<ks.length->Ak=some (aD bk ok)/\bk<w.heap.size:=g;have o:ks.length<=maxLen:=by obtain⟨_,_,h,h',_⟩:=b;exact h'.1
 have hF:=WF.start w (oE A ns.length c root) (oX kd lo hi ⟨tx.toArray⟩ Ak ks.length ck Af fds.length cf r0 r1);obtain⟨W,hW⟩:∃ W,W=((w.alloc (oE A ns.length c root)).alloc (oX kd lo hi ⟨tx.toArray⟩ Ak ks.length ck Af fds.length cf r0 r1)):=⟨_,rfl⟩;rw[<-hW]at hF;have HQ:Hid (∀ wq,bW W wq->((jT wq w.heap.size A ns.length c root)/\wq.cell? (aE w 4)=some (vS Ak ks.length ck)/\∀ j k,ks[j]?=some k->wq.cell? (aD bk (ok+j))=some (vI i6 k))):=xI fun wq hb=>by
  have F:=hF.next hb
  refine⟨⟨cH F.t 0,cH F.t 1⟩,cH F.n 4,fun j k hj=>(F.bel.cell (p:=(aD bk (ok+j))) (g (by have:=(Bx.1 hj).1;omega)).2).trans (u j k hj).1⟩
 have HT:Hid (∀ wq,bW W wq->TyP wq w.heap.size ns root [vS A ns.length c,vI i6 root]):=xI fun wq hb=>hT.on (hF.next hb).bel
 have HF:=xI hF;have HK:=xI (aN o (aN g (aN v q)));clear hF hT u b g v q;unfold maxLen at o;go_enter func75,ntmps75;go_wp2_with fail;rw[<-hW];clear hW
 go_loopw [5] (fun iv wr=>∃ j:Nat,iv=vI i6 j/\j<=ks.length/\(∀ m k,m<j->ks[m]?=some k->idxB ns.length k=true)/\bW W wr) (fun i _=>((ks.length:Int)-intOf i).toNat)
 case atStart=>exact⟨0,rfl,by omega,fun m k hm=>absurd hm (by omega),Bw _ _⟩
 case round=>
  obtain⟨j,rfl,hj,d,f⟩:=hrel;have s:=(HQ.out wr f).2.1;by_cases hjn:j<ks.length
  ·have mp:(j:Int)<(ks.length:Int):=by omega
   have m0:(0:Int)<=(j:Int):=by omega
   have D:IntKind.i64.wrap ((j:Int)+1)=(j:Int)+1:=Br _ (by omega);have l:=By hjn;generalize ks[j]=kj at l;obtain⟨rfl,G⟩:=HK.out.2.1 (by omega);have hd:bW W wr.drew:=f.drew;have hq:=HQ.out _ hd;have HA:=xI (aN hj (aN d f));have hc:=zAy kj wr.drew (HT.out _ hd);have a:Hid (∀ wq,Below wr.drew.heap.size wr.drew wq->((jT wq w.heap.size A ns.length c root)/\wq.cell? (aE w 4)=some (vS (some (aD bk ok)) ks.length ck)/\wq.cell? (aD bk (ok+j))=some (vI i6 kj))):=xI fun wq hb=>by
    have h:=HQ.out wq (hd.trans (hb.mono hd.size));exact⟨h.1,h.2.1,h.2.2 j kj l⟩
   clear d f hq;generalize hkn:ks.length=kl at mp s a;have z:=xI hkn;clear hkn;go_wp2_with fail;clear s;refine ub 7 (fun wq=>((jT wq w.heap.size A ns.length c root)/\wq.cell? (aE w 4)=some (vS (some (aD bk ok)) kl ck)/\wq.cell? (aD bk (ok+j))=some (vI i6 kj))) (fun _=>True) ?_;refine oM 0 ⟨a.out _ yR,trivial⟩ ?_;refine oM 1 ⟨a.out _ yR,trivial⟩ ?_;refine oM 2 ⟨a.out _ yR,trivial⟩ ?_;refine oM 3 ⟨a.out _ yR,trivial⟩ ?_;refine oM 4 ⟨a.out _ yR,trivial⟩ ?_;refine oM 5 ⟨a.out _ yR,trivial⟩ ?_;refine uo 6 (fun K hK=>?_);go_simp;refine hc.mono ?_;rintro e w5 ⟨rfl,hb5⟩;clear hc;refine hK _ _ ⟨a.out _ hb5,fun _=>trivial⟩ (oQ ?_);clear hK K;refine uo 7 (fun K hK=>?_);go_simp;refine hK _ _ ⟨a.out _ hb5,fun _=>trivial⟩ (oQ ?_);clear hK K;refine (ud ?_) _;cases hix:idxB ns.length kj with
   | false=>
    rw[Cz]at hkids;rw[hkids kj (Bh l)]at hix;exact absurd hix (by decide)
   | true=>
    go_wp2_with fail
    go_roundw
    case rel=>
     refine⟨j+1,by go_num,by omega,fun m k hm hk=>?_,hd.trans (hb5.mono hd.size)⟩;by_cases hmj:m=j
     ·subst hmj;rw[l]at hk;injection hk with hk;rw[<-hk];exact hix
     ·exact HA.out.2.1 m k (by omega) hk
    case measure=>have:=z.out;simp[intOf];omega
  ·have mp:¬ (j:Int)<(ks.length:Int):=by omega
   have F:=HF.out.next f
   obtain⟨n0,n1,n2,n3,n4,n5,n6,n7⟩:=zAe F.n;have E:=fun W=>zEw HK.out.2.2.2.2.2.2.2.1 HK.out.2.2.2.2.2.2.2.2 W;have r:tx.length<=maxLen:=HK.out.2.2.2.2.2.2.1;have HB:=xI F.bel;clear d f F o;have B:=xI hkids;clear HK HQ HT HF hkids;generalize hkn:ks.length=nk at *;generalize hfn:fds.length=nf at *;have HN:=xI (aN hkn hfn);have y:=xI r;clear hkn hfn r;obtain rfl:=C.out;have hc:=fun U=>zA2 ⟨tx.toArray⟩ U (by simpa [ByteArray.size] using y.out);go_wp2_with (go_at_call 29;refine (hc _).mono ?_;rintro e w5 ⟨rfl,rfl⟩)
   all_goals go_ret
   all_goals refine⟨?_,HB.out⟩
   all_goals simp only[tnB,useB,formB,B.out,zCe,HN.out.1,HN.out.2,nb0,nb1,nb2]
   all_goals try simp only[Bool.not_eq_true',Bool.not_eq_false',List.isEmpty_iff,List.isEmpty_eq_false_iff,Cu,Bf,ne_eq]at *
   all_goals first|(simp[*];done)|(simp_all;done)|(simp_all;omega)|(simp_all [nb0,nb1,nb2];done)|(simp_all [nb0,nb1,nb2];omega)|(simp_all;rw[Dk];simp;omega)
theorem zMd (ns:List Tn) (root:Int) (A:Option Addr) (c:Nat) (kd lo hi:Int) (tx:List UInt8) (ks:List Int) (fds:List Fd) (r0 r1:Int) (Ak:Option Addr) (ck:Nat) (Af:Option Addr) (cf:Nat) (w:World)
  (hT:TyP w w.heap.size ns root [vS A ns.length c,vI i6 root]) (hN:TnP w w.heap.size ⟨kd,lo,hi,tx,ks,fds,r0,r1⟩ [vI i6 kd,vI i6 lo,vI i6 hi,vT ⟨tx.toArray⟩,vS Ak ks.length ck,vS Af fds.length cf,vI i6 r0,vI i6 r1])
  (hkids:ks.all (idxB ns.length)=true) (hkd:¬ kd=1/\¬ kd=2/\¬ kd=3/\¬ kd=4/\¬ kd=5/\¬ kd=6/\¬ kd=7/\¬ kd=8/\¬ kd=9/\¬ kd=10/\¬ kd=11/\¬ kd=12/\¬ kd=13/\¬ kd=14/\¬ kd=15/\¬ kd=16/\¬ kd=17/\¬ kd=18/\¬ kd=19) :
  Calls tP 75 #[.agg #[vS A ns.length c,vI i6 root],.agg #[vI i6 kd,vI i6 lo,vI i6 hi,vT ⟨tx.toArray⟩,vS Ak ks.length ck,vS Af fds.length cf,vI i6 r0,vI i6 r1]] w fun e w'=>e=.returned (.bool (tnB ns.length ⟨kd,lo,hi,tx,ks,fds,r0,r1⟩))/\bW w w':=by
 have B:=xI hkd;clear hkd;obtain⟨uk,uf,x,q,b,v⟩:=hN;simp only[Bb,and_true]at x;obtain⟨_,_,_,_,rfl,rfl,_,_⟩:=x;obtain⟨bk,ok,g,u⟩:=zD6 b;have g:0<ks.length->Ak=some (aD bk ok)/\bk<w.heap.size:=g;have o:ks.length<=maxLen:=by obtain⟨_,_,h,h',_⟩:=b;exact h'.1
 have hF:=WF.start w (oE A ns.length c root) (oX kd lo hi ⟨tx.toArray⟩ Ak ks.length ck Af fds.length cf r0 r1);obtain⟨W,hW⟩:∃ W,W=((w.alloc (oE A ns.length c root)).alloc (oX kd lo hi ⟨tx.toArray⟩ Ak ks.length ck Af fds.length cf r0 r1)):=⟨_,rfl⟩;rw[<-hW]at hF;have HQ:Hid (∀ wq,bW W wq->((jT wq w.heap.size A ns.length c root)/\wq.cell? (aE w 4)=some (vS Ak ks.length ck)/\∀ j k,ks[j]?=some k->wq.cell? (aD bk (ok+j))=some (vI i6 k))):=xI fun wq hb=>by
  have F:=hF.next hb
  refine⟨⟨cH F.t 0,cH F.t 1⟩,cH F.n 4,fun j k hj=>(F.bel.cell (p:=(aD bk (ok+j))) (g (by have:=(Bx.1 hj).1;omega)).2).trans (u j k hj).1⟩
 have HT:Hid (∀ wq,bW W wq->TyP wq w.heap.size ns root [vS A ns.length c,vI i6 root]):=xI fun wq hb=>hT.on (hF.next hb).bel
 have HF:=xI hF;have HK:=xI (aN o (aN g (aN v q)));clear hF hT u b g v q;unfold maxLen at o;go_enter func75,ntmps75;go_wp2_with fail;rw[<-hW];clear hW
 go_loopw [5] (fun iv wr=>∃ j:Nat,iv=vI i6 j/\j<=ks.length/\(∀ m k,m<j->ks[m]?=some k->idxB ns.length k=true)/\bW W wr) (fun i _=>((ks.length:Int)-intOf i).toNat)
 case atStart=>exact⟨0,rfl,by omega,fun m k hm=>absurd hm (by omega),Bw _ _⟩
 case round=>
  obtain⟨j,rfl,hj,d,f⟩:=hrel;have s:=(HQ.out wr f).2.1;by_cases hjn:j<ks.length
  ·have mp:(j:Int)<(ks.length:Int):=by omega
   have m0:(0:Int)<=(j:Int):=by omega
   have O:IntKind.i64.wrap ((j:Int)+1)=(j:Int)+1:=Br _ (by omega);have l:=By hjn;generalize ks[j]=kj at l;obtain⟨rfl,Q⟩:=HK.out.2.1 (by omega);have hd:bW W wr.drew:=f.drew;have hq:=HQ.out _ hd;have HA:=xI (aN hj (aN d f));have hc:=zAy kj wr.drew (HT.out _ hd);have a:Hid (∀ wq,Below wr.drew.heap.size wr.drew wq->((jT wq w.heap.size A ns.length c root)/\wq.cell? (aE w 4)=some (vS (some (aD bk ok)) ks.length ck)/\wq.cell? (aD bk (ok+j))=some (vI i6 kj))):=xI fun wq hb=>by
    have h:=HQ.out wq (hd.trans (hb.mono hd.size));exact⟨h.1,h.2.1,h.2.2 j kj l⟩
   clear d f hq;generalize hkn:ks.length=kl at mp s a;have y:=xI hkn;clear hkn;go_wp2_with fail;clear s;refine ub 7 (fun wq=>((jT wq w.heap.size A ns.length c root)/\wq.cell? (aE w 4)=some (vS (some (aD bk ok)) kl ck)/\wq.cell? (aD bk (ok+j))=some (vI i6 kj))) (fun _=>True) ?_;refine oM 0 ⟨a.out _ yR,trivial⟩ ?_;refine oM 1 ⟨a.out _ yR,trivial⟩ ?_;refine oM 2 ⟨a.out _ yR,trivial⟩ ?_;refine oM 3 ⟨a.out _ yR,trivial⟩ ?_;refine oM 4 ⟨a.out _ yR,trivial⟩ ?_;refine oM 5 ⟨a.out _ yR,trivial⟩ ?_;refine uo 6 (fun K hK=>?_);go_simp;refine hc.mono ?_;rintro e w5 ⟨rfl,hb5⟩;clear hc;refine hK _ _ ⟨a.out _ hb5,fun _=>trivial⟩ (oQ ?_);clear hK K;refine uo 7 (fun K hK=>?_);go_simp;refine hK _ _ ⟨a.out _ hb5,fun _=>trivial⟩ (oQ ?_);clear hK K;refine (ud ?_) _;cases hix:idxB ns.length kj with
   | false=>
    rw[Cz]at hkids;rw[hkids kj (Bh l)]at hix;exact absurd hix (by decide)
   | true=>
    go_wp2_with fail
    go_roundw
    case rel=>
     refine⟨j+1,by go_num,by omega,fun m k hm hk=>?_,hd.trans (hb5.mono hd.size)⟩;by_cases hmj:m=j
     ·subst hmj;rw[l]at hk;injection hk with hk;rw[<-hk];exact hix
     ·exact HA.out.2.1 m k (by omega) hk
    case measure=>have:=y.out;simp[intOf];omega
  ·have mp:¬ (j:Int)<(ks.length:Int):=by omega
   have F:=HF.out.next f
   obtain⟨n0,n1,n2,n3,n4,n5,n6,n7⟩:=zAe F.n;have P:=fun W=>zEw HK.out.2.2.2.2.2.2.2.1 HK.out.2.2.2.2.2.2.2.2 W;have r:tx.length<=maxLen:=HK.out.2.2.2.2.2.2.1;have HB:=xI F.bel;clear d f F o;have z:=xI hkids;clear HK HQ HT HF hkids;generalize hkn:ks.length=nk at *;generalize hfn:fds.length=nf at *;have HN:=xI (aN hkn hfn);have R:=xI r;clear hkn hfn r;obtain⟨k1,k2,k3,k4,k5,k6,k7,k8,k9,N,M,L,J,I,H,G,E,D,C⟩:=B.out
   all_goals go_wp2
   all_goals go_ret
   all_goals refine⟨?_,HB.out⟩
   all_goals simp only[tnB,useB,formB,z.out,zCe,HN.out.1,HN.out.2,nb0,nb1,nb2]
   all_goals try simp only[Bool.not_eq_true',Bool.not_eq_false',List.isEmpty_iff,List.isEmpty_eq_false_iff,Cu,Bf,ne_eq]at *
   all_goals first|(simp[*];done)|(simp_all;done)|(simp_all;omega)|(simp_all [nb0,nb1,nb2];done)|(simp_all [nb0,nb1,nb2];omega)|(simp_all;rw[Dk];simp;omega)
open Go.Shelf
attribute [local go_sem] Oper.semAt_some
theorem zLd (A:Option Addr) (nn c pb po:Nat) (x:Tn) (Ak Af:Option Addr) (ck cf:Nat) (w:World) (hN:NdAt (fun b=>b<w.heap.size) w pb po x Ak Af ck cf) :
  Calls tP 50 #[.pointer (some (aD pb po)),vS A nn c] w fun e w'=>e=.returned (.bool (refP nn x))/\bW w w':=by
 refine (callsIn_wide (n:=6)).1 ?_;refine callsIn_of_wp_marks func50 rfl trivial ?_ rfl;simp only[ntmps50,Dh,Cj,Cl,Nat.reduceAdd,Nat.reduceSub,Array.replicate_succ,Array.replicate_zero,List.push_toArray,List.append_toArray,Cn,Dr]
 gi_wp2_with (refine⟨trivial,?_⟩;gi_at_call 91;refine (zKm _ _ _).mono ?_;rintro e w' ⟨rfl,rfl⟩)
 have bN:=Boxed.new w 22 (vS A nn c);have bR:=Boxed.new (w.alloc (.cells #[vS A nn c] 22 (0,0))) 4 (.bool false);have bP:=Boxed.new ((w.alloc (.cells #[vS A nn c] 22 (0,0))).alloc (.cells #[.bool false] 4 (0,0))) 91 (.pointer (some (aD pb po)));simp only[World.size_alloc]at bR bP;have i:bW w (((w.alloc (.cells #[vS A nn c] 22 (0,0))).alloc (.cells #[.bool false] 4 (0,0))).alloc (.cells #[.pointer (some (aD pb po))] 91 (0,0))):=(((Bw _ w).alloc lR _).alloc (by simp) _).alloc (by simp;omega) _;have hz:(((w.alloc (.cells #[vS A nn c] 22 (0,0))).alloc (.cells #[.bool false] 4 (0,0))).alloc (.cells #[.pointer (some (aD pb po))] 91 (0,0))).heap.size=w.heap.size+3:=by simp
 obtain⟨xs,g⟩:∃ xs:List {k:Int // True},xs.map Subtype.val=edg x:=⟨(edg x).map fun k=>⟨k,trivial⟩,by rw[List.map_map];exact List.map_id _⟩;have m:NdAt (fun b=>b<w.heap.size+3) (((w.alloc (.cells #[vS A nn c] 22 (0,0))).alloc (.cells #[.bool false] 4 (0,0))).alloc (.cells #[.pointer (some (aD pb po))] 91 (0,0))) pb po x Ak Af ck cf:=by
  have h:=hN.keep (Same.of_below i fun _ h=>h);exact⟨⟨by have:=h.own.1;omega,h.own.2⟩,h.c0,h.c4,h.c5,h.c6,h.c7,h.hk.sub (fun b hb=>by omega) fun _ _ h=>h,h.hf.sub (fun b hb=>by omega) fun _ _ h=>h⟩
 have j:=xI g;refine wpIn_rangeFunc_ownG rfl (by omega) (gf:=140) (lb:=#[.pointer (some (aD (w.heap.size+2) 0))]) rfl trivial (enters_of func140 (by kernel_rfl) rfl)
  (zFw 5 (w.heap.size+2) (by omega) (fun b=>b<w.heap.size+3) pb po x Ak Af ck cf (fun _=>True) xs g _ (by rw[hz];exact fun b h=>h) (by show w.heap.size+2<w.heap.size+3;omega) bP.cell m) zMv (zMw (n0:=w.heap.size+3) (fun b h=>h) (by rw[hz];exact Bc _)) yR (fun _=>rfl)
  (fun pre W=>((∀ y∈pre,idxB nn y.1=true)/\W.cell? (aH w 0)=some (vS A nn c)/\W.cell? (aE w 0)=some (.bool false)/\W.frozen? (aE w 0)=false)/\bW w W)
  (fun c pre W=>(c=.ret/\(∃ y∈pre,idxB nn y.1=false)/\W.cell? (aE w 0)=some (.bool false))/\bW w W)
  (OwnFrom.and (Own.from (fun s A B row hs hg hr=>⟨hs.1,cell_kept hs.2.1 hg hr,cell_kept hs.2.2.1 hg hr,(frozen_kept hs.2.2.1 hg hr).trans hs.2.2.2⟩) _) (ownFrom_below lR (by simp;omega)))
  (fun c=>OwnFrom.and (Own.from (fun s A B row hs hg hr=>⟨hs.1,hs.2.1,cell_kept hs.2.2 hg hr⟩) _) (ownFrom_below lR (by simp;omega)))
  ⟨⟨by simp,((bN.alloc _).alloc _).cell,(bR.alloc _).cell,(bR.alloc _).frozen⟩,i⟩
  (fun y=>{ tmps:=#[.pointer (some (aD pb po)),vS A nn c,undef,.pointer (some (aH w 0)),.pointer (some (aE w 0)),vI i6 y.1,.pointer (some (aD pb po)),.func (.func 140) #[] #[.pointer (some (aD (w.heap.size+2) 0))],vI i6 y.1,undef,undef,undef,undef],defers:=[] }) ?assign ?body ?done ?stop
 case assign=>
  intro l x W K hK
  gi_wp2
  exact hK
 case body=>
  rintro l pre y W ⟨⟨hp,hcn,hcr,hfr⟩,hB⟩ _;cases hi:idxB nn y.1 with
  | false=>
   have a:=fun U=>zEy A nn c y.1 U;rw[hi]at a
   gi_wp2_with (refine⟨trivial,?_⟩;gi_at_call 47;refine (CallsIn.inRound l (callsIn_wide.2 (a _))).mono ?_;rintro e w2 ⟨rfl,rfl⟩)
   exact⟨(KeepsOthers.setCell _ _ _).from _,⟨rfl,⟨y,by simp,hi⟩,World.cell?_setCell_same' _ _ _ (by rw[hcr];rfl)⟩,hB.setCell (p:=(aE w 0)) (by simp) _⟩
  | true=>
   have a:=fun U=>zEy A nn c y.1 U;rw[hi]at a
   gi_wp2_with (refine⟨trivial,?_⟩;gi_at_call 47;refine (CallsIn.inRound l (callsIn_wide.2 (a _))).mono ?_;rintro e w2 ⟨rfl,rfl⟩)
   exact⟨KeepsFrom.refl _ _,Same.refl _ _,⟨fun p hp'=>(B7.1 hp').elim (hp p) (fun e=>by simp at e;subst e;exact hi),hcn,hcr,hfr⟩,hB⟩
 case done=>
  rintro D ys W hD rfl ⟨⟨hne,hcn,hcr,hfr⟩,hB⟩ hK
  gi_wp2
  have f:=(KeepsOthers.setCell W (aE w 0) (.bool true)).same D _ hK rfl;refine⟨by simp,.inl ⟨_,_,rfl,run_takeDeferred f,?_⟩⟩;have d:=cell_kept (World.cell?_setCell_same' W (aE w 0) (.bool true) (by rw[hcr];rfl)) (grownBy_putObj' _ D (.deferred none)) (fun r e=>by cases e;exact⟨_,f,rfl⟩);refine⟨.bool true,?_,?_,(hB.setCell (p:=(aE w 0)) (by simp) _).trans (belowK_b (w:=w) lR _ D _ _ (by simp at hD;omega) f rfl rfl)⟩
  ·simp[results,Tryz.f50,go_sem,d]
  ·have:refP nn x=true:=by
    unfold refP;rw[<-j.out,List.all_map,Cz];exact fun y hy=>hne y hy
   rw[this]
 case stop=>
  rintro D c pre W hD hpre ⟨⟨rfl,⟨y,hy,hi⟩,hcr⟩,hB⟩ hK
  gi_wp2
  refine⟨by simp,.inl ⟨_,_,rfl,run_takeDeferred hK,?_⟩⟩;have d:=cell_kept hcr (grownBy_putObj' _ D (.deferred none)) (fun r e=>by cases e;exact⟨_,hK,rfl⟩);refine⟨.bool false,?_,?_,hB.trans (belowK_b (w:=w) lR W D _ _ (by simp at hD;omega) hK rfl rfl)⟩
  ·simp[results,Tryz.f50,go_sem,d]
  ·have:refP nn x=false:=by
    unfold refP;rw[<-j.out,List.all_map,Dy];exact⟨y,hpre.subset hy,by simp[hi]⟩
   rw[this]
end Go.Proofs.YteedihhdcbepmaaGreat
