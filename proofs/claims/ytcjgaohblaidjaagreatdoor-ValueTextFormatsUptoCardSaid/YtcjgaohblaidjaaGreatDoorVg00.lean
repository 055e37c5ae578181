/- Values of the document as trees, and how such a tree lies in the heap. -/
import Derived.Test.YtcjgaohblaidjaaGreatDoorVgZ
import Derived.WalkKit
import Derived.Below
import Derived.ChangeArms
import Derived.DataReads
import Derived.WideShapes
import Derived.Deep.Slices
import Derived.Lib.Builder
import Derived.Lib.Hide
import Derived.Lib.ItoaNum
import Derived.Lib.ParseIntB
import Derived.Lib.Strings
import Derived.Test.YtcjgaohblaidjaaGreatDoorVgShelf
import Derived.BigFrame
import Derived.BigQuiet
import Derived.Test.YtcjgaohblaidjaaGreatDoorProg
import Derived.OwnWalk
import Derived.Deep.AppendLies
import Derived.Deep.RegionLaw
import Derived.Lib.BufferWrite
import Derived.WalkSpells
import Derived.WalkLawsBesides
import Derived.Outline
set_option maxHeartbeats 800000
namespace Go.Proofs.YtcjgaohblaidjaaGreatDoor
open Go Go.RowKit Go.WideShapes Go.Deep
mutual
inductive Vl where
 | mk (kind int:Int) (text:List UInt8) (kids:List Vl) (keys:List (Int×List UInt8)) (ents:List En) (labels:List (List UInt8))
inductive En where
 | mk (args:List Vl) (fails:Bool) (result:Vl)
end
def RowB (w:World) (B:Nat→Prop) (c:Nat) (u:Value) (n:Nat) (R:Nat→List Value→Prop):Prop:=
 ∃ A cap,u=.slice A n cap∧(n≤maxLen∧n≤cap)∧(0<n→∃ b off,A=some ⟨b,off,none⟩∧B b∧b<w.heap.size∧∀ j,j<n→∃ cs:List Value,cs.length=c∧(∀ i,i<c→w.cell? ⟨b,off+j*c+i,none⟩=cs[i]?)∧R j cs)
abbrev RowP (w:World) (H c:Nat) (u:Value) (n:Nat) (R:Nat→List Value→Prop):Prop:=RowB w (fun b=>b<H) c u n R
def VB:Nat→World→(Nat→Prop)→Vl→List Value→Prop
 | 0,_,_,_,_=>False
 | k+1,w,B,.mk kind int text kids keys ents labels,cs=>
  ∃ uk uy ue ul,cs=[.int .i64 kind,.int .i64 int,.string ⟨text.toArray⟩,uk,uy,ue,ul] ∧
   (Lit.int .i64 kind).wf=true∧(Lit.int .i64 int).wf=true∧text.length≤maxLen ∧
   RowB w B 7 uk kids.length (fun j cs=>∃ x,kids[j]?=some x∧VB k w B x cs) ∧
   RowB w B 2 uy keys.length (fun j cs=>∃ x,keys[j]?=some x∧cs=[.int .i64 x.1,.string ⟨x.2.toArray⟩]∧(Lit.int .i64 x.1).wf=true∧x.2.length≤maxLen) ∧
   RowB w B 9 ue ents.length (fun j cs=>∃ args fails result,ents[j]?=some (.mk args fails result)∧∃ ua rs,cs=ua::.bool fails::rs∧RowB w B 7 ua args.length (fun j cs=>∃ x,args[j]?=some x∧VB k w B x cs)∧VB k w B result rs) ∧
   RowB w B 1 ul labels.length (fun j cs=>∃ x,labels[j]?=some x∧cs=[.string ⟨x.toArray⟩]∧x.length≤maxLen)
abbrev VS (k:Nat) (w:World) (H:Nat) (v:Vl) (cs:List Value):Prop:=VB k w (fun b=>b<H) v cs
theorem RowB.sub {w:World}{B B':Nat→Prop}{c n:Nat}{u:Value}{R R':Nat→List Value→Prop}(h:RowB w B c u n R) (hB:∀ b,B b→B' b) (hR:∀ j cs,R j cs→R' j cs):RowB w B' c u n R':=by
 obtain⟨A,cap,h1,h2,h3⟩:=h;refine⟨A,cap,h1,h2,fun hn=>?_⟩;obtain⟨b,off,h4,h5,h6,h7⟩:=h3 hn;refine⟨b,off,h4,hB b h5,h6,fun j hj=>?_⟩;obtain⟨cs,h8,h9,h10⟩:=h7 j hj;exact⟨cs,h8,h9,hR j cs h10⟩
structure Same (B:Nat→Prop) (w w':World):Prop where
 size:w.heap.size≤w'.heap.size
 cell:∀ b i,B b→b<w.heap.size→w'.cell? ⟨b,i,none⟩=w.cell? ⟨b,i,none⟩
theorem Same.of_below {w w':World}{H:Nat}{B:Nat→Prop}(hb:Below H w w') (hB:∀ b,B b→b<H):Same B w w':=
 ⟨hb.size,fun _ _ h _=>hb.cell (p:=⟨_,_,none⟩) (hB _ h)⟩
theorem Same.refl (B:Nat→Prop) (w:World):Same B w w:=⟨Nat.le_refl _,fun _ _ _ _=>rfl⟩
theorem Same.trans {B:Nat→Prop}{w w' w'':World}(h:Same B w w') (h':Same B w' w''):Same B w w'':=
 ⟨Nat.le_trans h.size h'.size,fun b i hB hb=>(h'.cell b i hB (Nat.lt_of_lt_of_le hb h.size)).trans (h.cell b i hB hb)⟩
theorem RowB.keep {w w':World}{B:Nat→Prop}{c n:Nat}{u:Value}{R R':Nat→List Value→Prop}(h:RowB w B c u n R) (hw:Same B w w') (hR:∀ j cs,R j cs→R' j cs):RowB w' B c u n R':=by
 obtain⟨A,cap,h1,h2,h3⟩:=h;refine⟨A,cap,h1,h2,fun hn=>?_⟩;obtain⟨b,off,h4,h5,h6,h7⟩:=h3 hn;refine⟨b,off,h4,h5,Nat.lt_of_lt_of_le h6 hw.size,fun j hj=>?_⟩;obtain⟨cs,h8,h9,h10⟩:=h7 j hj;exact⟨cs,h8,fun i hi=>(hw.cell b _ h5 h6).trans (h9 i hi),hR j cs h10⟩
theorem VB.keep {w w':World}{B:Nat→Prop}(hw:Same B w w'):∀ {k:Nat}{v:Vl}{cs:List Value},VB k w B v cs→VB k w' B v cs
 | 0,_,_,h=>h.elim
 | k+1,.mk kind int text kids keys ents labels,cs,h=>by
  obtain⟨uk,uy,ue,ul,h1,h2,h3,h4,h5,h6,h7,h8⟩:=h;refine⟨uk,uy,ue,ul,h1,h2,h3,h4,h5.keep hw ?_,h6.keep hw fun _ _ h=>h,h7.keep hw ?_,h8.keep hw fun _ _ h=>h⟩
  ·rintro j cs ⟨x,hx,hv⟩;exact⟨x,hx,VB.keep hw hv⟩
  ·rintro j cs ⟨args,fails,result,hx,ua,rs,hc,ha,hr⟩;refine⟨args,fails,result,hx,ua,rs,hc,ha.keep hw ?_,VB.keep hw hr⟩;rintro j cs ⟨x,hx,hv⟩;exact⟨x,hx,VB.keep hw hv⟩
theorem VB.sub {w:World}{B B':Nat→Prop}(hB:∀ b,B b→B' b):∀ {k k':Nat}{v:Vl}{cs:List Value},k≤k'→VB k w B v cs→VB k' w B' v cs
 | 0,_,_,_,_,h=>h.elim
 | k+1,0,_,_,hk,_=>absurd hk (by omega)
 | k+1,k'+1,.mk kind int text kids keys ents labels,cs,hk,h=>by
  have hk':k≤k':=by omega
  obtain⟨uk,uy,ue,ul,h1,h2,h3,h4,h5,h6,h7,h8⟩:=h;refine⟨uk,uy,ue,ul,h1,h2,h3,h4,h5.sub hB ?_,h6.sub hB fun _ _ h=>h,h7.sub hB ?_,h8.sub hB fun _ _ h=>h⟩
  ·rintro j cs ⟨x,hx,hv⟩;exact⟨x,hx,VB.sub hB hk' hv⟩
  ·rintro j cs ⟨args,fails,result,hx,ua,rs,hc,ha,hr⟩;refine⟨args,fails,result,hx,ua,rs,hc,ha.sub hB ?_,VB.sub hB hk' hr⟩;rintro j cs ⟨x,hx,hv⟩;exact⟨x,hx,VB.sub hB hk' hv⟩
theorem RowB.mono {w:World}{H H' c n:Nat}{u:Value}{R R':Nat→List Value→Prop}(h:RowP w H c u n R) (hH:H≤H') (hR:∀ j cs,R j cs→R' j cs):RowP w H' c u n R':=
 RowB.sub h (fun _ hb=>Nat.lt_of_lt_of_le hb hH) hR
theorem RowB.on {w w':World}{H c n:Nat}{u:Value}{R R':Nat→List Value→Prop}(h:RowP w H c u n R) (hb:Below H w w') (hR:∀ j cs,R j cs→R' j cs):RowP w' H c u n R':=
 RowB.keep h (.of_below hb fun _ h=>h) hR
theorem VS.on {w w':World}{H:Nat}(hb:Below H w w'){k:Nat}{v:Vl}{cs:List Value}(h:VS k w H v cs):VS k w' H v cs:=
 VB.keep (.of_below hb fun _ h=>h) h
theorem VS.up {w:World}{H H':Nat}(hH:H≤H'){k k':Nat}{v:Vl}{cs:List Value}(hk:k≤k') (h:VS k w H v cs):VS k' w H' v cs:=
 VB.sub (fun _ hb=>Nat.lt_of_lt_of_le hb hH) hk h
theorem RowB.at7 {w:World}{H n j:Nat}{u:Value}{R:Nat→List Value→Prop}(h:RowP w H 7 u n R) (hj:j<n) :
  ∃ b off cap x0 x1 x2 x3 x4 x5 x6,u=.slice (some ⟨b,off,none⟩) n cap∧b<H∧R j [x0,x1,x2,x3,x4,x5,x6]∧w.cell? ⟨b,off+j*7,none⟩=some x0∧w.cell? ⟨b,off+j*7+1,none⟩=some x1∧w.cell? ⟨b,off+j*7+2,none⟩=some x2∧w.cell? ⟨b,off+j*7+3,none⟩=some x3∧w.cell? ⟨b,off+j*7+4,none⟩=some x4∧w.cell? ⟨b,off+j*7+5,none⟩=some x5∧w.cell? ⟨b,off+j*7+6,none⟩=some x6:=by
 obtain⟨A,cap,h1,_,h3⟩:=h;obtain⟨b,off,rfl,h5,_,h7⟩:=h3 (by omega);obtain⟨cs,h8,h9,h10⟩:=h7 j hj
 match cs,h8 with
 | [x0,x1,x2,x3,x4,x5,x6],_=>
  exact⟨b,off,cap,x0,x1,x2,x3,x4,x5,x6,h1,h5,h10,h9 0 (by omega),h9 1 (by omega),h9 2 (by omega),h9 3 (by omega),h9 4 (by omega),h9 5 (by omega),h9 6 (by omega)⟩
theorem RowB.at9 {w:World}{H n j:Nat}{u:Value}{R:Nat→List Value→Prop}(h:RowP w H 9 u n R) (hj:j<n) :
  ∃ b off cap y0 y1 x0 x1 x2 x3 x4 x5 x6,u=.slice (some ⟨b,off,none⟩) n cap∧b<H∧R j [y0,y1,x0,x1,x2,x3,x4,x5,x6]∧w.cell? ⟨b,off+j*9,none⟩=some y0∧w.cell? ⟨b,off+j*9+1,none⟩=some y1∧w.cell? ⟨b,off+j*9+2,none⟩=some x0∧w.cell? ⟨b,off+j*9+3,none⟩=some x1∧w.cell? ⟨b,off+j*9+4,none⟩=some x2∧w.cell? ⟨b,off+j*9+5,none⟩=some x3∧w.cell? ⟨b,off+j*9+6,none⟩=some x4∧w.cell? ⟨b,off+j*9+7,none⟩=some x5∧w.cell? ⟨b,off+j*9+8,none⟩=some x6:=by
 obtain⟨A,cap,h1,_,h3⟩:=h;obtain⟨b,off,rfl,h5,_,h7⟩:=h3 (by omega);obtain⟨cs,h8,h9,h10⟩:=h7 j hj
 match cs,h8 with
 | [y0,y1,x0,x1,x2,x3,x4,x5,x6],_=>
  exact⟨b,off,cap,y0,y1,x0,x1,x2,x3,x4,x5,x6,h1,h5,h10,h9 0 (by omega),h9 1 (by omega),h9 2 (by omega),h9 3 (by omega),h9 4 (by omega),h9 5 (by omega),h9 6 (by omega),h9 7 (by omega),h9 8 (by omega)⟩
theorem RowB.form {w:World}{B:Nat→Prop}{c n:Nat}{u:Value}{R:Nat→List Value→Prop}(h:RowB w B c u n R):∃ A cap,u=.slice A n cap∧n≤maxLen:=by
 obtain⟨A,cap,h1,h2,_⟩:=h;exact⟨A,cap,h1,h2.1⟩
theorem RowB.cap {w:World}{B:Nat→Prop}{c m n cap:Nat}{A:Option Addr}{R:Nat→List Value→Prop}(h:RowB w B c (.slice A m cap) n R):n≤cap:=by
 obtain⟨A',cap',h1,h2,_⟩:=h;injection h1 with _ _ e3;subst e3;exact h2.2
theorem RowB.take {w:World}{B:Nat→Prop}{c n cap p:Nat}{A:Option Addr}{R:Nat→List Value→Prop}(h:RowB w B c (.slice A n cap) n R) (hp:p≤n) (cap2:Nat) (hc2:cap2=cap:=by rfl):RowB w B c (.slice A p cap2) p (fun j cs=>j<p∧R j cs):=by
 subst hc2;obtain⟨A',cap',h1,h2,h3⟩:=h;injection h1 with e1 _ e3;subst e1 e3;refine⟨A,cap2,rfl,by omega,fun hn=>?_⟩;obtain⟨b,off,h4,h5,h6,h7⟩:=h3 (by omega);exact⟨b,off,h4,h5,h6,fun j hj=>by
  obtain⟨cs,h8,h9,h10⟩:=h7 j (by omega);exact⟨cs,h8,h9,hj,h10⟩⟩
theorem VB.form7 {k:Nat}{w:World}{B:Nat→Prop}{v:Vl}{cs:List Value}(h:VB k w B v cs) :
  ∃ a i s A1 n1 c1 A2 n2 c2 A3 n3 c3 A4 n4 c4,cs=[.int .i64 a,.int .i64 i,.string s,.slice A1 n1 c1,.slice A2 n2 c2,.slice A3 n3 c3,.slice A4 n4 c4]:=by
 cases k with
 | zero=>exact h.elim
 | succ k=>
  obtain⟨kind,int,text,kids,keys,ents,labels⟩:=v;obtain⟨uk,uy,ue,ul,rfl,_,_,_,h1,h2,h3,h4⟩:=h;obtain⟨A1,c1,rfl,_⟩:=h1.form;obtain⟨A2,c2,rfl,_⟩:=h2.form;obtain⟨A3,c3,rfl,_⟩:=h3.form;obtain⟨A4,c4,rfl,_⟩:=h4.form;exact⟨_,_,_,_,_,_,_,_,_,_,_,_,_,_,_,rfl⟩
theorem zAd {w:World}{g:Nat}{e:TypeId}{z0 z1 z2 z3 z4 z5 z6:Value}(h:w.heap[g]?=some (.cells #[z0,z1,z2,z3,z4,z5,z6] e (0,0))):w.cell? ⟨g,0,none⟩=some z0∧w.cell? ⟨g,1,none⟩=some z1∧w.cell? ⟨g,2,none⟩=some z2∧w.cell? ⟨g,3,none⟩=some z3∧w.cell? ⟨g,4,none⟩=some z4∧w.cell? ⟨g,5,none⟩=some z5∧w.cell? ⟨g,6,none⟩=some z6:=
 ⟨cH h 0,cH h 1,cH h 2,cH h 3,cH h 4,cH h 5,cH h 6⟩
theorem zAe {w:World}{g:Nat}{e:TypeId}{z0 z1 z2 z3 z4 z5 z6:Value}(h:w.heap[g]?=some (.cells #[z0,z1,z2,z3,z4,z5,z6] e (0,0))):w.frozen? ⟨g,0,none⟩=false∧w.frozen? ⟨g,1,none⟩=false∧w.frozen? ⟨g,2,none⟩=false∧w.frozen? ⟨g,3,none⟩=false∧w.frozen? ⟨g,4,none⟩=false∧w.frozen? ⟨g,5,none⟩=false∧w.frozen? ⟨g,6,none⟩=false:=
 ⟨Lib.frozen_of_heap h 0,Lib.frozen_of_heap h 1,Lib.frozen_of_heap h 2,Lib.frozen_of_heap h 3,Lib.frozen_of_heap h 4,Lib.frozen_of_heap h 5,Lib.frozen_of_heap h 6⟩
end Go.Proofs.YtcjgaohblaidjaaGreatDoor
namespace Go.Proofs.YtcjgaohblaidjaaGreatDoor
open Go Go.RowKit
def lowB (c:Int):Bool:=decide (97≤c)&&decide (c≤122)
def digB (c:Int):Bool:=decide (48≤c)&&decide (c≤57)
def upB (c:Int):Bool:=decide (65≤c)&&decide (c≤90)
def atomT (c:Int):Bool:=lowB c||digB c||c==95
def varT (c:Int):Bool:=lowB c||upB c||digB c||c==95
def nameB (first tail:Int→Bool) (l:List UInt8):Bool:=
 decide (1≤l.length)&&decide (l.length≤16)&&first (l.headD 0).toNat&&(l.drop 1).all (fun c=>tail c.toNat)
def atomB (l:List UInt8):Bool:=nameB lowB atomT l
def varB (l:List UInt8):Bool:=nameB upB varT l
def keyB (k:Int) (l:List UInt8):Bool:=if k=0 then atomB l else if k=1 then decide (l.length≤64) else false
theorem zAb {a b:Bool}(h:a=b):Ending.returned (.bool a)=.returned (.bool b):=by rw[h]
theorem zKg (p:UInt8→Bool) (l:List UInt8):(l.drop 1).all p=true↔∀ j (h:j<l.length),1≤j→p l[j]=true:=by
 cases l with
 | nil=>simp
 | cons a r=>
  simp only[List.drop_succ_cons,List.drop_zero,List.all_eq_true];constructor
  ·intro h j hj h1;obtain⟨j',rfl⟩:∃ j',j=j'+1:=⟨j-1,by omega⟩;simp only[List.getElem_cons_succ];exact h _ (List.getElem_mem _)
  ·intro h x hx;obtain⟨i,hi,rfl⟩:=List.getElem_of_mem hx;have:=h (i+1) (by simp;omega) (by omega);simpa using this
theorem zDv (f t:Int→Bool) (s:ByteArray) (h1:0<s.size) (h2:s.size≤16) (hf:f (s[0]'h1).toNat=true)
  (ht:∀ j (h:j<s.size),1≤j→t (s[j]'h).toNat=true):nameB f t s.data.toList=true:=by
 obtain⟨⟨l⟩⟩:=s;have e:(⟨⟨l⟩⟩:ByteArray).size=l.length:=rfl;simp only[e]at h1 h2;have ht':∀ j (h:j<l.length),1≤j→t (l[j]'h).toNat=true:=fun j h h1=>ht j h h1;have hf':f (l[0]'h1).toNat=true:=hf;have hd:l.headD 0=l[0]'h1:=by cases l with|nil=>simp at h1|cons a r=>rfl
 unfold nameB;simp only[Bool.and_eq_true,decide_eq_true_eq];exact⟨⟨⟨h1,h2⟩,by rw[hd];exact hf'⟩,(zKg _ _).2 ht'⟩
theorem zBi {t:Int→Bool}{s:ByteArray}{k:Nat}(hall:Hid (∀ j (h:j<s.size),1≤j→j<k→t (s[j]'h).toNat=true)) (hk:k<s.size) (hx:t (s[k]'hk).toNat=true) :
  ∀ j (h:j<s.size),1≤j→j<k+1→t (s[j]'h).toNat=true:=by
 intro j h h1 h2;by_cases e:j=k
 ·subst e;exact hx
 ·exact hall.out j h h1 (by omega)
theorem zAv (f t:Int→Bool) (s:ByteArray)
  (h:s.size<1∨16<s.size∨(∃ h:0<s.size,f (s[0]'h).toNat=false)∨(∃ j,∃ h:j<s.size,1≤j∧t (s[j]'h).toNat=false)):nameB f t s.data.toList=false:=by
 obtain⟨⟨l⟩⟩:=s;rw[←Bool.not_eq_true];intro hn;unfold nameB at hn;simp only[Bool.and_eq_true,decide_eq_true_eq]at hn;obtain⟨⟨⟨h1,h2⟩,h3⟩,h4⟩:=hn;rw[zKg]at h4;have e:(⟨⟨l⟩⟩:ByteArray).size=l.length:=rfl;rcases h with h|h|⟨h,hf⟩|⟨j,h,hj,hf⟩
 ·rw[e]at h;omega
 ·rw[e]at h;omega
 ·have hd:l.headD 0=l[0]'h:=by cases l with|nil=>simp at h1|cons a r=>rfl
  rw[hd]at h3;have:f (l[0]'h).toNat=false:=hf;rw[this]at h3;cases h3
 ·have:t (l[j]'h).toNat=false:=hf;have h5:=h4 j h hj;rw[this]at h5;cases h5
end Go.Proofs.YtcjgaohblaidjaaGreatDoor
namespace Go.Proofs.YtcjgaohblaidjaaGreatDoor
def hexD (n:Nat):UInt8:=[48,49,50,51,52,53,54,55,56,57,97,98,99,100,101,102].getD n 0
def qByte (c:UInt8):List UInt8:=if c=34∨c=92 then [92,c] else if 32≤c∧c≤126 then [c] else [92,120,hexD (c.toNat / 16),hexD (c.toNat % 16)]
def zAq (l:List UInt8):List UInt8:=34::(l.flatMap qByte++[34])
end Go.Proofs.YtcjgaohblaidjaaGreatDoor
namespace Go.Proofs.YtcjgaohblaidjaaGreatDoor
def sepL (s:List UInt8):List (List UInt8)→List UInt8
 | []=>[]
 | [a]=>a
 | a::b::r=>a++s++sepL s (b::r)
def preL (s:List UInt8) (k:Nat):List UInt8:=if k=0 then [] else s
theorem zEs (s:List UInt8):∀ (l:List (List UInt8)) (x:List UInt8),sepL s (l++[x])=sepL s l++preL s l.length++x
 | [],x=>by simp[sepL,preL]
 | [a],x=>by simp[sepL,preL]
 | a::b::r,x=>by
  have ih:=zEs s (b::r) x;simp only[List.cons_append]at ih ⊢;rw[show sepL s (a::b::(r++[x]))=a++s++sepL s (b::(r++[x]))from rfl,ih];simp[sepL,preL]
def zAc:List UInt8:=[44,32]
def labsL (l:List (List UInt8)):List UInt8:=if l=[] then [] else [64,40]++sepL [32] l++[41]
def keyL (k:Int) (t:List UInt8):List UInt8:=if k=1 then zAq t else t
def consL:List (List UInt8×List UInt8)→List UInt8
 | [a,b]=>a.1++b.2
 | _=>[]
mutual
def sh:Vl→List UInt8×List UInt8
 | .mk k i t v y e l=>
  let b:List UInt8:=
   if k=1 then Lib.itoa i
   else if k=2 then zAq t
   else if k=3 then t
   else if k=4 then 35::Lib.itoa i
   else if k=5 then [91,93]
   else if k=6 then 123::(sepL zAc ((shs v).map Prod.fst)++[125])
   else if k=7 then 91::consL (shs v)
   else if k=8 then [37,123]++(sepL zAc (List.zipWith (fun x z=>keyL x.1 x.2++[58,32]++z) y ((shs v).map Prod.fst))++[125])
   else if k=9 then [102,117,110,47]++Lib.itoa i++[123]++(sepL zAc (shes e)++[125])
   else []
  let s:=b++labsL l
  (s,if k=7∧l=[] then zAc++consL (shs v) else if k=5∧l=[] then [93] else [32,124,32]++s++[93])
def shs:List Vl→List (List UInt8×List UInt8)
 | []=>[]
 | a::s=>sh a::shs s
def she:En→List UInt8
 | .mk a f r=>40::(sepL zAc ((shs a).map Prod.fst)++[41,32,45,62,32]++(if f then [33] else (sh r).1))
def shes:List En→List (List UInt8)
 | []=>[]
 | a::s=>she a::shes s
end
def showV (v:Vl):List UInt8:=(sh v).1
def tlV (v:Vl):List UInt8:=(sh v).2
theorem zKo:∀ l:List Vl,(shs l).map Prod.fst=l.map showV
 | []=>rfl
 | a::s=>by rw[shs,List.map_cons,List.map_cons,zKo s];rfl
def showE (e:En):List UInt8:=she e
theorem zLv:∀ l:List En,shes l=l.map showE
 | []=>rfl
 | a::s=>by rw[shes,List.map_cons,zLv s];rfl
def bodyV:Vl→List UInt8
 | .mk k i t v y e _=>
   if k=1 then Lib.itoa i
   else if k=2 then zAq t
   else if k=3 then t
   else if k=4 then 35::Lib.itoa i
   else if k=5 then [91,93]
   else if k=6 then 123::(sepL zAc (v.map showV)++[125])
   else if k=7 then 91::consL (shs v)
   else if k=8 then [37,123]++(sepL zAc (List.zipWith (fun x z=>keyL x.1 x.2++[58,32]++z) y (v.map showV))++[125])
   else if k=9 then [102,117,110,47]++Lib.itoa i++[123]++(sepL zAc (e.map showE)++[125])
   else []
def lbsV:Vl→List (List UInt8)
 | .mk _ _ _ _ _ _ l=>l
theorem zAg (v:Vl):showV v=bodyV v++labsL (lbsV v):=by
 obtain⟨k,i,t,v,y,e,l⟩:=v;unfold showV sh;rw[zKo,zLv];rfl
theorem zD8 (k i:Int) (t:List UInt8) (v:List Vl) (y:List (Int×List UInt8)) (e:List En) (l:List (List UInt8)) :
  tlV (.mk k i t v y e l)=if k=7∧l=[] then zAc++consL (shs v) else if k=5∧l=[] then [93] else [32,124,32]++showV (.mk k i t v y e l)++[93]:=by
 unfold tlV showV sh;rfl
theorem zBs (a b:Vl):consL (shs [a,b])=showV a++tlV b:=rfl
theorem zCx (a:List Vl) (f:Bool) (r:Vl):showE (.mk a f r)=40::(sepL zAc (a.map showV)++[41,32,45,62,32]++(if f then [33] else showV r)):=by
 unfold showE she;rw[zKo];rfl
end Go.Proofs.YtcjgaohblaidjaaGreatDoor
namespace Go.Proofs.YtcjgaohblaidjaaGreatDoor
open Go
def digC (c:UInt8):Bool:=decide (48≤c.toNat∧c.toNat≤57)
def numC (c:UInt8):Bool:=digC c||decide (c.toNat=45)
def valD (a:Nat) (l:List UInt8):Nat:=l.foldl (fun a c=>a*10+(c.toNat-48)) a
theorem zBx (u:Nat):∀ c∈Lib.decDigits u,digC c=true:=by
 induction u using Nat.strongRecOn with
 | _ u ih=>
  rw[Lib.decDigits];split
  ·intro c hc;rw[List.mem_singleton]at hc;subst hc;unfold digC;rw[decide_eq_true_iff,UInt8.toNat_ofNat'];omega
  ·intro c hc;rw[List.mem_append]at hc;rcases hc with hc|hc
   ·exact ih _ (by omega) c hc
   ·rw[List.mem_singleton]at hc;subst hc;unfold digC;rw[decide_eq_true_iff,UInt8.toNat_ofNat'];omega
theorem zDj (u:Nat):Lib.decDigits u≠[]:=by
 intro h;have h1:=Lib.decDigits_length u;have h2:=Lib.nDigits_pos u;rw[h,List.length_nil]at h1;omega
theorem zGh (u:Nat):valD 0 (Lib.decDigits u)=u:=by
 induction u using Nat.strongRecOn with
 | _ u ih=>
  rw[Lib.decDigits];split
  ·simp only[valD,List.foldl_cons,List.foldl_nil,UInt8.toNat_ofNat'];omega
  ·have:=ih (u / 10) (by omega);unfold valD at this ⊢;rw[List.foldl_append,this];simp only[List.foldl_cons,List.foldl_nil,UInt8.toNat_ofNat'];omega
theorem zE6 {a b:Nat}(h:Lib.decDigits a=Lib.decDigits b):a=b:=by
 rw[←zGh a,h,zGh]
theorem zQ2 (n:Int):Lib.itoa n≠[]:=by
 unfold Lib.itoa;split
 ·simp
 ·exact zDj _
theorem zL5 (n:Int):∀ c∈Lib.itoa n,numC c=true:=by
 unfold Lib.itoa;intro c hc;unfold numC;split at hc
 ·rcases List.mem_cons.1 hc with rfl|hc
  ·decide
  ·rw[zBx _ c hc];rfl
 ·rw[zBx _ c hc];rfl
theorem zMb {u:Nat}{l:List UInt8}(h:Lib.decDigits u=45::l):False:=by
 have:=zBx u 45 (by rw[h];simp);exact absurd this (by decide)
theorem zPz {a b:Int}(h:Lib.itoa a=Lib.itoa b):a=b:=by
 unfold Lib.itoa at h;split at h<;>split at h
 ·injection h with _ h;have:=zE6 h;omega
 ·exact (zMb h.symm).elim
 ·exact (zMb h).elim
 ·have:=zE6 h;omega
theorem zNj:∀ (l:List UInt8) (a:Nat),a≤valD a l
 | [],a=>Nat.le_refl _
 | c::r,a=>by
  have:=zNj r (a*10+(c.toNat-48));unfold valD at this ⊢;rw[List.foldl_cons];omega
theorem zD9 (M:Nat) (hM:M<18446744073709551616):∀ (l:List UInt8) (a:Nat),(∀ c∈l,digC c=true)→valD a l≤M→Lib.parseUintM M a l=.ok (valD a l)
 | [],a,_,_=>rfl
 | c::r,a,hd,hv=>by
  have h1:=hd c (by simp);unfold digC at h1;rw[decide_eq_true_iff]at h1;have h2:=zNj r (a*10+(c.toNat-48));have h3:valD a (c::r)=valD (a*10+(c.toNat-48)) r:=rfl;rw[h3]at hv ⊢;rw[Lib.parseUintM,if_pos h1,if_neg (by omega),if_neg (by omega)];exact zD9 M hM r _ (fun c hc=>hd c (by simp[hc])) hv
theorem zEa (n:Int) (h0:-9223372036854775808≤n) (h1:n≤9223372036854775807):Lib.parseIntB 64 (Lib.itoa n)=.ok n:=by
 have hp:∀ u:Nat,u<18446744073709551616→Lib.parseUintB 64 (Lib.decDigits u)=.ok u:=by
  intro u hu;unfold Lib.parseUintB;rw[if_neg (zDj u),zD9 _ (by omega) _ _ (zBx u) (by rw[zGh];omega),zGh]
 by_cases hn:n<0
 ·rw[show Lib.itoa n=45::Lib.decDigits n.natAbs by unfold Lib.itoa;rw[if_pos hn]];unfold Lib.parseIntB;simp only[show (45:UInt8).toNat=45 from rfl,or_true,if_true];rw[hp _ (by omega)];simp only[not_true,false_and,if_false,true_and];rw[if_neg (by omega)];congr 1;omega
 ·have e:Lib.itoa n=Lib.decDigits n.toNat:=by unfold Lib.itoa;rw[if_neg hn]
  rw[e];cases hl:Lib.decDigits n.toNat with
  | nil=>exact absurd hl (zDj _)
  | cons c r=>
   have h3:=zBx n.toNat c (by rw[hl];simp);unfold digC at h3;rw[decide_eq_true_iff]at h3;unfold Lib.parseIntB;have c1:¬ c.toNat=43:=by omega
   have c2:¬ c.toNat=45:=by omega
   simp only[c1,c2,or_false,if_false,not_false_iff,true_and,false_and];rw[←hl,hp _ (by omega)];simp only;rw[if_neg (by omega)];congr 1;omega
end Go.Proofs.YtcjgaohblaidjaaGreatDoor
namespace Go.Proofs.YtcjgaohblaidjaaGreatDoor
open Go Go.RowKit
def thn (a b:Int):Int:=if a=0 then b else a
theorem zBt {a b:Int}:thn a b=0↔a=0∧b=0:=by
 unfold thn;split<;>omega
theorem zA9 (a b c:Int):thn (thn a b) c=thn a (thn b c):=by
 unfold thn;split<;>simp_all
theorem zA8 (a:Int):thn a 0=a:=by
 unfold thn;split<;>omega
theorem zAz {a:Int}(h:a≠0) (b:Int):thn a b=a:=if_neg h
def cmpI (a b:Int):Int:=if a<b then -1 else if b<a then 1 else 0
theorem zAf {a b:Int}:cmpI a b=0↔a=b:=by
 unfold cmpI;split
 ·omega
 ·split<;>omega
def lex:List Int→List Int→Int
 | [],[]=>0
 | [],_::_=>-1
 | _::_,[]=>1
 | a::s,b::t=>thn (cmpI a b) (lex s t)
theorem zL2:∀ s t:List Int,lex t s=- lex s t
 | [],[]=>rfl
 | [],_::_=>rfl
 | _::_,[]=>rfl
 | a::s,b::t=>by
  simp only[lex];have:=zL2 s t;unfold thn cmpI
  repeat (first|split|omega)
theorem zIy:∀ s t:List Int,lex s t=0↔s=t
 | [],[]=>by simp[lex]
 | [],_::_=>by simp[lex]
 | _::_,[]=>by simp[lex]
 | a::s,b::t=>by
  simp only[lex,zBt,zAf,zIy s t,List.cons.injEq]
theorem zJ2:∀ s t u:List Int,lex s t≤0→lex t u≤0→lex s u≤0∧(lex s t<0∨lex t u<0→lex s u<0)
 | [],[],u,_,h2=>⟨h2,fun h=>by rcases h with h|h;exact absurd h (by simp[lex]);exact h⟩
 | [],_::_,[],_,h2=>absurd h2 (by simp[lex])
 | [],_::_,_::_,_,_=>by simp[lex]
 | _::_,[],_,h1,_=>absurd h1 (by simp[lex])
 | _::_,_::_,[],_,h2=>absurd h2 (by simp[lex])
 | a::s,b::t,c::u,h1,h2=>by
  simp only[lex]at h1 h2 ⊢;have h3:=zJ2 s t u;revert h1 h2;unfold thn cmpI
  repeat' split
  all_goals intros
  all_goals first|omega|(constructor<;>omega)|skip
def cmpT:List UInt8→List UInt8→Int
 | [],[]=>0
 | [],_::_=>-1
 | _::_,[]=>1
 | a::s,b::t=>thn (cmpI a.toNat b.toNat) (cmpT s t)
def encT (s:List UInt8):List Int:=s.map (fun c=>(c.toNat:Int)+1)++[0]
theorem lexT:∀ (a b:List UInt8) (s t:List Int),lex (encT a++s) (encT b++t)=thn (cmpT a b) (lex s t)
 | [],[],s,t=>by simp[encT,lex,cmpT,cmpI]
 | [],b::q,s,t=>by
  have h:∀ x:Int,cmpI 0 ((b.toNat:Int)+1)=-1:=fun _=>if_pos (by omega);simp[encT,lex,cmpT,h 0,thn]
 | a::p,[],s,t=>by
  have h:cmpI ((a.toNat:Int)+1) 0=1:=by unfold cmpI;rw[if_neg (by omega),if_pos (by omega)]
  simp[encT,lex,cmpT,h,thn]
 | a::p,b::q,s,t=>by
  have h:cmpI ((a.toNat:Int)+1) ((b.toNat:Int)+1)=cmpI a.toNat b.toNat:=by
   unfold cmpI;simp only[show ((a.toNat:Int)+1<(b.toNat:Int)+1)=((a.toNat:Int)<b.toNat)from propext (by omega),show ((b.toNat:Int)+1<(a.toNat:Int)+1)=((b.toNat:Int)<a.toNat)from propext (by omega)]
  have e:∀ (c:UInt8) (l:List UInt8),encT (c::l)=((c.toNat:Int)+1)::encT l:=fun _ _=>rfl;rw[e,e,List.cons_append,List.cons_append,lex,h,lexT p q s t,cmpT,zA9]
theorem zBy:∀ {a b:List UInt8},cmpT a b=0↔a=b
 | [],[]=>by simp[cmpT]
 | [],_::_=>by simp[cmpT]
 | _::_,[]=>by simp[cmpT]
 | a::s,b::t=>by
  simp only[cmpT,zBt,zAf,zBy (a:=s) (b:=t),List.cons.injEq];constructor
  ·rintro⟨h,rfl⟩;exact⟨UInt8.toNat_inj.1 (by omega),rfl⟩
  ·rintro⟨rfl,rfl⟩;exact⟨rfl,rfl⟩
def cmpK (a b:Int×List UInt8):Int:=thn (cmpI a.1 b.1) (cmpT a.2 b.2)
def cmpL {α:Type}(c:α→α→Int):List α→List α→Int
 | a::s,b::t=>thn (c a b) (cmpL c s t)
 | _,_=>0
theorem zHs {α:Type}{c:α→α→Int}(hc:∀ a b,c a b=0↔a=b):∀ {l m:List α},l.length=m.length→(cmpL c l m=0↔l=m)
 | [],[],_=>by simp[cmpL]
 | a::s,b::t,h=>by
  simp only[cmpL,zBt,hc,zHs hc (l:=s) (m:=t) (by simpa using h),List.cons.injEq]
def encK (a:Int×List UInt8):List Int:=a.1::encT a.2
theorem lexK (a b:Int×List UInt8) (s t:List Int):lex (encK a++s) (encK b++t)=thn (cmpK a b) (lex s t):=by
 simp only[encK,List.cons_append,lex,cmpK,zA9,lexT]
def encL {α:Type}(e:α→List Int) (l:List α):List Int:=l.flatMap e
theorem lexL {α:Type}{c:α→α→Int}{e:α→List Int}(h:∀ a b s t,lex (e a++s) (e b++t)=thn (c a b) (lex s t)):∀ (l m:List α) (s t:List Int),l.length=m.length→lex (encL e l++s) (encL e m++t)=thn (cmpL c l m) (lex s t)
 | [],[],s,t,_=>by simp[encL,cmpL,thn]
 | a::p,b::q,s,t,hl=>by
  have:=lexL h p q s t (by simpa using hl);simp only[encL]at this ⊢;simp only[List.flatMap_cons,List.append_assoc,h,cmpL,zA9,this]
theorem lexN {n m:Nat}{x y s t:List Int}{c:Int}(h:n=m→lex (x++s) (y++t)=thn c (lex s t)):lex ((n:Int)::(x++s)) ((m:Int)::(y++t))=thn (cmpI n m) (thn c (lex s t)):=by
 simp only[lex];by_cases hn:n=m
 ·rw[h hn]
 ·have:cmpI n m≠0:=fun h0=>hn (by have:=zAf.1 h0;omega);rw[zAz this,zAz this]
def cmpF (a b:Bool):Int:=if a=b then 0 else if a then -1 else 1
def encF (a:Bool):Int:=if a then 0 else 1
theorem lexF (a b:Bool):cmpI (encF a) (encF b)=cmpF a b:=by cases a<;>cases b<;>rfl
mutual
def cmpV:Vl→Vl→Int
 | .mk k1 i1 t1 v1 y1 e1 l1,.mk k2 i2 t2 v2 y2 e2 l2=>
  thn (cmpI k1 k2) (thn (cmpI i1 i2) (thn (cmpT t1 t2) (thn (cmpI y1.length y2.length) (thn (cmpL cmpK y1 y2) (thn (cmpI v1.length v2.length) (thn (cmpVs v1 v2) (thn (cmpI e1.length e2.length) (thn (cmpEs e1 e2) (thn (cmpI l1.length l2.length) (cmpL cmpT l1 l2))))))))))
def cmpVs:List Vl→List Vl→Int
 | a::s,b::t=>thn (cmpV a b) (cmpVs s t)
 | [],_=>0
 | _,[]=>0
def cmpE:En→En→Int
 | .mk a1 f1 r1,.mk a2 f2 r2=>thn (cmpI a1.length a2.length) (thn (cmpVs a1 a2) (thn (cmpF f1 f2) (cmpV r1 r2)))
def cmpEs:List En→List En→Int
 | a::s,b::t=>thn (cmpE a b) (cmpEs s t)
 | [],_=>0
 | _,[]=>0
end
mutual
def encV:Vl→List Int
 | .mk k i t v y e l=>k::i::(encT t++((y.length:Int)::(encL encK y++((v.length:Int)::(encVs v++((e.length:Int)::(encEs e++((l.length:Int)::(encL encT l++[])))))))))
def encVs:List Vl→List Int
 | []=>[]
 | a::s=>encV a++encVs s
def encE:En→List Int
 | .mk a f r=>(a.length:Int)::(encVs a++(encF f::encV r))
def encEs:List En→List Int
 | []=>[]
 | a::s=>encE a++encEs s
end
mutual
theorem lexV:∀ (a b:Vl) (s t:List Int),lex (encV a++s) (encV b++t)=thn (cmpV a b) (lex s t)
 | .mk k1 i1 t1 v1 y1 e1 l1,.mk k2 i2 t2 v2 y2 e2 l2,s,t=>by
  simp only[encV,cmpV,List.cons_append,List.append_assoc,List.nil_append,zA9];rw[lex,lex,lexT,lexN (fun h=>lexL lexK _ _ _ _ h),lexN (fun h=>lexVs v1 v2 _ _ h),lexN (fun h=>lexEs e1 e2 _ _ h),lexN (fun h=>lexL lexT _ _ _ _ h)]
theorem lexVs:∀ (l m:List Vl) (s t:List Int),l.length=m.length→lex (encVs l++s) (encVs m++t)=thn (cmpVs l m) (lex s t)
 | [],[],s,t,_=>by simp[encVs,cmpVs,thn]
 | a::p,b::q,s,t,h=>by
  simp only[encVs,List.append_assoc,cmpVs,zA9];rw[lexV a b,lexVs p q s t (by simpa using h)]
theorem lexE:∀ (a b:En) (s t:List Int),lex (encE a++s) (encE b++t)=thn (cmpE a b) (lex s t)
 | .mk a1 f1 r1,.mk a2 f2 r2,s,t=>by
  simp only[encE,cmpE,List.cons_append,List.append_assoc,zA9];rw[lexN (fun h=>lexVs a1 a2 _ _ h),lex,lexF,lexV r1 r2]
theorem lexEs:∀ (l m:List En) (s t:List Int),l.length=m.length→lex (encEs l++s) (encEs m++t)=thn (cmpEs l m) (lex s t)
 | [],[],s,t,_=>by simp[encEs,cmpEs,thn]
 | a::p,b::q,s,t,h=>by
  simp only[encEs,List.append_assoc,cmpEs,zA9];rw[lexE a b,lexEs p q s t (by simpa using h)]
end
theorem zQa (a b:Vl):cmpV a b=lex (encV a) (encV b):=by
 have:=lexV a b [] [];simp only[List.append_nil]at this;rw[this,show lex [] []=0 from rfl,zA8]
mutual
theorem zLg:∀ a b:Vl,cmpV a b=0→a=b
 | .mk k1 i1 t1 v1 y1 e1 l1,.mk k2 i2 t2 v2 y2 e2 l2,h=>by
  simp only[cmpV,zBt,zAf]at h;obtain⟨rfl,rfl,ht,hy,hy',hv,hv',he,he',hl,hl'⟩:=h;have ek:∀ a b:Int×List UInt8,cmpK a b=0↔a=b:=fun a b=>by
   unfold cmpK;rw[zBt,zAf,zBy];exact⟨fun ⟨h1,h2⟩=>Prod.ext h1 h2,fun h=>by rw[h];exact⟨rfl,rfl⟩⟩
  rw[zBy.1 ht,(zHs ek (by omega)).1 hy',(zHs (fun _ _=>zBy) (by omega)).1 hl',zI3 v1 v2 (by omega) hv',zMc e1 e2 (by omega) he']
theorem zI3:∀ l m:List Vl,l.length=m.length→cmpVs l m=0→l=m
 | [],[],_,_=>rfl
 | a::p,b::q,hl,h=>by
  simp only[cmpVs,zBt]at h;rw[zLg a b h.1,zI3 p q (by simpa using hl) h.2]
theorem zOz:∀ a b:En,cmpE a b=0→a=b
 | .mk a1 f1 r1,.mk a2 f2 r2,h=>by
  simp only[cmpE,zBt,zAf]at h;obtain⟨hl,ha,hf,hr⟩:=h;have:f1=f2:=by revert hf;cases f1<;>cases f2<;>simp[cmpF]
  rw[zI3 a1 a2 (by omega) ha,this,zLg r1 r2 hr]
theorem zMc:∀ l m:List En,l.length=m.length→cmpEs l m=0→l=m
 | [],[],_,_=>rfl
 | a::p,b::q,hl,h=>by
  simp only[cmpEs,zBt]at h;rw[zOz a b h.1,zMc p q (by simpa using hl) h.2]
end
theorem zOy {a b:Vl}:cmpV a b=0↔a=b:=by
 constructor
 ·exact zLg a b
 ·rintro rfl;rw[zQa,zIy]
structure Tot {α:Type}(c:α→α→Int):Prop where
 zero:∀ a b,c a b=0↔a=b
 swap:∀ a b,c b a=- c a b
 trans:∀ a b d,c a b<0→c b d<0→c a d<0
theorem zFe {α:Type}{c:α→α→Int}{e:α→List Int}(h:∀ a b,c a b=lex (e a) (e b)) (hz:∀ a b,c a b=0→a=b):Tot c where
 zero a b:=⟨hz a b,fun h'=>by rw[h',h,zIy]⟩
 swap a b:=by rw[h,h,zL2]
 trans a b d h1 h2:=by
  rw[h]at h1 h2 ⊢;exact (zJ2 _ _ _ (by omega) (by omega)).2 (.inl h1)
theorem zQd (a b:En):cmpE a b=lex (encE a) (encE b):=by
 have:=lexE a b [] [];simp only[List.append_nil]at this;rw[this,show lex [] []=0 from rfl,zA8]
theorem zQc (a b:Int×List UInt8):cmpK a b=lex (encK a) (encK b):=by
 have:=lexK a b [] [];simp only[List.append_nil]at this;rw[this,show lex [] []=0 from rfl,zA8]
theorem zQb (a b:List UInt8):cmpT a b=lex (encT a) (encT b):=by
 have:=lexT a b [] [];simp only[List.append_nil]at this;rw[this,show lex [] []=0 from rfl,zA8]
theorem zKc {a b:Int×List UInt8}(h:cmpK a b=0):a=b:=by
 unfold cmpK at h;rw[zBt,zAf,zBy]at h;exact Prod.ext h.1 h.2
theorem totE:Tot cmpE:=zFe zQd zOz
theorem totK:Tot cmpK:=zFe zQc fun _ _=>zKc
theorem totT:Tot cmpT:=zFe zQb fun _ _=>zBy.1
def AscC {α:Type}(c:α→α→Int) (l:List α):Prop:=l.Pairwise fun a b=>c a b<0
def ins {α:Type}(c:α→α→Int) (x:α):List α→List α
 | []=>[x]
 | a::l=>if c a x<0 then a::ins c x l else if c a x=0 then a::l else x::a::l
def srtC {α:Type}(c:α→α→Int) (l:List α):List α:=l.foldl (fun acc x=>ins c x acc) []
section
variable {α:Type}{c:α→α→Int}(T:Tot c)
include T
theorem zK1 (x:α):∀ (l:List α) (y:α),y∈ins c x l↔y=x∨y∈l
 | [],y=>by simp[ins]
 | a::l,y=>by
  unfold ins;split
  ·rw[List.mem_cons,zK1 x l y,List.mem_cons];constructor
   ·rintro (h|h|h)
    ·exact .inr (.inl h)
    ·exact .inl h
    ·exact .inr (.inr h)
   ·rintro (h|h|h)
    ·exact .inr (.inl h)
    ·exact .inl h
    ·exact .inr (.inr h)
  ·split
   ·rename_i h0;rw[(T.zero a x).1 h0];simp
   ·simp
theorem zO6 (x:α):∀ (l:List α),AscC c l→AscC c (ins c x l)
 | [],_=>by simp[ins,AscC]
 | a::l,h=>by
  have h1:=List.pairwise_cons.1 h;unfold ins;split
  ·rename_i hlt;refine List.pairwise_cons.2 ⟨fun y hy=>?_,zO6 x l h1.2⟩;rcases (zK1 T x l y).1 hy with rfl|hy
   ·exact hlt
   ·exact h1.1 y hy
  ·split
   ·exact h
   ·rename_i hnlt hn0;have hxa:c x a<0:=by rw[T.swap];omega
    refine List.pairwise_cons.2 ⟨fun y hy=>?_,h⟩;rcases List.mem_cons.1 hy with rfl|hy
    ·exact hxa
    ·exact T.trans x a y hxa (h1.1 y hy)
theorem zG4:∀ (l acc:List α),AscC c acc→AscC c (l.foldl (fun acc x=>ins c x acc) acc)∧∀ y,y∈l.foldl (fun acc x=>ins c x acc) acc↔y∈l∨y∈acc
 | [],acc,h=>⟨h,fun y=>by simp⟩
 | x::l,acc,h=>by
  obtain⟨h1,h2⟩:=zG4 l (ins c x acc) (zO6 T x acc h);refine⟨h1,fun y=>?_⟩;rw[List.foldl_cons,h2 y,zK1 T,List.mem_cons];constructor
  ·rintro (h|h|h)
   ·exact .inl (.inr h)
   ·exact .inl (.inl h)
   ·exact .inr h
  ·rintro ((h|h)|h)
   ·exact .inr (.inl h)
   ·exact .inl h
   ·exact .inr (.inr h)
theorem zMh (l:List α):AscC c (srtC c l):=(zG4 T l [] List.Pairwise.nil).1
theorem zPv (l:List α) (y:α):y∈srtC c l↔y∈l:=by
 have:=(zG4 T l [] List.Pairwise.nil).2 y;simpa [srtC] using this
end
instance {α:Type}(c:α→α→Int) (l:List α):Decidable (AscC c l):=inferInstanceAs (Decidable (l.Pairwise fun a b=>c a b<0))
def zAj:Vl→Int | .mk k _ _ _ _ _ _=>k
def zeroV:Vl:=.mk 0 0 [] [] [] [] []
def zMi:En→List Vl | .mk a _ _=>a
def zFr:En→Bool | .mk _ f _=>f
def resOf:En→Vl | .mk _ _ r=>r
def isZ (v:Vl):Bool:=decide (cmpV v zeroV=0)
theorem zK5 {v:Vl}:isZ v=true↔v=zeroV:=by unfold isZ;rw[decide_eq_true_iff,zOy]
def consB:List Vl→Bool
 | [_,b]=>decide (zAj b=5)||decide (zAj b=7)
 | _=>false
def entB (i:Int) (e:En):Bool:=decide (((zMi e).length:Int)=i)&&(!zFr e||isZ (resOf e))
def kindB (k i:Int) (t:List UInt8) (v:List Vl) (y:List (Int×List UInt8)) (e:List En):Bool:=
 if k=1∨k=5 then true
 else if k=2 then decide (t.length≤64)
 else if k=3 then atomB t
 else if k=4 then decide (0≤i)
 else if k=6 then decide (v.length≤4)
 else if k=7 then consB v
 else if k=8 then y.all (fun x=>keyB x.1 x.2)&&decide (AscC cmpK y)&&decide (y.length=v.length)
 else if k=9 then decide (0≤i∧i≤4)&&e.all (entB i)&&decide (AscC cmpE e)
 else false
def usesB (k i:Int) (t:List UInt8) (v:List Vl) (y:List (Int×List UInt8)) (e:List En):Bool:=
 (decide (k=1∨k=4∨k=9)||decide (i=0))&&(decide (k=2∨k=3)||t.isEmpty)&&(decide (k=6∨k=7∨k=8)||v.isEmpty)&&(decide (k=8)||y.isEmpty)&&(decide (k=9)||e.isEmpty)
def zAi (l:List (List UInt8)):Bool:=l.all varB&&decide (AscC cmpT l)
mutual
def okV:Vl→Bool
 | .mk k i t v y e l=>zAi l&&usesB k i t v y e&&kindB k i t v y e&&okVs v&&okEs e
def okVs:List Vl→Bool
 | []=>true
 | a::s=>okV a&&okVs s
def okE:En→Bool
 | .mk a f r=>okVs a&&(f||okV r)
def okEs:List En→Bool
 | []=>true
 | a::s=>okE a&&okEs s
end
theorem zAn:∀ l:List Vl,okVs l=l.all okV
 | []=>rfl
 | a::s=>by rw[okVs,zAn s,List.all_cons]
theorem zAx:∀ l:List En,okEs l=l.all okE
 | []=>rfl
 | a::s=>by rw[okEs,zAx s,List.all_cons]
mutual
def nodes:Vl→Nat
 | .mk _ _ _ v _ e _=>1+zAo v+zBd e
def zAo:List Vl→Nat
 | []=>0
 | a::s=>nodes a+zAo s
def zH7:En→Nat
 | .mk a f r=>zAo a+if f then 0 else nodes r
def zBd:List En→Nat
 | []=>0
 | a::s=>zH7 a+zBd s
end
theorem zF9 (l:List Vl) (x:Vl):zAo (l++[x])=zAo l+nodes x:=by
 induction l with
 | nil=>simp[zAo]
 | cons a s ih=>simp only[List.cons_append,zAo,ih];omega
theorem zGa (l:List En) (x:En):zBd (l++[x])=zBd l+zH7 x:=by
 induction l with
 | nil=>simp[zBd]
 | cons a s ih=>simp only[List.cons_append,zBd,ih];omega
abbrev Bs:=List UInt8
def cutP (p s:Bs):Option Bs:=if Lib.hasPrefix s p then some (s.drop p.length) else none
theorem zDk {p s r:Bs}(h:cutP p s=some r):s=p++r:=by
 unfold cutP at h;split at h
 ·rename_i hp;injection h with h;unfold Lib.hasPrefix at hp;rw[List.isPrefixOf_iff_prefix]at hp;obtain⟨t,rfl⟩:=hp;rw[List.drop_left]at h;rw[h]
 ·cases h
theorem zAp (p r:Bs):cutP p (p++r)=some r:=by
 unfold cutP Lib.hasPrefix;rw[if_pos (by rw[List.isPrefixOf_iff_prefix];exact List.prefix_append _ _),List.drop_left]
theorem zHp {p s:Bs}(h:∀ r,s≠p++r):cutP p s=none:=by
 cases hc:cutP p s with
 | none=>rfl
 | some r=>exact absurd (zDk hc) (h r)
def nameC (c:UInt8):Bool:=varT c.toNat
abbrev Rd (α:Type):=Bs→Option (α×Bs)
def seqL {α:Type}(item:Rd α) (sep s:Bs):Option (List α×Bs):=
 match item s with
 | none=>none
 | some (x,r)=>match cutP sep r with
  | none=>some ([x],r)
  | some r'=>if r'.length<s.length then
    match seqL item sep r' with
    | none=>none
    | some (l,q)=>some (x::l,q)
   else none
termination_by s.length
def manyP {α:Type}(item:Rd α) (e s:Bs):Option (List α×Bs):=
 match cutP e s with
 | some r=>some ([],r)
 | none=>match seqL item zAc s with
  | none=>none
  | some (l,r)=>match cutP e r with
   | none=>none
   | some q=>some (l,q)
open Classical in
noncomputable def numV (d:Bs):Option Int:=if h:∃ n:Int,-9223372036854775808≤n∧n≤9223372036854775807∧Lib.itoa n=d then some h.choose else none
theorem zJy {d:Bs}{n:Int}(h:numV d=some n):-9223372036854775808≤n∧n≤9223372036854775807∧Lib.itoa n=d:=by
 unfold numV at h;split at h
 ·rename_i hx;injection h with h;rw[←h];exact hx.choose_spec
 ·cases h
theorem zJz {n:Int}(h0:-9223372036854775808≤n) (h1:n≤9223372036854775807):numV (Lib.itoa n)=some n:=by
 unfold numV;have hx:∃ m:Int,-9223372036854775808≤m∧m≤9223372036854775807∧Lib.itoa m=Lib.itoa n:=⟨n,h0,h1,rfl⟩;rw[dif_pos hx,zPz hx.choose_spec.2.2]
def takeL {α:Type}(p:UInt8→Bool) (f:Bs→Option α):Rd α:=fun s=>(f (s.takeWhile p)).map fun x=>(x,s.dropWhile p)
noncomputable def numP:Rd Int:=takeL numC numV
def zDi:Rd Bs:=takeL nameC fun d=>if varB d then some d else none
def quoT:Bs→Nat
 | []=>0
 | [_]=>1
 | c::d::r=>if c=92 then 2+quoT r else if c=34 then 1 else 1+quoT (d::r)
def quoN (s:Bs):Nat:=1+quoT (s.drop 1)
open Classical in
noncomputable def keyV (d:Bs):Option (Int×Bs):=if h:∃ x:Int×Bs,keyB x.1 x.2=true∧(x.1=0∨x.1=1)∧keyL x.1 x.2=d then some h.choose else none
theorem zN6 {d:Bs}{x:Int×Bs}(h:keyV d=some x):keyB x.1 x.2=true∧(x.1=0∨x.1=1)∧keyL x.1 x.2=d:=by
 unfold keyV at h;split at h
 ·rename_i hx;injection h with h;rw[←h];exact hx.choose_spec
 ·cases h
noncomputable def keyP:Rd (Int×Bs):=fun s=>
 if Lib.hasPrefix s [34] then (keyV (s.take (quoN s))).map fun x=>(x,s.drop (quoN s))
 else takeL nameC keyV s
def setL (l:List Bs):Vl→Vl
 | .mk k i t v y e _=>.mk k i t v y e l
def nlV:Vl:=.mk 5 0 [] [] [] [] []
def cnV (a b:Vl):Vl:=.mk 7 0 [] [a,b] [] [] []
def listP (val:Rd Vl):Rd Vl:=fun s=>
 match cutP [93] s with
 | some r=>some (nlV,r)
 | none=>match seqL val zAc s with
  | none=>none
  | some (l,r)=>match cutP [32,124,32] r with
   | none=>match cutP [93] r with
    | none=>none
    | some q=>some (l.foldr cnV nlV,q)
   | some r2=>match val r2 with
    | none=>none
    | some (t,r3)=>if lbsV t=[] then none else match cutP [93] r3 with
     | none=>none
     | some q=>some (l.foldr cnV t,q)
noncomputable def zB7 (val:Rd Vl):Rd ((Int×Bs)×Vl):=fun s=>
 match keyP s with
 | none=>none
 | some (k,r)=>match cutP [58,32] r with
  | none=>none
  | some r2=>match val r2 with
   | none=>none
   | some (v,q)=>some ((k,v),q)
def zB8 (val:Rd Vl):Rd En:=fun s=>
 match cutP [40] s with
 | none=>none
 | some r=>match manyP val [41,32,45,62,32] r with
  | none=>none
  | some (a,r2)=>match cutP [33] r2 with
   | some q=>some (.mk a true zeroV,q)
   | none=>match val r2 with
    | none=>none
    | some (v,q)=>some (.mk a false v,q)
noncomputable def funcP (val:Rd Vl):Rd Vl:=fun s=>
 match numP s with
 | none=>none
 | some (n,r)=>match cutP [123] r with
  | none=>none
  | some r2=>(manyP (zB8 val) [125] r2).map fun x=>(.mk 9 n [] [] [] x.1 [],x.2)
noncomputable def unlP (val:Rd Vl):Rd Vl:=fun s=>
 match cutP [123] s with
 | some r=>(manyP val [125] r).map fun x=>(.mk 6 0 [] x.1 [] [] [],x.2)
 | none=>match cutP [91] s with
  | some r=>listP val r
  | none=>match cutP [37,123] s with
   | some r=>(manyP (zB7 val) [125] r).map fun x=>(.mk 8 0 [] (x.1.map Prod.snd) (x.1.map Prod.fst) [] [],x.2)
   | none=>match cutP [102,117,110,47] s with
    | some r=>funcP val r
    | none=>match cutP [35] s with
     | some r=>(numP r).map fun x=>(.mk 4 x.1 [] [] [] [] [],x.2)
     | none=>if (s.head?.any numC) then (numP s).map fun x=>(.mk 1 x.1 [] [] [] [] [],x.2)
      else (keyP s).map fun x=>(.mk (if x.1.1=1 then 2 else 3) 0 x.1.2 [] [] [] [],x.2)
noncomputable def pV:Nat→Rd Vl
 | 0=>fun _=>none
 | n+1=>fun s=>match unlP (pV n) s with
  | none=>none
  | some (v,r)=>match cutP [64,40] r with
   | none=>some (v,r)
   | some r2=>match seqL zDi [32] r2 with
    | none=>none
    | some (l,r3)=>match cutP [41] r3 with
     | none=>none
     | some q=>some (setL l v,q)
/-! ### What is read is the notation of what is given -/
def Reads {α:Type}(item:Rd α) (f:α→Bs):Prop:=∀ s x r,item s=some (x,r)→s=f x++r
theorem Reads.seq {α:Type}{item:Rd α}{f:α→Bs}(h:Reads item f) (sep:Bs):∀ s l r,seqL item sep s=some (l,r)→l≠[]∧s=sepL sep (l.map f)++r:=by
 intro s
 induction hn:s.length using Nat.strongRecOn generalizing s with
 | _ n ih=>
  intro l r hs;rw[seqL]at hs;cases hi:item s with
  | none=>rw[hi]at hs;cases hs
  | some a=>
   obtain⟨x,r1⟩:=a;rw[hi]at hs;have e1:=h s x r1 hi;simp only at hs;cases hc:cutP sep r1 with
   | none=>
    rw[hc]at hs;simp only[Option.some.injEq,Prod.mk.injEq]at hs;obtain⟨rfl,rfl⟩:=hs;exact⟨by simp,by simpa [sepL] using e1⟩
   | some r2=>
    rw[hc]at hs;simp only at hs;split at hs
    ·rename_i hlt;cases hq:seqL item sep r2 with
     | none=>rw[hq]at hs;cases hs
     | some b=>
      obtain⟨l',q⟩:=b;rw[hq]at hs;simp only[Option.some.injEq,Prod.mk.injEq]at hs;obtain⟨rfl,rfl⟩:=hs;obtain⟨h1,h2⟩:=ih r2.length (by omega) r2 rfl l' q hq;have e2:=zDk hc;refine⟨by simp,?_⟩;rw[e1,e2,h2];cases l' with
      | nil=>exact absurd rfl h1
      | cons b t=>simp[sepL]
    ·cases hs
theorem Reads.enc {α:Type}{item:Rd α}{f:α→Bs}(h:Reads item f) (e:Bs):Reads (manyP item e) fun l=>sepL zAc (l.map f)++e:=by
 intro s l r hs;unfold manyP at hs;cases hc:cutP e s with
 | some q=>
  rw[hc]at hs;simp only[Option.some.injEq,Prod.mk.injEq]at hs;obtain⟨rfl,rfl⟩:=hs;exact zDk hc
 | none=>
  rw[hc]at hs;simp only at hs;cases hq:seqL item zAc s with
  | none=>rw[hq]at hs;cases hs
  | some b=>
   obtain⟨l',r1⟩:=b;rw[hq]at hs;simp only at hs;cases hd:cutP e r1 with
   | none=>rw[hd]at hs;cases hs
   | some q=>
    rw[hd]at hs;simp only[Option.some.injEq,Prod.mk.injEq]at hs;obtain⟨rfl,rfl⟩:=hs;rw[(h.seq zAc s l' r1 hq).2,zDk hd];simp
theorem zRq (a b:Vl):tlV (cnV a b)=zAc++(showV a++tlV b):=by
 unfold cnV;rw[zD8,if_pos ⟨rfl,rfl⟩,zBs]
theorem zRp:tlV nlV=[93]:=by unfold nlV;rw[zD8];rfl
theorem zNn {v:Vl}(h:lbsV v≠[]):tlV v=[32,124,32]++showV v++[93]:=by
 obtain⟨k,i,t,v,y,e,l⟩:=v;have h':l≠[]:=h;rw[zD8,if_neg (fun x=>h' x.2),if_neg (fun x=>h' x.2)]
theorem zNm (t:Vl):∀ (l:List Vl) (a:Vl),showV a++tlV (l.foldr cnV t)=sepL zAc ((a::l).map showV)++tlV t
 | [],a=>by simp[sepL]
 | b::r,a=>by
  have ih:=zNm t r b;rw[List.foldr_cons,zRq,ih];simp[sepL]
theorem zO3 (t:Vl) (a:Vl) (l:List Vl):bodyV ((a::l).foldr cnV t)=91::(sepL zAc ((a::l).map showV)++tlV t):=by
 rw[List.foldr_cons];show bodyV (.mk 7 0 [] [a,l.foldr cnV t] [] [] [])=_;unfold bodyV;simp only[show ¬ (7:Int)=1 by decide,show ¬ (7:Int)=2 by decide,show ¬ (7:Int)=3 by decide,show ¬ (7:Int)=4 by decide,show ¬ (7:Int)=5 by decide,show ¬ (7:Int)=6 by decide,if_false,if_true];rw[zBs,zNm]
theorem zCb (l:List ((Int×Bs)×Vl)):List.zipWith (fun x z=>keyL x.1 x.2++[58,32]++z) (l.map Prod.fst) ((l.map Prod.snd).map showV)=l.map fun x=>keyL x.1.1 x.1.2++[58,32]++showV x.2:=by
 induction l with
 | nil=>rfl
 | cons a r ih=>simp only[List.map_cons,List.zipWith_cons_cons,ih]
def PrsW (p:Nat) (r:Bs) (d:Int) (w:World):Prop:=w.heap[p]?=some (.cells #[.string ⟨r.toArray⟩,.int .i64 d] 60 (0,0))
theorem PrsW.cells {p:Nat}{r:Bs}{d:Int}{w:World}(h:PrsW p r d w):w.cell? ⟨p,0,none⟩=some (.string ⟨r.toArray⟩)∧w.cell? ⟨p,1,none⟩=some (.int .i64 d)∧w.frozen? ⟨p,0,none⟩=false∧w.frozen? ⟨p,1,none⟩=false:=
 ⟨cH h 0,cH h 1,Lib.frozen_of_heap h 0,Lib.frozen_of_heap h 1⟩
theorem PrsW.set {p:Nat}{r:Bs}{d:Int}{w:World}(h:PrsW p r d w) (s:Bs):PrsW p s d (w.setCell ⟨p,0,none⟩ (.string ⟨s.toArray⟩)):=by
 have:=heap_setCell_same w p 0 _ _ (.string ⟨s.toArray⟩) h;exact this
def cutR (s r:Bs):Bs:=(cutP s r).getD r
theorem zOs (s r:Bs):Lib.trimPrefix r s=cutR s r:=by
 unfold Lib.trimPrefix cutR cutP;split<;>rfl
theorem zP9 (s r:Bs):Lib.hasPrefix r s=(cutP s r).isSome:=by
 unfold cutP;split
 ·rename_i h;rw[h];rfl
 ·rename_i h;simpa using h
theorem zIi (p:Nat) (r s:Bs) (d:Int) (w:World) (h:PrsW p r d w) :
  Calls Tryz.prog 43 #[.pointer (some ⟨p,0,none⟩),.string ⟨s.toArray⟩] w fun e w'=>e=.returned (.bool (cutP s r).isSome)∧w'=w.setCell ⟨p,0,none⟩ (.string ⟨(cutR s r).toArray⟩):=by
 have hc:=Tryz.strings_CutPrefix ⟨r.toArray⟩ ⟨s.toArray⟩ w;rw[show (⟨r.toArray⟩:ByteArray).data.toList=r from rfl,show (⟨s.toArray⟩:ByteArray).data.toList=s from rfl,zOs,zP9]at hc;obtain⟨c0,c1,f0,f1⟩:=h.cells;generalize (cutP s r).isSome=q at hc ⊢;generalize cutR s r=t at hc ⊢;clear h;go_enter Tryz.func43,Tryz.ntmps43;go_wp2_with fail;refine hc.mono ?_;rintro e w1 ⟨rfl,rfl⟩;clear hc;go_wp2;go_ret;exact⟨rfl,rfl⟩
end Go.Proofs.YtcjgaohblaidjaaGreatDoor
namespace Go.Proofs.YtcjgaohblaidjaaGreatDoor
open Go.RowKit
def StrS (w:World) (B:Nat) (A:Option Addr) (n:Nat) (ss:List ByteArray):Prop:=
 n=ss.length∧(∀ s∈ss,s.size≤maxLen)∧(0<n→∃ b off,A=some ⟨b,off,none⟩∧b<B∧∀ j s,ss[j]?=some s→w.cell? ⟨b,off+j,none⟩=some (.string s))
theorem StrS.below {w w':World}{B:Nat}{A:Option Addr}{n:Nat}{ss:List ByteArray}(h:StrS w B A n ss) (hb:Below B w w'):StrS w' B A n ss:=
 ⟨h.1,h.2.1,fun hn=>by
  obtain⟨b,off,hA,hlt,hc⟩:=h.2.2 hn;exact⟨b,off,hA,hlt,fun j s hs=>(hb.cell (p:=⟨b,off+j,none⟩) hlt).trans (hc j s hs)⟩⟩
theorem Tryz.infoStr:(Tryz.prog.info? 9).map (fun i=>(i.zero,i.size,i.bytes))=some (some (.string ⟨#[]⟩),1,16):=by kernel_rfl
end Go.Proofs.YtcjgaohblaidjaaGreatDoor
