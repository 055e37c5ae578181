/- What unquoteHex and unquoteByte return. Condition: the string has at most maxLen bytes and is not empty. -/
import Derived.Test.YtcjgaohblaidjaaGreatDoorVgZ
import Derived.Test.YtcjgaohblaidjaaGreatDoorVg01
import Derived.Test.YtcjgaohblaidjaaGreatDoorVg09
import Derived.Laws.BitsAllLaws
set_option maxRecDepth 100000
set_option maxHeartbeats 3200000
namespace Go.Proofs.YtcjgaohblaidjaaGreatDoor
open Go.RowKit
def zD0:List UInt8:=[48,49,50,51,52,53,54,55,56,57,97,98,99,100,101,102]
theorem zQn (b:UInt8):(∃ n:Nat,n<16∧hexD n=b∧Lib.indexByte zD0 b=(n:Int))∨(Lib.indexByte zD0 b=-1∧∀ n:Nat,n<16→hexD n≠b):=by
 have key:∀ b:Fin 256,(∃ n:Fin 16,hexD n.1=UInt8.ofNat b.1∧Lib.indexByte zD0 (UInt8.ofNat b.1)=((n.1:Nat):Int))∨(Lib.indexByte zD0 (UInt8.ofNat b.1)=-1∧∀ n:Fin 16,hexD n.1≠UInt8.ofNat b.1):=by decide +kernel
 have h:=key ⟨b.toNat,b.toNat_lt⟩;simp only[UInt8.ofNat_toNat]at h;rcases h with⟨n,h1,h2⟩|⟨h1,h2⟩
 ·exact .inl ⟨n.1,n.2,h1,h2⟩
 ·exact .inr ⟨h1,fun n hn=>h2 ⟨n,hn⟩⟩
def UnHex (a b:UInt8) (w:World) (e:Ending) (w':World):Prop:=
 w=w'∧((∃ c:UInt8,qByte c=[92,120,a,b]∧e=.returned (.tuple #[.int .u8 c.toNat,.int .i64 4]))∨((∀ c:UInt8,qByte c≠[92,120,a,b])∧e=.returned (.tuple #[.int .u8 0,.int .i64 0])))
theorem zIa (a:UInt8) (r:Int) (w:World) (h:Lib.indexByte zD0 a=r) :
  Calls Tryz.prog 199 #[.string ⟨#[48,49,50,51,52,53,54,55,56,57,97,98,99,100,101,102]⟩,.int .u8 a.toNat] w fun e w'=>e=.returned (.int .i64 r)∧w=w':=
 (Tryz.strings_IndexByte _ _ w).mono fun _ _ ⟨he,hw⟩=>⟨by rw[he,←h];have h9:(a.toNat:Int).toNat.toUInt8=a:=(by simp);rw[h9];rfl,hw.symm⟩
theorem or16 (n m:Nat) (hn:n<16) (hm:m<16):bits BinOp.or IntKind.i64 ((n:Int)*16) (m:Int)=(n:Int)*16+m:=by
 have key:∀ n m:Fin 16,bits BinOp.or IntKind.i64 ((n.1:Int)*16) (m.1:Int)=(n.1:Int)*16+m.1:=by decide +kernel
 exact key ⟨n,hn⟩ ⟨m,hm⟩
theorem zQ4 (n m:Nat) (hn:n<16) (hm:m<16):∃ c:UInt8,(c.toNat:Int)=(n:Int)*16+m∧c.toNat / 16=n∧c.toNat % 16=m:=by
 refine⟨UInt8.ofNat (n*16+m),?_⟩;have:(UInt8.ofNat (n*16+m)).toNat=n*16+m:=by simp;omega
 rw[this];omega
theorem zG8 {c a b:UInt8}(h:qByte c=[92,120,a,b]):zBp c.toNat=false∧hexD (c.toNat / 16)=a∧hexD (c.toNat % 16)=b:=by
 rcases zB1 c with⟨e,_⟩|⟨e,_⟩|⟨e,hp⟩
 ·rw[e]at h;simp at h
 ·rw[e]at h;simp at h
 ·rw[e]at h;simp at h;exact⟨hp,h.1,h.2⟩
theorem zJ7 {c:UInt8}(hp:zBp c.toNat=false):qByte c=[92,120,hexD (c.toNat / 16),hexD (c.toNat % 16)]:=by
 rcases zB1 c with⟨e,rfl|rfl⟩|⟨e,_,_,h⟩|⟨e,_⟩
 ·exact absurd hp (by decide)
 ·exact absurd hp (by decide)
 ·rw[hp]at h;cases h
 ·exact e
theorem zIq {a b:UInt8}{w:World}(h:∀ c:UInt8,zBp c.toNat=false→hexD (c.toNat / 16)=a→hexD (c.toNat % 16)=b→False):UnHex a b w (.returned (.tuple #[.int .u8 0,.int .i64 0])) w:=
 ⟨rfl,.inr ⟨fun c hc=>h c (zG8 hc).1 (zG8 hc).2.1 (zG8 hc).2.2,rfl⟩⟩
theorem zD7 (a b:UInt8) (w:World):Calls Tryz.prog 194 #[.int .u8 a.toNat,.int .u8 b.toNat] w (UnHex a b w):=by
 rcases zQn a with⟨n,hn,han,hai⟩|⟨hai,han⟩
 ·rcases zQn b with⟨m,hm,hbm,hbi⟩|⟨hbi,hbm⟩
  ·have HAN:=xI han;have HBM:=xI hbm;have HAI:=xI hai;have HBI:=xI hbi;have d1:=or16 n m hn hm;obtain⟨c,hc,hc1,hc2⟩:=zQ4 n m hn hm;have HC:=xI hc;have HC1:=xI hc1;have HC2:=xI hc2;clear han hbm hai hbi hc hc1 hc2;cases hp:zBp ((n:Int)*16+m)
   all_goals
    go_enter Tryz.func194,Tryz.ntmps194;go_wp2_with fail;refine (zIa _ _ _ HAI.out).mono ?_;rintro e w1 ⟨rfl,rfl⟩;go_wp2_with fail;refine (zIa _ _ _ HBI.out).mono ?_;rintro e w1 ⟨rfl,rfl⟩;go_wp2_with (go_at_call 117;refine (zAm _ _).mono ?_;rintro e w' ⟨rfl,rfl⟩)
    go_ret2
   ·have hp':zBp c.toNat=false:=by rw[HC.out];exact hp
    have h1:=zJ7 hp';rw[HC1.out,HC2.out,HAN.out,HBM.out]at h1;refine⟨rfl,.inl ⟨c,h1,?_⟩⟩;show Ending.returned (.tuple #[.int .u8 ((n:Int)*16+m),.int .i64 4])=_;rw[HC.out]
   ·refine zIq fun c' h1 h2 h3=>?_;rw[←HAN.out]at h2;rw[←HBM.out]at h3;have e1:=zE3 (by have:=c'.toNat_lt;omega) hn h2;have e2:=zE3 (by omega) hm h3;have e3:(c'.toNat:Int)=(n:Int)*16+m:=by omega
    rw[e3,hp]at h1;cases h1
  ·have HAI:=xI hai;have HBI:=xI hbi;clear hai hbi;go_enter Tryz.func194,Tryz.ntmps194;go_wp2_with fail;refine (zIa _ _ _ HAI.out).mono ?_;rintro e w1 ⟨rfl,rfl⟩;go_wp2_with fail;refine (zIa _ _ _ HBI.out).mono ?_;rintro e w1 ⟨rfl,rfl⟩;go_wp2
   go_ret2
   exact zIq fun c' h1 h2 h3=>hbm _ (by omega) h3
 ·have HAI:=xI hai;clear hai;obtain⟨r,hbi⟩:∃ r,Lib.indexByte zD0 b=r:=⟨_,rfl⟩;have HBI:=xI hbi;clear hbi;go_enter Tryz.func194,Tryz.ntmps194;go_wp2_with fail;refine (zIa _ _ _ HAI.out).mono ?_;rintro e w1 ⟨rfl,rfl⟩;go_wp2_with fail;refine (zIa _ _ _ HBI.out).mono ?_;rintro e w1 ⟨rfl,rfl⟩;go_wp2
  go_ret2
  exact zIq fun c' h1 h2 h3=>han _ (by have:=c'.toNat_lt;omega) h2
theorem zNl {a b c:UInt8}(h:qByte c=[92,120,a,b]) (w:World):Calls Tryz.prog 194 #[.int .u8 a.toNat,.int .u8 b.toNat] w fun e w'=>e=.returned (.tuple #[.int .u8 c.toNat,.int .i64 4])∧w'=w:=
 (zD7 a b w).mono fun e w' ⟨hw,hc⟩=>by
  rcases hc with⟨c',h',he⟩|⟨hn,_⟩
  ·have:c'=c:=(zF4 (x:=[]) (y:=[]) (by rw[h,h'])).1;subst this;exact⟨he,hw.symm⟩
  ·exact absurd h (hn c)
theorem zMo {a b:UInt8}(h:∀ c:UInt8,qByte c≠[92,120,a,b]) (w:World):Calls Tryz.prog 194 #[.int .u8 a.toNat,.int .u8 b.toNat] w fun e w'=>e=.returned (.tuple #[.int .u8 0,.int .i64 0])∧w'=w:=
 (zD7 a b w).mono fun e w' ⟨hw,hc⟩=>by
  rcases hc with⟨c',h',he⟩|⟨hn,he⟩
  ·exact absurd h' (h c')
  ·exact⟨he,hw.symm⟩
def zO7 (l:List UInt8) (w:World) (e:Ending) (w':World):Prop:=
 (∃ n,w'=w.drewN n)∧((∃ (c:UInt8) (r:List UInt8),l=qByte c++r∧e=.returned (.tuple #[.int .u8 c.toNat,.int .i64 (qByte c).length])) ∨
  ((∀ (c:UInt8) (r:List UInt8),l≠qByte c++r)∧e=.returned (.tuple #[.int .u8 0,.int .i64 0])))
theorem zCo {l:List UInt8}{w:World}(h:∀ (c:UInt8) (r:List UInt8),l≠qByte c++r) (n:Nat):zO7 l w (.returned (.tuple #[.int .u8 0,.int .i64 0])) (w.drewN n):=⟨⟨n,rfl⟩,.inr ⟨h,rfl⟩⟩
theorem zDr {l r:List UInt8}{c:UInt8}{w:World}{m:Int}(h:l=qByte c++r) (hm:m=(qByte c).length) (n:Nat):zO7 l w (.returned (.tuple #[.int .u8 c.toNat,.int .i64 m])) (w.drewN n):=
 ⟨⟨n,rfl⟩,.inl ⟨c,r,h,by rw[hm]⟩⟩
theorem l2 {s:ByteArray}(h:2≤s.size):∃ r,s.data.toList=(s[0]'(by omega))::(s[1]'h)::r:=by
 obtain⟨⟨l⟩⟩:=s
 match l,h with
 | a::b::r,_=>exact⟨r,rfl⟩
theorem l4 {s:ByteArray}(h:4≤s.size):∃ r,s.data.toList=(s[0]'(by omega))::(s[1]'(by omega))::(s[2]'(by omega))::(s[3]'h)::r:=by
 obtain⟨⟨l⟩⟩:=s
 match l,h with
 | a::b::c::d::r,_=>exact⟨r,rfl⟩
theorem l1 {s:ByteArray}(h:0<s.size):∃ r,s.data.toList=(s[0]'h)::r:=by
 obtain⟨⟨l⟩⟩:=s
 match l,h with
 | a::r,_=>exact⟨r,rfl⟩
theorem zHu {c:UInt8}{n:Nat}(h:(c.toNat:Int)=n) (hn:n<256):c=UInt8.ofNat n:=UInt8.toNat_inj.1 (by simp;omega)
theorem no_q {l:List UInt8}(h:∀ c:UInt8,c=34∨c=92→∀ r,l≠92::c::r) (h':∀ c:UInt8,c≠34→c≠92→zBp c.toNat=true→∀ r,l≠c::r)
  (h'':∀ c a b:UInt8,qByte c=[92,120,a,b]→∀ r,l≠92::120::a::b::r) (c:UInt8) (r:List UInt8):l≠qByte c++r:=by
 rcases zB1 c with⟨e,hc⟩|⟨e,h1,h2,h3⟩|⟨e,hp⟩
 ·rw[e];exact h c hc r
 ·rw[e];exact h' c h1 h2 h3 r
 ·have:=h'' c _ _ e r
  rwa [e]
theorem zGj (s:ByteArray):s.data.toList.length=s.size:=by simp
theorem zG1 (s:ByteArray) (w:World) (hs:0<s.size) (hm:s.size≤maxLen):Calls Tryz.prog 188 #[.string s] w (zO7 s.data.toList w):=by
 unfold maxLen at hm;obtain⟨r1,e1⟩:=l1 hs;have E1:=xI e1;clear e1;have hsl:=xI (zGj s);by_cases h1:((s[0]'hs).toNat:Int)=34
 ·have hno:=xI (show ∀ (c:UInt8) (r:List UInt8),s.data.toList≠qByte c++r by
   have e0:s[0]'hs=34:=zHu (n:=34) h1 (by decide);rw[E1.out,e0];exact no_q (fun c _ r=>by simp) (fun c h _ _ r=>by simp;intro e;exact absurd e.symm h) (fun c a b _ r=>by simp))
  go_enter Tryz.func188,Tryz.ntmps188;go_wp2_with (go_at_call 117;refine (zAm _ _).mono ?_;rintro e w' ⟨rfl,rfl⟩)
  all_goals go_ret2
  all_goals exact zCo hno.out 0
 have h1b:(((s[0]'hs).toNat:Int)==34)=false:=by rw[beq_eq_false_iff_ne];exact h1
 by_cases h3:((s[0]'hs).toNat:Int)=92
 ·have h2:zBp 92=true:=by decide
  have e0:=xI (show s[0]'hs=92 from zHu (n:=92) h3 (by decide));have noP:Hid (∀ c:UInt8,c≠34→c≠92→zBp c.toNat=true→∀ r,s.data.toList≠c::r):=xI (by
   intro c _ h _ r;rw[E1.out,e0.out];simp;intro e;exact absurd e.symm h)
  by_cases h4:2≤s.size
  ·obtain⟨r2,e2⟩:=l2 h4;have E2:=xI e2;clear e2;by_cases h5:((s[1]'h4).toNat:Int)=34
   ·have hy:=xI (show s.data.toList=qByte 34++r2 by rw[E2.out,e0.out,show s[1]'h4=34 from zHu (n:=34) h5 (by decide)];rfl);go_enter Tryz.func188,Tryz.ntmps188;go_wp2_with (go_at_call 117;refine (zAm _ _).mono ?_;rintro e w' ⟨rfl,rfl⟩)
    all_goals go_ret2
    all_goals exact zDr (c:=34) (m:=2) hy.out rfl 0
   by_cases h6:((s[1]'h4).toNat:Int)=92
   ·have hy:=xI (show s.data.toList=qByte 92++r2 by rw[E2.out,e0.out,show s[1]'h4=92 from zHu (n:=92) h6 (by decide)];rfl);go_enter Tryz.func188,Tryz.ntmps188;go_wp2_with (go_at_call 117;refine (zAm _ _).mono ?_;rintro e w' ⟨rfl,rfl⟩)
    all_goals go_ret2
    all_goals exact zDr (c:=92) (m:=2) hy.out rfl 0
   have noE:Hid (∀ c:UInt8,c=34∨c=92→∀ r,s.data.toList≠92::c::r):=xI (by
    intro c hc r;rw[E2.out];simp;intro _ e;rcases hc with rfl|rfl
    ·exact absurd (show ((s[1]'h4).toNat:Int)=34 by rw[e];rfl) h5
    ·exact absurd (show ((s[1]'h4).toNat:Int)=92 by rw[e];rfl) h6)
   have h5b:(((s[1]'h4).toNat:Int)==34)=false:=by rw[beq_eq_false_iff_ne];exact h5
   have h6b:(((s[1]'h4).toNat:Int)==92)=false:=by rw[beq_eq_false_iff_ne];exact h6
   by_cases h7:4≤s.size
   ·obtain⟨r4,e4⟩:=l4 h7;have E4:=xI e4;clear e4;have i2:(2:Int)<(s.size:Int):=by omega
    have i3:(3:Int)<(s.size:Int):=by omega
    by_cases h8:((s[1]'h4).toNat:Int)=120
    ·by_cases hx:∃ c:UInt8,qByte c=[(92:UInt8),120,(s[2]'(by omega):UInt8),(s[3]'h7:UInt8)]
     ·obtain⟨c,hx⟩:=hx;have hy:=xI (show s.data.toList=qByte c++r4 by rw[E4.out,e0.out,hx,show s[1]'(by omega)=120 from zHu (n:=120) h8 (by decide)];rfl);have HX:=xI hx;clear hx;go_enter Tryz.func188,Tryz.ntmps188;go_wp2_with (go_at_call 117;refine (zAm _ _).mono ?_;rintro e w' ⟨rfl,rfl⟩)
      go_quiet ((go_at_call 194;exact Calls.quiet_of_same (zNl HX.out _)))
      go_wp2
      go_ret2
      exact zDr (c:=c) (m:=4) hy.out (by rw[HX.out];rfl) _
     ·have hno:Hid (∀ c:UInt8,qByte c≠[(92:UInt8),120,(s[2]'(by omega):UInt8),(s[3]'h7:UInt8)]):=xI fun c hc=>hx ⟨c,hc⟩;clear hx;have hn2:=xI (show ∀ (c:UInt8) (r:List UInt8),s.data.toList≠qByte c++r from no_q noE.out noP.out (by
       intro c a b hc r;rw[E4.out];simp;intro _ _ ea eb;rw[←ea,←eb]at hc;exact absurd hc (hno.out c)))
      go_enter Tryz.func188,Tryz.ntmps188;go_wp2_with (go_at_call 117;refine (zAm _ _).mono ?_;rintro e w' ⟨rfl,rfl⟩)
      go_quiet ((go_at_call 194;exact Calls.quiet_of_same (zMo hno.out _)))
      go_wp2
      go_ret2
      exact zCo hn2.out _
    ·have h8b:(((s[1]'h4).toNat:Int)==120)=false:=by rw[beq_eq_false_iff_ne];exact h8
     have hn2:=xI (show ∀ (c:UInt8) (r:List UInt8),s.data.toList≠qByte c++r from no_q noE.out noP.out (by
      intro c a b _ r;rw[E4.out];simp;intro _ e;exact absurd (show ((s[1]'h4).toNat:Int)=120 by rw[e];rfl) h8))
     go_enter Tryz.func188,Tryz.ntmps188;go_wp2_with (go_at_call 117;refine (zAm _ _).mono ?_;rintro e w' ⟨rfl,rfl⟩)
     all_goals go_ret2
     all_goals exact zCo hn2.out 0
   ·have hn2:=xI (show ∀ (c:UInt8) (r:List UInt8),s.data.toList≠qByte c++r from no_q noE.out noP.out (by
     intro c a b _ r e;have:=congrArg List.length e;rw[hsl.out]at this;simp at this;omega))
    go_enter Tryz.func188,Tryz.ntmps188;go_wp2_with (go_at_call 117;refine (zAm _ _).mono ?_;rintro e w' ⟨rfl,rfl⟩)
    all_goals go_ret2
    all_goals exact zCo hn2.out 0
  ·have hn2:=xI (show ∀ (c:UInt8) (r:List UInt8),s.data.toList≠qByte c++r from no_q (by
     intro c _ r e;have:=congrArg List.length e;rw[hsl.out]at this;simp at this;omega) noP.out (by
     intro c a b _ r e;have:=congrArg List.length e;rw[hsl.out]at this;simp at this;omega))
   go_enter Tryz.func188,Tryz.ntmps188;go_wp2_with (go_at_call 117;refine (zAm _ _).mono ?_;rintro e w' ⟨rfl,rfl⟩)
   all_goals go_ret2
   all_goals exact zCo hn2.out 0
 have h3b:(((s[0]'hs).toNat:Int)==92)=false:=by rw[beq_eq_false_iff_ne];exact h3
 cases h2:zBp (s[0]'hs).toNat
 ·have hn2:=xI (show ∀ (c:UInt8) (r:List UInt8),s.data.toList≠qByte c++r from no_q (by
    intro c _ r;rw[E1.out];simp;intro e;exact absurd (show ((s[0]'hs).toNat:Int)=92 by rw[e];rfl) h3) (by
    intro c _ _ hp r;rw[E1.out];simp;intro e;rw[e,hp]at h2;cases h2) (by
    intro c _ _ _ r;rw[E1.out];simp;intro e;exact absurd (show ((s[0]'hs).toNat:Int)=92 by rw[e];rfl) h3))
  go_enter Tryz.func188,Tryz.ntmps188;go_wp2_with (go_at_call 117;refine (zAm _ _).mono ?_;rintro e w' ⟨rfl,rfl⟩)
  all_goals go_ret2
  all_goals exact zCo hn2.out 0
 ·have hq:=xI (zC0 h2 h1b h3b);have hy:=xI (show s.data.toList=qByte (s[0]'hs)++r1 by rw[hq.out,E1.out];rfl);go_enter Tryz.func188,Tryz.ntmps188;go_wp2_with (go_at_call 117;refine (zAm _ _).mono ?_;rintro e w' ⟨rfl,rfl⟩)
  all_goals go_ret2
  all_goals exact zDr (c:=s[0]'hs) (m:=1) hy.out (by rw[hq.out];rfl) 0
def zQj:Value→Nat
 | .string s=>s.size
 | _=>0
def UnQ (l:List UInt8) (w:World) (e:Ending) (w':World):Prop:=
 Below w.heap.size w w'∧((∃ t:List UInt8,zAq t=l∧e=.returned (.tuple #[.string ⟨t.toArray⟩,.int .i64 0]))∨((∀ t:List UInt8,zAq t≠l)∧e=.returned (.tuple #[.string ⟨#[]⟩,.int .i64 5])))
theorem zLs {l:List UInt8}{w w':World}(h:∀ t:List UInt8,zAq t≠l) (hb:Below w.heap.size w w'):UnQ l w (.returned (.tuple #[.string ⟨#[]⟩,.int .i64 5])) w':=⟨hb,.inr ⟨h,rfl⟩⟩
theorem zQu {l t:List UInt8}{w w':World}(h:zAq t=l) (hb:Below w.heap.size w w'):UnQ l w (.returned (.tuple #[.string ⟨t.toArray⟩,.int .i64 0])) w':=⟨hb,.inl ⟨t,h,rfl⟩⟩
theorem zMu (t:List UInt8):2≤(zAq t).length:=by simp[zAq]
theorem zO4 {s:ByteArray}{l:List UInt8}(h:s.data.toList=l):s=⟨⟨l⟩⟩:=by
 obtain⟨⟨x⟩⟩:=s;simp only at h;subst h;rfl
theorem zJv {t:List UInt8}{s:ByteArray}(h:zAq t=s.data.toList) (h0:0<s.size):s[0]'h0=34:=by
 have e:=zO4 h.symm;subst e;rfl
theorem zKu {t:List UInt8}{s:ByteArray}(h:zAq t=s.data.toList) (h0:s.size-1<s.size):s[s.size-1]'h0=34:=by
 have e:=zO4 h.symm;subst e;show (zAq t)[(zAq t).length-1]'_=34;simp[zAq]
theorem zN1:∀ {l:List UInt8},2≤l.length→l[0]?=some 34→l[l.length-1]?=some 34→l=34::((l.drop 1).take (l.length-2)++[34])
 | a::r,h2,h0,h1=>by
  simp only[List.getElem?_cons_zero,Option.some.injEq]at h0;subst h0;simp only[List.length_cons]at h2 h1;have hr:r≠[]:=by intro e;subst e;simp at h2
  have hp:0<r.length:=List.length_pos_iff.2 hr;have e2:r.length+1-1=(r.length-1)+1:=by omega
  rw[e2,List.getElem?_cons_succ,List.getElem?_eq_getElem (by omega)]at h1;simp only[Option.some.injEq]at h1;simp only[List.length_cons,List.drop_succ_cons,List.drop_zero,List.cons.injEq,true_and];have hr2:r.length+1-2=r.length-1:=by omega
  rw[hr2,←h1];have:=List.take_succ_eq_append_getElem (l:=r) (i:=r.length-1) (by omega);rw[←this,show r.length-1+1=r.length by omega,List.take_length]
theorem zN7 {s:ByteArray}(h2:2≤s.size) (h0:s[0]'(by omega)=34) (h1:s[s.size-1]'(by omega)=34) :
  s.data.toList=34::((s.extract 1 (s.size-1)).data.toList++[34]):=by
 rw[Lib.extract_data];have hl:s.data.toList.length=s.size:=by simp
 have e:=zN1 (l:=s.data.toList) (by omega) (by rw[List.getElem?_eq_getElem (by omega)];exact congrArg some h0) (by rw[List.getElem?_eq_getElem (by omega)];simp only[hl];exact congrArg some h1);rw[hl]at e;exact e
theorem zIw {t ins:List UInt8}(h:zAq t=34::(ins++[34])):t.flatMap qByte=ins:=by
 unfold zAq at h;simp only[List.cons.injEq,true_and]at h;exact List.append_cancel_right h
theorem zNr (s:ByteArray):zQj (.string s)=s.size:=rfl
theorem zKf (B:Nat) (w:World) (n:Nat):Below B w (w.drewN n):=⟨rfl,rfl,rfl,Nat.le_refl _,fun _ _=>rfl⟩
theorem zKk (s:ByteArray) (w:World) (hs:s.size≤140737488355328):Calls Tryz.prog 178 #[.string s] w (UnQ s.data.toList w):=by
 have hsl:=xI (zGj s);by_cases h1:s.size<2
 ·go_enter Tryz.func178,Tryz.ntmps178;go_wp2
  go_ret2
  exact zLs (fun t e=>by have:=zMu t;rw[e,hsl.out]at this;omega) bR
 have h2:0<s.size:=by omega
 have h3:s.size-1<s.size:=by omega
 by_cases h4:((s[0]'h2).toNat:Int)=34
 ·have h4b:(((s[0]'h2).toNat:Int) != 34)=false:=by rw[bne_eq_false_iff_eq];exact h4
  by_cases h5:((s[s.size-1]'h3).toNat:Int)=34
  ·have hin:=xI (zN7 (s:=s) (by omega) (zHu (n:=34) h4 (by decide)) (zHu (n:=34) h5 (by decide)));have hd:decide ((s.size:Int)<2)=false:=by simp;omega
   have hil:(s.extract 1 (s.size-1)).size≤s.size:=by simp;omega
   obtain⟨ins,hins⟩:∃ ins,ins=s.extract 1 (s.size-1):=⟨_,rfl⟩;rw[←hins]at hin hil;have HI:=xI hins;clear hins;have hb0:Below w.heap.size w (w.alloc (.cells #[.slice none 0 0,.int .i64 0,.int .i8 0] 54)):=bR.alloc lR _;have HF:=xI (Lib.fresh_isBuffer 54 5 w);go_enter Tryz.func178,Tryz.ntmps178;go_wp2_with fail;rw[←HI.out]
   go_loopw [5,6,7,2,3] (fun v _ _ u2 u3 wr=>∃ (r:ByteArray) (acc:List UInt8),v=.string r∧u2=.string ⟨#[]⟩∧u3=.int .i64 0∧ins.data.toList=acc.flatMap qByte++r.data.toList∧acc.length+r.size≤ins.size∧Lib.IsBuffer 54 5 w.heap.size w.heap.size (Lib.byteCells acc) wr∧Below w.heap.size w wr) (fun v _ _ _ _ _=>zQj v)
   case atStart=>exact⟨ins,[],rfl,rfl,rfl,by simp,by simp,HF.out,hb0⟩
   case round=>
    obtain⟨r,acc,rfl,rfl,rfl,heq,hlen,hI,hb⟩:=hrel;have HQ:=xI heq;clear heq;have hsr:=hb.size;by_cases hr:r.size=0
    ·have hr0:r.data.toList=[]:=by rw[←List.length_eq_zero_iff];simpa using hr
     have hr1:r.toList.isEmpty=true:=by rw[Lib.toList_data,hr0];rfl
     have HR0:=xI hr0;clear hr0;go_wp2_with fail;refine (Tryz.Buffer_String _ _ _ _ hI).mono ?_;rintro e w1 ⟨rfl,nq,rfl⟩;go_wp2
     go_ret2
     exact zQu (by rw[hin.out,HQ.out,HR0.out];simp[zAq]) (hb.trans ⟨rfl,rfl,rfl,Nat.le_refl _,fun _ _=>rfl⟩)
    ·have hr1:r.toList.isEmpty=false:=by
      rw[Lib.toList_data,List.isEmpty_eq_false_iff];intro e;apply hr;have:=congrArg List.length e;simpa using this
     have hrm:r.size≤maxLen:=by unfold maxLen;omega
     go_wp2_with fail;refine (zG1 r wr (by omega) hrm).mono ?_;rintro e w1 ⟨⟨nq,rfl⟩,⟨c,rest,hc,rfl⟩|⟨hno,rfl⟩⟩
     ·have HC:=xI hc;clear hc;have hq1:=zEx c;have hq4:=zF5 c;have hrl:(qByte c).length≤r.size:=by
       have:=congrArg List.length HC.out;simp only[List.length_append]at this;have h':r.data.toList.length=r.size:=by simp
       omega
      have hz:(((qByte c).length:Int)==0)=false:=by rw[beq_eq_false_iff_ne];omega
      go_wp2_with fail;refine (zCn _ _ _ _ _ (hI.drewN nq) hsr (by omega)).mono ?_;rintro e w2 ⟨rfl,hI2,hb2⟩;go_wp2
      go_roundw
      case rel=>
       refine⟨_,acc++[c],rfl,rfl,rfl,?_,?_,hI2,(hb.trans (zKf _ _ nq)).trans hb2⟩
       ·have hrest:rest.length=r.size-(qByte c).length:=by
         have:=congrArg List.length HC.out;simp only[List.length_append]at this;have h':r.data.toList.length=r.size:=by simp
         omega
        rw[HQ.out,Lib.extract_data,HC.out,List.flatMap_append,List.drop_left,List.take_of_length_le (by omega)];simp
       ·simp only[List.length_append,List.length_cons,List.length_nil,ByteArray.size_extract];omega
      case measure=>simp only[zNr,ByteArray.size_extract];omega
     ·have hn2:=xI (show ∀ t:List UInt8,zAq t≠s.data.toList by
       intro t e;have h1:=zIw (e.trans hin.out);rw[HQ.out]at h1;obtain⟨c,rfl,hc⟩:=zEh h1.symm;cases c with
       | nil=>
        have h':r.data.toList.length=r.size:=zGj r;rw[hc]at h';simp only[List.flatMap_nil,List.length_nil]at h';omega
       | cons p c=>exact hno p _ hc)
      clear hno;go_wp2
      go_ret2
      exact zLs hn2.out (hb.trans ⟨rfl,rfl,rfl,Nat.le_refl _,fun _ _=>rfl⟩)
  ·have h5b:(((s[s.size-1]'h3).toNat:Int) != 34)=true:=by rw[bne_iff_ne];exact h5
   go_enter Tryz.func178,Tryz.ntmps178;go_wp2
   go_ret2
   exact zLs (fun t e=>h5 (by rw[zKu e h3];rfl)) bR
 ·have h4b:(((s[0]'h2).toNat:Int) != 34)=true:=by rw[bne_iff_ne];exact h4
  go_enter Tryz.func178,Tryz.ntmps178;go_wp2
  go_ret2
  exact zLs (fun t e=>h4 (by rw[zJv e h2];rfl)) bR
theorem bcell {W w1:World}(hb:Below W.heap.size W w1):(∀ b o,b<W.heap.size→w1.cell? ⟨b,o,none⟩=W.cell? ⟨b,o,none⟩)∧(∀ b o,b<W.heap.size→w1.frozen? ⟨b,o,none⟩=W.frozen? ⟨b,o,none⟩):=
 ⟨fun b o h=>hb.cell (p:=⟨b,o,none⟩) h,fun b o h=>hb.frozen (p:=⟨b,o,none⟩) h⟩
def zCm (k:Int) (l:List UInt8):List UInt8:=if keyB k l then (if k=1 then zAq l else l) else []
theorem ba_mk (s:ByteArray):(⟨s.data.toList.toArray⟩:ByteArray)=s:=by
 obtain⟨⟨l⟩⟩:=s;rfl
theorem zE4 (k:Int) (s:ByteArray) (w:World) (hs:s.size≤maxLen) :
  Calls Tryz.prog 74 #[.agg #[.int .i64 k,.string s]] w fun e w'=>e=.returned (.string ⟨(zCm k s.data.toList).toArray⟩)∧Below w.heap.size w w':=by
 have hb0:Below w.heap.size w (w.alloc (.cells #[.int .i64 k,.string s] 80)):=bR.alloc lR _;cases hk:keyB k s.data.toList
 ·have hf:=xI (show zCm k s.data.toList=[] by simp[zCm,hk]);go_enter Tryz.func74,Tryz.ntmps74;go_wp2_with (go_at_call 118;refine (zBj _ _ _ hs).mono ?_;rintro e w1 ⟨rfl,hb⟩);go_ret;exact⟨by rw[hf.out];rfl,hb0.trans (hb.mono (by simp))⟩
 ·by_cases h1:k=1
  ·subst h1;have hf:=xI (show zCm 1 s.data.toList=zAq s.data.toList by simp[zCm,hk]);have hs2:s.size≤35184372088830:=by
    simp[keyB]at hk;omega
   go_enter Tryz.func74,Tryz.ntmps74;go_wp2_with fail;refine (zBj _ _ _ hs).mono ?_;rintro e w1 ⟨rfl,hb⟩;obtain⟨hc,hfz⟩:=bcell hb;have hz:=hb.size;simp only[World.size_alloc]at hz;go_wp2_with fail;refine (zJt _ _ hs2).mono ?_;rintro e w2 ⟨rfl,hb2⟩;go_wp2;go_ret;exact⟨by rw[hf.out];rfl,(hb0.trans (hb.mono (by simp))).trans (hb2.mono (by omega))⟩
  ·have hf:=xI (show zCm k s.data.toList=s.data.toList by simp[zCm,hk,h1]);have h1b:(k==1)=false:=by simp[h1]
   go_enter Tryz.func74,Tryz.ntmps74;go_wp2_with fail;refine (zBj _ _ _ hs).mono ?_;rintro e w1 ⟨rfl,hb⟩;obtain⟨hc,hfz⟩:=bcell hb;have hz:=hb.size;simp only[World.size_alloc]at hz;go_wp2;go_ret;exact⟨by rw[hf.out,ba_mk];rfl,hb0.trans (hb.mono (by simp))⟩
def Notes (l:List UInt8) (k:Int) (t:List UInt8):Prop:=keyB k t=true∧((k=0∧t=l)∨(k=1∧zAq t=l))
def PKey (l:List UInt8) (w:World) (e:Ending) (w':World):Prop:=
 Below w.heap.size w w'∧((∃ k t,Notes l k t∧e=.returned (.tuple #[.agg #[.int .i64 k,.string ⟨t.toArray⟩],.int .i64 0]))∨((∀ k t,¬ Notes l k t)∧e=.returned (.tuple #[.agg #[.int .i64 0,.string ⟨#[]⟩],.int .i64 5])))
theorem zKy {l:List UInt8}{w w':World}(h:∀ k t,¬ Notes l k t) (hb:Below w.heap.size w w'):PKey l w (.returned (.tuple #[.agg #[.int .i64 0,.string ⟨#[]⟩],.int .i64 5])) w':=⟨hb,.inr ⟨h,rfl⟩⟩
theorem zL0 {l:List UInt8}{k:Int}{t:ByteArray}{w w':World}(h:Notes l k t.data.toList) (hb:Below w.heap.size w w'):PKey l w (.returned (.tuple #[.agg #[.int .i64 k,.string t],.int .i64 0])) w':=
 ⟨hb,.inl ⟨k,t.data.toList,h,by rw[ba_mk]⟩⟩
theorem zEn {w w1:World}{a b c d:Value}{T:TypeId}(hb:Below ((w.alloc (.cells #[a,b] T)).alloc (.cells #[c,d] T)).heap.size ((w.alloc (.cells #[a,b] T)).alloc (.cells #[c,d] T)) w1) :
  w1.cell? ⟨w.heap.size,0,none⟩=some a∧w1.cell? ⟨w.heap.size,1,none⟩=some b∧w1.cell? ⟨w.heap.size+1,0,none⟩=some c∧w1.cell? ⟨w.heap.size+1,1,none⟩=some d ∧
  w1.frozen? ⟨w.heap.size,0,none⟩=false∧w1.frozen? ⟨w.heap.size,1,none⟩=false∧w1.frozen? ⟨w.heap.size+1,0,none⟩=false∧w1.frozen? ⟨w.heap.size+1,1,none⟩=false∧w.heap.size+1<w1.heap.size:=by
 have hz:=hb.size;have h0:w1.heap[w.heap.size]?=some (.cells #[a,b] T (0,0)):=by
  rw[hb.block _ (by simp;omega)];rw[Below.heap_alloc _ _ _ (by simp)];exact heap_alloc_new w _
 have h1:w1.heap[w.heap.size+1]?=some (.cells #[c,d] T (0,0)):=by
  rw[hb.block _ (by simp)];have:=heap_alloc_new (w.alloc (.cells #[a,b] T)) (.cells #[c,d] T);simpa using this
 refine⟨?_,?_,?_,?_,Lib.frozen_of_heap h0 0,Lib.frozen_of_heap h0 1,Lib.frozen_of_heap h1 0,Lib.frozen_of_heap h1 1,by simp at hz;omega⟩
 ·rw[Lib.cell_of_heap h0];rfl
 ·rw[Lib.cell_of_heap h0];rfl
 ·rw[Lib.cell_of_heap h1];rfl
 ·rw[Lib.cell_of_heap h1];rfl
theorem zF7 {l t:List UInt8}(hp:Lib.hasPrefix l [34]=true){k:Int}(h:Notes l k t):k=1∧zAq t=l:=by
 obtain⟨hk,⟨rfl,rfl⟩|h⟩:=h
 ·simp only[keyB,if_true]at hk;cases t with
  | nil=>cases hp
  | cons a r=>
   have:a=34:=by
    simp[Lib.hasPrefix]at hp;exact hp.symm
   subst this;simp[atomB,nameB,lowB]at hk
 ·exact h
theorem zMy {l t:List UInt8}(hp:Lib.hasPrefix l [34]=false){k:Int}(h:Notes l k t):k=0∧t=l:=by
 obtain⟨hk,h|⟨rfl,rfl⟩⟩:=h
 ·exact h
 ·simp[Lib.hasPrefix,zAq]at hp
theorem zF6 (s:ByteArray) (w:World) (hs:s.size≤140737488355328):Calls Tryz.prog 163 #[.string s] w (PKey s.data.toList w):=by
 have hs':s.size≤maxLen:=by unfold maxLen;omega
 have hb0:Below w.heap.size w ((w.alloc (.cells #[.int .i64 0,.string ⟨#[]⟩] 80)).alloc (.cells #[.int .i64 0,.string s] 80)):=(bR.alloc lR _).alloc (by simp) _;cases hp:Lib.hasPrefix s.data.toList [34]
 ·cases hk:keyB 0 s.data.toList
  ·have hn:=xI (show ∀ k t,¬ Notes s.data.toList k t by
    intro k t h;obtain⟨rfl,rfl⟩:=zMy hp h;exact absurd h.1 (by rw[hk];decide))
   go_enter Tryz.func163,Tryz.ntmps163;go_wp2_with fail;refine (Tryz.strings_HasPrefix _ _ _).mono ?_;rintro e w1 ⟨rfl,rfl⟩;go_wp2_with fail;refine (zBj _ _ _ hs').mono ?_;rintro e w1 ⟨rfl,hb⟩;obtain⟨c0,c1,c2,c3,f0,f1,f2,f3,hz⟩:=zEn hb;go_wp2;refine bodyPost_ret (v:=.tuple #[.agg #[.int .i64 0,.string ⟨#[]⟩],.int .i64 5]) (by simp[results,Tryz.results163,go_sem,c0,c1]) rfl (zKy hn.out ?_);exact ((hb0.trans (hb.mono (by simp;omega))).setCell (p:=⟨w.heap.size,0,none⟩) lR _).setCell (p:=⟨w.heap.size,1,none⟩) lR _
  ·have hy:Hid (Notes s.data.toList 0 s.data.toList):=xI ⟨hk,.inl ⟨rfl,rfl⟩⟩;go_enter Tryz.func163,Tryz.ntmps163;go_wp2_with fail;refine (Tryz.strings_HasPrefix _ _ _).mono ?_;rintro e w1 ⟨rfl,rfl⟩;go_wp2_with fail;refine (zBj _ _ _ hs').mono ?_;rintro e w1 ⟨rfl,hb⟩;obtain⟨c0,c1,c2,c3,f0,f1,f2,f3,hz⟩:=zEn hb;go_wp2;refine bodyPost_ret (v:=.tuple #[.agg #[.int .i64 0,.string s],.int .i64 0]) (by simp[results,Tryz.results163,go_sem,c0,c1]) rfl (zL0 hy.out ?_);exact ((hb0.trans (hb.mono (by simp;omega))).setCell (p:=⟨w.heap.size,0,none⟩) lR _).setCell (p:=⟨w.heap.size,1,none⟩) lR _
 ·go_enter Tryz.func163,Tryz.ntmps163;go_wp2_with fail;refine (Tryz.strings_HasPrefix _ _ _).mono ?_;rintro e w1 ⟨rfl,rfl⟩;go_wp2_with fail;refine (zKk _ _ hs).mono ?_;rintro e w1 ⟨hb,⟨t,ht,rfl⟩|⟨hno,rfl⟩⟩
  ·obtain⟨c0,c1,c2,c3,f0,f1,f2,f3,hz⟩:=zEn hb;have HT:=xI ht;clear ht;have htl:(⟨t.toArray⟩:ByteArray).size≤maxLen:=by
    have h1:=congrArg List.length HT.out;have h2:t.length≤(zAq t).length:=by
     simp only[zAq,List.length_cons,List.length_append,List.length_nil];have:t.length≤(t.flatMap qByte).length:=by
      clear HT h1
      induction t with
      | nil=>simp
      | cons a r ih=>have:=zEx a;simp only[List.flatMap_cons,List.length_append,List.length_cons];omega
     omega
    have h3:=zGj s;show t.length≤maxLen;omega
   go_wp2_with fail;have HK:=xI (show keyB 1 t=true∨keyB 1 t=false by cases keyB 1 t<;>simp);refine (zBj _ _ _ htl).mono ?_;rintro e w2 ⟨rfl,hb2⟩;have hz2:=hb2.size;simp only[World.size_setCell]at hz2;have d0:w2.cell? ⟨w.heap.size,0,none⟩=some (.int .i64 0):=by rw[hb2.cell (by simp;omega)];go_simp
   have d1:w2.cell? ⟨w.heap.size,1,none⟩=some (.string ⟨#[]⟩):=by rw[hb2.cell (by simp;omega)];go_simp
   have d2:w2.cell? ⟨w.heap.size+1,0,none⟩=some (.int .i64 1):=by rw[hb2.cell (by simp;omega)];go_simp
   have d3:w2.cell? ⟨w.heap.size+1,1,none⟩=some (.string ⟨t.toArray⟩):=by rw[hb2.cell (by simp;omega)];go_simp
   have g0:w2.frozen? ⟨w.heap.size,0,none⟩=false:=by rw[hb2.frozen (by simp;omega)];go_simp
   have g1:w2.frozen? ⟨w.heap.size,1,none⟩=false:=by rw[hb2.frozen (by simp;omega)];go_simp
   rcases HK.out with hk|hk
   ·have hy:Hid (Notes s.data.toList 1 t):=xI ⟨hk,.inr ⟨rfl,HT.out⟩⟩;go_wp2;refine bodyPost_ret (v:=.tuple #[.agg #[.int .i64 1,.string ⟨t.toArray⟩],.int .i64 0]) (by simp[results,Tryz.results163,go_sem,d0,d1]) rfl (zL0 hy.out ?_);exact (((((hb0.trans (hb.mono (by simp;omega))).setCell (p:=⟨w.heap.size+1,0,none⟩) (by simp) _).setCell (p:=⟨w.heap.size+1,1,none⟩) (by simp) _).trans (hb2.mono (by simp;omega))).setCell (p:=⟨w.heap.size,0,none⟩) lR _).setCell (p:=⟨w.heap.size,1,none⟩) lR _
   ·have hn:=xI (show ∀ k t,¬ Notes s.data.toList k t by
     intro k t' h;obtain⟨rfl,h'⟩:=zF7 hp h;have:=zH5 (h'.trans HT.out.symm);subst this;exact absurd h.1 (by rw[hk];decide))
    go_wp2;refine bodyPost_ret (v:=.tuple #[.agg #[.int .i64 0,.string ⟨#[]⟩],.int .i64 5]) (by simp[results,Tryz.results163,go_sem,d0,d1]) rfl (zKy hn.out ?_);exact (((((hb0.trans (hb.mono (by simp;omega))).setCell (p:=⟨w.heap.size+1,0,none⟩) (by simp) _).setCell (p:=⟨w.heap.size+1,1,none⟩) (by simp) _).trans (hb2.mono (by simp;omega))).setCell (p:=⟨w.heap.size,0,none⟩) lR _).setCell (p:=⟨w.heap.size,1,none⟩) lR _
  ·obtain⟨c0,c1,c2,c3,f0,f1,f2,f3,hz⟩:=zEn hb;have hn:=xI (show ∀ k t,¬ Notes s.data.toList k t by
    intro k t h;exact hno _ (zF7 hp h).2)
   clear hno;go_wp2;refine bodyPost_ret (v:=.tuple #[.agg #[.int .i64 0,.string ⟨#[]⟩],.int .i64 5]) (by simp[results,Tryz.results163,go_sem,c0,c1]) rfl (zKy hn.out ?_);exact ((hb0.trans (hb.mono (by simp;omega))).setCell (p:=⟨w.heap.size,0,none⟩) lR _).setCell (p:=⟨w.heap.size,1,none⟩) lR _
end Go.Proofs.YtcjgaohblaidjaaGreatDoor
namespace Go.Proofs.YtcjgaohblaidjaaGreatDoor
open Go Go.RowKit
theorem zGo:quoT []=0:=by unfold quoT;rfl
theorem zGn (c:UInt8):quoT [c]=1:=by unfold quoT;rfl
theorem zGm (c d:UInt8) (r:Bs):quoT (c::d::r)=if c=92 then 2+quoT r else if c=34 then 1 else 1+quoT (d::r):=by rw[quoT]
theorem zKv:∀ (n:Nat) (s:Bs),s.length≤n→quoT s≤s.length
 | 0,s,h=>by rw[List.length_eq_zero_iff.1 (Nat.le_zero.1 h),zGo];exact Nat.zero_le _
 | n+1,[],_=>by rw[zGo];exact Nat.zero_le _
 | n+1,[c],_=>by rw[zGn];exact Nat.le_refl _
 | n+1,c::d::r,h=>by
  simp only[List.length_cons]at h;have h1:=zKv n r (by omega);have h2:=zKv n (d::r) (by simp only[List.length_cons];omega);simp only[List.length_cons]at h2;rw[zGm];simp only[List.length_cons];split
  ·omega
  ·split<;>omega
def QAt (s:Bs) (i:Nat):Prop:=(i≤s.length∧quoN s=i+quoT (s.drop i))∨(i=s.length+1∧quoN s=s.length)
theorem QAt.start {s:Bs}(h:1≤s.length):QAt s 1:=.inl ⟨h,rfl⟩
theorem QAt.stop {s:Bs}{i:Nat}(h:QAt s i) (hi:¬ i<s.length):quoN s=s.length:=by
 rcases h with⟨h1,h2⟩|⟨_,h2⟩
 ·rw[h2,List.drop_eq_nil_of_le (by omega),zGo];omega
 ·exact h2
theorem QAt.slash {s:Bs}{i:Nat}(h:QAt s i) (hi:i<s.length) (hc:s[i]?=some 92):QAt s (i+2):=by
 rcases h with⟨h1,h2⟩|⟨h1,_⟩
 ·have hd:s.drop i=92::s.drop (i+1):=by
   rw[List.drop_eq_getElem_cons hi];rw[List.getElem?_eq_getElem hi]at hc;injection hc with hc;rw[hc]
  by_cases hl:i+1<s.length
  ·refine .inl ⟨by omega,?_⟩;rw[h2,hd,List.drop_eq_getElem_cons hl,zGm,if_pos rfl,show i+1+1=i+2 from rfl];omega
  ·refine .inr ⟨by omega,?_⟩;rw[h2,hd,List.drop_eq_nil_of_le (by omega),zGn];omega
 ·omega
theorem QAt.quote {s:Bs}{i:Nat}(h:QAt s i) (hi:i<s.length) (hc:s[i]?=some 34):quoN s=i+1:=by
 rcases h with⟨h1,h2⟩|⟨h1,_⟩
 ·have hd:s.drop i=34::s.drop (i+1):=by
   rw[List.drop_eq_getElem_cons hi];rw[List.getElem?_eq_getElem hi]at hc;injection hc with hc;rw[hc]
  rw[h2,hd];cases hq:s.drop (i+1)with
  | nil=>rw[zGn]
  | cons d r=>rw[zGm,if_neg (by decide),if_pos rfl]
 ·omega
theorem QAt.other {s:Bs}{i:Nat}{c:UInt8}(h:QAt s i) (hi:i<s.length) (hc:s[i]?=some c) (h1:c≠92) (h3:c≠34):QAt s (i+1):=by
 rcases h with⟨_,h2⟩|⟨h1,_⟩
 ·have hd:s.drop i=c::s.drop (i+1):=by
   rw[List.drop_eq_getElem_cons hi];rw[List.getElem?_eq_getElem hi]at hc;injection hc with hc;rw[hc]
  refine .inl ⟨by omega,?_⟩;rw[h2,hd];cases hq:s.drop (i+1)with
  | nil=>rw[zGn,zGo]
  | cons d r=>rw[zGm,if_neg h1,if_neg h3];omega
 ·omega
theorem zHy (s:Bs) (w:World) (hs:s.length≤limP) (h1:1≤s.length) :
  Calls Tryz.prog 162 #[.string ⟨s.toArray⟩] w fun e w'=>e=.returned (.int .i64 (quoN s:Nat))∧w=w':=by
 have hsz:(⟨s.toArray⟩:ByteArray).size=s.length:=rfl;unfold limP at hs;go_enter Tryz.func162,Tryz.ntmps162;go_wp2_with fail
 go_loopw [3] (fun nv wr=>∃ i:Nat,nv=.int .i64 i∧1≤i∧i≤s.length+1∧QAt s i∧wr=w) (fun nv _=>s.length+1-(intOf nv).toNat)
 case atStart=>exact⟨1,rfl,by omega,by omega,QAt.start h1,rfl⟩
 case round=>
  obtain⟨i,rfl,hi1,hi2,hq,rfl⟩:=hrel;have HQ:=xI hq;clear hq;by_cases hlt:i<s.length
  ·have hget:s[i]?=some s[i]:=List.getElem?_eq_getElem hlt;have kn:(i:Int)<(s.length:Int):=by omega
   have k0:(0:Int)≤(i:Int):=by omega
   have hgb:(⟨s.toArray⟩:ByteArray)[i]'(by rw[hsz];exact hlt)=s[i]:=rfl;have HG:=xI hget;generalize s[i]=c at hget HG hgb;clear hget;by_cases hc92:c=92
   ·subst hc92;have HS:=xI (HQ.out.slash hlt HG.out);go_wp2
    go_roundw
    case rel=>exact⟨i+2,by go_num,by omega,by omega,HS.out,trivial⟩
    case measure=>simp[intOf];omega
   ·have k92:¬ ((c.toNat:Int)=92):=fun e=>hc92 (UInt8.toNat_inj.1 (by have h9:c.toNat=92:=(by omega);rw[h9];rfl));by_cases hc34:c=34
    ·subst hc34;have HS:=xI (HQ.out.quote hlt HG.out);go_wp2;go_ret;exact⟨by rw[HS.out];go_num,rfl⟩
    ·have k34:¬ ((c.toNat:Int)=34):=fun e=>hc34 (UInt8.toNat_inj.1 (by have h9:c.toNat=34:=(by omega);rw[h9];rfl));have HS:=xI (HQ.out.other hlt HG.out hc92 hc34);go_wp2
     go_roundw
     case rel=>exact⟨i+1,by go_num,by omega,by omega,HS.out,trivial⟩
     case measure=>simp[intOf];omega
  ·have kn:¬ (i:Int)<(s.length:Int):=by omega
   have HS:=xI (HQ.out.stop hlt);go_wp2;go_ret;exact⟨by rw[HS.out];rfl,rfl⟩
theorem zJx {l:Bs}{w w':World}{e:Ending}(h:PKey l w e w'):Below w.heap.size w w'∧((∃ x,keyV l=some x∧(x.1=0∨x.1=1)∧x.2.length≤64∧e=.returned (.tuple #[.agg #[.int .i64 x.1,.string ⟨x.2.toArray⟩],.int .i64 0]))∨(keyV l=none∧e=.returned (.tuple #[.agg #[.int .i64 0,.string ⟨#[]⟩],.int .i64 5]))):=by
 obtain⟨hb,h⟩:=h;refine⟨hb,?_⟩;rcases h with⟨k,t,⟨hk,hn⟩,rfl⟩|⟨hn,rfl⟩
 ·have h01:k=0∨k=1:=by
   rcases hn with⟨rfl,_⟩|⟨rfl,_⟩
   ·exact .inl rfl
   ·exact .inr rfl
  have hl:keyL k t=l:=by
   rcases hn with⟨rfl,rfl⟩|⟨rfl,rfl⟩<;>rfl
  have ht:t.length≤64:=by
   unfold keyB at hk;split at hk
   ·have h2:nameB lowB atomT t=true:=hk;unfold nameB at h2;simp only[Bool.and_eq_true,decide_eq_true_eq]at h2;omega
   ·split at hk
    ·simpa using hk
    ·cases hk
  exact .inl ⟨(k,t),by rw[←hl];exact zHf hk h01,h01,ht,rfl⟩
 ·refine .inr ⟨?_,rfl⟩;cases hv:keyV l with
  | none=>rfl
  | some x=>
   obtain⟨h1,h2,h3⟩:=zN6 hv;refine absurd ⟨h1,?_⟩ (hn x.1 x.2);rcases h2 with h2|h2
   ·exact .inl ⟨h2,by rw[←h3,h2];rfl⟩
   ·exact .inr ⟨h2,by rw[←h3,h2];rfl⟩
theorem zL4 (p:Nat) (r:Bs) (d:Int) (w:World) (h:PrsW p r d w) (hr:r.length≤limP) :
  Calls Tryz.prog 132 #[.pointer (some ⟨p,0,none⟩)] w (zRc p d (keyP r) r w):=by
 have hlp:=h.lt;unfold limP at hr;obtain⟨W,hW⟩:∃ W,W=w.alloc (.cells #[.int .i64 0,.string ⟨#[]⟩] 80):=⟨_,rfl⟩;have kW:W.heap[w.heap.size]?=some (.cells #[.int .i64 0,.string ⟨#[]⟩] 80 (0,0)):=by rw[hW];exact heap_alloc_new w _
 have hLW:Left p r r d w W:=by rw[hW];exact (Left.refl h).alloc _
 have hPW:=hLW.2.1;obtain⟨c0,_,_,_⟩:=hPW.cells;rw[hW]at c0;have hsz:(⟨r.toArray⟩:ByteArray).size=r.length:=rfl;have hpre:=Tryz.strings_HasPrefix ⟨r.toArray⟩ ⟨#[34]⟩ W;rw[show (⟨r.toArray⟩:ByteArray).data.toList=r from rfl,show (⟨#[34]⟩:ByteArray).data.toList=[34]from rfl]at hpre;have hne:w.heap.size≠p:=by omega
 cases hp:Lib.hasPrefix r [34]
 ·-- a name
  have HQ:=xI (show keyP r=(keyV (r.takeWhile nameC)).map fun x=>(x,r.dropWhile nameC)from by unfold keyP;rw[hp];rfl);have ht:=zF1 p r d W hPW (by unfold maxLen;omega);have hld:=(List.dropWhile_sublist nameC (l:=r)).length_le;have hlt:=(List.takeWhile_sublist nameC (l:=r)).length_le;have hL1:Left p (r.dropWhile nameC) r d W (W.setCell ⟨p,0,none⟩ (.string ⟨(r.dropWhile nameC).toArray⟩)):=⟨Eff.set _ _ _ _,hPW.set _,hld⟩;generalize keyP r=o at HQ ⊢;generalize r.takeWhile nameC=t at ht HQ hlt;generalize r.dropWhile nameC=u at ht HQ hL1;generalize W.setCell ⟨p,0,none⟩ (.string ⟨u.toArray⟩)=w1 at ht hL1;rw[hp]at hpre;have hpk:=zF6 ⟨t.toArray⟩ w1 (by show t.length≤_;omega);rw[show (⟨t.toArray⟩:ByteArray).data.toList=t from rfl]at hpk;have k1:=hL1.box kW hne;have HL1:=xI (hLW.trans hL1);clear h hLW hPW hL1 kW hld hlt hp;go_enter Tryz.func132,Tryz.ntmps132;go_wp2_with fail;rw[←hW];rw[←hW]at c0;clear hW;refine hpre.mono ?_;rintro e w0 ⟨rfl,rfl⟩;clear hpre;go_wp2_with fail;refine ht.mono ?_;rintro e w0 ⟨rfl,rfl⟩;clear ht;clear c0 hsz;go_wp2_with fail;refine hpk.mono ?_;intro e w2 hpost;clear hpk;obtain⟨hb2,hpost⟩:=zJx hpost;have k2:=(hb2.block _ (Array.getElem?_eq_some_iff.1 k1).1).trans k1;have hL2:=HL1.out.below hb2;clear k1 hb2;rcases hpost with⟨⟨y,z⟩,hk,h01,hz,rfl⟩|⟨hk,rfl⟩
  ·have HO:Hid (o=some ((y,z),u)):=xI (HQ.out.trans (by rw[hk];rfl));clear hk;obtain⟨w3,hw3⟩:∃ w3,w3=w2.alloc (.cells #[.int .i64 y,.string ⟨z.toArray⟩] 80):=⟨_,rfl⟩;have k3:w3.heap[w.heap.size]?=some (.cells #[.int .i64 0,.string ⟨#[]⟩] 80 (0,0)):=by rw[hw3];exact (Below.heap_alloc _ _ _ (Array.getElem?_eq_some_iff.1 k2).1).trans k2
   have hL3:Left p u r d w w3:=by rw[hw3];exact hL2.alloc _
   obtain⟨e0,e1⟩:=zE8 k3;obtain⟨z0,z1⟩:=zGt k3;rw[hw3]at e0 e1 z0 z1;have HL3:=xI hL3;have HK3:=xI k3;have h01':=xI h01;clear k2 hL2 k3 hL3 h01;go_wp2;rw[←hw3];clear e0 e1 z0 z1 hw3;obtain⟨V,hV⟩:∃ V,V=((w3.setCell ⟨w.heap.size,0,none⟩ (.int .i64 y)).setCell ⟨w.heap.size,1,none⟩ (.string ⟨z.toArray⟩)):=⟨_,rfl⟩;rw[←hV];obtain⟨hLV,hob,_,_,_⟩:=boxR2 HK3.out lR hlp HL3.out _ _ V hV;clear hV;obtain⟨ps0,ps1⟩:=zE8 hob;refine bodyPost_ret (v:=.tuple #[.agg #[.int .i64 y,.string ⟨z.toArray⟩],.bool true]) (by simp[results,Tryz.results132,go_sem,ps0,ps1]) rfl ?_;refine⟨y,⟨z.toArray⟩,u,by rw[HO.out];rfl,hLV,fun x t' hx=>?_⟩;rw[HO.out]at hx;simp only[Option.some.injEq,Prod.mk.injEq]at hx;obtain⟨rfl,rfl⟩:=hx;exact⟨rfl,rfl,rfl,h01'.out,by have h64:z.length≤64:=hz;unfold maxLen;show z.length≤_;omega⟩
  ·have HO:Hid (o=none):=xI (HQ.out.trans (by rw[hk];rfl));clear hk;obtain⟨w3,hw3⟩:∃ w3,w3=w2.alloc (.cells #[.int .i64 0,.string ⟨#[]⟩] 80):=⟨_,rfl⟩;have k3:w3.heap[w.heap.size]?=some (.cells #[.int .i64 0,.string ⟨#[]⟩] 80 (0,0)):=by rw[hw3];exact (Below.heap_alloc _ _ _ (Array.getElem?_eq_some_iff.1 k2).1).trans k2
   have hL3:Left p u r d w w3:=by rw[hw3];exact hL2.alloc _
   obtain⟨e0,e1⟩:=zE8 k3;obtain⟨z0,z1⟩:=zGt k3;rw[hw3]at e0 e1 z0 z1;have HL3:=xI hL3;have HK3:=xI k3;clear k2 hL2 k3 hL3;go_wp2;rw[←hw3];clear e0 e1 z0 z1 hw3;obtain⟨V,hV⟩:∃ V,V=((w3.setCell ⟨w.heap.size,0,none⟩ (.int .i64 0)).setCell ⟨w.heap.size,1,none⟩ (.string ⟨#[]⟩)):=⟨_,rfl⟩;rw[←hV];obtain⟨hLV,hob,_,_,_⟩:=boxR2 HK3.out lR hlp HL3.out _ _ V hV;clear hV;obtain⟨ps0,ps1⟩:=zE8 hob;refine bodyPost_ret (v:=.tuple #[.agg #[.int .i64 0,.string ⟨#[]⟩],.bool false]) (by simp[results,Tryz.results132,go_sem,ps0,ps1]) rfl ?_;exact⟨0,⟨#[]⟩,u,by rw[HO.out];rfl,hLV,fun x t' hx=>by rw[HO.out]at hx;cases hx⟩
 ·-- a quoted text
  have hl1:1≤r.length:=by
   cases r with
   | nil=>simp[Lib.hasPrefix]at hp
   | cons c q=>simp
  have hqn:quoN r≤r.length:=by
   have:=zKv _ (r.drop 1) lR;rw[List.length_drop]at this;unfold quoN;omega
  have HQ:=xI (show keyP r=(keyV (r.take (quoN r))).map fun x=>(x,r.drop (quoN r))from by unfold keyP;rw[hp];rfl);have hqs:=zHy r W (by unfold limP;omega) hl1;have ht:=zLe p r (quoN r) d W hPW hqn (by unfold maxLen;omega);have hL1:Left p (r.drop (quoN r)) r d W (W.setCell ⟨p,0,none⟩ (.string ⟨(r.drop (quoN r)).toArray⟩)):=⟨Eff.set _ _ _ _,hPW.set _,by rw[List.length_drop];omega⟩;have hlt:(r.take (quoN r)).length≤r.length:=by rw[List.length_take];omega
  generalize keyP r=o at HQ ⊢;generalize r.take (quoN r)=t at ht HQ hlt;generalize r.drop (quoN r)=u at ht HQ hL1;generalize quoN r=qn at hqs ht;generalize W.setCell ⟨p,0,none⟩ (.string ⟨u.toArray⟩)=w1 at ht hL1;rw[hp]at hpre;have hpk:=zF6 ⟨t.toArray⟩ w1 (by show t.length≤_;omega);rw[show (⟨t.toArray⟩:ByteArray).data.toList=t from rfl]at hpk;have k1:=hL1.box kW hne;have HL1:=xI (hLW.trans hL1);clear h hLW hPW hL1 kW hlt hp hl1 hqn;go_enter Tryz.func132,Tryz.ntmps132;go_wp2_with fail;rw[←hW];rw[←hW]at c0;clear hW;refine hpre.mono ?_;rintro e w0 ⟨rfl,rfl⟩;clear hpre;go_wp2_with fail;refine hqs.mono ?_;rintro e w0 ⟨rfl,rfl⟩;clear hqs;go_wp2_with fail;refine ht.mono ?_;rintro e w0 ⟨rfl,rfl⟩;clear ht;clear c0 hsz;go_wp2_with fail;refine hpk.mono ?_;intro e w2 hpost;clear hpk;obtain⟨hb2,hpost⟩:=zJx hpost;have k2:=(hb2.block _ (Array.getElem?_eq_some_iff.1 k1).1).trans k1;have hL2:=HL1.out.below hb2;clear k1 hb2;rcases hpost with⟨⟨y,z⟩,hk,h01,hz,rfl⟩|⟨hk,rfl⟩
  ·have HO:Hid (o=some ((y,z),u)):=xI (HQ.out.trans (by rw[hk];rfl));clear hk;obtain⟨w3,hw3⟩:∃ w3,w3=w2.alloc (.cells #[.int .i64 y,.string ⟨z.toArray⟩] 80):=⟨_,rfl⟩;have k3:w3.heap[w.heap.size]?=some (.cells #[.int .i64 0,.string ⟨#[]⟩] 80 (0,0)):=by rw[hw3];exact (Below.heap_alloc _ _ _ (Array.getElem?_eq_some_iff.1 k2).1).trans k2
   have hL3:Left p u r d w w3:=by rw[hw3];exact hL2.alloc _
   obtain⟨e0,e1⟩:=zE8 k3;obtain⟨z0,z1⟩:=zGt k3;rw[hw3]at e0 e1 z0 z1;have HL3:=xI hL3;have HK3:=xI k3;have h01':=xI h01;clear k2 hL2 k3 hL3 h01;go_wp2;rw[←hw3];clear e0 e1 z0 z1 hw3;obtain⟨V,hV⟩:∃ V,V=((w3.setCell ⟨w.heap.size,0,none⟩ (.int .i64 y)).setCell ⟨w.heap.size,1,none⟩ (.string ⟨z.toArray⟩)):=⟨_,rfl⟩;rw[←hV];obtain⟨hLV,hob,_,_,_⟩:=boxR2 HK3.out lR hlp HL3.out _ _ V hV;clear hV;obtain⟨ps0,ps1⟩:=zE8 hob;refine bodyPost_ret (v:=.tuple #[.agg #[.int .i64 y,.string ⟨z.toArray⟩],.bool true]) (by simp[results,Tryz.results132,go_sem,ps0,ps1]) rfl ?_;refine⟨y,⟨z.toArray⟩,u,by rw[HO.out];rfl,hLV,fun x t' hx=>?_⟩;rw[HO.out]at hx;simp only[Option.some.injEq,Prod.mk.injEq]at hx;obtain⟨rfl,rfl⟩:=hx;exact⟨rfl,rfl,rfl,h01'.out,by have h64:z.length≤64:=hz;unfold maxLen;show z.length≤_;omega⟩
  ·have HO:Hid (o=none):=xI (HQ.out.trans (by rw[hk];rfl));clear hk;obtain⟨w3,hw3⟩:∃ w3,w3=w2.alloc (.cells #[.int .i64 0,.string ⟨#[]⟩] 80):=⟨_,rfl⟩;have k3:w3.heap[w.heap.size]?=some (.cells #[.int .i64 0,.string ⟨#[]⟩] 80 (0,0)):=by rw[hw3];exact (Below.heap_alloc _ _ _ (Array.getElem?_eq_some_iff.1 k2).1).trans k2
   have hL3:Left p u r d w w3:=by rw[hw3];exact hL2.alloc _
   obtain⟨e0,e1⟩:=zE8 k3;obtain⟨z0,z1⟩:=zGt k3;rw[hw3]at e0 e1 z0 z1;have HL3:=xI hL3;have HK3:=xI k3;clear k2 hL2 k3 hL3;go_wp2;rw[←hw3];clear e0 e1 z0 z1 hw3;obtain⟨V,hV⟩:∃ V,V=((w3.setCell ⟨w.heap.size,0,none⟩ (.int .i64 0)).setCell ⟨w.heap.size,1,none⟩ (.string ⟨#[]⟩)):=⟨_,rfl⟩;rw[←hV];obtain⟨hLV,hob,_,_,_⟩:=boxR2 HK3.out lR hlp HL3.out _ _ V hV;clear hV;obtain⟨ps0,ps1⟩:=zE8 hob;refine bodyPost_ret (v:=.tuple #[.agg #[.int .i64 0,.string ⟨#[]⟩],.bool false]) (by simp[results,Tryz.results132,go_sem,ps0,ps1]) rfl ?_;exact⟨0,⟨#[]⟩,u,by rw[HO.out];rfl,hLV,fun x t' hx=>by rw[HO.out]at hx;cases hx⟩
end Go.Proofs.YtcjgaohblaidjaaGreatDoor
