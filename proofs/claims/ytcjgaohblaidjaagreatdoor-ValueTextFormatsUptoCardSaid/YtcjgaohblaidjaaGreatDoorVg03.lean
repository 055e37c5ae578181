/- What slices.CompareFunc returns, at equal lengths, at keys, texts, values and entries. -/
import Derived.Test.YtcjgaohblaidjaaGreatDoorVgZ
import Derived.Test.YtcjgaohblaidjaaGreatDoorVg01
import Derived.Test.YtcjgaohblaidjaaGreatDoorVg02
import Derived.Deep.LoopGhost
import Derived.Test.YtcjgaohblaidjaaGreatDoorVgShelf
import Derived.WalkLawsBesides
set_option maxRecDepth 100000
set_option maxHeartbeats 3200000
namespace Go.Proofs.YtcjgaohblaidjaaGreatDoor
open Go Go.RowKit
theorem RowB.at2 {w:World}{H n j:Nat}{u:Value}{R:Nat→List Value→Prop}(h:RowP w H 2 u n R) (hj:j<n) :
  ∃ b off cap x0 x1,u=.slice (some ⟨b,off,none⟩) n cap∧b<H∧R j [x0,x1]∧w.cell? ⟨b,off+j*2,none⟩=some x0∧w.cell? ⟨b,off+j*2+1,none⟩=some x1:=by
 obtain⟨A,cap,h1,_,h3⟩:=h;obtain⟨b,off,rfl,h5,_,h7⟩:=h3 (by omega);obtain⟨cs,h8,h9,h10⟩:=h7 j hj
 match cs,h8 with
 | [x0,x1],_=>exact⟨b,off,cap,x0,x1,h1,h5,h10,h9 0 (by omega),h9 1 (by omega)⟩
theorem RowB.at1 {w:World}{H n j:Nat}{u:Value}{R:Nat→List Value→Prop}(h:RowP w H 1 u n R) (hj:j<n) :
  ∃ b off cap x0,u=.slice (some ⟨b,off,none⟩) n cap∧b<H∧R j [x0]∧w.cell? ⟨b,off+j,none⟩=some x0:=by
 obtain⟨A,cap,h1,_,h3⟩:=h;obtain⟨b,off,rfl,h5,_,h7⟩:=h3 (by omega);obtain⟨cs,h8,h9,h10⟩:=h7 j hj
 match cs,h8 with
 | [x0],_=>exact⟨b,off,cap,x0,h1,h5,h10,by simpa using h9 0 (by omega)⟩
theorem ES.on {w w':World}{H:Nat}(hb:Below H w w'){k:Nat}{v:En}{cs:List Value}(h:ES k w H v cs):ES k w' H v cs:=by
 obtain⟨l,f,r,rfl,ua,rs,rfl,hl,hr⟩:=h;exact⟨l,f,r,rfl,ua,rs,rfl,hl.on hb fun _ _ ⟨x,h1,h2⟩=>⟨x,h1,VS.on hb h2⟩,VS.on hb hr⟩
theorem ES.up {w:World}{H H':Nat}(hH:H≤H'){k k':Nat}{v:En}{cs:List Value}(hk:k≤k') (h:ES k w H v cs):ES k' w H' v cs:=by
 obtain⟨l,f,r,rfl,ua,rs,rfl,hl,hr⟩:=h;exact⟨l,f,r,rfl,ua,rs,rfl,hl.mono hH fun _ _ ⟨x,h1,h2⟩=>⟨x,h1,VS.up hH hk h2⟩,VS.up hH hk hr⟩
theorem ES.form9 {k:Nat}{w:World}{H:Nat}{v:En}{cs:List Value}(h:ES k w H v cs) :
  ∃ A0 n0 c0 f a i s A1 n1 c1 A2 n2 c2 A3 n3 c3 A4 n4 c4,cs=[.slice A0 n0 c0,.bool f,.int .i64 a,.int .i64 i,.string s,.slice A1 n1 c1,.slice A2 n2 c2,.slice A3 n3 c3,.slice A4 n4 c4]:=by
 obtain⟨l,f,r,rfl,ua,rs,rfl,hl,hr⟩:=h;obtain⟨A,c,rfl,_⟩:=hl.form;obtain⟨a,i,s,A1,n1,c1,A2,n2,c2,A3,n3,c3,A4,n4,c4,rfl⟩:=hr.form7;exact⟨_,_,_,_,_,_,_,_,_,_,_,_,_,_,_,_,_,_,_,rfl⟩
theorem cmpf7 (k:Nat) (hP:Hid (∀ (a b:Vl) (ca cb:List Value) (w:World),VS k w w.heap.size a ca→VS k w w.heap.size b cb→Calls Tryz.prog 170 #[.agg ca.toArray,.agg cb.toArray] w fun e w'=>e=.returned (.int .i64 (cmpV a b))∧Below w.heap.size w w')) (A A':Option Addr) (c c':Nat) (l m:List (Vl)) (w:World) (hl:RowP w w.heap.size 7 (.slice A l.length c) l.length (fun j cs=>∃ x,l[j]?=some x∧VS k w w.heap.size x cs))
  (hm:RowP w w.heap.size 7 (.slice A' m.length c') m.length (fun j cs=>∃ x,m[j]?=some x∧VS k w w.heap.size x cs)) (he:l.length=m.length) :
  Calls Tryz.prog 180 #[.slice A l.length c,.slice A' m.length c',.func (.func 170) #[] #[]] w fun e w'=>e=.returned (.int .i64 (cmpL cmpV l m))∧Below w.heap.size w w':=by
 have eg:=enters_of Tryz.func170 (by kernel_rfl) rfl;obtain⟨_,_,_,hln⟩:=hl.form;obtain⟨_,_,_,hmn⟩:=hm.form;unfold maxLen at hln hmn;have HL:=xI hl;have HM:=xI hm;have HE:=xI he;clear hl hm he;go_enter Tryz.func180,Tryz.ntmps180;go_wp2_with fail
 go_loopw [7,13] (fun _ i wr=>∃ j:Nat,i=.int .i64 j∧j≤l.length∧cmpL cmpV (l.take j) (m.take j)=0∧Below w.heap.size w wr) (fun _ i _=>l.length-(intOf i).toNat)
 case atStart=>exact⟨0,rfl,by omega,by simp[cmpL],Below.refl _ _⟩
 case round=>
  obtain⟨j,rfl,hj,h0,hb⟩:=hrel;by_cases hjn:j<l.length
  ·obtain⟨b,off,cap0,x0,x1,x2,x3,x4,x5,x6,hu,hbH,⟨x,hx,hv⟩,c0,c1,c2,c3,c4,c5,c6⟩:=(HL.out.on hb (fun _ _ h=>h)).at7 hjn;obtain⟨b',off',cap0',y0,y1,y2,y3,y4,y5,y6,hu',hbH',⟨y,hy,hv'⟩,e0,e1,e2,e3,e4,e5,e6⟩:=(HM.out.on hb (fun _ _ h=>h)).at7 (show j<m.length by have:=HE.out;omega);injection hu with hA _ hcap;subst hA hcap;injection hu' with hA' _ hcap';subst hA' hcap';obtain⟨a,i,s,B1,n1,d1,B2,n2,d2,B3,n3,d3,B4,n4,d4,hf⟩:=hv.form7;simp only[List.cons.injEq,and_true]at hf;obtain⟨rfl,rfl,rfl,rfl,rfl,rfl,rfl⟩:=hf;obtain⟨a',i',s',B1',n1',d1',B2',n2',d2',B3',n3',d3',B4',n4',d4',hf⟩:=hv'.form7;simp only[List.cons.injEq,and_true]at hf;obtain⟨rfl,rfl,rfl,rfl,rfl,rfl,rfl⟩:=hf;have kn:(j:Int)<(l.length:Int):=by omega
   have km:(j:Int)<(m.length:Int):=by have:=HE.out;omega
   have k0:(0:Int)≤(j:Int):=by omega
   have HS:=xI (zCf hx hy h0);have HB:=xI hb;have hlt:b'<wr.heap.size:=Nat.lt_of_lt_of_le hbH' hb.size;have HVX:=xI hv;have HVY:=xI hv';clear hx hy h0 hb hv hv';have hg:∀ (o:Obj) (i:Nat),(wr.alloc o).cell? ⟨b',i,none⟩=wr.cell? ⟨b',i,none⟩:=fun o i=>((Below.refl _ wr).alloc lR o).cell (p:=⟨b',i,none⟩) hlt;have g0:(wr.alloc (.cells #[.int .i64 a,.int .i64 i,.string s,.slice B1 n1 d1,.slice B2 n2 d2,.slice B3 n3 d3,.slice B4 n4 d4] 27)).cell? ⟨b',off'+j*7,none⟩=some (.int .i64 a'):=(hg _ _).trans e0;have g1:(wr.alloc (.cells #[.int .i64 a,.int .i64 i,.string s,.slice B1 n1 d1,.slice B2 n2 d2,.slice B3 n3 d3,.slice B4 n4 d4] 27)).cell? ⟨b',off'+j*7+1,none⟩=some (.int .i64 i'):=(hg _ _).trans e1;have g2:(wr.alloc (.cells #[.int .i64 a,.int .i64 i,.string s,.slice B1 n1 d1,.slice B2 n2 d2,.slice B3 n3 d3,.slice B4 n4 d4] 27)).cell? ⟨b',off'+j*7+2,none⟩=some (.string s'):=(hg _ _).trans e2;have g3:(wr.alloc (.cells #[.int .i64 a,.int .i64 i,.string s,.slice B1 n1 d1,.slice B2 n2 d2,.slice B3 n3 d3,.slice B4 n4 d4] 27)).cell? ⟨b',off'+j*7+3,none⟩=some (.slice B1' n1' d1'):=(hg _ _).trans e3;have g4:(wr.alloc (.cells #[.int .i64 a,.int .i64 i,.string s,.slice B1 n1 d1,.slice B2 n2 d2,.slice B3 n3 d3,.slice B4 n4 d4] 27)).cell? ⟨b',off'+j*7+4,none⟩=some (.slice B2' n2' d2'):=(hg _ _).trans e4;have g5:(wr.alloc (.cells #[.int .i64 a,.int .i64 i,.string s,.slice B1 n1 d1,.slice B2 n2 d2,.slice B3 n3 d3,.slice B4 n4 d4] 27)).cell? ⟨b',off'+j*7+5,none⟩=some (.slice B3' n3' d3'):=(hg _ _).trans e5;have g6:(wr.alloc (.cells #[.int .i64 a,.int .i64 i,.string s,.slice B1 n1 d1,.slice B2 n2 d2,.slice B3 n3 d3,.slice B4 n4 d4] 27)).cell? ⟨b',off'+j*7+6,none⟩=some (.slice B4' n4' d4'):=(hg _ _).trans e6;clear hg hlt;go_wp2_with fail;rename World=>U;obtain⟨W2,hW2⟩:∃ W2,W2=(U.alloc (.cells #[.int .i64 a,.int .i64 i,.string s,.slice B1 n1 d1,.slice B2 n2 d2,.slice B3 n3 d3,.slice B4 n4 d4] 27)).alloc (.cells #[.int .i64 a',.int .i64 i',.string s',.slice B1' n1' d1',.slice B2' n2' d2',.slice B3' n3' d3',.slice B4' n4' d4'] 27):=⟨_,rfl⟩;have hb2:Below U.heap.size U W2:=by rw[hW2];exact (bR.alloc lR _).alloc (by simp) _
   have q0:W2.cell? ⟨U.heap.size,0,none⟩=some (.int .i64 a):=by rw[hW2];simp
   have q1:W2.cell? ⟨U.heap.size,1,none⟩=some (.int .i64 i):=by rw[hW2];simp
   have q2:W2.cell? ⟨U.heap.size,2,none⟩=some (.string s):=by rw[hW2];simp
   have q3:W2.cell? ⟨U.heap.size,3,none⟩=some (.slice B1 n1 d1):=by rw[hW2];simp
   have q4:W2.cell? ⟨U.heap.size,4,none⟩=some (.slice B2 n2 d2):=by rw[hW2];simp
   have q5:W2.cell? ⟨U.heap.size,5,none⟩=some (.slice B3 n3 d3):=by rw[hW2];simp
   have q6:W2.cell? ⟨U.heap.size,6,none⟩=some (.slice B4 n4 d4):=by rw[hW2];simp
   have r0:W2.cell? ⟨U.heap.size+1,0,none⟩=some (.int .i64 a'):=by rw[hW2];simp
   have r1:W2.cell? ⟨U.heap.size+1,1,none⟩=some (.int .i64 i'):=by rw[hW2];simp
   have r2:W2.cell? ⟨U.heap.size+1,2,none⟩=some (.string s'):=by rw[hW2];simp
   have r3:W2.cell? ⟨U.heap.size+1,3,none⟩=some (.slice B1' n1' d1'):=by rw[hW2];simp
   have r4:W2.cell? ⟨U.heap.size+1,4,none⟩=some (.slice B2' n2' d2'):=by rw[hW2];simp
   have r5:W2.cell? ⟨U.heap.size+1,5,none⟩=some (.slice B3' n3' d3'):=by rw[hW2];simp
   have r6:W2.cell? ⟨U.heap.size+1,6,none⟩=some (.slice B4' n4' d4'):=by rw[hW2];simp
   have hbw:=HB.out.trans (hb2.mono HB.out.size);have hc:=hP.out x y _ _ W2 (VS.up hbw.size lR (VS.on hbw HVX.out)) (VS.up hbw.size lR (VS.on hbw HVY.out));have HBW:=xI hbw;rw[←hW2];clear hW2 hb2 hbw c0 c1 c2 c3 c4 c5 c6 e0 e1 e2 e3 e4 e5 e6 g0 g1 g2 g3 g4 g5 g6;generalize cmpV x y=z at hc HS;go_wp2_with fail;refine hc.mono ?_;rintro e w1 ⟨rfl,hb1⟩;clear hc;by_cases hz0:z=0
   ·have q2:(z != 0)=false:=by rw[bne_eq_false_iff_eq];exact hz0
    go_wp2
    go_roundw
    case rel=>exact⟨j+1,by go_num,by omega,HS.out.2 hz0,HBW.out.trans (hb1.mono HBW.out.size)⟩
    case measure=>simp[intOf];omega
   ·have q2:(z != 0)=true:=by rw[bne_iff_ne];exact hz0
    go_wp2;go_ret;exact⟨ret_i (by rw[HS.out.1 hz0]),HBW.out.trans (hb1.mono HBW.out.size)⟩
  ·have hjl:l.take j=l:=List.take_of_length_le (by omega);have hjm:m.take j=m:=List.take_of_length_le (by have:=HE.out;omega);rw[hjl,hjm]at h0;have HZ:=xI h0;have km:¬ (l.length:Int)<(m.length:Int):=by have:=HE.out;omega
   clear h0;go_wp2;go_ret;exact⟨ret_i (by rw[HZ.out]),hb⟩
theorem cmpf9 (k:Nat) (hP:Hid (∀ (a b:En) (ca cb:List Value) (w:World),ES k w w.heap.size a ca→ES k w w.heap.size b cb→Calls Tryz.prog 150 #[.agg ca.toArray,.agg cb.toArray] w fun e w'=>e=.returned (.int .i64 (cmpE a b))∧Below w.heap.size w w')) (A A':Option Addr) (c c':Nat) (l m:List (En)) (w:World) (hl:RowP w w.heap.size 9 (.slice A l.length c) l.length (fun j cs=>∃ x,l[j]?=some x∧ES k w w.heap.size x cs))
  (hm:RowP w w.heap.size 9 (.slice A' m.length c') m.length (fun j cs=>∃ x,m[j]?=some x∧ES k w w.heap.size x cs)) (he:l.length=m.length) :
  Calls Tryz.prog 197 #[.slice A l.length c,.slice A' m.length c',.func (.func 150) #[] #[]] w fun e w'=>e=.returned (.int .i64 (cmpL cmpE l m))∧Below w.heap.size w w':=by
 have eg:=enters_of Tryz.func150 (by kernel_rfl) rfl;obtain⟨_,_,_,hln⟩:=hl.form;obtain⟨_,_,_,hmn⟩:=hm.form;unfold maxLen at hln hmn;have HL:=xI hl;have HM:=xI hm;have HE:=xI he;clear hl hm he;go_enter Tryz.func197,Tryz.ntmps197;go_wp2_with fail
 go_loopw [7,13] (fun _ i wr=>∃ j:Nat,i=.int .i64 j∧j≤l.length∧cmpL cmpE (l.take j) (m.take j)=0∧Below w.heap.size w wr) (fun _ i _=>l.length-(intOf i).toNat)
 case atStart=>exact⟨0,rfl,by omega,by simp[cmpL],Below.refl _ _⟩
 case round=>
  obtain⟨j,rfl,hj,h0,hb⟩:=hrel;by_cases hjn:j<l.length
  ·obtain⟨b,off,cap0,x0,x1,x2,x3,x4,x5,x6,x7,x8,hu,hbH,⟨x,hx,hv⟩,c0,c1,c2,c3,c4,c5,c6,c7,c8⟩:=(HL.out.on hb (fun _ _ h=>h)).at9 hjn;obtain⟨b',off',cap0',y0,y1,y2,y3,y4,y5,y6,y7,y8,hu',hbH',⟨y,hy,hv'⟩,e0,e1,e2,e3,e4,e5,e6,e7,e8⟩:=(HM.out.on hb (fun _ _ h=>h)).at9 (show j<m.length by have:=HE.out;omega);injection hu with hA _ hcap;subst hA hcap;injection hu' with hA' _ hcap';subst hA' hcap';obtain⟨B0,n0,d0,f,a,i,s,B1,n1,d1,B2,n2,d2,B3,n3,d3,B4,n4,d4,hf⟩:=hv.form9;simp only[List.cons.injEq,and_true]at hf;obtain⟨rfl,rfl,rfl,rfl,rfl,rfl,rfl,rfl,rfl⟩:=hf;obtain⟨B0',n0',d0',f',a',i',s',B1',n1',d1',B2',n2',d2',B3',n3',d3',B4',n4',d4',hf⟩:=hv'.form9;simp only[List.cons.injEq,and_true]at hf;obtain⟨rfl,rfl,rfl,rfl,rfl,rfl,rfl,rfl,rfl⟩:=hf;have kn:(j:Int)<(l.length:Int):=by omega
   have km:(j:Int)<(m.length:Int):=by have:=HE.out;omega
   have k0:(0:Int)≤(j:Int):=by omega
   have HS:=xI (zCf hx hy h0);have HB:=xI hb;have hlt:b'<wr.heap.size:=Nat.lt_of_lt_of_le hbH' hb.size;have HVX:=xI hv;have HVY:=xI hv';clear hx hy h0 hb hv hv';have hg:∀ (o:Obj) (i:Nat),(wr.alloc o).cell? ⟨b',i,none⟩=wr.cell? ⟨b',i,none⟩:=fun o i=>((Below.refl _ wr).alloc lR o).cell (p:=⟨b',i,none⟩) hlt;have g0:(wr.alloc (.cells #[.slice B0 n0 d0,.bool f,.int .i64 a,.int .i64 i,.string s,.slice B1 n1 d1,.slice B2 n2 d2,.slice B3 n3 d3,.slice B4 n4 d4] 45)).cell? ⟨b',off'+j*9,none⟩=some (.slice B0' n0' d0'):=(hg _ _).trans e0;have g1:(wr.alloc (.cells #[.slice B0 n0 d0,.bool f,.int .i64 a,.int .i64 i,.string s,.slice B1 n1 d1,.slice B2 n2 d2,.slice B3 n3 d3,.slice B4 n4 d4] 45)).cell? ⟨b',off'+j*9+1,none⟩=some (.bool f'):=(hg _ _).trans e1;have g2:(wr.alloc (.cells #[.slice B0 n0 d0,.bool f,.int .i64 a,.int .i64 i,.string s,.slice B1 n1 d1,.slice B2 n2 d2,.slice B3 n3 d3,.slice B4 n4 d4] 45)).cell? ⟨b',off'+j*9+2,none⟩=some (.int .i64 a'):=(hg _ _).trans e2;have g3:(wr.alloc (.cells #[.slice B0 n0 d0,.bool f,.int .i64 a,.int .i64 i,.string s,.slice B1 n1 d1,.slice B2 n2 d2,.slice B3 n3 d3,.slice B4 n4 d4] 45)).cell? ⟨b',off'+j*9+3,none⟩=some (.int .i64 i'):=(hg _ _).trans e3;have g4:(wr.alloc (.cells #[.slice B0 n0 d0,.bool f,.int .i64 a,.int .i64 i,.string s,.slice B1 n1 d1,.slice B2 n2 d2,.slice B3 n3 d3,.slice B4 n4 d4] 45)).cell? ⟨b',off'+j*9+4,none⟩=some (.string s'):=(hg _ _).trans e4;have g5:(wr.alloc (.cells #[.slice B0 n0 d0,.bool f,.int .i64 a,.int .i64 i,.string s,.slice B1 n1 d1,.slice B2 n2 d2,.slice B3 n3 d3,.slice B4 n4 d4] 45)).cell? ⟨b',off'+j*9+5,none⟩=some (.slice B1' n1' d1'):=(hg _ _).trans e5;have g6:(wr.alloc (.cells #[.slice B0 n0 d0,.bool f,.int .i64 a,.int .i64 i,.string s,.slice B1 n1 d1,.slice B2 n2 d2,.slice B3 n3 d3,.slice B4 n4 d4] 45)).cell? ⟨b',off'+j*9+6,none⟩=some (.slice B2' n2' d2'):=(hg _ _).trans e6;have g7:(wr.alloc (.cells #[.slice B0 n0 d0,.bool f,.int .i64 a,.int .i64 i,.string s,.slice B1 n1 d1,.slice B2 n2 d2,.slice B3 n3 d3,.slice B4 n4 d4] 45)).cell? ⟨b',off'+j*9+7,none⟩=some (.slice B3' n3' d3'):=(hg _ _).trans e7;have g8:(wr.alloc (.cells #[.slice B0 n0 d0,.bool f,.int .i64 a,.int .i64 i,.string s,.slice B1 n1 d1,.slice B2 n2 d2,.slice B3 n3 d3,.slice B4 n4 d4] 45)).cell? ⟨b',off'+j*9+8,none⟩=some (.slice B4' n4' d4'):=(hg _ _).trans e8;clear hg hlt;go_wp2_with fail;rename World=>U;obtain⟨W2,hW2⟩:∃ W2,W2=(U.alloc (.cells #[.slice B0 n0 d0,.bool f,.int .i64 a,.int .i64 i,.string s,.slice B1 n1 d1,.slice B2 n2 d2,.slice B3 n3 d3,.slice B4 n4 d4] 45)).alloc (.cells #[.slice B0' n0' d0',.bool f',.int .i64 a',.int .i64 i',.string s',.slice B1' n1' d1',.slice B2' n2' d2',.slice B3' n3' d3',.slice B4' n4' d4'] 45):=⟨_,rfl⟩;have hb2:Below U.heap.size U W2:=by rw[hW2];exact (bR.alloc lR _).alloc (by simp) _
   have q0:W2.cell? ⟨U.heap.size,0,none⟩=some (.slice B0 n0 d0):=by rw[hW2];simp
   have q1:W2.cell? ⟨U.heap.size,1,none⟩=some (.bool f):=by rw[hW2];simp
   have q2:W2.cell? ⟨U.heap.size,2,none⟩=some (.int .i64 a):=by rw[hW2];simp
   have q3:W2.cell? ⟨U.heap.size,3,none⟩=some (.int .i64 i):=by rw[hW2];simp
   have q4:W2.cell? ⟨U.heap.size,4,none⟩=some (.string s):=by rw[hW2];simp
   have q5:W2.cell? ⟨U.heap.size,5,none⟩=some (.slice B1 n1 d1):=by rw[hW2];simp
   have q6:W2.cell? ⟨U.heap.size,6,none⟩=some (.slice B2 n2 d2):=by rw[hW2];simp
   have q7:W2.cell? ⟨U.heap.size,7,none⟩=some (.slice B3 n3 d3):=by rw[hW2];simp
   have q8:W2.cell? ⟨U.heap.size,8,none⟩=some (.slice B4 n4 d4):=by rw[hW2];simp
   have r0:W2.cell? ⟨U.heap.size+1,0,none⟩=some (.slice B0' n0' d0'):=by rw[hW2];simp
   have r1:W2.cell? ⟨U.heap.size+1,1,none⟩=some (.bool f'):=by rw[hW2];simp
   have r2:W2.cell? ⟨U.heap.size+1,2,none⟩=some (.int .i64 a'):=by rw[hW2];simp
   have r3:W2.cell? ⟨U.heap.size+1,3,none⟩=some (.int .i64 i'):=by rw[hW2];simp
   have r4:W2.cell? ⟨U.heap.size+1,4,none⟩=some (.string s'):=by rw[hW2];simp
   have r5:W2.cell? ⟨U.heap.size+1,5,none⟩=some (.slice B1' n1' d1'):=by rw[hW2];simp
   have r6:W2.cell? ⟨U.heap.size+1,6,none⟩=some (.slice B2' n2' d2'):=by rw[hW2];simp
   have r7:W2.cell? ⟨U.heap.size+1,7,none⟩=some (.slice B3' n3' d3'):=by rw[hW2];simp
   have r8:W2.cell? ⟨U.heap.size+1,8,none⟩=some (.slice B4' n4' d4'):=by rw[hW2];simp
   have hbw:=HB.out.trans (hb2.mono HB.out.size);have hc:=hP.out x y _ _ W2 (ES.up hbw.size lR (ES.on hbw HVX.out)) (ES.up hbw.size lR (ES.on hbw HVY.out));have HBW:=xI hbw;rw[←hW2];clear hW2 hb2 hbw c0 c1 c2 c3 c4 c5 c6 c7 c8 e0 e1 e2 e3 e4 e5 e6 e7 e8 g0 g1 g2 g3 g4 g5 g6 g7 g8;generalize cmpE x y=z at hc HS;go_wp2_with fail;refine hc.mono ?_;rintro e w1 ⟨rfl,hb1⟩;clear hc;by_cases hz0:z=0
   ·have q2:(z != 0)=false:=by rw[bne_eq_false_iff_eq];exact hz0
    go_wp2
    go_roundw
    case rel=>exact⟨j+1,by go_num,by omega,HS.out.2 hz0,HBW.out.trans (hb1.mono HBW.out.size)⟩
    case measure=>simp[intOf];omega
   ·have q2:(z != 0)=true:=by rw[bne_iff_ne];exact hz0
    go_wp2;go_ret;exact⟨ret_i (by rw[HS.out.1 hz0]),HBW.out.trans (hb1.mono HBW.out.size)⟩
  ·have hjl:l.take j=l:=List.take_of_length_le (by omega);have hjm:m.take j=m:=List.take_of_length_le (by have:=HE.out;omega);rw[hjl,hjm]at h0;have HZ:=xI h0;have km:¬ (l.length:Int)<(m.length:Int):=by have:=HE.out;omega
   clear h0;go_wp2;go_ret;exact⟨ret_i (by rw[HZ.out]),hb⟩
theorem cmpf2 (A A':Option Addr) (c c':Nat) (l m:List (Int×List UInt8)) (w:World) (hl:RowP w w.heap.size 2 (.slice A l.length c) l.length (fun j cs=>∃ x,l[j]?=some x∧cs=[.int .i64 x.1,.string ⟨x.2.toArray⟩]∧(Lit.int .i64 x.1).wf=true∧x.2.length≤maxLen))
  (hm:RowP w w.heap.size 2 (.slice A' m.length c') m.length (fun j cs=>∃ x,m[j]?=some x∧cs=[.int .i64 x.1,.string ⟨x.2.toArray⟩]∧(Lit.int .i64 x.1).wf=true∧x.2.length≤maxLen)) (he:l.length=m.length) :
  Calls Tryz.prog 196 #[.slice A l.length c,.slice A' m.length c',.func (.func 145) #[] #[]] w fun e w'=>e=.returned (.int .i64 (cmpL cmpK l m))∧Below w.heap.size w w':=by
 have eg:=enters_of Tryz.func145 (by kernel_rfl) rfl;obtain⟨_,_,_,hln⟩:=hl.form;obtain⟨_,_,_,hmn⟩:=hm.form;unfold maxLen at hln hmn;have HL:=xI hl;have HM:=xI hm;have HE:=xI he;clear hl hm he;go_enter Tryz.func196,Tryz.ntmps196;go_wp2_with fail
 go_loopw [7,13] (fun _ i wr=>∃ j:Nat,i=.int .i64 j∧j≤l.length∧cmpL cmpK (l.take j) (m.take j)=0∧Below w.heap.size w wr) (fun _ i _=>l.length-(intOf i).toNat)
 case atStart=>exact⟨0,rfl,by omega,by simp[cmpL],Below.refl _ _⟩
 case round=>
  obtain⟨j,rfl,hj,h0,hb⟩:=hrel;by_cases hjn:j<l.length
  ·obtain⟨b,off,cap0,x0,x1,hu,hbH,⟨x,hx,hv⟩,c0,c1⟩:=(HL.out.on hb (fun _ _ h=>h)).at2 hjn;obtain⟨b',off',cap0',y0,y1,hu',hbH',⟨y,hy,hv'⟩,e0,e1⟩:=(HM.out.on hb (fun _ _ h=>h)).at2 (show j<m.length by have:=HE.out;omega);injection hu with hA _ hcap;subst hA hcap;injection hu' with hA' _ hcap';subst hA' hcap';obtain⟨hf,-,-⟩:=hv;simp only[List.cons.injEq,and_true]at hf;obtain⟨rfl,rfl⟩:=hf;obtain⟨hf,-,-⟩:=hv';simp only[List.cons.injEq,and_true]at hf;obtain⟨rfl,rfl⟩:=hf;have kn:(j:Int)<(l.length:Int):=by omega
   have km:(j:Int)<(m.length:Int):=by have:=HE.out;omega
   have k0:(0:Int)≤(j:Int):=by omega
   have HS:=xI (zCf hx hy h0);have HB:=xI hb;have hlt:b'<wr.heap.size:=Nat.lt_of_lt_of_le hbH' hb.size;clear hx hy h0 hb;have hg:∀ (o:Obj) (i:Nat),(wr.alloc o).cell? ⟨b',i,none⟩=wr.cell? ⟨b',i,none⟩:=fun o i=>((Below.refl _ wr).alloc lR o).cell (p:=⟨b',i,none⟩) hlt;have g0:(wr.alloc (.cells #[.int .i64 x.1,.string ⟨x.2.toArray⟩] 80)).cell? ⟨b',off'+j*2,none⟩=some (.int .i64 y.1):=(hg _ _).trans e0;have g1:(wr.alloc (.cells #[.int .i64 x.1,.string ⟨x.2.toArray⟩] 80)).cell? ⟨b',off'+j*2+1,none⟩=some (.string ⟨y.2.toArray⟩):=(hg _ _).trans e1;clear hg hlt;go_wp2_with fail;rename World=>U;obtain⟨W2,hW2⟩:∃ W2,W2=(U.alloc (.cells #[.int .i64 x.1,.string ⟨x.2.toArray⟩] 80)).alloc (.cells #[.int .i64 y.1,.string ⟨y.2.toArray⟩] 80):=⟨_,rfl⟩;have hb2:Below U.heap.size U W2:=by rw[hW2];exact (bR.alloc lR _).alloc (by simp) _
   have q0:W2.cell? ⟨U.heap.size,0,none⟩=some (.int .i64 x.1):=by rw[hW2];simp
   have q1:W2.cell? ⟨U.heap.size,1,none⟩=some (.string ⟨x.2.toArray⟩):=by rw[hW2];simp
   have r0:W2.cell? ⟨U.heap.size+1,0,none⟩=some (.int .i64 y.1):=by rw[hW2];simp
   have r1:W2.cell? ⟨U.heap.size+1,1,none⟩=some (.string ⟨y.2.toArray⟩):=by rw[hW2];simp
   have hbw:=HB.out.trans (hb2.mono HB.out.size);have hc:=zHt x y W2;have HBW:=xI hbw;rw[←hW2];clear hW2 hb2 hbw c0 c1 e0 e1 g0 g1;generalize cmpK x y=z at hc HS;go_wp2_with fail;refine hc.mono ?_;rintro e w1 ⟨rfl,hb1⟩;clear hc;by_cases hz0:z=0
   ·have q2:(z != 0)=false:=by rw[bne_eq_false_iff_eq];exact hz0
    go_wp2
    go_roundw
    case rel=>exact⟨j+1,by go_num,by omega,HS.out.2 hz0,HBW.out.trans (hb1.mono HBW.out.size)⟩
    case measure=>simp[intOf];omega
   ·have q2:(z != 0)=true:=by rw[bne_iff_ne];exact hz0
    go_wp2;go_ret;exact⟨ret_i (by rw[HS.out.1 hz0]),HBW.out.trans (hb1.mono HBW.out.size)⟩
  ·have hjl:l.take j=l:=List.take_of_length_le (by omega);have hjm:m.take j=m:=List.take_of_length_le (by have:=HE.out;omega);rw[hjl,hjm]at h0;have HZ:=xI h0;have km:¬ (l.length:Int)<(m.length:Int):=by have:=HE.out;omega
   clear h0;go_wp2;go_ret;exact⟨ret_i (by rw[HZ.out]),hb⟩
theorem cmpf1 (A A':Option Addr) (c c':Nat) (l m:List (List UInt8)) (w:World) (hl:RowP w w.heap.size 1 (.slice A l.length c) l.length (fun j cs=>∃ x,l[j]?=some x∧cs=[.string ⟨x.toArray⟩]∧x.length≤maxLen))
  (hm:RowP w w.heap.size 1 (.slice A' m.length c') m.length (fun j cs=>∃ x,m[j]?=some x∧cs=[.string ⟨x.toArray⟩]∧x.length≤maxLen)) (he:l.length=m.length) :
  Calls Tryz.prog 198 #[.slice A l.length c,.slice A' m.length c',.func (.func 112) #[] #[]] w fun e w'=>e=.returned (.int .i64 (cmpL cmpT l m))∧Below w.heap.size w w':=by
 have eg:=enters_of Tryz.func112 (by kernel_rfl) rfl;obtain⟨_,_,_,hln⟩:=hl.form;obtain⟨_,_,_,hmn⟩:=hm.form;unfold maxLen at hln hmn;have HL:=xI hl;have HM:=xI hm;have HE:=xI he;clear hl hm he;go_enter Tryz.func198,Tryz.ntmps198;go_wp2_with fail
 go_loopw [7,13] (fun _ i wr=>∃ j:Nat,i=.int .i64 j∧j≤l.length∧cmpL cmpT (l.take j) (m.take j)=0∧Below w.heap.size w wr) (fun _ i _=>l.length-(intOf i).toNat)
 case atStart=>exact⟨0,rfl,by omega,by simp[cmpL],Below.refl _ _⟩
 case round=>
  obtain⟨j,rfl,hj,h0,hb⟩:=hrel;by_cases hjn:j<l.length
  ·obtain⟨b,off,cap0,x0,hu,hbH,⟨x,hx,hv⟩,c0⟩:=(HL.out.on hb (fun _ _ h=>h)).at1 hjn;obtain⟨b',off',cap0',y0,hu',hbH',⟨y,hy,hv'⟩,e0⟩:=(HM.out.on hb (fun _ _ h=>h)).at1 (show j<m.length by have:=HE.out;omega);injection hu with hA _ hcap;subst hA hcap;injection hu' with hA' _ hcap';subst hA' hcap';obtain⟨hf,-⟩:=hv;simp only[List.cons.injEq,and_true]at hf;obtain rfl:=hf;obtain⟨hf,-⟩:=hv';simp only[List.cons.injEq,and_true]at hf;obtain rfl:=hf;have kn:(j:Int)<(l.length:Int):=by omega
   have km:(j:Int)<(m.length:Int):=by have:=HE.out;omega
   have k0:(0:Int)≤(j:Int):=by omega
   have HS:=xI (zCf hx hy h0);have HB:=xI hb;clear hx hy h0 hb;go_wp2_with fail;have hc:=zCp ⟨x.toArray⟩ ⟨y.toArray⟩ wr;have HBW:=HB;generalize cmpT x y=z at hc HS;go_wp2_with fail;refine hc.mono ?_;rintro e w1 ⟨rfl,rfl⟩;clear hc;by_cases hz0:z=0
   ·have q2:(z != 0)=false:=by rw[bne_eq_false_iff_eq];exact hz0
    go_wp2
    go_roundw
    case rel=>exact⟨j+1,by go_num,by omega,HS.out.2 hz0,HBW.out⟩
    case measure=>simp[intOf];omega
   ·have q2:(z != 0)=true:=by rw[bne_iff_ne];exact hz0
    go_wp2;go_ret;exact⟨ret_i (by rw[HS.out.1 hz0]),HBW.out⟩
  ·have hjl:l.take j=l:=List.take_of_length_le (by omega);have hjm:m.take j=m:=List.take_of_length_le (by have:=HE.out;omega);rw[hjl,hjm]at h0;have HZ:=xI h0;have km:¬ (l.length:Int)<(m.length:Int):=by have:=HE.out;omega
   clear h0;go_wp2;go_ret;exact⟨ret_i (by rw[HZ.out]),hb⟩
theorem zRz (k:Nat) (hP:Hid (∀ (a b:Vl) (ca cb:List Value) (w:World),VS k w w.heap.size a ca→VS k w w.heap.size b cb→Calls Tryz.prog 170 #[.agg ca.toArray,.agg cb.toArray] w fun e w'=>e=.returned (.int .i64 (cmpV a b))∧Below w.heap.size w w')) (A A':Option Addr) (c c':Nat) (l m:List (Vl)) (w:World) (hl:RowP w w.heap.size 7 (.slice A l.length c) l.length (fun j cs=>∃ x,l[j]?=some x∧VS k w w.heap.size x cs))
  (hm:RowP w w.heap.size 7 (.slice A' m.length c') m.length (fun j cs=>∃ x,m[j]?=some x∧VS k w w.heap.size x cs)) :
  Calls Tryz.prog 169 #[.slice A l.length c,.slice A' m.length c',.func (.func 170) #[] #[]] w fun e w'=>e=.returned (.int .i64 (thn (cmpI l.length m.length) (cmpL cmpV l m)))∧Below w.heap.size w w':=by
 by_cases he:l.length=m.length
 ·have hc:=cmpf7 k hP A A' c c' l m w hl hm he;have hz:cmpI l.length m.length=0:=zAf.2 (by omega);have HT:Hid (thn (cmpI l.length m.length) (cmpL cmpV l m)=cmpL cmpV l m):=xI (by rw[hz];rfl);have hq:(cmpI l.length m.length != 0)=false:=by rw[bne_eq_false_iff_eq];exact hz
  clear hl hm he;have hi:=zBb l.length m.length w;generalize cmpI (l.length:Int) (m.length:Int)=z at hz hq HT hi;generalize cmpL cmpV l m=y at hc HT;subst hz;go_enter Tryz.func169,Tryz.ntmps169;go_wp2_with (go_at_call 167;refine hi.mono ?_;rintro e w1 ⟨rfl,rfl⟩;refine Hid.out ?_);refine xI ?_;go_wp2_with (go_at_call 180;refine hc.mono ?_;rintro e w2 ⟨rfl,hb⟩;refine Hid.out ?_);refine xI ?_;go_wp2;go_ret;exact⟨ret_i HT.out.symm,hb⟩
 ·have hz:cmpI l.length m.length≠0:=fun h=>he (by have:=zAf.1 h;omega);have HT:Hid (thn (cmpI l.length m.length) (cmpL cmpV l m)=cmpI l.length m.length):=xI (zAz hz _);have hq:(cmpI l.length m.length != 0)=true:=by rw[bne_iff_ne];exact hz
  clear hl hm he;have hi:=zBb l.length m.length w;generalize cmpI (l.length:Int) (m.length:Int)=z at hz hq HT hi;clear hz;go_enter Tryz.func169,Tryz.ntmps169;go_wp2_with (go_at_call 167;refine hi.mono ?_;rintro e w1 ⟨rfl,rfl⟩;refine Hid.out ?_);refine xI ?_;go_wp2;go_ret;exact⟨ret_i HT.out.symm,Below.refl _ _⟩
theorem zRy (k:Nat) (hP:Hid (∀ (a b:En) (ca cb:List Value) (w:World),ES k w w.heap.size a ca→ES k w w.heap.size b cb→Calls Tryz.prog 150 #[.agg ca.toArray,.agg cb.toArray] w fun e w'=>e=.returned (.int .i64 (cmpE a b))∧Below w.heap.size w w')) (A A':Option Addr) (c c':Nat) (l m:List (En)) (w:World) (hl:RowP w w.heap.size 9 (.slice A l.length c) l.length (fun j cs=>∃ x,l[j]?=some x∧ES k w w.heap.size x cs))
  (hm:RowP w w.heap.size 9 (.slice A' m.length c') m.length (fun j cs=>∃ x,m[j]?=some x∧ES k w w.heap.size x cs)) :
  Calls Tryz.prog 191 #[.slice A l.length c,.slice A' m.length c',.func (.func 150) #[] #[]] w fun e w'=>e=.returned (.int .i64 (thn (cmpI l.length m.length) (cmpL cmpE l m)))∧Below w.heap.size w w':=by
 by_cases he:l.length=m.length
 ·have hc:=cmpf9 k hP A A' c c' l m w hl hm he;have hz:cmpI l.length m.length=0:=zAf.2 (by omega);have HT:Hid (thn (cmpI l.length m.length) (cmpL cmpE l m)=cmpL cmpE l m):=xI (by rw[hz];rfl);have hq:(cmpI l.length m.length != 0)=false:=by rw[bne_eq_false_iff_eq];exact hz
  clear hl hm he;have hi:=zBb l.length m.length w;generalize cmpI (l.length:Int) (m.length:Int)=z at hz hq HT hi;generalize cmpL cmpE l m=y at hc HT;subst hz;go_enter Tryz.func191,Tryz.ntmps191;go_wp2_with (go_at_call 167;refine hi.mono ?_;rintro e w1 ⟨rfl,rfl⟩;refine Hid.out ?_);refine xI ?_;go_wp2_with (go_at_call 197;refine hc.mono ?_;rintro e w2 ⟨rfl,hb⟩;refine Hid.out ?_);refine xI ?_;go_wp2;go_ret;exact⟨ret_i HT.out.symm,hb⟩
 ·have hz:cmpI l.length m.length≠0:=fun h=>he (by have:=zAf.1 h;omega);have HT:Hid (thn (cmpI l.length m.length) (cmpL cmpE l m)=cmpI l.length m.length):=xI (zAz hz _);have hq:(cmpI l.length m.length != 0)=true:=by rw[bne_iff_ne];exact hz
  clear hl hm he;have hi:=zBb l.length m.length w;generalize cmpI (l.length:Int) (m.length:Int)=z at hz hq HT hi;clear hz;go_enter Tryz.func191,Tryz.ntmps191;go_wp2_with (go_at_call 167;refine hi.mono ?_;rintro e w1 ⟨rfl,rfl⟩;refine Hid.out ?_);refine xI ?_;go_wp2;go_ret;exact⟨ret_i HT.out.symm,Below.refl _ _⟩
theorem zR0 (A A':Option Addr) (c c':Nat) (l m:List (Int×List UInt8)) (w:World) (hl:RowP w w.heap.size 2 (.slice A l.length c) l.length (fun j cs=>∃ x,l[j]?=some x∧cs=[.int .i64 x.1,.string ⟨x.2.toArray⟩]∧(Lit.int .i64 x.1).wf=true∧x.2.length≤maxLen))
  (hm:RowP w w.heap.size 2 (.slice A' m.length c') m.length (fun j cs=>∃ x,m[j]?=some x∧cs=[.int .i64 x.1,.string ⟨x.2.toArray⟩]∧(Lit.int .i64 x.1).wf=true∧x.2.length≤maxLen)) :
  Calls Tryz.prog 190 #[.slice A l.length c,.slice A' m.length c',.func (.func 145) #[] #[]] w fun e w'=>e=.returned (.int .i64 (thn (cmpI l.length m.length) (cmpL cmpK l m)))∧Below w.heap.size w w':=by
 by_cases he:l.length=m.length
 ·have hc:=cmpf2 A A' c c' l m w hl hm he;have hz:cmpI l.length m.length=0:=zAf.2 (by omega);have HT:Hid (thn (cmpI l.length m.length) (cmpL cmpK l m)=cmpL cmpK l m):=xI (by rw[hz];rfl);have hq:(cmpI l.length m.length != 0)=false:=by rw[bne_eq_false_iff_eq];exact hz
  clear hl hm he;have hi:=zBb l.length m.length w;generalize cmpI (l.length:Int) (m.length:Int)=z at hz hq HT hi;generalize cmpL cmpK l m=y at hc HT;subst hz;go_enter Tryz.func190,Tryz.ntmps190;go_wp2_with (go_at_call 167;refine hi.mono ?_;rintro e w1 ⟨rfl,rfl⟩;refine Hid.out ?_);refine xI ?_;go_wp2_with (go_at_call 196;refine hc.mono ?_;rintro e w2 ⟨rfl,hb⟩;refine Hid.out ?_);refine xI ?_;go_wp2;go_ret;exact⟨ret_i HT.out.symm,hb⟩
 ·have hz:cmpI l.length m.length≠0:=fun h=>he (by have:=zAf.1 h;omega);have HT:Hid (thn (cmpI l.length m.length) (cmpL cmpK l m)=cmpI l.length m.length):=xI (zAz hz _);have hq:(cmpI l.length m.length != 0)=true:=by rw[bne_iff_ne];exact hz
  clear hl hm he;have hi:=zBb l.length m.length w;generalize cmpI (l.length:Int) (m.length:Int)=z at hz hq HT hi;clear hz;go_enter Tryz.func190,Tryz.ntmps190;go_wp2_with (go_at_call 167;refine hi.mono ?_;rintro e w1 ⟨rfl,rfl⟩;refine Hid.out ?_);refine xI ?_;go_wp2;go_ret;exact⟨ret_i HT.out.symm,Below.refl _ _⟩
theorem zR1 (A A':Option Addr) (c c':Nat) (l m:List (List UInt8)) (w:World) (hl:RowP w w.heap.size 1 (.slice A l.length c) l.length (fun j cs=>∃ x,l[j]?=some x∧cs=[.string ⟨x.toArray⟩]∧x.length≤maxLen))
  (hm:RowP w w.heap.size 1 (.slice A' m.length c') m.length (fun j cs=>∃ x,m[j]?=some x∧cs=[.string ⟨x.toArray⟩]∧x.length≤maxLen)) :
  Calls Tryz.prog 192 #[.slice A l.length c,.slice A' m.length c',.func (.func 112) #[] #[]] w fun e w'=>e=.returned (.int .i64 (thn (cmpI l.length m.length) (cmpL cmpT l m)))∧Below w.heap.size w w':=by
 by_cases he:l.length=m.length
 ·have hc:=cmpf1 A A' c c' l m w hl hm he;have hz:cmpI l.length m.length=0:=zAf.2 (by omega);have HT:Hid (thn (cmpI l.length m.length) (cmpL cmpT l m)=cmpL cmpT l m):=xI (by rw[hz];rfl);have hq:(cmpI l.length m.length != 0)=false:=by rw[bne_eq_false_iff_eq];exact hz
  clear hl hm he;have hi:=zBb l.length m.length w;generalize cmpI (l.length:Int) (m.length:Int)=z at hz hq HT hi;generalize cmpL cmpT l m=y at hc HT;subst hz;go_enter Tryz.func192,Tryz.ntmps192;go_wp2_with (go_at_call 167;refine hi.mono ?_;rintro e w1 ⟨rfl,rfl⟩;refine Hid.out ?_);refine xI ?_;go_wp2_with (go_at_call 198;refine hc.mono ?_;rintro e w2 ⟨rfl,hb⟩;refine Hid.out ?_);refine xI ?_;go_wp2;go_ret;exact⟨ret_i HT.out.symm,hb⟩
 ·have hz:cmpI l.length m.length≠0:=fun h=>he (by have:=zAf.1 h;omega);have HT:Hid (thn (cmpI l.length m.length) (cmpL cmpT l m)=cmpI l.length m.length):=xI (zAz hz _);have hq:(cmpI l.length m.length != 0)=true:=by rw[bne_iff_ne];exact hz
  clear hl hm he;have hi:=zBb l.length m.length w;generalize cmpI (l.length:Int) (m.length:Int)=z at hz hq HT hi;clear hz;go_enter Tryz.func192,Tryz.ntmps192;go_wp2_with (go_at_call 167;refine hi.mono ?_;rintro e w1 ⟨rfl,rfl⟩;refine Hid.out ?_);refine xI ?_;go_wp2;go_ret;exact⟨ret_i HT.out.symm,Below.refl _ _⟩
theorem zNc (k i:Int) (t:List UInt8) (A1 A2 A3 A4:Option Addr) (n1 c1 n2 c2 n3 c3 n4 c4:Nat) (k' i':Int) (t':List UInt8) (A1' A2' A3' A4':Option Addr) (n1' c1' n2' c2' n3' c3' n4' c4':Nat) (w:World) :
  Calls Tryz.prog 189 #[.agg #[.int .i64 k,.int .i64 i,.string ⟨t.toArray⟩,.slice A1 n1 c1,.slice A2 n2 c2,.slice A3 n3 c3,.slice A4 n4 c4],.agg #[.int .i64 k',.int .i64 i',.string ⟨t'.toArray⟩,.slice A1' n1' c1',.slice A2' n2' c2',.slice A3' n3' c3',.slice A4' n4' c4']] w fun e w'=>e=.returned (.int .i64 (thn (cmpI k k') (thn (cmpI i i') (cmpT t t'))))∧Below w.heap.size w w':=by
 have hk:=fun W=>zBb k k' W;have hi:=fun W=>zKd i i' W;have ht:∀ W,Calls Tryz.prog 112 #[.string ⟨t.toArray⟩,.string ⟨t'.toArray⟩] W fun e w'=>e=.returned (.int .i64 (cmpT t t'))∧w'=W:=fun W=>zCp ⟨t.toArray⟩ ⟨t'.toArray⟩ W;generalize cmpI k k'=x at hk ⊢;generalize cmpI i i'=y at hi ⊢;generalize cmpT t t'=z at ht ⊢;by_cases hx:x=0
 ·subst hx;by_cases hy:y=0
  ·subst hy;go_enter Tryz.func189,Tryz.ntmps189;go_wp2_with (first|(go_at_call 167;refine (hk _).mono ?_;rintro e w' ⟨rfl,rfl⟩)|(go_at_call 195;refine (hi _).mono ?_;rintro e w' ⟨rfl,rfl⟩)|(go_at_call 112;refine (ht _).mono ?_;rintro e w' ⟨rfl,rfl⟩))
   go_ret;exact⟨rfl,(bR.alloc lR _).alloc (by simp) _⟩
  ·have hq:(y != 0)=true:=by rw[bne_iff_ne];exact hy
   have HT:Hid (thn 0 (thn y z)=y):=xI (by rw[zAz hy];rfl);clear hy;go_enter Tryz.func189,Tryz.ntmps189;go_wp2_with (first|(go_at_call 167;refine (hk _).mono ?_;rintro e w' ⟨rfl,rfl⟩)|(go_at_call 195;refine (hi _).mono ?_;rintro e w' ⟨rfl,rfl⟩)|(go_at_call 112;refine (ht _).mono ?_;rintro e w' ⟨rfl,rfl⟩))
   go_ret;exact⟨ret_i HT.out.symm,(bR.alloc lR _).alloc (by simp) _⟩
 ·have hq:(x != 0)=true:=by rw[bne_iff_ne];exact hx
  have HT:Hid (thn x (thn y z)=x):=xI (zAz hx _);clear hx;go_enter Tryz.func189,Tryz.ntmps189;go_wp2_with (first|(go_at_call 167;refine (hk _).mono ?_;rintro e w' ⟨rfl,rfl⟩)|(go_at_call 195;refine (hi _).mono ?_;rintro e w' ⟨rfl,rfl⟩)|(go_at_call 112;refine (ht _).mono ?_;rintro e w' ⟨rfl,rfl⟩))
  go_ret;exact⟨ret_i HT.out.symm,(bR.alloc lR _).alloc (by simp) _⟩
theorem zL7 (k:Nat) (hP:Hid (∀ (a b:Vl) (ca cb:List Value) (w:World),VS k w w.heap.size a ca→VS k w w.heap.size b cb→Calls Tryz.prog 170 #[.agg ca.toArray,.agg cb.toArray] w fun e w'=>e=.returned (.int .i64 (cmpV a b))∧Below w.heap.size w w'))
  (e e':En) (cs cs':List Value) (w:World) (he:ES k w w.heap.size e cs) (he':ES k w w.heap.size e' cs') :
  Calls Tryz.prog 150 #[.agg cs.toArray,.agg cs'.toArray] w fun r w'=>r=.returned (.int .i64 (cmpE e e'))∧Below w.heap.size w w':=by
 obtain⟨l,f,r,rfl,ua,rs,rfl,hl,hr⟩:=he;obtain⟨m,f',r',rfl,ua',rs',rfl,hm,hr'⟩:=he';obtain⟨A,c,rfl,_⟩:=hl.form;obtain⟨A',c',rfl,_⟩:=hm.form;obtain⟨a1,i1,s1,B1,n1,d1,B2,n2,d2,B3,n3,d3,B4,n4,d4,rfl⟩:=hr.form7;obtain⟨a1',i1',s1',B1',n1',d1',B2',n2',d2',B3',n3',d3',B4',n4',d4',rfl⟩:=hr'.form7;obtain⟨W,hW⟩:∃ W,W=((w.alloc (.cells #[.slice A l.length c,.bool f,.int .i64 a1,.int .i64 i1,.string s1,.slice B1 n1 d1,.slice B2 n2 d2,.slice B3 n3 d3,.slice B4 n4 d4] 45)).alloc (.cells #[.slice A' m.length c',.bool f',.int .i64 a1',.int .i64 i1',.string s1',.slice B1' n1' d1',.slice B2' n2' d2',.slice B3' n3' d3',.slice B4' n4' d4'] 45)):=⟨_,rfl⟩;have hb:Below w.heap.size w W:=by rw[hW];exact (bR.alloc lR _).alloc (by simp) _
 have hz:W.heap.size=w.heap.size+2:=by rw[hW];simp
 have k1:W.heap[w.heap.size]?=some (.cells #[.slice A l.length c,.bool f,.int .i64 a1,.int .i64 i1,.string s1,.slice B1 n1 d1,.slice B2 n2 d2,.slice B3 n3 d3,.slice B4 n4 d4] 45 (0,0)):=by
  rw[hW,Below.heap_alloc _ _ _ (by simp)];exact heap_alloc_new w _
 have k2:W.heap[w.heap.size+1]?=some (.cells #[.slice A' m.length c',.bool f',.int .i64 a1',.int .i64 i1',.string s1',.slice B1' n1' d1',.slice B2' n2' d2',.slice B3' n3' d3',.slice B4' n4' d4'] 45 (0,0)):=by
  rw[hW];exact zB2 _ (by simp)
 have hv:=zRz k hP A A' c c' l m W ((hl.on hb fun _ _ ⟨x,h1,h2⟩=>⟨x,h1,VS.up hb.size lR (VS.on hb h2)⟩).mono hb.size fun _ _ h=>h) ((hm.on hb fun _ _ ⟨x,h1,h2⟩=>⟨x,h1,VS.up hb.size lR (VS.on hb h2)⟩).mono hb.size fun _ _ h=>h);have e0:W.cell? ⟨w.heap.size,0,none⟩=some (.slice A l.length c):=cH k1 0;have e1:W.cell? ⟨w.heap.size+1,0,none⟩=some (.slice A' m.length c'):=cH k2 0;have K1:=xI k1;have K2:=xI k2;have HB:=xI hb;rw[←zLf]at hv;have HR:=xI hr;have HR':=xI hr';have HT:Hid (cmpE (.mk l f r) (.mk m f' r')=thn (thn (cmpI l.length m.length) (cmpVs l m)) (thn (cmpF f f') (cmpV r r'))):=xI (by rw[cmpE,zA9]);generalize thn (cmpI l.length m.length) (cmpVs l m)=z at hv HT;clear hl hm hr hr' k1 k2 hb;go_enter Tryz.func150,Tryz.ntmps150;go_wp2_with fail;rw[←hW];clear hW;go_wp2_with (go_at_call 169;refine hv.mono ?_;rintro e w1 ⟨rfl,hb1⟩;refine Hid.out ?_);refine xI ?_;have HB1:=xI (HB.out.trans (hb1.mono HB.out.size));clear hv e0 e1;by_cases h0:z=0
 ·have q:(z != 0)=false:=by rw[bne_eq_false_iff_eq];exact h0
  have HU:Hid (cmpE (.mk l f r) (.mk m f' r')=thn (cmpF f f') (cmpV r r')):=xI (by rw[HT.out,h0];rfl);have g1:w1.cell? ⟨w.heap.size,1,none⟩=some (.bool f):=(hb1.cell (p:=⟨_,1,none⟩) (by show w.heap.size<_;omega)).trans (cH K1.out 1);have g2:w1.cell? ⟨w.heap.size+1,1,none⟩=some (.bool f'):=(hb1.cell (p:=⟨_,1,none⟩) (by show w.heap.size+1<_;omega)).trans (cH K2.out 1);by_cases hf:f=f'
  ·subst hf;have HV:Hid (cmpE (.mk l f r) (.mk m f r')=cmpV r r'):=xI (by rw[HU.out,cmpF,if_pos rfl];rfl);have p2:w1.cell? ⟨w.heap.size,2,none⟩=some (.int .i64 a1):=(hb1.cell (p:=⟨_,2,none⟩) (by show w.heap.size<_;omega)).trans (cH K1.out 2);have p3:w1.cell? ⟨w.heap.size,3,none⟩=some (.int .i64 i1):=(hb1.cell (p:=⟨_,3,none⟩) (by show w.heap.size<_;omega)).trans (cH K1.out 3);have p4:w1.cell? ⟨w.heap.size,4,none⟩=some (.string s1):=(hb1.cell (p:=⟨_,4,none⟩) (by show w.heap.size<_;omega)).trans (cH K1.out 4);have p5:w1.cell? ⟨w.heap.size,5,none⟩=some (.slice B1 n1 d1):=(hb1.cell (p:=⟨_,5,none⟩) (by show w.heap.size<_;omega)).trans (cH K1.out 5);have p6:w1.cell? ⟨w.heap.size,6,none⟩=some (.slice B2 n2 d2):=(hb1.cell (p:=⟨_,6,none⟩) (by show w.heap.size<_;omega)).trans (cH K1.out 6);have p7:w1.cell? ⟨w.heap.size,7,none⟩=some (.slice B3 n3 d3):=(hb1.cell (p:=⟨_,7,none⟩) (by show w.heap.size<_;omega)).trans (cH K1.out 7);have p8:w1.cell? ⟨w.heap.size,8,none⟩=some (.slice B4 n4 d4):=(hb1.cell (p:=⟨_,8,none⟩) (by show w.heap.size<_;omega)).trans (cH K1.out 8);have r2:w1.cell? ⟨w.heap.size+1,2,none⟩=some (.int .i64 a1'):=(hb1.cell (p:=⟨_,2,none⟩) (by show w.heap.size+1<_;omega)).trans (cH K2.out 2);have r3:w1.cell? ⟨w.heap.size+1,3,none⟩=some (.int .i64 i1'):=(hb1.cell (p:=⟨_,3,none⟩) (by show w.heap.size+1<_;omega)).trans (cH K2.out 3);have r4:w1.cell? ⟨w.heap.size+1,4,none⟩=some (.string s1'):=(hb1.cell (p:=⟨_,4,none⟩) (by show w.heap.size+1<_;omega)).trans (cH K2.out 4);have r5:w1.cell? ⟨w.heap.size+1,5,none⟩=some (.slice B1' n1' d1'):=(hb1.cell (p:=⟨_,5,none⟩) (by show w.heap.size+1<_;omega)).trans (cH K2.out 5);have r6:w1.cell? ⟨w.heap.size+1,6,none⟩=some (.slice B2' n2' d2'):=(hb1.cell (p:=⟨_,6,none⟩) (by show w.heap.size+1<_;omega)).trans (cH K2.out 6);have r7:w1.cell? ⟨w.heap.size+1,7,none⟩=some (.slice B3' n3' d3'):=(hb1.cell (p:=⟨_,7,none⟩) (by show w.heap.size+1<_;omega)).trans (cH K2.out 7);have r8:w1.cell? ⟨w.heap.size+1,8,none⟩=some (.slice B4' n4' d4'):=(hb1.cell (p:=⟨_,8,none⟩) (by show w.heap.size+1<_;omega)).trans (cH K2.out 8);have hc:=hP.out r r' _ _ w1 (VS.up HB1.out.size lR (VS.on HB1.out HR.out)) (VS.up HB1.out.size lR (VS.on HB1.out HR'.out));clear hb1 h0;cases f
   all_goals
    go_wp2_with (go_at_call 170;refine hc.mono ?_;rintro e w2 ⟨rfl,hb2⟩;refine Hid.out ?_);refine xI ?_;go_wp2;go_ret;exact⟨ret_i (by rw[HV.out]),HB1.out.trans (hb2.mono HB1.out.size)⟩
  ·have HV:Hid (cmpE (.mk l f r) (.mk m f' r')=cmpF f f'):=xI (by rw[HU.out];exact zAz (by rw[cmpF,if_neg hf];cases f<;>simp) _);clear hb1 h0;cases f<;>cases f'
   ·exact absurd rfl hf
   ·clear hf;go_wp2;go_ret;exact⟨ret_i (by rw[HV.out];rfl),HB1.out⟩
   ·clear hf;go_wp2;go_ret;exact⟨ret_i (by rw[HV.out];rfl),HB1.out⟩
   ·exact absurd rfl hf
 ·have q:(z != 0)=true:=by rw[bne_iff_ne];exact h0
  have HU:Hid (cmpE (.mk l f r) (.mk m f' r')=z):=xI (by rw[HT.out];exact zAz h0 _);clear h0 hb1;go_wp2;go_ret;exact⟨ret_i (by rw[HU.out]),HB1.out⟩
theorem zGu {k:Nat}{w V:World}{u:Value}{ents:List En}(hV:Below w.heap.size w V) (h:RowP w w.heap.size 9 u ents.length (fun j cs=>∃ args fails result,ents[j]?=some (.mk args fails result)∧∃ ua rs,cs=ua::.bool fails::rs∧RowP w w.heap.size 7 ua args.length (fun j cs=>∃ x,args[j]?=some x∧VS k w w.heap.size x cs)∧VS k w w.heap.size result rs)) :
  RowP V V.heap.size 9 u ents.length (fun j cs=>∃ x,ents[j]?=some x∧ES k V V.heap.size x cs):=by
 refine (h.on hV fun _ _ h=>h).mono hV.size ?_;rintro j cs ⟨args,fails,result,hx,ua,rs,hcs,ha,hr⟩;have:ES k w w.heap.size (.mk args fails result) cs:=⟨args,fails,result,rfl,ua,rs,hcs,ha,hr⟩;exact⟨_,hx,ES.up hV.size lR (ES.on hV this)⟩
theorem infoV:(Tryz.prog.info? 27).map (fun i=>(i.zero,i.size,i.bytes))=some (some (.agg #[.int .i64 0,.int .i64 0,.string ⟨#[]⟩,.slice none 0 0,.slice none 0 0,.slice none 0 0,.slice none 0 0]),7,128):=by kernel_rfl
theorem infoE:(Tryz.prog.info? 45).map (fun i=>(i.zero,i.size,i.bytes))=some (some (.agg #[.slice none 0 0,.bool false,.int .i64 0,.int .i64 0,.string ⟨#[]⟩,.slice none 0 0,.slice none 0 0,.slice none 0 0,.slice none 0 0]),9,160):=by kernel_rfl
theorem zMw {H:Nat}{w w':World}{base:Nat}{e:TypeId}{size:Nat}{v:Value}{n:Nat}{xs:List Value}(h:w.ownsRow base e size v n xs) (hb:Below H w w') (hv:∀ g,v.ownBlock=some g→g<H):w'.ownsRow base e size v n xs:=by
 refine⟨h.1,?_⟩;rcases h.2 with hn|⟨g,cap,cur,rfl,h1,h2,h3⟩
 ·exact .inl hn
 ·exact .inr ⟨g,cap,cur,rfl,h1,(hb.block g (hv g rfl)).trans h2,h3⟩
abbrev Btw (lo hi:Nat):Nat→Prop:=fun b=>lo≤b∧b<hi
def EB (k:Nat) (w:World) (B:Nat→Prop) (e:En) (cs:List Value):Prop:=
 ∃ args fails result,e=.mk args fails result∧∃ ua rs,cs=ua::.bool fails::rs∧RowB w B 7 ua args.length (fun j cs=>∃ x,args[j]?=some x∧VB k w B x cs)∧VB k w B result rs
theorem EB.keep {w w':World}{B:Nat→Prop}(hw:Same B w w'){k:Nat}{v:En}{cs:List Value}(h:EB k w B v cs):EB k w' B v cs:=by
 obtain⟨l,f,r,rfl,ua,rs,rfl,hl,hr⟩:=h;exact⟨l,f,r,rfl,ua,rs,rfl,hl.keep hw fun _ _ ⟨x,h1,h2⟩=>⟨x,h1,VB.keep hw h2⟩,VB.keep hw hr⟩
theorem EB.sub {w:World}{B B':Nat→Prop}(hB:∀ b,B b→B' b){k k':Nat}{v:En}{cs:List Value}(hk:k≤k') (h:EB k w B v cs):EB k' w B' v cs:=by
 obtain⟨l,f,r,rfl,ua,rs,rfl,hl,hr⟩:=h;exact⟨l,f,r,rfl,ua,rs,rfl,hl.sub hB fun _ _ ⟨x,h1,h2⟩=>⟨x,h1,VB.sub hB hk h2⟩,VB.sub hB hk hr⟩
theorem EB.form9 {k:Nat}{w:World}{B:Nat→Prop}{v:En}{cs:List Value}(h:EB k w B v cs) :
  ∃ A0 n0 c0 f a i s A1 n1 c1 A2 n2 c2 A3 n3 c3 A4 n4 c4,cs=[.slice A0 n0 c0,.bool f,.int .i64 a,.int .i64 i,.string s,.slice A1 n1 c1,.slice A2 n2 c2,.slice A3 n3 c3,.slice A4 n4 c4]:=by
 obtain⟨l,f,r,rfl,ua,rs,rfl,hl,hr⟩:=h;obtain⟨A,c,rfl,_⟩:=hl.form;obtain⟨a,i,s,A1,n1,c1,A2,n2,c2,A3,n3,c3,A4,n4,c4,rfl⟩:=hr.form7;exact⟨_,_,_,_,_,_,_,_,_,_,_,_,_,_,_,_,_,_,_,rfl⟩
def EachI {α:Type}(T:World→(Nat→Prop)→α→List Value→Prop) (f:α→α) (e:TypeId) (c:Nat) (l:List α) (g j:Nat) (w:World):Prop:=
 ∃ xs,w.ownsRow g e c (.slice (some ⟨g,0,none⟩) l.length l.length) l.length xs∧g<w.heap.size∧∀ q,q<j→∃ x,l[q]?=some x∧T w (fun b=>g<b∧b<w.heap.size) (f x) ((xs.drop (q*c)).take c)
theorem EachI.below {α:Type}{T:World→(Nat→Prop)→α→List Value→Prop}{f:α→α}{e:TypeId}{c:Nat}{l:List α}{g j:Nat}{w w':World}(h:EachI T f e c l g j w) (hb:Below w.heap.size w w')
  (hT:∀ x cs,T w (fun b=>g<b∧b<w.heap.size) x cs→T w' (fun b=>g<b∧b<w'.heap.size) x cs):EachI T f e c l g j w':=by
 obtain⟨xs,h1,h2,h3⟩:=h;refine⟨xs,zMw h1 hb (fun g' hg=>by simp[Value.ownBlock]at hg;omega),Nat.lt_of_lt_of_le h2 hb.size,fun q hq=>?_⟩;obtain⟨x,hx,ht⟩:=h3 q hq;exact⟨x,hx,hT _ _ ht⟩
theorem VB.later {k:Nat}{g:Nat}{w w':World}(hb:Below w.heap.size w w') (x:Vl) (cs:List Value) (h:VB k w (fun b=>g<b∧b<w.heap.size) x cs):VB k w' (fun b=>g<b∧b<w'.heap.size) x cs:=
 VB.sub (fun _ hb'=>⟨hb'.1,Nat.lt_of_lt_of_le hb'.2 hb.size⟩) lR (VB.keep (.of_below hb fun _ h=>h.2) h)
theorem EB.later {k:Nat}{g:Nat}{w w':World}(hb:Below w.heap.size w w') (x:En) (cs:List Value) (h:EB k w (fun b=>g<b∧b<w.heap.size) x cs):EB k w' (fun b=>g<b∧b<w'.heap.size) x cs:=
 EB.sub (fun _ hb'=>⟨hb'.1,Nat.lt_of_lt_of_le hb'.2 hb.size⟩) lR (EB.keep (.of_below hb fun _ h=>h.2) h)
theorem zI1 {α β:Type}{enc:α→List β}{c:Nat}(hc:∀ x,(enc x).length=c):∀ {l:List α}{j:Nat}{x:α},l[j]?=some x→((l.flatMap enc).drop (j*c)).take c=enc x
 | [],j,x,h=>by simp at h
 | a::s,0,x,h=>by
  simp only[List.getElem?_cons_zero,Option.some.injEq]at h;subst h;simp[List.flatMap_cons,hc]
 | a::s,j+1,x,h=>by
  simp only[List.getElem?_cons_succ]at h;rw[List.flatMap_cons,List.drop_append,List.drop_eq_nil_of_le (by rw[hc,Nat.add_mul];omega),hc,show (j+1)*c-c=j*c by rw[Nat.add_mul];omega,List.nil_append,zI1 hc h]
theorem zQ5 {α β:Type}{enc:α→List β}{c:Nat}(hc:∀ x,(enc x).length=c){l:List α}{q:Nat}{u:β}(h0:0<c) (h:(l.flatMap enc)[q]?=some u):∃ x,l[q / c]?=some x∧(enc x)[q % c]?=some u:=by
 have hlen:(l.flatMap enc).length=l.length*c:=by
  clear h
  induction l with
  | nil=>simp
  | cons a s ih=>rw[List.flatMap_cons,List.length_append,ih,hc,List.length_cons,Nat.add_mul];omega
 have hq:q<l.length*c:=by
  have:=(List.getElem?_eq_some_iff.1 h).1;omega
 have hd:q / c<l.length:=Nat.div_lt_of_lt_mul (by rwa [Nat.mul_comm]);refine⟨l[q / c],List.getElem?_eq_getElem hd,?_⟩;have e:=zI1 hc (List.getElem?_eq_getElem hd);rw[←e,List.getElem?_take_of_lt (Nat.mod_lt _ h0),List.getElem?_drop,show q / c*c+q % c=q by rw[Nat.mul_comm];exact Nat.div_add_mod q c];exact h
end Go.Proofs.YtcjgaohblaidjaaGreatDoor
