/- What ascending returns at entries, keys and texts. -/
import Derived.Test.YtcjgaohblaidjaaGreatDoorVgZ
import Derived.Test.YtcjgaohblaidjaaGreatDoorVg01
import Derived.Test.YtcjgaohblaidjaaGreatDoorVg04
import Derived.Test.YtcjgaohblaidjaaGreatDoorVg05
import Derived.Test.YtcjgaohblaidjaaGreatDoorVg06
import Derived.Deep.AppendLies
import Derived.Deep.RegionLaw
set_option maxRecDepth 100000
set_option maxHeartbeats 3200000
namespace Go.Proofs.YtcjgaohblaidjaaGreatDoor
open Go Go.RowKit
theorem zEk {α:Type}{c:α→α→Int}{l:List α}(h:AscC c l){i j:Nat}{x y:α}(hx:l[i]?=some x) (hy:l[j]?=some y) (hij:i<j):c x y<0:=by
 have:=List.pairwise_iff_getElem.1 h i j (List.getElem?_eq_some_iff.1 hx).1 (List.getElem?_eq_some_iff.1 hy).1 hij
 rwa [(List.getElem?_eq_some_iff.1 hx).2,(List.getElem?_eq_some_iff.1 hy).2]at this
theorem zFx {α:Type}{c:α→α→Int}(T:Tot c):∀ {l:List α},(∀ r x y,l[r]?=some x→l[r+1]?=some y→c x y<0)→AscC c l
 | [],_=>List.Pairwise.nil
 | [a],_=>List.pairwise_cons.2 ⟨fun y hy=>by simp at hy,List.Pairwise.nil⟩
 | a::b::s,h=>by
  have h1:AscC c (b::s):=zFx T fun r x y hx hy=>h (r+1) x y (by simpa using hx) (by simpa using hy);have h2:c a b<0:=h 0 a b rfl rfl;refine List.pairwise_cons.2 ⟨fun y hy=>?_,h1⟩;rcases List.mem_cons.1 hy with rfl|hy
  ·exact h2
  ·exact T.trans a b y h2 ((List.pairwise_cons.1 h1).1 y hy)
theorem zKn (a b:List UInt8) (w:World):Calls Tryz.prog 112 #[.string ⟨a.toArray⟩,.string ⟨b.toArray⟩] w fun e w'=>e=.returned (.int .i64 (cmpT a b))∧Below w.heap.size w w':=by
 refine (zCp ⟨a.toArray⟩ ⟨b.toArray⟩ w).mono ?_;rintro e w' ⟨rfl,rfl⟩;exact⟨rfl,Below.refl _ _⟩
theorem asc1 (A:Option Addr) (c:Nat) (l:List (List UInt8)) (w:World) (hl:RowP w w.heap.size 1 (.slice A l.length c) l.length (fun j cs=>∃ x,l[j]?=some x∧cs=[.string ⟨x.toArray⟩]∧x.length≤maxLen)) :
  Calls Tryz.prog 111 #[.slice A l.length c,.func (.func 112) #[] #[]] w fun e w'=>e=.returned (.bool (decide (AscC cmpT l)))∧Below w.heap.size w w':=by
 have eg:=enters_of Tryz.func112 (by kernel_rfl) rfl;obtain⟨_,_,_,hln⟩:=hl.form;unfold maxLen at hln;have HL:=xI hl;clear hl;generalize hrr:decide (AscC cmpT l)=r;have HR:=xI hrr;clear hrr;go_enter Tryz.func111,Tryz.ntmps111;go_wp2_with fail
 go_loopw [5,6] (fun i _ wr=>∃ q:Nat,i=.int .i64 ((q:Int)+1)∧(q+1≤l.length∨q=0)∧Hid (∀ r x y,r<q→l[r]?=some x→l[r+1]?=some y→cmpT x y<0)∧Below w.heap.size w wr) (fun i _ _=>l.length+1-(intOf i).toNat)
 case atStart=>exact⟨0,rfl,by omega,xI (fun r x y h=>absurd h (by omega)),Below.refl _ _⟩
 case round=>
  obtain⟨j,rfl,hj,h0,hb⟩:=hrel;by_cases hjn:j+1<l.length
  ·obtain⟨b,off,cap0,x0,hu,hbH,⟨x,hx,hv⟩,c0⟩:=(HL.out.on hb (fun _ _ h=>h)).at1 (show j<l.length by omega);obtain⟨b',off',cap0',y0,hu',hbH',⟨y,hy,hv'⟩,d0⟩:=(HL.out.on hb (fun _ _ h=>h)).at1 hjn;injection hu with hA _ hcap;subst hA hcap;injection hu' with hA' _ hcap';injection hA' with hA';injection hA' with hA1 hA2;subst hA1 hA2 hcap';obtain⟨hf,-⟩:=hv;simp only[List.cons.injEq,and_true]at hf;obtain rfl:=hf;obtain⟨hf,-⟩:=hv';simp only[List.cons.injEq,and_true]at hf;obtain rfl:=hf;have kn:((j:Int)+1)<(l.length:Int):=by omega
   have km:(j:Int)<(l.length:Int):=by omega
   have k0:(0:Int)≤(j:Int):=by omega
   have k1:(0:Int)≤(j:Int)+1:=by omega
   have e1:((j:Int)+1).toNat=j+1:=by omega
   have e2:((j:Int)+1-1)=(j:Int):=by omega
   have e3:IntKind.i64.wrap (j:Int)=(j:Int):=IntWalk.i64_in _ (by omega);have e4:IntKind.i64.wrap ((j:Int)+1-1)=(j:Int):=by rw[e2,e3]
   have HV:=xI hb;have HX:=xI (aN hx hy);have hz:=hb.size;have HK9:Hid (∀ wq,Below wr.heap.size wr wq→wq.cell? ⟨b,off+j,none⟩=some (.string ⟨x.toArray⟩)∧wq.cell? ⟨b,off+(j+1),none⟩=some (.string ⟨y.toArray⟩)):=xI (fun wq h=>⟨(h.cell (p:=⟨_,_,none⟩) (by show b<_;omega)).trans c0,(h.cell (p:=⟨_,_,none⟩) (by show b<_;omega)).trans d0⟩);clear hx hy hb c0 d0;go_wp2_with fail;refine wp_region_held_drew (S:=fun wq=>wq.cell? ⟨b,off+j,none⟩=some (.string ⟨x.toArray⟩)∧wq.cell? ⟨b,off+(j+1),none⟩=some (.string ⟨y.toArray⟩)) (by kernel_rfl) (HK9.out _ bR.drew) (fun _=>?_);have hB9:Below wr.heap.size wr wr.drew:=bR.drew;refine tk 0 (HK9.out _ hB9) ?_
   try simp only[pK]
   iterate 9 (refine ts (HK9.out _ hB9) ?_;try simp only[pK])
   refine oO 10 fun K hK=>?_;go_simp;refine (zKn x y _).mono ?_;rintro e w10 ⟨rfl,hb10⟩;have hB10:Below wr.heap.size wr w10:=zA0 hB9 lR hb10;clear hb10 hB9;refine hK _ _ (HK9.out _ hB10) ?_
   try simp only[pK]
   clear hK K;refine tk 11 (HK9.out _ hB10) ?_
   try simp only[pK]
   refine (wD ?_) _;generalize hzz:cmpT x y=z;have HC:=xI hzz;clear hzz;by_cases hz0:0≤z
   ·have HU:Hid (r=false):=xI (by rw[←HR.out,decide_eq_false_iff_not];intro h;have:=zEk h HX.out.1 HX.out.2 (Nat.lt_succ_self j);rw[HC.out]at this;omega);go_wp2;go_ret;exact⟨zAb HU.out.symm,HV.out.trans (hB10.mono HV.out.size)⟩
   ·have HC2:Hid (∀ r x y,r<j+1→l[r]?=some x→l[r+1]?=some y→cmpT x y<0):=xI (by
     intro r x' y' hr h1 h2;by_cases e:r=j
     ·subst e;rw[HX.out.1]at h1;rw[HX.out.2]at h2;injection h1 with h1;injection h2 with h2;subst h1 h2;rw[HC.out];omega
     ·exact h0.out r x' y' (by omega) h1 h2)
    go_wp2
    go_roundw
    case rel=>exact⟨j+1,by go_num,by omega,HC2,HV.out.trans (hB10.mono HV.out.size)⟩
    case measure=>simp[intOf];omega
  ·have HU:Hid (r=true):=xI (by rw[←HR.out,decide_eq_true_iff];exact zFx totT fun r x y h1 h2=>h0.out r x y (by have:=(List.getElem?_eq_some_iff.1 h2).1;omega) h1 h2);have kn:¬ ((j:Int)+1)<(l.length:Int):=by omega
   go_wp2;go_ret;exact⟨zAb HU.out.symm,hb⟩
theorem asc2 (A:Option Addr) (c:Nat) (l:List (Int×List UInt8)) (w:World) (hl:RowP w w.heap.size 2 (.slice A l.length c) l.length (fun j cs=>∃ x,l[j]?=some x∧cs=[.int .i64 x.1,.string ⟨x.2.toArray⟩]∧(Lit.int .i64 x.1).wf=true∧x.2.length≤maxLen)) :
  Calls Tryz.prog 144 #[.slice A l.length c,.func (.func 145) #[] #[]] w fun e w'=>e=.returned (.bool (decide (AscC cmpK l)))∧Below w.heap.size w w':=by
 have eg:=enters_of Tryz.func145 (by kernel_rfl) rfl;obtain⟨_,_,_,hln⟩:=hl.form;unfold maxLen at hln;have HL:=xI hl;clear hl;generalize hrr:decide (AscC cmpK l)=r;have HR:=xI hrr;clear hrr;go_enter Tryz.func144,Tryz.ntmps144;go_wp2_with fail
 go_loopw [5,6] (fun i _ wr=>∃ q:Nat,i=.int .i64 ((q:Int)+1)∧(q+1≤l.length∨q=0)∧Hid (∀ r x y,r<q→l[r]?=some x→l[r+1]?=some y→cmpK x y<0)∧Below w.heap.size w wr) (fun i _ _=>l.length+1-(intOf i).toNat)
 case atStart=>exact⟨0,rfl,by omega,xI (fun r x y h=>absurd h (by omega)),Below.refl _ _⟩
 case round=>
  obtain⟨j,rfl,hj,h0,hb⟩:=hrel;by_cases hjn:j+1<l.length
  ·obtain⟨b,off,cap0,x0,x1,hu,hbH,⟨x,hx,hv⟩,c0,c1⟩:=(HL.out.on hb (fun _ _ h=>h)).at2 (show j<l.length by omega);obtain⟨b',off',cap0',y0,y1,hu',hbH',⟨y,hy,hv'⟩,d0,d1⟩:=(HL.out.on hb (fun _ _ h=>h)).at2 hjn;injection hu with hA _ hcap;subst hA hcap;injection hu' with hA' _ hcap';injection hA' with hA';injection hA' with hA1 hA2;subst hA1 hA2 hcap';obtain⟨hf,-,-⟩:=hv;simp only[List.cons.injEq,and_true]at hf;obtain⟨rfl,rfl⟩:=hf;obtain⟨hf,-,-⟩:=hv';simp only[List.cons.injEq,and_true]at hf;obtain⟨rfl,rfl⟩:=hf;have kn:((j:Int)+1)<(l.length:Int):=by omega
   have km:(j:Int)<(l.length:Int):=by omega
   have k0:(0:Int)≤(j:Int):=by omega
   have k1:(0:Int)≤(j:Int)+1:=by omega
   have e1:((j:Int)+1).toNat=j+1:=by omega
   have e2:((j:Int)+1-1)=(j:Int):=by omega
   have e3:IntKind.i64.wrap (j:Int)=(j:Int):=IntWalk.i64_in _ (by omega);have e4:IntKind.i64.wrap ((j:Int)+1-1)=(j:Int):=by rw[e2,e3]
   have HV:=xI hb;have HX:=xI (aN hx hy);have hz:=hb.size;have HK9:Hid (∀ wq,Below wr.heap.size wr wq→wq.cell? ⟨b,off+j*2,none⟩=some (.int .i64 x.1)∧wq.cell? ⟨b,off+j*2+1,none⟩=some (.string ⟨x.2.toArray⟩)∧wq.cell? ⟨b,off+(j+1)*2,none⟩=some (.int .i64 y.1)∧wq.cell? ⟨b,off+(j+1)*2+1,none⟩=some (.string ⟨y.2.toArray⟩)):=xI (fun wq h=>⟨(h.cell (p:=⟨_,_,none⟩) (by show b<_;omega)).trans c0,(h.cell (p:=⟨_,_,none⟩) (by show b<_;omega)).trans c1,(h.cell (p:=⟨_,_,none⟩) (by show b<_;omega)).trans d0,(h.cell (p:=⟨_,_,none⟩) (by show b<_;omega)).trans d1⟩);clear hx hy hb c0 c1 d0 d1;go_wp2_with fail;refine wp_region_held_drew (S:=fun wq=>wq.cell? ⟨b,off+j*2,none⟩=some (.int .i64 x.1)∧wq.cell? ⟨b,off+j*2+1,none⟩=some (.string ⟨x.2.toArray⟩)∧wq.cell? ⟨b,off+(j+1)*2,none⟩=some (.int .i64 y.1)∧wq.cell? ⟨b,off+(j+1)*2+1,none⟩=some (.string ⟨y.2.toArray⟩)) (by kernel_rfl) (HK9.out _ bR.drew) (fun _=>?_);have hB9:Below wr.heap.size wr wr.drew:=bR.drew;refine tk 0 (HK9.out _ hB9) ?_
   try simp only[pK]
   iterate 9 (refine ts (HK9.out _ hB9) ?_;try simp only[pK])
   refine oO 10 fun K hK=>?_;go_simp;refine (zHt x y _).mono ?_;rintro e w10 ⟨rfl,hb10⟩;have hB10:Below wr.heap.size wr w10:=zA0 hB9 lR hb10;clear hb10 hB9;refine hK _ _ (HK9.out _ hB10) ?_
   try simp only[pK]
   clear hK K;refine tk 11 (HK9.out _ hB10) ?_
   try simp only[pK]
   refine (wD ?_) _;generalize hzz:cmpK x y=z;have HC:=xI hzz;clear hzz;by_cases hz0:0≤z
   ·have HU:Hid (r=false):=xI (by rw[←HR.out,decide_eq_false_iff_not];intro h;have:=zEk h HX.out.1 HX.out.2 (Nat.lt_succ_self j);rw[HC.out]at this;omega);go_wp2;go_ret;exact⟨zAb HU.out.symm,HV.out.trans (hB10.mono HV.out.size)⟩
   ·have HC2:Hid (∀ r x y,r<j+1→l[r]?=some x→l[r+1]?=some y→cmpK x y<0):=xI (by
     intro r x' y' hr h1 h2;by_cases e:r=j
     ·subst e;rw[HX.out.1]at h1;rw[HX.out.2]at h2;injection h1 with h1;injection h2 with h2;subst h1 h2;rw[HC.out];omega
     ·exact h0.out r x' y' (by omega) h1 h2)
    go_wp2
    go_roundw
    case rel=>exact⟨j+1,by go_num,by omega,HC2,HV.out.trans (hB10.mono HV.out.size)⟩
    case measure=>simp[intOf];omega
  ·have HU:Hid (r=true):=xI (by rw[←HR.out,decide_eq_true_iff];exact zFx totK fun r x y h1 h2=>h0.out r x y (by have:=(List.getElem?_eq_some_iff.1 h2).1;omega) h1 h2);have kn:¬ ((j:Int)+1)<(l.length:Int):=by omega
   go_wp2;go_ret;exact⟨zAb HU.out.symm,hb⟩
theorem asc9 (k:Nat) (hP:Hid (∀ (a b:En) (ca cb:List Value) (w:World),ES k w w.heap.size a ca→ES k w w.heap.size b cb→Calls Tryz.prog 150 #[.agg ca.toArray,.agg cb.toArray] w fun e w'=>e=.returned (.int .i64 (cmpE a b))∧Below w.heap.size w w')) (A:Option Addr) (c:Nat) (l:List (En)) (w:World) (hl:RowP w w.heap.size 9 (.slice A l.length c) l.length (fun j cs=>∃ x,l[j]?=some x∧ES k w w.heap.size x cs)) :
  Calls Tryz.prog 149 #[.slice A l.length c,.func (.func 150) #[] #[]] w fun e w'=>e=.returned (.bool (decide (AscC cmpE l)))∧Below w.heap.size w w':=by
 have eg:=enters_of Tryz.func150 (by kernel_rfl) rfl;obtain⟨_,_,_,hln⟩:=hl.form;unfold maxLen at hln;have HL:=xI hl;clear hl;generalize hrr:decide (AscC cmpE l)=r;have HR:=xI hrr;clear hrr;go_enter Tryz.func149,Tryz.ntmps149;go_wp2_with fail
 go_loopw [5,6] (fun i _ wr=>∃ q:Nat,i=.int .i64 ((q:Int)+1)∧(q+1≤l.length∨q=0)∧Hid (∀ r x y,r<q→l[r]?=some x→l[r+1]?=some y→cmpE x y<0)∧Below w.heap.size w wr) (fun i _ _=>l.length+1-(intOf i).toNat)
 case atStart=>exact⟨0,rfl,by omega,xI (fun r x y h=>absurd h (by omega)),Below.refl _ _⟩
 case round=>
  obtain⟨j,rfl,hj,h0,hb⟩:=hrel;by_cases hjn:j+1<l.length
  ·obtain⟨b,off,cap0,x0,x1,x2,x3,x4,x5,x6,x7,x8,hu,hbH,⟨x,hx,hv⟩,c0,c1,c2,c3,c4,c5,c6,c7,c8⟩:=(HL.out.on hb (fun _ _ h=>h)).at9 (show j<l.length by omega);obtain⟨b',off',cap0',y0,y1,y2,y3,y4,y5,y6,y7,y8,hu',hbH',⟨y,hy,hv'⟩,d0,d1,d2,d3,d4,d5,d6,d7,d8⟩:=(HL.out.on hb (fun _ _ h=>h)).at9 hjn;injection hu with hA _ hcap;subst hA hcap;injection hu' with hA' _ hcap';injection hA' with hA';injection hA' with hA1 hA2;subst hA1 hA2 hcap';obtain⟨B01,n01,d01,g1,a1,i1,s1,B11,n11,d11,B21,n21,d21,B31,n31,d31,B41,n41,d41,hf⟩:=hv.form9;simp only[List.cons.injEq,and_true]at hf;obtain⟨rfl,rfl,rfl,rfl,rfl,rfl,rfl,rfl,rfl⟩:=hf;obtain⟨B02,n02,d02,g2,a2,i2,s2,B12,n12,d12,B22,n22,d22,B32,n32,d32,B42,n42,d42,hf⟩:=hv'.form9;simp only[List.cons.injEq,and_true]at hf;obtain⟨rfl,rfl,rfl,rfl,rfl,rfl,rfl,rfl,rfl⟩:=hf;have kn:((j:Int)+1)<(l.length:Int):=by omega
   have km:(j:Int)<(l.length:Int):=by omega
   have k0:(0:Int)≤(j:Int):=by omega
   have k1:(0:Int)≤(j:Int)+1:=by omega
   have e1:((j:Int)+1).toNat=j+1:=by omega
   have e2:((j:Int)+1-1)=(j:Int):=by omega
   have e3:IntKind.i64.wrap (j:Int)=(j:Int):=IntWalk.i64_in _ (by omega);have e4:IntKind.i64.wrap ((j:Int)+1-1)=(j:Int):=by rw[e2,e3]
   have HV:=xI hb;have HX:=xI (aN hx hy);have hz:=hb.size;have HK9:Hid (∀ wq,Below wr.heap.size wr wq→wq.cell? ⟨b,off+j*9,none⟩=some (.slice B01 n01 d01)∧wq.cell? ⟨b,off+j*9+1,none⟩=some (.bool g1)∧wq.cell? ⟨b,off+j*9+2,none⟩=some (.int .i64 a1)∧wq.cell? ⟨b,off+j*9+3,none⟩=some (.int .i64 i1)∧wq.cell? ⟨b,off+j*9+4,none⟩=some (.string s1)∧wq.cell? ⟨b,off+j*9+5,none⟩=some (.slice B11 n11 d11)∧wq.cell? ⟨b,off+j*9+6,none⟩=some (.slice B21 n21 d21)∧wq.cell? ⟨b,off+j*9+7,none⟩=some (.slice B31 n31 d31)∧wq.cell? ⟨b,off+j*9+8,none⟩=some (.slice B41 n41 d41)∧wq.cell? ⟨b,off+(j+1)*9,none⟩=some (.slice B02 n02 d02)∧wq.cell? ⟨b,off+(j+1)*9+1,none⟩=some (.bool g2)∧wq.cell? ⟨b,off+(j+1)*9+2,none⟩=some (.int .i64 a2)∧wq.cell? ⟨b,off+(j+1)*9+3,none⟩=some (.int .i64 i2)∧wq.cell? ⟨b,off+(j+1)*9+4,none⟩=some (.string s2)∧wq.cell? ⟨b,off+(j+1)*9+5,none⟩=some (.slice B12 n12 d12)∧wq.cell? ⟨b,off+(j+1)*9+6,none⟩=some (.slice B22 n22 d22)∧wq.cell? ⟨b,off+(j+1)*9+7,none⟩=some (.slice B32 n32 d32)∧wq.cell? ⟨b,off+(j+1)*9+8,none⟩=some (.slice B42 n42 d42)):=xI (fun wq h=>⟨(h.cell (p:=⟨_,_,none⟩) (by show b<_;omega)).trans c0,(h.cell (p:=⟨_,_,none⟩) (by show b<_;omega)).trans c1,(h.cell (p:=⟨_,_,none⟩) (by show b<_;omega)).trans c2,(h.cell (p:=⟨_,_,none⟩) (by show b<_;omega)).trans c3,(h.cell (p:=⟨_,_,none⟩) (by show b<_;omega)).trans c4,(h.cell (p:=⟨_,_,none⟩) (by show b<_;omega)).trans c5,(h.cell (p:=⟨_,_,none⟩) (by show b<_;omega)).trans c6,(h.cell (p:=⟨_,_,none⟩) (by show b<_;omega)).trans c7,(h.cell (p:=⟨_,_,none⟩) (by show b<_;omega)).trans c8,(h.cell (p:=⟨_,_,none⟩) (by show b<_;omega)).trans d0,(h.cell (p:=⟨_,_,none⟩) (by show b<_;omega)).trans d1,(h.cell (p:=⟨_,_,none⟩) (by show b<_;omega)).trans d2,(h.cell (p:=⟨_,_,none⟩) (by show b<_;omega)).trans d3,(h.cell (p:=⟨_,_,none⟩) (by show b<_;omega)).trans d4,(h.cell (p:=⟨_,_,none⟩) (by show b<_;omega)).trans d5,(h.cell (p:=⟨_,_,none⟩) (by show b<_;omega)).trans d6,(h.cell (p:=⟨_,_,none⟩) (by show b<_;omega)).trans d7,(h.cell (p:=⟨_,_,none⟩) (by show b<_;omega)).trans d8⟩);have HVX:Hid (∀ wq,Below wr.heap.size wr wq→ES k wq wq.heap.size x [.slice B01 n01 d01,.bool g1,.int .i64 a1,.int .i64 i1,.string s1,.slice B11 n11 d11,.slice B21 n21 d21,.slice B31 n31 d31,.slice B41 n41 d41]):=xI (fun wq h=>ES.up (Nat.le_trans hb.size h.size) lR (ES.on (hb.trans (h.mono hb.size)) hv));have HVY:Hid (∀ wq,Below wr.heap.size wr wq→ES k wq wq.heap.size y [.slice B02 n02 d02,.bool g2,.int .i64 a2,.int .i64 i2,.string s2,.slice B12 n12 d12,.slice B22 n22 d22,.slice B32 n32 d32,.slice B42 n42 d42]):=xI (fun wq h=>ES.up (Nat.le_trans hb.size h.size) lR (ES.on (hb.trans (h.mono hb.size)) hv'));clear hx hy hb hv hv' c0 c1 c2 c3 c4 c5 c6 c7 c8 d0 d1 d2 d3 d4 d5 d6 d7 d8;go_wp2_with fail;refine wp_region_held_drew (S:=fun wq=>wq.cell? ⟨b,off+j*9,none⟩=some (.slice B01 n01 d01)∧wq.cell? ⟨b,off+j*9+1,none⟩=some (.bool g1)∧wq.cell? ⟨b,off+j*9+2,none⟩=some (.int .i64 a1)∧wq.cell? ⟨b,off+j*9+3,none⟩=some (.int .i64 i1)∧wq.cell? ⟨b,off+j*9+4,none⟩=some (.string s1)∧wq.cell? ⟨b,off+j*9+5,none⟩=some (.slice B11 n11 d11)∧wq.cell? ⟨b,off+j*9+6,none⟩=some (.slice B21 n21 d21)∧wq.cell? ⟨b,off+j*9+7,none⟩=some (.slice B31 n31 d31)∧wq.cell? ⟨b,off+j*9+8,none⟩=some (.slice B41 n41 d41)∧wq.cell? ⟨b,off+(j+1)*9,none⟩=some (.slice B02 n02 d02)∧wq.cell? ⟨b,off+(j+1)*9+1,none⟩=some (.bool g2)∧wq.cell? ⟨b,off+(j+1)*9+2,none⟩=some (.int .i64 a2)∧wq.cell? ⟨b,off+(j+1)*9+3,none⟩=some (.int .i64 i2)∧wq.cell? ⟨b,off+(j+1)*9+4,none⟩=some (.string s2)∧wq.cell? ⟨b,off+(j+1)*9+5,none⟩=some (.slice B12 n12 d12)∧wq.cell? ⟨b,off+(j+1)*9+6,none⟩=some (.slice B22 n22 d22)∧wq.cell? ⟨b,off+(j+1)*9+7,none⟩=some (.slice B32 n32 d32)∧wq.cell? ⟨b,off+(j+1)*9+8,none⟩=some (.slice B42 n42 d42)) (by kernel_rfl) (HK9.out _ bR.drew) (fun _=>?_);have hB9:Below wr.heap.size wr wr.drew:=bR.drew;refine tk 0 (HK9.out _ hB9) ?_
   try simp only[pK]
   iterate 9 (refine ts (HK9.out _ hB9) ?_;try simp only[pK])
   refine oO 10 fun K hK=>?_;go_simp;refine (hP.out x y _ _ _ (HVX.out _ hB9) (HVY.out _ hB9)).mono ?_;rintro e w10 ⟨rfl,hb10⟩;have hB10:Below wr.heap.size wr w10:=zA0 hB9 lR hb10;clear hb10 hB9;refine hK _ _ (HK9.out _ hB10) ?_
   try simp only[pK]
   clear hK K;refine tk 11 (HK9.out _ hB10) ?_
   try simp only[pK]
   refine (wD ?_) _;generalize hzz:cmpE x y=z;have HC:=xI hzz;clear hzz;by_cases hz0:0≤z
   ·have HU:Hid (r=false):=xI (by rw[←HR.out,decide_eq_false_iff_not];intro h;have:=zEk h HX.out.1 HX.out.2 (Nat.lt_succ_self j);rw[HC.out]at this;omega);go_wp2;go_ret;exact⟨zAb HU.out.symm,HV.out.trans (hB10.mono HV.out.size)⟩
   ·have HC2:Hid (∀ r x y,r<j+1→l[r]?=some x→l[r+1]?=some y→cmpE x y<0):=xI (by
     intro r x' y' hr h1 h2;by_cases e:r=j
     ·subst e;rw[HX.out.1]at h1;rw[HX.out.2]at h2;injection h1 with h1;injection h2 with h2;subst h1 h2;rw[HC.out];omega
     ·exact h0.out r x' y' (by omega) h1 h2)
    go_wp2
    go_roundw
    case rel=>exact⟨j+1,by go_num,by omega,HC2,HV.out.trans (hB10.mono HV.out.size)⟩
    case measure=>simp[intOf];omega
  ·have HU:Hid (r=true):=xI (by rw[←HR.out,decide_eq_true_iff];exact zFx totE fun r x y h1 h2=>h0.out r x y (by have:=(List.getElem?_eq_some_iff.1 h2).1;omega) h1 h2);have kn:¬ ((j:Int)+1)<(l.length:Int):=by omega
   go_wp2;go_ret;exact⟨zAb HU.out.symm,hb⟩
def usesN (k i:Int) (t:List UInt8) (v y e:Nat):Bool:=
 (decide (k=1∨k=4∨k=9)||decide (i=0))&&(decide (k=2∨k=3)||t.isEmpty)&&(decide (k=6∨k=7∨k=8)||decide (v=0))&&(decide (k=8)||decide (y=0))&&(decide (k=9)||decide (e=0))
theorem zHm {α:Type}(l:List α):l.isEmpty=decide (l.length=0):=by cases l<;>simp
theorem natB (n:Nat):((n:Int)==0)=decide (n=0):=by cases n with|zero=>rfl|succ n=>simp;omega
theorem zCk (k i:Int) (t:List UInt8) (v:List Vl) (y:List (Int×List UInt8)) (e:List En):usesB k i t v y e=usesN k i t v.length y.length e.length:=by
 unfold usesB usesN;rw[zHm v,zHm y,zHm e]
theorem zPh (kd it:Int) (tx:List UInt8) (A Y E L:Option Addr) (nk ck ny cy ne ce nl cl:Nat) (w:World) :
  Calls Tryz.prog 109 #[.agg #[.int .i64 kd,.int .i64 it,.string ⟨tx.toArray⟩,.slice A nk ck,.slice Y ny cy,.slice E ne ce,.slice L nl cl]] w fun e w'=>e=.returned (.bool (usesN kd it tx nk ny ne))∧Below w.heap.size w w':=by
 by_cases h1:kd=1
 ·subst h1;go_enter Tryz.func109,Tryz.ntmps109;go_wp2
  all_goals go_ret
  all_goals exact⟨zAb (by simp[usesN,natB, *]),bR.alloc lR _⟩
 by_cases h4:kd=4
 ·subst h4;go_enter Tryz.func109,Tryz.ntmps109;go_wp2
  all_goals go_ret
  all_goals exact⟨zAb (by simp[usesN,natB, *]),bR.alloc lR _⟩
 by_cases h2:kd=2
 ·subst h2;go_enter Tryz.func109,Tryz.ntmps109;go_wp2
  all_goals go_ret
  all_goals exact⟨zAb (by simp[usesN,natB, *]),bR.alloc lR _⟩
 by_cases h3:kd=3
 ·subst h3;go_enter Tryz.func109,Tryz.ntmps109;go_wp2
  all_goals go_ret
  all_goals exact⟨zAb (by simp[usesN,natB, *]),bR.alloc lR _⟩
 by_cases h6:kd=6
 ·subst h6;go_enter Tryz.func109,Tryz.ntmps109;go_wp2
  all_goals go_ret
  all_goals exact⟨zAb (by simp[usesN,natB, *]),bR.alloc lR _⟩
 by_cases h7:kd=7
 ·subst h7;go_enter Tryz.func109,Tryz.ntmps109;go_wp2
  all_goals go_ret
  all_goals exact⟨zAb (by simp[usesN,natB, *]),bR.alloc lR _⟩
 by_cases h8:kd=8
 ·subst h8;go_enter Tryz.func109,Tryz.ntmps109;go_wp2
  all_goals go_ret
  all_goals exact⟨zAb (by simp[usesN,natB, *]),bR.alloc lR _⟩
 by_cases h9:kd=9
 ·subst h9;go_enter Tryz.func109,Tryz.ntmps109;go_wp2
  all_goals go_ret
  all_goals exact⟨zAb (by simp[usesN, *]),bR.alloc lR _⟩
 have q1:(kd==1)=false:=by rw[beq_eq_false_iff_ne];exact h1
 have q4:(kd==4)=false:=by rw[beq_eq_false_iff_ne];exact h4
 have q2:(kd==2)=false:=by rw[beq_eq_false_iff_ne];exact h2
 have q3:(kd==3)=false:=by rw[beq_eq_false_iff_ne];exact h3
 have q6:(kd==6)=false:=by rw[beq_eq_false_iff_ne];exact h6
 have q7:(kd==7)=false:=by rw[beq_eq_false_iff_ne];exact h7
 have q8:(kd==8)=false:=by rw[beq_eq_false_iff_ne];exact h8
 have q9:(kd==9)=false:=by rw[beq_eq_false_iff_ne];exact h9
 go_enter Tryz.func109,Tryz.ntmps109;go_wp2
 all_goals go_ret
 all_goals exact⟨zAb (by simp[usesN,natB, *]),bR.alloc lR _⟩
theorem zK7 (s:List UInt8) (w:World) (hs:s.length≤maxLen):Calls Tryz.prog 142 #[.string ⟨s.toArray⟩] w fun e w'=>e=.returned (.bool (atomB s))∧Below w.heap.size w w':=by
 refine (zH9 ⟨s.toArray⟩ w (by simpa [ByteArray.size] using hs)).mono ?_;rintro e w' ⟨rfl,rfl⟩;exact⟨rfl,Below.refl _ _⟩
theorem zM5 (s:List UInt8) (w:World) (hs:s.length≤maxLen):Calls Tryz.prog 89 #[.string ⟨s.toArray⟩] w fun e w'=>e=.returned (.bool (varB s))∧Below w.heap.size w w':=by
 refine (zEb ⟨s.toArray⟩ w (by simpa [ByteArray.size] using hs)).mono ?_;rintro e w' ⟨rfl,rfl⟩;exact⟨rfl,Below.refl _ _⟩
theorem zIp (x:Int×List UInt8) (w:World) (hs:x.2.length≤maxLen):Calls Tryz.prog 118 #[.agg #[.int .i64 x.1,.string ⟨x.2.toArray⟩]] w fun e w'=>e=.returned (.bool (keyB x.1 x.2))∧Below w.heap.size w w':=
 zBj x.1 ⟨x.2.toArray⟩ w (by simpa [ByteArray.size] using hs)
theorem zHw (n:Int) (w:World):Calls Tryz.prog 146 #[.int .i64 n] w fun e w'=>e=.returned (.bool (decide (0≤n∧n≤4)))∧w'=w:=by
 go_enter Tryz.func146,Tryz.ntmps146;go_wp2
 all_goals go_ret
 all_goals exact⟨zAb (by first|(simp_all;done)|(simp_all;omega)),rfl⟩
theorem zM6 (k:Nat) (u v:Vl) (ca cb:List Value) (w:World) (ha:VS k w w.heap.size u ca) (hb:VS k w w.heap.size v cb):Calls Tryz.prog 168 #[.agg ca.toArray,.agg cb.toArray] w fun e w'=>e=.returned (.bool (decide (cmpV u v=0)))∧Below w.heap.size w w':=by
 obtain⟨a,i,s,B1,n1,d1,B2,n2,d2,B3,n3,d3,B4,n4,d4,rfl⟩:=ha.form7;obtain⟨a',i',s',B1',n1',d1',B2',n2',d2',B3',n3',d3',B4',n4',d4',rfl⟩:=hb.form7;obtain⟨W,hW⟩:∃ W,W=(w.alloc (.cells #[.int .i64 a,.int .i64 i,.string s,.slice B1 n1 d1,.slice B2 n2 d2,.slice B3 n3 d3,.slice B4 n4 d4] 27)).alloc (.cells #[.int .i64 a',.int .i64 i',.string s',.slice B1' n1' d1',.slice B2' n2' d2',.slice B3' n3' d3',.slice B4' n4' d4'] 27):=⟨_,rfl⟩;have hbb:Below w.heap.size w W:=by rw[hW];exact (bR.alloc lR _).alloc (by simp) _
 have q0:W.cell? ⟨w.heap.size,0,none⟩=some (.int .i64 a):=by rw[hW];simp
 have q1:W.cell? ⟨w.heap.size,1,none⟩=some (.int .i64 i):=by rw[hW];simp
 have q2:W.cell? ⟨w.heap.size,2,none⟩=some (.string s):=by rw[hW];simp
 have q3:W.cell? ⟨w.heap.size,3,none⟩=some (.slice B1 n1 d1):=by rw[hW];simp
 have q4:W.cell? ⟨w.heap.size,4,none⟩=some (.slice B2 n2 d2):=by rw[hW];simp
 have q5:W.cell? ⟨w.heap.size,5,none⟩=some (.slice B3 n3 d3):=by rw[hW];simp
 have q6:W.cell? ⟨w.heap.size,6,none⟩=some (.slice B4 n4 d4):=by rw[hW];simp
 have r0:W.cell? ⟨w.heap.size+1,0,none⟩=some (.int .i64 a'):=by rw[hW];simp
 have r1:W.cell? ⟨w.heap.size+1,1,none⟩=some (.int .i64 i'):=by rw[hW];simp
 have r2:W.cell? ⟨w.heap.size+1,2,none⟩=some (.string s'):=by rw[hW];simp
 have r3:W.cell? ⟨w.heap.size+1,3,none⟩=some (.slice B1' n1' d1'):=by rw[hW];simp
 have r4:W.cell? ⟨w.heap.size+1,4,none⟩=some (.slice B2' n2' d2'):=by rw[hW];simp
 have r5:W.cell? ⟨w.heap.size+1,5,none⟩=some (.slice B3' n3' d3'):=by rw[hW];simp
 have r6:W.cell? ⟨w.heap.size+1,6,none⟩=some (.slice B4' n4' d4'):=by rw[hW];simp
 have hc:=zGd k u v _ _ W (VS.up hbb.size lR (VS.on hbb ha)) (VS.up hbb.size lR (VS.on hbb hb));have HB:=xI hbb;clear ha hb hbb;generalize hz:decide (cmpV u v=0)=r;have HZ:=xI hz;clear hz;generalize cmpV u v=z at hc HZ;go_enter Tryz.func168,Tryz.ntmps168;go_wp2_with fail;rw[←hW];clear hW;go_wp2_with (go_at_call 170;refine hc.mono ?_;rintro e w1 ⟨rfl,hb1⟩;refine Hid.out ?_);refine xI ?_;clear hc;go_wp2;go_ret;exact⟨zAb (by rw[←HZ.out];by_cases h:z=0<;>simp[h]),HB.out.trans (hb1.mono HB.out.size)⟩
theorem zIk (w:World) (B:Nat→Prop) (c:Nat) (R:Nat→List Value→Prop):RowB w B c (.slice none 0 0) 0 R:=⟨none,0,rfl,⟨Nat.zero_le _,Nat.le_refl _⟩,fun h=>absurd h (by omega)⟩
theorem zLo (k:Nat) (w:World) (B:Nat→Prop):VB (k+1) w B zeroV [.int .i64 0,.int .i64 0,.string ⟨#[]⟩,.slice none 0 0,.slice none 0 0,.slice none 0 0,.slice none 0 0]:=
 ⟨_,_,_,_,rfl,by decide,by decide,Nat.zero_le _,zIk _ _ _ _,zIk _ _ _ _,zIk _ _ _ _,zIk _ _ _ _⟩
theorem zP4 (k:Nat) (e:En) (cs:List Value) (n:Int) (w:World) (he:ES (k+1) w w.heap.size e cs):Calls Tryz.prog 148 #[.agg cs.toArray,.int .i64 n] w fun r w'=>r=.returned (.bool (entB n e))∧Below w.heap.size w w':=by
 obtain⟨args,fl,r,rfl,ua,rs,rfl,hl,hr⟩:=he;obtain⟨A,cap,rfl,hal⟩:=hl.form;obtain⟨a,i,s,B1,n1,d1,B2,n2,d2,B3,n3,d3,B4,n4,d4,rfl⟩:=hr.form7;unfold maxLen at hal;obtain⟨W,hW⟩:∃ W,W=w.alloc (.cells #[.slice A args.length cap,.bool fl,.int .i64 a,.int .i64 i,.string s,.slice B1 n1 d1,.slice B2 n2 d2,.slice B3 n3 d3,.slice B4 n4 d4] 45):=⟨_,rfl⟩;have hbb:Below w.heap.size w W:=by rw[hW];exact bR.alloc lR _
 have q0:W.cell? ⟨w.heap.size,0,none⟩=some (.slice A args.length cap):=by rw[hW];simp
 have q1:W.cell? ⟨w.heap.size,1,none⟩=some (.bool fl):=by rw[hW];simp
 have q2:W.cell? ⟨w.heap.size,2,none⟩=some (.int .i64 a):=by rw[hW];simp
 have q3:W.cell? ⟨w.heap.size,3,none⟩=some (.int .i64 i):=by rw[hW];simp
 have q4:W.cell? ⟨w.heap.size,4,none⟩=some (.string s):=by rw[hW];simp
 have q5:W.cell? ⟨w.heap.size,5,none⟩=some (.slice B1 n1 d1):=by rw[hW];simp
 have q6:W.cell? ⟨w.heap.size,6,none⟩=some (.slice B2 n2 d2):=by rw[hW];simp
 have q7:W.cell? ⟨w.heap.size,7,none⟩=some (.slice B3 n3 d3):=by rw[hW];simp
 have q8:W.cell? ⟨w.heap.size,8,none⟩=some (.slice B4 n4 d4):=by rw[hW];simp
 have hc:=zM6 (k+1) r zeroV _ _ W (VS.up hbb.size lR (VS.on hbb hr)) (zLo k W _);have HB:=xI hbb;clear hl hr hbb;generalize hz:entB n (.mk args fl r)=y;have HZ:=xI hz;clear hz;have HE:Hid (entB n (.mk args fl r)=(decide ((args.length:Int)=n)&&(!fl||decide (cmpV r zeroV=0)))):=xI rfl;generalize decide (cmpV r zeroV=0)=z at hc HE;by_cases hn:(args.length:Int)=n
 case neg=>
  have hq:((args.length:Int)==n)=false:=by rw[beq_eq_false_iff_ne];exact hn
  have HU:Hid (y=false):=xI (by rw[←HZ.out,HE.out];simp[hn]);clear hn;go_enter Tryz.func148,Tryz.ntmps148;go_wp2_with fail;rw[←hW];clear hW;go_wp2;go_ret;exact⟨zAb HU.out.symm,HB.out⟩
 have hq:((args.length:Int)==n)=true:=by rw[beq_iff_eq];exact hn
 have HN:=xI hn;clear hn;cases fl
 ·have HU:Hid (y=true):=xI (by rw[←HZ.out,HE.out];simp[HN.out]);go_enter Tryz.func148,Tryz.ntmps148;go_wp2_with fail;rw[←hW];clear hW;go_wp2;go_ret;exact⟨zAb HU.out.symm,HB.out⟩
 ·have HU:Hid (y=z):=xI (by rw[←HZ.out,HE.out];simp[HN.out]);go_enter Tryz.func148,Tryz.ntmps148;go_wp2_with fail;rw[←hW];clear hW;go_wp2_with (go_at_call 168;refine hc.mono ?_;rintro e w1 ⟨rfl,hb1⟩;refine Hid.out ?_);refine xI ?_;clear hc;go_wp2;go_ret;exact⟨zAb HU.out.symm,HB.out.trans (hb1.mono HB.out.size)⟩
theorem zOm (k:Nat) (e:En) (cs:List Value) (n:Int) (b:Nat) (w:World) (he:ES (k+1) w w.heap.size e cs) (hb:b<w.heap.size) (hn:w.cell? ⟨b,1,none⟩=some (.int .i64 n)):Calls Tryz.prog 147 #[.agg cs.toArray,.pointer (some ⟨b,0,none⟩)] w fun r w'=>r=.returned (.bool (entB n e))∧Below w.heap.size w w':=by
 obtain⟨B0,n0,d0,f,a,i,s,B1,n1,d1,B2,n2,d2,B3,n3,d3,B4,n4,d4,rfl⟩:=he.form9;obtain⟨W,hW⟩:∃ W,W=w.alloc (.cells #[.slice B0 n0 d0,.bool f,.int .i64 a,.int .i64 i,.string s,.slice B1 n1 d1,.slice B2 n2 d2,.slice B3 n3 d3,.slice B4 n4 d4] 45):=⟨_,rfl⟩;have hbb:Below w.heap.size w W:=by rw[hW];exact bR.alloc lR _
 have q0:W.cell? ⟨w.heap.size,0,none⟩=some (.slice B0 n0 d0):=by rw[hW];simp
 have q1:W.cell? ⟨w.heap.size,1,none⟩=some (.bool f):=by rw[hW];simp
 have q2:W.cell? ⟨w.heap.size,2,none⟩=some (.int .i64 a):=by rw[hW];simp
 have q3:W.cell? ⟨w.heap.size,3,none⟩=some (.int .i64 i):=by rw[hW];simp
 have q4:W.cell? ⟨w.heap.size,4,none⟩=some (.string s):=by rw[hW];simp
 have q5:W.cell? ⟨w.heap.size,5,none⟩=some (.slice B1 n1 d1):=by rw[hW];simp
 have q6:W.cell? ⟨w.heap.size,6,none⟩=some (.slice B2 n2 d2):=by rw[hW];simp
 have q7:W.cell? ⟨w.heap.size,7,none⟩=some (.slice B3 n3 d3):=by rw[hW];simp
 have q8:W.cell? ⟨w.heap.size,8,none⟩=some (.slice B4 n4 d4):=by rw[hW];simp
 have hn2:W.cell? ⟨b,1,none⟩=some (.int .i64 n):=(hbb.cell (p:=⟨b,1,none⟩) hb).trans hn;have hn3:=hn2;rw[hW]at hn3;have hc:=zP4 k e _ n W (ES.up hbb.size lR (ES.on hbb he));have HB:=xI hbb;clear he hbb hn hb;generalize entB n e=y at hc ⊢;go_enter Tryz.func147,Tryz.ntmps147;go_wp2_with fail;rw[←hW];clear hW;go_wp2_with (go_at_call 148;refine hc.mono ?_;rintro e w1 ⟨rfl,hb1⟩;refine Hid.out ?_);refine xI ?_;clear hc;go_wp2;go_ret;exact⟨rfl,HB.out.trans (hb1.mono HB.out.size)⟩
def AtomN (s:List UInt8):Prop:=s=[97]∨s=[98]∨s=[111,107]∨s=[101,114,114,111,114]
theorem zGe (h p:Nat) (w:World) (hS:SrcOk h p w):Calls Tryz.prog 105 #[.pointer (some ⟨p,0,none⟩)] w fun e w'=>(∃ s:List UInt8,e=.returned (.string ⟨s.toArray⟩)∧AtomN s)∧SrcOk h p w'∧Eff p w w':=by
 have hlp:=hS.lt;have hba:Below w.heap.size w (w.alloc (.cells #[.string { data:=#[97] },.string { data:=#[98] },.string { data:=#[111,107] },.string { data:=#[101,114,114,111,114] }] 9)):=bR.alloc lR _;have hc:=zBc h p 4 _ (hS.below hba) (by omega) (by omega);have k0:=heap_alloc_new w (.cells #[.string { data:=#[97] },.string { data:=#[98] },.string { data:=#[111,107] },.string { data:=#[101,114,114,111,114] }] 9);have hE0:=Eff.of_below hba (Nat.le_of_lt hlp);go_enter Tryz.func105,Tryz.ntmps105;go_wp2_with fail;refine hc.mono ?_;rintro e w1 ⟨j,rfl,j0,j1,hS1,hE⟩;have k1:w1.heap[w.heap.size]?=some (.cells #[.string { data:=#[97] },.string { data:=#[98] },.string { data:=#[111,107] },.string { data:=#[101,114,114,111,114] }] 9 (0,0)):=(hE.other _ (by omega) (by simp)).trans k0;have HF:=xI (aN hS1 (hE0.trans hE));clear hc hE hS1 hba hE0 k0 hS hlp;have hj:j=0∨j=1∨j=2∨j=3:=by omega
 have c0:w1.cell? ⟨w.heap.size,0,none⟩=some (.string { data:=#[97] }):=cH k1 0;have c1:w1.cell? ⟨w.heap.size,1,none⟩=some (.string { data:=#[98] }):=cH k1 1;have c2:w1.cell? ⟨w.heap.size,2,none⟩=some (.string { data:=#[111,107] }):=cH k1 2;have c3:w1.cell? ⟨w.heap.size,3,none⟩=some (.string { data:=#[101,114,114,111,114] }):=cH k1 3;clear k1;rcases hj with rfl|rfl|rfl|rfl
 ·go_wp2;go_ret;exact⟨⟨[97],rfl,by unfold AtomN;simp⟩,HF.out⟩
 ·go_wp2;go_ret;exact⟨⟨[98],rfl,by unfold AtomN;simp⟩,HF.out⟩
 ·go_wp2;go_ret;exact⟨⟨[111,107],rfl,by unfold AtomN;simp⟩,HF.out⟩
 ·go_wp2;go_ret;exact⟨⟨[101,114,114,111,114],rfl,by unfold AtomN;simp⟩,HF.out⟩
def WordN (s:List UInt8):Prop:=s=[]∨s=[115]∨s=[120,32,121]∨s=[97]
theorem zLr (h p:Nat) (w:World) (hS:SrcOk h p w):Calls Tryz.prog 106 #[.pointer (some ⟨p,0,none⟩)] w fun e w'=>(∃ s:List UInt8,e=.returned (.string ⟨s.toArray⟩)∧WordN s)∧SrcOk h p w'∧Eff p w w':=by
 have hlp:=hS.lt;have hba:Below w.heap.size w (w.alloc (.cells #[.string { data:=#[] },.string { data:=#[115] },.string { data:=#[120,32,121] },.string { data:=#[97] }] 9)):=bR.alloc lR _;have hc:=zBc h p 4 _ (hS.below hba) (by omega) (by omega);have k0:=heap_alloc_new w (.cells #[.string { data:=#[] },.string { data:=#[115] },.string { data:=#[120,32,121] },.string { data:=#[97] }] 9);have hE0:=Eff.of_below hba (Nat.le_of_lt hlp);go_enter Tryz.func106,Tryz.ntmps106;go_wp2_with fail;refine hc.mono ?_;rintro e w1 ⟨j,rfl,j0,j1,hS1,hE⟩;have k1:w1.heap[w.heap.size]?=some (.cells #[.string { data:=#[] },.string { data:=#[115] },.string { data:=#[120,32,121] },.string { data:=#[97] }] 9 (0,0)):=(hE.other _ (by omega) (by simp)).trans k0;have HF:=xI (aN hS1 (hE0.trans hE));clear hc hE hS1 hba hE0 k0 hS hlp;have hj:j=0∨j=1∨j=2∨j=3:=by omega
 have c0:w1.cell? ⟨w.heap.size,0,none⟩=some (.string { data:=#[] }):=cH k1 0;have c1:w1.cell? ⟨w.heap.size,1,none⟩=some (.string { data:=#[115] }):=cH k1 1;have c2:w1.cell? ⟨w.heap.size,2,none⟩=some (.string { data:=#[120,32,121] }):=cH k1 2;have c3:w1.cell? ⟨w.heap.size,3,none⟩=some (.string { data:=#[97] }):=cH k1 3;clear k1;rcases hj with rfl|rfl|rfl|rfl
 ·go_wp2;go_ret;exact⟨⟨[],rfl,by unfold WordN;simp⟩,HF.out⟩
 ·go_wp2;go_ret;exact⟨⟨[115],rfl,by unfold WordN;simp⟩,HF.out⟩
 ·go_wp2;go_ret;exact⟨⟨[120,32,121],rfl,by unfold WordN;simp⟩,HF.out⟩
 ·go_wp2;go_ret;exact⟨⟨[97],rfl,by unfold WordN;simp⟩,HF.out⟩
def LabN (s:List UInt8):Prop:=s=[65]∨s=[66]∨s=[67]
theorem zJ3 (h p:Nat) (w:World) (hS:SrcOk h p w):Calls Tryz.prog 62 #[.pointer (some ⟨p,0,none⟩)] w fun e w'=>(∃ s:List UInt8,e=.returned (.string ⟨s.toArray⟩)∧LabN s)∧SrcOk h p w'∧Eff p w w':=by
 have hlp:=hS.lt;have hba:Below w.heap.size w (w.alloc (.cells #[.string { data:=#[65] },.string { data:=#[66] },.string { data:=#[67] }] 9)):=bR.alloc lR _;have hc:=zBc h p 3 _ (hS.below hba) (by omega) (by omega);have k0:=heap_alloc_new w (.cells #[.string { data:=#[65] },.string { data:=#[66] },.string { data:=#[67] }] 9);have hE0:=Eff.of_below hba (Nat.le_of_lt hlp);go_enter Tryz.func62,Tryz.ntmps62;go_wp2_with fail;refine hc.mono ?_;rintro e w1 ⟨j,rfl,j0,j1,hS1,hE⟩;have k1:w1.heap[w.heap.size]?=some (.cells #[.string { data:=#[65] },.string { data:=#[66] },.string { data:=#[67] }] 9 (0,0)):=(hE.other _ (by omega) (by simp)).trans k0;have HF:=xI (aN hS1 (hE0.trans hE));clear hc hE hS1 hba hE0 k0 hS hlp;have hj:j=0∨j=1∨j=2:=by omega
 have c0:w1.cell? ⟨w.heap.size,0,none⟩=some (.string { data:=#[65] }):=cH k1 0;have c1:w1.cell? ⟨w.heap.size,1,none⟩=some (.string { data:=#[66] }):=cH k1 1;have c2:w1.cell? ⟨w.heap.size,2,none⟩=some (.string { data:=#[67] }):=cH k1 2;clear k1;rcases hj with rfl|rfl|rfl
 ·go_wp2;go_ret;exact⟨⟨[65],rfl,by unfold LabN;simp⟩,HF.out⟩
 ·go_wp2;go_ret;exact⟨⟨[66],rfl,by unfold LabN;simp⟩,HF.out⟩
 ·go_wp2;go_ret;exact⟨⟨[67],rfl,by unfold LabN;simp⟩,HF.out⟩
def NumN (x:Int):Prop:=(Lit.int .i64 x).wf=true
theorem zMx (h p:Nat) (w:World) (hS:SrcOk h p w):Calls Tryz.prog 104 #[.pointer (some ⟨p,0,none⟩)] w fun e w'=>(∃ x:Int,e=.returned (.int .i64 x)∧NumN x)∧SrcOk h p w'∧Eff p w w':=by
 have hlp:=hS.lt;have hba:Below w.heap.size w (w.alloc (.cells #[.int .i64 (0),.int .i64 (1),.int .i64 (-1),.int .i64 (2),.int .i64 (3),.int .i64 (-2),.int .i64 (7),.int .i64 (-9223372036854775808),.int .i64 (9223372036854775807),.int .i64 (10)] 2)):=bR.alloc lR _;have hc:=zBc h p 10 _ (hS.below hba) (by omega) (by omega);have k0:=heap_alloc_new w (.cells #[.int .i64 (0),.int .i64 (1),.int .i64 (-1),.int .i64 (2),.int .i64 (3),.int .i64 (-2),.int .i64 (7),.int .i64 (-9223372036854775808),.int .i64 (9223372036854775807),.int .i64 (10)] 2);have hE0:=Eff.of_below hba (Nat.le_of_lt hlp);go_enter Tryz.func104,Tryz.ntmps104;go_wp2_with fail;refine hc.mono ?_;rintro e w1 ⟨j,rfl,j0,j1,hS1,hE⟩;have k1:w1.heap[w.heap.size]?=some (.cells #[.int .i64 (0),.int .i64 (1),.int .i64 (-1),.int .i64 (2),.int .i64 (3),.int .i64 (-2),.int .i64 (7),.int .i64 (-9223372036854775808),.int .i64 (9223372036854775807),.int .i64 (10)] 2 (0,0)):=(hE.other _ (by omega) (by simp)).trans k0;have HF:=xI (aN hS1 (hE0.trans hE));clear hc hE hS1 hba hE0 k0 hS hlp;have hj:j=0∨j=1∨j=2∨j=3∨j=4∨j=5∨j=6∨j=7∨j=8∨j=9:=by omega
 have c0:w1.cell? ⟨w.heap.size,0,none⟩=some (.int .i64 (0)):=cH k1 0;have c1:w1.cell? ⟨w.heap.size,1,none⟩=some (.int .i64 (1)):=cH k1 1;have c2:w1.cell? ⟨w.heap.size,2,none⟩=some (.int .i64 (-1)):=cH k1 2;have c3:w1.cell? ⟨w.heap.size,3,none⟩=some (.int .i64 (2)):=cH k1 3;have c4:w1.cell? ⟨w.heap.size,4,none⟩=some (.int .i64 (3)):=cH k1 4;have c5:w1.cell? ⟨w.heap.size,5,none⟩=some (.int .i64 (-2)):=cH k1 5;have c6:w1.cell? ⟨w.heap.size,6,none⟩=some (.int .i64 (7)):=cH k1 6;have c7:w1.cell? ⟨w.heap.size,7,none⟩=some (.int .i64 (-9223372036854775808)):=cH k1 7;have c8:w1.cell? ⟨w.heap.size,8,none⟩=some (.int .i64 (9223372036854775807)):=cH k1 8;have c9:w1.cell? ⟨w.heap.size,9,none⟩=some (.int .i64 (10)):=cH k1 9;clear k1;rcases hj with rfl|rfl|rfl|rfl|rfl|rfl|rfl|rfl|rfl|rfl
 ·go_wp2;go_ret;exact⟨⟨(0),rfl,by unfold NumN;decide⟩,HF.out⟩
 ·go_wp2;go_ret;exact⟨⟨(1),rfl,by unfold NumN;decide⟩,HF.out⟩
 ·go_wp2;go_ret;exact⟨⟨(-1),rfl,by unfold NumN;decide⟩,HF.out⟩
 ·go_wp2;go_ret;exact⟨⟨(2),rfl,by unfold NumN;decide⟩,HF.out⟩
 ·go_wp2;go_ret;exact⟨⟨(3),rfl,by unfold NumN;decide⟩,HF.out⟩
 ·go_wp2;go_ret;exact⟨⟨(-2),rfl,by unfold NumN;decide⟩,HF.out⟩
 ·go_wp2;go_ret;exact⟨⟨(7),rfl,by unfold NumN;decide⟩,HF.out⟩
 ·go_wp2;go_ret;exact⟨⟨(-9223372036854775808),rfl,by unfold NumN;decide⟩,HF.out⟩
 ·go_wp2;go_ret;exact⟨⟨(9223372036854775807),rfl,by unfold NumN;decide⟩,HF.out⟩
 ·go_wp2;go_ret;exact⟨⟨(10),rfl,by unfold NumN;decide⟩,HF.out⟩
end Go.Proofs.YtcjgaohblaidjaaGreatDoor
namespace Go.Proofs.YtcjgaohblaidjaaGreatDoor
open Go.RowKit
theorem Tryz.infoU8:(Tryz.prog.info? 5).map (fun i=>(i.zero,i.size,i.bytes))=some (some (.int .u8 0),1,1):=by kernel_rfl
def OwnB (w:World) (B:Nat) (v:Value) (l:List UInt8):Prop:=w.ownsRow B 5 1 v l.length (Lib.byteCells l)
theorem OwnB.drewN {w:World}{B:Nat}{v:Value}{l:List UInt8}(h:OwnB w B v l) (n:Nat):OwnB (w.drewN n) B v l:=h
theorem OwnB.below {w0 w1:World}{B:Nat}{v:Value}{l:List UInt8}{o:Obj}(h:OwnB w0 B v l) (hb:B≤w0.heap.size) (hg:(w0.alloc o).grownBy w1 v.ownBlock):Below B w0 w1:=
 ((Below.refl B w0).alloc hb o).grown hg (by simp;omega) (fun j hj=>(h.lt j hj).1)
theorem zEm {ops:Array Oper}{rest:List Oper}{o:Oper}{a:Act}{Q:Exit→Act→World→Prop}{w0:World}(hgd:o.guard=none) (s x:Operand)
  (ho:o.op=.call { callee:=.builtin .append,args:=#[s,x],argTypes:=#[40,40] }) (B:Nat) (v:Value) (l:List UInt8) (hs:a.eval s=v) (hown:OwnB w0 B v l)
  (l':List UInt8) (m c:Nat) (hm:l'.length=m) (cells:Array Value) (hc:cells.toList=Lib.byteCells l') (hx:a.eval x=.slice (some ⟨w0.heap.size,0,none⟩) m c)
  (hbytes:l.length+m≤140737488355328) (hbase:B≤w0.heap.size)
  (h:∀ v' w',OwnB w' B v' (l++l')→Below B w0 w'→wpList Tryz.prog ops Q rest (a.put o.dst v') w') :
  wpList Tryz.prog ops Q (o::rest) a (w0.alloc (.cells cells 5)):=by
 obtain⟨i0,hi,hz0,hz1,hz2⟩:=info_parts Tryz.infoU8;subst hm;refine wpList_append_own _ hgd s x 40 ho B 5 i0 (.int .u8 0) 1 1 Tryz.underlying40 hi hz0 hz1 hz2 rfl (by decide) v l.length (Lib.byteCells l) hs (World.ownsRow.alloc hown _)
  ⟨w0.heap.size,0,none⟩ l'.length c (Lib.byteCells l') hx (by simp[Lib.byteCells]) ?_ (Lib.byteCells_one _) (by unfold maxLen;omega) (by omega) (by simp;omega) ?_
 ·rw[←hc];exact World.news_of_block (heap_alloc_new w0 _)
 ·intro v' w' h1 h2 _;exact h v' w' (by unfold OwnB;rw[List.length_append,Lib.byteCells_append];exact h1) (hown.below hbase h2)
theorem zG3 {ops:Array Oper}{o:Oper}{a:Act}{K:Act→World→Prop}{Q:Exit→Act→World→Prop}{E:Prop}{w0:World}(hgd:o.guard=none) (s x:Operand)
  (ho:o.op=.call { callee:=.builtin .append,args:=#[s,x],argTypes:=#[40,40] }) (B:Nat) (v:Value) (l:List UInt8) (hs:a.eval s=v) (hown:OwnB w0 B v l)
  (l':List UInt8) (m c:Nat) (hm:l'.length=m) (hm0:0<m) (cells:Array Value) (hc:cells.toList=Lib.byteCells l') (hx:a.eval x=.slice (some ⟨w0.heap.size,0,none⟩) m c)
  (hbytes:l.length+m≤140737488355328) (hbase:B≤w0.heap.size)
  (h:∀ v' w',OwnB w' B v' (l++l')→Below B w0 w'→K (a.put o.dst v') w') :
  if Region.wanted o (yielded ops a.tmps)=true then Oper.wp Tryz.prog o a (w0.alloc (.cells cells 5)).drew K Q else E:=by
 obtain⟨i0,hi,hz0,hz1,hz2⟩:=info_parts Tryz.infoU8;subst hm;have ho1:(w0.alloc (.cells cells 5)).drew.ownsRow B 5 1 v l.length (Lib.byteCells l):=World.ownsRow.alloc hown _;refine step_append_lies _ hgd s x 40 ho B 5 i0 (.int .u8 0) 1 1 Tryz.underlying40 hi hz0 hz1 hz2 rfl (by decide) v l.length (Lib.byteCells l) hs ho1
  ⟨w0.heap.size,0,none⟩ l'.length c (Lib.byteCells l') hx (by simp[Lib.byteCells]) ?_ (Lib.byteCells_one _) hm0 (by unfold maxLen;omega) (by omega) (by simp;omega) _ rfl ?_
 ·rw[←hc];exact World.news_of_block (w:=(w0.alloc (.cells cells 5)).drew) (heap_alloc_new w0 _)
 ·intro g cap w' h1 h2 _ _;exact h _ w' (by unfold OwnB;rw[List.length_append,Lib.byteCells_append];exact h1)
   ((((Below.refl B w0).alloc hbase _).drew).grown h2 (by simp;omega) (fun j hj=>(hown.lt j hj).1))
theorem OwnB.lit (w:World) (B:Nat) (hB:B≤w.heap.size) (l:List UInt8) (cells:Array Value) (n:Nat) (hn:l.length=n) (hc:cells.toList=Lib.byteCells l) (hl:l.length≤maxLen) :
  OwnB (w.alloc (.cells cells 5)) B (.slice (some ⟨w.heap.size,0,none⟩) n n) l:=by
 subst hn;have hsz:cells.size=l.length:=by rw[←Array.length_toList,hc];simp[Lib.byteCells]
 exact⟨by simp[Lib.byteCells],.inr ⟨w.heap.size,l.length,cells,rfl,hB,heap_alloc_new w _,Nat.le_refl _,hl,by omega,by rw[hc];rw[List.take_of_length_le];simp[Lib.byteCells]⟩⟩
theorem OwnB.str {w:World}{B:Nat}{v:Value}{l:List UInt8}(h:OwnB w B v l):(convert 40 9 v).run Tryz.prog w=.ok (.string ⟨l.toArray⟩) w:=by
 obtain⟨hlen,⟨rfl,h0⟩|⟨g,cap,cur,rfl,hB,hg,hnc,hcm,hcs,htk⟩⟩:=h
 ·obtain rfl:l=[]:=List.eq_nil_of_length_eq_zero h0;exact run_convert_bytes_nil _ 40 5 Tryz.underlying40 Tryz.underlying5 0 0 9 Tryz.underlying9
 ·refine run_convert_bytes_back w 40 9 5 ⟨g,0,none⟩ cap l Tryz.underlying40 Tryz.underlying5 Tryz.underlying9 ?_;intro j hj;have hadd:(⟨g,0,none⟩:Addr).add j=⟨g,j,none⟩:=by unfold Addr.add;split<;>simp_all
  rw[hadd,cell_of_row w g j cur 5 (0,0) hg];have h1:=congrArg (fun x:List Value=>x[j]?) htk;simp only[Nat.mul_one,List.getElem?_take_of_lt hj]at h1;rw[←Array.getElem?_toList,h1];simp[Lib.byteCells,hj]
theorem zOa (c:UInt8) (h:((c.toNat:Int) / 16).toNat<16):(⟨#[48,49,50,51,52,53,54,55,56,57,97,98,99,100,101,102]⟩:ByteArray)[((c.toNat:Int) / 16).toNat]'h=hexD (c.toNat / 16):=by
 have e:((c.toNat:Int) / 16).toNat=c.toNat / 16:=by omega
 simp only[e];exact zGs _ _
theorem zN9 (c:UInt8) (h:((c.toNat:Int) % 16).toNat<16):(⟨#[48,49,50,51,52,53,54,55,56,57,97,98,99,100,101,102]⟩:ByteArray)[((c.toNat:Int) % 16).toNat]'h=hexD (c.toNat % 16):=by
 have e:((c.toNat:Int) % 16).toNat=c.toNat % 16:=by omega
 simp only[e];exact zGs _ _
theorem and15 (c:UInt8):bits BinOp.and IntKind.u8 (c.toNat:Int) 15=(c.toNat:Int) % 16:=by
 have:∀ n:Fin 256,bits BinOp.and IntKind.u8 (n.1:Int) 15=(n.1:Int) % 16:=by decide +kernel
 exact this ⟨c.toNat,c.toNat_lt⟩
theorem zF2 (s:ByteArray) (w:World) (hs:s.size≤35184372088830) :
  Calls Tryz.prog 38 #[.string s] w fun e w'=>e=.returned (.string ⟨(zAq s.data.toList).toArray⟩)∧Below w.heap.size w w':=by
 have hsz:s.data.toList.length=s.size:=by simp
 go_enter Tryz.func38,Tryz.ntmps38;go_wp2_with fail
 go_loopw [4,5,6] (fun v i _ wr=>∃ k:Nat,k≤s.size∧i=.int .i64 k∧OwnB wr w.heap.size v (34::(s.data.toList.take k).flatMap qByte)∧Below w.heap.size w wr) (fun _ i _ _=>s.size-(intOf i).toNat)
 case atStart=>exact⟨0,by omega,rfl,OwnB.lit w w.heap.size lR [34] #[.int .u8 34] 1 rfl rfl (by decide),bR.alloc lR _⟩
 case round=>
  obtain⟨k,hk,rfl,hB,hb⟩:=hrel;have hsr:=hb.size;have hl:=zB6 (s.data.toList.take k);have hl2:(s.data.toList.take k).length≤k:=List.length_take_le _ _;by_cases hlt:k<s.size
  ·have hq:=xI (zJu s k hlt);by_cases h1:((s[k]'hlt).toNat:Int)=34
   ·have hc:s[k]'hlt=34:=UInt8.toNat_inj.1 (by have:(34:UInt8).toNat=34:=rfl;omega);have hq2:=xI (show qByte (s[k]'hlt)=[92,34] by unfold qByte;rw[if_pos (.inl hc),hc]);clear hc;go_wp2_with (at_builtin;(refine zEm rfl _ _ rfl w.heap.size _ _ rfl hB [92,34] 2 2 rfl _ rfl rfl (by simp only[List.length_cons];omega) hsr ?_);intro v' w1 hown' hbl;refine Hid.out ?_);refine xI ?_;go_wp2
    go_roundw
    case rel=>exact⟨k+1,by omega,by go_num,by rw[hq.out,hq2.out];exact hown',hb.trans hbl⟩
    case measure=>simp[intOf];omega
   by_cases h2:((s[k]'hlt).toNat:Int)=92
   ·have hc:s[k]'hlt=92:=UInt8.toNat_inj.1 (by have:(92:UInt8).toNat=92:=rfl;omega);have hq2:=xI (show qByte (s[k]'hlt)=[92,92] by unfold qByte;rw[if_pos (.inr hc),hc]);clear hc;go_wp2_with (at_builtin;(refine zEm rfl _ _ rfl w.heap.size _ _ rfl hB [92,92] 2 2 rfl _ rfl rfl (by simp only[List.length_cons];omega) hsr ?_);intro v' w1 hown' hbl;refine Hid.out ?_);refine xI ?_;go_wp2
    go_roundw
    case rel=>exact⟨k+1,by omega,by go_num,by rw[hq.out,hq2.out];exact hown',hb.trans hbl⟩
    case measure=>simp[intOf];omega
   have h1':(((s[k]'hlt).toNat:Int)==34)=false:=by rw[beq_eq_false_iff_ne];exact h1
   have h2':(((s[k]'hlt).toNat:Int)==92)=false:=by rw[beq_eq_false_iff_ne];exact h2
   by_cases h3:(32:Int)≤(s[k]'hlt).toNat
   ·by_cases h4:((s[k]'hlt).toNat:Int)≤126
    ·have hq2:=xI (zC0 (by simp[zBp];omega) h1' h2');go_wp2_with (at_builtin;(refine zEm rfl _ _ rfl w.heap.size _ _ rfl hB [s[k]'hlt] 1 1 rfl _ rfl rfl (by simp only[List.length_cons];omega) hsr ?_);intro v' w1 hown' hbl;refine Hid.out ?_);refine xI ?_;go_wp2
     go_roundw
     case rel=>exact⟨k+1,by omega,by go_num,by rw[hq.out,hq2.out];exact hown',hb.trans hbl⟩
     case measure=>simp[intOf];omega
    ·have hq2:=xI (zEy (by simp[zBp];omega) h1' h2');have d1:0≤((s[k]'hlt).toNat:Int) / 16∧((s[k]'hlt).toNat:Int) / 16<16:=by have:=(s[k]'hlt).toNat_lt;omega
     have d2:0≤((s[k]'hlt).toNat:Int) % 16∧((s[k]'hlt).toNat:Int) % 16<16:=by omega
     have d3:=and15 (s[k]'hlt);go_wp2_with fail
     go_region_law (first|(refine zG3 rfl _ _ rfl w.heap.size _ _ rfl hB [92,120,hexD ((s[k]'hlt).toNat / 16),hexD ((s[k]'hlt).toNat % 16)] 4 4 rfl (by decide) _ (by simp only[zOa,zN9,Lib.byteCells,List.map];rfl) rfl (by simp only[List.length_cons];omega) hsr ?_;intro v' w1 hown' hbl)|fail)
     all_goals
      go_wp2
      go_roundw
      case rel=>exact⟨k+1,by omega,by go_num,by rw[hq.out,hq2.out];exact hown',hb.trans hbl⟩
      case measure=>simp[intOf];omega
   ·have hq2:=xI (zEy (by simp[zBp];omega) h1' h2');have hc:=(s[k]'hlt).toNat_lt;have d1:0≤((s[k]'hlt).toNat:Int) / 16∧((s[k]'hlt).toNat:Int) / 16<16:=by have:=(s[k]'hlt).toNat_lt;omega
    have d2:0≤((s[k]'hlt).toNat:Int) % 16∧((s[k]'hlt).toNat:Int) % 16<16:=by omega
    have d3:=and15 (s[k]'hlt);go_wp2_with fail
    go_region_law (first|(refine zG3 rfl _ _ rfl w.heap.size _ _ rfl hB [92,120,hexD ((s[k]'hlt).toNat / 16),hexD ((s[k]'hlt).toNat % 16)] 4 4 rfl (by decide) _ (by simp only[zOa,zN9,Lib.byteCells,List.map];rfl) rfl (by simp only[List.length_cons];omega) hsr ?_;intro v' w1 hown' hbl)|fail)
    all_goals
     go_wp2
     go_roundw
     case rel=>exact⟨k+1,by omega,by go_num,by rw[hq.out,hq2.out];exact hown',hb.trans hbl⟩
     case measure=>simp[intOf];omega
  ·have hke:k=s.size:=by omega
   have hq:=xI (show s.data.toList.take k=s.data.toList from List.take_of_length_le (by omega));go_wp2_with (at_builtin;(refine zEm rfl _ _ rfl w.heap.size _ _ rfl hB [34] 1 1 rfl _ rfl rfl (by simp only[List.length_cons];omega) hsr ?_);intro v' w1 hown' hbl;refine Hid.out ?_);refine xI ?_;rw[hq.out]at hown';have hstr:=hown'.str;go_wp2;go_ret;exact⟨rfl,hb.trans hbl⟩
end Go.Proofs.YtcjgaohblaidjaaGreatDoor
