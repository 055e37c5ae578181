/- The comparison of what stands before the last kid of two values. -/
import Derived.Test.YtcjgaohblaidjaaGreatDoorVgZ
import Derived.Test.YtcjgaohblaidjaaGreatDoorVg00
import Derived.Test.YtcjgaohblaidjaaGreatDoorVg01
import Derived.Test.YtcjgaohblaidjaaGreatDoorVg02
import Derived.Test.YtcjgaohblaidjaaGreatDoorVg03
import Derived.Deep.LoopGhost
import Derived.Deep.CutRange
import Derived.RangeFuncNested
import Derived.RangeFuncBound
import Derived.RangeFuncCalls
import Derived.RangeFuncLeaves
import Derived.RangeFuncBox
import Derived.Shelf.Abstract
import Derived.Shelf.RegionOpen
import Derived.OwnWalkIn
import Derived.TacticsInMore
import Derived.RegionIn
import Derived.LoopNIn
import Derived.LoopIn
import Derived.Test.YtcjgaohblaidjaaGreatDoorRows
import Derived.ProofKit
import Derived.OpenShut
import Derived.ShutString
import Derived.SliceStrings
import Derived.Deep.DeepHandedRow
import Derived.Deep.Slices
import Derived.Lib.SmallJoins
set_option maxRecDepth 100000
set_option maxHeartbeats 6400000
namespace Go.Proofs.YtcjgaohblaidjaaGreatDoor
open Go Go.RowKit
def zGc:Vl→Vl→Int
 | .mk kd it tx kids keys _ _,.mk kd' it' tx' kids' keys' _ _=>
  thn (thn (cmpI kd kd') (thn (cmpI it it') (cmpT tx tx'))) (thn (thn (cmpI keys.length keys'.length) (cmpL cmpK keys keys')) (thn (cmpI kids.length kids'.length) (cmpL cmpV (kids.take (kids.length-1)) (kids'.take (kids.length-1)))))
def tailV:Vl→Vl→Int
 | .mk _ _ _ _ _ ents labs,.mk _ _ _ _ _ ents' labs'=>thn (thn (cmpI ents.length ents'.length) (cmpL cmpE ents ents')) (thn (cmpI labs.length labs'.length) (cmpL cmpT labs labs'))
def kidsV:Vl→List Vl
 | .mk _ _ _ kids _ _ _=>kids
def Vl.kd':Vl→Int
 | .mk kd _ _ _ _ _ _=>kd
def Vl.it':Vl→Int
 | .mk _ it _ _ _ _ _=>it
def Vl.tx':Vl→List UInt8
 | .mk _ _ tx _ _ _ _=>tx
def Vl.keys':Vl→List (Int×List UInt8)
 | .mk _ _ _ _ keys _ _=>keys
theorem zBo (b:Int):thn 0 b=b:=rfl
theorem zKb {α:Type}{c:α→α→Int}{l m:List α}{n:Nat}{x y:α}(hl:l.length=n+1) (hm:m.length=n+1) (hx:l[n]?=some x) (hy:m[n]?=some y):cmpL c l m=thn (cmpL c (l.take n) (m.take n)) (c x y):=by
 have e1:l=l.take n++[x]:=by
  have:l.take (n+1)=l.take n++[x]:=by rw[List.take_add_one,hx];rfl
  rw[←this,List.take_of_length_le (by omega)]
 have e2:m=m.take n++[y]:=by
  have:m.take (n+1)=m.take n++[y]:=by rw[List.take_add_one,hy];rfl
  rw[←this,List.take_of_length_le (by omega)]
 have h:=zGv (c:=c) (p:=l.take n) (q:=m.take n) [x] [y] (by rw[List.length_take,List.length_take];omega);rw[←e1,←e2]at h;rw[h];simp only[cmpL,zA8]
theorem zIe (a b:Vl):cmpV a b=thn (thn (cmpI (a.kd') (b.kd')) (thn (cmpI a.it' b.it') (cmpT a.tx' b.tx'))) (thn (thn (cmpI a.keys'.length b.keys'.length) (cmpL cmpK a.keys' b.keys')) (thn (cmpI (kidsV a).length (kidsV b).length) (thn (cmpL cmpV (kidsV a) (kidsV b)) (tailV a b)))):=by
 obtain⟨kd,it,tx,kids,keys,ents,labs⟩:=a;obtain⟨kd',it',tx',kids',keys',ents',labs'⟩:=b;simp only[cmpV,zLf,zLh,zA9,tailV,kidsV,Vl.kd',Vl.it',Vl.tx',Vl.keys']
theorem zGb (a b:Vl):zGc a b=thn (thn (cmpI (a.kd') (b.kd')) (thn (cmpI a.it' b.it') (cmpT a.tx' b.tx'))) (thn (thn (cmpI a.keys'.length b.keys'.length) (cmpL cmpK a.keys' b.keys')) (thn (cmpI (kidsV a).length (kidsV b).length) (cmpL cmpV ((kidsV a).take ((kidsV a).length-1)) ((kidsV b).take ((kidsV a).length-1))))):=by
 obtain⟨kd,it,tx,kids,keys,ents,labs⟩:=a;obtain⟨kd',it',tx',kids',keys',ents',labs'⟩:=b;rfl
theorem zHr {a b:Vl}(h:zGc a b=0):(kidsV a).length=(kidsV b).length∧(kidsV a=[]→cmpV a b=tailV a b)∧∀ n x y,(kidsV a).length=n+1→(kidsV a)[n]?=some x→(kidsV b)[n]?=some y→cmpV a b=thn (cmpV x y) (tailV a b):=by
 rw[zGb]at h;obtain⟨h1,h⟩:=zBt.1 h;obtain⟨h2,h⟩:=zBt.1 h;obtain⟨h3,h4⟩:=zBt.1 h;have hlen:(kidsV a).length=(kidsV b).length:=by have:=zAf.1 h3;omega
 rw[zIe,h1,h2,h3];simp only[zBo];refine⟨hlen,fun hn=>?_,fun n x y hn hx hy=>?_⟩
 ·rw[hn];simp only[cmpL,zBo]
 ·rw[zKb hn (by omega) hx hy];rw[hn]at h4;simp only[Nat.add_sub_cancel]at h4;rw[h4];simp only[zBo]
theorem zI4 {a b:Vl}(h:zGc a b≠0):cmpV a b=zGc a b:=by
 rw[zGb]at h ⊢;rw[zIe];by_cases h1:thn (cmpI (a.kd') (b.kd')) (thn (cmpI a.it' b.it') (cmpT a.tx' b.tx'))=0
 ·rw[h1]at h ⊢;simp only[zBo]at h ⊢;by_cases h2:thn (cmpI a.keys'.length b.keys'.length) (cmpL cmpK a.keys' b.keys')=0
  ·rw[h2]at h ⊢;simp only[zBo]at h ⊢;by_cases h3:cmpI (kidsV a).length (kidsV b).length=0
   ·rw[h3]at h ⊢;simp only[zBo]at h ⊢;have hlen:(kidsV a).length=(kidsV b).length:=by have:=zAf.1 h3;omega
    cases hn:(kidsV a).length with
    | zero=>rw[hn]at h;exact absurd (by simp[cmpL]) h
    | succ n=>
     rw[hn]at h;simp only[Nat.add_sub_cancel]at h ⊢;have hx:(kidsV a)[n]?=some (kidsV a)[n]:=List.getElem?_eq_getElem (by omega);have hy:(kidsV b)[n]?=some (kidsV b)[n]:=List.getElem?_eq_getElem (by omega);rw[zKb hn (by omega) hx hy,zA9,zAz h]
   ·rw[zAz h3,zAz h3]
  ·rw[zAz h2,zAz h2]
 ·rw[zAz h1,zAz h1]
theorem zGl {k:Nat}{w V:World}{A:Option Addr}{c:Nat}{l:List Vl}(hV:Below w.heap.size w V) (h:RowP w w.heap.size 7 (.slice A l.length c) l.length (fun j cs=>∃ x,l[j]?=some x∧VS k w w.heap.size x cs)):RowP V V.heap.size 7 (.slice A l.length c) l.length (fun j cs=>∃ x,l[j]?=some x∧VS k V V.heap.size x cs):=
 (h.on hV fun _ _ ⟨x,h1,h2⟩=>⟨x,h1,VS.up hV.size lR (VS.on hV h2)⟩).mono hV.size fun _ _ h=>h
theorem zFk {k:Nat}{w:World}{A:Option Addr}{c n p:Nat}{l:List Vl}(h:RowP w w.heap.size 7 (.slice A n c) n (fun j cs=>∃ x,l[j]?=some x∧VS k w w.heap.size x cs)) (hp:p≤n):RowP w w.heap.size 7 (.slice A p c) p (fun j cs=>∃ x,(l.take p)[j]?=some x∧VS k w w.heap.size x cs):=
 RowB.sub (RowB.take h hp c) (fun _ h=>h) (fun _ _ ⟨hq,z,hz,hv⟩=>⟨z,by rw[List.getElem?_take_of_lt hq];exact hz,hv⟩)
theorem zOb (k:Nat) (IH:Hid (∀ (a b:Vl) (ca cb:List Value) (w:World),VS k w w.heap.size a ca→VS k w w.heap.size b cb→Calls Tryz.prog 170 #[.agg ca.toArray,.agg cb.toArray] w fun e w'=>e=.returned (.int .i64 (cmpV a b))∧Below w.heap.size w w')) (a b:Vl) (ca cb:List Value) (w:World) (h:VS (k+1) w w.heap.size a ca) (h':VS (k+1) w w.heap.size b cb) :
  Calls Tryz.prog 181 #[.agg ca.toArray,.agg cb.toArray] w fun e w'=>e=.returned (.int .i64 (zGc a b))∧Below w.heap.size w w':=by
 obtain⟨kd,it,tx,kids,keys,ents,labs⟩:=a;obtain⟨kd',it',tx',kids',keys',ents',labs'⟩:=b;obtain⟨uk,uy,ue,ul,rfl,_,_,_,hk,hy,he,hl⟩:=h;obtain⟨uk',uy',ue',ul',rfl,_,_,_,hk',hy',he',hl'⟩:=h';obtain⟨A,c,rfl,hkl⟩:=hk.form;have HKL:=xI hkl;clear hkl;obtain⟨A',c',rfl,_⟩:=hk'.form;obtain⟨Y,cy,rfl,_⟩:=hy.form;obtain⟨Y',cy',rfl,_⟩:=hy'.form;obtain⟨E,ce,rfl,_⟩:=he.form;obtain⟨E',ce',rfl,_⟩:=he'.form;obtain⟨L,cl,rfl,_⟩:=hl.form;obtain⟨L',cl',rfl,_⟩:=hl'.form;have HCP:=xI (aN hk.cap hk'.cap);obtain⟨W,hW⟩:∃ W,W=(w.alloc (.cells #[.int .i64 kd,.int .i64 it,.string ⟨tx.toArray⟩,.slice A kids.length c,.slice Y keys.length cy,.slice E ents.length ce,.slice L labs.length cl] 27)).alloc (.cells #[.int .i64 kd',.int .i64 it',.string ⟨tx'.toArray⟩,.slice A' kids'.length c',.slice Y' keys'.length cy',.slice E' ents'.length ce',.slice L' labs'.length cl'] 27):=⟨_,rfl⟩;have hb:Below w.heap.size w W:=by rw[hW];exact (bR.alloc lR _).alloc (by simp) _
 have hz:W.heap.size=w.heap.size+2:=by rw[hW];simp
 have k1:W.heap[w.heap.size]?=some (.cells #[.int .i64 kd,.int .i64 it,.string ⟨tx.toArray⟩,.slice A kids.length c,.slice Y keys.length cy,.slice E ents.length ce,.slice L labs.length cl] 27 (0,0)):=by
  rw[hW,Below.heap_alloc _ _ _ (by simp)];exact heap_alloc_new w _
 have k2:W.heap[w.heap.size+1]?=some (.cells #[.int .i64 kd',.int .i64 it',.string ⟨tx'.toArray⟩,.slice A' kids'.length c',.slice Y' keys'.length cy',.slice E' ents'.length ce',.slice L' labs'.length cl'] 27 (0,0)):=by
  rw[hW];exact zB2 _ (by simp)
 have hC0:=zNc kd it tx A Y E L kids.length c keys.length cy ents.length ce labs.length cl kd' it' tx' A' Y' E' L' kids'.length c' keys'.length cy' ents'.length ce' labs'.length cl' W;have HY:Hid (∀ V,Below w.heap.size w V→Calls Tryz.prog 190 #[.slice Y keys.length cy,.slice Y' keys'.length cy',.func (.func 145) #[] #[]] V fun e w'=>e=.returned (.int .i64 (thn (cmpI keys.length keys'.length) (cmpL cmpK keys keys')))∧Below V.heap.size V w'):=xI fun V hV=>zR0 Y Y' cy cy' keys keys' V ((hy.on hV fun _ _ h=>h).mono hV.size fun _ _ h=>h) ((hy'.on hV fun _ _ h=>h).mono hV.size fun _ _ h=>h);have HN:Hid (∀ V,Calls Tryz.prog 167 #[.int .i64 (kids.length:Int),.int .i64 (kids'.length:Int)] V fun e w'=>e=.returned (.int .i64 (cmpI kids.length kids'.length))∧w'=V):=xI fun V=>zBb kids.length kids'.length V;have HK:Hid (∀ m,kids.length=m+1→kids.length=kids'.length→∀ V,Below w.heap.size w V→Calls Tryz.prog 180 #[.slice A m c,.slice A' m c',.func (.func 170) #[] #[]] V fun e w'=>e=.returned (.int .i64 (cmpL cmpV (kids.take m) (kids'.take m)))∧Below V.heap.size V w'):=xI fun m hm hm' V hV=>by
  have e1:(kids.take m).length=m:=by rw[List.length_take];omega
  have e2:(kids'.take m).length=m:=by rw[List.length_take];omega
  have hh:=cmpf7 k IH A A' c c' (kids.take m) (kids'.take m) V;rw[e1,e2]at hh;exact hh (zFk (zGl hV hk) (by omega)) (zFk (zGl hV hk') (by omega)) rfl
 clear hk hk' hy hy' he he' hl hl';have HT:Hid (zGc (.mk kd it tx kids keys ents labs) (.mk kd' it' tx' kids' keys' ents' labs')=thn (thn (cmpI kd kd') (thn (cmpI it it') (cmpT tx tx'))) (thn (thn (cmpI keys.length keys'.length) (cmpL cmpK keys keys')) (thn (cmpI kids.length kids'.length) (cmpL cmpV (kids.take (kids.length-1)) (kids'.take (kids.length-1)))))):=xI rfl;have HL:Hid (cmpI kids.length kids'.length=0→kids.length=kids'.length):=xI fun h=>by have:=zAf.1 h;omega
 generalize thn (cmpI kd kd') (thn (cmpI it it') (cmpT tx tx'))=z0 at hC0 HT;generalize thn (cmpI (keys.length:Int) (keys'.length:Int)) (cmpL cmpK keys keys')=z1 at HY HT;generalize cmpI (kids.length:Int) (kids'.length:Int)=z2 at HN HT HL;have HB:=xI hb;have K1:=xI k1;have K2:=xI k2;obtain⟨q0,q1,q2,q3,q4,q5,q6⟩:=zAd k1;obtain⟨r0,r1,r2,r3,r4,r5,r6⟩:=zAd k2;clear hb k1 k2;generalize zGc (.mk kd it tx kids keys ents labs) (.mk kd' it' tx' kids' keys' ents' labs')=y at HT ⊢;generalize hnk:kids.length=n at *;generalize hnk':kids'.length=n' at *;have HNK:=xI (aN hnk hnk');clear hnk hnk';go_enter Tryz.func181,Tryz.ntmps181;go_wp2_with fail;rw[←hW];clear hW;go_wp2_with (go_at_call 189;refine hC0.mono ?_;rintro e w1 ⟨rfl,hb1⟩;refine Hid.out ?_);refine xI ?_;have HB1:=xI (HB.out.trans (hb1.mono HB.out.size));have KA1:Hid (w1.heap[w.heap.size]?=some (.cells #[.int .i64 kd,.int .i64 it,.string ⟨tx.toArray⟩,.slice A n c,.slice Y keys.length cy,.slice E ents.length ce,.slice L labs.length cl] 27 (0,0))):=xI ((hb1.block _ (by omega)).trans K1.out);have KB1:Hid (w1.heap[w.heap.size+1]?=some (.cells #[.int .i64 kd',.int .i64 it',.string ⟨tx'.toArray⟩,.slice A' n' c',.slice Y' keys'.length cy',.slice E' ents'.length ce',.slice L' labs'.length cl'] 27 (0,0))):=xI ((hb1.block _ (by omega)).trans K2.out);have hz1:w.heap.size+2≤w1.heap.size:=by have:=hb1.size;omega
 clear hb1 hC0 q0 q1 q2 q3 q4 q5 q6 r0 r1 r2 r3 r4 r5 r6 hz;by_cases h0:z0=0
 case neg=>
  have hq:(z0 != 0)=true:=by rw[bne_iff_ne];exact h0
  have HU:Hid (y=z0):=xI (by rw[HT.out];exact zAz h0 _);clear h0;go_wp2;go_ret;exact⟨ret_i HU.out.symm,HB1.out⟩
 subst h0;have p4:w1.cell? ⟨w.heap.size,4,none⟩=some (.slice Y keys.length cy):=cH KA1.out 4;have s4:w1.cell? ⟨w.heap.size+1,4,none⟩=some (.slice Y' keys'.length cy'):=cH KB1.out 4;go_wp2_with (go_at_call 190;refine (HY.out _ HB1.out).mono ?_;rintro e w2 ⟨rfl,hb2⟩;refine Hid.out ?_);refine xI ?_;have HB2:=xI (HB1.out.trans (hb2.mono HB1.out.size));have KA2:Hid (w2.heap[w.heap.size]?=some (.cells #[.int .i64 kd,.int .i64 it,.string ⟨tx.toArray⟩,.slice A n c,.slice Y keys.length cy,.slice E ents.length ce,.slice L labs.length cl] 27 (0,0))):=xI ((hb2.block _ (by omega)).trans KA1.out);have KB2:Hid (w2.heap[w.heap.size+1]?=some (.cells #[.int .i64 kd',.int .i64 it',.string ⟨tx'.toArray⟩,.slice A' n' c',.slice Y' keys'.length cy',.slice E' ents'.length ce',.slice L' labs'.length cl'] 27 (0,0))):=xI ((hb2.block _ (by omega)).trans KB1.out);have hz2:w.heap.size+2≤w2.heap.size:=by have:=hb2.size;omega
 clear hb2 p4 s4 hz1;by_cases h1:z1=0
 case neg=>
  have hq:(z1 != 0)=true:=by rw[bne_iff_ne];exact h1
  have HU:Hid (y=z1):=xI (by rw[HT.out];exact zAz h1 _);clear h1;go_wp2;go_ret;exact⟨ret_i HU.out.symm,HB2.out⟩
 subst h1;have p3:w2.cell? ⟨w.heap.size,3,none⟩=some (.slice A n c):=cH KA2.out 3;have s3:w2.cell? ⟨w.heap.size+1,3,none⟩=some (.slice A' n' c'):=cH KB2.out 3;go_wp2_with (go_at_call 167;refine (HN.out _).mono ?_;rintro e w3 ⟨rfl,rfl⟩;refine Hid.out ?_);refine xI ?_;by_cases h2:z2=0
 case neg=>
  have hq:(z2 != 0)=true:=by rw[bne_iff_ne];exact h2
  have HU:Hid (y=z2):=xI (by rw[HT.out];exact zAz h2 _);clear h2;go_wp2;go_ret;exact⟨ret_i HU.out.symm,HB2.out⟩
 subst h2;have hnn:=HL.out rfl;by_cases hn0:n=0
 ·subst hn0;have hnb:(((0:Nat):Int)==0)=true:=rfl;have HU:Hid (y=0):=xI (by
   rw[HT.out];simp[cmpL,thn])
  clear hnn;go_wp2;go_ret;exact⟨ret_i HU.out.symm,HB2.out⟩
 ·obtain⟨m,hm⟩:∃ m,n=m+1:=⟨n-1,by omega⟩;have HU:Hid (y=cmpL cmpV (kids.take m) (kids'.take m)):=xI (by rw[HT.out,hm];rfl);have hnb:((n:Int)==0)=false:=by simp;omega
  have hcc:=HK.out m hm hnn _ HB2.out.drew;have hm1:m≤c:=by have:=HCP.out.1;omega
  have hm2:m≤c':=by have:=HCP.out.2;omega
  have hmm:(n:Int)-1=(m:Int):=by omega
  have hwm:wrap64 (m:Int)=(m:Int):=by have:=HKL.out;unfold wrap64;unfold maxLen at this;omega
  generalize cmpL cmpV (kids.take m) (kids'.take m)=x at HU hcc;subst hnn;clear hn0 hm;go_wp2_with fail;refine wp_region_held_drew (S:=fun V=>V.cell? ⟨w.heap.size,3,none⟩=some (.slice A n c)∧V.cell? ⟨w.heap.size+1,3,none⟩=some (.slice A' n c')) (by kernel_rfl) ⟨p3,s3⟩ (fun hHeld=>?_);refine tk 0 hHeld ?_
  try simp only[pK]
  iterate 7 (refine ts hHeld ?_;try simp only[pK])
  refine oO 8 fun K hK=>?_;go_simp;refine hcc.mono ?_;rintro e w4 ⟨rfl,hb4⟩;have HB4:=xI (HB2.out.drew.trans (hb4.mono HB2.out.drew.size));have hS4:w4.cell? ⟨w.heap.size,3,none⟩=some (.slice A n c)∧w4.cell? ⟨w.heap.size+1,3,none⟩=some (.slice A' n c'):=⟨(hb4.cell (p:=⟨_,3,none⟩) (by show w.heap.size<w3.heap.size;omega)).trans p3,(hb4.cell (p:=⟨_,3,none⟩) (by show w.heap.size+1<w3.heap.size;omega)).trans s3⟩;refine hK _ _ hS4 ?_
  try simp only[pK]
  refine tk 9 hS4 ?_
  try simp only[pK]
  refine (wD ?_) _;go_wp2;go_ret;exact⟨ret_i HU.out.symm,HB4.out⟩
theorem zNe (k:Nat) (IH:Hid (∀ (a b:Vl) (ca cb:List Value) (w:World),VS k w w.heap.size a ca→VS k w w.heap.size b cb→Calls Tryz.prog 170 #[.agg ca.toArray,.agg cb.toArray] w fun e w'=>e=.returned (.int .i64 (cmpV a b))∧Below w.heap.size w w')) (a b:Vl) (ca cb:List Value) (w:World) (h:VS (k+1) w w.heap.size a ca) (h':VS (k+1) w w.heap.size b cb) :
  Calls Tryz.prog 182 #[.agg ca.toArray,.agg cb.toArray] w fun e w'=>e=.returned (.int .i64 (tailV a b))∧Below w.heap.size w w':=by
 have hP:Hid (∀ (a b:En) (ca cb:List Value) (w:World),ES k w w.heap.size a ca→ES k w w.heap.size b cb→Calls Tryz.prog 150 #[.agg ca.toArray,.agg cb.toArray] w fun e w'=>e=.returned (.int .i64 (cmpE a b))∧Below w.heap.size w w'):=xI fun a b ca cb w h1 h2=>zL7 k IH a b ca cb w h1 h2;obtain⟨kd,it,tx,kids,keys,ents,labs⟩:=a;obtain⟨kd',it',tx',kids',keys',ents',labs'⟩:=b;obtain⟨uk,uy,ue,ul,rfl,_,_,_,hk,hy,he,hl⟩:=h;obtain⟨uk',uy',ue',ul',rfl,_,_,_,hk',hy',he',hl'⟩:=h';obtain⟨A,c,rfl,_⟩:=hk.form;obtain⟨A',c',rfl,_⟩:=hk'.form;obtain⟨Y,cy,rfl,_⟩:=hy.form;obtain⟨Y',cy',rfl,_⟩:=hy'.form;obtain⟨E,ce,rfl,_⟩:=he.form;obtain⟨E',ce',rfl,_⟩:=he'.form;obtain⟨L,cl,rfl,_⟩:=hl.form;obtain⟨L',cl',rfl,_⟩:=hl'.form;obtain⟨W,hW⟩:∃ W,W=(w.alloc (.cells #[.int .i64 kd,.int .i64 it,.string ⟨tx.toArray⟩,.slice A kids.length c,.slice Y keys.length cy,.slice E ents.length ce,.slice L labs.length cl] 27)).alloc (.cells #[.int .i64 kd',.int .i64 it',.string ⟨tx'.toArray⟩,.slice A' kids'.length c',.slice Y' keys'.length cy',.slice E' ents'.length ce',.slice L' labs'.length cl'] 27):=⟨_,rfl⟩;have hb:Below w.heap.size w W:=by rw[hW];exact (bR.alloc lR _).alloc (by simp) _
 have hz:W.heap.size=w.heap.size+2:=by rw[hW];simp
 have k1:W.heap[w.heap.size]?=some (.cells #[.int .i64 kd,.int .i64 it,.string ⟨tx.toArray⟩,.slice A kids.length c,.slice Y keys.length cy,.slice E ents.length ce,.slice L labs.length cl] 27 (0,0)):=by
  rw[hW,Below.heap_alloc _ _ _ (by simp)];exact heap_alloc_new w _
 have k2:W.heap[w.heap.size+1]?=some (.cells #[.int .i64 kd',.int .i64 it',.string ⟨tx'.toArray⟩,.slice A' kids'.length c',.slice Y' keys'.length cy',.slice E' ents'.length ce',.slice L' labs'.length cl'] 27 (0,0)):=by
  rw[hW];exact zB2 _ (by simp)
 have HE:Hid (∀ V,Below w.heap.size w V→Calls Tryz.prog 191 #[.slice E ents.length ce,.slice E' ents'.length ce',.func (.func 150) #[] #[]] V fun e w'=>e=.returned (.int .i64 (thn (cmpI ents.length ents'.length) (cmpL cmpE ents ents')))∧Below V.heap.size V w'):=xI fun V hV=>zRy k hP E E' ce ce' ents ents' V (zGu hV he) (zGu hV he');have HL:Hid (∀ V,Below w.heap.size w V→Calls Tryz.prog 192 #[.slice L labs.length cl,.slice L' labs'.length cl',.func (.func 112) #[] #[]] V fun e w'=>e=.returned (.int .i64 (thn (cmpI labs.length labs'.length) (cmpL cmpT labs labs')))∧Below V.heap.size V w'):=xI fun V hV=>zR1 L L' cl cl' labs labs' V ((hl.on hV fun _ _ h=>h).mono hV.size fun _ _ h=>h) ((hl'.on hV fun _ _ h=>h).mono hV.size fun _ _ h=>h);clear hk hk' hy hy' he he' hl hl' hP;have HT:Hid (tailV (.mk kd it tx kids keys ents labs) (.mk kd' it' tx' kids' keys' ents' labs')=thn (thn (cmpI ents.length ents'.length) (cmpL cmpE ents ents')) (thn (cmpI labs.length labs'.length) (cmpL cmpT labs labs'))):=xI rfl;generalize thn (cmpI (ents.length:Int) (ents'.length:Int)) (cmpL cmpE ents ents')=z3 at HE HT;generalize thn (cmpI (labs.length:Int) (labs'.length:Int)) (cmpL cmpT labs labs')=z4 at HL HT;generalize tailV (.mk kd it tx kids keys ents labs) (.mk kd' it' tx' kids' keys' ents' labs')=y at HT ⊢;have HB:=xI hb;have K1:=xI k1;have K2:=xI k2;have q5:W.cell? ⟨w.heap.size,5,none⟩=some (.slice E ents.length ce):=cH k1 5;have r5:W.cell? ⟨w.heap.size+1,5,none⟩=some (.slice E' ents'.length ce'):=cH k2 5;clear hb k1 k2;go_enter Tryz.func182,Tryz.ntmps182;go_wp2_with fail;rw[←hW];clear hW;go_wp2_with (go_at_call 191;refine (HE.out _ HB.out).mono ?_;rintro e w1 ⟨rfl,hb1⟩;refine Hid.out ?_);refine xI ?_;have HB1:=xI (HB.out.trans (hb1.mono HB.out.size));have KA1:Hid (w1.heap[w.heap.size]?=some (.cells #[.int .i64 kd,.int .i64 it,.string ⟨tx.toArray⟩,.slice A kids.length c,.slice Y keys.length cy,.slice E ents.length ce,.slice L labs.length cl] 27 (0,0))):=xI ((hb1.block _ (by omega)).trans K1.out);have KB1:Hid (w1.heap[w.heap.size+1]?=some (.cells #[.int .i64 kd',.int .i64 it',.string ⟨tx'.toArray⟩,.slice A' kids'.length c',.slice Y' keys'.length cy',.slice E' ents'.length ce',.slice L' labs'.length cl'] 27 (0,0))):=xI ((hb1.block _ (by omega)).trans K2.out);clear hb1 q5 r5 hz;by_cases h0:z3=0
 case neg=>
  have hq:(z3 != 0)=true:=by rw[bne_iff_ne];exact h0
  have HU:Hid (y=z3):=xI (by rw[HT.out];exact zAz h0 _);clear h0;go_wp2;go_ret;exact⟨ret_i HU.out.symm,HB1.out⟩
 subst h0;have HU:Hid (y=z4):=xI (by rw[HT.out];rfl);have p6:w1.cell? ⟨w.heap.size,6,none⟩=some (.slice L labs.length cl):=cH KA1.out 6;have s6:w1.cell? ⟨w.heap.size+1,6,none⟩=some (.slice L' labs'.length cl'):=cH KB1.out 6;go_wp2_with (go_at_call 192;refine (HL.out _ HB1.out).mono ?_;rintro e w2 ⟨rfl,hb2⟩;refine Hid.out ?_);refine xI ?_;go_wp2;go_ret;exact⟨ret_i HU.out.symm,HB1.out.trans (hb2.mono HB1.out.size)⟩
theorem share {G F:Prop}(h:F→G) (hF:F):G:=h hF
theorem zJ5 {k:Nat}{w:World}{H:Nat}{a:Vl}{t0 t1:Int}{t2:ByteArray}{E1:Option Addr}{n1 d1:Nat}{u4 u5 u6:Value}(h:VS (k+1) w H a [.int .i64 t0,.int .i64 t1,.string t2,.slice E1 n1 d1,u4,u5,u6]) :
  (kidsV a).length=n1∧n1≤maxLen∧RowP w H 7 (.slice E1 n1 d1) n1 (fun j cs=>∃ x,(kidsV a)[j]?=some x∧VS k w H x cs):=by
 obtain⟨kd,it,tx,kids,keys,ents,labs⟩:=a;obtain⟨uk,uy,ue,ul,hcs,_,_,_,hk,_,_,_⟩:=h;simp only[List.cons.injEq,and_true]at hcs;obtain⟨_,_,_,rfl,_,_,_⟩:=hcs;obtain⟨A,c,hf,hl⟩:=hk.form;injection hf with e1 e2 e3;subst e1 e2 e3;exact⟨rfl,hl,hk⟩
theorem zJ8 (w:World):w.drew.heap=w.heap:=rfl
theorem oth7 (w:World) (g b:Nat) (hb:b≠g) (v0 v1 v2 v3 v4 v5 v6:Value):(((((((w.setCell ⟨g,0,none⟩ v0).setCell ⟨g,1,none⟩ v1).setCell ⟨g,2,none⟩ v2).setCell ⟨g,3,none⟩ v3).setCell ⟨g,4,none⟩ v4).setCell ⟨g,5,none⟩ v5).setCell ⟨g,6,none⟩ v6).heap[b]?=w.heap[b]?:=
 (heap_setCell_other _ ⟨g,6,none⟩ b v6 hb).trans ((heap_setCell_other _ ⟨g,5,none⟩ b v5 hb).trans ((heap_setCell_other _ ⟨g,4,none⟩ b v4 hb).trans ((heap_setCell_other _ ⟨g,3,none⟩ b v3 hb).trans ((heap_setCell_other _ ⟨g,2,none⟩ b v2 hb).trans ((heap_setCell_other _ ⟨g,1,none⟩ b v1 hb).trans (heap_setCell_other _ ⟨g,0,none⟩ b v0 hb))))))
theorem bel7 {w V:World}{H g:Nat}(h:Below H w V) (v0 v1 v2 v3 v4 v5 v6:Value) (hg:H≤g:=by omega):Below H w (((((((V.setCell ⟨g,0,none⟩ v0).setCell ⟨g,1,none⟩ v1).setCell ⟨g,2,none⟩ v2).setCell ⟨g,3,none⟩ v3).setCell ⟨g,4,none⟩ v4).setCell ⟨g,5,none⟩ v5).setCell ⟨g,6,none⟩ v6):=
 Below.setCell (Below.setCell (Below.setCell (Below.setCell (Below.setCell (Below.setCell (Below.setCell h (p:=⟨g,0,none⟩) hg _) (p:=⟨g,1,none⟩) hg _) (p:=⟨g,2,none⟩) hg _) (p:=⟨g,3,none⟩) hg _) (p:=⟨g,4,none⟩) hg _) (p:=⟨g,5,none⟩) hg _) (p:=⟨g,6,none⟩) hg _
theorem zGd:∀ (k:Nat) (a b:Vl) (ca cb:List Value) (w:World),VS k w w.heap.size a ca→VS k w w.heap.size b cb→Calls Tryz.prog 170 #[.agg ca.toArray,.agg cb.toArray] w fun e w'=>e=.returned (.int .i64 (cmpV a b))∧Below w.heap.size w w':=by
 intro k
 induction k with
 | zero=>intro a b ca cb w h;exact h.elim
 | succ k ih=>
  intro a b ca cb w h h';have IH:=xI ih;clear ih;obtain⟨t0,t1,t2,E1,n1,d1,E2,n2,d2,E3,n3,d3,E4,n4,d4,rfl⟩:=h.form7;obtain⟨t0',t1',t2',E1',n1',d1',E2',n2',d2',E3',n3',d3',E4',n4',d4',rfl⟩:=h'.form7;obtain⟨W,hW⟩:∃ W,W=(w.alloc (.cells #[.int .i64 t0,.int .i64 t1,.string t2,.slice E1 n1 d1,.slice E2 n2 d2,.slice E3 n3 d3,.slice E4 n4 d4] 27)).alloc (.cells #[.int .i64 t0',.int .i64 t1',.string t2',.slice E1' n1' d1',.slice E2' n2' d2',.slice E3' n3' d3',.slice E4' n4' d4'] 27):=⟨_,rfl⟩;have hb:Below w.heap.size w W:=by rw[hW];exact (bR.alloc lR _).alloc (by simp) _
  have hz:W.heap.size=w.heap.size+2:=by rw[hW];simp
  have k1:W.heap[w.heap.size]?=some (.cells #[.int .i64 t0,.int .i64 t1,.string t2,.slice E1 n1 d1,.slice E2 n2 d2,.slice E3 n3 d3,.slice E4 n4 d4] 27 (0,0)):=by
   rw[hW,Below.heap_alloc _ _ _ (by simp)];exact heap_alloc_new w _
  have k2:W.heap[w.heap.size+1]?=some (.cells #[.int .i64 t0',.int .i64 t1',.string t2',.slice E1' n1' d1',.slice E2' n2' d2',.slice E3' n3' d3',.slice E4' n4' d4'] 27 (0,0)):=by
   rw[hW];exact zB2 _ (by simp)
  generalize hy:cmpV a b=y;have HB:=xI hb;go_enter Tryz.func170,Tryz.ntmps170;go_wp2_with fail;rw[←hW];clear hW
  go_loopg [5] (k+1) (fun q v wr=>∃ (bh:Int) (a b:Vl) (t0 t1:Int) (t2:ByteArray) (E1:Option Addr) (n1 d1:Nat) (E2:Option Addr) (n2 d2:Nat) (E3:Option Addr) (n3 d3:Nat) (E4:Option Addr) (n4 d4:Nat) (t0' t1':Int) (t2':ByteArray) (E1':Option Addr) (n1' d1':Nat) (E2':Option Addr) (n2' d2':Nat) (E3':Option Addr) (n3' d3':Nat) (E4':Option Addr) (n4' d4':Nat),v=.int .i64 bh∧q≤k+1∧wr.heap[w.heap.size]?=some (.cells #[.int .i64 t0,.int .i64 t1,.string t2,.slice E1 n1 d1,.slice E2 n2 d2,.slice E3 n3 d3,.slice E4 n4 d4] 27 (0,0))∧wr.heap[w.heap.size+1]?=some (.cells #[.int .i64 t0',.int .i64 t1',.string t2',.slice E1' n1' d1',.slice E2' n2' d2',.slice E3' n3' d3',.slice E4' n4' d4'] 27 (0,0))∧VS q w w.heap.size a [.int .i64 t0,.int .i64 t1,.string t2,.slice E1 n1 d1,.slice E2 n2 d2,.slice E3 n3 d3,.slice E4 n4 d4]∧VS q w w.heap.size b [.int .i64 t0',.int .i64 t1',.string t2',.slice E1' n1' d1',.slice E2' n2' d2',.slice E3' n3' d3',.slice E4' n4' d4']∧y=thn (cmpV a b) bh∧Below w.heap.size w wr∧w.heap.size+2≤wr.heap.size)
  case atStart=>exact⟨0,a,b,t0,t1,t2,E1,n1,d1,E2,n2,d2,E3,n3,d3,E4,n4,d4,t0',t1',t2',E1',n1',d1',E2',n2',d2',E3',n3',d3',E4',n4',d4',rfl,Nat.le_refl _,k1,k2,h,h',by rw[zA8];exact hy.symm,hb,by omega⟩
  case round=>
   clear hy h h' k1 k2 hb hz HB;obtain⟨bh,a,b,t0,t1,t2,E1,n1,d1,E2,n2,d2,E3,n3,d3,E4,n4,d4,t0',t1',t2',E1',n1',d1',E2',n2',d2',E3',n3',d3',E4',n4',d4',rfl,hq,k1,k2,h,h',hy,hb,hz⟩:=hrel;obtain⟨q,rfl⟩:∃ q,gk=q+1:=by
    cases gk with
    | zero=>exact h.elim
    | succ q=>exact⟨q,rfl⟩
   have hF:=zOb k IH a b _ _ wr (VS.up hb.size hq (VS.on hb h)) (VS.up hb.size hq (VS.on hb h'));have HG:Hid (∀ V,Below w.heap.size w V→Calls Tryz.prog 182 #[.agg #[.int .i64 t0,.int .i64 t1,.string t2,.slice E1 n1 d1,.slice E2 n2 d2,.slice E3 n3 d3,.slice E4 n4 d4],.agg #[.int .i64 t0',.int .i64 t1',.string t2',.slice E1' n1' d1',.slice E2' n2' d2',.slice E3' n3' d3',.slice E4' n4' d4']] V fun e w'=>e=.returned (.int .i64 (tailV a b))∧Below V.heap.size V w'):=xI fun V hV=>zNe k IH a b _ _ V (VS.up hV.size hq (VS.on hV h)) (VS.up hV.size hq (VS.on hV h'));have HV:=xI (aN h h');have HY:=xI hy;have HB:=xI hb;have HQ:=xI hq;have HFZ:=xI (@zHr a b);have HFN:=xI (@zI4 a b);generalize zGc a b=z0 at hF HFZ HFN;generalize tailV a b=z1 at HG HFZ;clear h h' hy hq;have K1:=xI k1;have K2:=xI k2;obtain⟨q0,q1,q2,q3,q4,q5,q6⟩:=zAd k1;obtain⟨r0,r1,r2,r3,r4,r5,r6⟩:=zAd k2;clear k1 k2 hb;go_wp2_with (go_at_call 181;refine hF.mono ?_;rintro e w1 ⟨rfl,hb1⟩;refine Hid.out ?_);refine xI ?_;have HB1:=xI (HB.out.trans (hb1.mono HB.out.size));have KA1:Hid (w1.heap[w.heap.size]?=some (.cells #[.int .i64 t0,.int .i64 t1,.string t2,.slice E1 n1 d1,.slice E2 n2 d2,.slice E3 n3 d3,.slice E4 n4 d4] 27 (0,0))):=xI ((hb1.block _ (by omega)).trans K1.out);have KB1:Hid (w1.heap[w.heap.size+1]?=some (.cells #[.int .i64 t0',.int .i64 t1',.string t2',.slice E1' n1' d1',.slice E2' n2' d2',.slice E3' n3' d3',.slice E4' n4' d4'] 27 (0,0))):=xI ((hb1.block _ (by omega)).trans K2.out);have hz1:w.heap.size+2≤w1.heap.size:=by have:=hb1.size;omega
   clear hb1 hF q0 q1 q2 q3 q4 q5 q6 r0 r1 r2 r3 r4 r5 r6 hz;by_cases h0:z0=0
   case neg=>
    have hq:(z0 != 0)=true:=by rw[bne_iff_ne];exact h0
    have HU:Hid (y=z0):=xI (by rw[HY.out,HFN.out h0];exact zAz h0 _);clear h0;go_wp2;go_ret;exact⟨ret_i HU.out.symm,HB1.out⟩
   subst h0;have q0:w1.cell? ⟨w.heap.size,0,none⟩=some (.int .i64 t0):=cH KA1.out 0;have q1:w1.cell? ⟨w.heap.size,1,none⟩=some (.int .i64 t1):=cH KA1.out 1;have q2:w1.cell? ⟨w.heap.size,2,none⟩=some (.string t2):=cH KA1.out 2;have q3:w1.cell? ⟨w.heap.size,3,none⟩=some (.slice E1 n1 d1):=cH KA1.out 3;have q4:w1.cell? ⟨w.heap.size,4,none⟩=some (.slice E2 n2 d2):=cH KA1.out 4;have q5:w1.cell? ⟨w.heap.size,5,none⟩=some (.slice E3 n3 d3):=cH KA1.out 5;have q6:w1.cell? ⟨w.heap.size,6,none⟩=some (.slice E4 n4 d4):=cH KA1.out 6;have r0:w1.cell? ⟨w.heap.size+1,0,none⟩=some (.int .i64 t0'):=cH KB1.out 0;have r1:w1.cell? ⟨w.heap.size+1,1,none⟩=some (.int .i64 t1'):=cH KB1.out 1;have r2:w1.cell? ⟨w.heap.size+1,2,none⟩=some (.string t2'):=cH KB1.out 2;have r3:w1.cell? ⟨w.heap.size+1,3,none⟩=some (.slice E1' n1' d1'):=cH KB1.out 3;have r4:w1.cell? ⟨w.heap.size+1,4,none⟩=some (.slice E2' n2' d2'):=cH KB1.out 4;have r5:w1.cell? ⟨w.heap.size+1,5,none⟩=some (.slice E3' n3' d3'):=cH KB1.out 5;have r6:w1.cell? ⟨w.heap.size+1,6,none⟩=some (.slice E4' n4' d4'):=cH KB1.out 6;go_wp2_with (go_at_call 182;refine (HG.out _ HB1.out).mono ?_;rintro e w2 ⟨rfl,hb2⟩;refine Hid.out ?_);refine xI ?_;have HB2:=xI (HB1.out.trans (hb2.mono HB1.out.size));have KA2:Hid (w2.heap[w.heap.size]?=some (.cells #[.int .i64 t0,.int .i64 t1,.string t2,.slice E1 n1 d1,.slice E2 n2 d2,.slice E3 n3 d3,.slice E4 n4 d4] 27 (0,0))):=xI ((hb2.block _ (by omega)).trans KA1.out);have KB2:Hid (w2.heap[w.heap.size+1]?=some (.cells #[.int .i64 t0',.int .i64 t1',.string t2',.slice E1' n1' d1',.slice E2' n2' d2',.slice E3' n3' d3',.slice E4' n4' d4'] 27 (0,0))):=xI ((hb2.block _ (by omega)).trans KB1.out);have hz2:w.heap.size+2≤w2.heap.size:=by have:=hb2.size;omega
   clear hb2 q0 q1 q2 q3 q4 q5 q6 r0 r1 r2 r3 r4 r5 r6 hz1;obtain⟨hnn,hF0,hF1⟩:=HFZ.out (by first|rfl|trivial)
   go_upto_if 19 with fail
   go_cut [5,7]from 9 to 37 (fun b5 _b7 wc=>∃ bv:Int,b5=.int .i64 bv∧wc=w2∧bv=thn z1 bh)
   case first=>
    by_cases ht:z1=0
    ·have hq:(z1 != 0)=false:=by rw[bne_eq_false_iff_eq];exact ht
     have HT:=xI ht;clear ht;go_wp2_with fail
     go_meet
     exact⟨bh,rfl,rfl,by rw[HT.out];rfl⟩
    ·have hq:(z1 != 0)=true:=by rw[bne_iff_ne];exact ht
     have HT:=xI ht;clear ht;go_wp2_with fail
     go_meet
     exact⟨z1,rfl,rfl,(zAz HT.out _).symm⟩
   case rest=>
    obtain⟨bv,rfl,hwc,hbv⟩:=hcut;have hwc2:=hwc.symm;subst hwc2;have HBV:=xI hbv;clear hbv;obtain⟨hlA,hmA,hrA⟩:=zJ5 HV.out.1;obtain⟨hlB,hmB,hrB⟩:=zJ5 HV.out.2;have hn12:n1'=n1:=by omega
    subst hn12;by_cases hn0:n1'=0
    ·subst hn0;have hk0:kidsV a=[]:=List.eq_nil_of_length_eq_zero hlA;have HZ:Hid (y=bv):=xI (by rw[HY.out,hF0 hk0,HBV.out]);have hz0:wrap64 (-1)=-1:=by unfold wrap64;omega
     clear hlA hmA hrA hlB hmB hrB hF0 hF1 hk0 hnn;have q3:w2.cell? ⟨w.heap.size,3,none⟩=some (.slice E1 (0:Nat) d1):=cH KA2.out 3;go_wp2;go_ret;exact⟨ret_i HZ.out.symm,HB2.out⟩
    ·obtain⟨m,hm⟩:∃ m,n1'=m+1:=⟨n1'-1,by omega⟩;obtain⟨bx,ox,_,x0,x1,x2,x3,x4,x5,x6,hux,hbx,⟨x,hx,hvx⟩,c0,c1,c2,c3,c4,c5,c6⟩:=RowB.at7 (j:=m) hrA (by omega);obtain⟨by',oy,_,y0,y1,y2,y3,y4,y5,y6,huy,hby,⟨x',hx',hvx'⟩,d0,d1',d2',d3',d4',d5',d6'⟩:=RowB.at7 (j:=m) hrB (by omega);injection hux with e1 _ _;subst e1;injection huy with e1 _ _;subst e1;obtain⟨a0,a1,a2,P1,e1,f1,P2,e2,f2,P3,e3,f3,P4,e4,f4,hfx⟩:=hvx.form7;simp only[List.cons.injEq,and_true]at hfx;obtain⟨rfl,rfl,rfl,rfl,rfl,rfl,rfl⟩:=hfx;obtain⟨b0,b1,b2,Q1,g1,h1,Q2,g2,h2,Q3,g3,h3,Q4,g4,h4,hfx⟩:=hvx'.form7;simp only[List.cons.injEq,and_true]at hfx;obtain⟨rfl,rfl,rfl,rfl,rfl,rfl,rfl⟩:=hfx;have HX:Hid (∀ V,Below w.heap.size w V→V.cell? ⟨bx,ox+m*7,none⟩=some (.int .i64 a0)∧V.cell? ⟨bx,ox+m*7+1,none⟩=some (.int .i64 a1)∧V.cell? ⟨bx,ox+m*7+2,none⟩=some (.string a2)∧V.cell? ⟨bx,ox+m*7+3,none⟩=some (.slice P1 e1 f1)∧V.cell? ⟨bx,ox+m*7+4,none⟩=some (.slice P2 e2 f2)∧V.cell? ⟨bx,ox+m*7+5,none⟩=some (.slice P3 e3 f3)∧V.cell? ⟨bx,ox+m*7+6,none⟩=some (.slice P4 e4 f4)∧V.cell? ⟨by',oy+m*7,none⟩=some (.int .i64 b0)∧V.cell? ⟨by',oy+m*7+1,none⟩=some (.int .i64 b1)∧V.cell? ⟨by',oy+m*7+2,none⟩=some (.string b2)∧V.cell? ⟨by',oy+m*7+3,none⟩=some (.slice Q1 g1 h1)∧V.cell? ⟨by',oy+m*7+4,none⟩=some (.slice Q2 g2 h2)∧V.cell? ⟨by',oy+m*7+5,none⟩=some (.slice Q3 g3 h3)∧V.cell? ⟨by',oy+m*7+6,none⟩=some (.slice Q4 g4 h4)):=xI fun V hV=>⟨(hV.cell (p:=⟨bx,_,none⟩) hbx).trans c0,(hV.cell (p:=⟨bx,_,none⟩) hbx).trans c1,(hV.cell (p:=⟨bx,_,none⟩) hbx).trans c2,(hV.cell (p:=⟨bx,_,none⟩) hbx).trans c3,(hV.cell (p:=⟨bx,_,none⟩) hbx).trans c4,(hV.cell (p:=⟨bx,_,none⟩) hbx).trans c5,(hV.cell (p:=⟨bx,_,none⟩) hbx).trans c6,(hV.cell (p:=⟨by',_,none⟩) hby).trans d0,(hV.cell (p:=⟨by',_,none⟩) hby).trans d1',(hV.cell (p:=⟨by',_,none⟩) hby).trans d2',(hV.cell (p:=⟨by',_,none⟩) hby).trans d3',(hV.cell (p:=⟨by',_,none⟩) hby).trans d4',(hV.cell (p:=⟨by',_,none⟩) hby).trans d5',(hV.cell (p:=⟨by',_,none⟩) hby).trans d6'⟩;have HVX:=xI (aN hvx hvx');have HZ:Hid (y=thn (cmpV x x') bv):=xI (by rw[HY.out,hF1 m x x' (hlA.trans hm) hx hx',zA9,HBV.out]);have hmm:(n1':Int)-1=(m:Int):=by omega
     have hm1:(m:Int)<(n1':Int):=by omega
     have hm2:decide ((m:Int)<0)=false:=by simp
     have hwm:wrap64 (m:Int)=(m:Int):=by unfold wrap64;unfold maxLen at hmA;omega
     clear hn0 hm hlA hmA hrA hlB hmB hrB hF0 hF1 hnn hbx hby hvx hvx' hx hx' c0 c1 c2 c3 c4 c5 c6 d0 d1' d2' d3' d4' d5' d6';have hX:=HX.out _ HB2.out.drew;have k1:=KA2.out;have k2:=KB2.out;obtain⟨q0,q1,q2,q3,q4,q5,q6⟩:=zAd k1;obtain⟨zq0,zq1,zq2,zq3,zq4,zq5,zq6⟩:=zAe k1;have r3:w2.cell? ⟨w.heap.size+1,3,none⟩=some (.slice (some ⟨by',oy,none⟩) n1' d1'):=cH k2 3;obtain⟨V1,hV1⟩:∃ V,V=(((((((w2.setCell ⟨w.heap.size,0,none⟩ (.int .i64 a0)).setCell ⟨w.heap.size,1,none⟩ (.int .i64 a1)).setCell ⟨w.heap.size,2,none⟩ (.string a2)).setCell ⟨w.heap.size,3,none⟩ (.slice P1 e1 f1)).setCell ⟨w.heap.size,4,none⟩ (.slice P2 e2 f2)).setCell ⟨w.heap.size,5,none⟩ (.slice P3 e3 f3)).setCell ⟨w.heap.size,6,none⟩ (.slice P4 e4 f4)).drew:=⟨_,rfl⟩;have ho1:V1.heap[w.heap.size]?=some (.cells #[.int .i64 a0,.int .i64 a1,.string a2,.slice P1 e1 f1,.slice P2 e2 f2,.slice P3 e3 f3,.slice P4 e4 f4] 27 (0,0)):=by rw[hV1,zJ8];exact obj7 k1 (.int .i64 a0) (.int .i64 a1) (.string a2) (.slice P1 e1 f1) (.slice P2 e2 f2) (.slice P3 e3 f3) (.slice P4 e4 f4)
     have ho2:V1.heap[w.heap.size+1]?=some (.cells #[.int .i64 t0',.int .i64 t1',.string t2',.slice (some ⟨by',oy,none⟩) n1' d1',.slice E2' n2' d2',.slice E3' n3' d3',.slice E4' n4' d4'] 27 (0,0)):=by rw[hV1,zJ8];exact (oth7 w2 w.heap.size (w.heap.size+1) (by omega) (.int .i64 a0) (.int .i64 a1) (.string a2) (.slice P1 e1 f1) (.slice P2 e2 f2) (.slice P3 e3 f3) (.slice P4 e4 f4)).trans k2
     have hbV1:Below w.heap.size w V1:=by rw[hV1];exact (bel7 HB2.out (.int .i64 a0) (.int .i64 a1) (.string a2) (.slice P1 e1 f1) (.slice P2 e2 f2) (.slice P3 e3 f3) (.slice P4 e4 f4)).drew
     have hzV1:V1.heap.size=w2.heap.size:=by rw[hV1];simp
     obtain⟨V2,hV2⟩:∃ V,V=(((((((V1.setCell ⟨w.heap.size+1,0,none⟩ (.int .i64 b0)).setCell ⟨w.heap.size+1,1,none⟩ (.int .i64 b1)).setCell ⟨w.heap.size+1,2,none⟩ (.string b2)).setCell ⟨w.heap.size+1,3,none⟩ (.slice Q1 g1 h1)).setCell ⟨w.heap.size+1,4,none⟩ (.slice Q2 g2 h2)).setCell ⟨w.heap.size+1,5,none⟩ (.slice Q3 g3 h3)).setCell ⟨w.heap.size+1,6,none⟩ (.slice Q4 g4 h4)):=⟨_,rfl⟩;have ho4:V2.heap[w.heap.size+1]?=some (.cells #[.int .i64 b0,.int .i64 b1,.string b2,.slice Q1 g1 h1,.slice Q2 g2 h2,.slice Q3 g3 h3,.slice Q4 g4 h4] 27 (0,0)):=by rw[hV2];exact obj7 ho2 (.int .i64 b0) (.int .i64 b1) (.string b2) (.slice Q1 g1 h1) (.slice Q2 g2 h2) (.slice Q3 g3 h3) (.slice Q4 g4 h4)
     have ho3:V2.heap[w.heap.size]?=some (.cells #[.int .i64 a0,.int .i64 a1,.string a2,.slice P1 e1 f1,.slice P2 e2 f2,.slice P3 e3 f3,.slice P4 e4 f4] 27 (0,0)):=by rw[hV2];exact (oth7 V1 (w.heap.size+1) w.heap.size (by omega) (.int .i64 b0) (.int .i64 b1) (.string b2) (.slice Q1 g1 h1) (.slice Q2 g2 h2) (.slice Q3 g3 h3) (.slice Q4 g4 h4)).trans ho1
     have hbV2:Below w.heap.size w V2:=by rw[hV2];exact bel7 (H:=w.heap.size) (g:=w.heap.size+1) (hg:=by omega) hbV1 (.int .i64 b0) (.int .i64 b1) (.string b2) (.slice Q1 g1 h1) (.slice Q2 g2 h2) (.slice Q3 g3 h3) (.slice Q4 g4 h4)
     have hzV2:w.heap.size+2≤V2.heap.size:=by have h9:V2.heap.size=w2.heap.size:=(by rw[hV2,←hzV1];simp);omega
     obtain⟨s0,s1,s2,s3,s4,s5,s6⟩:=zAd ho2;obtain⟨zs0,zs1,zs2,zs3,zs4,zs5,zs6⟩:=zAe ho2;have hX1:=HX.out V1 hbV1;have hX2:=HX.out V2 hbV2;have HFI:=xI (aN ho3 (aN ho4 (aN hbV2 hzV2)));have HV1:=xI hV1;have HV2:=xI hV2;clear hV1 hV2 ho1 ho2 ho3 ho4 hbV1 hbV2 hzV1 hzV2 k1 k2 hz2;go_wp2_with fail;apply share
     case h=>
      intro hfin;refine wp_region_held_drew (S:=fun V=>V.cell? ⟨bx,ox+m*7,none⟩=some (.int .i64 a0)∧V.cell? ⟨bx,ox+m*7+1,none⟩=some (.int .i64 a1)∧V.cell? ⟨bx,ox+m*7+2,none⟩=some (.string a2)∧V.cell? ⟨bx,ox+m*7+3,none⟩=some (.slice P1 e1 f1)∧V.cell? ⟨bx,ox+m*7+4,none⟩=some (.slice P2 e2 f2)∧V.cell? ⟨bx,ox+m*7+5,none⟩=some (.slice P3 e3 f3)∧V.cell? ⟨bx,ox+m*7+6,none⟩=some (.slice P4 e4 f4)∧V.cell? ⟨by',oy+m*7,none⟩=some (.int .i64 b0)∧V.cell? ⟨by',oy+m*7+1,none⟩=some (.int .i64 b1)∧V.cell? ⟨by',oy+m*7+2,none⟩=some (.string b2)∧V.cell? ⟨by',oy+m*7+3,none⟩=some (.slice Q1 g1 h1)∧V.cell? ⟨by',oy+m*7+4,none⟩=some (.slice Q2 g2 h2)∧V.cell? ⟨by',oy+m*7+5,none⟩=some (.slice Q3 g3 h3)∧V.cell? ⟨by',oy+m*7+6,none⟩=some (.slice Q4 g4 h4)) (by kernel_rfl) hX (fun hHeld=>?_);refine tk 0 hHeld ?_
      try simp only[pK]
      refine tk 2 hHeld ?_
      try simp only[pK]
      refine tk 5 hHeld ?_
      try simp only[pK]
      refine tk 7 hHeld ?_
      try simp only[pK]
      refine wpAnyH_all (rs:=[1,6]) (by kernel_rfl) (by simp) fun j hj=>?_;have hj2:j=1∨j=6:=by simpa using hj
      clear hj;rcases hj2 with rfl|rfl
      ·refine zAu rfl (by rfl) (fun K hK=>?_);go_simp;refine hK _ _ ⟨hX,?_⟩
       try simp only[pK]
       refine tk 3 hX ?_
       try simp only[pK]
       refine tk 4 hX ?_
       try simp only[pK]
       refine wpAnyH_all (rs:=[6,10]) (by kernel_rfl) (by simp) fun j hj=>?_;have hj2:j=6∨j=10:=by simpa using hj
       clear hj;rcases hj2 with rfl|rfl
       ·refine zAu rfl (by rfl) (fun K hK=>?_);go_simp;refine hK _ _ ⟨hX,?_⟩
        try simp only[pK]
        refine tk 8 hX ?_
        try simp only[pK]
        refine tk 9 hX ?_
        try simp only[pK]
        refine oO 10 fun K hK=>?_;go_simp;rw[←HV1.out];refine hK _ _ hX1 ?_
        try simp only[pK]
        refine oO 11 fun K hK=>?_;go_simp;rw[←HV2.out];refine hK _ _ hX2 ?_
        try simp only[pK]
        refine (wD ?_) _;exact hfin
       ·refine zAu rfl (by rfl) (fun K hK=>?_);go_simp;rw[←HV1.out];refine hK _ _ ⟨hX1,?_⟩
        try simp only[pK]
        refine oO 6 fun K hK=>?_;go_simp;refine hK _ _ hX1 ?_
        try simp only[pK]
        refine tk 8 hX1 ?_
        try simp only[pK]
        refine tk 9 hX1 ?_
        try simp only[pK]
        refine oO 11 fun K hK=>?_;go_simp;rw[←HV2.out];refine hK _ _ hX2 ?_
        try simp only[pK]
        refine (wD ?_) _;exact hfin
      ·refine zAu rfl (by rfl) (fun K hK=>?_);go_simp;refine hK _ _ ⟨hX,?_⟩
       try simp only[pK]
       refine tk 8 hX ?_
       try simp only[pK]
       refine tk 9 hX ?_
       try simp only[pK]
       refine oO 1 fun K hK=>?_;go_simp;refine hK _ _ hX ?_
       try simp only[pK]
       refine tk 3 hX ?_
       try simp only[pK]
       refine tk 4 hX ?_
       try simp only[pK]
       refine oO 10 fun K hK=>?_;go_simp;rw[←HV1.out];refine hK _ _ hX1 ?_
       try simp only[pK]
       refine oO 11 fun K hK=>?_;go_simp;rw[←HV2.out];refine hK _ _ hX2 ?_
       try simp only[pK]
       refine (wD ?_) _;exact hfin
     case hF=>
      go_wp2_with fail
      go_roundg q
      case measure=>omega
      case rel=>
       obtain⟨ho3,ho4,hbV2,hzV2⟩:=HFI.out;exact⟨bv,x,x',a0,a1,a2,P1,e1,f1,P2,e2,f2,P3,e3,f3,P4,e4,f4,b0,b1,b2,Q1,g1,h1,Q2,g2,h2,Q3,g3,h3,Q4,g4,h4,rfl,by have:=HQ.out;omega,ho3,ho4,HVX.out.1,HVX.out.2,HZ.out,hbV2,hzV2⟩
def consV (a b:Vl):Vl:=.mk 7 0 [] [a,b] [] [] []
def tupV (l:List Vl):Vl:=.mk 6 0 [] l [] [] []
theorem zC9 (w:World) (B:Nat→Prop) (c:Nat) (R:Nat→List Value→Prop):RowB w B c (.slice none 0 0) 0 R:=⟨none,0,rfl,⟨Nat.zero_le _,Nat.le_refl _⟩,fun h=>absurd h (by omega)⟩
theorem zK0 (w:World):Calls Tryz.prog 126 #[] w fun e w'=>e=.returned (.agg #[.int .i64 5,.int .i64 0,.string ⟨#[]⟩,.slice none 0 0,.slice none 0 0,.slice none 0 0,.slice none 0 0])∧Below w.heap.size w w':=by
 go_enter Tryz.func126,Tryz.ntmps126;go_wp2;refine bodyPost_ret (v:=.agg #[.int .i64 5,.int .i64 0,.string ⟨#[]⟩,.slice none 0 0,.slice none 0 0,.slice none 0 0,.slice none 0 0]) (by simp[results,Tryz.results126,go_sem]) rfl ?_;exact⟨rfl,bR.alloc lR _⟩
end Go.Proofs.YtcjgaohblaidjaaGreatDoor
namespace Go.Proofs.YtcjgaohblaidjaaGreatDoor
open Go Go.RowKit Go.Shelf
attribute [local go_sem] Oper.semAt_some
end Go.Proofs.YtcjgaohblaidjaaGreatDoor
namespace Go.Proofs.YtcjgaohblaidjaaGreatDoor
open Go Go.RowKit Go.WideShapes Go.Deep
theorem zFb (b off q:Nat):(⟨b,off,none⟩:Addr).add q=⟨b,off+q,none⟩:=by cases q<;>rfl
def zC5 (P:Program) (t:TypeId):Option (List (TypeId×Nat)):=
 match P.underlying t with
 | some (.struct fs)=>some (fs.toList.map fun f=>(f.type,f.offset))
 | _=>none
theorem zC4 {P:Program}{t:TypeId}{l:List (TypeId×Nat)}(h:zC5 P t=some l):∃ fs,P.underlying t=some (.struct fs)∧fs.size=l.length∧∀ (i:Nat) (p:TypeId×Nat),l[i]?=some p→∃ f,fs[i]?=some f∧f.type=p.1∧f.offset=p.2:=by
 unfold zC5 at h;split at h
 ·rename_i fs hfs;simp only[Option.some.injEq]at h;subst h;refine⟨fs,hfs,by simp,fun i p hp=>?_⟩;simp only[List.getElem?_map,Option.map_eq_some_iff]at hp;obtain⟨f,hf,rfl⟩:=hp;exact⟨f,by simpa using hf,rfl,rfl⟩
 ·cases h
section
variable {H:Type}{enc:TypeId×Value→H}{P:Program}{w:World}{spare:Nat→Bool}{held:Bool}
theorem zMp {t:TypeId}{l:List (TypeId×Nat)}{k:Nat}{cs:List Value}{x:DataW H×List MemPlace}(hl:zC5 P t=some l) (h:DataW.trod enc P w 0 spare held k t cs=some x) :
  ∃ n,k=n+1∧cs.length=P.cellsOf t∧∀ (i:Nat) (p:TypeId×Nat),l[i]?=some p→∃ y,DataW.trod enc P w 0 spare held n p.1 ((cs.drop p.2).take (P.cellsOf p.1))=some y:=by
 obtain⟨fs,hfs,hsz,hf⟩:=zC4 hl;obtain⟨xs,n,hk,_,hlen,hxl,hx⟩:=DataW.trod_struct hfs h;refine⟨n,hk,hlen,fun i p hp=>?_⟩;obtain⟨f,h1,h2,h3⟩:=hf i p hp;have:=hx i f h1;rw[h2,h3]at this;have hi:i<xs.length:=by
  have:=(List.getElem?_eq_some_iff.1 hp).1;omega
 exact⟨xs[i],by rw[this];exact List.getElem?_eq_getElem hi⟩
theorem zPs {n c:Nat}{t e:TypeId}{u:Value}{y:DataW H×List MemPlace}{α:Type}(R:α→List Value→Prop) (ht:P.underlying t=some (.slice e)) (hc:P.cellsOf e=c) (hpos:0<c)
  (h:DataW.trod enc P w 0 spare held n t [u]=some y) (hR:∀ m cs z,m<n→DataW.trod enc P w 0 spare held m e cs=some z→∃ x:α,R x cs) :
  ∃ l:List α,RowP w w.heap.size c u l.length (fun j cs=>∃ x,l[j]?=some x∧R x cs):=by
 rcases DataW.trod_slice ht h with⟨h0,_⟩|⟨a,len,cap,elems,rest,m,rfl,hu,_,hb,hl,hm,hlen,hel,_⟩
 ·simp only[List.cons.injEq,and_true]at h0;subst h0;exact⟨[],none,0,rfl,⟨Nat.zero_le _,Nat.le_refl _⟩,fun hn=>absurd hn (by simp)⟩
 ·simp only[List.cons.injEq,and_true]at hu;subst hu;have each:∀ i:Fin len,∃ x:α,∃ cs:List Value,cs.length=c∧(∀ q,q<c→w.cell? ((a.add (i.1*c)).add q)=cs[q]?)∧R x cs:=by
   intro i;have h1:=hel i.1 i.2;rw[List.getElem?_eq_getElem (by omega),hc]at h1;obtain⟨cs,h2,h3⟩:=Option.bind_eq_some_iff.1 h1;obtain⟨_,h4,h5⟩:=World.cells?_some h2;obtain⟨x,hx⟩:=hR m cs _ (by omega) h3;exact⟨x,cs,h4,h5,hx⟩
  refine⟨List.ofFn fun i=>Classical.choose (each i),some a,cap,by simp,⟨by simp;omega,by simp;omega⟩,fun hn=>?_⟩;rw[List.length_ofFn]at hn;obtain⟨b,off,spot⟩:=a;obtain⟨cs0,k1,k2,_⟩:=Classical.choose_spec (each ⟨0,hn⟩);have hc0:=k2 0 hpos;rw[List.getElem?_eq_getElem (by omega)]at hc0;have hspot:spot=none:=by simpa [Addr.add] using World.cell?_spot hc0
  subst hspot;refine⟨b,off,rfl,?_,?_,fun j hj=>?_⟩
  ·simpa [Addr.add] using World.block_lt_of_cell? _ _ hc0
  ·simpa [Addr.add] using World.block_lt_of_cell? _ _ hc0
  ·rw[List.length_ofFn]at hj;obtain⟨cs,k3,k4,k5⟩:=Classical.choose_spec (each ⟨j,hj⟩);refine⟨cs,k3,fun i hi=>?_,_,by rw[List.getElem?_ofFn,dif_pos hj],k5⟩;have:=k4 i hi;rw[zFb,zFb]at this;rw[←this]
structure ValT (P:Program) (tV tI tL tS tVs tK tKs tE tEs tB tSs:TypeId):Prop where
 v:zC5 P tV=some [(tI,0),(tL,1),(tS,2),(tVs,3),(tKs,4),(tEs,5),(tSs,6)]
 e:zC5 P tE=some [(tVs,0),(tB,1),(tV,2)]
 k:zC5 P tK=some [(tI,0),(tS,1)]
 i:P.underlying tI=some (.int .i64)
 l:P.underlying tL=some (.int .i64)
 s:P.underlying tS=some .string
 b:P.underlying tB=some .bool
 vs:P.underlying tVs=some (.slice tV)
 ks:P.underlying tKs=some (.slice tK)
 es:P.underlying tEs=some (.slice tE)
 ss:P.underlying tSs=some (.slice tS)
 cells:[tV,tI,tL,tS,tVs,tK,tKs,tE,tEs,tB,tSs].map P.cellsOf=[7,1,1,1,1,2,1,9,1,1,1]
theorem zIr (s:ByteArray):(⟨s.data.toList.toArray⟩:ByteArray)=s:=by cases s;simp
end
end Go.Proofs.YtcjgaohblaidjaaGreatDoor
namespace Go.Proofs.YtcjgaohblaidjaaGreatDoor
open Go.ChangeShapes Go.WideShapes Go.ChangeAt Go.RowKit Go.Joins Go.Deep
theorem own:ownKnob Tryz.prog.godebug=none:=by kernel_rfl
theorem zN3:laidOutB Tryz.prog=true:=by kernel_rfl
theorem valT:ValT Tryz.prog 27 3 2 9 22 80 23 45 24 4 25 where
 v:=by kernel_rfl
 e:=by kernel_rfl
 k:=by kernel_rfl
 i:=by kernel_rfl
 l:=by kernel_rfl
 s:=by kernel_rfl
 b:=by kernel_rfl
 vs:=by kernel_rfl
 ks:=by kernel_rfl
 es:=by kernel_rfl
 ss:=by kernel_rfl
 cells:=by kernel_rfl
theorem zQx {H:Type}{enc:TypeId×Value→H}{W:World}{fuel:Nat}{u:Value}{x:DataW H×List MemPlace}(hf:DataW.trod enc Tryz.prog W 0 (fun _=>true) true fuel 28 [u]=some x) :
  ∃ A n c,u=.slice A n c∧RowP W W.heap.size 1 (.slice A n c) n (fun _ cs=>∃ x,cs=[.int .i64 x]∧(Lit.int .i64 x).wf=true):=by
 obtain⟨l,hl⟩:=zPs (α:=Int) (fun x cs=>cs=[.int .i64 x]∧(Lit.int .i64 x).wf=true) Tryz.underlying28 (show Tryz.prog.cellsOf 3=1 by kernel_rfl) (by omega) hf (fun m cs z _ hz=>by
  obtain⟨i,e,_,wi⟩:=DataW.trod_int Tryz.underlying3 hz;exact⟨i,e,wi⟩)
 obtain⟨A,c,hu,_⟩:=hl.form;subst hu;exact⟨A,l.length,c,rfl,RowB.sub hl (fun _ h=>h) (fun _ _ ⟨x,_,hx⟩=>⟨x,hx⟩)⟩
theorem zJn {H:Type}{enc:TypeId×Value→H}{W:World}{A:Option Addr}{n c:Nat}{d:DataW H}{p:List MemPlace}(h:DataW.Trod enc Tryz.prog W 0 (fun _=>true) true 28 (.slice A n c) d p) :
  RowP W W.heap.size 1 (.slice A n c) n (fun _ cs=>∃ x,cs=[.int .i64 x]∧(Lit.int .i64 x).wf=true):=by
 obtain⟨fuel,hf⟩:=h;have hf':DataW.trod enc Tryz.prog W 0 (fun _=>true) true fuel 28 [.slice A n c]=some (d,p):=hf;obtain⟨A',n',c',hu,hR⟩:=zQx hf';injection hu with e1 e2 e3;subst e1 e2 e3;exact hR
end Go.Proofs.YtcjgaohblaidjaaGreatDoor
