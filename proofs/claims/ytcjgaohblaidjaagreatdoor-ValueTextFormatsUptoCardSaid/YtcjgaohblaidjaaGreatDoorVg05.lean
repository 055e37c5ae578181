/- What the document's Compare returns: the order of P4.2. -/
import Derived.Test.YtcjgaohblaidjaaGreatDoorVgZ
import Derived.Test.YtcjgaohblaidjaaGreatDoorVg02
import Derived.Test.YtcjgaohblaidjaaGreatDoorVg04
set_option maxRecDepth 100000
set_option maxHeartbeats 12800000
namespace Go.Proofs.YtcjgaohblaidjaaGreatDoor
open Go Go.RowKit
theorem zJr (a b:List UInt8) (w:World) :
  Calls Tryz.prog 48 #[.string ⟨a.toArray⟩,.string ⟨b.toArray⟩] w fun e w'=>e=.returned (.int .i64 (cmpT a b))∧Below w.heap.size w w':=by
 refine (zCy a b w).mono ?_;rintro e w' ⟨rfl,rfl⟩;exact⟨rfl,Below.refl _ _⟩
theorem zL6 {k:Nat}{w:World}{H:Nat}{ents:List En}(j:Nat) (cs:List Value) (h:∃ args fails result,ents[j]?=some (.mk args fails result)∧∃ ua rs,cs=ua::.bool fails::rs∧RowP w H 7 ua args.length (fun j cs=>∃ x,args[j]?=some x∧VS k w H x cs)∧VS k w H result rs):∃ x,ents[j]?=some x∧ES k w H x cs:=by
 obtain⟨args,fails,result,hx,ua,rs,hcs,ha,hr⟩:=h;exact⟨_,hx,args,fails,result,rfl,ua,rs,hcs,ha,hr⟩
theorem zCi:∀ (k:Nat) (a b:Vl) (ca cb:List Value) (w:World),VS k w w.heap.size a ca→VS k w w.heap.size b cb→Calls Tryz.prog 22 #[.agg ca.toArray,.agg cb.toArray] w fun e w'=>e=.returned (.int .i64 (cmpV a b))∧Below w.heap.size w w':=by
 intro k
 induction k with
 | zero=>intro a b ca cb w h;exact h.elim
 | succ k ih=>
  intro a b ca cb w h h';have IH:=xI ih;clear ih;obtain⟨kd,it,tx,kids,keys,ents,labs⟩:=a;obtain⟨kd',it',tx',kids',keys',ents',labs'⟩:=b;obtain⟨uk,uy,ue,ul,rfl,_,_,_,hk,hy,he,hl⟩:=h;obtain⟨uk',uy',ue',ul',rfl,_,_,_,hk',hy',he',hl'⟩:=h';obtain⟨A,c,rfl,bk⟩:=hk.form;obtain⟨A',c',rfl,bk'⟩:=hk'.form;obtain⟨Y,cy,rfl,by1⟩:=hy.form;obtain⟨Y',cy',rfl,by2⟩:=hy'.form;obtain⟨E,ce,rfl,be⟩:=he.form;obtain⟨E',ce',rfl,be'⟩:=he'.form;obtain⟨L,cl,rfl,bl⟩:=hl.form;obtain⟨L',cl',rfl,bl'⟩:=hl'.form;unfold maxLen at bk bk' by1 by2 be be' bl bl';have HT:Hid (cmpV (.mk kd it tx kids keys ents labs) (.mk kd' it' tx' kids' keys' ents' labs')=thn (cmpI kd kd') (thn (cmpI it it') (thn (cmpT tx tx') (thn (cmpI keys.length keys'.length) (thn (cmpL cmpK keys keys') (thn (thn (cmpI kids.length kids'.length) (cmpVs kids kids')) (thn (cmpI ents.length ents'.length) (thn (cmpL cmpE ents ents') (thn (cmpI labs.length labs'.length) (cmpL cmpT labs labs')))))))))):=xI (by simp only[cmpV,zLh,zA9]);have HY:=xI hy;have HY':=xI hy';have HEN:=xI he;have HEN':=xI he';have HLA:=xI hl;have HLA':=xI hl';have HK:Hid (∀ U,Below w.heap.size w U→Calls Tryz.prog 50 #[.slice A kids.length c,.slice A' kids'.length c'] U fun e w'=>e=.returned (.int .i64 (thn (cmpI kids.length kids'.length) (cmpVs kids kids')))∧Below U.heap.size U w'):=xI fun V hV=>zH1 k IH A A' c c' kids kids' V ((hk.on hV fun _ _ ⟨x,h1,h2⟩=>⟨x,h1,VS.up hV.size lR (VS.on hV h2)⟩).mono hV.size fun _ _ h=>h) ((hk'.on hV fun _ _ ⟨x,h1,h2⟩=>⟨x,h1,VS.up hV.size lR (VS.on hV h2)⟩).mono hV.size fun _ _ h=>h);have HENT:Hid (∀ (a b:En) (ca cb:List Value) (w:World),ES k w w.heap.size a ca→ES k w w.heap.size b cb→Calls Tryz.prog 51 #[.agg ca.toArray,.agg cb.toArray] w fun e w'=>e=.returned (.int .i64 (cmpE a b))∧Below w.heap.size w w'):=xI fun a b ca cb w h1 h2=>zC6 k IH a b ca cb w h1 h2;clear hk hk' hy hy' he he' hl hl' IH;by_cases hkd:kd=kd'
  case neg=>
   have hq:(kd != kd')=true:=by rw[bne_iff_ne];exact hkd
   have HU:Hid (cmpV (.mk kd it tx kids keys ents labs) (.mk kd' it' tx' kids' keys' ents' labs')=cmpI kd kd'):=xI (by rw[HT.out];exact zAz (fun h=>hkd (zAf.1 h)) _);clear hkd;go_enter Tryz.func22,Tryz.ntmps22;go_wp2_with (go_at_call 46;refine (zDl _ _ _).mono ?_;rintro e w1 ⟨rfl,rfl⟩)
   all_goals go_ret
   all_goals exact⟨ret_i HU.out.symm,(bR.alloc lR _).alloc (by simp) _⟩
  subst hkd;replace HT:Hid (cmpV (.mk kd it tx kids keys ents labs) (.mk kd it' tx' kids' keys' ents' labs')=thn (cmpI it it') (thn (cmpT tx tx') (thn (cmpI keys.length keys'.length) (thn (cmpL cmpK keys keys') (thn (thn (cmpI kids.length kids'.length) (cmpVs kids kids')) (thn (cmpI ents.length ents'.length) (thn (cmpL cmpE ents ents') (thn (cmpI labs.length labs'.length) (cmpL cmpT labs labs'))))))))):=xI (by rw[HT.out,zAf.2 rfl];rfl);by_cases hit:it=it'
  case neg=>
   have hq:(it != it')=true:=by rw[bne_iff_ne];exact hit
   have HU:Hid (cmpV (.mk kd it tx kids keys ents labs) (.mk kd it' tx' kids' keys' ents' labs')=cmpI it it'):=xI (by rw[HT.out];exact zAz (fun h=>hit (zAf.1 h)) _);clear hit;go_enter Tryz.func22,Tryz.ntmps22;go_wp2_with (go_at_call 47;refine (zEz _ _ _).mono ?_;rintro e w1 ⟨rfl,rfl⟩)
   all_goals go_ret
   all_goals exact⟨ret_i HU.out.symm,(bR.alloc lR _).alloc (by simp) _⟩
  subst hit;replace HT:Hid (cmpV (.mk kd it tx kids keys ents labs) (.mk kd it tx' kids' keys' ents' labs')=thn (cmpT tx tx') (thn (cmpI keys.length keys'.length) (thn (cmpL cmpK keys keys') (thn (thn (cmpI kids.length kids'.length) (cmpVs kids kids')) (thn (cmpI ents.length ents'.length) (thn (cmpL cmpE ents ents') (thn (cmpI labs.length labs'.length) (cmpL cmpT labs labs')))))))):=xI (by rw[HT.out,zAf.2 rfl];rfl);by_cases htx:tx=tx'
  case neg=>
   have hq:(!tx==tx')=true:=by simp[htx]
   have HU:Hid (cmpV (.mk kd it tx kids keys ents labs) (.mk kd it tx' kids' keys' ents' labs')=cmpT tx tx'):=xI (by rw[HT.out];exact zAz (fun h=>htx (zBy.1 h)) _);go_enter Tryz.func22,Tryz.ntmps22;go_wp2_with (go_at_call 48;refine (zCy _ _ _).mono ?_;rintro e w1 ⟨rfl,rfl⟩)
   all_goals go_ret
   all_goals exact⟨ret_i HU.out.symm,(bR.alloc lR _).alloc (by simp) _⟩
  subst htx;replace HT:Hid (cmpV (.mk kd it tx kids keys ents labs) (.mk kd it tx kids' keys' ents' labs')=thn (cmpI keys.length keys'.length) (thn (cmpL cmpK keys keys') (thn (thn (cmpI kids.length kids'.length) (cmpVs kids kids')) (thn (cmpI ents.length ents'.length) (thn (cmpL cmpE ents ents') (thn (cmpI labs.length labs'.length) (cmpL cmpT labs labs'))))))):=xI (by rw[HT.out,zBy.2 rfl];rfl);by_cases hky:keys.length=keys'.length
  case neg=>
   have hq:((keys.length:Int) != (keys'.length:Int))=true:=by rw[bne_iff_ne];omega
   have HU:Hid (cmpV (.mk kd it tx kids keys ents labs) (.mk kd it tx kids' keys' ents' labs')=cmpI keys.length keys'.length):=xI (by rw[HT.out];exact zAz (fun h=>hky (by have:=zAf.1 h;omega)) _);clear hky;go_enter Tryz.func22,Tryz.ntmps22;go_wp2_with (go_at_call 46;refine (zDl _ _ _).mono ?_;rintro e w1 ⟨rfl,rfl⟩)
   all_goals go_ret
   all_goals exact⟨ret_i HU.out.symm,(bR.alloc lR _).alloc (by simp) _⟩
  replace HT:Hid (cmpV (.mk kd it tx kids keys ents labs) (.mk kd it tx kids' keys' ents' labs')=thn (cmpL cmpK keys keys') (thn (thn (cmpI kids.length kids'.length) (cmpVs kids kids')) (thn (cmpI ents.length ents'.length) (thn (cmpL cmpE ents ents') (thn (cmpI labs.length labs'.length) (cmpL cmpT labs labs')))))):=xI (by rw[HT.out,zAf.2 (show (keys.length:Int)=keys'.length by omega)];rfl);have hq:((keys.length:Int) != (keys'.length:Int))=false:=by rw[bne_eq_false_iff_eq];omega
  have HKY:=xI hky;clear hky;obtain⟨W,hW⟩:∃ W,W=(w.alloc (.cells #[.int .i64 kd,.int .i64 it,.string ⟨tx.toArray⟩,.slice A kids.length c,.slice Y keys.length cy,.slice E ents.length ce,.slice L labs.length cl] 27)).alloc (.cells #[.int .i64 kd,.int .i64 it,.string ⟨tx.toArray⟩,.slice A' kids'.length c',.slice Y' keys'.length cy',.slice E' ents'.length ce',.slice L' labs'.length cl'] 27):=⟨_,rfl⟩;have hb:Below w.heap.size w W:=by rw[hW];exact (bR.alloc lR _).alloc (by simp) _
  have hz:W.heap.size=w.heap.size+2:=by rw[hW];simp
  have q0:W.cell? ⟨w.heap.size,0,none⟩=some (.int .i64 kd):=by rw[hW];simp
  have q1:W.cell? ⟨w.heap.size,1,none⟩=some (.int .i64 it):=by rw[hW];simp
  have q2:W.cell? ⟨w.heap.size,2,none⟩=some (.string ⟨tx.toArray⟩):=by rw[hW];simp
  have q3:W.cell? ⟨w.heap.size,3,none⟩=some (.slice A kids.length c):=by rw[hW];simp
  have q4:W.cell? ⟨w.heap.size,4,none⟩=some (.slice Y keys.length cy):=by rw[hW];simp
  have q5:W.cell? ⟨w.heap.size,5,none⟩=some (.slice E ents.length ce):=by rw[hW];simp
  have q6:W.cell? ⟨w.heap.size,6,none⟩=some (.slice L labs.length cl):=by rw[hW];simp
  have r0:W.cell? ⟨w.heap.size+1,0,none⟩=some (.int .i64 kd):=by rw[hW];simp
  have r1:W.cell? ⟨w.heap.size+1,1,none⟩=some (.int .i64 it):=by rw[hW];simp
  have r2:W.cell? ⟨w.heap.size+1,2,none⟩=some (.string ⟨tx.toArray⟩):=by rw[hW];simp
  have r3:W.cell? ⟨w.heap.size+1,3,none⟩=some (.slice A' kids'.length c'):=by rw[hW];simp
  have r4:W.cell? ⟨w.heap.size+1,4,none⟩=some (.slice Y' keys'.length cy'):=by rw[hW];simp
  have r5:W.cell? ⟨w.heap.size+1,5,none⟩=some (.slice E' ents'.length ce'):=by rw[hW];simp
  have r6:W.cell? ⟨w.heap.size+1,6,none⟩=some (.slice L' labs'.length cl'):=by rw[hW];simp
  have HQ:Hid (W.cell? ⟨w.heap.size,3,none⟩=some (.slice A kids.length c)∧W.cell? ⟨w.heap.size,5,none⟩=some (.slice E ents.length ce)∧W.cell? ⟨w.heap.size,6,none⟩=some (.slice L labs.length cl)∧W.cell? ⟨w.heap.size+1,3,none⟩=some (.slice A' kids'.length c')∧W.cell? ⟨w.heap.size+1,5,none⟩=some (.slice E' ents'.length ce')∧W.cell? ⟨w.heap.size+1,6,none⟩=some (.slice L' labs'.length cl')):=xI ⟨q3,q5,q6,r3,r5,r6⟩;have HB:=xI hb;have hlt:w.heap.size<W.heap.size:=by omega
  have hlt':w.heap.size+1<W.heap.size:=by omega
  clear hb hz;go_enter Tryz.func22,Tryz.ntmps22;go_wp2_with fail;rw[←hW];clear hW q0 q1 q2 q3 q5 q6 r0 r1 r2 r3 r5 r6 hq
  go_loopw [5,6] (fun i _ wr=>∃ j:Nat,i=.int .i64 j∧j≤keys.length∧cmpL cmpK (keys.take j) (keys'.take j)=0∧Below W.heap.size W wr) (fun i _ _=>keys.length-(intOf i).toNat)
  case atStart=>exact⟨0,rfl,by omega,by simp[cmpL],Below.refl _ _⟩
  case round=>
   obtain⟨j,rfl,hj,h0,hb⟩:=hrel;have e4:wr.cell? ⟨w.heap.size,4,none⟩=some (.slice Y keys.length cy):=(hb.cell (p:=⟨w.heap.size,4,none⟩) hlt).trans q4;have f4:wr.cell? ⟨w.heap.size+1,4,none⟩=some (.slice Y' keys'.length cy'):=(hb.cell (p:=⟨w.heap.size+1,4,none⟩) hlt').trans r4;by_cases hjn:j<keys.length
   ·have hbw:=HB.out.trans (hb.mono HB.out.size);obtain⟨b,off,cap0,x0,x1,hu,hbH,⟨x,hx,hv⟩,c0,c1⟩:=(HY.out.on hbw (fun _ _ h=>h)).at2 hjn;obtain⟨b',off',cap0',y0,y1,hu',hbH',⟨y,hy,hv'⟩,d0,d1⟩:=(HY'.out.on hbw (fun _ _ h=>h)).at2 (show j<keys'.length by have:=HKY.out;omega);injection hu with hA _ hcap;subst hA hcap;injection hu' with hA' _ hcap';subst hA' hcap';obtain⟨hf,-,-⟩:=hv;simp only[List.cons.injEq,and_true]at hf;obtain⟨rfl,rfl⟩:=hf;obtain⟨hf,-,-⟩:=hv';simp only[List.cons.injEq,and_true]at hf;obtain⟨rfl,rfl⟩:=hf;have kn:(j:Int)<(keys.length:Int):=by omega
    have km:(j:Int)<(keys'.length:Int):=by have:=HKY.out;omega
    have k0:(0:Int)≤(j:Int):=by omega
    have HS:=xI (zCf hx hy h0);have HV:=xI hb;have hz:=hb.size;have hz2:=hbw.size;have HK9:Hid (∀ wq,Below wr.heap.size wr wq→wq.cell? ⟨w.heap.size,4,none⟩=some (.slice (some ⟨b,off,none⟩) keys.length cy)∧wq.cell? ⟨w.heap.size+1,4,none⟩=some (.slice (some ⟨b',off',none⟩) keys'.length cy')∧wq.cell? ⟨b,off+j*2,none⟩=some (.int .i64 x.1)∧wq.cell? ⟨b,off+j*2+1,none⟩=some (.string ⟨x.2.toArray⟩)∧wq.cell? ⟨b',off'+j*2,none⟩=some (.int .i64 y.1)∧wq.cell? ⟨b',off'+j*2+1,none⟩=some (.string ⟨y.2.toArray⟩)):=xI (fun wq h=>⟨(h.cell (p:=⟨_,_,none⟩) (by show w.heap.size<_;omega)).trans e4,(h.cell (p:=⟨_,_,none⟩) (by show w.heap.size+1<_;omega)).trans f4,(h.cell (p:=⟨_,_,none⟩) (by show b<_;omega)).trans c0,(h.cell (p:=⟨_,_,none⟩) (by show b<_;omega)).trans c1,(h.cell (p:=⟨_,_,none⟩) (by show b'<_;omega)).trans d0,(h.cell (p:=⟨_,_,none⟩) (by show b'<_;omega)).trans d1⟩);clear hx hy h0 hb hbw c0 c1 d0 d1;go_wp2_with fail;refine wp_region_held_drew (S:=fun wq=>wq.cell? ⟨w.heap.size,4,none⟩=some (.slice (some ⟨b,off,none⟩) keys.length cy)∧wq.cell? ⟨w.heap.size+1,4,none⟩=some (.slice (some ⟨b',off',none⟩) keys'.length cy')∧wq.cell? ⟨b,off+j*2,none⟩=some (.int .i64 x.1)∧wq.cell? ⟨b,off+j*2+1,none⟩=some (.string ⟨x.2.toArray⟩)∧wq.cell? ⟨b',off'+j*2,none⟩=some (.int .i64 y.1)∧wq.cell? ⟨b',off'+j*2+1,none⟩=some (.string ⟨y.2.toArray⟩)) (by kernel_rfl) (HK9.out _ bR.drew) (fun _=>?_);have hB9:Below wr.heap.size wr wr.drew:=bR.drew;refine tk 0 (HK9.out _ hB9) ?_
    try simp only[pK]
    iterate 9 (refine ts (HK9.out _ hB9) ?_;try simp only[pK])
    refine oO 10 fun K hK=>?_;go_simp;refine (zEe x y _).mono ?_;rintro e w10 ⟨rfl,hb10⟩;have hB10:Below wr.heap.size wr w10:=zA0 hB9 lR hb10;clear hb10 hB9;refine hK _ _ (HK9.out _ hB10) ?_
    try simp only[pK]
    clear hK K;refine tk 11 (HK9.out _ hB10) ?_
    try simp only[pK]
    refine (wD ?_) _;generalize cmpK x y=z at HS;by_cases hz0:z=0
    ·have q2:(z != 0)=false:=by rw[bne_eq_false_iff_eq];exact hz0
     go_wp2
     go_roundw
     case rel=>exact⟨j+1,by go_num,by omega,HS.out.2 hz0,HV.out.trans (hB10.mono HV.out.size)⟩
     case measure=>simp[intOf];omega
    ·have q2:(z != 0)=true:=by rw[bne_iff_ne];exact hz0
     have HU:Hid (cmpV (.mk kd it tx kids keys ents labs) (.mk kd it tx kids' keys' ents' labs')=z):=xI (by rw[HT.out,HS.out.1 hz0,zAz hz0]);have HBB:=HB.out.trans ((HV.out.trans (hB10.mono HV.out.size)).mono HB.out.size);go_wp2;go_ret;exact⟨ret_i HU.out.symm,HBB⟩
   ·have hjl:keys.take j=keys:=List.take_of_length_le (by omega);have hjm:keys'.take j=keys':=List.take_of_length_le (by have:=HKY.out;omega);rw[hjl,hjm]at h0;replace HT:Hid (cmpV (.mk kd it tx kids keys ents labs) (.mk kd it tx kids' keys' ents' labs')=thn (thn (cmpI kids.length kids'.length) (cmpVs kids kids')) (thn (cmpI ents.length ents'.length) (thn (cmpL cmpE ents ents') (thn (cmpI labs.length labs'.length) (cmpL cmpT labs labs'))))):=xI (by rw[HT.out,h0];rfl);clear h0 hjl hjm q4 r4;have HBW:=xI (HB.out.trans (hb.mono HB.out.size));obtain⟨q3,q5,q6,r3,r5,r6⟩:=HQ.out;have e3:wr.cell? ⟨w.heap.size,3,none⟩=some (.slice A kids.length c):=(hb.cell (p:=⟨w.heap.size,3,none⟩) hlt).trans q3;have f3:wr.cell? ⟨w.heap.size+1,3,none⟩=some (.slice A' kids'.length c'):=(hb.cell (p:=⟨w.heap.size+1,3,none⟩) hlt').trans r3;have e5:wr.cell? ⟨w.heap.size,5,none⟩=some (.slice E ents.length ce):=(hb.cell (p:=⟨w.heap.size,5,none⟩) hlt).trans q5;have f5:wr.cell? ⟨w.heap.size+1,5,none⟩=some (.slice E' ents'.length ce'):=(hb.cell (p:=⟨w.heap.size+1,5,none⟩) hlt').trans r5;have e6:wr.cell? ⟨w.heap.size,6,none⟩=some (.slice L labs.length cl):=(hb.cell (p:=⟨w.heap.size,6,none⟩) hlt).trans q6;have f6:wr.cell? ⟨w.heap.size+1,6,none⟩=some (.slice L' labs'.length cl'):=(hb.cell (p:=⟨w.heap.size+1,6,none⟩) hlt').trans r6;have hls:=hb.size;have HF:Hid (wr.cell? ⟨w.heap.size,5,none⟩=some (.slice E ents.length ce)∧wr.cell? ⟨w.heap.size,6,none⟩=some (.slice L labs.length cl)∧wr.cell? ⟨w.heap.size+1,5,none⟩=some (.slice E' ents'.length ce')∧wr.cell? ⟨w.heap.size+1,6,none⟩=some (.slice L' labs'.length cl')):=xI ⟨e5,e6,f5,f6⟩;clear q3 q5 q6 r3 r5 r6 e5 e6 f5 f6 HQ hb;replace hlt:w.heap.size<wr.heap.size:=by omega
    replace hlt':w.heap.size+1<wr.heap.size:=by omega
    clear hls;have hv:=HK.out wr HBW.out;generalize thn (cmpI (kids.length:Int) (kids'.length:Int)) (cmpVs kids kids')=z at hv HT;go_wp2_with (go_at_call 50;refine hv.mono ?_;rintro e w1 ⟨rfl,hb1⟩;refine Hid.out ?_);refine xI ?_;clear hv e3 f3 e4 f4 hjn;replace HBW:=xI (HBW.out.trans (hb1.mono HBW.out.size));by_cases hz:z=0
    case neg=>
     have hq:(z != 0)=true:=by rw[bne_iff_ne];exact hz
     have HU:Hid (cmpV (.mk kd it tx kids keys ents labs) (.mk kd it tx kids' keys' ents' labs')=z):=xI (by rw[HT.out];exact zAz hz _);clear hz hb1;go_wp2;go_ret;exact⟨ret_i HU.out.symm,HBW.out⟩
    subst hz;replace HT:Hid (cmpV (.mk kd it tx kids keys ents labs) (.mk kd it tx kids' keys' ents' labs')=thn (cmpI ents.length ents'.length) (thn (cmpL cmpE ents ents') (thn (cmpI labs.length labs'.length) (cmpL cmpT labs labs')))):=xI (by rw[HT.out];rfl);obtain⟨e5,e6,f5,f6⟩:=HF.out;have q5:w1.cell? ⟨w.heap.size,5,none⟩=some (.slice E ents.length ce):=(hb1.cell (p:=⟨w.heap.size,5,none⟩) hlt).trans e5;have r5:w1.cell? ⟨w.heap.size+1,5,none⟩=some (.slice E' ents'.length ce'):=(hb1.cell (p:=⟨w.heap.size+1,5,none⟩) hlt').trans f5;have q6:w1.cell? ⟨w.heap.size,6,none⟩=some (.slice L labs.length cl):=(hb1.cell (p:=⟨w.heap.size,6,none⟩) hlt).trans e6;have r6:w1.cell? ⟨w.heap.size+1,6,none⟩=some (.slice L' labs'.length cl'):=(hb1.cell (p:=⟨w.heap.size+1,6,none⟩) hlt').trans f6;have hls:=hb1.size;replace hlt:w.heap.size<w1.heap.size:=by omega
    replace hlt':w.heap.size+1<w1.heap.size:=by omega
    have HQ:Hid (w1.cell? ⟨w.heap.size,6,none⟩=some (.slice L labs.length cl)∧w1.cell? ⟨w.heap.size+1,6,none⟩=some (.slice L' labs'.length cl')):=xI ⟨q6,r6⟩;clear e5 e6 f5 f6 q6 r6 hb1 hls HF;by_cases hen:ents.length=ents'.length
    case neg=>
     have hq:((ents.length:Int) != (ents'.length:Int))=true:=by rw[bne_iff_ne];omega
     have HU:Hid (cmpV (.mk kd it tx kids keys ents labs) (.mk kd it tx kids' keys' ents' labs')=cmpI ents.length ents'.length):=xI (by rw[HT.out];exact zAz (fun h=>hen (by have:=zAf.1 h;omega)) _);clear hen;go_wp2_with (go_at_call 46;refine (zDl _ _ _).mono ?_;rintro e w1 ⟨rfl,rfl⟩)
     all_goals go_ret
     all_goals exact⟨ret_i HU.out.symm,HBW.out⟩
    replace HT:Hid (cmpV (.mk kd it tx kids keys ents labs) (.mk kd it tx kids' keys' ents' labs')=thn (cmpL cmpE ents ents') (thn (cmpI labs.length labs'.length) (cmpL cmpT labs labs'))):=xI (by rw[HT.out,zAf.2 (show (ents.length:Int)=ents'.length by omega)];rfl);have hq:((ents.length:Int) != (ents'.length:Int))=false:=by rw[bne_eq_false_iff_eq];omega
    have HEE:=xI hen;clear hen;go_wp2_with fail;clear hq
    go_loopw [8,9] (fun i _ wr=>∃ j:Nat,i=.int .i64 j∧j≤ents.length∧cmpL cmpE (ents.take j) (ents'.take j)=0∧Below w1.heap.size w1 wr) (fun i _ _=>ents.length-(intOf i).toNat)
    case atStart=>exact⟨0,rfl,by omega,by simp[cmpL],Below.refl _ _⟩
    case round=>
     obtain⟨j,rfl,hj,h0,hb⟩:=hrel;have e4:wr.cell? ⟨w.heap.size,5,none⟩=some (.slice E ents.length ce):=(hb.cell (p:=⟨w.heap.size,5,none⟩) hlt).trans q5;have f4:wr.cell? ⟨w.heap.size+1,5,none⟩=some (.slice E' ents'.length ce'):=(hb.cell (p:=⟨w.heap.size+1,5,none⟩) hlt').trans r5;by_cases hjn:j<ents.length
     ·have hbw:=HBW.out.trans (hb.mono HBW.out.size);obtain⟨b,off,cap0,x0,x1,x2,x3,x4,x5,x6,x7,x8,hu,hbH,⟨x,hx,hv⟩,c0,c1,c2,c3,c4,c5,c6,c7,c8⟩:=((HEN.out.on hbw (fun _ _ h=>h)).sub (fun _ h=>h) (zL6)).at9 hjn;obtain⟨b',off',cap0',y0,y1,y2,y3,y4,y5,y6,y7,y8,hu',hbH',⟨y,hy,hv'⟩,d0,d1,d2,d3,d4,d5,d6,d7,d8⟩:=((HEN'.out.on hbw (fun _ _ h=>h)).sub (fun _ h=>h) (zL6)).at9 (show j<ents'.length by have:=HEE.out;omega);injection hu with hA _ hcap;subst hA hcap;injection hu' with hA' _ hcap';subst hA' hcap';obtain⟨B01,n01,d01,g1,a1,i1,s1,B11,n11,d11,B21,n21,d21,B31,n31,d31,B41,n41,d41,hf⟩:=hv.form9;simp only[List.cons.injEq,and_true]at hf;obtain⟨rfl,rfl,rfl,rfl,rfl,rfl,rfl,rfl,rfl⟩:=hf;obtain⟨B02,n02,d02,g2,a2,i2,s2,B12,n12,d12,B22,n22,d22,B32,n32,d32,B42,n42,d42,hf⟩:=hv'.form9;simp only[List.cons.injEq,and_true]at hf;obtain⟨rfl,rfl,rfl,rfl,rfl,rfl,rfl,rfl,rfl⟩:=hf;have kn:(j:Int)<(ents.length:Int):=by omega
      have km:(j:Int)<(ents'.length:Int):=by have:=HEE.out;omega
      have k0:(0:Int)≤(j:Int):=by omega
      have HS:=xI (zCf hx hy h0);have HV:=xI hb;have hz:=hb.size;have hz2:=hbw.size;have HK9:Hid (∀ wq,Below wr.heap.size wr wq→wq.cell? ⟨w.heap.size,5,none⟩=some (.slice (some ⟨b,off,none⟩) ents.length ce)∧wq.cell? ⟨w.heap.size+1,5,none⟩=some (.slice (some ⟨b',off',none⟩) ents'.length ce')∧wq.cell? ⟨b,off+j*9,none⟩=some (.slice B01 n01 d01)∧wq.cell? ⟨b,off+j*9+1,none⟩=some (.bool g1)∧wq.cell? ⟨b,off+j*9+2,none⟩=some (.int .i64 a1)∧wq.cell? ⟨b,off+j*9+3,none⟩=some (.int .i64 i1)∧wq.cell? ⟨b,off+j*9+4,none⟩=some (.string s1)∧wq.cell? ⟨b,off+j*9+5,none⟩=some (.slice B11 n11 d11)∧wq.cell? ⟨b,off+j*9+6,none⟩=some (.slice B21 n21 d21)∧wq.cell? ⟨b,off+j*9+7,none⟩=some (.slice B31 n31 d31)∧wq.cell? ⟨b,off+j*9+8,none⟩=some (.slice B41 n41 d41)∧wq.cell? ⟨b',off'+j*9,none⟩=some (.slice B02 n02 d02)∧wq.cell? ⟨b',off'+j*9+1,none⟩=some (.bool g2)∧wq.cell? ⟨b',off'+j*9+2,none⟩=some (.int .i64 a2)∧wq.cell? ⟨b',off'+j*9+3,none⟩=some (.int .i64 i2)∧wq.cell? ⟨b',off'+j*9+4,none⟩=some (.string s2)∧wq.cell? ⟨b',off'+j*9+5,none⟩=some (.slice B12 n12 d12)∧wq.cell? ⟨b',off'+j*9+6,none⟩=some (.slice B22 n22 d22)∧wq.cell? ⟨b',off'+j*9+7,none⟩=some (.slice B32 n32 d32)∧wq.cell? ⟨b',off'+j*9+8,none⟩=some (.slice B42 n42 d42)):=xI (fun wq h=>⟨(h.cell (p:=⟨_,_,none⟩) (by show w.heap.size<_;omega)).trans e4,(h.cell (p:=⟨_,_,none⟩) (by show w.heap.size+1<_;omega)).trans f4,(h.cell (p:=⟨_,_,none⟩) (by show b<_;omega)).trans c0,(h.cell (p:=⟨_,_,none⟩) (by show b<_;omega)).trans c1,(h.cell (p:=⟨_,_,none⟩) (by show b<_;omega)).trans c2,(h.cell (p:=⟨_,_,none⟩) (by show b<_;omega)).trans c3,(h.cell (p:=⟨_,_,none⟩) (by show b<_;omega)).trans c4,(h.cell (p:=⟨_,_,none⟩) (by show b<_;omega)).trans c5,(h.cell (p:=⟨_,_,none⟩) (by show b<_;omega)).trans c6,(h.cell (p:=⟨_,_,none⟩) (by show b<_;omega)).trans c7,(h.cell (p:=⟨_,_,none⟩) (by show b<_;omega)).trans c8,(h.cell (p:=⟨_,_,none⟩) (by show b'<_;omega)).trans d0,(h.cell (p:=⟨_,_,none⟩) (by show b'<_;omega)).trans d1,(h.cell (p:=⟨_,_,none⟩) (by show b'<_;omega)).trans d2,(h.cell (p:=⟨_,_,none⟩) (by show b'<_;omega)).trans d3,(h.cell (p:=⟨_,_,none⟩) (by show b'<_;omega)).trans d4,(h.cell (p:=⟨_,_,none⟩) (by show b'<_;omega)).trans d5,(h.cell (p:=⟨_,_,none⟩) (by show b'<_;omega)).trans d6,(h.cell (p:=⟨_,_,none⟩) (by show b'<_;omega)).trans d7,(h.cell (p:=⟨_,_,none⟩) (by show b'<_;omega)).trans d8⟩);have HVX:Hid (∀ wq,Below wr.heap.size wr wq→ES k wq wq.heap.size x [.slice B01 n01 d01,.bool g1,.int .i64 a1,.int .i64 i1,.string s1,.slice B11 n11 d11,.slice B21 n21 d21,.slice B31 n31 d31,.slice B41 n41 d41]):=xI (fun wq h=>ES.up (Nat.le_trans hbw.size h.size) lR (ES.on (hbw.trans (h.mono hbw.size)) hv));have HVY:Hid (∀ wq,Below wr.heap.size wr wq→ES k wq wq.heap.size y [.slice B02 n02 d02,.bool g2,.int .i64 a2,.int .i64 i2,.string s2,.slice B12 n12 d12,.slice B22 n22 d22,.slice B32 n32 d32,.slice B42 n42 d42]):=xI (fun wq h=>ES.up (Nat.le_trans hbw.size h.size) lR (ES.on (hbw.trans (h.mono hbw.size)) hv'));clear hx hy h0 hb hbw hv hv' c0 c1 c2 c3 c4 c5 c6 c7 c8 d0 d1 d2 d3 d4 d5 d6 d7 d8;go_wp2_with fail;refine wp_region_held_drew (S:=fun wq=>wq.cell? ⟨w.heap.size,5,none⟩=some (.slice (some ⟨b,off,none⟩) ents.length ce)∧wq.cell? ⟨w.heap.size+1,5,none⟩=some (.slice (some ⟨b',off',none⟩) ents'.length ce')∧wq.cell? ⟨b,off+j*9,none⟩=some (.slice B01 n01 d01)∧wq.cell? ⟨b,off+j*9+1,none⟩=some (.bool g1)∧wq.cell? ⟨b,off+j*9+2,none⟩=some (.int .i64 a1)∧wq.cell? ⟨b,off+j*9+3,none⟩=some (.int .i64 i1)∧wq.cell? ⟨b,off+j*9+4,none⟩=some (.string s1)∧wq.cell? ⟨b,off+j*9+5,none⟩=some (.slice B11 n11 d11)∧wq.cell? ⟨b,off+j*9+6,none⟩=some (.slice B21 n21 d21)∧wq.cell? ⟨b,off+j*9+7,none⟩=some (.slice B31 n31 d31)∧wq.cell? ⟨b,off+j*9+8,none⟩=some (.slice B41 n41 d41)∧wq.cell? ⟨b',off'+j*9,none⟩=some (.slice B02 n02 d02)∧wq.cell? ⟨b',off'+j*9+1,none⟩=some (.bool g2)∧wq.cell? ⟨b',off'+j*9+2,none⟩=some (.int .i64 a2)∧wq.cell? ⟨b',off'+j*9+3,none⟩=some (.int .i64 i2)∧wq.cell? ⟨b',off'+j*9+4,none⟩=some (.string s2)∧wq.cell? ⟨b',off'+j*9+5,none⟩=some (.slice B12 n12 d12)∧wq.cell? ⟨b',off'+j*9+6,none⟩=some (.slice B22 n22 d22)∧wq.cell? ⟨b',off'+j*9+7,none⟩=some (.slice B32 n32 d32)∧wq.cell? ⟨b',off'+j*9+8,none⟩=some (.slice B42 n42 d42)) (by kernel_rfl) (HK9.out _ bR.drew) (fun _=>?_);have hB9:Below wr.heap.size wr wr.drew:=bR.drew;refine tk 0 (HK9.out _ hB9) ?_
      try simp only[pK]
      iterate 9 (refine ts (HK9.out _ hB9) ?_;try simp only[pK])
      refine oO 10 fun K hK=>?_;go_simp;refine (HENT.out x y _ _ _ (HVX.out _ hB9) (HVY.out _ hB9)).mono ?_;rintro e w10 ⟨rfl,hb10⟩;have hB10:Below wr.heap.size wr w10:=zA0 hB9 lR hb10;clear hb10 hB9;refine hK _ _ (HK9.out _ hB10) ?_
      try simp only[pK]
      clear hK K;refine tk 11 (HK9.out _ hB10) ?_
      try simp only[pK]
      refine (wD ?_) _;generalize cmpE x y=z at HS;by_cases hz0:z=0
      ·have q2:(z != 0)=false:=by rw[bne_eq_false_iff_eq];exact hz0
       go_wp2
       go_roundw
       case rel=>exact⟨j+1,by go_num,by omega,HS.out.2 hz0,HV.out.trans (hB10.mono HV.out.size)⟩
       case measure=>simp[intOf];omega
      ·have q2:(z != 0)=true:=by rw[bne_iff_ne];exact hz0
       have HU:Hid (cmpV (.mk kd it tx kids keys ents labs) (.mk kd it tx kids' keys' ents' labs')=z):=xI (by rw[HT.out,HS.out.1 hz0,zAz hz0]);have HBB:=HBW.out.trans ((HV.out.trans (hB10.mono HV.out.size)).mono HBW.out.size);go_wp2;go_ret;exact⟨ret_i HU.out.symm,HBB⟩
     ·have hjl:ents.take j=ents:=List.take_of_length_le (by omega);have hjm:ents'.take j=ents':=List.take_of_length_le (by have:=HEE.out;omega);rw[hjl,hjm]at h0;replace HT:Hid (cmpV (.mk kd it tx kids keys ents labs) (.mk kd it tx kids' keys' ents' labs')=thn (cmpI labs.length labs'.length) (cmpL cmpT labs labs')):=xI (by rw[HT.out,h0];rfl);clear h0 hjl hjm q5 r5;replace HBW:=xI (HBW.out.trans (hb.mono HBW.out.size));obtain⟨e6,f6⟩:=HQ.out;have q6:wr.cell? ⟨w.heap.size,6,none⟩=some (.slice L labs.length cl):=(hb.cell (p:=⟨w.heap.size,6,none⟩) hlt).trans e6;have r6:wr.cell? ⟨w.heap.size+1,6,none⟩=some (.slice L' labs'.length cl'):=(hb.cell (p:=⟨w.heap.size+1,6,none⟩) hlt').trans f6;have hls:=hb.size;replace hlt:w.heap.size<wr.heap.size:=by omega
      replace hlt':w.heap.size+1<wr.heap.size:=by omega
      clear e6 f6 hb hls HQ;by_cases hla:labs.length=labs'.length
      case neg=>
       have hq:((labs.length:Int) != (labs'.length:Int))=true:=by rw[bne_iff_ne];omega
       have HU:Hid (cmpV (.mk kd it tx kids keys ents labs) (.mk kd it tx kids' keys' ents' labs')=cmpI labs.length labs'.length):=xI (by rw[HT.out];exact zAz (fun h=>hla (by have:=zAf.1 h;omega)) _);clear hla;go_wp2_with (go_at_call 46;refine (zDl _ _ _).mono ?_;rintro e w1 ⟨rfl,rfl⟩)
       all_goals go_ret
       all_goals exact⟨ret_i HU.out.symm,HBW.out⟩
      replace HT:Hid (cmpV (.mk kd it tx kids keys ents labs) (.mk kd it tx kids' keys' ents' labs')=cmpL cmpT labs labs'):=xI (by rw[HT.out,zAf.2 (show (labs.length:Int)=labs'.length by omega)];rfl);have hq:((labs.length:Int) != (labs'.length:Int))=false:=by rw[bne_eq_false_iff_eq];omega
      have HLL:=xI hla;clear hla;rename World=>w2;go_wp2_with fail;clear hq
      go_loopw [10,11] (fun i _ wr=>∃ j:Nat,i=.int .i64 j∧j≤labs.length∧cmpL cmpT (labs.take j) (labs'.take j)=0∧Below w2.heap.size w2 wr) (fun i _ _=>labs.length-(intOf i).toNat)
      case atStart=>exact⟨0,rfl,by omega,by simp[cmpL],Below.refl _ _⟩
      case round=>
       obtain⟨j,rfl,hj,h0,hb⟩:=hrel;have e4:wr.cell? ⟨w.heap.size,6,none⟩=some (.slice L labs.length cl):=(hb.cell (p:=⟨w.heap.size,6,none⟩) hlt).trans q6;have f4:wr.cell? ⟨w.heap.size+1,6,none⟩=some (.slice L' labs'.length cl'):=(hb.cell (p:=⟨w.heap.size+1,6,none⟩) hlt').trans r6;by_cases hjn:j<labs.length
       ·have hbw:=HBW.out.trans (hb.mono HBW.out.size);obtain⟨b,off,cap0,x0,hu,hbH,⟨x,hx,hv⟩,c0⟩:=(HLA.out.on hbw (fun _ _ h=>h)).at1 hjn;obtain⟨b',off',cap0',y0,hu',hbH',⟨y,hy,hv'⟩,d0⟩:=(HLA'.out.on hbw (fun _ _ h=>h)).at1 (show j<labs'.length by have:=HLL.out;omega);injection hu with hA _ hcap;subst hA hcap;injection hu' with hA' _ hcap';subst hA' hcap';obtain⟨hf,-⟩:=hv;simp only[List.cons.injEq,and_true]at hf;obtain rfl:=hf;obtain⟨hf,-⟩:=hv';simp only[List.cons.injEq,and_true]at hf;obtain rfl:=hf;have kn:(j:Int)<(labs.length:Int):=by omega
        have km:(j:Int)<(labs'.length:Int):=by have:=HLL.out;omega
        have k0:(0:Int)≤(j:Int):=by omega
        have HS:=xI (zCf hx hy h0);have HV:=xI hb;have hz:=hb.size;have hz2:=hbw.size;have HK9:Hid (∀ wq,Below wr.heap.size wr wq→wq.cell? ⟨w.heap.size,6,none⟩=some (.slice (some ⟨b,off,none⟩) labs.length cl)∧wq.cell? ⟨w.heap.size+1,6,none⟩=some (.slice (some ⟨b',off',none⟩) labs'.length cl')∧wq.cell? ⟨b,off+j,none⟩=some (.string ⟨x.toArray⟩)∧wq.cell? ⟨b',off'+j,none⟩=some (.string ⟨y.toArray⟩)):=xI (fun wq h=>⟨(h.cell (p:=⟨_,_,none⟩) (by show w.heap.size<_;omega)).trans e4,(h.cell (p:=⟨_,_,none⟩) (by show w.heap.size+1<_;omega)).trans f4,(h.cell (p:=⟨_,_,none⟩) (by show b<_;omega)).trans c0,(h.cell (p:=⟨_,_,none⟩) (by show b'<_;omega)).trans d0⟩);clear hx hy h0 hb hbw c0 d0;go_wp2_with fail;refine wp_region_held_drew (S:=fun wq=>wq.cell? ⟨w.heap.size,6,none⟩=some (.slice (some ⟨b,off,none⟩) labs.length cl)∧wq.cell? ⟨w.heap.size+1,6,none⟩=some (.slice (some ⟨b',off',none⟩) labs'.length cl')∧wq.cell? ⟨b,off+j,none⟩=some (.string ⟨x.toArray⟩)∧wq.cell? ⟨b',off'+j,none⟩=some (.string ⟨y.toArray⟩)) (by kernel_rfl) (HK9.out _ bR.drew) (fun _=>?_);have hB9:Below wr.heap.size wr wr.drew:=bR.drew;refine tk 0 (HK9.out _ hB9) ?_
        try simp only[pK]
        iterate 9 (refine ts (HK9.out _ hB9) ?_;try simp only[pK])
        refine oO 10 fun K hK=>?_;go_simp;refine (zJr x y _).mono ?_;rintro e w10 ⟨rfl,hb10⟩;have hB10:Below wr.heap.size wr w10:=zA0 hB9 lR hb10;clear hb10 hB9;refine hK _ _ (HK9.out _ hB10) ?_
        try simp only[pK]
        clear hK K;refine tk 11 (HK9.out _ hB10) ?_
        try simp only[pK]
        refine (wD ?_) _;generalize cmpT x y=z at HS;by_cases hz0:z=0
        ·have q2:(z != 0)=false:=by rw[bne_eq_false_iff_eq];exact hz0
         go_wp2
         go_roundw
         case rel=>exact⟨j+1,by go_num,by omega,HS.out.2 hz0,HV.out.trans (hB10.mono HV.out.size)⟩
         case measure=>simp[intOf];omega
        ·have q2:(z != 0)=true:=by rw[bne_iff_ne];exact hz0
         have HU:Hid (cmpV (.mk kd it tx kids keys ents labs) (.mk kd it tx kids' keys' ents' labs')=z):=xI (by rw[HT.out,HS.out.1 hz0]);have HBB:=HBW.out.trans ((HV.out.trans (hB10.mono HV.out.size)).mono HBW.out.size);go_wp2;go_ret;exact⟨ret_i HU.out.symm,HBB⟩
       ·have hjl:labs.take j=labs:=List.take_of_length_le (by omega);have hjm:labs'.take j=labs':=List.take_of_length_le (by have:=HLL.out;omega);rw[hjl,hjm]at h0;have HZ:Hid (cmpV (.mk kd it tx kids keys ents labs) (.mk kd it tx kids' keys' ents' labs')=0):=xI (by rw[HT.out,h0]);have HBB:=HBW.out.trans (hb.mono HBW.out.size);clear h0 hjl hjm;go_wp2;go_ret;exact⟨ret_i HZ.out.symm,HBB⟩
structure Eff (p:Nat) (w w':World):Prop where
 below:Below p w w'
 other:∀ b,b≠p→b<w.heap.size→w'.heap[b]?=w.heap[b]?
theorem Eff.refl (p:Nat) (w:World):Eff p w w:=⟨Below.refl _ _,fun _ _ _=>rfl⟩
theorem Eff.trans {p:Nat}{w w' w'':World}(h:Eff p w w') (h':Eff p w' w''):Eff p w w'':=
 ⟨h.below.trans h'.below,fun b hb hl=>(h'.other b hb (Nat.lt_of_lt_of_le hl h.below.size)).trans (h.other b hb hl)⟩
theorem Eff.of_below {p:Nat}{w w':World}(h:Below w.heap.size w w') (hp:p≤w.heap.size):Eff p w w':=⟨h.mono hp,fun b _ hl=>h.block b hl⟩
theorem Eff.size {p:Nat}{w w':World}(h:Eff p w w'):w.heap.size≤w'.heap.size:=h.below.size
def SrcOk (h p:Nat) (w:World):Prop:=
 ∃ A n c q,w.heap[p]?=some (.cells #[.slice A n c,.int .i64 (q:Nat)] 48 (0,0))∧h≤p∧q≤n∧n≤maxLen∧RowP w h 1 (.slice A n c) n (fun _ cs=>∃ x,cs=[.int .i64 x]∧(Lit.int .i64 x).wf=true)
theorem SrcOk.lt {h p:Nat}{w:World}(hs:SrcOk h p w):p<w.heap.size:=by
 obtain⟨A,n,c,q,h1,_⟩:=hs;exact (Array.getElem?_eq_some_iff.1 h1).1
theorem SrcOk.below {h p:Nat}{w w':World}(hs:SrcOk h p w) (hb:Below w.heap.size w w'):SrcOk h p w':=by
 have hl:=hs.lt;obtain⟨A,n,c,q,h1,h2,h3,h4,h5⟩:=hs;exact⟨A,n,c,q,(hb.block p hl).trans h1,h2,h3,h4,h5.on (hb.mono (by omega)) fun _ _ h=>h⟩
theorem zRw {x:Int}(h:(Lit.int .i64 x).wf=true):-9223372036854775808≤x∧x≤9223372036854775807:=by
 simpa [Lit.wf,IntKind.min,IntKind.max,IntKind.signed,IntKind.bits] using h
theorem zBc (h p:Nat) (m:Int) (w:World) (hS:SrcOk h p w) (hn:1≤m) (hn2:m≤100):Calls Tryz.prog 54 #[.pointer (some ⟨p,0,none⟩),.int .i64 m] w fun e w'=>∃ j:Int,e=.returned (.int .i64 j)∧0≤j∧j<m∧SrcOk h p w'∧Eff p w w':=by
 have hlp:=hS.lt;obtain⟨A,len,c,q,h1,h2,h3,h4,h5⟩:=hS;unfold maxLen at h4;have e0:w.cell? ⟨p,0,none⟩=some (.slice A len c):=cH h1 0;have e1:w.cell? ⟨p,1,none⟩=some (.int .i64 (q:Int)):=cH h1 1;have n1:decide (m<1)=false:=by rw[decide_eq_false_iff_not];omega
 have H1:=xI h1;have H5:=xI h5;by_cases hq:q<len
 case neg=>
  have hge:decide ((len:Int)≤(q:Int))=true:=by rw[decide_eq_true_iff];omega
  have hge2:decide (len≤q)=true:=by rw[decide_eq_true_iff];omega
  have HK:Hid (∀ wq,Below w.heap.size w wq→wq.cell? ⟨p,0,none⟩=some (.slice A len c)∧wq.cell? ⟨p,1,none⟩=some (.int .i64 (q:Int))):=xI fun wq hb=>⟨(hb.cell (p:=⟨p,0,none⟩) hlp).trans e0,(hb.cell (p:=⟨p,1,none⟩) hlp).trans e1⟩;have hS:SrcOk h p w:=⟨A,len,c,q,h1,h2,h3,by unfold maxLen;omega,h5⟩;have HS:=xI hS;have hlast:Hid (∀ wq,Below w.heap.size w wq→SrcOk h p wq∧Eff p w wq):=xI fun wq hb=>⟨hS.below hb,Eff.of_below hb (by omega)⟩;clear h1 h5 hS;go_enter Tryz.func54,Tryz.ntmps54;go_wp2_with fail;refine wp_region_held_drew (S:=fun wq=>wq.cell? ⟨p,0,none⟩=some (.slice A len c)∧wq.cell? ⟨p,1,none⟩=some (.int .i64 (q:Int))) (by kernel_rfl) (HK.out _ bR.drew) (fun _=>?_);have hB9:Below w.heap.size w w.drew:=bR.drew;refine tk 0 (HK.out _ hB9) ?_
  try simp only[pK]
  iterate 13 (refine ts (HK.out _ hB9) ?_;try simp only[pK])
  refine (wD ?_) _;go_wp2;go_ret;exact⟨0,rfl,by omega,by omega,hlast.out _ bR.drew⟩
 obtain⟨b,off,cap0,x0,hu,hbH,⟨x,hx,hwf⟩,c0⟩:=h5.at1 hq;injection hu with hA _ hcap;subst hA hcap;simp only[List.cons.injEq,and_true]at hx;subst hx;have hxb:=zRw hwf;have hlt:(q:Int)<(len:Int):=by omega
 have m0:¬ m=0:=by omega
 have hlt2:decide ((len:Int)≤(q:Int))=false:=by rw[decide_eq_false_iff_not];omega
 have hlt3:decide (len≤q)=false:=by rw[decide_eq_false_iff_not];omega
 have k0:(0:Int)≤(q:Int):=by omega
 have HK:Hid (∀ wq,Below w.heap.size w wq→wq.cell? ⟨p,0,none⟩=some (.slice (some ⟨b,off,none⟩) len c)∧wq.cell? ⟨p,1,none⟩=some (.int .i64 (q:Int))∧wq.cell? ⟨b,off+q,none⟩=some (.int .i64 x)):=xI fun wq hb=>⟨(hb.cell (p:=⟨p,0,none⟩) hlp).trans e0,(hb.cell (p:=⟨p,1,none⟩) hlp).trans e1,(hb.cell (p:=⟨b,off+q,none⟩) (by show b<_;omega)).trans c0⟩;have hm1:=Int.tmod_lt_of_pos x (show (0:Int)<m by omega);have hm2:-m<x.tmod m:=by
  have h:=Int.tmod_lt_of_pos (-x) (show (0:Int)<m by omega);rw[Int.neg_tmod]at h;omega
 clear h1 h5 c0;go_enter Tryz.func54,Tryz.ntmps54;go_wp2_with fail;refine wp_region_held_drew (S:=fun wq=>wq.cell? ⟨p,0,none⟩=some (.slice (some ⟨b,off,none⟩) len c)∧wq.cell? ⟨p,1,none⟩=some (.int .i64 (q:Int))∧wq.cell? ⟨b,off+q,none⟩=some (.int .i64 x)) (by kernel_rfl) (HK.out _ bR.drew) (fun _=>?_);have hB9:Below w.heap.size w w.drew:=bR.drew;refine tk 0 (HK.out _ hB9) ?_
 try simp only[pK]
 iterate 13 (refine ts (HK.out _ hB9) ?_;try simp only[pK])
 refine (wD ?_) _;obtain⟨e0,e1,e2⟩:=HK.out _ bR.drew;go_wp2_with fail;refine wp_region_held_drew (S:=fun wq=>wq.cell? ⟨p,0,none⟩=some (.slice (some ⟨b,off,none⟩) len c)∧wq.cell? ⟨p,1,none⟩=some (.int .i64 (q:Int))∧wq.cell? ⟨b,off+q,none⟩=some (.int .i64 x)) (by kernel_rfl) (HK.out _ bR.drew.drew) (fun _=>?_);have hB9:Below w.heap.size w w.drew.drew:=bR.drew.drew;refine tk 0 (HK.out _ hB9) ?_
 try simp only[pK]
 iterate 12 (refine ts (HK.out _ hB9) ?_;try simp only[pK])
 refine (wD ?_) _;have hmr:=xI (aN hm1 hm2);clear hm1 hm2 e0 e1 e2;obtain⟨e0,e1,e2⟩:=HK.out _ hB9;have z1:w.drew.drew.frozen? ⟨p,1,none⟩=false:=Lib.frozen_of_heap (show w.drew.drew.heap[p]?=_ from H1.out) 1;have hwq:IntKind.i64.wrap ((q:Int)+1)=(q:Int)+1:=IntWalk.i64_in _ (by omega);have hfin:Hid (SrcOk h p (w.drew.drew.setCell ⟨p,1,none⟩ (.int .i64 ((q:Int)+1)))∧Eff p w (w.drew.drew.setCell ⟨p,1,none⟩ (.int .i64 ((q:Int)+1)))):=xI (by
  have hob:=heap_setCell_same w.drew.drew p 1 _ _ (.int .i64 ((q:Int)+1)) H1.out;have hbw:Below p w (w.drew.drew.setCell ⟨p,1,none⟩ (.int .i64 ((q:Int)+1))):=(Below.refl p w).drew.drew.setCell (p:=⟨p,1,none⟩) lR _;refine⟨⟨_,len,c,q+1,by simpa using hob,h2,by omega,by unfold maxLen;omega,H5.out.on (hbw.mono h2) fun _ _ h=>h⟩,hbw,fun b hb _=>heap_setCell_other _ _ _ _ hb⟩)
 generalize x.tmod m=t at hmr;have ht:=hmr.out;by_cases hneg:t<0
 ·have hw2:IntKind.i64.wrap (t+m)=t+m:=IntWalk.i64_in _ (by omega);go_wp2;go_ret;exact⟨t+m,rfl,by omega,by omega,hfin.out⟩
 ·go_wp2;go_ret;exact⟨t,rfl,by omega,by omega,hfin.out⟩
end Go.Proofs.YtcjgaohblaidjaaGreatDoor
