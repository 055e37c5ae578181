/- What the document's Compare returns: the .. -/
import Derived.Test.YteedihhdcbepmaaGreatTsZ
import Derived.Test.YteedihhdcbepmaaGreatTs02
set_option maxRecDepth 100000
set_option maxHeartbeats 12800000
set_option linter.all false
open Go.Value renaming slice→vS,int→vI,string→vT
open Go.IntKind renaming i64→i6
open Go.Proofs.Tryz
open Go.Proofs.Tryz renaming prog→tP
namespace Go.Proofs.YteedihhdcbepmaaGreat
open Go Go.RowKit
theorem zIo (a b:List UInt8) (w:World) :
  Calls tP 154 #[vT ⟨a.toArray⟩,vT ⟨b.toArray⟩] w fun e w'=>e=.returned (vI i6 (cmpT a b))/\bW w w':=by
 refine (zCv a b w).mono ?_;rintro e w' ⟨rfl,rfl⟩;exact⟨rfl,Bw _ _⟩
theorem zKu {k:Nat}{w:World}{H:Nat}{ents:List En}(j:Nat) (cs:List Value) (h:∃ args fails result,ents[j]?=some (.mk args fails result)/\∃ ua rs,cs=ua::.bool fails::rs/\RowP w H 7 ua args.length (fun j cs=>∃ x,args[j]?=some x/\VS k w H x cs)/\VS k w H result rs):∃ x,ents[j]?=some x/\ES k w H x cs:=by
 obtain⟨args,fails,result,hx,ua,rs,a,ha,hr⟩:=h;exact⟨_,hx,args,fails,result,rfl,ua,rs,a,ha,hr⟩
theorem zCk:∀ (k:Nat) (a b:Vl) (ca cb:List Value) (w:World),VS k w w.heap.size a ca->VS k w w.heap.size b cb->Calls tP 171 #[.agg ca.toArray,.agg cb.toArray] w fun e w'=>e=.returned (vI i6 (cmpV a b))/\bW w w':=by
 intro k
 induction k with
 | zero=>intro a b ca cb w h;exact h.elim
 | succ k ih=>
  intro a b ca cb w h h';have IH:=xI ih;clear ih;obtain⟨kd,it,tx,o,n,m,l⟩:=a;obtain⟨kd',it',tx',g,keys',f,d⟩:=b;obtain⟨uk,uy,ue,ul,rfl,_,_,_,hk,hy,he,hl⟩:=h;obtain⟨a7,a5,a8,a6,rfl,_,_,_,Z,T,aa,X⟩:=h';obtain⟨A,c,rfl,bk⟩:=hk.form;obtain⟨A',c',rfl,aW⟩:=Z.form;obtain⟨Y,cy,rfl,aU⟩:=hy.form;obtain⟨Y',S,rfl,aT⟩:=T.form;obtain⟨E,ce,rfl,be⟩:=he.form;obtain⟨E',I,rfl,aX⟩:=aa.form;obtain⟨L,cl,rfl,bl⟩:=hl.form;obtain⟨L',F,rfl,aV⟩:=X.form;unfold maxLen at bk aW aU aT be aX bl aV;have HT:Hid (cmpV (.mk kd it tx o n m l) (.mk kd' it' tx' g keys' f d)=thn (cmpI kd kd') (thn (cmpI it it') (thn (cmpT tx tx') (thn (cmpI n.length keys'.length) (thn (cmpL cmpK n keys') (thn (thn (cmpI o.length g.length) (cmpVs o g)) (thn (cmpI m.length f.length) (thn (cmpL cmpE m f) (thn (cmpI l.length d.length) (cmpL cmpT l d)))))))))):=xI (by simp only[cmpV,zOa,zBc]);have HY:=xI hy;have aY:=xI T;have a4:=xI he;have ag:=xI aa;have a3:=xI hl;have ad:=xI X;have HK:Hid (∀ U,bW w U->Calls tP 182 #[vS A o.length c,vS A' g.length c'] U fun e w'=>e=.returned (vI i6 (thn (cmpI o.length g.length) (cmpVs o g)))/\bW U w'):=xI fun V hV=>zGr k IH A A' c c' o g V ((hk.on hV fun _ _ ⟨x,h1,h2⟩=>⟨x,h1,VS.up hV.size lR (VS.on hV h2)⟩).mono hV.size fun _ _ h=>h) ((Z.on hV fun _ _ ⟨x,h1,h2⟩=>⟨x,h1,VS.up hV.size lR (VS.on hV h2)⟩).mono hV.size fun _ _ h=>h);have af:Hid (∀ (a b:En) (ca cb:List Value) (w:World),ES k w w.heap.size a ca->ES k w w.heap.size b cb->Calls tP 155 #[.agg ca.toArray,.agg cb.toArray] w fun e w'=>e=.returned (vI i6 (cmpE a b))/\bW w w'):=xI fun a b ca cb w h1 h2=>zC3 k IH a b ca cb w h1 h2;clear hk Z hy T he aa hl X IH;by_cases hkd:kd=kd'
  case neg=>
   have hq:(kd != kd')=true:=by rw[Dp];exact hkd
   have HU:Hid (cmpV (.mk kd it tx o n m l) (.mk kd' it' tx' g keys' f d)=cmpI kd kd'):=xI (by rw[HT.out];exact zBw (fun h=>hkd (zAo.1 h)) _);clear hkd;go_enter func171,ntmps171;go_wp2_with (go_at_call 190;refine (zDd _ _ _).mono ?_;rintro e w1 ⟨rfl,rfl⟩)
   all_goals go_ret
   all_goals exact⟨ret_i HU.out.symm,(yR.alloc lR _).alloc (by simp) _⟩
  subst hkd;replace HT:Hid (cmpV (.mk kd it tx o n m l) (.mk kd it' tx' g keys' f d)=thn (cmpI it it') (thn (cmpT tx tx') (thn (cmpI n.length keys'.length) (thn (cmpL cmpK n keys') (thn (thn (cmpI o.length g.length) (cmpVs o g)) (thn (cmpI m.length f.length) (thn (cmpL cmpE m f) (thn (cmpI l.length d.length) (cmpL cmpT l d))))))))):=xI (by rw[HT.out,zAo.2 rfl];rfl);by_cases hit:it=it'
  case neg=>
   have hq:(it != it')=true:=by rw[Dp];exact hit
   have HU:Hid (cmpV (.mk kd it tx o n m l) (.mk kd it' tx' g keys' f d)=cmpI it it'):=xI (by rw[HT.out];exact zBw (fun h=>hit (zAo.1 h)) _);clear hit;go_enter func171,ntmps171;go_wp2_with (go_at_call 153;refine (zEe _ _ _).mono ?_;rintro e w1 ⟨rfl,rfl⟩)
   all_goals go_ret
   all_goals exact⟨ret_i HU.out.symm,(yR.alloc lR _).alloc (by simp) _⟩
  subst hit;replace HT:Hid (cmpV (.mk kd it tx o n m l) (.mk kd it tx' g keys' f d)=thn (cmpT tx tx') (thn (cmpI n.length keys'.length) (thn (cmpL cmpK n keys') (thn (thn (cmpI o.length g.length) (cmpVs o g)) (thn (cmpI m.length f.length) (thn (cmpL cmpE m f) (thn (cmpI l.length d.length) (cmpL cmpT l d)))))))):=xI (by rw[HT.out,zAo.2 rfl];rfl);by_cases htx:tx=tx'
  case neg=>
   have hq:(!tx==tx')=true:=by simp[htx]
   have HU:Hid (cmpV (.mk kd it tx o n m l) (.mk kd it tx' g keys' f d)=cmpT tx tx'):=xI (by rw[HT.out];exact zBw (fun h=>htx (zBu.1 h)) _);go_enter func171,ntmps171;go_wp2_with (go_at_call 154;refine (zCv _ _ _).mono ?_;rintro e w1 ⟨rfl,rfl⟩)
   all_goals go_ret
   all_goals exact⟨ret_i HU.out.symm,(yR.alloc lR _).alloc (by simp) _⟩
  subst htx;replace HT:Hid (cmpV (.mk kd it tx o n m l) (.mk kd it tx g keys' f d)=thn (cmpI n.length keys'.length) (thn (cmpL cmpK n keys') (thn (thn (cmpI o.length g.length) (cmpVs o g)) (thn (cmpI m.length f.length) (thn (cmpL cmpE m f) (thn (cmpI l.length d.length) (cmpL cmpT l d))))))):=xI (by rw[HT.out,zBu.2 rfl];rfl);by_cases hky:n.length=keys'.length
  case neg=>
   have hq:((n.length:Int) != (keys'.length:Int))=true:=by rw[Dp];omega
   have HU:Hid (cmpV (.mk kd it tx o n m l) (.mk kd it tx g keys' f d)=cmpI n.length keys'.length):=xI (by rw[HT.out];exact zBw (fun h=>hky (by have:=zAo.1 h;omega)) _);clear hky;go_enter func171,ntmps171;go_wp2_with (go_at_call 190;refine (zDd _ _ _).mono ?_;rintro e w1 ⟨rfl,rfl⟩)
   all_goals go_ret
   all_goals exact⟨ret_i HU.out.symm,(yR.alloc lR _).alloc (by simp) _⟩
  replace HT:Hid (cmpV (.mk kd it tx o n m l) (.mk kd it tx g keys' f d)=thn (cmpL cmpK n keys') (thn (thn (cmpI o.length g.length) (cmpVs o g)) (thn (cmpI m.length f.length) (thn (cmpL cmpE m f) (thn (cmpI l.length d.length) (cmpL cmpT l d)))))):=xI (by rw[HT.out,zAo.2 (show (n.length:Int)=keys'.length by omega)];rfl);have hq:((n.length:Int) != (keys'.length:Int))=false:=by rw[Dc];omega
  have ae:=xI hky;clear hky;obtain⟨W,hW⟩:∃ W,W=(w.alloc (oV kd it ⟨tx.toArray⟩ A o.length c Y n.length cy E m.length ce L l.length cl)).alloc (oV kd it ⟨tx.toArray⟩ A' g.length c' Y' keys'.length S E' f.length I L' d.length F):=⟨_,rfl⟩;have hb:bW w W:=by rw[hW];exact (yR.alloc lR _).alloc (by simp) _
  have hz:W.heap.size=w.heap.size+2:=by rw[hW];simp
  have q0:W.cell? (aH w 0)=some (vI i6 kd):=by rw[hW];simp
  have q1:W.cell? (aH w 1)=some (vI i6 it):=by rw[hW];simp
  have q2:W.cell? (aH w 2)=some (vT ⟨tx.toArray⟩):=by rw[hW];simp
  have q3:W.cell? (aH w 3)=some (vS A o.length c):=by rw[hW];simp
  have q4:W.cell? (aH w 4)=some (vS Y n.length cy):=by rw[hW];simp
  have q5:W.cell? (aH w 5)=some (vS E m.length ce):=by rw[hW];simp
  have q6:W.cell? (aH w 6)=some (vS L l.length cl):=by rw[hW];simp
  have r0:W.cell? (aE w 0)=some (vI i6 kd):=by rw[hW];simp
  have r1:W.cell? (aE w 1)=some (vI i6 it):=by rw[hW];simp
  have r2:W.cell? (aE w 2)=some (vT ⟨tx.toArray⟩):=by rw[hW];simp
  have r3:W.cell? (aE w 3)=some (vS A' g.length c'):=by rw[hW];simp
  have r4:W.cell? (aE w 4)=some (vS Y' keys'.length S):=by rw[hW];simp
  have r5:W.cell? (aE w 5)=some (vS E' f.length I):=by rw[hW];simp
  have r6:W.cell? (aE w 6)=some (vS L' d.length F):=by rw[hW];simp
  have HQ:Hid (W.cell? (aH w 3)=some (vS A o.length c)/\W.cell? (aH w 5)=some (vS E m.length ce)/\W.cell? (aH w 6)=some (vS L l.length cl)/\W.cell? (aE w 3)=some (vS A' g.length c')/\W.cell? (aE w 5)=some (vS E' f.length I)/\W.cell? (aE w 6)=some (vS L' d.length F)):=xI ⟨q3,q5,q6,r3,r5,r6⟩;have HB:=xI hb;have D:w.heap.size<W.heap.size:=by omega
  have s:w.heap.size+1<W.heap.size:=by omega
  clear hb hz;go_enter func171,ntmps171;go_wp2_with fail;rw[<-hW];clear hW q0 q1 q2 q3 q5 q6 r0 r1 r2 r3 r5 r6 hq
  go_loopw [5,6] (fun i _ wr=>∃ j:Nat,i=vI i6 j/\j<=n.length/\cmpL cmpK (n.take j) (keys'.take j)=0/\bW W wr) (fun i _ _=>n.length-(intOf i).toNat)
  case atStart=>exact⟨0,rfl,by omega,by simp[cmpL],Bw _ _⟩
  case round=>
   obtain⟨j,rfl,hj,h0,hb⟩:=hrel;have e4:wr.cell? (aH w 4)=some (vS Y n.length cy):=(hb.cell (p:=(aH w 4)) D).trans q4;have f4:wr.cell? (aE w 4)=some (vS Y' keys'.length S):=(hb.cell (p:=(aE w 4)) s).trans r4;by_cases hjn:j<n.length
   ·have t:=HB.out.trans (hb.mono HB.out.size);obtain⟨b,B,R,x0,x1,hu,av,⟨x,hx,hv⟩,c0,c1⟩:=(HY.out.on t (fun _ _ h=>h)).at2 hjn;obtain⟨b',q,J,y0,y1,O,Q,⟨y,hy,M⟩,d0,d1⟩:=(aY.out.on t (fun _ _ h=>h)).at2 (show j<keys'.length by have:=ae.out;omega);injection hu with hA _ hcap;subst hA hcap;injection O with hA' _ hcap';subst hA' hcap';obtain⟨hf,-,-⟩:=hv;simp only[Bb,and_true]at hf;obtain⟨rfl,rfl⟩:=hf;obtain⟨hf,-,-⟩:=M;simp only[Bb,and_true]at hf;obtain⟨rfl,rfl⟩:=hf;have kn:(j:Int)<(n.length:Int):=by omega
    have km:(j:Int)<(keys'.length:Int):=by have:=ae.out;omega
    have k0:(0:Int)<=(j:Int):=by omega
    have HS:=xI (zGh hx hy h0);have HV:=xI hb;have hz:=hb.size;have au:=t.size;have u:Hid (∀ wq,bW wr wq->wq.cell? (aH w 4)=some (vS (some (aD b B)) n.length cy)/\wq.cell? (aE w 4)=some (vS (some (aD b' q)) keys'.length S)/\wq.cell? (aD b (B+j*2))=some (vI i6 x.1)/\wq.cell? (aD b (B+j*2+1))=some (vT ⟨x.2.toArray⟩)/\wq.cell? (aD b' (q+j*2))=some (vI i6 y.1)/\wq.cell? (aD b' (q+j*2+1))=some (vT ⟨y.2.toArray⟩)):=xI (fun wq h=>⟨(h.cell (p:=(aD _ _)) (by show w.heap.size<_;omega)).trans e4,(h.cell (p:=(aD _ _)) (by show w.heap.size+1<_;omega)).trans f4,(h.cell (p:=(aD _ _)) (by show b<_;omega)).trans c0,(h.cell (p:=(aD _ _)) (by show b<_;omega)).trans c1,(h.cell (p:=(aD _ _)) (by show b'<_;omega)).trans d0,(h.cell (p:=(aD _ _)) (by show b'<_;omega)).trans d1⟩);clear hx hy h0 hb t c0 c1 d0 d1;go_wp2_with fail;refine wR u (by kernel_rfl) (u.out _ yR.drew) (fun _=>?_);have C:bW wr wr.drew:=yR.drew;refine oT 0 (u.out _ C) ?_
    (iterate 9 refine oY (u.out _ C) ?_)
    refine oO 10 fun K hK=>?_;go_simp;refine (zCx x y _).mono ?_;rintro e w10 ⟨rfl,hb10⟩;have r:bW wr w10:=zDi C lR hb10;clear hb10 C;refine hK _ _ (u.out _ r) (oP ?_);clear hK K;refine oT 11 (u.out _ r) ?_;refine wD ?_;generalize cmpK x y=z at HS;by_cases hz0:z=0
    ·have q2:(z != 0)=false:=by rw[Dc];exact hz0
     go_wp2
     go_roundw
     case rel=>exact⟨j+1,by go_num,by omega,HS.out.2 hz0,HV.out.trans (r.mono HV.out.size)⟩
     case measure=>simp[intOf];omega
    ·have q2:(z != 0)=true:=by rw[Dp];exact hz0
     have HU:Hid (cmpV (.mk kd it tx o n m l) (.mk kd it tx g keys' f d)=z):=xI (by rw[HT.out,HS.out.1 hz0,zBw hz0]);have N:=HB.out.trans ((HV.out.trans (r.mono HV.out.size)).mono HB.out.size);go_wp2;go_ret;exact⟨ret_i HU.out.symm,N⟩
   ·have H:n.take j=n:=B8 (by omega);have G:keys'.take j=keys':=B8 (by have:=ae.out;omega);rw[H,G]at h0;replace HT:Hid (cmpV (.mk kd it tx o n m l) (.mk kd it tx g keys' f d)=thn (thn (cmpI o.length g.length) (cmpVs o g)) (thn (cmpI m.length f.length) (thn (cmpL cmpE m f) (thn (cmpI l.length d.length) (cmpL cmpT l d))))):=xI (by rw[HT.out,h0];rfl);clear h0 H G q4 r4;have v:=xI (HB.out.trans (hb.mono HB.out.size));obtain⟨q3,q5,q6,r3,r5,r6⟩:=HQ.out;have e3:wr.cell? (aH w 3)=some (vS A o.length c):=(hb.cell (p:=(aH w 3)) D).trans q3;have f3:wr.cell? (aE w 3)=some (vS A' g.length c'):=(hb.cell (p:=(aE w 3)) s).trans r3;have e5:wr.cell? (aH w 5)=some (vS E m.length ce):=(hb.cell (p:=(aH w 5)) D).trans q5;have f5:wr.cell? (aE w 5)=some (vS E' f.length I):=(hb.cell (p:=(aE w 5)) s).trans r5;have e6:wr.cell? (aH w 6)=some (vS L l.length cl):=(hb.cell (p:=(aH w 6)) D).trans q6;have f6:wr.cell? (aE w 6)=some (vS L' d.length F):=(hb.cell (p:=(aE w 6)) s).trans r6;have P:=hb.size;have HF:Hid (wr.cell? (aH w 5)=some (vS E m.length ce)/\wr.cell? (aH w 6)=some (vS L l.length cl)/\wr.cell? (aE w 5)=some (vS E' f.length I)/\wr.cell? (aE w 6)=some (vS L' d.length F)):=xI ⟨e5,e6,f5,f6⟩;clear q3 q5 q6 r3 r5 r6 e5 e6 f5 f6 HQ hb;replace D:w.heap.size<wr.heap.size:=by omega
    replace s:w.heap.size+1<wr.heap.size:=by omega
    clear P;have hv:=HK.out wr v.out;generalize thn (cmpI (o.length:Int) (g.length:Int)) (cmpVs o g)=z at hv HT;go_wp2_with (go_at_call 182;refine hv.mono ?_;rintro e w1 ⟨rfl,hb1⟩;refine Hid.out ?_);refine xI ?_;clear hv e3 f3 e4 f4 hjn;replace v:=xI (v.out.trans (hb1.mono v.out.size));by_cases hz:z=0
    case neg=>
     have hq:(z != 0)=true:=by rw[Dp];exact hz
     have HU:Hid (cmpV (.mk kd it tx o n m l) (.mk kd it tx g keys' f d)=z):=xI (by rw[HT.out];exact zBw hz _);clear hz hb1;go_wp2;go_ret;exact⟨ret_i HU.out.symm,v.out⟩
    subst hz;replace HT:Hid (cmpV (.mk kd it tx o n m l) (.mk kd it tx g keys' f d)=thn (cmpI m.length f.length) (thn (cmpL cmpE m f) (thn (cmpI l.length d.length) (cmpL cmpT l d)))):=xI (by rw[HT.out];rfl);obtain⟨e5,e6,f5,f6⟩:=HF.out;have q5:w1.cell? (aH w 5)=some (vS E m.length ce):=(hb1.cell (p:=(aH w 5)) D).trans e5;have r5:w1.cell? (aE w 5)=some (vS E' f.length I):=(hb1.cell (p:=(aE w 5)) s).trans f5;have q6:w1.cell? (aH w 6)=some (vS L l.length cl):=(hb1.cell (p:=(aH w 6)) D).trans e6;have r6:w1.cell? (aE w 6)=some (vS L' d.length F):=(hb1.cell (p:=(aE w 6)) s).trans f6;have P:=hb1.size;replace D:w.heap.size<w1.heap.size:=by omega
    replace s:w.heap.size+1<w1.heap.size:=by omega
    have HQ:Hid (w1.cell? (aH w 6)=some (vS L l.length cl)/\w1.cell? (aE w 6)=some (vS L' d.length F)):=xI ⟨q6,r6⟩;clear e5 e6 f5 f6 q6 r6 hb1 P HF;by_cases hen:m.length=f.length
    case neg=>
     have hq:((m.length:Int) != (f.length:Int))=true:=by rw[Dp];omega
     have HU:Hid (cmpV (.mk kd it tx o n m l) (.mk kd it tx g keys' f d)=cmpI m.length f.length):=xI (by rw[HT.out];exact zBw (fun h=>hen (by have:=zAo.1 h;omega)) _);clear hen;go_wp2_with (go_at_call 190;refine (zDd _ _ _).mono ?_;rintro e w1 ⟨rfl,rfl⟩)
     all_goals go_ret
     all_goals exact⟨ret_i HU.out.symm,v.out⟩
    replace HT:Hid (cmpV (.mk kd it tx o n m l) (.mk kd it tx g keys' f d)=thn (cmpL cmpE m f) (thn (cmpI l.length d.length) (cmpL cmpT l d))):=xI (by rw[HT.out,zAo.2 (show (m.length:Int)=f.length by omega)];rfl);have hq:((m.length:Int) != (f.length:Int))=false:=by rw[Dc];omega
    have ah:=xI hen;clear hen;go_wp2_with fail;clear hq
    go_loopw [8,9] (fun i _ wr=>∃ j:Nat,i=vI i6 j/\j<=m.length/\cmpL cmpE (m.take j) (f.take j)=0/\bW w1 wr) (fun i _ _=>m.length-(intOf i).toNat)
    case atStart=>exact⟨0,rfl,by omega,by simp[cmpL],Bw _ _⟩
    case round=>
     obtain⟨j,rfl,hj,h0,hb⟩:=hrel;have e4:wr.cell? (aH w 5)=some (vS E m.length ce):=(hb.cell (p:=(aH w 5)) D).trans q5;have f4:wr.cell? (aE w 5)=some (vS E' f.length I):=(hb.cell (p:=(aE w 5)) s).trans r5;by_cases hjn:j<m.length
     ·have t:=v.out.trans (hb.mono v.out.size);obtain⟨b,B,R,x0,x1,x2,x3,x4,x5,x6,x7,x8,hu,av,⟨x,hx,hv⟩,c0,c1,c2,c3,c4,c5,c6,c7,c8⟩:=((a4.out.on t (fun _ _ h=>h)).sub (fun _ h=>h) (zKu)).at9 hjn;obtain⟨b',q,J,y0,y1,y2,y3,y4,y5,y6,y7,y8,O,Q,⟨y,hy,M⟩,d0,d1,d2,d3,d4,d5,d6,d7,d8⟩:=((ag.out.on t (fun _ _ h=>h)).sub (fun _ h=>h) (zKu)).at9 (show j<f.length by have:=ah.out;omega);injection hu with hA _ hcap;subst hA hcap;injection O with hA' _ hcap';subst hA' hcap';obtain⟨aS,ar,aI,g1,a1,i1,s1,aQ,ap,aF,aO,an,aB,aM,al,az,aK,aj,ax,hf⟩:=hv.form9;simp only[Bb,and_true]at hf;obtain⟨rfl,rfl,rfl,rfl,rfl,rfl,rfl,rfl,rfl⟩:=hf;obtain⟨aR,aq,aG,g2,a2,i2,s2,aP,ao,aC,aN,am,aA,aL,ak,ay,aJ,ai,aw,hf⟩:=M.form9;simp only[Bb,and_true]at hf;obtain⟨rfl,rfl,rfl,rfl,rfl,rfl,rfl,rfl,rfl⟩:=hf;have kn:(j:Int)<(m.length:Int):=by omega
      have km:(j:Int)<(f.length:Int):=by have:=ah.out;omega
      have k0:(0:Int)<=(j:Int):=by omega
      have HS:=xI (zGh hx hy h0);have HV:=xI hb;have hz:=hb.size;have au:=t.size;have u:Hid (∀ wq,bW wr wq->wq.cell? (aH w 5)=some (vS (some (aD b B)) m.length ce)/\wq.cell? (aE w 5)=some (vS (some (aD b' q)) f.length I)/\wq.cell? (aD b (B+j*9))=some (vS aS ar aI)/\wq.cell? (aD b (B+j*9+1))=some (.bool g1)/\wq.cell? (aD b (B+j*9+2))=some (vI i6 a1)/\wq.cell? (aD b (B+j*9+3))=some (vI i6 i1)/\wq.cell? (aD b (B+j*9+4))=some (vT s1)/\wq.cell? (aD b (B+j*9+5))=some (vS aQ ap aF)/\wq.cell? (aD b (B+j*9+6))=some (vS aO an aB)/\wq.cell? (aD b (B+j*9+7))=some (vS aM al az)/\wq.cell? (aD b (B+j*9+8))=some (vS aK aj ax)/\wq.cell? (aD b' (q+j*9))=some (vS aR aq aG)/\wq.cell? (aD b' (q+j*9+1))=some (.bool g2)/\wq.cell? (aD b' (q+j*9+2))=some (vI i6 a2)/\wq.cell? (aD b' (q+j*9+3))=some (vI i6 i2)/\wq.cell? (aD b' (q+j*9+4))=some (vT s2)/\wq.cell? (aD b' (q+j*9+5))=some (vS aP ao aC)/\wq.cell? (aD b' (q+j*9+6))=some (vS aN am aA)/\wq.cell? (aD b' (q+j*9+7))=some (vS aL ak ay)/\wq.cell? (aD b' (q+j*9+8))=some (vS aJ ai aw)):=xI (fun wq h=>⟨(h.cell (p:=(aD _ _)) (by show w.heap.size<_;omega)).trans e4,(h.cell (p:=(aD _ _)) (by show w.heap.size+1<_;omega)).trans f4,(h.cell (p:=(aD _ _)) (by show b<_;omega)).trans c0,(h.cell (p:=(aD _ _)) (by show b<_;omega)).trans c1,(h.cell (p:=(aD _ _)) (by show b<_;omega)).trans c2,(h.cell (p:=(aD _ _)) (by show b<_;omega)).trans c3,(h.cell (p:=(aD _ _)) (by show b<_;omega)).trans c4,(h.cell (p:=(aD _ _)) (by show b<_;omega)).trans c5,(h.cell (p:=(aD _ _)) (by show b<_;omega)).trans c6,(h.cell (p:=(aD _ _)) (by show b<_;omega)).trans c7,(h.cell (p:=(aD _ _)) (by show b<_;omega)).trans c8,(h.cell (p:=(aD _ _)) (by show b'<_;omega)).trans d0,(h.cell (p:=(aD _ _)) (by show b'<_;omega)).trans d1,(h.cell (p:=(aD _ _)) (by show b'<_;omega)).trans d2,(h.cell (p:=(aD _ _)) (by show b'<_;omega)).trans d3,(h.cell (p:=(aD _ _)) (by show b'<_;omega)).trans d4,(h.cell (p:=(aD _ _)) (by show b'<_;omega)).trans d5,(h.cell (p:=(aD _ _)) (by show b'<_;omega)).trans d6,(h.cell (p:=(aD _ _)) (by show b'<_;omega)).trans d7,(h.cell (p:=(aD _ _)) (by show b'<_;omega)).trans d8⟩);have a0:Hid (∀ wq,bW wr wq->ES k wq wq.heap.size x [vS aS ar aI,.bool g1,vI i6 a1,vI i6 i1,vT s1,vS aQ ap aF,vS aO an aB,vS aM al az,vS aK aj ax]):=xI (fun wq h=>ES.up (Ba t.size h.size) lR (ES.on (t.trans (h.mono t.size)) hv));have aZ:Hid (∀ wq,bW wr wq->ES k wq wq.heap.size y [vS aR aq aG,.bool g2,vI i6 a2,vI i6 i2,vT s2,vS aP ao aC,vS aN am aA,vS aL ak ay,vS aJ ai aw]):=xI (fun wq h=>ES.up (Ba t.size h.size) lR (ES.on (t.trans (h.mono t.size)) M));clear hx hy h0 hb t hv M c0 c1 c2 c3 c4 c5 c6 c7 c8 d0 d1 d2 d3 d4 d5 d6 d7 d8;go_wp2_with fail;refine wR u (by kernel_rfl) (u.out _ yR.drew) (fun _=>?_);have C:bW wr wr.drew:=yR.drew;refine oT 0 (u.out _ C) ?_
      (iterate 9 refine oY (u.out _ C) ?_)
      refine oO 10 fun K hK=>?_;go_simp;refine (af.out x y _ _ _ (a0.out _ C) (aZ.out _ C)).mono ?_;rintro e w10 ⟨rfl,hb10⟩;have r:bW wr w10:=zDi C lR hb10;clear hb10 C;refine hK _ _ (u.out _ r) (oP ?_);clear hK K;refine oT 11 (u.out _ r) ?_;refine wD ?_;generalize cmpE x y=z at HS;by_cases hz0:z=0
      ·have q2:(z != 0)=false:=by rw[Dc];exact hz0
       go_wp2
       go_roundw
       case rel=>exact⟨j+1,by go_num,by omega,HS.out.2 hz0,HV.out.trans (r.mono HV.out.size)⟩
       case measure=>simp[intOf];omega
      ·have q2:(z != 0)=true:=by rw[Dp];exact hz0
       have HU:Hid (cmpV (.mk kd it tx o n m l) (.mk kd it tx g keys' f d)=z):=xI (by rw[HT.out,HS.out.1 hz0,zBw hz0]);have N:=v.out.trans ((HV.out.trans (r.mono HV.out.size)).mono v.out.size);go_wp2;go_ret;exact⟨ret_i HU.out.symm,N⟩
     ·have H:m.take j=m:=B8 (by omega);have G:f.take j=f:=B8 (by have:=ah.out;omega);rw[H,G]at h0;replace HT:Hid (cmpV (.mk kd it tx o n m l) (.mk kd it tx g keys' f d)=thn (cmpI l.length d.length) (cmpL cmpT l d)):=xI (by rw[HT.out,h0];rfl);clear h0 H G q5 r5;replace v:=xI (v.out.trans (hb.mono v.out.size));obtain⟨e6,f6⟩:=HQ.out;have q6:wr.cell? (aH w 6)=some (vS L l.length cl):=(hb.cell (p:=(aH w 6)) D).trans e6;have r6:wr.cell? (aE w 6)=some (vS L' d.length F):=(hb.cell (p:=(aE w 6)) s).trans f6;have P:=hb.size;replace D:w.heap.size<wr.heap.size:=by omega
      replace s:w.heap.size+1<wr.heap.size:=by omega
      clear e6 f6 hb P HQ;by_cases hla:l.length=d.length
      case neg=>
       have hq:((l.length:Int) != (d.length:Int))=true:=by rw[Dp];omega
       have HU:Hid (cmpV (.mk kd it tx o n m l) (.mk kd it tx g keys' f d)=cmpI l.length d.length):=xI (by rw[HT.out];exact zBw (fun h=>hla (by have:=zAo.1 h;omega)) _);clear hla;go_wp2_with (go_at_call 190;refine (zDd _ _ _).mono ?_;rintro e w1 ⟨rfl,rfl⟩)
       all_goals go_ret
       all_goals exact⟨ret_i HU.out.symm,v.out⟩
      replace HT:Hid (cmpV (.mk kd it tx o n m l) (.mk kd it tx g keys' f d)=cmpL cmpT l d):=xI (by rw[HT.out,zAo.2 (show (l.length:Int)=d.length by omega)];rfl);have hq:((l.length:Int) != (d.length:Int))=false:=by rw[Dc];omega
      have ab:=xI hla;clear hla;rename World=>w2;go_wp2_with fail;clear hq
      go_loopw [10,11] (fun i _ wr=>∃ j:Nat,i=vI i6 j/\j<=l.length/\cmpL cmpT (l.take j) (d.take j)=0/\bW w2 wr) (fun i _ _=>l.length-(intOf i).toNat)
      case atStart=>exact⟨0,rfl,by omega,by simp[cmpL],Bw _ _⟩
      case round=>
       obtain⟨j,rfl,hj,h0,hb⟩:=hrel;have e4:wr.cell? (aH w 6)=some (vS L l.length cl):=(hb.cell (p:=(aH w 6)) D).trans q6;have f4:wr.cell? (aE w 6)=some (vS L' d.length F):=(hb.cell (p:=(aE w 6)) s).trans r6;by_cases hjn:j<l.length
       ·have t:=v.out.trans (hb.mono v.out.size);obtain⟨b,B,R,x0,hu,av,⟨x,hx,hv⟩,c0⟩:=(a3.out.on t (fun _ _ h=>h)).at1 hjn;obtain⟨b',q,J,y0,O,Q,⟨y,hy,M⟩,d0⟩:=(ad.out.on t (fun _ _ h=>h)).at1 (show j<d.length by have:=ab.out;omega);injection hu with hA _ hcap;subst hA hcap;injection O with hA' _ hcap';subst hA' hcap';obtain⟨hf,-⟩:=hv;simp only[Bb,and_true]at hf;obtain rfl:=hf;obtain⟨hf,-⟩:=M;simp only[Bb,and_true]at hf;obtain rfl:=hf;have kn:(j:Int)<(l.length:Int):=by omega
        have km:(j:Int)<(d.length:Int):=by have:=ab.out;omega
        have k0:(0:Int)<=(j:Int):=by omega
        have HS:=xI (zGh hx hy h0);have HV:=xI hb;have hz:=hb.size;have au:=t.size;have u:Hid (∀ wq,bW wr wq->wq.cell? (aH w 6)=some (vS (some (aD b B)) l.length cl)/\wq.cell? (aE w 6)=some (vS (some (aD b' q)) d.length F)/\wq.cell? (aD b (B+j))=some (vT ⟨x.toArray⟩)/\wq.cell? (aD b' (q+j))=some (vT ⟨y.toArray⟩)):=xI (fun wq h=>⟨(h.cell (p:=(aD _ _)) (by show w.heap.size<_;omega)).trans e4,(h.cell (p:=(aD _ _)) (by show w.heap.size+1<_;omega)).trans f4,(h.cell (p:=(aD _ _)) (by show b<_;omega)).trans c0,(h.cell (p:=(aD _ _)) (by show b'<_;omega)).trans d0⟩);clear hx hy h0 hb t c0 d0;go_wp2_with fail;refine wR u (by kernel_rfl) (u.out _ yR.drew) (fun _=>?_);have C:bW wr wr.drew:=yR.drew;refine oT 0 (u.out _ C) ?_
        (iterate 9 refine oY (u.out _ C) ?_)
        refine oO 10 fun K hK=>?_;go_simp;refine (zIo x y _).mono ?_;rintro e w10 ⟨rfl,hb10⟩;have r:bW wr w10:=zDi C lR hb10;clear hb10 C;refine hK _ _ (u.out _ r) (oP ?_);clear hK K;refine oT 11 (u.out _ r) ?_;refine wD ?_;generalize cmpT x y=z at HS;by_cases hz0:z=0
        ·have q2:(z != 0)=false:=by rw[Dc];exact hz0
         go_wp2
         go_roundw
         case rel=>exact⟨j+1,by go_num,by omega,HS.out.2 hz0,HV.out.trans (r.mono HV.out.size)⟩
         case measure=>simp[intOf];omega
        ·have q2:(z != 0)=true:=by rw[Dp];exact hz0
         have HU:Hid (cmpV (.mk kd it tx o n m l) (.mk kd it tx g keys' f d)=z):=xI (by rw[HT.out,HS.out.1 hz0]);have N:=v.out.trans ((HV.out.trans (r.mono HV.out.size)).mono v.out.size);go_wp2;go_ret;exact⟨ret_i HU.out.symm,N⟩
       ·have H:l.take j=l:=B8 (by omega);have G:d.take j=d:=B8 (by have:=ab.out;omega);rw[H,G]at h0;have HZ:Hid (cmpV (.mk kd it tx o n m l) (.mk kd it tx g keys' f d)=0):=xI (by rw[HT.out,h0]);have N:=v.out.trans (hb.mono v.out.size);clear h0 H G;go_wp2;go_ret;exact⟨ret_i HZ.out.symm,N⟩
structure Eff (p:Nat) (w w':World):Prop where
 below:Below p w w'
 other:∀ b,b≠p->b<w.heap.size->w'.heap[b]?=w.heap[b]?
theorem Eff.refl (p:Nat) (w:World):Eff p w w:=⟨Bw _ _,fun _ _ _=>rfl⟩
theorem Eff.trans {p:Nat}{w w' w'':World}(h:Eff p w w') (h':Eff p w' w''):Eff p w w'':=
 ⟨h.below.trans h'.below,fun b hb hl=>(h'.other b hb (Bj hl h.below.size)).trans (h.other b hb hl)⟩
theorem Eff.of_below {p:Nat}{w w':World}(h:bW w w') (hp:p<=w.heap.size):Eff p w w':=⟨h.mono hp,fun b _ hl=>h.block b hl⟩
theorem Eff.size {p:Nat}{w w':World}(h:Eff p w w'):w.heap.size<=w'.heap.size:=h.below.size
def SrcOk (h p:Nat) (w:World):Prop:=
 ∃ A n c q,w.heap[p]?=some (.cells #[vS A n c,vI i6 (q:Nat)] 49 (0,0))/\h<=p/\q<=n/\n<=maxLen/\RowP w h 1 (vS A n c) n (fun _ cs=>∃ x,cs=[vI i6 x]/\(Lit.int .i64 x).wf=true)
theorem SrcOk.lt {h p:Nat}{w:World}(hs:SrcOk h p w):p<w.heap.size:=by
 obtain⟨A,n,c,q,h1,_⟩:=hs;exact (Cv.1 h1).1
theorem SrcOk.below {h p:Nat}{w w':World}(hs:SrcOk h p w) (hb:bW w w'):SrcOk h p w':=by
 have hl:=hs.lt;obtain⟨A,n,c,q,h1,h2,h3,h4,h5⟩:=hs;exact⟨A,n,c,q,(hb.block p hl).trans h1,h2,h3,h4,h5.on (hb.mono (by omega)) fun _ _ h=>h⟩
theorem zSq {x:Int}(h:(Lit.int .i64 x).wf=true):-9223372036854775808<=x/\x<=9223372036854775807:=by
 simpa [Lit.wf,IntKind.min,IntKind.max,IntKind.signed,IntKind.bits] using h
theorem zAh (h p:Nat) (m:Int) (w:World) (hS:SrcOk h p w) (hn:1<=m) (hn2:m<=100):Calls tP 45 #[.pointer (some (aD p 0)),vI i6 m] w fun e w'=>∃ j:Int,e=.returned (vI i6 j)/\0<=j/\j<m/\SrcOk h p w'/\Eff p w w':=by
 have g:=hS.lt;obtain⟨A,len,c,q,h1,h2,h3,h4,h5⟩:=hS;unfold maxLen at h4;have e0:w.cell? (aD p 0)=some (vS A len c):=cH h1 0;have e1:w.cell? (aD p 1)=some (vI i6 (q:Int)):=cH h1 1;have n1:decide (m<1)=false:=by rw[Cu];omega
 have H1:=xI h1;have H5:=xI h5;by_cases hq:q<len
 case neg=>
  have F:decide ((len:Int)<=(q:Int))=true:=by rw[decide_eq_true_iff];omega
  have y:decide (len<=q)=true:=by rw[decide_eq_true_iff];omega
  have HK:Hid (∀ wq,bW w wq->jT wq p A len c (q:Int)):=xI fun wq hb=>⟨(hb.cell (p:=(aD p 0)) g).trans e0,(hb.cell (p:=(aD p 1)) g).trans e1⟩;have hS:SrcOk h p w:=⟨A,len,c,q,h1,h2,h3,by unfold maxLen;omega,h5⟩;have HS:=xI hS;have d:Hid (∀ wq,bW w wq->SrcOk h p wq/\Eff p w wq):=xI fun wq hb=>⟨hS.below hb,Eff.of_below hb (by omega)⟩;clear h1 h5 hS;go_enter func45,ntmps45;go_wp2_with fail;refine wR HK (by kernel_rfl) (HK.out _ yR.drew) (fun _=>?_);have a:bW w w.drew:=yR.drew;refine oT 0 (HK.out _ a) ?_
  (iterate 13 refine oY (HK.out _ a) ?_)
  refine wD ?_;go_wp2;go_ret;exact⟨0,rfl,by omega,by omega,d.out _ yR.drew⟩
 obtain⟨b,i,z,x0,hu,G,⟨x,hx,r⟩,c0⟩:=h5.at1 hq;injection hu with hA _ hcap;subst hA hcap;simp only[Bb,and_true]at hx;subst hx;have B:=zSq r;have E:(q:Int)<(len:Int):=by omega
 have m0:¬ m=0:=by omega
 have v:decide ((len:Int)<=(q:Int))=false:=by rw[Cu];omega
 have u:decide (len<=q)=false:=by rw[Cu];omega
 have k0:(0:Int)<=(q:Int):=by omega
 have HK:Hid (∀ wq,bW w wq->wq.cell? (aD p 0)=some (vS (some (aD b i)) len c)/\wq.cell? (aD p 1)=some (vI i6 (q:Int))/\wq.cell? (aD b (i+q))=some (vI i6 x)):=xI fun wq hb=>⟨(hb.cell (p:=(aD p 0)) g).trans e0,(hb.cell (p:=(aD p 1)) g).trans e1,(hb.cell (p:=(aD b (i+q))) (by show b<_;omega)).trans c0⟩;have n:=Int.tmod_lt_of_pos x (show (0:Int)<m by omega);have l:-m<x.tmod m:=by
  have h:=Int.tmod_lt_of_pos (-x) (show (0:Int)<m by omega);rw[Int.neg_tmod]at h;omega
 clear h1 h5 c0;go_enter func45,ntmps45;go_wp2_with fail;refine wR HK (by kernel_rfl) (HK.out _ yR.drew) (fun _=>?_);have a:bW w w.drew:=yR.drew;refine oT 0 (HK.out _ a) ?_
 (iterate 13 refine oY (HK.out _ a) ?_)
 refine wD ?_;obtain⟨e0,e1,e2⟩:=HK.out _ yR.drew;go_wp2_with fail;refine wR HK (by kernel_rfl) (HK.out _ yR.drew.drew) (fun _=>?_);have a:bW w w.drew.drew:=yR.drew.drew;refine oT 0 (HK.out _ a) ?_
 (iterate 12 refine oY (HK.out _ a) ?_)
 refine wD ?_;have k:=xI (aN n l);clear n l e0 e1 e2;obtain⟨e0,e1,e2⟩:=HK.out _ a;have z1:w.drew.drew.frozen? (aD p 1)=false:=Bz (show w.drew.drew.heap[p]?=_ from H1.out) 1;have C:IntKind.i64.wrap ((q:Int)+1)=(q:Int)+1:=Br _ (by omega);have f:Hid (SrcOk h p (w.drew.drew.setCell (aD p 1) (vI i6 ((q:Int)+1)))/\Eff p w (w.drew.drew.setCell (aD p 1) (vI i6 ((q:Int)+1)))):=xI (by
  have s:=Bm w.drew.drew p 1 _ _ (vI i6 ((q:Int)+1)) H1.out;have o:Below p w (w.drew.drew.setCell (aD p 1) (vI i6 ((q:Int)+1))):=(Bw p w).drew.drew.setCell (p:=(aD p 1)) lR _;refine⟨⟨_,len,c,q+1,by simpa using s,h2,by omega,by unfold maxLen;omega,H5.out.on (o.mono h2) fun _ _ h=>h⟩,o,fun b hb _=>Bq _ _ _ _ hb⟩)
 generalize x.tmod m=t at k;have ht:=k.out;by_cases hneg:t<0
 ·have D:IntKind.i64.wrap (t+m)=t+m:=Br _ (by omega);go_wp2;go_ret;exact⟨t+m,rfl,by omega,by omega,f.out⟩
 ·go_wp2;go_ret;exact⟨t,rfl,by omega,by omega,f.out⟩
theorem zH8 {α:Type}{c:α->α->Int}{l:List α}(h:AscC c l){i j:Nat}{x y:α}(hx:l[i]?=some x) (hy:l[j]?=some y) (hij:i<j):c x y<0:=by
 have:=List.pairwise_iff_getElem.1 h i j (Bx.1 hx).1 (Bx.1 hy).1 hij
 rwa [(Bx.1 hx).2,(Bx.1 hy).2]at this
theorem zKa {α:Type}{c:α->α->Int}(T:Tot c):∀ {l:List α},(∀ r x y,l[r]?=some x->l[r+1]?=some y->c x y<0)->AscC c l
 | [],_=>List.Pairwise.nil
 | [a],_=>Dv.2 ⟨fun y hy=>by simp at hy,List.Pairwise.nil⟩
 | a::b::s,h=>by
  have h1:AscC c (b::s):=zKa T fun r x y hx hy=>h (r+1) x y (by simpa using hx) (by simpa using hy);have h2:c a b<0:=h 0 a b rfl rfl;refine Dv.2 ⟨fun y hy=>?_,h1⟩;rcases Cs.1 hy with rfl|hy
  ·exact h2
  ·exact T.trans a b y h2 ((Dv.1 h1).1 y hy)
def usesN (k i:Int) (t:List UInt8) (v y e:Nat):Bool:=
 (decide (k=1\/k=4\/k=9)||decide (i=0))&&(decide (k=2\/k=3)||t.isEmpty)&&(decide (k=6\/k=7\/k=8)||decide (v=0))&&(decide (k=8)||decide (y=0))&&(decide (k=9)||decide (e=0))
theorem zGa {α:Type}(l:List α):l.isEmpty=decide (l.length=0):=by cases l<;>simp
theorem zCr (k i:Int) (t:List UInt8) (v:List Vl) (y:List (Int×List UInt8)) (e:List En):usesB k i t v y e=usesN k i t v.length y.length e.length:=by
 unfold usesB usesN;rw[zGa v,zGa y,zGa e]
theorem zHk (x:Int×List UInt8) (w:World) (hs:x.2.length<=maxLen):Calls tP 138 #[.agg #[vI i6 x.1,vT ⟨x.2.toArray⟩]] w fun e w'=>e=.returned (.bool (keyB x.1 x.2))/\bW w w':=
 zIg x.1 ⟨x.2.toArray⟩ w (by simpa [ByteArray.size] using hs)
theorem zHh (w:World) (B:Nat->Prop) (c:Nat) (R:Nat->List Value->Prop):RowB w B c (vS none 0 0) 0 R:=⟨none,0,rfl,⟨Bt _,Bc _⟩,fun h=>absurd h (by omega)⟩
theorem zKb (k:Nat) (w:World) (B:Nat->Prop):VB (k+1) w B zeroV nL:=
 ⟨_,_,_,_,rfl,by decide,by decide,Bt _,zHh _ _ _ _,zHh _ _ _ _,zHh _ _ _ _,zHh _ _ _ _⟩
theorem infoV:(tP.info? 33).map (fun i=>(i.zero,i.size,i.bytes))=some (some (.agg nV),7,128):=by kernel_rfl
theorem infoE:(tP.info? 68).map (fun i=>(i.zero,i.size,i.bytes))=some (some (.agg #[vS none 0 0,.bool false,vI i6 0,vI i6 0,vT ⟨#[]⟩,vS none 0 0,vS none 0 0,vS none 0 0,vS none 0 0]),9,160):=by kernel_rfl
theorem zLf {H:Nat}{w w':World}{base:Nat}{e:TypeId}{size:Nat}{v:Value}{n:Nat}{xs:List Value}(h:w.ownsRow base e size v n xs) (hb:Below H w w') (hv:∀ g,v.ownBlock=some g->g<H):w'.ownsRow base e size v n xs:=by
 refine⟨h.1,?_⟩;rcases h.2 with hn|⟨g,cap,cur,rfl,h1,h2,h3⟩
 ·exact .inl hn
 ·exact .inr ⟨g,cap,cur,rfl,h1,(hb.block g (hv g rfl)).trans h2,h3⟩
abbrev Btw (lo hi:Nat):Nat->Prop:=fun b=>lo<=b/\b<hi
def EB (k:Nat) (w:World) (B:Nat->Prop) (e:En) (cs:List Value):Prop:=
 ∃ args fails result,e=.mk args fails result/\∃ ua rs,cs=ua::.bool fails::rs/\RowB w B 7 ua args.length (fun j cs=>∃ x,args[j]?=some x/\VB k w B x cs)/\VB k w B result rs
theorem EB.keep {w w':World}{B:Nat->Prop}(hw:Same B w w'){k:Nat}{v:En}{cs:List Value}(h:EB k w B v cs):EB k w' B v cs:=by
 obtain⟨l,f,r,rfl,ua,rs,rfl,hl,hr⟩:=h;exact⟨l,f,r,rfl,ua,rs,rfl,hl.keep hw fun _ _ ⟨x,h1,h2⟩=>⟨x,h1,VB.keep hw h2⟩,VB.keep hw hr⟩
theorem EB.sub {w:World}{B B':Nat->Prop}(hB:∀ b,B b->B' b){k k':Nat}{v:En}{cs:List Value}(hk:k<=k') (h:EB k w B v cs):EB k' w B' v cs:=by
 obtain⟨l,f,r,rfl,ua,rs,rfl,hl,hr⟩:=h;exact⟨l,f,r,rfl,ua,rs,rfl,hl.sub hB fun _ _ ⟨x,h1,h2⟩=>⟨x,h1,VB.sub hB hk h2⟩,VB.sub hB hk hr⟩
theorem EB.form9 {k:Nat}{w:World}{B:Nat->Prop}{v:En}{cs:List Value}(h:EB k w B v cs) :
  ∃ A0 n0 c0 f a i s A1 n1 c1 A2 n2 c2 A3 n3 c3 A4 n4 c4,cs=[vS A0 n0 c0,.bool f,vI i6 a,vI i6 i,vT s,vS A1 n1 c1,vS A2 n2 c2,vS A3 n3 c3,vS A4 n4 c4]:=by
 obtain⟨l,f,r,rfl,ua,rs,rfl,hl,hr⟩:=h;obtain⟨A,c,rfl,_⟩:=hl.form;obtain⟨a,i,s,A1,n1,c1,A2,n2,c2,A3,n3,c3,A4,n4,c4,rfl⟩:=hr.form7;exact⟨_,_,_,_,_,_,_,_,_,_,_,_,_,_,_,_,_,_,_,rfl⟩
def EachI {α:Type}(T:World->(Nat->Prop)->α->List Value->Prop) (f:α->α) (e:TypeId) (c:Nat) (l:List α) (g j:Nat) (w:World):Prop:=
 ∃ xs,w.ownsRow g e c (vS (some (aD g 0)) l.length l.length) l.length xs/\g<w.heap.size/\∀ q,q<j->∃ x,l[q]?=some x/\T w (fun b=>g<b/\b<w.heap.size) (f x) ((xs.drop (q*c)).take c)
theorem EachI.below {α:Type}{T:World->(Nat->Prop)->α->List Value->Prop}{f:α->α}{e:TypeId}{c:Nat}{l:List α}{g j:Nat}{w w':World}(h:EachI T f e c l g j w) (hb:bW w w')
  (hT:∀ x cs,T w (fun b=>g<b/\b<w.heap.size) x cs->T w' (fun b=>g<b/\b<w'.heap.size) x cs):EachI T f e c l g j w':=by
 obtain⟨xs,h1,h2,h3⟩:=h;refine⟨xs,zLf h1 hb (fun g' hg=>by simp[Value.ownBlock]at hg;omega),Bj h2 hb.size,fun q hq=>?_⟩;obtain⟨x,hx,ht⟩:=h3 q hq;exact⟨x,hx,hT _ _ ht⟩
theorem VB.later {k:Nat}{g:Nat}{w w':World}(hb:bW w w') (x:Vl) (cs:List Value) (h:VB k w (fun b=>g<b/\b<w.heap.size) x cs):VB k w' (fun b=>g<b/\b<w'.heap.size) x cs:=
 VB.sub (fun _ hb'=>⟨hb'.1,Bj hb'.2 hb.size⟩) lR (VB.keep (.of_below hb fun _ h=>h.2) h)
theorem EB.later {k:Nat}{g:Nat}{w w':World}(hb:bW w w') (x:En) (cs:List Value) (h:EB k w (fun b=>g<b/\b<w.heap.size) x cs):EB k w' (fun b=>g<b/\b<w'.heap.size) x cs:=
 EB.sub (fun _ hb'=>⟨hb'.1,Bj hb'.2 hb.size⟩) lR (EB.keep (.of_below hb fun _ h=>h.2) h)
theorem zEo {α β:Type}{enc:α->List β}{c:Nat}(hc:∀ x,(enc x).length=c):∀ {l:List α}{j:Nat}{x:α},l[j]?=some x->((l.flatMap enc).drop (j*c)).take c=enc x
 | [],j,x,h=>by simp at h
 | a::s,0,x,h=>by
  simp only[D0,Cq]at h;subst h;simp[Es,hc]
 | a::s,j+1,x,h=>by
  simp only[D1]at h;rw[Es,List.drop_append,Fy (by rw[hc,C6];omega),hc,show (j+1)*c-c=j*c by rw[C6];omega,Cn,zEo hc h]
theorem zNu {α β:Type}{enc:α->List β}{c:Nat}(hc:∀ x,(enc x).length=c){l:List α}{q:Nat}{u:β}(h0:0<c) (h:(l.flatMap enc)[q]?=some u):∃ x,l[q / c]?=some x/\(enc x)[q % c]?=some u:=by
 have b:(l.flatMap enc).length=l.length*c:=by
  clear h
  induction l with
  | nil=>simp
  | cons a s ih=>rw[Es,Bd,ih,hc,Cj,C6];omega
 have hq:q<l.length*c:=by
  have:=(Bx.1 h).1;omega
 have hd:q / c<l.length:=Nat.div_lt_of_lt_mul (by rwa [Nat.mul_comm]);refine⟨l[q / c],By hd,?_⟩;have e:=zEo hc (By hd);rw[<-e,Co (Nat.mod_lt _ h0),C7,show q / c*c+q % c=q by rw[Nat.mul_comm];exact Nat.div_add_mod q c];exact h
theorem zIj {α:Type}{w:World}{B:Nat->Prop}{c:Nat}{A:Option Addr}{cap:Nat}{l:List α}{enc:α->List Value}{R:Nat->List Value->Prop}(h0:0<c) (hc:∀ x,(enc x).length=c) (h:RowB w B c (vS A l.length cap) l.length R) (hR:∀ j cs,R j cs->∃ x,l[j]?=some x/\cs=enc x) (hpos:0<l.length) :
  ∃ b off,A=some (aD b off)/\∀ q u,(l.flatMap enc)[q]?=some u->w.cell? (aD b (off+q))=some u:=by
 obtain⟨A',d,h1,_,h3⟩:=h;obtain⟨b,off,rfl,_,_,h7⟩:=h3 hpos;injection h1 with hA _ _;refine⟨b,off,hA,fun q u hq=>?_⟩;obtain⟨x,hx,hu⟩:=zNu hc h0 hq;obtain⟨cs,h8,h9,a⟩:=h7 (q / c) (Bx.1 hx).1;obtain⟨y,hy,rfl⟩:=hR _ _ a;rw[hx]at hy;injection hy with hy;subst hy;have:=h9 (q % c) (Nat.mod_lt _ h0);rw[hu,Da,show q / c*c+q % c=q by rw[Nat.mul_comm];exact Nat.div_add_mod q c]at this;exact this
end Go.Proofs.YteedihhdcbepmaaGreat
