import Derived.Test.YtcjgaohblaidjaaGreatDoorVgZ
import Derived.Test.YtcjgaohblaidjaaGreatDoorVg35
set_option maxRecDepth 100000
set_option maxHeartbeats 3200000
namespace Go.Proofs.YtcjgaohblaidjaaGreatDoor
open Go Go.RowKit
theorem zKj:∀ (q:Nat),1≤q→q≤4→∀ (h p:Nat) (w:World),SrcOk h p w→Calls Tryz.prog 15 #[.pointer (some ⟨p,0,none⟩),.int .i64 q] w (DrawR q h p w)
 | 0,h1,_,_,_,_,_=>absurd h1 (by omega)
 | 1,_,_,h,p,w,hS=>zD6 1 h p 1 w hS fun W hW=>zMn h p 1 W hW (by omega)
 | q+2,_,hq,h,p,w,hS=>zD6 (q+2) h p (q+2:Nat) w hS fun W hW=>
   zPg h p (q+1) W hW (by omega) (by omega) (xI fun W' hW'=>zKj (q+1) (by omega) (by omega) h p W' hW')
    (xI fun h2 W' hW'=>zKj q (by omega) (by omega) h p W' hW')
theorem zOr (A:Option Addr) (n c:Nat) (w:World) (hR:RowP w w.heap.size 1 (.slice A n c) n (fun _ cs=>∃ x,cs=[.int .i64 x]∧(Lit.int .i64 x).wf=true)) (hn:n≤maxLen) :
  Calls Tryz.prog 9 #[.slice A n c] w fun e w'=>∃ v cs,e=.returned (.agg cs.toArray)∧VB 4 w' (Btw w.heap.size w'.heap.size) v cs∧okV v=true∧sml v∧Below w.heap.size w w':=by
 obtain⟨w0,hw0⟩:∃ w0,w0=(w.alloc (.cells #[.int .i64 0,.int .i64 0,.string ⟨#[]⟩,.slice none 0 0,.slice none 0 0,.slice none 0 0,.slice none 0 0] 27)).alloc (.cells #[.slice A n c,.int .i64 0] 48):=⟨_,rfl⟩;have hb0:Below w.heap.size w w0:=by rw[hw0];exact (bR.alloc lR _).alloc (by simp) _
 have hs0:w.heap.size+2≤w0.heap.size:=by rw[hw0];simp
 have k0:w0.heap[w.heap.size]?=some (.cells #[.int .i64 0,.int .i64 0,.string ⟨#[]⟩,.slice none 0 0,.slice none 0 0,.slice none 0 0,.slice none 0 0] 27 (0,0)):=by rw[hw0,Below.heap_alloc _ _ _ (by simp)];exact heap_alloc_new w _
 have ks:w0.heap[w.heap.size+1]?=some (.cells #[.slice A n c,.int .i64 0] 48 (0,0)):=by rw[hw0];exact zB2 _ (by simp)
 have hS0:SrcOk w.heap.size (w.heap.size+1) w0:=⟨A,n,c,0,ks,by omega,Nat.zero_le _,hn,hR.on hb0 fun _ _ h=>h⟩;have hv:=zKj 4 (by omega) (by omega) w.heap.size (w.heap.size+1) w0 hS0;rw[show (((4:Nat):Nat):Int)=4 from rfl]at hv;clear hR ks hS0;go_enter Tryz.func9,Tryz.ntmps9;go_wp2_with fail;rw[←hw0];clear hw0;refine hv.mono ?_;rintro e w1 ⟨⟨v,cs,rfl,hvb,hok,hsm0⟩,hS1,hE1⟩;clear hv;have hbw1:Below w.heap.size w w1:=hb0.trans (hE1.below.mono (by omega));have hs1:=hE1.size;have k1:w1.heap[w.heap.size]?=some (.cells #[.int .i64 0,.int .i64 0,.string ⟨#[]⟩,.slice none 0 0,.slice none 0 0,.slice none 0 0,.slice none 0 0] 27 (0,0)):=(hE1.other _ (by omega) (by omega)).trans k0;obtain⟨ca,ci,cs',B1,n1,d1,B2,n2,d2,B3,n3,d3,B4,n4,d4,rfl⟩:=hvb.form7;have HV:=xI (aN hvb (aN hok hsm0));clear hvb hok hsm0 hS1 hE1 k0;obtain⟨e0,e1,e2,e3,e4,e5,e6⟩:=zAd k1;obtain⟨z0,z1,z2,z3,z4,z5,z6⟩:=zAe k1;go_wp2;obtain⟨V,hV⟩:∃ V,V=(((((((w1.setCell ⟨w.heap.size,0,none⟩ (Value.int .i64 ca)).setCell ⟨w.heap.size,1,none⟩ (Value.int .i64 ci)).setCell ⟨w.heap.size,2,none⟩ (Value.string cs')).setCell ⟨w.heap.size,3,none⟩ (Value.slice B1 n1 d1)).setCell ⟨w.heap.size,4,none⟩ (Value.slice B2 n2 d2)).setCell ⟨w.heap.size,5,none⟩ (Value.slice B3 n3 d3)).setCell ⟨w.heap.size,6,none⟩ (Value.slice B4 n4 d4)):=⟨_,rfl⟩;rw[←hV];have hob:V.heap[w.heap.size]?=some (.cells #[.int .i64 ca,.int .i64 ci,.string cs',.slice B1 n1 d1,.slice B2 n2 d2,.slice B3 n3 d3,.slice B4 n4 d4] 27 (0,0)):=by rw[hV];exact obj7 k1 (Value.int .i64 ca) (Value.int .i64 ci) (Value.string cs') (Value.slice B1 n1 d1) (Value.slice B2 n2 d2) (Value.slice B3 n3 d3) (Value.slice B4 n4 d4)
 have hBV:Below w.heap.size w V:=by rw[hV];exact Below.setCell (Below.setCell (Below.setCell (Below.setCell (Below.setCell (Below.setCell (Below.setCell (hbw1) (p:=⟨w.heap.size,0,none⟩) lR _) (p:=⟨w.heap.size,1,none⟩) lR _) (p:=⟨w.heap.size,2,none⟩) lR _) (p:=⟨w.heap.size,3,none⟩) lR _) (p:=⟨w.heap.size,4,none⟩) lR _) (p:=⟨w.heap.size,5,none⟩) lR _) (p:=⟨w.heap.size,6,none⟩) lR _
 have hszV:V.heap.size=w1.heap.size:=by rw[hV];simp
 have hsm:∀ B:Nat→Prop,¬ B w.heap.size→Same B w1 V:=fun B h=>by rw[hV];exact zAa (zAa (zAa (zAa (zAa (zAa (zAa ((Same.refl _ _)) h) h) h) h) h) h) h
 clear hV e0 z0 e1 z1 e2 z2 e3 z3 e4 z4 e5 z5 e6 z6;obtain⟨ps0,ps1,ps2,ps3,ps4,ps5,ps6⟩:=zAd hob;refine bodyPost_ret (v:=.agg #[.int .i64 ca,.int .i64 ci,.string cs',.slice B1 n1 d1,.slice B2 n2 d2,.slice B3 n3 d3,.slice B4 n4 d4]) (by simp[results,Tryz.results9,go_sem,ps0,ps1,ps2,ps3,ps4,ps5,ps6]) rfl ?_;exact⟨v,_,rfl,VB.sub (B:=Btw w0.heap.size w1.heap.size) (fun b hb=>⟨by have:=hb.1;omega,by have:=hb.2;omega⟩) lR (VB.keep (hsm _ (fun h=>by have:=h.1;omega)) HV.out.1),HV.out.2.1,HV.out.2.2,hBV⟩
end Go.Proofs.YtcjgaohblaidjaaGreatDoor
