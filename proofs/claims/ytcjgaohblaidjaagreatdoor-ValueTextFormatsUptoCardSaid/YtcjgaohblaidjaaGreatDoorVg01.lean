/- What cut, isNumeral and isNameByte of the program's parser do. -/
import Derived.Test.YtcjgaohblaidjaaGreatDoorVgZ
import Derived.Test.YtcjgaohblaidjaaGreatDoorVg00
import Derived.Test.YtcjgaohblaidjaaGreatDoorProg
import Derived.WalkKit
import Derived.WalkSpells
import Derived.WalkLawsBesides
import Derived.BigQuiet
import Derived.Deep.QuietTactic
import Derived.Lib.Hide
import Derived.Outline
import Derived.Deep.RegionHeld3
import Derived.Test.YtcjgaohblaidjaaGreatDoorVgShelf
import Derived.Lib.BufferWrite
import Derived.Lib.BufferOld
import Derived.Deep.LoopGhost
import Derived.OwnWalk
import Derived.Lib.Builder
import Derived.Laws.OwnMore
set_option maxRecDepth 100000
set_option maxHeartbeats 1600000
namespace Go.Proofs.YtcjgaohblaidjaaGreatDoor
open Go Go.RowKit
theorem zE2 (c:UInt8) (w:World) :
  Calls Tryz.prog 84 #[.int .u8 c.toNat] w fun e w'=>e=.returned (.bool (numC c))∧w=w':=by
 have hc:=c.toNat_lt;go_enter Tryz.func84,Tryz.ntmps84;go_wp2
 all_goals go_ret
 all_goals refine⟨zAb ?_,rfl⟩
 all_goals unfold numC digC
 all_goals rw[Bool.eq_iff_iff]
 all_goals simp only[Bool.or_eq_true,decide_eq_true_eq,beq_iff_eq,true_iff]
 all_goals omega
theorem zHz (c:UInt8) (w:World) :
  Calls Tryz.prog 88 #[.int .u8 c.toNat] w fun e w'=>e=.returned (.bool (nameC c))∧w=w':=by
 have hc:=c.toNat_lt;go_enter Tryz.func88,Tryz.ntmps88;go_wp2
 all_goals go_ret
 all_goals refine⟨zAb ?_,rfl⟩
 all_goals unfold nameC varT lowB upB digB
 all_goals rw[Bool.eq_iff_iff]
 all_goals simp only[Bool.or_eq_true,Bool.and_eq_true,decide_eq_true_eq,beq_iff_eq,true_iff]
 all_goals omega
theorem zQ7 (r:Bs) (n:Nat):(⟨r.toArray⟩:ByteArray).extract 0 n=⟨(r.take n).toArray⟩:=by
 apply ByteArray.ext;simp[ByteArray.data_extract]
theorem zQ8 (r:Bs) (n:Nat):(⟨r.toArray⟩:ByteArray).extract n r.length=⟨(r.drop n).toArray⟩:=by
 apply ByteArray.ext;simp only[ByteArray.data_extract,List.extract_toArray,List.extract_eq_take_drop];rw[List.take_of_length_le (by simp)]
theorem zLe (p:Nat) (r:Bs) (n:Nat) (d:Int) (w:World) (h:PrsW p r d w) (hn:n≤r.length) (_hr:r.length≤maxLen) :
  Calls Tryz.prog 134 #[.pointer (some ⟨p,0,none⟩),.int .i64 n] w fun e w'=>e=.returned (.string ⟨(r.take n).toArray⟩)∧w'=w.setCell ⟨p,0,none⟩ (.string ⟨(r.drop n).toArray⟩):=by
 obtain⟨c0,c1,f0,f1⟩:=h.cells;have hsz:(⟨r.toArray⟩:ByteArray).size=r.length:=rfl;have k0:(0:Int)≤(n:Int):=by omega
 have k1:(n:Int)≤(r.length:Int):=by omega
 clear h;go_enter Tryz.func134,Tryz.ntmps134;go_wp2;go_ret;exact⟨by rw[←zQ7];rfl,by rw[←zQ8]⟩
end Go.Proofs.YtcjgaohblaidjaaGreatDoor
namespace Go.Proofs.YtcjgaohblaidjaaGreatDoor
open Go.RowKit
theorem zC2 (c:Int) (w:World) :
  Calls Tryz.prog 136 #[.int .u8 c] w fun e w'=>e=.returned (.bool (lowB c))∧w=w':=by
 go_enter Tryz.func136,Tryz.ntmps136;go_wp2
 all_goals go_ret
 all_goals exact⟨zAb (by unfold lowB;simp;omega),rfl⟩
theorem zEg (c:Int) (w:World) :
  Calls Tryz.prog 135 #[.int .u8 c] w fun e w'=>e=.returned (.bool (upB c))∧w=w':=by
 go_enter Tryz.func135,Tryz.ntmps135;go_wp2
 all_goals go_ret
 all_goals exact⟨zAb (by unfold upB;simp;omega),rfl⟩
theorem zHj (c:Int) (w:World) :
  Calls Tryz.prog 137 #[.int .u8 c] w fun e w'=>e=.returned (.bool (digB c))∧w=w':=by
 go_enter Tryz.func137,Tryz.ntmps137;go_wp2
 all_goals go_ret
 all_goals exact⟨zAb (by unfold digB;simp;omega),rfl⟩
theorem zH9 (s:ByteArray) (w:World) (hs:s.size≤maxLen) :
  Calls Tryz.prog 142 #[.string s] w fun e w'=>e=.returned (.bool (atomB s.data.toList))∧w=w':=by
 unfold maxLen at hs;unfold atomB;by_cases h1:s.size<1
 ·go_enter Tryz.func142,Tryz.ntmps142;go_wp2;go_ret;exact⟨zAb (zAv _ _ _ (by omega)).symm,rfl⟩
 ·by_cases h2:16<s.size
  ·go_enter Tryz.func142,Tryz.ntmps142;go_wp2;go_ret;exact⟨zAb (zAv _ _ _ (by omega)).symm,rfl⟩
  ·have h3:0<s.size:=by omega
   cases h4:lowB (s[0]'h3).toNat
   ·go_enter Tryz.func142,Tryz.ntmps142;go_wp2_with (go_at_call 136;refine (zC2 _ _).mono ?_;rintro e w' ⟨rfl,rfl⟩);go_ret;exact⟨zAb (zAv _ _ _ (.inr (.inr (.inl ⟨h3,h4⟩)))).symm,rfl⟩
   ·go_enter Tryz.func142,Tryz.ntmps142;go_wp2_with (go_at_call 136;refine (zC2 _ _).mono ?_;rintro e w' ⟨rfl,rfl⟩)
    go_loop [3] (fun i=>∃ k:Nat,1≤k∧k≤s.size∧i=.int .i64 k∧∀ j (h:j<s.size),1≤j→j<k→atomT (s[j]'h).toNat=true) (fun i=>s.size-(intOf i).toNat)
    case atStart=>exact⟨1,by omega,by omega,rfl,fun j h a b=>by omega⟩
    case round=>
     obtain⟨k,hk1,hk,rfl,hall⟩:=hrel;have HA:=xI hall;clear hall;go_wp2_with (first|(go_at_call 136;refine (zC2 _ _).mono ?_;rintro e w' ⟨rfl,rfl⟩)|(go_at_call 137;refine (zHj _ _).mono ?_;rintro e w' ⟨rfl,rfl⟩))
     ·go_round
      case rel=>exact⟨k+1,by omega,by omega,by go_num,zBi HA ‹_› (by simp_all [atomT])⟩
      case measure=>simp[intOf];omega
     ·go_round
      case rel=>exact⟨k+1,by omega,by omega,by go_num,zBi HA ‹_› (by simp_all [atomT])⟩
      case measure=>simp[intOf];omega
     ·go_ret;exact⟨zAb (zAv _ _ _ (.inr (.inr (.inr ⟨k,‹_›,hk1,by simp_all [atomT]⟩)))).symm,rfl⟩
     ·go_round
      case rel=>exact⟨k+1,by omega,by omega,by go_num,zBi HA ‹_› (by simp_all [atomT])⟩
      case measure=>simp[intOf];omega
     ·go_ret;exact⟨zAb (zDv _ _ _ h3 (by omega) h4 (fun j h a=>HA.out j h a (by omega))).symm,rfl⟩
theorem zEb (s:ByteArray) (w:World) (hs:s.size≤maxLen) :
  Calls Tryz.prog 89 #[.string s] w fun e w'=>e=.returned (.bool (varB s.data.toList))∧w=w':=by
 unfold maxLen at hs;unfold varB;by_cases h1:s.size<1
 ·go_enter Tryz.func89,Tryz.ntmps89;go_wp2;go_ret;exact⟨zAb (zAv _ _ _ (by omega)).symm,rfl⟩
 ·by_cases h2:16<s.size
  ·go_enter Tryz.func89,Tryz.ntmps89;go_wp2;go_ret;exact⟨zAb (zAv _ _ _ (by omega)).symm,rfl⟩
  ·have h3:0<s.size:=by omega
   cases h4:upB (s[0]'h3).toNat
   ·go_enter Tryz.func89,Tryz.ntmps89;go_wp2_with (go_at_call 135;refine (zEg _ _).mono ?_;rintro e w' ⟨rfl,rfl⟩);go_ret;exact⟨zAb (zAv _ _ _ (.inr (.inr (.inl ⟨h3,h4⟩)))).symm,rfl⟩
   ·go_enter Tryz.func89,Tryz.ntmps89;go_wp2_with (go_at_call 135;refine (zEg _ _).mono ?_;rintro e w' ⟨rfl,rfl⟩)
    go_loop [3] (fun i=>∃ k:Nat,1≤k∧k≤s.size∧i=.int .i64 k∧∀ j (h:j<s.size),1≤j→j<k→varT (s[j]'h).toNat=true) (fun i=>s.size-(intOf i).toNat)
    case atStart=>exact⟨1,by omega,by omega,rfl,fun j h a b=>by omega⟩
    case round=>
     obtain⟨k,hk1,hk,rfl,hall⟩:=hrel;have HA:=xI hall;clear hall;go_wp2_with (first|(go_at_call 136;refine (zC2 _ _).mono ?_;rintro e w' ⟨rfl,rfl⟩)|(go_at_call 135;refine (zEg _ _).mono ?_;rintro e w' ⟨rfl,rfl⟩)|(go_at_call 137;refine (zHj _ _).mono ?_;rintro e w' ⟨rfl,rfl⟩))
     ·go_round
      case rel=>exact⟨k+1,by omega,by omega,by go_num,zBi HA ‹_› (by simp_all [varT])⟩
      case measure=>simp[intOf];omega
     ·go_round
      case rel=>exact⟨k+1,by omega,by omega,by go_num,zBi HA ‹_› (by simp_all [varT])⟩
      case measure=>simp[intOf];omega
     ·go_round
      case rel=>exact⟨k+1,by omega,by omega,by go_num,zBi HA ‹_› (by simp_all [varT])⟩
      case measure=>simp[intOf];omega
     ·go_ret;exact⟨zAb (zAv _ _ _ (.inr (.inr (.inr ⟨k,‹_›,hk1,by simp_all [varT]⟩)))).symm,rfl⟩
     ·go_round
      case rel=>exact⟨k+1,by omega,by omega,by go_num,zBi HA ‹_› (by simp_all [varT])⟩
      case measure=>simp[intOf];omega
     ·go_ret;exact⟨zAb (zDv _ _ _ h3 (by omega) h4 (fun j h a=>HA.out j h a (by omega))).symm,rfl⟩
theorem zBj (k:Int) (s:ByteArray) (w:World) (hs:s.size≤maxLen) :
  Calls Tryz.prog 118 #[.agg #[.int .i64 k,.string s]] w fun e w'=>e=.returned (.bool (keyB k s.data.toList))∧Below w.heap.size w w':=by
 have hs':=hs;unfold maxLen at hs';have hlen:s.data.toList.length=s.size:=by simp
 by_cases h0:k=0
 ·subst h0;go_enter Tryz.func118,Tryz.ntmps118;go_wp2_with (go_at_call 142;refine (zH9 _ _ hs).mono ?_;rintro e w' ⟨rfl,rfl⟩);go_ret;exact⟨zAb (by simp[keyB]<;>omega),bR.alloc lR _⟩
 ·by_cases h1:k=1
  ·subst h1;go_enter Tryz.func118,Tryz.ntmps118;go_wp2;go_ret;exact⟨zAb (by simp[keyB]<;>omega),bR.alloc lR _⟩
  ·go_enter Tryz.func118,Tryz.ntmps118;go_wp2;go_ret;exact⟨zAb (by simp[keyB,h0,h1]),bR.alloc lR _⟩
theorem zE1 (c:Int) (w:World) :
  Calls Tryz.prog 120 #[.int .u8 c] w fun e w'=>e=.returned (.bool (lowB c))∧w=w':=by
 go_enter Tryz.func120,Tryz.ntmps120;go_wp2
 all_goals go_ret
 all_goals exact⟨zAb (by unfold lowB;simp;omega),rfl⟩
theorem zG0 (c:Int) (w:World) :
  Calls Tryz.prog 119 #[.int .u8 c] w fun e w'=>e=.returned (.bool (upB c))∧w=w':=by
 go_enter Tryz.func119,Tryz.ntmps119;go_wp2
 all_goals go_ret
 all_goals exact⟨zAb (by unfold upB;simp;omega),rfl⟩
theorem zJ9 (c:Int) (w:World) :
  Calls Tryz.prog 94 #[.int .u8 c] w fun e w'=>e=.returned (.bool (digB c))∧w=w':=by
 go_enter Tryz.func94,Tryz.ntmps94;go_wp2
 all_goals go_ret
 all_goals exact⟨zAb (by unfold digB;simp;omega),rfl⟩
theorem zEu (s:ByteArray) (w:World) (hs:s.size≤maxLen) :
  Calls Tryz.prog 76 #[.string s] w fun e w'=>e=.returned (.bool (atomB s.data.toList))∧w=w':=by
 unfold maxLen at hs;unfold atomB;by_cases h1:s.size<1
 ·go_enter Tryz.func76,Tryz.ntmps76;go_wp2;go_ret;exact⟨zAb (zAv _ _ _ (by omega)).symm,rfl⟩
 ·by_cases h2:16<s.size
  ·go_enter Tryz.func76,Tryz.ntmps76;go_wp2;go_ret;exact⟨zAb (zAv _ _ _ (by omega)).symm,rfl⟩
  ·have h3:0<s.size:=by omega
   cases h4:lowB (s[0]'h3).toNat
   ·go_enter Tryz.func76,Tryz.ntmps76;go_wp2_with (go_at_call 120;refine (zE1 _ _).mono ?_;rintro e w' ⟨rfl,rfl⟩);go_ret;exact⟨zAb (zAv _ _ _ (.inr (.inr (.inl ⟨h3,h4⟩)))).symm,rfl⟩
   ·go_enter Tryz.func76,Tryz.ntmps76;go_wp2_with (go_at_call 120;refine (zE1 _ _).mono ?_;rintro e w' ⟨rfl,rfl⟩)
    go_loop [3] (fun i=>∃ k:Nat,1≤k∧k≤s.size∧i=.int .i64 k∧∀ j (h:j<s.size),1≤j→j<k→atomT (s[j]'h).toNat=true) (fun i=>s.size-(intOf i).toNat)
    case atStart=>exact⟨1,by omega,by omega,rfl,fun j h a b=>by omega⟩
    case round=>
     obtain⟨k,hk1,hk,rfl,hall⟩:=hrel;have HA:=xI hall;clear hall;go_wp2_with (first|(go_at_call 120;refine (zE1 _ _).mono ?_;rintro e w' ⟨rfl,rfl⟩)|(go_at_call 94;refine (zJ9 _ _).mono ?_;rintro e w' ⟨rfl,rfl⟩))
     ·go_round
      case rel=>exact⟨k+1,by omega,by omega,by go_num,zBi HA ‹_› (by simp_all [atomT])⟩
      case measure=>simp[intOf];omega
     ·go_round
      case rel=>exact⟨k+1,by omega,by omega,by go_num,zBi HA ‹_› (by simp_all [atomT])⟩
      case measure=>simp[intOf];omega
     ·go_ret;exact⟨zAb (zAv _ _ _ (.inr (.inr (.inr ⟨k,‹_›,hk1,by simp_all [atomT]⟩)))).symm,rfl⟩
     ·go_round
      case rel=>exact⟨k+1,by omega,by omega,by go_num,zBi HA ‹_› (by simp_all [atomT])⟩
      case measure=>simp[intOf];omega
     ·go_ret;exact⟨zAb (zDv _ _ _ h3 (by omega) h4 (fun j h a=>HA.out j h a (by omega))).symm,rfl⟩
theorem zB0 (s:ByteArray) (w:World) (hs:s.size≤maxLen) :
  Calls Tryz.prog 75 #[.string s] w fun e w'=>e=.returned (.bool (varB s.data.toList))∧w=w':=by
 unfold maxLen at hs;unfold varB;by_cases h1:s.size<1
 ·go_enter Tryz.func75,Tryz.ntmps75;go_wp2;go_ret;exact⟨zAb (zAv _ _ _ (by omega)).symm,rfl⟩
 ·by_cases h2:16<s.size
  ·go_enter Tryz.func75,Tryz.ntmps75;go_wp2;go_ret;exact⟨zAb (zAv _ _ _ (by omega)).symm,rfl⟩
  ·have h3:0<s.size:=by omega
   cases h4:upB (s[0]'h3).toNat
   ·go_enter Tryz.func75,Tryz.ntmps75;go_wp2_with (go_at_call 119;refine (zG0 _ _).mono ?_;rintro e w' ⟨rfl,rfl⟩);go_ret;exact⟨zAb (zAv _ _ _ (.inr (.inr (.inl ⟨h3,h4⟩)))).symm,rfl⟩
   ·go_enter Tryz.func75,Tryz.ntmps75;go_wp2_with (go_at_call 119;refine (zG0 _ _).mono ?_;rintro e w' ⟨rfl,rfl⟩)
    go_loop [3] (fun i=>∃ k:Nat,1≤k∧k≤s.size∧i=.int .i64 k∧∀ j (h:j<s.size),1≤j→j<k→varT (s[j]'h).toNat=true) (fun i=>s.size-(intOf i).toNat)
    case atStart=>exact⟨1,by omega,by omega,rfl,fun j h a b=>by omega⟩
    case round=>
     obtain⟨k,hk1,hk,rfl,hall⟩:=hrel;have HA:=xI hall;clear hall;go_wp2_with (first|(go_at_call 120;refine (zE1 _ _).mono ?_;rintro e w' ⟨rfl,rfl⟩)|(go_at_call 119;refine (zG0 _ _).mono ?_;rintro e w' ⟨rfl,rfl⟩)|(go_at_call 94;refine (zJ9 _ _).mono ?_;rintro e w' ⟨rfl,rfl⟩))
     ·go_round
      case rel=>exact⟨k+1,by omega,by omega,by go_num,zBi HA ‹_› (by simp_all [varT])⟩
      case measure=>simp[intOf];omega
     ·go_round
      case rel=>exact⟨k+1,by omega,by omega,by go_num,zBi HA ‹_› (by simp_all [varT])⟩
      case measure=>simp[intOf];omega
     ·go_round
      case rel=>exact⟨k+1,by omega,by omega,by go_num,zBi HA ‹_› (by simp_all [varT])⟩
      case measure=>simp[intOf];omega
     ·go_ret;exact⟨zAb (zAv _ _ _ (.inr (.inr (.inr ⟨k,‹_›,hk1,by simp_all [varT]⟩)))).symm,rfl⟩
     ·go_round
      case rel=>exact⟨k+1,by omega,by omega,by go_num,zBi HA ‹_› (by simp_all [varT])⟩
      case measure=>simp[intOf];omega
     ·go_ret;exact⟨zAb (zDv _ _ _ h3 (by omega) h4 (fun j h a=>HA.out j h a (by omega))).symm,rfl⟩
theorem zCe (k:Int) (s:ByteArray) (w:World) (hs:s.size≤maxLen) :
  Calls Tryz.prog 77 #[.agg #[.int .i64 k,.string s]] w fun e w'=>e=.returned (.bool (keyB k s.data.toList))∧Below w.heap.size w w':=by
 have hs':=hs;unfold maxLen at hs';have hlen:s.data.toList.length=s.size:=by simp
 by_cases h0:k=0
 ·subst h0;go_enter Tryz.func77,Tryz.ntmps77;go_wp2_with (go_at_call 76;refine (zEu _ _ hs).mono ?_;rintro e w' ⟨rfl,rfl⟩)
  all_goals go_ret
  all_goals exact⟨zAb (by simp_all [keyB]),bR.alloc lR _⟩
 ·by_cases h1:k=1
  ·subst h1;go_enter Tryz.func77,Tryz.ntmps77;go_wp2;go_ret;exact⟨zAb (by simp[keyB]<;>omega),bR.alloc lR _⟩
  ·go_enter Tryz.func77,Tryz.ntmps77;go_wp2;go_ret;exact⟨zAb (by simp[keyB,h0,h1]),bR.alloc lR _⟩
theorem zNd (B b n:Nat) (w:World) (h:Lib.IsBuffer 54 5 B b [] w) (hn:1≤n) (h0:w.cell? ⟨b,0,none⟩=some (.slice none 0 0)) (hBw:B≤w.heap.size) (hlim:n≤140737488355328) :
  Calls Tryz.prog 70 #[.pointer (some ⟨b,0,none⟩),.int .i64 n] w fun e w'=>e=.returned (.tuple #[])∧Lib.IsBuffer 54 5 B b [] w'∧Below B w w':=by
 have hnr:Lib.NoRoom b n w:=⟨none,0,0,h0,by omega⟩;go_enter Tryz.func70,Tryz.ntmps70;go_wp2_with (go_at_call 69;refine (Tryz.Buffer_grow B b n [] w h hnr hBw (by simp) (by simpa using hlim)).mono ?_;rintro e W1 ⟨rfl,xs,hxl,hI,hbel⟩;refine Hid.out ?_);refine xI ?_;obtain⟨hB,lr2,hc⟩:=hI.cases;rcases hc with⟨hnil,-⟩|⟨g,cap,cur,hbk2,hBg,hg,hnc,hcm,hcs,htk,hgb⟩
 ·exact absurd (congrArg List.length hnil) (by simp[hxl];omega)
 ·have d0:W1.cell? ⟨b,0,none⟩=some (.slice (some ⟨g,0,none⟩) ([]++xs).length cap):=by rw[Lib.cell_of_heap hbk2];rfl
  have f0:W1.frozen? ⟨b,0,none⟩=false:=Lib.frozen_of_heap hbk2 0;clear hI h0 h hnr;go_wp2
  go_end0
  refine⟨rfl,?_,?_⟩
  ·have hgf:(W1.setCell ⟨b,0,none⟩ (.slice (some ⟨g,0,none⟩) 0 cap)).heap[g]?=some (.cells cur 5 (0,0)):=by rw[Below.heap_setCell _ _ _ _ hgb];exact hg
   exact⟨hB,_,lr2,Lib.heap_setCell_same (i:=0) hbk2 _,⟨by simp,.inr ⟨g,cap,cur,rfl,hBg,hgf,Nat.zero_le _,hcm,by omega,by simp⟩⟩,by simp[Value.ownBlock];omega⟩
  ·exact hbel.setCell (p:=⟨b,0,none⟩) hB _
def zBp (c:Int):Bool:=decide (32≤c)&&decide (c≤126)
theorem zAm (c:Int) (w:World) :
  Calls Tryz.prog 117 #[.int .u8 c] w fun e w'=>e=.returned (.bool (zBp c))∧w=w':=by
 go_enter Tryz.func117,Tryz.ntmps117;go_wp2
 all_goals go_ret
 all_goals exact⟨zAb (by unfold zBp;simp;omega),rfl⟩
theorem zCn (B b:Nat) (l:List UInt8) (c:UInt8) (w:World) (h:Lib.IsBuffer 54 5 B b (Lib.byteCells l) w) (hBw:B≤w.heap.size) (hlim:l.length+1≤140737488355328) :
  Calls Tryz.prog 71 #[.pointer (some ⟨b,0,none⟩),.int .u8 c.toNat] w fun e w'=>e=.returned .nilIface∧Lib.IsBuffer 54 5 B b (Lib.byteCells (l++[c])) w'∧Below B w w':=
 (Tryz.Buffer_WriteByte B b _ _ w h hBw (Lib.byteCells_one _) (by simpa [Lib.byteCells_length] using hlim)).mono fun _ _ ⟨he,h,hb⟩=>⟨he,by rw[Lib.byteCells_append];exact h,hb⟩
theorem zO2 (B b:Nat) (l:List UInt8) (s:ByteArray) (w:World) (h:Lib.IsBuffer 54 5 B b (Lib.byteCells l) w) (hBw:B≤w.heap.size) (hlim:l.length+s.size≤140737488355328) :
  Calls Tryz.prog 28 #[.pointer (some ⟨b,0,none⟩),.string s] w fun e w'=>e=.returned (.tuple #[.int .i64 s.size,.nilIface])∧Lib.IsBuffer 54 5 B b (Lib.byteCells (l++s.data.toList)) w'∧Below B w w':=
 (Tryz.Buffer_WriteString B b _ _ w h hBw (Lib.byteCells_one _) (by simpa [Lib.byteCells_length] using hlim)).mono fun _ _ ⟨he,h,hb⟩=>⟨he,by rw[Lib.byteCells_append];exact h,hb⟩
theorem zGs (n:Nat) (h:n<16):(⟨#[48,49,50,51,52,53,54,55,56,57,97,98,99,100,101,102]⟩:ByteArray)[n]'h=hexD n:=by
 have:∀ i:Fin 16,(⟨#[48,49,50,51,52,53,54,55,56,57,97,98,99,100,101,102]⟩:ByteArray)[i.1]'i.2=hexD i.1:=by decide
 exact this ⟨n,h⟩
theorem zEy {c:UInt8}(hp:zBp c.toNat=false) (h1:((c.toNat:Int)==34)=false) (h2:((c.toNat:Int)==92)=false):qByte c=[92,120,hexD (c.toNat / 16),hexD (c.toNat % 16)]:=by
 unfold qByte;rw[if_neg,if_neg]
 ·simp only[zBp,Bool.and_eq_false_iff,decide_eq_false_iff_not]at hp;rintro⟨h,h'⟩;rw[UInt8.le_iff_toNat_le]at h h';have e1:(32:UInt8).toNat=32:=rfl;have e2:(126:UInt8).toNat=126:=rfl;omega
 ·rintro (rfl|rfl)
  ·exact absurd h1 (by decide)
  ·exact absurd h2 (by decide)
theorem zC0 {c:UInt8}(hp:zBp c.toNat=true) (h1:((c.toNat:Int)==34)=false) (h2:((c.toNat:Int)==92)=false):qByte c=[c]:=by
 unfold qByte;rw[if_neg,if_pos]
 ·simp only[zBp,Bool.and_eq_true,decide_eq_true_eq]at hp;rw[UInt8.le_iff_toNat_le,UInt8.le_iff_toNat_le];have e1:(32:UInt8).toNat=32:=rfl;have e2:(126:UInt8).toNat=126:=rfl;omega
 ·rintro (rfl|rfl)
  ·exact absurd h1 (by decide)
  ·exact absurd h2 (by decide)
theorem zF5 (c:UInt8):(qByte c).length≤4:=by
 unfold qByte;split
 ·simp
 ·split<;>simp
theorem zGx (B b:Nat) (c:UInt8) (l:List UInt8) (w:World) (h:Lib.IsBuffer 54 5 B b (Lib.byteCells l) w) (hBw:B≤w.heap.size) (hlim:l.length+4≤140737488355328) :
  Calls Tryz.prog 72 #[.pointer (some ⟨b,0,none⟩),.int .u8 c.toNat] w fun e w'=>e=.returned (.tuple #[])∧Lib.IsBuffer 54 5 B b (Lib.byteCells (l++qByte c)) w'∧Below B w w':=by
 have hc:=c.toNat_lt;by_cases e1:c=34
 ·subst e1;go_enter Tryz.func72,Tryz.ntmps72;go_wp2_with fail;refine (zCn B b _ 92 _ h hBw (by omega)).mono ?_;rintro e W1 ⟨rfl,h3,b1⟩;have hs1:=b1.size;go_wp2_with fail;refine (zCn B b _ 34 _ h3 (by omega) (by simp;omega)).mono ?_;rintro e W2 ⟨rfl,h4,b2⟩;go_wp2
  go_end0
  exact⟨rfl,by simpa [qByte] using h4,b1.trans b2⟩
 by_cases e2:c=92
 ·subst e2;go_enter Tryz.func72,Tryz.ntmps72;go_wp2_with fail;refine (zCn B b _ 92 _ h hBw (by omega)).mono ?_;rintro e W1 ⟨rfl,h3,b1⟩;have hs1:=b1.size;go_wp2_with fail;refine (zCn B b _ 92 _ h3 (by omega) (by simp;omega)).mono ?_;rintro e W2 ⟨rfl,h4,b2⟩;go_wp2
  go_end0
  exact⟨rfl,by simpa [qByte] using h4,b1.trans b2⟩
 have h1:((c.toNat:Int)==34)=false:=by
  rw[beq_eq_false_iff_ne];intro e;exact e1 (UInt8.toNat_inj.1 (by have:(34:UInt8).toNat=34:=rfl;omega))
 have h2:((c.toNat:Int)==92)=false:=by
  rw[beq_eq_false_iff_ne];intro e;exact e2 (UInt8.toNat_inj.1 (by have:(92:UInt8).toNat=92:=rfl;omega))
 cases hp:zBp c.toNat
 ·have hq:=xI (zEy hp h1 h2);have e1:(⟨#[92,120]⟩:ByteArray).size=2:=rfl;go_enter Tryz.func72,Tryz.ntmps72;go_wp2_with (go_at_call 117;refine (zAm _ _).mono ?_;rintro e w' ⟨rfl,rfl⟩);refine (zO2 B b _ _ _ h hBw (by omega)).mono ?_;rintro e W1 ⟨rfl,h3,b1⟩;have hs1:=b1.size;go_wp2_with fail;rw[zGs _ (by omega)];refine (zCn B b _ _ _ h3 (by omega) (by simp;omega)).mono ?_;rintro e W2 ⟨rfl,h4,b2⟩;have hs2:=b2.size;go_wp2_with fail;rw[zGs _ (by omega)];refine (zCn B b _ _ _ h4 (by omega) (by simp;omega)).mono ?_;rintro e W3 ⟨rfl,h5,b3⟩;go_wp2
  go_end0
  exact⟨rfl,by rw[hq.out];simpa using h5,(b1.trans b2).trans b3⟩
 ·have hq:=xI (zC0 hp h1 h2);go_enter Tryz.func72,Tryz.ntmps72;go_wp2_with (go_at_call 117;refine (zAm _ _).mono ?_;rintro e w' ⟨rfl,rfl⟩);refine (zCn B b _ _ _ h hBw (by omega)).mono ?_;rintro e W1 ⟨rfl,h3,b1⟩;go_wp2
  go_end0
  exact⟨rfl,by rw[hq.out];exact h3,b1⟩
theorem zJu (s:ByteArray) (k:Nat) (hk:k<s.size):(s.data.toList.take (k+1)).flatMap qByte=(s.data.toList.take k).flatMap qByte++qByte (s[k]'hk):=by
 rw[List.take_succ_eq_append_getElem (by simpa using hk)];simp[List.flatMap_append];rfl
theorem zB6 (l:List UInt8):(l.flatMap qByte).length≤4*l.length:=by
 induction l with
 | nil=>simp
 | cons a r ih=>have:=zF5 a;simp only[List.flatMap_cons,List.length_append,List.length_cons];omega
theorem zLi (B b n:Nat) (m:Int) (w:World) (hm:m=(n:Int)) (h:Lib.IsBuffer 54 5 B b [] w) (hn:1≤n) (h0:w.cell? ⟨b,0,none⟩=some (.slice none 0 0)) (hBw:B≤w.heap.size) (hlim:n≤140737488355328) :
  Calls Tryz.prog 70 #[.pointer (some ⟨b,0,none⟩),.int .i64 m] w fun e w'=>e=.returned (.tuple #[])∧Lib.IsBuffer 54 5 B b [] w'∧Below B w w':=by
 subst hm;exact zNd B b n w h hn h0 hBw hlim
theorem zJt (s:ByteArray) (w:World) (hs:s.size≤35184372088830) :
  Calls Tryz.prog 29 #[.string s] w fun e w'=>e=.returned (.string ⟨(zAq s.data.toList).toArray⟩)∧Below w.heap.size w w':=by
 have hsz:s.data.toList.length=s.size:=by simp
 have hfr:=Lib.fresh_isBuffer 54 5 w;have hc0:(w.alloc (.cells #[.slice none 0 0,.int .i64 0,.int .i8 0] 54)).cell? ⟨w.heap.size,0,none⟩=some (.slice none 0 0):=by rw[Lib.cell_of_heap (heap_alloc_new w _)];rfl
 have hb0:Below w.heap.size w (w.alloc (.cells #[.slice none 0 0,.int .i64 0,.int .i8 0] 54)):=bR.alloc lR _;have hs0:=hb0.size;have HF:=xI hfr;clear hfr;go_enter Tryz.func29,Tryz.ntmps29;go_wp2_with fail;refine (zLi w.heap.size w.heap.size (s.size+2) _ _ (by omega) HF.out (by omega) hc0 hs0 (by omega)).mono ?_;rintro e W1 ⟨rfl,h1,b1⟩;clear hc0;have b1:=hb0.trans b1;have hs1:=b1.size;go_wp2_with fail;refine (zCn w.heap.size w.heap.size [] 34 _ h1 (by omega) (by simp)).mono ?_;rintro e W2 ⟨rfl,h2,b2⟩;have b2:=b1.trans b2;have hs2:=b2.size;clear b1 h1 hs1 hb0 hs0 HF;go_wp2_with fail
 go_loopw [4] (fun i wr=>∃ k:Nat,k≤s.size∧i=.int .i64 k∧Lib.IsBuffer 54 5 w.heap.size w.heap.size (Lib.byteCells (34::(s.data.toList.take k).flatMap qByte)) wr∧Below w.heap.size w wr) (fun i _=>s.size-(intOf i).toNat)
 case atStart=>exact⟨0,by omega,rfl,h2,b2⟩
 case round=>
  obtain⟨k,hk,rfl,hI,hb⟩:=hrel;have hsr:=hb.size;have hl:=zB6 (s.data.toList.take k);have hl2:(s.data.toList.take k).length≤k:=List.length_take_le _ _;by_cases hlt:k<s.size
  ·have hq:=xI (zJu s k hlt);go_wp2_with fail;refine (zGx _ _ _ _ _ hI hsr (by simp only[List.length_cons];omega)).mono ?_;rintro e W3 ⟨rfl,h3,b3⟩;go_wp2
   go_roundw
   case rel=>exact⟨k+1,by omega,by go_num,by rw[hq.out];exact h3,hb.trans b3⟩
   case measure=>simp[intOf];omega
  ·have hke:k=s.size:=by omega
   have hq:=xI (show s.data.toList.take k=s.data.toList from List.take_of_length_le (by omega));go_wp2_with fail;refine (zCn _ _ _ 34 _ hI hsr (by simp only[List.length_cons];omega)).mono ?_;rintro e W3 ⟨rfl,h3,b3⟩;rw[hq.out]at h3;go_wp2_with fail;refine (Tryz.Buffer_String _ _ _ _ h3).mono ?_;rintro e W4 ⟨rfl,nq,rfl⟩;go_wp2;go_ret;exact⟨rfl,(hb.trans b3).trans ⟨rfl,rfl,rfl,Nat.le_refl _,fun _ _=>rfl⟩⟩
theorem zEx (c:UInt8):1≤(qByte c).length:=by
 unfold qByte;split
 ·simp
 ·split<;>simp
theorem zP0:∀ a b:Fin 16,hexD a.1=hexD b.1→a=b:=by decide
theorem zE3 {a b:Nat}(ha:a<16) (hb:b<16) (h:hexD a=hexD b):a=b:=by
 have:=zP0 ⟨a,ha⟩ ⟨b,hb⟩ h;exact congrArg Fin.val this
theorem zB1 (c:UInt8):(qByte c=[92,c]∧(c=34∨c=92))∨(qByte c=[c]∧c≠34∧c≠92∧zBp c.toNat=true)∨(qByte c=[92,120,hexD (c.toNat / 16),hexD (c.toNat % 16)]∧zBp c.toNat=false):=by
 by_cases h:c=34∨c=92
 ·exact .inl ⟨by unfold qByte;rw[if_pos h],h⟩
 ·rw[not_or]at h;have h1:((c.toNat:Int)==34)=false:=by
   rw[beq_eq_false_iff_ne];intro e;exact h.1 (UInt8.toNat_inj.1 (by have:(34:UInt8).toNat=34:=rfl;omega))
  have h2:((c.toNat:Int)==92)=false:=by
   rw[beq_eq_false_iff_ne];intro e;exact h.2 (UInt8.toNat_inj.1 (by have:(92:UInt8).toNat=92:=rfl;omega))
  cases hp:zBp c.toNat
  ·exact .inr (.inr ⟨zEy hp h1 h2,rfl⟩)
  ·exact .inr (.inl ⟨zC0 hp h1 h2,h.1,h.2,rfl⟩)
theorem zF4 {a b:UInt8}{x y:List UInt8}(h:qByte a++x=qByte b++y):a=b∧x=y:=by
 rcases zB1 a with⟨ea,ha⟩|⟨ea,ha1,ha2,ha3⟩|⟨ea,ha⟩<;>rcases zB1 b with⟨eb,hb⟩|⟨eb,hb1,hb2,hb3⟩|⟨eb,hb⟩ <;>
  rw[ea,eb]at h<;>simp only[List.cons_append,List.nil_append,List.cons.injEq,true_and]at h
 ·exact h
 ·exact absurd h.1.symm hb2
 ·rcases ha with rfl|rfl<;>exact absurd h.1 (by decide)
 ·exact absurd h.1 ha2
 ·exact h
 ·exact absurd h.1 ha2
 ·rcases hb with rfl|rfl<;>exact absurd h.1 (by decide)
 ·exact absurd h.1.symm hb2
 ·have h1:=zE3 (by have:=a.toNat_lt;omega) (by have:=b.toNat_lt;omega) h.1;have h2:=zE3 (by omega) (by omega) h.2.1;exact⟨UInt8.toNat_inj.1 (by omega),h.2.2⟩
theorem zEh:∀ {a b:List UInt8}{x:List UInt8},a.flatMap qByte++x=b.flatMap qByte→∃ c,b=a++c∧x=c.flatMap qByte
 | [],b,x,h=>⟨b,rfl,by simpa using h⟩
 | p::a,[],x,h=>by
  have:=congrArg List.length h;have:=zEx p;simp only[List.flatMap_cons,List.length_append,List.flatMap_nil,List.length_nil]at *;omega
 | p::a,q::b,x,h=>by
  simp only[List.flatMap_cons,List.append_assoc]at h;obtain⟨rfl,h'⟩:=zF4 h;obtain⟨c,rfl,hx⟩:=zEh h';exact⟨c,rfl,hx⟩
theorem zP3 {a b:List UInt8}(h:a.flatMap qByte=b.flatMap qByte):a=b:=by
 obtain⟨c,rfl,hx⟩:=zEh (x:=[]) (by simpa using h);cases c with
 | nil=>simp
 | cons p c=>
  have:=congrArg List.length hx;have:=zEx p;simp only[List.flatMap_cons,List.length_append,List.length_nil]at *;omega
theorem zH5 {a b:List UInt8}(h:zAq a=zAq b):a=b:=by
 unfold zAq at h;simp only[List.cons.injEq,true_and]at h;exact zP3 (List.append_cancel_right h)
end Go.Proofs.YtcjgaohblaidjaaGreatDoor
namespace Go.Proofs.YtcjgaohblaidjaaGreatDoor
open Go Go.RowKit
def Brk (p:UInt8→Bool) (r:Bs):Prop:=∀ c q,r=c::q→p c=false
theorem Brk.nil (p:UInt8→Bool):Brk p []:=by intro c q h;cases h
theorem Brk.cons {p:UInt8→Bool}{c:UInt8}(q:Bs) (h:p c=false):Brk p (c::q):=by
 intro d q' h';injection h' with h1 _;rw[←h1];exact h
theorem zEp {p:UInt8→Bool}:∀ {d r:Bs},(∀ c∈d,p c=true)→Brk p r→(d++r).takeWhile p=d∧(d++r).dropWhile p=r
 | [],[],_,_=>⟨rfl,rfl⟩
 | [],c::q,_,h=>by
  have:=h c q rfl;simp[this]
 | a::d,r,hd,h=>by
  have h1:=hd a (by simp);obtain⟨h2,h3⟩:=zEp (d:=d) (fun c hc=>hd c (by simp[hc])) h;simp only[List.cons_append,List.takeWhile_cons,List.dropWhile_cons,h1,if_true,h2,h3,and_self]
theorem zFg {α:Type}{p:UInt8→Bool}{f:Bs→Option α}{d r:Bs}{x:α}(hd:∀ c∈d,p c=true) (hf:f d=some x) (h:Brk p r):takeL p f (d++r)=some (x,r):=by
 unfold takeL;obtain⟨h2,h3⟩:=zEp hd h;rw[h2,h3,hf];rfl
theorem zG9 {n:Int}{r:Bs}(h0:-9223372036854775808≤n) (h1:n≤9223372036854775807) (h:Brk numC r):numP (Lib.itoa n++r)=some (n,r):=
 zFg (zL5 n) (zJz h0 h1) h
theorem zHc {f t:Int→Bool}{l:Bs}(h:nameB f t l=true):(∃ c q,l=c::q∧f c.toNat=true)∧∀ c∈l,f c.toNat=true∨t c.toNat=true:=by
 unfold nameB at h;simp only[Bool.and_eq_true,decide_eq_true_eq,List.all_eq_true]at h;obtain⟨⟨⟨h1,_⟩,h3⟩,h4⟩:=h;cases l with
 | nil=>simp at h1
 | cons a r=>
  simp only[List.headD_cons]at h3;refine⟨⟨a,r,rfl,h3⟩,?_⟩;intro c hc;rcases List.mem_cons.1 hc with rfl|hc
  ·exact .inl h3
  ·exact .inr (h4 c (by simpa using hc))
theorem zPf {l:Bs}(h:varB l=true):∀ c∈l,nameC c=true:=by
 intro c hc;unfold nameC;rcases (zHc h).2 c hc with h|h
 ·simp[varT,h]
 ·exact h
theorem zDn {l:Bs}(h:atomB l=true):(∃ c q,l=c::q∧lowB c.toNat=true)∧∀ c∈l,nameC c=true:=by
 refine⟨(zHc h).1,?_⟩;intro c hc;unfold nameC;rcases (zHc h).2 c hc with h|h
 ·simp[varT,h]
 ·unfold atomT at h;unfold varT;simp only[Bool.or_eq_true]at h ⊢;rcases h with (h|h)|h
  ·exact .inl (.inl (.inl h))
  ·exact .inl (.inr h)
  ·exact .inr h
theorem zK3 {l r:Bs}(hl:varB l=true) (h:Brk nameC r):zDi (l++r)=some (l,r):=
 zFg (zPf hl) (by rw[if_pos hl]) h
theorem zAw {c d:UInt8}(p q:Bs) (h:c≠d):cutP (d::p) (c::q)=none:=
 zHp (by intro r hr;simp only[List.cons_append,List.cons.injEq]at hr;exact h hr.1)
theorem zP8 (d:UInt8) (p:Bs):cutP (d::p) []=none:=zHp (by intro r hr;simp at hr)
/-! ### Sequences -/
theorem zDe {α:Type}{item:Rd α}{f:α→Bs}{sep:Bs}{G:Bs→Prop}(hsep:∀ q,G (sep++q)) (hs:sep≠[]){r:Bs}(hr:G r) (hc:cutP sep r=none) :
  ∀ {l:List α},l≠[]→(∀ x∈l,∀ q,G q→item (f x++q)=some (x,q))→seqL item sep (sepL sep (l.map f)++r)=some (l,r)
 | [],h,_=>absurd rfl h
 | [a],_,hi=>by
  rw[seqL];simp only[List.map_cons,List.map_nil,sepL,hi a (by simp) r hr,hc]
 | a::b::t,_,hi=>by
  have ih:=zDe hsep hs hr hc (l:=b::t) (by simp) (fun x hx=>hi x (by simp[hx]));have e:sepL sep ((a::b::t).map f)++r=f a++(sep++(sepL sep ((b::t).map f)++r)):=by simp[sepL]
  rw[e,seqL,hi a (by simp) _ (hsep _)];simp only[zAp];rw[if_pos,ih];have:1≤sep.length:=by cases sep with|nil=>exact absurd rfl hs|cons=>simp
  simp only[List.length_append];omega
theorem zDx {α:Type}{item:Rd α}{f:α→Bs}{G:Bs→Prop}(hsep:∀ q,G (zAc++q)){e r:Bs}(hr:G (e++r)) (hc:cutP zAc (e++r)=none){l:List α}
  (hf:∀ x∈l,∀ q,cutP e (f x++q)=none) (hi:∀ x∈l,∀ q,G q→item (f x++q)=some (x,q)):manyP item e (sepL zAc (l.map f)++(e++r))=some (l,r):=by
 unfold manyP;cases l with
 | nil=>
  simp only[List.map_nil,sepL,List.nil_append,zAp]
 | cons a t=>
  have h1:cutP e (sepL zAc ((a::t).map f)++(e++r))=none:=by
   cases t with
   | nil=>simpa [sepL] using hf a (by simp) (e++r)
   | cons b t=>simpa [sepL] using hf a (by simp) (zAc++(sepL zAc ((b::t).map f)++(e++r)))
  rw[h1,zDe hsep (by simp[zAc]) hr hc (by simp) hi];simp only[zAp]
/-! ### Keys -/
theorem zIb (n:Nat) (h:n<16):hexD n≠34∧hexD n≠92:=by
 have:∀ i:Fin 16,hexD i.1≠34∧hexD i.1≠92:=by decide
 exact this ⟨n,h⟩
theorem zFm {c:UInt8}(h1:c≠34) (h2:c≠92) (s:Bs):quoT (c::s)=1+quoT s:=by
 cases s with
 | nil=>rfl
 | cons d r=>rw[quoT,if_neg h2,if_neg h1]
theorem zPr (r:Bs):quoT (34::r)=1:=by
 cases r with
 | nil=>rfl
 | cons d r=>rw[quoT,if_neg (by decide),if_pos rfl]
theorem zLz (c:UInt8) (r:Bs):quoT (92::c::r)=2+quoT r:=by rw[quoT,if_pos rfl]
theorem zJw (r:Bs):∀ t:Bs,quoT (t.flatMap qByte++34::r)=(t.flatMap qByte).length+1
 | []=>by simpa using zPr r
 | a::t=>by
  have ih:=zJw r t;rw[List.flatMap_cons,List.append_assoc,List.length_append];rcases zB1 a with⟨e,_⟩|⟨e,h1,h2,_⟩|⟨e,_⟩
  ·rw[e];simp only[List.cons_append,List.nil_append,zLz,ih,List.length_cons,List.length_nil];omega
  ·rw[e];simp only[List.cons_append,List.nil_append,zFm h1 h2,ih,List.length_cons,List.length_nil];omega
  ·rw[e];have p1:=zIb (a.toNat / 16) (by have:=a.toNat_lt;omega);have p2:=zIb (a.toNat % 16) (by omega);simp only[List.cons_append,List.nil_append,zLz,zFm p1.1 p1.2,zFm p2.1 p2.2,ih,List.length_cons,List.length_nil];omega
theorem zNx (t r:Bs):quoN (zAq t++r)=(zAq t).length:=by
 unfold quoN zAq;simp only[List.cons_append,List.drop_succ_cons,List.drop_zero,List.append_assoc,List.nil_append,zJw,List.length_cons,List.length_append,List.length_nil];omega
theorem zPy {k k':Int}{t t':Bs}(hk:keyB k t=true) (hk':keyB k' t'=true) (h0:k=0∨k=1) (h0':k'=0∨k'=1) (h:keyL k t=keyL k' t'):k=k'∧t=t':=by
 have hx:∀ u v:Bs,keyB 0 u=true→u=zAq v→False:=by
  intro u v hu e;obtain⟨⟨c,q,e2,hc⟩,_⟩:=zDn (l:=u) (by simpa [keyB] using hu);rw[e2]at e;unfold zAq at e;injection e with e _;subst e;exact absurd hc (by decide)
 rcases h0 with rfl|rfl<;>rcases h0' with rfl|rfl
 ·exact⟨rfl,h⟩
 ·exact (hx _ _ hk h).elim
 ·exact (hx _ _ hk' h.symm).elim
 ·exact⟨rfl,zH5 h⟩
theorem zHf {k:Int}{t:Bs}(hk:keyB k t=true) (h0:k=0∨k=1):keyV (keyL k t)=some (k,t):=by
 unfold keyV;have hx:∃ x:Int×Bs,keyB x.1 x.2=true∧(x.1=0∨x.1=1)∧keyL x.1 x.2=keyL k t:=⟨(k,t),hk,h0,rfl⟩;rw[dif_pos hx];obtain⟨h1,h2,h3⟩:=hx.choose_spec;obtain⟨e1,e2⟩:=zPy h1 hk h2 h0 h3;exact congrArg some (Prod.ext e1 e2)
theorem zHg {k:Int}{t r:Bs}(hk:keyB k t=true) (h0:k=0∨k=1) (h:Brk nameC r):keyP (keyL k t++r)=some ((k,t),r):=by
 unfold keyP;rcases h0 with rfl|rfl
 ·have ha:=zDn (l:=t) (by simpa [keyB] using hk);obtain⟨⟨c,q,e,hc⟩,hn⟩:=ha;have e1:keyL 0 t=t:=rfl;have hp:Lib.hasPrefix (keyL 0 t++r) [34]=false:=by
   rw[e1,e];unfold Lib.hasPrefix;simp only[List.cons_append,List.isPrefixOf,Bool.and_true,beq_eq_false_iff_ne];rintro rfl;exact absurd hc (by decide)
  rw[hp];simp only[Bool.false_eq_true,if_false];exact zFg (by rw[e1];exact hn) (zHf hk (.inl rfl)) h
 ·have e1:keyL 1 t=zAq t:=rfl;have hp:Lib.hasPrefix (keyL 1 t++r) [34]=true:=by
   rw[e1];unfold Lib.hasPrefix zAq;simp
  rw[hp,if_pos rfl,e1,zNx,List.take_left,List.drop_left,←e1,zHf hk (.inr rfl)];rfl
theorem zJh {q:UInt8→Bool}{r:Bs}{n:Nat}(h1:∀ c∈r.take n,q c=true) (h2:∀ c,r[n]?=some c→q c=false):r.takeWhile q=r.take n∧r.dropWhile q=r.drop n:=by
 have hb:Brk q (r.drop n):=by
  intro c t e;refine h2 c ?_;have:=congrArg (fun l=>l[0]?) e;simpa using this
 have:=zEp h1 hb
 rwa [List.take_append_drop]at this
theorem zJg {q:UInt8→Bool}{r:Bs}{n:Nat}{c:UInt8}(h1:∀ c∈r.take n,q c=true) (hc:r[n]?=some c) (hq:q c=true):∀ c∈r.take (n+1),q c=true:=by
 intro x hx;rw[List.take_add_one,hc]at hx;simp only[Option.toList_some,List.mem_append,List.mem_singleton]at hx;rcases hx with hx|rfl
 ·exact h1 x hx
 ·exact hq
theorem zKm (p:Nat) (r:Bs) (d:Int) (w:World) (h:PrsW p r d w) (hr:r.length≤maxLen) :
  Calls Tryz.prog 87 #[.pointer (some ⟨p,0,none⟩),.func (.func 84) #[] #[]] w fun e w'=>e=.returned (.string ⟨(r.takeWhile numC).toArray⟩)∧w'=w.setCell ⟨p,0,none⟩ (.string ⟨(r.dropWhile numC).toArray⟩):=by
 obtain⟨c0,c1,f0,f1⟩:=h.cells;have hsz:(⟨r.toArray⟩:ByteArray).size=r.length:=rfl;have H:=xI h;have HR:=xI hr;unfold maxLen at hr;clear h;go_enter Tryz.func87,Tryz.ntmps87;go_wp2_with fail
 go_loopw [5] (fun nv wr=>∃ n:Nat,nv=.int .i64 n∧n≤r.length∧(∀ c∈r.take n,numC c=true)∧wr=w) (fun nv _=>r.length-(intOf nv).toNat)
 case atStart=>exact⟨0,rfl,by omega,by simp,rfl⟩
 case round=>
  obtain⟨n,rfl,hn,hall,rfl⟩:=hrel;have fin:(∀ c,r[n]?=some c→numC c=false)→r.takeWhile numC=r.take n∧r.dropWhile numC=r.drop n:=fun h2=>zJh (q:=numC) hall h2;have hcut:=zLe p r n d wr H.out hn HR.out;by_cases hlt:n<r.length
  ·have hget:r[n]?=some r[n]:=List.getElem?_eq_getElem hlt;have kn:(n:Int)<(r.length:Int):=by omega
   have k0:(0:Int)≤(n:Int):=by omega
   have hc:=zE2 r[n] wr;cases hq:numC r[n]
   ·obtain⟨e1,e2⟩:=fin (by rw[hget];rintro c hc;injection hc with hc;rw[←hc];exact hq);have HE:=xI (aN e1 e2);rw[hq]at hc;clear fin hq hget hall e1 e2;go_wp2_with fail;refine hc.mono ?_;rintro e w1 ⟨rfl,rfl⟩;clear hc;go_wp2_with fail;refine hcut.mono ?_;rintro e w1 ⟨rfl,rfl⟩;clear hcut;go_wp2;go_ret;exact⟨by rw[HE.out.1];rfl,by rw[HE.out.2]⟩
   ·have hm:=xI (zJg (q:=numC) hall hget hq);rw[hq]at hc;clear fin hq hget hall hcut;go_wp2_with fail;refine hc.mono ?_;rintro e w1 ⟨rfl,rfl⟩;clear hc;go_wp2
    go_roundw
    case rel=>exact⟨n+1,by go_num,by omega,hm.out,trivial⟩
    case measure=>simp[intOf];omega
  ·have hkn:¬ (n:Int)<(r.length:Int):=by omega
   obtain⟨e1,e2⟩:=fin (by rw[List.getElem?_eq_none (by omega)];simp);have HE:=xI (aN e1 e2);clear fin hall e1 e2;go_wp2_with fail;refine hcut.mono ?_;rintro e w1 ⟨rfl,rfl⟩;clear hcut;go_wp2;go_ret;exact⟨by rw[HE.out.1];rfl,by rw[HE.out.2]⟩
theorem zF1 (p:Nat) (r:Bs) (d:Int) (w:World) (h:PrsW p r d w) (hr:r.length≤maxLen) :
  Calls Tryz.prog 87 #[.pointer (some ⟨p,0,none⟩),.func (.func 88) #[] #[]] w fun e w'=>e=.returned (.string ⟨(r.takeWhile nameC).toArray⟩)∧w'=w.setCell ⟨p,0,none⟩ (.string ⟨(r.dropWhile nameC).toArray⟩):=by
 obtain⟨c0,c1,f0,f1⟩:=h.cells;have hsz:(⟨r.toArray⟩:ByteArray).size=r.length:=rfl;have H:=xI h;have HR:=xI hr;unfold maxLen at hr;clear h;go_enter Tryz.func87,Tryz.ntmps87;go_wp2_with fail
 go_loopw [5] (fun nv wr=>∃ n:Nat,nv=.int .i64 n∧n≤r.length∧(∀ c∈r.take n,nameC c=true)∧wr=w) (fun nv _=>r.length-(intOf nv).toNat)
 case atStart=>exact⟨0,rfl,by omega,by simp,rfl⟩
 case round=>
  obtain⟨n,rfl,hn,hall,rfl⟩:=hrel;have fin:(∀ c,r[n]?=some c→nameC c=false)→r.takeWhile nameC=r.take n∧r.dropWhile nameC=r.drop n:=fun h2=>zJh (q:=nameC) hall h2;have hcut:=zLe p r n d wr H.out hn HR.out;by_cases hlt:n<r.length
  ·have hget:r[n]?=some r[n]:=List.getElem?_eq_getElem hlt;have kn:(n:Int)<(r.length:Int):=by omega
   have k0:(0:Int)≤(n:Int):=by omega
   have hc:=zHz r[n] wr;cases hq:nameC r[n]
   ·obtain⟨e1,e2⟩:=fin (by rw[hget];rintro c hc;injection hc with hc;rw[←hc];exact hq);have HE:=xI (aN e1 e2);rw[hq]at hc;clear fin hq hget hall e1 e2;go_wp2_with fail;refine hc.mono ?_;rintro e w1 ⟨rfl,rfl⟩;clear hc;go_wp2_with fail;refine hcut.mono ?_;rintro e w1 ⟨rfl,rfl⟩;clear hcut;go_wp2;go_ret;exact⟨by rw[HE.out.1];rfl,by rw[HE.out.2]⟩
   ·have hm:=xI (zJg (q:=nameC) hall hget hq);rw[hq]at hc;clear fin hq hget hall hcut;go_wp2_with fail;refine hc.mono ?_;rintro e w1 ⟨rfl,rfl⟩;clear hc;go_wp2
    go_roundw
    case rel=>exact⟨n+1,by go_num,by omega,hm.out,trivial⟩
    case measure=>simp[intOf];omega
  ·have hkn:¬ (n:Int)<(r.length:Int):=by omega
   obtain⟨e1,e2⟩:=fin (by rw[List.getElem?_eq_none (by omega)];simp);have HE:=xI (aN e1 e2);clear fin hall e1 e2;go_wp2_with fail;refine hcut.mono ?_;rintro e w1 ⟨rfl,rfl⟩;clear hcut;go_wp2;go_ret;exact⟨by rw[HE.out.1];rfl,by rw[HE.out.2]⟩
theorem zM4 (p:Nat) (r:Bs) (d:Int) (w:World) (h:PrsW p r d w) (hr:r.length≤maxLen) :
  Calls Tryz.prog 45 #[.pointer (some ⟨p,0,none⟩)] w fun e w'=>e=.returned (.tuple #[.string ⟨(r.takeWhile nameC).toArray⟩,.bool (varB (r.takeWhile nameC))])∧w'=w.setCell ⟨p,0,none⟩ (.string ⟨(r.dropWhile nameC).toArray⟩):=by
 have hc:=zF1 p r d w h hr;have hl:(r.takeWhile nameC).length≤maxLen:=Nat.le_trans (List.takeWhile_sublist nameC).length_le hr;have hv:=zEb ⟨(r.takeWhile nameC).toArray⟩ (w.setCell ⟨p,0,none⟩ (.string ⟨(r.dropWhile nameC).toArray⟩)) hl;rw[show (⟨(r.takeWhile nameC).toArray⟩:ByteArray).data.toList=r.takeWhile nameC from rfl]at hv;generalize r.takeWhile nameC=t at hc hv ⊢;generalize r.dropWhile nameC=u at hc hv ⊢;generalize varB t=q at hv ⊢;clear h hl;go_enter Tryz.func45,Tryz.ntmps45;go_wp2_with fail;refine hc.mono ?_;rintro e w1 ⟨rfl,rfl⟩;clear hc;go_wp2_with fail;refine hv.mono ?_;rintro e w1 ⟨rfl,rfl⟩;clear hv;go_wp2;refine bodyPost_ret (v:=.tuple #[.string ⟨t.toArray⟩,.bool q]) (by simp[results,Tryz.results45,go_sem]) rfl ?_;exact⟨rfl,rfl⟩
theorem zDg {d:List UInt8}{n:Int}(h:Lib.parseIntB 64 d=.ok n):-9223372036854775808≤n∧n≤9223372036854775807:=by
 unfold Lib.parseIntB at h;cases d with
 | nil=>simp at h
 | cons c r=>
  simp only at h;generalize Lib.parseUintB 64 _=q at h;rcases q with u|_|_
  ·simp only at h;by_cases hn:c.toNat=45
   ·simp only[hn,not_true,false_and,if_false,true_and,if_true]at h;split at h
    ·cases h
    ·rename_i h2;injection h with h;omega
   ·simp only[hn,not_false_iff,true_and,false_and,if_false]at h;split at h
    ·cases h
    ·rename_i h2;injection h with h;omega
  ·simp at h
  ·simp at h
theorem zQ0 {d:List UInt8}{n:Int}(h:Lib.parseIntB 64 d=.ok n):numV d=if Lib.itoa n=d then some n else none:=by
 obtain⟨h0,h1⟩:=zDg h;split
 ·rename_i he;rw[←he];exact zJz h0 h1
 ·rename_i he;cases hv:numV d with
  | none=>rfl
  | some m=>
   obtain⟨m0,m1,hm⟩:=zJy hv;have:=zEa m m0 m1;rw[hm,h]at this;injection this with this;exact absurd (this ▸ hm) he
theorem zPt {d:List UInt8}(h:∀ n,Lib.parseIntB 64 d≠.ok n):numV d=none:=by
 cases hv:numV d with
 | none=>rfl
 | some m=>
  obtain⟨m0,m1,hm⟩:=zJy hv;have:=zEa m m0 m1;rw[hm]at this;exact absurd this (h m)
theorem zA2 {p s r:Bs}(h:cutP p s=some r):s.length=p.length+r.length:=by
 rw[zDk h,List.length_append]
def contL {α:Type}(item:Rd α) (sep:Bs) (l:List α) (r:Bs):Option (List α×Bs):=
 match cutP sep r with
 | none=>some (l,r)
 | some r'=>(seqL item sep r').map fun y=>(l++y.1,y.2)
theorem zDd {α:Type}{item:Rd α}{sep s:Bs}(h:item s=none):seqL item sep s=none:=by rw[seqL,h]
theorem zDc {α:Type}{item:Rd α}{sep s r:Bs}{x:α}(h:item s=some (x,r)) (hl:r.length≤s.length) (hs:sep≠[]):seqL item sep s=contL item sep [x] r:=by
 rw[seqL,h];unfold contL;simp only;cases hc:cutP sep r with
 | none=>rfl
 | some r'=>
  simp only;have hn:=zA2 hc;have:0<sep.length:=List.length_pos_iff.2 hs;rw[if_pos (by omega)];cases seqL item sep r' with
  | none=>rfl
  | some y=>rfl
def preO {α:Type}(l:List α) (o:Option (List α×Bs)):Option (List α×Bs):=o.map fun y=>(l++y.1,y.2)
theorem zOv {α:Type}(item:Rd α) (sep:Bs) (l m:List α) (r:Bs):preO l (contL item sep m r)=contL item sep (l++m) r:=by
 unfold preO contL;cases cutP sep r with
 | none=>rfl
 | some r'=>
  simp only[Option.map_map];cases seqL item sep r' with
  | none=>rfl
  | some y=>simp
theorem zFn {α:Type}{item:Rd α}{e s r:Bs}(h:cutP e s=some r):manyP item e s=some ([],r):=by unfold manyP;rw[h]
theorem zFo {α:Type}{item:Rd α}{e s:Bs}(h:cutP e s=none) (h2:seqL item zAc s=none):manyP item e s=none:=by unfold manyP;rw[h,h2]
theorem zCr {α:Type}{item:Rd α}{e s r:Bs}{l:List α}(h:cutP e s=none) (h2:seqL item zAc s=some (l,r)):manyP item e s=(cutP e r).map fun q=>(l,q):=by
 unfold manyP;rw[h];simp only[h2];cases cutP e r<;>rfl
theorem obj7 {w:World}{g:Nat}{e:TypeId}{z0 z1 z2 z3 z4 z5 z6:Value}(h:w.heap[g]?=some (.cells #[z0,z1,z2,z3,z4,z5,z6] e (0,0))) (v0 v1 v2 v3 v4 v5 v6:Value):(((((((w.setCell ⟨g,0,none⟩ (v0)).setCell ⟨g,1,none⟩ (v1)).setCell ⟨g,2,none⟩ (v2)).setCell ⟨g,3,none⟩ (v3)).setCell ⟨g,4,none⟩ (v4)).setCell ⟨g,5,none⟩ (v5)).setCell ⟨g,6,none⟩ (v6)).heap[g]?=some (.cells #[v0,v1,v2,v3,v4,v5,v6] e (0,0)):=by
 have h0:=heap_setCell_same _ g 0 _ e v0 h;have h1:=heap_setCell_same _ g 1 _ e v1 h0;have h2:=heap_setCell_same _ g 2 _ e v2 h1;have h3:=heap_setCell_same _ g 3 _ e v3 h2;have h4:=heap_setCell_same _ g 4 _ e v4 h3;have h5:=heap_setCell_same _ g 5 _ e v5 h4;have h6:=heap_setCell_same _ g 6 _ e v6 h5;simpa using h6
theorem obj9 {w:World}{g:Nat}{e:TypeId}{z0 z1 z2 z3 z4 z5 z6 z7 z8:Value}(h:w.heap[g]?=some (.cells #[z0,z1,z2,z3,z4,z5,z6,z7,z8] e (0,0))) (v0 v1 v2 v3 v4 v5 v6 v7 v8:Value):(((((((((w.setCell ⟨g,0,none⟩ (v0)).setCell ⟨g,1,none⟩ (v1)).setCell ⟨g,2,none⟩ (v2)).setCell ⟨g,3,none⟩ (v3)).setCell ⟨g,4,none⟩ (v4)).setCell ⟨g,5,none⟩ (v5)).setCell ⟨g,6,none⟩ (v6)).setCell ⟨g,7,none⟩ (v7)).setCell ⟨g,8,none⟩ (v8)).heap[g]?=some (.cells #[v0,v1,v2,v3,v4,v5,v6,v7,v8] e (0,0)):=by
 have h0:=heap_setCell_same _ g 0 _ e v0 h;have h1:=heap_setCell_same _ g 1 _ e v1 h0;have h2:=heap_setCell_same _ g 2 _ e v2 h1;have h3:=heap_setCell_same _ g 3 _ e v3 h2;have h4:=heap_setCell_same _ g 4 _ e v4 h3;have h5:=heap_setCell_same _ g 5 _ e v5 h4;have h6:=heap_setCell_same _ g 6 _ e v6 h5;have h7:=heap_setCell_same _ g 7 _ e v7 h6;have h8:=heap_setCell_same _ g 8 _ e v8 h7;simpa using h8
theorem zEd {w:World}{base:Nat}{e:TypeId}{c:Nat}{v:Value}{n:Nat}{xs:List Value}{B:Nat→Prop}{R:Nat→List Value→Prop}(h:w.ownsRow base e c v n xs) (hn:n≤maxLen)
  (hB:∀ g,v.ownBlock=some g→base≤g→g<w.heap.size→B g) (hR:∀ j,j<n→R j ((xs.drop (j*c)).take c)) (hc:0<c):RowB w B c v n R:=by
 obtain⟨hl,hcase⟩:=h;rcases hcase with⟨rfl,rfl⟩|⟨g,cap,cur,rfl,hb,hg,h1,h2,h3,h4⟩
 ·exact⟨none,0,rfl,⟨Nat.zero_le _,Nat.le_refl _⟩,fun h=>absurd h (by omega)⟩
 ·have hlt:g<w.heap.size:=(Array.getElem?_eq_some_iff.1 hg).1;refine⟨_,cap,rfl,⟨hn,h1⟩,fun _=>⟨g,0,rfl,hB g rfl hb hlt,hlt,fun j hj=>?_⟩⟩;have hle:(j+1)*c≤n*c:=Nat.mul_le_mul_right c hj;have hle2:n*c≤cap*c:=Nat.mul_le_mul_right c h1;rw[Nat.add_mul,Nat.one_mul]at hle;refine⟨(xs.drop (j*c)).take c,by simp;omega,fun i hi=>?_,hR j hj⟩;rw[List.getElem?_take_of_lt hi,List.getElem?_drop,←h4,List.getElem?_take_of_lt (by omega),Nat.zero_add];rw[Lib.cell_of_heap hg];simp
theorem zAa {B:Nat→Prop}{w w':World}{g i:Nat}{v:Value}(h:Same B w w') (hg:¬ B g):Same B w (w'.setCell ⟨g,i,none⟩ v):=by
 refine⟨by simpa using h.size,fun b j hB hb=>?_⟩;rw[World.cell?_setCell_other _ _ _ _ (by intro e;simp only[Addr.mk.injEq]at e;exact hg (e.1 ▸ hB))];exact h.cell b j hB hb
mutual
def sml:Vl→Prop
 | .mk _ _ _ v y e l=>v.length≤4∧y.length≤2∧e.length≤2∧l.length≤2∧smlVs v∧smlEs e
def smlVs:List Vl→Prop
 | []=>True
 | a::s=>sml a∧smlVs s
def smlE:En→Prop
 | .mk a _ r=>a.length≤2∧smlVs a∧sml r
def smlEs:List En→Prop
 | []=>True
 | a::s=>smlE a∧smlEs s
end
theorem zG5:∀ {l:List Vl},smlVs l↔∀ x,x∈l→sml x
 | []=>by simp[smlVs]
 | a::s=>by simp[smlVs,zG5 (l:=s)]
theorem zJj:∀ {l:List En},smlEs l↔∀ x,x∈l→smlE x
 | []=>by simp[smlEs]
 | a::s=>by simp[smlEs,zJj (l:=s)]
end Go.Proofs.YtcjgaohblaidjaaGreatDoor
