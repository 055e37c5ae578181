/- Map of the document. -/
import Derived.Test.YtcjgaohblaidjaaGreatDoorVb34
import Derived.Test.YtcjgaohblaidjaaGreatDoorVb35
import Derived.Test.YtcjgaohblaidjaaGreatDoorVb36
namespace Go.Proofs.YtcjgaohblaidjaaGreatDoor
open Go Go.RowKit
theorem refMap_any (k lo : Nat) (A : Option Addr) (c : Nat) (keys : List (Int × List UInt8)) (A' : Option Addr) (c' : Nat) (l : List Vl) (w : World) (hlo : lo ≤ w.heap.size) (hK : RowY w (Btw lo w.heap.size) (.slice A keys.length c) keys) (hl : RowV k lo w (.slice A' l.length c') l) (hn : keys.length ≤ 100000) :
  Calls Tryz.prog 59 #[.slice A keys.length c, .slice A' l.length c'] w (MapR k lo keys l w) :=
 refMap_cut.2.2.2 refMap_way1 refMap_way2 refMap_way3 k lo A c keys A' c' l w hlo hK hl hn
end Go.Proofs.YtcjgaohblaidjaaGreatDoor
