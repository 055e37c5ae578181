/- Short names for facts of the library that .. -/
import Derived.Deep.RegionHeld
import Derived.Lib.Hide
import Derived.Lib.Builder
import Derived.WalkKit
set_option linter.all false
namespace Go.Proofs.YteedihhdcbepmaaGreat
open Go Go.RowKit
abbrev j2 (w : World) (b : Nat) (x y : Value) : Prop := w.cell? ⟨b, 0, none⟩ = some x /\ w.cell? ⟨b, 1, none⟩ = some y
abbrev j7 (w : World) (b : Nat) (x0 x1 x2 x3 x4 x5 x6 : Value) : Prop := w.cell? ⟨b, 0, none⟩ = some x0 /\ w.cell? ⟨b, 1, none⟩ = some x1 /\ w.cell? ⟨b, 2, none⟩ = some x2 /\ w.cell? ⟨b, 3, none⟩ = some x3 /\ w.cell? ⟨b, 4, none⟩ = some x4 /\ w.cell? ⟨b, 5, none⟩ = some x5 /\ w.cell? ⟨b, 6, none⟩ = some x6
abbrev j8 (w : World) (b : Nat) (x0 x1 x2 x3 x4 x5 x6 x7 : Value) : Prop := w.cell? ⟨b, 0, none⟩ = some x0 /\ w.cell? ⟨b, 1, none⟩ = some x1 /\ w.cell? ⟨b, 2, none⟩ = some x2 /\ w.cell? ⟨b, 3, none⟩ = some x3 /\ w.cell? ⟨b, 4, none⟩ = some x4 /\ w.cell? ⟨b, 5, none⟩ = some x5 /\ w.cell? ⟨b, 6, none⟩ = some x6 /\ w.cell? ⟨b, 7, none⟩ = some x7
abbrev jT (w : World) (b : Nat) (p : Option Addr) (n c : Nat) (i : Int) : Prop := j2 w b (.slice p n c) (.int .i64 i)
abbrev jV (w : World) (b : Nat) (k i : Int) (t : ByteArray) (p1 : Option Addr) (n1 c1 : Nat) (p2 : Option Addr) (n2 c2 : Nat) (p3 : Option Addr) (n3 c3 : Nat) (p4 : Option Addr) (n4 c4 : Nat) : Prop := j7 w b (.int .i64 k) (.int .i64 i) (.string t) (.slice p1 n1 c1) (.slice p2 n2 c2) (.slice p3 n3 c3) (.slice p4 n4 c4)
abbrev jN (w : World) (b : Nat) (k i j : Int) (t : ByteArray) (p1 : Option Addr) (n1 c1 : Nat) (p2 : Option Addr) (n2 c2 : Nat) (r s : Int) : Prop := j8 w b (.int .i64 k) (.int .i64 i) (.int .i64 j) (.string t) (.slice p1 n1 c1) (.slice p2 n2 c2) (.int .i64 r) (.int .i64 s)
abbrev aH (w : World) (o : Nat) : Addr := ⟨w.heap.size, o, none⟩
abbrev aE (w : World) (o : Nat) : Addr := ⟨w.heap.size + 1, o, none⟩
abbrev aF (w : World) (o : Nat) : Addr := ⟨w.heap.size + 1 + 1, o, none⟩
abbrev bW (w v : World) : Prop := Below w.heap.size w v
abbrev aD (b o : Nat) : Addr := ⟨b, o, none⟩
abbrev nV : Array Value := #[.int .i64 0,.int .i64 0,.string ⟨#[]⟩,.slice none 0 0,.slice none 0 0,.slice none 0 0,.slice none 0 0]
abbrev nL : List Value := [.int .i64 0,.int .i64 0,.string ⟨#[]⟩,.slice none 0 0,.slice none 0 0,.slice none 0 0,.slice none 0 0]
abbrev oV (k i : Int) (t : ByteArray) (p0 : Option Addr) (n0 m0 : Nat) (p1 : Option Addr) (n1 m1 : Nat) (p2 : Option Addr) (n2 m2 : Nat) (p3 : Option Addr) (n3 m3 : Nat) : Obj := .cells #[.int .i64 k, .int .i64 i, .string t, .slice p0 n0 m0, .slice p1 n1 m1, .slice p2 n2 m2, .slice p3 n3 m3] 33 (0, 0)
abbrev oX (k i j : Int) (t : ByteArray) (p0 : Option Addr) (n0 m0 : Nat) (p1 : Option Addr) (n1 m1 : Nat) (r s : Int) : Obj := .cells #[.int .i64 k, .int .i64 i, .int .i64 j, .string t, .slice p0 n0 m0, .slice p1 n1 m1, .int .i64 r, .int .i64 s] 40 (0, 0)
abbrev oE (p : Option Addr) (n m : Nat) (i : Int) : Obj := .cells #[.slice p n m, .int .i64 i] 24 (0, 0)
abbrev oG : Obj := oV 0 0 ⟨#[]⟩ none 0 0 none 0 0 none 0 0 none 0 0
abbrev oH : Obj := oX 0 0 0 ⟨#[]⟩ none 0 0 none 0 0 0 0
theorem lR {n:Nat}:n<=n:=Nat.le_refl n
theorem aN {a b:Prop}(h:a) (g:b):a/\b:=⟨h,g⟩
theorem aW (w : World) (o : Obj) : ∃ W, W = w.alloc o /\ Below w.heap.size w W /\ W.heap[w.heap.size]? = some o /\ W.heap.size = w.heap.size + 1 := ⟨_, rfl, (Below.refl _ _).alloc (Nat.le_refl _) _, heap_alloc_new w _, by simp⟩
theorem wR {P : Program} {id : Nat} {ops : Array Oper} {Q : Exit -> Act -> World -> Prop} {S : World -> Prop} {H : Nat} {W w : World} {a : Act} (_ : Hid (∀ V, Below H W V -> S V)) (hm : P.follows .mixedOrders = true) (hS : S w.drew) (h : S w.drew -> wpAnyH P .any ops Q S ops.size (Array.replicate ops.size false) a w.drew) : (Code.region id ops true).wp P Q a w := wp_region_held_drew hm hS h
theorem yR {H:Nat}{w:World}:Below H w w:=Below.refl H w
theorem xI {p:Prop}(h:p):Hid p:=Lib.hid h
theorem cH {w:World}{g:Nat}{cs:Array Value}{e:TypeId}{z:Nat×Nat}(h:w.heap[g]?=some (.cells cs e z)) (i:Nat){v:Value}(hv:cs[i]?=some v:=by rfl):w.cell? ⟨g,i,none⟩=some v:=(Lib.cell_of_heap h i).trans hv
theorem pK:(∀ (a:Act) (d:Nat) (v:Value),a.put (some d) v={ a with tmps:=a.tmps.setIfInBounds d v })/\(∀ (a:Act) (v:Value),a.put none v=a)/\(∀ {α:Type} (l:List α) (i:Nat) (a:α),l.toArray.setIfInBounds i a=(l.set i a).toArray)/\(∀ {α:Type} (x:α) (l:List α) (a:α),(x::l).set 0 a=a::l)/\∀ {α:Type} (x:α) (l:List α) (n:Nat) (a:α),(x::l).set (n+1) a=x::l.set n a:=
  ⟨fun _ _ _=>rfl,fun _ _=>rfl,fun _ _ _=>List.setIfInBounds_toArray ..,fun _ _ _=>rfl,fun _ _ _ _=>rfl⟩
theorem kC8 {H : Nat} {w w' : World} {b o : Nat} {v0 v1 v2 v3 v4 v5 v6 v7 : Value} (h : Below H w w') (hb : b < H) (d0 : w.cell? ⟨b, o, none⟩ = some v0) (d1 : w.cell? ⟨b, o + 1, none⟩ = some v1) (d2 : w.cell? ⟨b, o + 2, none⟩ = some v2) (d3 : w.cell? ⟨b, o + 3, none⟩ = some v3) (d4 : w.cell? ⟨b, o + 4, none⟩ = some v4) (d5 : w.cell? ⟨b, o + 5, none⟩ = some v5) (d6 : w.cell? ⟨b, o + 6, none⟩ = some v6) (d7 : w.cell? ⟨b, o + 7, none⟩ = some v7) : w'.cell? ⟨b, o, none⟩ = some v0 /\ w'.cell? ⟨b, o + 1, none⟩ = some v1 /\ w'.cell? ⟨b, o + 2, none⟩ = some v2 /\ w'.cell? ⟨b, o + 3, none⟩ = some v3 /\ w'.cell? ⟨b, o + 4, none⟩ = some v4 /\ w'.cell? ⟨b, o + 5, none⟩ = some v5 /\ w'.cell? ⟨b, o + 6, none⟩ = some v6 /\ w'.cell? ⟨b, o + 7, none⟩ = some v7 := ⟨(h.cell (p := ⟨b, o, none⟩) hb).trans d0, (h.cell (p := ⟨b, o + 1, none⟩) hb).trans d1, (h.cell (p := ⟨b, o + 2, none⟩) hb).trans d2, (h.cell (p := ⟨b, o + 3, none⟩) hb).trans d3, (h.cell (p := ⟨b, o + 4, none⟩) hb).trans d4, (h.cell (p := ⟨b, o + 5, none⟩) hb).trans d5, (h.cell (p := ⟨b, o + 6, none⟩) hb).trans d6, (h.cell (p := ⟨b, o + 7, none⟩) hb).trans d7⟩
theorem kC7 {H : Nat} {w w' : World} {b o : Nat} {v0 v1 v2 v3 v4 v5 v6 : Value} (h : Below H w w') (hb : b < H) (d0 : w.cell? ⟨b, o, none⟩ = some v0) (d1 : w.cell? ⟨b, o + 1, none⟩ = some v1) (d2 : w.cell? ⟨b, o + 2, none⟩ = some v2) (d3 : w.cell? ⟨b, o + 3, none⟩ = some v3) (d4 : w.cell? ⟨b, o + 4, none⟩ = some v4) (d5 : w.cell? ⟨b, o + 5, none⟩ = some v5) (d6 : w.cell? ⟨b, o + 6, none⟩ = some v6) : w'.cell? ⟨b, o, none⟩ = some v0 /\ w'.cell? ⟨b, o + 1, none⟩ = some v1 /\ w'.cell? ⟨b, o + 2, none⟩ = some v2 /\ w'.cell? ⟨b, o + 3, none⟩ = some v3 /\ w'.cell? ⟨b, o + 4, none⟩ = some v4 /\ w'.cell? ⟨b, o + 5, none⟩ = some v5 /\ w'.cell? ⟨b, o + 6, none⟩ = some v6 := ⟨(h.cell (p := ⟨b, o, none⟩) hb).trans d0, (h.cell (p := ⟨b, o + 1, none⟩) hb).trans d1, (h.cell (p := ⟨b, o + 2, none⟩) hb).trans d2, (h.cell (p := ⟨b, o + 3, none⟩) hb).trans d3, (h.cell (p := ⟨b, o + 4, none⟩) hb).trans d4, (h.cell (p := ⟨b, o + 5, none⟩) hb).trans d5, (h.cell (p := ⟨b, o + 6, none⟩) hb).trans d6⟩
abbrev Bz:=@Lib.frozen_of_heap
abbrev By:=@Below.refl
abbrev Bx:=@List.getElem?_eq_some_iff
abbrev Bw:=@List.getElem?_eq_getElem
abbrev Bv:=@Below.setCell
abbrev Bu:=@Lib.cell_of_heap
abbrev Bt:=@Below.heap_alloc
abbrev Br:=@IntWalk.i64_in
abbrev Bq:=@Nat.zero_le
abbrev Bp:=@heap_setCell_other
abbrev Bm:=@heap_setCell_same
abbrev Bl:=@Nat.lt_of_lt_of_le
abbrev Bk:=@heap_alloc_new
abbrev Bj:=@List.length_map
abbrev Bi:=@List.mem_of_getElem?
abbrev Bh:=@List.length_take
abbrev Bg:=@World.cell?_of_block
abbrev Bf:=@wp_region_held_drew
abbrev Be:=@decide_eq_true_eq
abbrev Bd:=@List.length_append
abbrev Bc:=@List.cons.injEq
abbrev Bb:=@Nat.le_refl
abbrev Ba:=@Nat.le_trans
abbrev B7:=@List.all_eq_true
abbrev B8:=@Bool.and_eq_true
abbrev Cz:=@List.take_of_length_le
abbrev Cy:=@List.mem_append
abbrev Cx:=@bodyPost_ret
abbrev Cw:=@decide_eq_false_iff_not
abbrev Cv:=@List.getElem_mem
abbrev Cu:=@Option.some.injEq
abbrev Ct:=@List.take_add_one
abbrev Cs:=@List.mem_cons
abbrev Cr:=@info_parts
abbrev Cq:=@List.mem_singleton
abbrev Cp:=@Array.getElem?_eq_some_iff
abbrev Co:=@decide_eq_false
abbrev Cn:=@List.length_set
abbrev Cm:=@List.getElem?_take_of_lt
abbrev Cl:=@List.nil_append
abbrev Ck:=@beq_eq_false_iff_ne
abbrev Cj:=@decide_eq_true
abbrev Ci:=@List.length_cons
abbrev Ch:=@List.length_nil
abbrev Cg:=@List.getElem?_map
abbrev Cf:=@Nat.le_succ
abbrev Ce:=@List.getElem?_eq_none
abbrev Cd:=@List.eq_nil_of_length_eq_zero
abbrev Cc:=@List.length_drop
abbrev Cb:=@List.mem_cons_self
abbrev Ca:=@List.mem_map
abbrev C0:=@List.mem_cons_of_mem
abbrev C5:=@wpAnyH_all
abbrev C6:=@List.getElem?_drop
abbrev C7:=@Nat.eq_zero_or_pos
abbrev C8:=@List.all_eq_false
abbrev Dz:=@List.getElem?_append_right
abbrev Dy:=@Int.toNat_natCast
abbrev Dx:=@Nat.add_mul
abbrev Dw:=@Nat.zero_add
abbrev Dv:=@Nat.add_zero
abbrev Du:=@Bool.true_and
abbrev Dt:=@List.cons_append
abbrev Ds:=@List.all_cons
abbrev Dr:=@List.ext_getElem?
abbrev Dq:=@bne_iff_ne
abbrev Dp:=@Nat.le_of_lt
abbrev Do:=@List.getElem?_append_left
abbrev Dn:=@List.getElem?_set_ne
abbrev Dm:=@List.length_replicate
abbrev Dl:=@Bool.eq_iff_iff
abbrev Dk:=@List.append_nil
abbrev Dj:=@List.pairwise_cons
abbrev Di:=@List.map_cons
abbrev Dh:=@List.map_append
abbrev Dg:=@List.size_toArray
abbrev Df:=@List.getElem?_set_self
abbrev De:=@List.getElem?_cons_succ
abbrev Dd:=@List.mem_filter
abbrev Dc:=@List.foldl_cons
abbrev Db:=@List.mem_map_of_mem
abbrev Da:=@List.set_cons_succ
abbrev D0:=@Nat.mul_le_mul_right
abbrev D1:=@bne_eq_false_iff_eq
abbrev D3:=@getElem!_pos
abbrev D4:=@List.getElem?_cons_zero
abbrev D6:=@List.length_singleton
abbrev D7:=@Nat.ne_of_lt
abbrev D8:=@List.countP_cons
abbrev Ez:=@List.all_append
abbrev Ey:=@List.take_append_drop
abbrev Ex:=@List.mem_of_mem_take
abbrev Ew:=@Nat.add_assoc
abbrev Eu:=@List.mem_iff_getElem?
abbrev Et:=@Nat.add_sub_cancel
abbrev Es:=@List.flatMap_cons
abbrev Er:=@List.append_assoc
abbrev Eq:=@List.getElem?_set
abbrev Ep:=@Bool.eq_false_iff
abbrev Em:=@UInt8.lt_iff_toNat_lt
abbrev Ej:=@Array.getElem?_toList
abbrev Eh:=@List.getElem?_replicate
abbrev E2:=@List.length_filter_le
abbrev E7:=@List.drop_eq_nil_of_le
abbrev Fw:=@Array.getElem?_eq_getElem
abbrev Fp:=@List.take_append_of_le_length
end Go.Proofs.YteedihhdcbepmaaGreat
