/- Short names for facts of the library that .. -/
import Derived.Deep.RegionHeld
import Derived.Lib.Hide
import Derived.Lib.Builder
import Derived.WalkKit
set_option linter.all false
namespace Go.Proofs.YteedihhdcbepmaaGreat
open Go Go.RowKit
abbrev j2 (w : World) (b : Nat) (x y : Value) : Prop := w.cell? ⟨b, 0, none⟩ = some x /\ w.cell? ⟨b, 1, none⟩ = some y
abbrev j7 (w : World) (b : Nat) (x0 x1 x2 x3 x4 x5 x6 : Value) : Prop := w.cell? ⟨b, 0, none⟩ = some x0 /\ w.cell? ⟨b, 1, none⟩ = some x1 /\ w.cell? ⟨b, 2, none⟩ = some x2 /\ w.cell? ⟨b, 3, none⟩ = some x3 /\ w.cell? ⟨b, 4, none⟩ = some x4 /\ w.cell? ⟨b, 5, none⟩ = some x5 /\ w.cell? ⟨b, 6, none⟩ = some x6
abbrev j8 (w : World) (b : Nat) (x0 x1 x2 x3 x4 x5 x6 x7 : Value) : Prop := w.cell? ⟨b, 0, none⟩ = some x0 /\ w.cell? ⟨b, 1, none⟩ = some x1 /\ w.cell? ⟨b, 2, none⟩ = some x2 /\ w.cell? ⟨b, 3, none⟩ = some x3 /\ w.cell? ⟨b, 4, none⟩ = some x4 /\ w.cell? ⟨b, 5, none⟩ = some x5 /\ w.cell? ⟨b, 6, none⟩ = some x6 /\ w.cell? ⟨b, 7, none⟩ = some x7
abbrev jT (w : World) (b : Nat) (p : Option Addr) (n c : Nat) (i : Int) : Prop := j2 w b (.slice p n c) (.int .i64 i)
abbrev jV (w : World) (b : Nat) (k i : Int) (t : ByteArray) (p1 : Option Addr) (n1 c1 : Nat) (p2 : Option Addr) (n2 c2 : Nat) (p3 : Option Addr) (n3 c3 : Nat) (p4 : Option Addr) (n4 c4 : Nat) : Prop := j7 w b (.int .i64 k) (.int .i64 i) (.string t) (.slice p1 n1 c1) (.slice p2 n2 c2) (.slice p3 n3 c3) (.slice p4 n4 c4)
abbrev jN (w : World) (b : Nat) (k i j : Int) (t : ByteArray) (p1 : Option Addr) (n1 c1 : Nat) (p2 : Option Addr) (n2 c2 : Nat) (r s : Int) : Prop := j8 w b (.int .i64 k) (.int .i64 i) (.int .i64 j) (.string t) (.slice p1 n1 c1) (.slice p2 n2 c2) (.int .i64 r) (.int .i64 s)
abbrev aH (w : World) (o : Nat) : Addr := ⟨w.heap.size, o, none⟩
abbrev aE (w : World) (o : Nat) : Addr := ⟨w.heap.size + 1, o, none⟩
abbrev aF (w : World) (o : Nat) : Addr := ⟨w.heap.size + 1 + 1, o, none⟩
abbrev bW (w v : World) : Prop := Below w.heap.size w v
abbrev aD (b o : Nat) : Addr := ⟨b, o, none⟩
abbrev nV : Array Value := #[.int .i64 0,.int .i64 0,.string ⟨#[]⟩,.slice none 0 0,.slice none 0 0,.slice none 0 0,.slice none 0 0]
abbrev nL : List Value := [.int .i64 0,.int .i64 0,.string ⟨#[]⟩,.slice none 0 0,.slice none 0 0,.slice none 0 0,.slice none 0 0]
abbrev oV (k i : Int) (t : ByteArray) (p0 : Option Addr) (n0 m0 : Nat) (p1 : Option Addr) (n1 m1 : Nat) (p2 : Option Addr) (n2 m2 : Nat) (p3 : Option Addr) (n3 m3 : Nat) : Obj := .cells #[.int .i64 k, .int .i64 i, .string t, .slice p0 n0 m0, .slice p1 n1 m1, .slice p2 n2 m2, .slice p3 n3 m3] 33 (0, 0)
abbrev oX (k i j : Int) (t : ByteArray) (p0 : Option Addr) (n0 m0 : Nat) (p1 : Option Addr) (n1 m1 : Nat) (r s : Int) : Obj := .cells #[.int .i64 k, .int .i64 i, .int .i64 j, .string t, .slice p0 n0 m0, .slice p1 n1 m1, .int .i64 r, .int .i64 s] 40 (0, 0)
abbrev oE (p : Option Addr) (n m : Nat) (i : Int) : Obj := .cells #[.slice p n m, .int .i64 i] 24 (0, 0)
abbrev oG : Obj := oV 0 0 ⟨#[]⟩ none 0 0 none 0 0 none 0 0 none 0 0
abbrev oH : Obj := oX 0 0 0 ⟨#[]⟩ none 0 0 none 0 0 0 0
theorem lR {n:Nat}:n<=n:=Nat.le_refl n
theorem aN {a b:Prop}(h:a) (g:b):a/\b:=⟨h,g⟩
theorem aW (w : World) (o : Obj) : ∃ W, W = w.alloc o /\ Below w.heap.size w W /\ W.heap[w.heap.size]? = some o /\ W.heap.size = w.heap.size + 1 := ⟨_, rfl, (Below.refl _ _).alloc (Nat.le_refl _) _, heap_alloc_new w _, by simp⟩
theorem wR {P : Program} {id : Nat} {ops : Array Oper} {Q : Exit -> Act -> World -> Prop} {S : World -> Prop} {H : Nat} {W w : World} {a : Act} (_ : Hid (∀ V, Below H W V -> S V)) (hm : P.follows .mixedOrders = true) (hS : S w.drew) (h : S w.drew -> wpAnyH P .any ops Q S ops.size (Array.replicate ops.size false) a w.drew) : (Code.region id ops true).wp P Q a w := wp_region_held_drew hm hS h
theorem nW{f:World->Prop}{w:World}(h:∀ V,V=w->f V):f w:=h w rfl
theorem yR {H:Nat}{w:World}:Below H w w:=Below.refl H w
theorem xI {p:Prop}(h:p):Hid p:=Lib.hid h
theorem cH {w:World}{g:Nat}{cs:Array Value}{e:TypeId}{z:Nat×Nat}(h:w.heap[g]?=some (.cells cs e z)) (i:Nat){v:Value}(hv:cs[i]?=some v:=by rfl):w.cell? ⟨g,i,none⟩=some v:=(Lib.cell_of_heap h i).trans hv
theorem pK:(∀ (a:Act) (d:Nat) (v:Value),a.put (some d) v={ a with tmps:=a.tmps.setIfInBounds d v })/\(∀ (a:Act) (v:Value),a.put none v=a)/\(∀ {α:Type} (l:List α) (i:Nat) (a:α),l.toArray.setIfInBounds i a=(l.set i a).toArray)/\(∀ {α:Type} (x:α) (l:List α) (a:α),(x::l).set 0 a=a::l)/\∀ {α:Type} (x:α) (l:List α) (n:Nat) (a:α),(x::l).set (n+1) a=x::l.set n a:=
  ⟨fun _ _ _=>rfl,fun _ _=>rfl,fun _ _ _=>List.setIfInBounds_toArray ..,fun _ _ _=>rfl,fun _ _ _ _=>rfl⟩
theorem kC8 {H : Nat} {w w' : World} {b o : Nat} {v0 v1 v2 v3 v4 v5 v6 v7 : Value} (h : Below H w w') (hb : b < H) (d0 : w.cell? ⟨b, o, none⟩ = some v0) (d1 : w.cell? ⟨b, o + 1, none⟩ = some v1) (d2 : w.cell? ⟨b, o + 2, none⟩ = some v2) (d3 : w.cell? ⟨b, o + 3, none⟩ = some v3) (d4 : w.cell? ⟨b, o + 4, none⟩ = some v4) (d5 : w.cell? ⟨b, o + 5, none⟩ = some v5) (d6 : w.cell? ⟨b, o + 6, none⟩ = some v6) (d7 : w.cell? ⟨b, o + 7, none⟩ = some v7) : w'.cell? ⟨b, o, none⟩ = some v0 /\ w'.cell? ⟨b, o + 1, none⟩ = some v1 /\ w'.cell? ⟨b, o + 2, none⟩ = some v2 /\ w'.cell? ⟨b, o + 3, none⟩ = some v3 /\ w'.cell? ⟨b, o + 4, none⟩ = some v4 /\ w'.cell? ⟨b, o + 5, none⟩ = some v5 /\ w'.cell? ⟨b, o + 6, none⟩ = some v6 /\ w'.cell? ⟨b, o + 7, none⟩ = some v7 := ⟨(h.cell (p := ⟨b, o, none⟩) hb).trans d0, (h.cell (p := ⟨b, o + 1, none⟩) hb).trans d1, (h.cell (p := ⟨b, o + 2, none⟩) hb).trans d2, (h.cell (p := ⟨b, o + 3, none⟩) hb).trans d3, (h.cell (p := ⟨b, o + 4, none⟩) hb).trans d4, (h.cell (p := ⟨b, o + 5, none⟩) hb).trans d5, (h.cell (p := ⟨b, o + 6, none⟩) hb).trans d6, (h.cell (p := ⟨b, o + 7, none⟩) hb).trans d7⟩
theorem kC7 {H : Nat} {w w' : World} {b o : Nat} {v0 v1 v2 v3 v4 v5 v6 : Value} (h : Below H w w') (hb : b < H) (d0 : w.cell? ⟨b, o, none⟩ = some v0) (d1 : w.cell? ⟨b, o + 1, none⟩ = some v1) (d2 : w.cell? ⟨b, o + 2, none⟩ = some v2) (d3 : w.cell? ⟨b, o + 3, none⟩ = some v3) (d4 : w.cell? ⟨b, o + 4, none⟩ = some v4) (d5 : w.cell? ⟨b, o + 5, none⟩ = some v5) (d6 : w.cell? ⟨b, o + 6, none⟩ = some v6) : w'.cell? ⟨b, o, none⟩ = some v0 /\ w'.cell? ⟨b, o + 1, none⟩ = some v1 /\ w'.cell? ⟨b, o + 2, none⟩ = some v2 /\ w'.cell? ⟨b, o + 3, none⟩ = some v3 /\ w'.cell? ⟨b, o + 4, none⟩ = some v4 /\ w'.cell? ⟨b, o + 5, none⟩ = some v5 /\ w'.cell? ⟨b, o + 6, none⟩ = some v6 := ⟨(h.cell (p := ⟨b, o, none⟩) hb).trans d0, (h.cell (p := ⟨b, o + 1, none⟩) hb).trans d1, (h.cell (p := ⟨b, o + 2, none⟩) hb).trans d2, (h.cell (p := ⟨b, o + 3, none⟩) hb).trans d3, (h.cell (p := ⟨b, o + 4, none⟩) hb).trans d4, (h.cell (p := ⟨b, o + 5, none⟩) hb).trans d5, (h.cell (p := ⟨b, o + 6, none⟩) hb).trans d6⟩
abbrev Bz:=@Lib.frozen_of_heap
abbrev By:=@List.getElem?_eq_getElem
abbrev Bx:=@List.getElem?_eq_some_iff
abbrev Bw:=@Below.refl
abbrev Bv:=@Lib.cell_of_heap
abbrev Bu:=@Below.setCell
abbrev Bt:=@Nat.zero_le
abbrev Br:=@IntWalk.i64_in
abbrev Bq:=@heap_setCell_other
abbrev Bp:=@Below.heap_alloc
abbrev Bm:=@heap_setCell_same
abbrev Bl:=@heap_alloc_new
abbrev Bk:=@List.length_map
abbrev Bj:=@Nat.lt_of_lt_of_le
abbrev Bi:=@World.cell?_of_block
abbrev Bh:=@List.mem_of_getElem?
abbrev Bg:=@List.length_take
abbrev Bf:=@decide_eq_true_eq
abbrev Be:=@wp_region_held_drew
abbrev Bd:=@List.length_append
abbrev Bc:=@Nat.le_refl
abbrev Bb:=@List.cons.injEq
abbrev Ba:=@Nat.le_trans
abbrev B7:=@List.mem_append
abbrev B8:=@List.take_of_length_le
abbrev Cz:=@List.all_eq_true
abbrev Cy:=@Bool.and_eq_true
abbrev Cx:=@List.getElem_mem
abbrev Cw:=@bodyPost_ret
abbrev Cv:=@Array.getElem?_eq_some_iff
abbrev Cu:=@decide_eq_false_iff_not
abbrev Ct:=@List.mem_singleton
abbrev Cs:=@List.mem_cons
abbrev Cr:=@List.take_add_one
abbrev Cq:=@Option.some.injEq
abbrev Cp:=@info_parts
abbrev Co:=@List.getElem?_take_of_lt
abbrev Cn:=@List.nil_append
abbrev Cm:=@beq_eq_false_iff_ne
abbrev Cl:=@List.length_nil
abbrev Ck:=@List.length_set
abbrev Cj:=@List.length_cons
abbrev Ci:=@decide_eq_false
abbrev Ch:=@List.getElem?_map
abbrev Cg:=@Nat.le_succ
abbrev Cf:=@List.eq_nil_of_length_eq_zero
abbrev Ce:=@List.getElem?_eq_none
abbrev Cd:=@List.mem_map
abbrev Cc:=@List.length_drop
abbrev Cb:=@Int.toNat_natCast
abbrev Ca:=@List.mem_cons_self
abbrev C0:=@List.mem_cons_of_mem
abbrev C5:=@wpAnyH_all
abbrev C6:=@Nat.add_mul
abbrev C7:=@List.getElem?_drop
abbrev C8:=@decide_eq_true
abbrev Dz:=@Nat.eq_zero_or_pos
abbrev Dy:=@List.all_eq_false
abbrev Dx:=@Nat.zero_add
abbrev Dw:=@List.getElem?_append_right
abbrev Dv:=@List.pairwise_cons
abbrev Du:=@Nat.le_of_lt
abbrev Dt:=@List.getElem?_append_left
abbrev Ds:=@Nat.add_zero
abbrev Dr:=@List.cons_append
abbrev Dq:=@List.ext_getElem?
abbrev Dp:=@bne_iff_ne
abbrev Do:=@List.append_nil
abbrev Dn:=@List.foldl_cons
abbrev Dm:=@List.map_cons
abbrev Dl:=@List.map_append
abbrev Dk:=@Bool.eq_iff_iff
abbrev Dj:=@List.mem_filter
abbrev Di:=@Nat.mul_le_mul_right
abbrev Dh:=@List.size_toArray
abbrev Dg:=@List.length_singleton
abbrev Df:=@List.set_cons_succ
abbrev De:=@List.all_cons
abbrev Dc:=@bne_eq_false_iff_eq
abbrev Db:=@getElem!_pos
abbrev Da:=@Nat.add_assoc
abbrev D0:=@List.getElem?_cons_zero
abbrev D1:=@List.getElem?_cons_succ
abbrev D3:=@List.getElem?_set_ne
abbrev D4:=@List.mem_iff_getElem?
abbrev D5:=@Nat.ne_of_lt
abbrev D6:=@List.append_assoc
abbrev D7:=@List.countP_cons
abbrev D8:=@List.length_replicate
abbrev Ey:=@List.mem_of_mem_take
abbrev Ev:=@List.getElem?_set_self
abbrev Eu:=@Nat.add_sub_cancel
abbrev Et:=@Bool.true_and
abbrev Es:=@List.flatMap_cons
abbrev Er:=@List.getElem?_set
abbrev Eq:=@Bool.eq_false_iff
abbrev Ep:=@List.mem_map_of_mem
abbrev Eo:=@List.take_append_drop
abbrev Em:=@UInt8.lt_iff_toNat_lt
abbrev El:=@List.length_filter_le
abbrev Ek:=@List.take_length
abbrev Ei:=@Array.getElem?_toList
abbrev Eh:=@List.getElem?_replicate
abbrev Ed:=@List.getD_eq_getElem?_getD
abbrev Fy:=@List.drop_eq_nil_of_le
abbrev Fr:=@Array.getElem?_eq_getElem
abbrev Fk:=@List.take_append_of_le_length
end Go.Proofs.YteedihhdcbepmaaGreat
