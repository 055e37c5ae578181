/- Proved: TypeFunctions: for every input the law returns true and leaves its arguments as they were. Conditions: none beyond the statement's own. -/
import Derived.Test.YteedihhdcbepmaaGreatTf36
import Derived.Test.YteedihhdcbepmaaGreatTf38
import Derived.Test.YteedihhdcbepmaaGreatTf39
set_option maxRecDepth 100000
set_option linter.all false
open Go.Value renaming slice→vS,int→vI,string→vT
open Go.IntKind renaming i64→i6
open Go.Proofs.Tryz renaming prog→tP
namespace Go.Proofs.YteedihhdcbepmaaGreat
open Go.ChangeShapes Go.WideShapes Go.ChangeAt Go.RowKit Go.Joins
open Go.ChangeMaps (open_string)
theorem zC1 (H:Type) (enc:TypeId×Value->H) (W:World) (base:Nat) (args:Array Value) (ds gs:List (DataW H)) (before:List MemPlace)
  (hval:∀ (j:Nat) t v,Tryz.f5.params[j]?=some t->args[j]?=some v->Value.okWide tP W .any base t v)
  (hW:DataW.Whole enc tP Tryz.f5.params.toList Rows.typeFunctionsSpec.vars false W args.toList ds gs before) :
  Calls tP 5 args W fun e W'=>∃ v,e=.returned v/\Rows.typeFunctionsSpec.post enc tP Tryz.f5 false true false false W args v W':=by
 have k:=hW;obtain⟨p,q,d,hV,rfl,u,s⟩:=hW;have hA:DataW.TrodAll enc tP W 0 (fun _=>true) true Tryz.f5.params.toList args.toList ds p:=d;rw[Tryz.params5]at hA hval;obtain⟨v0,o,d0,z,p0,q0,a,rfl,rfl,h0,r0⟩:=trodAll_cons hA;obtain⟨v1,n,d1,y,p1,q1,rfl,rfl,rfl,h1,r1⟩:=trodAll_cons r0;obtain⟨v2,l,d2,w,p2,q2,rfl,rfl,rfl,h2,r2⟩:=trodAll_cons r1;obtain⟨rfl,rfl,rfl⟩:=trodAll_nil r2;obtain rfl:args=#[v0,v1,v2]:=by cases args;simp_all
 obtain⟨rfl,rfl⟩:=trodVars_none hV;have k0:=h0;have i:∀ x∈p0,x.block<W.heap.size:=by obtain⟨m,hm⟩:=k0;exact DataW.trod_lt m _ _ _ hm
 have k1:=h1;have g:∀ x∈p1,x.block<W.heap.size:=by obtain⟨m,hm⟩:=k1;exact DataW.trod_lt m _ _ _ hm
 have k2:=h2;have f:∀ x∈p2,x.block<W.heap.size:=by obtain⟨m,hm⟩:=k2;exact DataW.trod_lt m _ _ _ hm
 obtain⟨A0,N0,C0,rfl⟩:=okWide_slice Tryz.underlying25 (hval 0 25 v0 rfl rfl);have c:=zEv h0;obtain⟨A1,N1,C1,rfl⟩:=okWide_slice Tryz.underlying25 (hval 1 25 v1 rfl rfl);have b:=zEv h1;obtain⟨s2,rfl,rfl,rfl,r⟩:=open_int Tryz.underlying3 (hval 2 3 v2 rfl rfl) h2;clear d;refine (zI8 (xI (zP0 (xI zKx) (xI zFj))) (xI zFj) A0 A1 N0 C0 N1 C1 s2 W c (by obtain⟨_,_,_,h,_⟩:=c;exact h.1) b (by obtain⟨_,_,_,h,_⟩:=b;exact h.1)).mono fun e W' ⟨he,bel⟩=>?_;subst he;exact⟨_,rfl,_,_,_,[],_,[],k,trodAll_mk1 (shut_bool Tryz.underlying4 _),(trodAll_cons_mk (Below.trod zJa (by kernel_rfl) (of_decide_eq_true (by kernel_rfl)) k0 bel i) (trodAll_cons_mk (Below.trod zJa (by kernel_rfl) (of_decide_eq_true (by kernel_rfl)) k1 bel g) (trodAll_cons_mk (Below.trod zJa (by kernel_rfl) (of_decide_eq_true (by kernel_rfl)) k2 bel f) trodAll_mk0))),rfl,bel.frame _,fun h=>by cases h⟩
theorem zDo (os:Os) (started:os.Started) (H:Type) (enc:TypeId×Value->H) :
  ReturnsInHanded {} Tryz.checked os 5 .any (Rows.typeFunctionsSpec.pre6 enc tP Tryz.f5 Rows.typeFunctionsRow.domain false) (Rows.typeFunctionsSpec.post enc tP Tryz.f5 false true false false):=by
 refine returnsInHanded_of_change (C:=Tryz.checked) own started (by kernel_rfl) Tryz.func5
  (ChangeSpec.witness6 (enc:=enc) (C:=Tryz.checked) false ⟨#[],#[vS none 0 0,vS none 0 0,vI i6 0],[]⟩ 8 (by kernel_rfl) (by kernel_rfl) (by kernel_rfl) (by kernel_rfl)) ?_
 intro W base args ds gs before hval0 hW _ _;exact zC1 H enc W base args ds gs before hval0 hW
theorem typeFunctions_holds:Rows.TypeFunctionsSaid:=
 OpenClaim.holds_of_wide 5 Tryz.f5 rfl rfl rfl rfl rfl rfl rfl ⟨rfl,rfl,rfl,rfl,rfl⟩ rfl rfl rfl rfl rfl (by kernel_rfl) Tryz.func5 (by kernel_rfl)
  (of_decide_eq_true (by kernel_rfl)) (by unfold Func.isWrapper;first|(rw[if_pos (by decide +kernel)];kernel_rfl)|(rw[if_neg (by decide +kernel)];exact⟨rfl,rfl⟩))
  (fun os started H enc _=>zDo os started H enc)
end Go.Proofs.YteedihhdcbepmaaGreat
