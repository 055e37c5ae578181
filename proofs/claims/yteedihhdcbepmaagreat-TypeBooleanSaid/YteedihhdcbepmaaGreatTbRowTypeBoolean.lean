/- Proved: TypeBoolean: for every input the law returns true and leaves its arguments as they were. Conditions: none beyond the statement's own. -/
import Derived.Test.YteedihhdcbepmaaGreatTb23
import Derived.Test.YteedihhdcbepmaaGreatTb39
import Derived.Test.YteedihhdcbepmaaGreatTb40
set_option maxRecDepth 100000
open Go.Value renaming slice→vS,int→vI,string→vT
open Go.IntKind renaming i64→i6
open Go.Proofs.Tryz renaming prog→tP
namespace Go.Proofs.YteedihhdcbepmaaGreat
open Go.ChangeShapes Go.WideShapes Go.ChangeAt Go.RowKit Go.Joins
open Go.ChangeMaps (open_string)
theorem zDp (H:Type) (enc:TypeId×Value->H) (W:World) (base:Nat) (args:Array Value) (ds gs:List (DataW H)) (before:List MemPlace)
  (hval:∀ (j:Nat) t v,Tryz.f6.params[j]?=some t->args[j]?=some v->Value.okWide tP W .any base t v)
  (hW:DataW.Whole enc tP Tryz.f6.params.toList Rows.typeBooleanSpec.vars false W args.toList ds gs before) (hsz:(DataW.weightsEach tP (Tryz.f6.params.toList++Rows.typeBooleanSpec.plain.varTypes tP) (ds++gs)).all (·<=reachBytes)=true) :
  Calls tP 6 args W fun e W'=>∃ v,e=.returned v/\Rows.typeBooleanSpec.post enc tP Tryz.f6 false true false false W args v W':=by
 have s:=hW;obtain⟨p,q,f,hV,rfl,C,B⟩:=hW;have hA:DataW.TrodAll enc tP W 0 (fun _=>true) true Tryz.f6.params.toList args.toList ds p:=f;rw[Tryz.params6]at hA hval;obtain⟨v0,A,d0,G,p0,q0,a,rfl,rfl,h0,r0⟩:=trodAll_cons hA;obtain⟨v1,z,d1,F,p1,q1,rfl,rfl,rfl,h1,r1⟩:=trodAll_cons r0;obtain⟨v2,y,d2,E,p2,q2,rfl,rfl,rfl,h2,r2⟩:=trodAll_cons r1;obtain⟨v3,w,d3,D,p3,q3,rfl,rfl,rfl,h3,r3⟩:=trodAll_cons r2;obtain⟨rfl,rfl,rfl⟩:=trodAll_nil r3;obtain rfl:args=#[v0,v1,v2,v3]:=by cases args;simp_all
 obtain⟨rfl,rfl⟩:=trodVars_none hV;have k0:=h0;have o:∀ x∈p0,x.block<W.heap.size:=by obtain⟨m,hm⟩:=k0;exact DataW.trod_lt m _ _ _ hm
 have k1:=h1;have n:∀ x∈p1,x.block<W.heap.size:=by obtain⟨m,hm⟩:=k1;exact DataW.trod_lt m _ _ _ hm
 have k2:=h2;have l:∀ x∈p2,x.block<W.heap.size:=by obtain⟨m,hm⟩:=k2;exact DataW.trod_lt m _ _ _ hm
 have k3:=h3;have k:∀ x∈p3,x.block<W.heap.size:=by obtain⟨m,hm⟩:=k3;exact DataW.trod_lt m _ _ _ hm
 obtain⟨A0,N0,C0,rfl⟩:=okWide_slice Tryz.underlying25 (hval 0 25 v0 rfl rfl);have d:=zC6 h0;obtain⟨A1,N1,C1,rfl⟩:=okWide_slice Tryz.underlying25 (hval 1 25 v1 rfl rfl);have c:=zC6 h1;obtain⟨A2,N2,C2,rfl⟩:=okWide_slice Tryz.underlying25 (hval 2 25 v2 rfl rfl);have b:=zC6 h2;obtain⟨A3,C3,g,i,rfl,u,r⟩:=zIi (hval 3 24 v3 rfl rfl) h3 (zR6 hsz 3 rfl rfl);clear f;refine (zJr (xI (zQs (xI zLh) (xI zFt))) (xI zFt) A0 A1 A2 N0 C0 N1 C1 N2 C2 i g A3 C3 W d (by obtain⟨_,_,_,h,_⟩:=d;exact h.1) c (by obtain⟨_,_,_,h,_⟩:=c;exact h.1) b (by obtain⟨_,_,_,h,_⟩:=b;exact h.1) u r).mono fun e W' ⟨he,bel⟩=>?_;subst he;exact⟨_,rfl,_,_,_,[],_,[],s,trodAll_mk1 (shut_bool Tryz.underlying4 _),(trodAll_cons_mk (Below.trod zHz (by kernel_rfl) (of_decide_eq_true (by kernel_rfl)) k0 bel o) (trodAll_cons_mk (Below.trod zHz (by kernel_rfl) (of_decide_eq_true (by kernel_rfl)) k1 bel n) (trodAll_cons_mk (Below.trod zHz (by kernel_rfl) (of_decide_eq_true (by kernel_rfl)) k2 bel l) (trodAll_cons_mk (Below.trod zHz (by kernel_rfl) (of_decide_eq_true (by kernel_rfl)) k3 bel k) trodAll_mk0)))),rfl,bel.frame _,fun h=>by cases h⟩
theorem zD8 (os:Os) (started:os.Started) (H:Type) (enc:TypeId×Value->H) :
  ReturnsInHanded {} Tryz.checked os 6 .any (Rows.typeBooleanSpec.pre6 enc tP Tryz.f6 Rows.typeBooleanRow.domain false) (Rows.typeBooleanSpec.post enc tP Tryz.f6 false true false false):=by
 refine returnsInHanded_of_change_sized (C:=Tryz.checked) own started (by kernel_rfl) Tryz.func6
  (ChangeSpec.witness6 (enc:=enc) (C:=Tryz.checked) false ⟨#[],#[vS none 0 0,vS none 0 0,vS none 0 0,.agg #[vS none 0 0,vI i6 0]],[]⟩ 8 (by kernel_rfl) (by kernel_rfl) (by kernel_rfl) (by kernel_rfl)) ?_
 intro W base args ds gs before hval0 hW _ hsz _;exact zDp H enc W base args ds gs before hval0 hW hsz
theorem typeBoolean_holds:Rows.TypeBooleanSaid:=
 OpenClaim.holds_of_wide 6 Tryz.f6 rfl rfl rfl rfl rfl rfl rfl ⟨rfl,rfl,rfl,rfl,rfl⟩ rfl rfl rfl rfl rfl (by kernel_rfl) Tryz.func6 (by kernel_rfl)
  (of_decide_eq_true (by kernel_rfl)) (by unfold Func.isWrapper;first|(rw[if_pos (by decide +kernel)];kernel_rfl)|(rw[if_neg (by decide +kernel)];exact⟨rfl,rfl⟩))
  (fun os started H enc _=>zD8 os started H enc)
end Go.Proofs.YteedihhdcbepmaaGreat
