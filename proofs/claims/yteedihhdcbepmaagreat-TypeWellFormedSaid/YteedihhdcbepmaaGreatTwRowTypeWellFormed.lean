/- Proved: TypeWellFormed: for every input the law returns true and leaves its arguments as they were. Conditions: none beyond the statement's own. -/
import Derived.Test.YteedihhdcbepmaaGreatTw39
import Derived.Test.YteedihhdcbepmaaGreatTw40
set_option maxRecDepth 100000
set_option linter.all false
open Go.Value renaming slice→vS,int→vI,string→vT
open Go.IntKind renaming i64→i6
open Go.Proofs.Tryz renaming prog→tP
namespace Go.Proofs.YteedihhdcbepmaaGreat
open Go.ChangeShapes Go.WideShapes Go.ChangeAt Go.RowKit Go.Joins
open Go.ChangeMaps (open_string)
theorem zCq (H:Type) (enc:TypeId×Value->H) (W:World) (base:Nat) (args:Array Value) (ds gs:List (DataW H)) (before:List MemPlace)
  (hval:∀ (j:Nat) t v,Tryz.f3.params[j]?=some t->args[j]?=some v->Value.okWide tP W .any base t v)
  (hW:DataW.Whole enc tP Tryz.f3.params.toList Rows.typeWellFormedSpec.vars false W args.toList ds gs before) (hsz:(DataW.weightsEach tP (Tryz.f3.params.toList++Rows.typeWellFormedSpec.plain.varTypes tP) (ds++gs)).all (·<=reachBytes)=true) :
  Calls tP 3 args W fun e W'=>∃ v,e=.returned v/\Rows.typeWellFormedSpec.post enc tP Tryz.f3 false true false false W args v W':=by
 have u:=hW;obtain⟨p,q,c,hV,rfl,F,E⟩:=hW;have hA:DataW.TrodAll enc tP W 0 (fun _=>true) true Tryz.f3.params.toList args.toList ds p:=c;rw[Tryz.params3]at hA hval;obtain⟨v0,C,d0,L,p0,q0,a,rfl,rfl,h0,r0⟩:=trodAll_cons hA;obtain⟨v1,B,d1,K,p1,q1,rfl,rfl,rfl,h1,r1⟩:=trodAll_cons r0;obtain⟨v2,A,d2,J,p2,q2,rfl,rfl,rfl,h2,r2⟩:=trodAll_cons r1;obtain⟨v3,z,d3,I,p3,q3,rfl,rfl,rfl,h3,r3⟩:=trodAll_cons r2;obtain⟨v4,y,d4,G,p4,q4,rfl,rfl,rfl,h4,r4⟩:=trodAll_cons r3;obtain⟨rfl,rfl,rfl⟩:=trodAll_nil r4;obtain rfl:args=#[v0,v1,v2,v3,v4]:=by cases args;simp_all
 obtain⟨rfl,rfl⟩:=trodVars_none hV;have k0:=h0;have n:∀ x∈p0,x.block<W.heap.size:=by obtain⟨m,hm⟩:=k0;exact DataW.trod_lt m _ _ _ hm
 have k1:=h1;have l:∀ x∈p1,x.block<W.heap.size:=by obtain⟨m,hm⟩:=k1;exact DataW.trod_lt m _ _ _ hm
 have k2:=h2;have k:∀ x∈p2,x.block<W.heap.size:=by obtain⟨m,hm⟩:=k2;exact DataW.trod_lt m _ _ _ hm
 have k3:=h3;have i:∀ x∈p3,x.block<W.heap.size:=by obtain⟨m,hm⟩:=k3;exact DataW.trod_lt m _ _ _ hm
 have k4:=h4;have g:∀ x∈p4,x.block<W.heap.size:=by obtain⟨m,hm⟩:=k4;exact DataW.trod_lt m _ _ _ hm
 obtain⟨A0,C0,d,f,rfl,w,o⟩:=zIh (hval 0 24 v0 rfl rfl) h0 (zR5 hsz 0 rfl rfl);obtain⟨A1,N1,C1,rfl⟩:=okWide_slice Tryz.underlying25 (hval 1 25 v1 rfl rfl);have b:=zIm h1;obtain⟨s2,rfl,rfl,rfl,D⟩:=open_int Tryz.underlying3 (hval 2 3 v2 rfl rfl) h2;obtain⟨s3,rfl,rfl,rfl,s⟩:=open_int Tryz.underlying3 (hval 3 3 v3 rfl rfl) h3;obtain⟨s4,rfl,rfl,rfl,r⟩:=open_int Tryz.underlying3 (hval 4 3 v4 rfl rfl) h4;clear c;refine (zNe (xI (zQt (xI zLo) (xI zFv))) (xI zFv) A1 N1 C1 s2 s3 s4 f d A0 C0 W b (by obtain⟨_,_,_,h,_⟩:=b;exact h.1) s r w o).mono fun e W' ⟨he,bel⟩=>?_;subst he;exact⟨_,rfl,_,_,_,[],_,[],u,trodAll_mk1 (shut_bool Tryz.underlying4 _),(trodAll_cons_mk (Below.trod zF5 (by kernel_rfl) (of_decide_eq_true (by kernel_rfl)) k0 bel n) (trodAll_cons_mk (Below.trod zF5 (by kernel_rfl) (of_decide_eq_true (by kernel_rfl)) k1 bel l) (trodAll_cons_mk (Below.trod zF5 (by kernel_rfl) (of_decide_eq_true (by kernel_rfl)) k2 bel k) (trodAll_cons_mk (Below.trod zF5 (by kernel_rfl) (of_decide_eq_true (by kernel_rfl)) k3 bel i) (trodAll_cons_mk (Below.trod zF5 (by kernel_rfl) (of_decide_eq_true (by kernel_rfl)) k4 bel g) trodAll_mk0))))),rfl,bel.frame _,fun h=>by cases h⟩
theorem zC7 (os:Os) (started:os.Started) (H:Type) (enc:TypeId×Value->H) :
  ReturnsInHanded {} Tryz.checked os 3 .any (Rows.typeWellFormedSpec.pre6 enc tP Tryz.f3 Rows.typeWellFormedRow.domain false) (Rows.typeWellFormedSpec.post enc tP Tryz.f3 false true false false):=by
 refine returnsInHanded_of_change_sized (C:=Tryz.checked) own started (by kernel_rfl) Tryz.func3
  (ChangeSpec.witness6 (enc:=enc) (C:=Tryz.checked) false ⟨#[],#[.agg #[vS none 0 0,vI i6 0],vS none 0 0,vI i6 0,vI i6 0,vI i6 0],[]⟩ 8 (by kernel_rfl) (by kernel_rfl) (by kernel_rfl) (by kernel_rfl)) ?_
 intro W base args ds gs before hval0 hW _ hsz _;exact zCq H enc W base args ds gs before hval0 hW hsz
theorem typeWellFormed_holds:Rows.TypeWellFormedSaid:=
 OpenClaim.holds_of_wide 3 Tryz.f3 rfl rfl rfl rfl rfl rfl rfl ⟨rfl,rfl,rfl,rfl,rfl⟩ rfl rfl rfl rfl rfl (by kernel_rfl) Tryz.func3 (by kernel_rfl)
  (of_decide_eq_true (by kernel_rfl)) (by unfold Func.isWrapper;first|(rw[if_pos (by decide +kernel)];kernel_rfl)|(rw[if_neg (by decide +kernel)];exact⟨rfl,rfl⟩))
  (fun os started H enc _=>zC7 os started H enc)
end Go.Proofs.YteedihhdcbepmaaGreat
