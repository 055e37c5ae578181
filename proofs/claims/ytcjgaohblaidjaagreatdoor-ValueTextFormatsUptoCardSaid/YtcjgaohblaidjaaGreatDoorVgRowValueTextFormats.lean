/- Proved: the card of ValueTextFormats: for every input of bulk at most 1048576 the law returns true and leaves its arguments as they were. Conditions: none beyond the statement's own. -/
import Derived.Test.YtcjgaohblaidjaaGreatDoorVgZ
import Derived.Test.YtcjgaohblaidjaaGreatDoorVg04
import Derived.Test.YtcjgaohblaidjaaGreatDoorVg19
import Derived.Test.YtcjgaohblaidjaaGreatDoorVg24
import Derived.Test.YtcjgaohblaidjaaGreatDoorVgLawFormats5
import Derived.Test.YtcjgaohblaidjaaGreatDoorVg36
import Derived.Test.YtcjgaohblaidjaaGreatDoorCards
import Derived.Test.YtcjgaohblaidjaaGreatDoorTie
import Derived.Deep.DeepWitnessRowRef
import Derived.Lay
import Derived.LaidMore
set_option maxRecDepth 100000
namespace Go.Proofs.YtcjgaohblaidjaaGreatDoor
open Go.ChangeShapes Go.WideShapes Go.ChangeAt Go.RowKit Go.Joins
open Go.ChangeMaps (open_string)
theorem zGf {H:Type}{enc:TypeId×Value→H}{W:World}{base:Nat}{v:Value}{d:DataW H}{p:List MemPlace}(hval:Value.okWide Tryz.prog W .any base 27 v) (h:DataW.Trod enc Tryz.prog W 0 (fun _=>true) true 27 v d p) :
  ∃ k u cs,v=.agg cs.toArray∧VS k W W.heap.size u cs∧wt u≤Rows.uptoBulk d:=by
 obtain⟨fs,hfs,_⟩:=zC4 valT.v;obtain⟨cs,rfl,hsz⟩:=okWide_struct hfs hval;obtain⟨fuel,hf⟩:=h;have hc:(Value.agg cs).cells.toList=cs.toList:=rfl;rw[hc]at hf;obtain⟨u,hu,hw⟩:=zRo valT fuel cs.toList _ hf;exact⟨fuel,u,cs.toList,by simp,hu,hw⟩
noncomputable def zBh (os:Os):World:=World.laidAll Tryz.prog os Rows.valueTextFormatsUptoRow.laid
theorem zD5 (os:Os):laidMet Tryz.prog Rows.valueTextFormatsUptoRow.laid ((zBh os).forCall (fun _ _=>0) ⟨#[],#[.agg #[.int .i64 0,.int .i64 0,.string ⟨#[]⟩,.slice none 0 0,.slice none 0 0,.slice none 0 0,.slice none 0 0],.slice none 0 0],[]⟩).memory:=
 laidMet_laidAll _ (by kernel_rfl) (by kernel_rfl)
theorem zC7 (os:Os){H:Type}(enc:TypeId×Value→H):∃ places,DataW.whole enc Tryz.prog ((zBh os).forCall (fun _ _=>0) ⟨#[],#[.agg #[.int .i64 0,.int .i64 0,.string ⟨#[]⟩,.slice none 0 0,.slice none 0 0,.slice none 0 0,.slice none 0 0],.slice none 0 0],[]⟩).memory Tryz.f3.params.toList Rows.valueTextFormatsSpec.vars false #[.agg #[.int .i64 0,.int .i64 0,.string ⟨#[]⟩,.slice none 0 0,.slice none 0 0,.slice none 0 0,.slice none 0 0],.slice none 0 0].toList 8=some ([.agg [.lit (.int .i64 0),.lit (.int .i64 0),.lit (.string []),.nil,.nil,.nil,.nil],.nil],[],places):=
 ⟨[],by kernel_rfl⟩
theorem zCj (H:Type) (enc:TypeId×Value→H) (W:World) (base:Nat) (args:Array Value) (ds gs:List (DataW H)) (before:List MemPlace)
  (hval:∀ (j:Nat) t v,Tryz.f3.params[j]?=some t→args[j]?=some v→Value.okWide Tryz.prog W .any base t v)
  (hW:DataW.Whole enc Tryz.prog Tryz.f3.params.toList Rows.valueTextFormatsSpec.vars false W args.toList ds gs before) (hL:laidMetH Tryz.prog Rows.valueTextFormatsUptoRow.laid W) (hk:Rows.uptoSmall H (ds++gs)=true) :
  Calls Tryz.prog 3 args W fun e W'=>∃ v,e=.returned v∧Rows.valueTextFormatsSpec.post enc Tryz.prog Tryz.f3 false true false false W args v W':=by
 have hW':=hW;obtain⟨p,q,hA0,hV,rfl,hfz,hnd⟩:=hW;have hA:DataW.TrodAll enc Tryz.prog W 0 (fun _=>true) true Tryz.f3.params.toList args.toList ds p:=hA0;rw[Tryz.params3]at hA hval;obtain⟨v0,vs0,d0,ds0,p0,q0,hargs,rfl,rfl,h0,r0⟩:=trodAll_cons hA;obtain⟨v1,vs1,d1,ds1,p1,q1,rfl,rfl,rfl,h1,r1⟩:=trodAll_cons r0;obtain⟨rfl,rfl,rfl⟩:=trodAll_nil r1;obtain rfl:args=#[v0,v1]:=by cases args;simp_all
 obtain⟨rfl,rfl⟩:=trodVars_none hV;have k0:=h0;have lt0:∀ x∈p0,x.block<W.heap.size:=by obtain⟨m,hm⟩:=k0;exact DataW.trod_lt m _ _ _ hm
 have k1:=h1;have lt1:∀ x∈p1,x.block<W.heap.size:=by obtain⟨m,hm⟩:=k1;exact DataW.trod_lt m _ _ _ hm
 obtain⟨K0,u0,c0,rfl,hv0,wt0⟩:=zGf (hval 0 27 v0 rfl rfl) h0;obtain⟨A1,N1,C1,rfl⟩:=okWide_slice Tryz.underlying28 (hval 1 28 v1 rfl rfl);have hR1:=zJn h1;have hEW:=zRx hL;have hEH:=hEW.envH;have hDr:Hid zMk:=xI fun A n c w hR hn=>zOr A n c w hR hn;clear hA0;have hbk:Rows.uptoBulkAll [d0,d1]≤1048576:=of_decide_eq_true (show Rows.uptoSmall H [d0,d1]=true by simpa only[List.append_nil] using hk);simp only[Rows.uptoBulkAll]at hbk;have hlv:okV u0=true→(showV u0).length≤140737488355328:=fun ho=>by
  have:=zQw _ u0 (VB.fit hv0 ho);omega
 refine (zK8 hDr K0 u0 c0 A1 N1 C1 W hv0 hlv hR1 hEH).mono fun e W' ⟨he,bel⟩=>?_;subst he;exact⟨_,rfl,_,_,_,[],_,[],hW',trodAll_mk1 (shut_bool Tryz.underlying4 _),(trodAll_cons_mk (Below.trod zN3 (by kernel_rfl) (of_decide_eq_true (by kernel_rfl)) k0 bel lt0) (trodAll_cons_mk (Below.trod zN3 (by kernel_rfl) (of_decide_eq_true (by kernel_rfl)) k1 bel lt1) trodAll_mk0)),rfl,bel.frame _,fun h=>by cases h⟩
theorem zCv (os:Os) (started:os.Started) (H:Type) (enc:TypeId×Value→H) (F:Stop.Interp) :
  ReturnsInHanded {} Tryz.checked os 3 .any ((Rows.OpenSpec.upto Rows.valueTextFormatsSpec).preRow enc Tryz.prog Tryz.f3 Rows.valueTextFormatsUptoRow.domain false Rows.valueTextFormatsUptoRow.laid) (((Rows.OpenSpec.upto Rows.valueTextFormatsSpec).at F).post enc Tryz.prog Tryz.f3 false true false false):=by
 obtain⟨places,hx⟩:=zC7 os enc;refine returnsInHanded_of_row (C:=Tryz.checked) (s:=(Rows.OpenSpec.upto Rows.valueTextFormatsSpec)) own started (by kernel_rfl) Tryz.func3
  (witness_row_atRef (enc:=enc) (C:=Tryz.checked) false (zBh os) #[.agg #[.int .i64 0,.int .i64 0,.string ⟨#[]⟩,.slice none 0 0,.slice none 0 0,.slice none 0 0,.slice none 0 0],.slice none 0 0] (World.laidAll_os _ _ _) (by kernel_rfl) (by kernel_rfl) (by kernel_rfl)
   (OpenSpec.preRow_of_cond 8 hx (by kernel_rfl) (fun k hk=>by cases hk;kernel_rfl) (by kernel_rfl) (zD5 os))) ?_
 intro W base args ds gs before hval hW c1 c2 c3 hL _ _;exact zCj H enc W base args ds gs before hval hW hL (by first|exact c1 _ rfl|exact c2 _ rfl|exact c3 _ rfl)
theorem zDa:Rows.ValueTextFormatsUptoSaid:=
 OpenClaim.holds_of_cond 3 Tryz.f3 rfl rfl rfl rfl rfl rfl rfl ⟨rfl,rfl,rfl,rfl,rfl⟩ rfl rfl rfl rfl rfl (by kernel_rfl) Tryz.func3 (by kernel_rfl)
  (of_decide_eq_true (by kernel_rfl)) (by unfold Func.isWrapper;first|(rw[if_pos (by decide +kernel)];kernel_rfl)|(rw[if_neg (by decide +kernel)];exact⟨rfl,rfl⟩))
  (fun os started H enc _ F=>by rw[OpenClaim.pre_eq_preRow];exact zCv os started H enc F)
theorem zC8 (f:FuncId) (fn:Func) (hf:Tryz.pinned.checked.prog.funcNamed Rows.valueTextFormatsUptoRow.func=some f) (hfn:Tryz.pinned.checked.prog.funcs[f]?=some fn) :
  true=Tryz.pinned.checked.prog.looks []∧∀ (j:Nat) t,fn.params[j]?=some t→Tryz.pinned.checked.prog.wantsStandIn t=false:=by
 obtain rfl:f=3:=Option.some.inj ((show Tryz.prog.funcNamed Rows.valueTextFormatsUptoRow.func=some 3 by kernel_rfl).symm.trans hf) |>.symm;obtain rfl:fn=Tryz.f3:=(Option.some.inj (Tryz.func3.symm.trans hfn)).symm;refine⟨by kernel_rfl,fun j t ht=>?_⟩;have key:∀ t,t∈Tryz.f3.params.toList→Tryz.prog.wantsStandIn t=false:=by
  rw[Tryz.params3];intro t ht;simp only[List.mem_cons,List.not_mem_nil,or_false]at ht;rcases ht with rfl|rfl
  all_goals kernel_rfl
 exact key t (Array.mem_toList_iff.2 (Array.mem_of_getElem? ht))
theorem valueTextFormats_card:Rows.ValueTextFormatsUptoCardSaid:=
 Claim7.holds_tied_plain_at .later [] _ _ _ _ zDa (fun _ h=>by cases h) (by kernel_rfl) (fun _ h=>by cases h) valueTextFormatsUpto_row_tie rfl ⟨rfl,rfl⟩ (by kernel_rfl) rfl zC8 (by kernel_rfl)
end Go.Proofs.YtcjgaohblaidjaaGreatDoor
