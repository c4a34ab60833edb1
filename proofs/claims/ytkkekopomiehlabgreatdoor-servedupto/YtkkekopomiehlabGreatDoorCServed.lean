import Derived.Test.YtkkekopomiehlabGreatDoorCBs5
import Derived.JoinedCond
set_option linter.unusedVariables false
set_option linter.unusedSimpArgs false
set_option maxHeartbeats 40000000
open Go.World renaming holding->xe
open Option.some renaming inj->xf
open Go.DataW renaming Trod->xg
namespace Go.Proofs.YtkkekopomiehlabGreatDoor
section
open Go.ChangeShapes Go.WideShapes Go.ChangeAt Go.RowKit
theorem zla:laidOutB Tryz.prog=true:=by kernel_rfl
set_option maxRecDepth 100000 in
theorem yabi (H:Type)(enc:TypeId×Value->H)(W:World)(base:Nat)(args:Array Value)(ds gs:List (DataW H))(before:List MemPlace)
  (hval:∀ (j:Nat) t v,Tryz.f5.params[j]?=some t->args[j]?=some v->Value.okWide Tryz.prog W .any base t v)
  (hW:DataW.Whole enc Tryz.prog Tryz.f5.params.toList Rows.servedSpec.vars false W args.toList ds gs before) (hk:Rows.uptoSmall H (ds++gs)=true) (hL:laidMetH Tryz.prog Rows.servedUptoRow.laid W) :
  Calls Tryz.prog 5 args W fun e W'=>∃ v,e=.returned v/\Rows.servedSpec.post enc Tryz.prog Tryz.f5 false true false false W args v W':=by
 have hW':=hW;obtain⟨p,q,hA0,hV,rfl,hfz,hnd⟩:=hW;have hA:DataW.TrodAll enc Tryz.prog W 0 (fun _=>true) true Tryz.f5.params.toList args.toList ds p:=hA0;rw[Tryz.params5]at hA hval;obtain⟨v0,vs0,d0,ds0,p0,q0,hargs,rfl,rfl,h0,r0⟩:=trodAll_cons hA;obtain⟨v1,vs1,d1,ds1,p1,q1,rfl,rfl,rfl,h1,r1⟩:=trodAll_cons r0;obtain⟨v2,vs2,d2,ds2,p2,q2,rfl,rfl,rfl,h2,r2⟩:=trodAll_cons r1;obtain⟨v3,vs3,d3,ds3,p3,q3,rfl,rfl,rfl,h3,r3⟩:=trodAll_cons r2;obtain⟨v4,vs4,d4,ds4,p4,q4,rfl,rfl,rfl,h4,r4⟩:=trodAll_cons r3;obtain⟨v5,vs5,d5,ds5,p5,q5,rfl,rfl,rfl,h5,r5⟩:=trodAll_cons r4;obtain⟨v6,vs6,d6,ds6,p6,q6,rfl,rfl,rfl,h6,r6⟩:=trodAll_cons r5;obtain⟨rfl,rfl,rfl⟩:=trodAll_nil r6;obtain rfl:args=#[v0,v1,v2,v3,v4,v5,v6]:=by cases args;simp_all
 obtain⟨rfl,rfl⟩:=trodVars_none hV;clear hA0;have hN:Rows.uptoBulk d4<=1048576/\Rows.uptoBulk d5<=1048576/\Rows.uptoBulk d6<=1048576:=by
  unfold Rows.uptoSmall at hk;have:=of_decide_eq_true hk;simp only[List.append_nil,Rows.uptoBulkAll]at this;omega
 obtain⟨a0,rfl,rfl,rfl,w0⟩:=open_int Tryz.underlying3 (hval 0 3 v0 rfl rfl) h0;obtain⟨a1,rfl,rfl,rfl,w1⟩:=open_int Tryz.underlying3 (hval 1 3 v1 rfl rfl) h1;obtain⟨a2,rfl,rfl,rfl,w2⟩:=open_int Tryz.underlying3 (hval 2 3 v2 rfl rfl) h2;obtain⟨a3,rfl,rfl,rfl,w3⟩:=open_int Tryz.underlying3 (hval 3 3 v3 rfl rfl) h3;have hlt4:∀ x∈p4,x.block<W.heap.size:=fun x hx=>by simpa using hW'.lt x (by simp[hx])
 have hlt5:∀ x∈p5,x.block<W.heap.size:=fun x hx=>by simpa using hW'.lt x (by simp[hx])
 have hlt6:∀ x∈p6,x.block<W.heap.size:=fun x hx=>by simpa using hW'.lt x (by simp[hx])
 obtain⟨f,sa,ta,va,sl,sc,tl,tc,vl,vc,rfl,hF⟩:=zx2 (hval 4 26 v4 rfl rfl) h4 hN.1;obtain⟨ms,ma,mc,rfl,hml,hm⟩:=zx3 (hval 5 27 v5 rfl rfl) h5 hN.2.1;obtain⟨xs,ad,cp,rfl,hxl,hx,hxb⟩:=zx7 (hval 6 34 v6 rfl rfl) h6 hN.2.2;refine(yabs a0 a1 a2 a3 (zg5 w0) (zg5 w1) (zg5 w2) (zg5 w3) f sa ta va sl sc tl tc vl vc ms ma mc xs ad cp W hF hm hml hx hxl hxb (yacy hL)).mono fun e W' ⟨he,bel⟩=>?_;subst he;have ha4:xg enc Tryz.prog W' 0 (fun b=>decide (b<W.heap.size)) true 26 (.agg #[.slice sa sl sc,.slice ta tl tc,.slice va vl vc]) d4 p4 :=
  Below.trod zla (by kernel_rfl) (of_decide_eq_true (by kernel_rfl)) h4 bel hlt4
 have ha5:xg enc Tryz.prog W' 0 (fun b=>decide (b<W.heap.size)) true 27 (.slice ma ms.length mc) d5 p5 :=
  Below.trod zla (by kernel_rfl) (of_decide_eq_true (by kernel_rfl)) h5 bel hlt5
 have ha6:xg enc Tryz.prog W' 0 (fun b=>decide (b<W.heap.size)) true 34 (.slice ad xs.length cp) d6 p6 :=
  Below.trod zla (by kernel_rfl) (of_decide_eq_true (by kernel_rfl)) h6 bel hlt6
 exact⟨_,rfl,_,_,_,[],_,[],hW',trodAll_mk1 (shut_bool Tryz.underlying4 _),(trodAll_cons_mk (shut_int Tryz.underlying3 w0) (trodAll_cons_mk (shut_int Tryz.underlying3 w1) (trodAll_cons_mk (shut_int Tryz.underlying3 w2) (trodAll_cons_mk (shut_int Tryz.underlying3 w3) (trodAll_cons_mk ha4 (trodAll_cons_mk ha5 (trodAll_cons_mk ha6 trodAll_mk0))))))),rfl,bel.frame _,fun h=>by cases h⟩
theorem yabo (os:Os):laidMet Tryz.prog Rows.servedUptoRow.laid (({ xe Tryz.prog os ⟨#[],#[],[]⟩with heap:=(((xe Tryz.prog os ⟨#[],#[],[]⟩).heap.modify 0 (zd7 Rows.laid_internal_strconv_uint64pow10)).modify 1 (zd7 Rows.laid_math_bits_deBruijn32tab)).modify 2 (zd7 Rows.laid_math_bits_deBruijn64tab) }:World).forCall (fun _ _=>0) ⟨#[],#[.int .i64 0,.int .i64 0,.int .i64 0,.int .i64 0,.agg #[.slice none 0 0,.slice none 0 0,.slice none 0 0],.slice none 0 0,.slice none 0 0],[]⟩).memory :=
 laidMet_of_run' 8 (by kernel_rfl) (by kernel_rfl)
theorem yabq (os:Os){H:Type}(enc:TypeId×Value->H):∃ places,DataW.whole enc Tryz.prog (({ xe Tryz.prog os ⟨#[],#[],[]⟩with heap:=(((xe Tryz.prog os ⟨#[],#[],[]⟩).heap.modify 0 (zd7 Rows.laid_internal_strconv_uint64pow10)).modify 1 (zd7 Rows.laid_math_bits_deBruijn32tab)).modify 2 (zd7 Rows.laid_math_bits_deBruijn64tab) }:World).forCall (fun _ _=>0) ⟨#[],#[.int .i64 0,.int .i64 0,.int .i64 0,.int .i64 0,.agg #[.slice none 0 0,.slice none 0 0,.slice none 0 0],.slice none 0 0,.slice none 0 0],[]⟩).memory Tryz.f5.params.toList Rows.servedSpec.vars false (#[.int .i64 0,.int .i64 0,.int .i64 0,.int .i64 0,.agg #[.slice none 0 0,.slice none 0 0,.slice none 0 0],.slice none 0 0,.slice none 0 0]:Array Value).toList 8=some ([.lit (.int .i64 0),.lit (.int .i64 0),.lit (.int .i64 0),.lit (.int .i64 0),.agg [.nil,.nil,.nil],.nil,.nil],[],places) :=
 ⟨[],by kernel_rfl⟩
set_option maxRecDepth 100000 in
theorem yabn (os:Os)(started:os.Started)(H:Type)(enc:TypeId×Value->H)(F:Stop.Interp) :
  ReturnsInHanded {} Tryz.checked os 5 .any ((Rows.OpenSpec.upto Rows.servedSpec).preRow enc Tryz.prog Tryz.f5 Rows.servedUptoRow.domain false Rows.servedUptoRow.laid) (((Rows.OpenSpec.upto Rows.servedSpec).at F).post enc Tryz.prog Tryz.f5 false true false false):=by
 obtain⟨places,hx⟩:=yabq os enc;refine returnsInHanded_of_row (C:=Tryz.checked) (s:=Rows.OpenSpec.upto Rows.servedSpec) zxd started (by kernel_rfl) Tryz.func5
  (witness_row_at (enc:=enc) (C:=Tryz.checked) false ({ xe Tryz.prog os ⟨#[],#[],[]⟩with heap:=(((xe Tryz.prog os ⟨#[],#[],[]⟩).heap.modify 0 (zd7 Rows.laid_internal_strconv_uint64pow10)).modify 1 (zd7 Rows.laid_math_bits_deBruijn32tab)).modify 2 (zd7 Rows.laid_math_bits_deBruijn64tab) }:World) #[.int .i64 0,.int .i64 0,.int .i64 0,.int .i64 0,.agg #[.slice none 0 0,.slice none 0 0,.slice none 0 0],.slice none 0 0,.slice none 0 0] rfl (by kernel_rfl) (by kernel_rfl) (by kernel_rfl)
   (OpenSpec.preRow_of_cond 8 hx (by kernel_rfl) (fun k hk=>by cases hk;rfl) (by kernel_rfl) (yabo os))) ?_
 intro W base args ds gs before hval hW _ hk _ hL _ _;exact yabi H enc W base args ds gs before hval hW (hk _ rfl) hL
set_option maxRecDepth 100000 in
theorem yabj:Rows.servedUptoRow.inPlace=Tryz.prog.inPlace 5:=by kernel_rfl
set_option maxRecDepth 100000 in
theorem yabk:Rows.servedUptoRow.unfollowed=Tryz.prog.unfollowed 5:=by kernel_rfl
set_option maxRecDepth 100000 in
theorem yabl:Rows.servedUptoRow.recurses=Tryz.prog.recurses 5:=by kernel_rfl
set_option maxRecDepth 100000 in
theorem yabm:Rows.servedUptoRow.named=Tryz.prog.varsNamed 5:=by kernel_rfl
theorem yabh:joinedFacts Tryz.prog 5 Tryz.f5 (Rows.OpenSpec.upto Rows.servedSpec).bare Rows.servedUptoRow=true:=by
 unfold joinedFacts;rw[<- yabj,<- yabk,<- yabl,<- yabm];kernel_rfl
theorem yabr:Rows.ServedUptoSaid :=
 OpenClaim.holds_of_cond 5 Tryz.f5 rfl rfl rfl rfl rfl rfl rfl ⟨rfl,rfl,rfl,rfl,rfl⟩ rfl rfl rfl rfl rfl (by kernel_rfl) Tryz.func5 yabh
  (of_decide_eq_true (by kernel_rfl)) (by unfold Func.isWrapper;first|(rw[if_pos (by decide +kernel)];kernel_rfl)|(rw[if_neg (by decide +kernel)];exact⟨rfl,rfl⟩))
  (fun os started H enc _ F=>by rw[OpenClaim.pre_eq_preRow];exact yabn os started H enc F)
theorem yabp (f : FuncId) (fn : Func) (hf : Tryz.pinned.checked.prog.funcNamed "rollout/rolloutkeep.Served" = some f) (hfn : Tryz.pinned.checked.prog.funcs[f]? = some fn) :
  false=Tryz.pinned.checked.prog.looks []/\∀ (j:Nat) t,fn.params[j]?=some t->Tryz.pinned.checked.prog.wantsStandIn t=false:=by
 obtain rfl : f = 5 := xf ((show Tryz.prog.funcNamed "rollout/rolloutkeep.Served" = some 5 by kernel_rfl).symm.trans hf) |>.symm;obtain rfl : fn = Tryz.f5:=(xf (Tryz.func5.symm.trans hfn)).symm;refine ⟨by kernel_rfl,fun j t ht => ?_⟩;rw [Tryz.params5] at ht;have hm:=Array.mem_of_getElem? ht;simp only [List.mem_toArray,List.mem_cons,List.not_mem_nil,or_false] at hm;rcases hm with rfl | rfl | rfl | rfl | rfl | rfl | rfl
 iterate 4 exact(show Tryz.prog.wantsStandIn 3=false by kernel_rfl)
 ·exact(show Tryz.prog.wantsStandIn 26=false by kernel_rfl)
 ·exact(show Tryz.prog.wantsStandIn 27=false by kernel_rfl)
 ·exact(show Tryz.prog.wantsStandIn 34=false by kernel_rfl)
theorem served_card:Rows.ServedUptoCardSaid :=
 Claim7.holds_tied_plain_at .later [] _ _ _ _ yabr (fun _ h=>by cases h) (by kernel_rfl) (fun _ h=>by cases h) servedUpto_row_tie rfl ⟨rfl,rfl⟩ (by kernel_rfl) rfl yabp (by kernel_rfl)
#print axioms served_card
end
end Go.Proofs.YtkkekopomiehlabGreatDoor
