import Derived.Test.YtkkekopomiehlabGreatDoorEBs5
import Derived.JoinedCond
set_option linter.unusedVariables false
set_option linter.unusedSimpArgs false
set_option maxHeartbeats 40000000
open Go.World renaming holding->xe
open Go.DataW renaming Trod->xf,trod->xh
open Option.some renaming inj->xg
namespace Go.Proofs.YtkkekopomiehlabGreatDoor
section
set_option maxRecDepth 4000
open Go.RowKit Go.ChangeShapes Go.WideShapes
section
variable {H:Type}{enc:TypeId×Value->H}{w:World}
theorem Tryz.cellsStp:Tryz.prog.cellsOf 66=5:=by kernel_rfl
theorem zg9 {k:Int}(h:(Lit.int .i64 k).wf=true):-9223372036854775808<=k/\k<=9223372036854775807:=by
 have h':decide (IntKind.i64.min<=k)=true/\decide (k<=IntKind.i64.max)=true:=by simpa[Lit.wf]using h
 have e1:IntKind.i64.min=-9223372036854775808:=by decide
 have e2:IntKind.i64.max=9223372036854775807:=by decide
 rw[e1,e2]at h';exact⟨of_decide_eq_true h'.1,of_decide_eq_true h'.2⟩
theorem zkm {n:Nat}{c:Value}{y:DataW H×List MemPlace}(h:xh enc Tryz.prog w 0 (fun _=>true) true n 3 [c]=some y):∃ k,c=.int .i64 k/\-9223372036854775808<=k/\k<=9223372036854775807:=by
 obtain⟨k,hk,_,hw⟩:=DataW.trod_int Tryz.underlying3 h;simp at hk;exact⟨k,hk,zg9 hw⟩
theorem yac3 {n:Nat}{c:Value}{y:DataW H×List MemPlace}(h:xh enc Tryz.prog w 0 (fun _=>true) true n 9 [c]=some y):∃ k,c=.string k/\k.size<=maxLen:=by
 obtain⟨k,hk,_,hw⟩:=DataW.trod_string Tryz.underlying9 h;simp at hk;exact⟨k,hk,hw⟩
theorem zy2 {fuel:Nat}{cs0:List Value}{x:DataW H×List MemPlace}(h:xh enc Tryz.prog w 0 (fun _=>true) true fuel 34 cs0=some x)(hN:Rows.uptoBulk x.1<=1048576) :
  ∃ (a:Option Addr) (len cap:Nat) (xs:List StD),cs0=[.slice a len cap]/\len=xs.length/\xs.length<=2000000/\StsAt w a xs/\StB xs:=by
 obtain⟨a,len,cap,zs,h1,h2,h3,h4,h5,h6⟩:=ze1 (E:=fun cs (p:StD)=>cs=[.int .i64 p.k,.int .i64 p.a,.int .i64 p.b,.int .i64 p.c,.string p.s]/\(-9223372036854775808<=p.a/\p.a<=9223372036854775807)/\(-9223372036854775808<=p.b/\p.b<=9223372036854775807)/\(-9223372036854775808<=p.c/\p.c<=9223372036854775807)/\p.s.size<=maxLen) Tryz.underlying34 Tryz.cellsStp (by omega) (fun n cs y hy hl _=>by
  obtain⟨xs,m,_,_,_,hlen,hf⟩:=DataW.trod_struct Tryz.underlying66 hy
  match cs,hl with
  |[c0,c1,c2,c3,c4],_ =>
   match xs,hlen with
   |[y0,y1,y2,y3,y4],_ =>
    have h0:=hf 0 _ rfl;have h1:=hf 1 _ rfl;have h2:=hf 2 _ rfl;have h3:=hf 3 _ rfl;have h4:=hf 4 _ rfl;simp only[List.getElem_toArray,List.getElem_cons_zero,List.getElem_cons_succ,Tryz.cellsInt,Tryz.cellsStr]at h0 h1 h2 h3 h4;obtain⟨k0,hk0⟩:=zdn (c:=c0) h0;obtain⟨k1,hk1,r1⟩:=zkm (c:=c1) h1;obtain⟨k2,hk2,r2⟩:=zkm (c:=c2) h2;obtain⟨k3,hk3,r3⟩:=zkm (c:=c3) h3;obtain⟨k4,hk4,r4⟩:=yac3 (c:=c4) h4;exact⟨⟨k0,k1,k2,k3,k4⟩,by rw[hk0,hk1,hk2,hk3,hk4],r1,r2,r3,r4⟩) h hN
 refine⟨a,len,cap,zs,h1,h2,h3,fun i p hi=>?_,fun p hp=>?_⟩
 ·obtain⟨b,o,cs,e1,_,e3,e4,_⟩:=h6 i p hi;subst e4;exact⟨b,o,e1,e3 0 _ rfl,e3 1 _ rfl,e3 2 _ rfl,e3 3 _ rfl,e3 4 _ rfl⟩
 ·obtain⟨i,hi⟩:=List.getElem?_of_mem hp;obtain⟨b,o,cs,e1,_,e3,e4,e5⟩:=h6 i p hi;exact e5
end
theorem zy1 {H:Type}{enc:TypeId×Value->H}{W:World}{base:Nat}{v:Value}{d:DataW H}{p:List MemPlace}(hv:Value.okWide Tryz.prog W .any base 34 v)(h:xf enc Tryz.prog W 0 (fun _=>true) true 34 v d p)(hN:Rows.uptoBulk d<=1048576) :
  ∃ (xs:List StD) (ad:Option Addr) (cp:Nat),v=.slice ad xs.length cp/\xs.length<=2000000/\StsAt W ad xs/\StB xs:=by
 obtain⟨a,len,cap,rfl⟩:=okWide_slice Tryz.underlying34 hv;obtain⟨fuel,hf⟩:=h;obtain⟨a',len',cap',xs,e0,e1,e2,e3,e4⟩:=zy2 hf hN;simp[Value.cells]at e0;obtain⟨rfl,rfl,rfl⟩:=e0;subst e1;exact⟨xs,a,cap,rfl,e2,e3,e4⟩
end
section
open Go.ChangeShapes Go.WideShapes Go.ChangeAt Go.RowKit
theorem zkd:laidOutB Tryz.prog=true:=by kernel_rfl
set_option maxRecDepth 100000 in
theorem zwk (H:Type)(enc:TypeId×Value->H)(W:World)(base:Nat)(args:Array Value)(ds gs:List (DataW H))(before:List MemPlace)
  (hval:∀ (j:Nat) t v,Tryz.f6.params[j]?=some t->args[j]?=some v->Value.okWide Tryz.prog W .any base t v)
  (hW:DataW.Whole enc Tryz.prog Tryz.f6.params.toList Rows.endsSpec.vars false W args.toList ds gs before) (hk:Rows.uptoSmall H (ds++gs)=true) (hL:laidMetH Tryz.prog Rows.endsUptoRow.laid W) :
  Calls Tryz.prog 6 args W fun e W'=>∃ v,e=.returned v/\Rows.endsSpec.post enc Tryz.prog Tryz.f6 false true false false W args v W':=by
 have hW':=hW;obtain⟨p,q,hA0,hV,rfl,hfz,hnd⟩:=hW;have hA:DataW.TrodAll enc Tryz.prog W 0 (fun _=>true) true Tryz.f6.params.toList args.toList ds p:=hA0;rw[Tryz.params6]at hA hval;obtain⟨v0,vs0,d0,ds0,p0,q0,hargs,rfl,rfl,h0,r0⟩:=trodAll_cons hA;obtain⟨v1,vs1,d1,ds1,p1,q1,rfl,rfl,rfl,h1,r1⟩:=trodAll_cons r0;obtain⟨v2,vs2,d2,ds2,p2,q2,rfl,rfl,rfl,h2,r2⟩:=trodAll_cons r1;obtain⟨v3,vs3,d3,ds3,p3,q3,rfl,rfl,rfl,h3,r3⟩:=trodAll_cons r2;obtain⟨v4,vs4,d4,ds4,p4,q4,rfl,rfl,rfl,h4,r4⟩:=trodAll_cons r3;obtain⟨v5,vs5,d5,ds5,p5,q5,rfl,rfl,rfl,h5,r5⟩:=trodAll_cons r4;obtain⟨v6,vs6,d6,ds6,p6,q6,rfl,rfl,rfl,h6,r6⟩:=trodAll_cons r5;obtain⟨rfl,rfl,rfl⟩:=trodAll_nil r6;obtain rfl:args=#[v0,v1,v2,v3,v4,v5,v6]:=by cases args;simp_all
 obtain⟨rfl,rfl⟩:=trodVars_none hV;clear hA0;have hN:Rows.uptoBulk d4<=1048576/\Rows.uptoBulk d5<=1048576/\Rows.uptoBulk d6<=1048576:=by
  unfold Rows.uptoSmall at hk;have:=of_decide_eq_true hk;simp only[List.append_nil,Rows.uptoBulkAll]at this;omega
 obtain⟨a0,rfl,rfl,rfl,w0⟩:=open_int Tryz.underlying3 (hval 0 3 v0 rfl rfl) h0;obtain⟨a1,rfl,rfl,rfl,w1⟩:=open_int Tryz.underlying3 (hval 1 3 v1 rfl rfl) h1;obtain⟨a2,rfl,rfl,rfl,w2⟩:=open_int Tryz.underlying3 (hval 2 3 v2 rfl rfl) h2;obtain⟨a3,rfl,rfl,rfl,w3⟩:=open_int Tryz.underlying3 (hval 3 3 v3 rfl rfl) h3;have hlt4:∀ x∈p4,x.block<W.heap.size:=fun x hx=>by simpa using hW'.lt x (by simp[hx])
 have hlt5:∀ x∈p5,x.block<W.heap.size:=fun x hx=>by simpa using hW'.lt x (by simp[hx])
 have hlt6:∀ x∈p6,x.block<W.heap.size:=fun x hx=>by simpa using hW'.lt x (by simp[hx])
 obtain⟨f,sa,ta,va,sl,sc,tl,tc,vl,vc,rfl,hF⟩:=zyw (hval 4 26 v4 rfl rfl) h4 hN.1;obtain⟨ms,ma,mc,rfl,hml,hm⟩:=zyx (hval 5 27 v5 rfl rfl) h5 hN.2.1;obtain⟨xs,ad,cp,rfl,hxl,hx,hxb⟩:=zy1 (hval 6 34 v6 rfl rfl) h6 hN.2.2;refine(zwv a0 a1 a2 a3 (zg9 w0) (zg9 w1) (zg9 w2) (zg9 w3) f sa ta va sl sc tl tc vl vc ms ma mc xs ad cp W hF hm hml hx hxl hxb (yadf hL)).mono fun e W' ⟨he,bel⟩=>?_;subst he;have ha4:xf enc Tryz.prog W' 0 (fun b=>decide (b<W.heap.size)) true 26 (.agg #[.slice sa sl sc,.slice ta tl tc,.slice va vl vc]) d4 p4 :=
  Below.trod zkd (by kernel_rfl) (of_decide_eq_true (by kernel_rfl)) h4 bel hlt4
 have ha5:xf enc Tryz.prog W' 0 (fun b=>decide (b<W.heap.size)) true 27 (.slice ma ms.length mc) d5 p5 :=
  Below.trod zkd (by kernel_rfl) (of_decide_eq_true (by kernel_rfl)) h5 bel hlt5
 have ha6:xf enc Tryz.prog W' 0 (fun b=>decide (b<W.heap.size)) true 34 (.slice ad xs.length cp) d6 p6 :=
  Below.trod zkd (by kernel_rfl) (of_decide_eq_true (by kernel_rfl)) h6 bel hlt6
 exact⟨_,rfl,_,_,_,[],_,[],hW',trodAll_mk1 (shut_bool Tryz.underlying4 _),(trodAll_cons_mk (shut_int Tryz.underlying3 w0) (trodAll_cons_mk (shut_int Tryz.underlying3 w1) (trodAll_cons_mk (shut_int Tryz.underlying3 w2) (trodAll_cons_mk (shut_int Tryz.underlying3 w3) (trodAll_cons_mk ha4 (trodAll_cons_mk ha5 (trodAll_cons_mk ha6 trodAll_mk0))))))),rfl,bel.frame _,fun h=>by cases h⟩
theorem zwq (os:Os):laidMet Tryz.prog Rows.endsUptoRow.laid (({ xe Tryz.prog os ⟨#[],#[],[]⟩with heap:=(((xe Tryz.prog os ⟨#[],#[],[]⟩).heap.modify 0 (zd8 Rows.laid_internal_strconv_uint64pow10)).modify 1 (zd8 Rows.laid_math_bits_deBruijn32tab)).modify 2 (zd8 Rows.laid_math_bits_deBruijn64tab) }:World).forCall (fun _ _=>0) ⟨#[],#[.int .i64 0,.int .i64 0,.int .i64 0,.int .i64 0,.agg #[.slice none 0 0,.slice none 0 0,.slice none 0 0],.slice none 0 0,.slice none 0 0],[]⟩).memory :=
 laidMet_of_run' 8 (by kernel_rfl) (by kernel_rfl)
theorem zwt (os:Os){H:Type}(enc:TypeId×Value->H):∃ places,DataW.whole enc Tryz.prog (({ xe Tryz.prog os ⟨#[],#[],[]⟩with heap:=(((xe Tryz.prog os ⟨#[],#[],[]⟩).heap.modify 0 (zd8 Rows.laid_internal_strconv_uint64pow10)).modify 1 (zd8 Rows.laid_math_bits_deBruijn32tab)).modify 2 (zd8 Rows.laid_math_bits_deBruijn64tab) }:World).forCall (fun _ _=>0) ⟨#[],#[.int .i64 0,.int .i64 0,.int .i64 0,.int .i64 0,.agg #[.slice none 0 0,.slice none 0 0,.slice none 0 0],.slice none 0 0,.slice none 0 0],[]⟩).memory Tryz.f6.params.toList Rows.endsSpec.vars false (#[.int .i64 0,.int .i64 0,.int .i64 0,.int .i64 0,.agg #[.slice none 0 0,.slice none 0 0,.slice none 0 0],.slice none 0 0,.slice none 0 0]:Array Value).toList 8=some ([.lit (.int .i64 0),.lit (.int .i64 0),.lit (.int .i64 0),.lit (.int .i64 0),.agg [.nil,.nil,.nil],.nil,.nil],[],places) :=
 ⟨[],by kernel_rfl⟩
set_option maxRecDepth 100000 in
theorem zwp (os:Os)(started:os.Started)(H:Type)(enc:TypeId×Value->H)(F:Stop.Interp) :
  ReturnsInHanded {} Tryz.checked os 6 .any ((Rows.OpenSpec.upto Rows.endsSpec).preRow enc Tryz.prog Tryz.f6 Rows.endsUptoRow.domain false Rows.endsUptoRow.laid) (((Rows.OpenSpec.upto Rows.endsSpec).at F).post enc Tryz.prog Tryz.f6 false true false false):=by
 obtain⟨places,hx⟩:=zwt os enc;refine returnsInHanded_of_row (C:=Tryz.checked) (s:=Rows.OpenSpec.upto Rows.endsSpec) zx7 started (by kernel_rfl) Tryz.func6
  (witness_row_at (enc:=enc) (C:=Tryz.checked) false ({ xe Tryz.prog os ⟨#[],#[],[]⟩with heap:=(((xe Tryz.prog os ⟨#[],#[],[]⟩).heap.modify 0 (zd8 Rows.laid_internal_strconv_uint64pow10)).modify 1 (zd8 Rows.laid_math_bits_deBruijn32tab)).modify 2 (zd8 Rows.laid_math_bits_deBruijn64tab) }:World) #[.int .i64 0,.int .i64 0,.int .i64 0,.int .i64 0,.agg #[.slice none 0 0,.slice none 0 0,.slice none 0 0],.slice none 0 0,.slice none 0 0] rfl (by kernel_rfl) (by kernel_rfl) (by kernel_rfl)
   (OpenSpec.preRow_of_cond 8 hx (by kernel_rfl) (fun k hk=>by cases hk;rfl) (by kernel_rfl) (zwq os))) ?_
 intro W base args ds gs before hval hW _ hk _ hL _ _;exact zwk H enc W base args ds gs before hval hW (hk _ rfl) hL
set_option maxRecDepth 100000 in
theorem zwl:Rows.endsUptoRow.inPlace=Tryz.prog.inPlace 6:=by kernel_rfl
set_option maxRecDepth 100000 in
theorem zwm:Rows.endsUptoRow.unfollowed=Tryz.prog.unfollowed 6:=by kernel_rfl
set_option maxRecDepth 100000 in
theorem zwn:Rows.endsUptoRow.recurses=Tryz.prog.recurses 6:=by kernel_rfl
set_option maxRecDepth 100000 in
theorem zwo:Rows.endsUptoRow.named=Tryz.prog.varsNamed 6:=by kernel_rfl
theorem zwj:joinedFacts Tryz.prog 6 Tryz.f6 (Rows.OpenSpec.upto Rows.endsSpec).bare Rows.endsUptoRow=true:=by
 unfold joinedFacts;rw[<- zwl,<- zwm,<- zwn,<- zwo];kernel_rfl
theorem zwu:Rows.EndsUptoSaid :=
 OpenClaim.holds_of_cond 6 Tryz.f6 rfl rfl rfl rfl rfl rfl rfl ⟨rfl,rfl,rfl,rfl,rfl⟩ rfl rfl rfl rfl rfl (by kernel_rfl) Tryz.func6 zwj
  (of_decide_eq_true (by kernel_rfl)) (by unfold Func.isWrapper;first|(rw[if_pos (by decide +kernel)];kernel_rfl)|(rw[if_neg (by decide +kernel)];exact⟨rfl,rfl⟩))
  (fun os started H enc _ F=>by rw[OpenClaim.pre_eq_preRow];exact zwp os started H enc F)
theorem zws (f : FuncId) (fn : Func) (hf : Tryz.pinned.checked.prog.funcNamed "rollout/rolloutkeep.Ends" = some f) (hfn : Tryz.pinned.checked.prog.funcs[f]? = some fn) :
  false=Tryz.pinned.checked.prog.looks []/\∀ (j:Nat) t,fn.params[j]?=some t->Tryz.pinned.checked.prog.wantsStandIn t=false:=by
 obtain rfl : f = 6 := xg ((show Tryz.prog.funcNamed "rollout/rolloutkeep.Ends" = some 6 by kernel_rfl).symm.trans hf) |>.symm;obtain rfl : fn = Tryz.f6:=(xg (Tryz.func6.symm.trans hfn)).symm;refine ⟨by kernel_rfl,fun j t ht => ?_⟩;rw [Tryz.params6] at ht;have hm:=Array.mem_of_getElem? ht;simp only [List.mem_toArray,List.mem_cons,List.not_mem_nil,or_false] at hm;rcases hm with rfl | rfl | rfl | rfl | rfl | rfl | rfl
 iterate 4 exact(show Tryz.prog.wantsStandIn 3=false by kernel_rfl)
 ·exact(show Tryz.prog.wantsStandIn 26=false by kernel_rfl)
 ·exact(show Tryz.prog.wantsStandIn 27=false by kernel_rfl)
 ·exact(show Tryz.prog.wantsStandIn 34=false by kernel_rfl)
theorem ends_card:Rows.EndsUptoCardSaid :=
 Claim7.holds_tied_plain_at .later [] _ _ _ _ zwu (fun _ h=>by cases h) (by kernel_rfl) (fun _ h=>by cases h) endsUpto_row_tie rfl ⟨rfl,rfl⟩ (by kernel_rfl) rfl zws (by kernel_rfl)
#print axioms ends_card
end
end Go.Proofs.YtkkekopomiehlabGreatDoor
