import Derived.Test.YtkkekopomiehlabHSh8
import Derived.ProofKit
import Derived.OpenShut
import Derived.ShutString
import Derived.Deep.DeepHandedRow
import Derived.JoinedCond
set_option linter.unusedVariables false
set_option linter.unusedSimpArgs false
set_option maxHeartbeats 40000000
namespace Go.Proofs.Ytkkekopomiehlab
section
set_option maxRecDepth 4000
open Go.RowKit Go.ChangeShapes Go.WideShapes
section
variable {H : Type} {enc : TypeId × Value -> H} {w : World}
theorem Try.cellsMv : Try.prog.cellsOf 45 = 2:=by kernel_rfl
theorem Try.cellsStrs2 : Try.prog.cellsOf 22 = 1:=by kernel_rfl
theorem Try.cellsTops2 : Try.prog.cellsOf 23 = 1:=by kernel_rfl
theorem Try.cellsSvcs2 : Try.prog.cellsOf 24 = 1:=by kernel_rfl
theorem zmr {fuel : Nat} {cs0 : List Value} {x : DataW H × List MemPlace} (h : DataW.trod enc Try.prog w 0 (fun _ => true) true fuel 27 cs0 = some x) (hN : Rows.uptoBulk x.1 <= 1048576) :
  ∃ (a : Option Addr) (len cap : Nat) (ms : List (Int × Int)),cs0 = [.slice a len cap] /\ len = ms.length /\ ms.length <= 2000000 /\ MvsAt w a ms:=by
 obtain ⟨a,len,cap,zs,h1,h2,h3,h4,h5,h6⟩:=zcy (E:=fun cs (p : Int × Int) => cs = [.int .i64 p.1,.int .i64 p.2]) Try.underlying27 Try.cellsMv (by omega) (fun n cs y hy hl _ => by
  obtain ⟨xs,m,_,_,_,hlen,hf⟩:=DataW.trod_struct Try.underlying45 hy
  match cs,hl with
  | [c0,c1],_ =>
   match xs,hlen with
   | [y0,y1],_ =>
    have h0:=hf 0 _ rfl
    have h1:=hf 1 _ rfl
    simp only [List.getElem_toArray,List.getElem_cons_zero,List.getElem_cons_succ,Try.cellsInt] at h0 h1
    obtain ⟨k0,hk0⟩:=zb9 (c:=c0) h0
    obtain ⟨k1,hk1⟩:=zb9 (c:=c1) h1
    exact ⟨(k0,k1),by rw [hk0,hk1]⟩) h hN
 refine ⟨a,len,cap,zs,h1,h2,h3,fun i p hi => ?_⟩
 obtain ⟨b,o,cs,e1,_,e3,e4⟩:=h6 i p hi
 subst e4
 exact ⟨b,o,e1,e3 0 _ rfl,e3 1 _ rfl⟩
end
set_option maxRecDepth 100000 in
theorem zmp {H : Type} {enc : TypeId × Value -> H} {W : World} {base : Nat} {v : Value} {d : DataW H} {p : List MemPlace} (hv : Value.okWide Try.prog W .any base 26 v) (h : DataW.Trod enc Try.prog W 0 (fun _ => true) true 26 v d p) (hN : Rows.uptoBulk d <= 1048576) :
  ∃ (f : zad) (sa ta va : Option Addr) (sl sc tl tc vl vc : Nat),v = .agg #[.slice sa sl sc,.slice ta tl tc,.slice va vl vc] /\ FleetAt W sa sl sc ta tl tc va vl vc f:=by
 obtain ⟨cs,rfl,hcs⟩:=okWide_struct Try.underlying26 hv
 obtain ⟨fuel,hf⟩:=h
 obtain ⟨xs,m,_,hx,hl,hlen,hfs⟩:=DataW.trod_struct Try.underlying26 hf
 simp only [Value.cells] at hf hl hfs
 rw [Try.cellsFlt] at hcs
 obtain ⟨l⟩:=cs
 simp at hcs
 match l,hcs with
 | [c0,c1,c2],_ =>
  match xs,hlen with
  | [y0,y1,y2],_ =>
   have h0:=hfs 0 _ rfl
   have h1:=hfs 1 _ rfl
   have h2:=hfs 2 _ rfl
   simp only [List.getElem_toArray,List.getElem_cons_zero,List.getElem_cons_succ,Try.cellsStrs2,Try.cellsTops2,Try.cellsSvcs2] at h0 h1 h2
   have hx1 : d = .agg [y0.1,y1.1,y2.1]:=by simpa using congrArg Prod.fst hx
   rw [hx1] at hN
   obtain ⟨sa,sl,sc,ss,e0,a1,a2,a3,a4⟩:=zmu (cs0:=[c0]) Try.underlying22 Try.underlying9 Try.cellsStr h0 (zdd hN (by simp))
   obtain ⟨ta,tl,tc,ts,e1,b1,b2,b3⟩:=zmw (cs0:=[c1]) h1 (zdd hN (by simp))
   obtain ⟨va,vl,vc,vs,e2,g1,g2,g3⟩:=zmv (cs0:=[c2]) h2 (zdd hN (by simp))
   simp at e0 e1 e2
   subst e0 e1 e2
   exact ⟨⟨ss,ts,vs⟩,sa,ta,va,sl,sc,tl,tc,vl,vc,rfl,⟨a1,a2,a3,a4,b1,b2,b3,g1,g2,g3⟩⟩
theorem zmq {H : Type} {enc : TypeId × Value -> H} {W : World} {base : Nat} {v : Value} {d : DataW H} {p : List MemPlace} (hv : Value.okWide Try.prog W .any base 27 v) (h : DataW.Trod enc Try.prog W 0 (fun _ => true) true 27 v d p) (hN : Rows.uptoBulk d <= 1048576) :
  ∃ (ms : List (Int × Int)) (ma : Option Addr) (mc : Nat),v = .slice ma ms.length mc /\ ms.length <= 2000000 /\ MvsAt W ma ms:=by
 obtain ⟨a,len,cap,rfl⟩:=okWide_slice Try.underlying27 hv
 obtain ⟨fuel,hf⟩:=h
 obtain ⟨a',len',cap',ms,e0,e1,e2,e3⟩:=zmr hf hN
 simp [Value.cells] at e0
 obtain ⟨rfl,rfl,rfl⟩:=e0
 subst e1
 exact ⟨ms,a,cap,rfl,e2,e3⟩
end
section
open Go.ChangeShapes Go.WideShapes Go.ChangeAt Go.RowKit
theorem zjf : laidOutB Try.prog = true:=by kernel_rfl
theorem zoh : ownKnob Try.prog.godebug = none:=by kernel_rfl
set_option maxRecDepth 100000 in
theorem zof (H : Type) (enc : TypeId × Value -> H) (W : World) (base : Nat) (args : Array Value) (ds gs : List (DataW H)) (before : List MemPlace)
  (hval : ∀ (j : Nat) t v,Try.f4.params[j]? = some t -> args[j]? = some v -> Value.okWide Try.prog W .any base t v)
  (hW : DataW.Whole enc Try.prog Try.f4.params.toList Rows.shortestSpec.vars false W args.toList ds gs before) (hk : Rows.uptoSmall H (ds ++ gs) = true) :
  Calls Try.prog 4 args W fun e W' => ∃ v,e = .returned v /\ Rows.shortestSpec.post enc Try.prog Try.f4 false true false false W args v W':=by
 have hW':=hW
 obtain ⟨p,q,hA0,hV,rfl,hfz,hnd⟩:=hW
 have hA : DataW.TrodAll enc Try.prog W 0 (fun _ => true) true Try.f4.params.toList args.toList ds p:=hA0
 rw [Try.params4] at hA hval
 obtain ⟨v0,vs0,d0,ds0,p0,q0,hargs,rfl,rfl,h0,r0⟩:=trodAll_cons hA
 obtain ⟨v1,vs1,d1,ds1,p1,q1,hargs1,rfl,rfl,h1,r1⟩:=trodAll_cons r0
 obtain ⟨rfl,rfl,rfl⟩:=trodAll_nil r1
 obtain rfl : args = #[v0,v1]:=by cases args;simp_all
 obtain ⟨rfl,rfl⟩:=trodVars_none hV
 clear hA0
 have hN : Rows.uptoBulk d0 <= 1048576 /\ Rows.uptoBulk d1 <= 1048576:=by
  unfold Rows.uptoSmall at hk
  have:=of_decide_eq_true hk
  simp only [List.append_nil,Rows.uptoBulkAll] at this
  omega
 have hlt0 : ∀ x ∈ p0,x.block < W.heap.size:=fun x hx => by simpa using hW'.lt x (by simp [hx])
 have hlt1 : ∀ x ∈ p1,x.block < W.heap.size:=fun x hx => by simpa using hW'.lt x (by simp [hx])
 obtain ⟨f,sa,ta,va,sl,sc,tl,tc,vl,vc,rfl,hF⟩:=zmp (hval 0 26 v0 rfl rfl) h0 hN.1
 obtain ⟨ms,ma,mc,rfl,hml,hm⟩:=zmq (hval 1 27 v1 rfl rfl) h1 hN.2
 refine (zod f sa ta va sl sc tl tc vl vc ms ma mc W hF hml hm zko).mono fun e W' ⟨he,bel⟩ => ?_
 subst he
 have ha0 : DataW.Trod enc Try.prog W' 0 (fun b => decide (b < W.heap.size)) true 26 (.agg #[.slice sa sl sc,.slice ta tl tc,.slice va vl vc]) d0 p0 :=
  Below.trod zjf (by kernel_rfl) (of_decide_eq_true (by kernel_rfl)) h0 bel hlt0
 have ha1 : DataW.Trod enc Try.prog W' 0 (fun b => decide (b < W.heap.size)) true 27 (.slice ma ms.length mc) d1 p1 :=
  Below.trod zjf (by kernel_rfl) (of_decide_eq_true (by kernel_rfl)) h1 bel hlt1
 exact ⟨_,rfl,_,_,_,[],_,[],hW',trodAll_mk1 (shut_bool Try.underlying4 _),trodAll_cons_mk ha0 (trodAll_cons_mk ha1 trodAll_mk0),rfl,bel.frame _,fun h => by cases h⟩
theorem zoi (os : Os) {H : Type} (enc : TypeId × Value -> H) : ∃ places,DataW.whole enc Try.prog ((World.holding Try.prog os ⟨#[],#[],[]⟩).forCall (fun _ _ => 0) ⟨#[],#[.agg #[.slice none 0 0,.slice none 0 0,.slice none 0 0],.slice none 0 0],[]⟩).memory Try.f4.params.toList Rows.shortestSpec.vars false (#[.agg #[.slice none 0 0,.slice none 0 0,.slice none 0 0],.slice none 0 0] : Array Value).toList 8 = some ([.agg [.nil,.nil,.nil],.nil],[],places) :=
 ⟨[],by kernel_rfl⟩
set_option maxRecDepth 100000 in
theorem zog (os : Os) (started : os.Started) (H : Type) (enc : TypeId × Value -> H) (F : Stop.Interp) :
  ReturnsInHanded {} Try.checked os 4 .any ((Rows.OpenSpec.upto Rows.shortestSpec).preRow enc Try.prog Try.f4 Rows.shortestUptoRow.domain false Rows.shortestUptoRow.laid) (((Rows.OpenSpec.upto Rows.shortestSpec).at F).post enc Try.prog Try.f4 false true false false):=by
 obtain ⟨places,hx⟩:=zoi os enc
 refine returnsInHanded_of_row (C:=Try.checked) (s:=Rows.OpenSpec.upto Rows.shortestSpec) zoh started (by kernel_rfl) Try.func4
  (witness_row_at (enc:=enc) (C:=Try.checked) false (World.holding Try.prog os ⟨#[],#[],[]⟩) #[.agg #[.slice none 0 0,.slice none 0 0,.slice none 0 0],.slice none 0 0] rfl (by kernel_rfl) (by kernel_rfl) (by kernel_rfl)
   (OpenSpec.preRow_of_cond 8 hx (by kernel_rfl) (fun k hk => by cases hk;rfl) (by kernel_rfl) (laidMetH_nil _ _))) ?_
 intro W base args ds gs before hval hW _ hk _ hL _ _
 exact zof H enc W base args ds gs before hval hW (hk _ rfl)
theorem shortest_upto : Rows.ShortestUptoSaid :=
 OpenClaim.holds_of_cond 4 Try.f4 rfl rfl rfl rfl rfl rfl rfl ⟨rfl,rfl,rfl,rfl,rfl⟩ rfl rfl rfl rfl rfl (by kernel_rfl) Try.func4 (by kernel_rfl)
  (of_decide_eq_true (by kernel_rfl)) (by unfold Func.isWrapper;first | (rw [if_pos (by decide +kernel)];kernel_rfl) | (rw [if_neg (by decide +kernel)];exact ⟨rfl,rfl⟩))
  (fun os started H enc _ F => by rw [OpenClaim.pre_eq_preRow];exact zog os started H enc F)
#print axioms shortest_upto
end
end Go.Proofs.Ytkkekopomiehlab
