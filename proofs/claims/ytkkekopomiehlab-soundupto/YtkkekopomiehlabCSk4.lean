import Derived.Test.YtkkekopomiehlabCProg2
import Derived.Test.YtkkekopomiehlabRows
import Derived.Deep.Slices
import Derived.Deep.Strs
import Derived.Carry
import Derived.ProofKit
import Derived.OpenShut
import Derived.ShutString
import Derived.Deep.DeepHandedRow
import Derived.JoinedCond
set_option linter.unusedVariables false
set_option linter.unusedSimpArgs false
set_option maxHeartbeats 40000000
set_option maxRecDepth 4000
namespace Go.Proofs.Ytkkekopomiehlab
section
open Go.RowKit
theorem zl8 {w : World} {base n : Nat} {v : Value} {ms : List (Int × Int)} (h : w.ownsRow base 45 2 v n (mvC ms)) (hl : ms.length = n) : ∃ a c,v = .slice a n c /\ MvsAt w a ms:=by
 have h0:=h
 rcases h.2 with ⟨hv,hn⟩ | ⟨g,cap,cur,hv,_⟩
 ·subst hn
  have : ms = []:=List.eq_nil_of_length_eq_zero hl
  subst this
  exact ⟨none,0,hv,fun i m hi => by simp at hi⟩
 ·subst hv
  refine ⟨some ⟨g,0,none⟩,cap,rfl,fun i m hi => ⟨g,0,rfl,?_,?_⟩⟩
  ·have hc:=zfr hi []
   rw [List.append_nil] at hc
   have:=(List.getElem?_eq_some_iff.1 hi).1
   rw [Nat.zero_add,h0.cellAt _ (by omega)];exact hc.1
  ·have hc:=zfr hi []
   rw [List.append_nil] at hc
   have:=(List.getElem?_eq_some_iff.1 hi).1
   rw [Nat.zero_add,h0.cellAt _ (by omega)];exact hc.2
theorem zkg (f0 : zac) (hs : zbx f0 [(1,1),(0,1)] = (2,0)) (hp : PlanIs f0 512 [(1,1),(0,1)] 0) (ht : ∀ W,Calls Try.prog 15 #[.int .i64 0,.int .i64 0,.int .i64 0,.int .i64 0] W fun e W' => ∃ gs gt gv gm,e = .returned (.tuple #[.agg #[.slice (some ⟨gs,0,none⟩) 2 2,.slice (some ⟨gt,0,none⟩) 1 1,.slice (some ⟨gv,0,none⟩) 2 2],.slice (some ⟨gm,0,none⟩) 2 2]) /\ FleetAt W' (some ⟨gs,0,none⟩) 2 2 (some ⟨gt,0,none⟩) 1 1 (some ⟨gv,0,none⟩) 2 2 f0 /\ MvsAt W' (some ⟨gm,0,none⟩) [(1,1),(0,1)] /\ Below W.heap.size W W') (w : World) : Calls Try.prog 5 #[] w fun e W => e = .returned (.bool true) /\ Below w.heap.size w W:=by
 have c1:=fun (W : World) (h : Below w.heap.size w W) => ht W
 have c2:=fun (gs gt gv : Nat) (W : World) (h : FleetAt W (some ⟨gs,0,none⟩) 2 2 (some ⟨gt,0,none⟩) 1 1 (some ⟨gv,0,none⟩) 2 2 f0) => zj5 f0 _ _ _ _ _ _ _ _ _ 512 W h
 have c3:=fun (gs gt gv gm : Nat) (W : World) (h : FleetAt W (some ⟨gs,0,none⟩) 2 2 (some ⟨gt,0,none⟩) 1 1 (some ⟨gv,0,none⟩) 2 2 f0) (hm : MvsAt W (some ⟨gm,0,none⟩) [(1,1),(0,1)]) => zgj f0 _ _ _ _ _ _ _ _ _ [(1,1),(0,1)] (some ⟨gm,0,none⟩) 2 W h (by decide) hm
 rw [hs] at c3
 go_enter Try.func5,Try.ntmps5
 go_wp2_with (first
  | (go_at_call 15;refine (c1 _ (by first | exact Below.refl _ _ | exact bel1 _ _)).mono ?_;rintro e w1 ⟨gs,gt,gv,gm,rfl,hF,hM,hb1⟩;have HF:= zab hF;have HM:=(zab hM))
  | (go_at_call 12;refine (c2 gs gt gv _ (HF.out.keep (bel1 _ _))).mono ?_;rintro e w2 ⟨⟨u,ms,err,rfl,hown,hPI⟩,hb2⟩;obtain ⟨rfl,rfl⟩:=hPI.uniq hp;obtain ⟨pa,pc,rfl,hM2⟩:=zl8 hown rfl;have HM2:= zab hM2;have HF2:=(zab ((HF.out.keep (bel1 _ _)).keep hb2));have HM1:=(zab ((HM.out.keep (bel1 _ _)).keep hb2));have f2:=zah hb2 (box3 w1 _ _ _ _))
  | (go_at_call 6;refine (c3 gs gt gv gm _ HF2.out HM1.out).mono ?_;rintro e w3 ⟨rfl,hb3⟩;have HA:=(zab (HM1.out.keep hb3));have HB:=(zab (HM2.out.keep hb3))))
 have hB3:=thn3 (thn3 (thn3 hb1 (bel1 _ _)) hb2) hb3
 clear c1 c2 c3 ht hs hp
 go_loopw [7] (fun vi wr => ∃ i : Nat,i <= 2 /\ vi = .int .i64 i /\ Below w3.heap.size w3 wr) (fun i _ => 2 - (intOf i).toNat)
 case atStart => exact ⟨0,Nat.zero_le _,rfl,Below.refl _ _⟩
 case round =>
  obtain ⟨i,hi,rfl,hb5⟩:=hrel
  rename World => w5
  have hx0 := znn i
  by_cases hlt : i < 2
  ·obtain ⟨m,hmi⟩ : ∃ m,([(1,1),(0,1)] : List (Int × Int))[i]? = some m:=⟨([(1,1),(0,1)] : List (Int × Int))[i]'hlt,List.getElem?_eq_getElem _⟩
   obtain ⟨b1,o1,rfl,k0,k1⟩:=HB.out i m hmi
   obtain ⟨b2,o2,hbb,l0,l1⟩:=HA.out i m hmi
   cases hbb
   have k0:=zaa hb5 k0
   have k1:=zaa hb5 k1
   have l0:=zaa hb5 l0
   have l1:=zaa hb5 l1
   have hx1 : (i : Int) < 2:=by omega
   obtain ⟨mx,my⟩:=m
   simp only [Nat.zero_add] at k0 k1 l0 l1
   have d1 : (mx == mx) = true:=by simp
   have d2 : (mx != mx) = false:=by simp
   have d3 : decide (mx = mx) = true:=by simp
   have e1 : (my == my) = true:=by simp
   have e2 : (my != my) = false:=by simp
   have e3 : decide (my = my) = true:=by simp
   clear hmi
   go_wp2_with fail
   go_quiet (fail)
   go_wp2_with fail
   go_roundw
   case rel => exact ⟨i + 1,by omega,by go_num,below_drewN hb5 _⟩
   case measure => simp [intOf];omega
  ·obtain rfl : i = 2:=by omega
   go_wp2_with fail
   go_ret
   exact ⟨rfl,thn3 hB3 hb5⟩
theorem zkf (w : World) : Calls Try.prog 5 #[] w fun e W => e = .returned (.bool true) /\ Below w.heap.size w W:=by
 obtain ⟨f0,hf,h1,h2⟩:=zn5
 have h3:=zo3
 rw [<- hf] at h3
 exact zkg f0 h1 h2 h3 w
end
section
open Go.RowKit Go.ChangeShapes Go.WideShapes
theorem zkl {H : Type} (d : DataW H) : 1 <= Rows.uptoBulk d:=by
 cases d with
 | lit l => cases l <;> simp [Rows.uptoBulk]
 | _ => simp [Rows.uptoBulk]
theorem zfb {H : Type} : ∀ (l : List (DataW H)) (d : DataW H),d ∈ l -> Rows.uptoBulk d <= Rows.uptoBulkAll l
 | e :: l,d,h => by
  rw [Rows.uptoBulkAll]
  rcases List.mem_cons.1 h with rfl | h
  ·omega
  ·have:=zfb l d h;omega
theorem zfa {H : Type} : ∀ (l : List (DataW H)),l.length <= Rows.uptoBulkAll l
 | [] => Nat.zero_le _
 | d :: l => by have:=zkl d;have:=zfa l;rw [Rows.uptoBulkAll,List.length_cons];omega
theorem zhr {α : Type} {p : Nat -> α -> Prop} : ∀ (n : Nat),(∀ i,i < n -> ∃ z,p i z) -> ∃ zs : List α,zs.length = n /\ ∀ i z,zs[i]? = some z -> p i z
 | 0,_ => ⟨[],rfl,fun i z h => by simp at h⟩
 | n + 1,h => by
  obtain ⟨zs,h1,h2⟩:=zhr n (fun i hi => h i (by omega))
  obtain ⟨z,hz⟩:=h n (by omega)
  refine ⟨zs ++ [z],by simp [h1],fun i u hi => ?_⟩
  by_cases hl : i < zs.length
  ·rw [List.getElem?_append_left hl] at hi;exact h2 i u hi
  ·have:=(List.getElem?_eq_some_iff.1 hi).1
   rw [List.length_append,List.length_singleton] at this
   have hie : i = n:=by omega
   subst hie
   rw [List.getElem?_append_right (by omega),h1,Nat.sub_self] at hi
   simp at hi
   rw [<- hi];exact hz
section
variable {H : Type} {enc : TypeId × Value -> H} {P : Program} {w : World}
theorem zj9 (b o m j : Nat) : ((⟨b,o,none⟩ : Addr).add m).add j = ⟨b,o + m + j,none⟩:=by
 unfold Addr.add
 by_cases h1 : m = 0
 ·subst h1
  by_cases h2 : j = 0
  ·subst h2;rfl
  ·simp [h2]
 ·by_cases h2 : j = 0
  ·subst h2;simp [h1]
  ·simp [h1,h2]
theorem zcz {α : Type} {E : List Value -> α -> Prop} {t e : TypeId} {k fuel : Nat} {cs0 : List Value} {x : DataW H × List MemPlace} (ht : P.underlying t = some (.slice e)) (hk : P.cellsOf e = k) (hk0 : 0 < k)
  (hE : ∀ (n : Nat) (cs : List Value) (y : DataW H × List MemPlace),DataW.trod enc P w 0 (fun _ => true) true n e cs = some y -> cs.length = k -> Rows.uptoBulk y.1 <= 1048576 -> ∃ z,E cs z)
  (h : DataW.trod enc P w 0 (fun _ => true) true fuel t cs0 = some x) (hN : Rows.uptoBulk x.1 <= 1048576) :
  ∃ (a : Option Addr) (len cap : Nat) (zs : List α),cs0 = [.slice a len cap] /\ len = zs.length /\ zs.length <= 2000000 /\ len <= cap /\ cap <= 9000000 /\
   ∀ (i : Nat) (z : α),zs[i]? = some z -> ∃ b o cs,a = some ⟨b,o,none⟩ /\ cs.length = k /\ (∀ (j : Nat) (v : Value),cs[j]? = some v -> w.cell? ⟨b,o + i * k + j,none⟩ = some v) /\ E cs z:=by
 rcases Go.Deep.open_slice ht h with ⟨rfl,rfl⟩ | ⟨a,len,cap,m,n,D,Pl,rfl,hb,hl,hm,hmm,rfl,hx⟩
 ·exact ⟨none,0,0,[],rfl,rfl,Nat.zero_le _,Nat.le_refl _,Nat.zero_le _,fun i z hi => by simp at hi⟩
 ·simp only [if_true] at hmm
  subst hmm
  rw [hk] at hx
  have hbul : Rows.uptoBulkAll ((List.range len).map D) + Rows.uptoBulkAll ((List.range (m - len)).map fun j => D (len + j)) + 1 <= 1048576:=by
   have:=hN;simp only [Rows.uptoBulk] at this;exact this
  have hl1:=zfa ((List.range len).map D)
  have hl2:=zfa ((List.range (m - len)).map fun j => D (len + j))
  rw [List.length_map,List.length_range] at hl1 hl2
  obtain ⟨zs,hz1,hz2⟩:=zhr (α:=α) (p:=fun i z => ∃ cs,w.cells? 0 (a.add (i * k)) k = some cs /\ E cs z) len (fun i hi => by
   obtain ⟨cs',h1,h2⟩:=hx i (by omega)
   have hd : Rows.uptoBulk (D i) <= 1048576:=by
    have:=zfb ((List.range len).map D) (D i) (List.mem_map.2 ⟨i,List.mem_range.2 hi,rfl⟩)
    omega
   obtain ⟨z,hz⟩:=hE n cs' (D i,Pl i) h2 (World.cells?_some h1).2.1 hd
   exact ⟨z,cs',h1,hz⟩)
  refine ⟨some a,len,m,zs,rfl,hz1.symm,by omega,hl,by omega,fun i z hi => ?_⟩
  obtain ⟨cs,h1,h2⟩:=hz2 i z hi
  have hil:=(List.getElem?_eq_some_iff.1 hi).1
  obtain ⟨cs',g1,_⟩:=hx 0 (by omega)
  obtain ⟨_,g2,g3⟩:=World.cells?_some g1
  have g4:=g3 0 hk0
  obtain ⟨v0,hv0⟩ : ∃ v0,cs'[0]? = some v0:=⟨cs'[0]'(by omega),List.getElem?_eq_getElem (by omega)⟩
  rw [hv0,Nat.zero_mul] at g4
  obtain ⟨b,o,sp⟩:=a
  obtain rfl : sp = none:=by simpa [Addr.add] using World.cell?_spot g4
  obtain ⟨_,q1,q2⟩:=World.cells?_some h1
  refine ⟨b,o,cs,rfl,q1,fun j v hj => ?_,h2⟩
  have:=q2 j (by have:=(List.getElem?_eq_some_iff.1 hj).1;omega)
  rw [zj9,hj] at this
  exact this
theorem zmn {t e : TypeId} {fuel : Nat} {cs0 : List Value} {x : DataW H × List MemPlace} (ht : P.underlying t = some (.slice e)) (he : P.underlying e = some .string) (hk : P.cellsOf e = 1)
  (h : DataW.trod enc P w 0 (fun _ => true) true fuel t cs0 = some x) (hN : Rows.uptoBulk x.1 <= 1048576) :
  ∃ (a : Option Addr) (len cap : Nat) (ss : List ByteArray),cs0 = [.slice a len cap] /\ len = ss.length /\ ss.length <= 2000000 /\ (∀ s ∈ ss,s.size <= maxLen) /\ StrsAt w a ss:=by
 obtain ⟨a,len,cap,zs,h1,h2,h3,h4,h5,h6⟩:=zcz (E:=fun cs (z : ByteArray) => cs = [.string z] /\ z.size <= maxLen) ht hk (by omega) (fun n cs y hy _ _ => by
  obtain ⟨s,hs,_,hsz⟩:=DataW.trod_string he hy
  exact ⟨s,hs,hsz⟩) h hN
 refine ⟨a,len,cap,zs,h1,h2,h3,fun s hs => ?_,fun i s hi => ?_⟩
 ·obtain ⟨i,hi⟩:=List.getElem?_of_mem hs
  obtain ⟨_,_,_,_,_,_,_,g⟩:=h6 i s hi
  exact g
 ·obtain ⟨b,o,cs,e1,_,e3,e4,_⟩:=h6 i s hi
  refine ⟨b,o,e1,?_⟩
  have:=e3 0 (.string s) (by rw [e4];rfl)
  rwa [Nat.mul_one,Nat.add_zero] at this
end
theorem zdh {H : Type} {parts : List (DataW H)} {d : DataW H} (h : Rows.uptoBulk (.agg parts) <= 1048576) (hd : d ∈ parts) : Rows.uptoBulk d <= 1048576:=by
 have:=zfb parts d hd
 simp only [Rows.uptoBulk] at h
 omega
section
variable {H : Type} {enc : TypeId × Value -> H} {w : World}
theorem Try.cellsInt : Try.prog.cellsOf 3 = 1:=by kernel_rfl
theorem Try.cellsStr : Try.prog.cellsOf 9 = 1:=by kernel_rfl
theorem Try.cellsTop : Try.prog.cellsOf 56 = 1:=by kernel_rfl
theorem Try.cellsPin : Try.prog.cellsOf 108 = 3:=by kernel_rfl
theorem Try.cellsRel : Try.prog.cellsOf 79 = 1:=by kernel_rfl
theorem Try.cellsSvc : Try.prog.cellsOf 60 = 4:=by kernel_rfl
theorem Try.cellsFlt : Try.prog.cellsOf 26 = 3:=by kernel_rfl
theorem Try.cellsPins : Try.prog.cellsOf 77 = 1:=by kernel_rfl
theorem Try.cellsRels : Try.prog.cellsOf 58 = 1:=by kernel_rfl
theorem zb8 {n : Nat} {c : Value} {y : DataW H × List MemPlace} (h : DataW.trod enc Try.prog w 0 (fun _ => true) true n 3 [c] = some y) : ∃ k,c = .int .i64 k:=by
 obtain ⟨k,hk,_⟩:=DataW.trod_int Try.underlying3 h
 simp at hk
 exact ⟨k,hk⟩
theorem zmp {fuel : Nat} {cs0 : List Value} {x : DataW H × List MemPlace} (h : DataW.trod enc Try.prog w 0 (fun _ => true) true fuel 23 cs0 = some x) (hN : Rows.uptoBulk x.1 <= 1048576) :
  ∃ (a : Option Addr) (len cap : Nat) (ts : List Int),cs0 = [.slice a len cap] /\ len = ts.length /\ ts.length <= 2000000 /\ IntsAt w a ts:=by
 obtain ⟨a,len,cap,zs,h1,h2,h3,h4,h5,h6⟩:=zcz (E:=fun cs (z : Int) => cs = [.int .i64 z]) Try.underlying23 Try.cellsTop (by omega) (fun n cs y hy hl _ => by
  obtain ⟨xs,m,_,_,_,hlen,hf⟩:=DataW.trod_struct Try.underlying56 hy
  match cs,hl with
  | [c],_ =>
   match xs,hlen with
   | [y0],_ =>
    have h0:=hf 0 _ rfl
    simp only [List.getElem_toArray,List.getElem_cons_zero,List.getElem_cons_succ,Try.cellsInt] at h0
    obtain ⟨k,hk⟩:=zb8 (c:=c) h0
    exact ⟨k,by rw [hk]⟩) h hN
 refine ⟨a,len,cap,zs,h1,h2,h3,fun i s hi => ?_⟩
 obtain ⟨b,o,cs,e1,_,e3,e4⟩:=h6 i s hi
 refine ⟨b,o,e1,?_⟩
 have:=e3 0 (.int .i64 s) (by rw [e4];rfl)
 rwa [Nat.mul_one,Nat.add_zero] at this
theorem zml {fuel : Nat} {cs0 : List Value} {x : DataW H × List MemPlace} (h : DataW.trod enc Try.prog w 0 (fun _ => true) true fuel 77 cs0 = some x) (hN : Rows.uptoBulk x.1 <= 1048576) :
  ∃ (a : Option Addr) (len cap : Nat) (ps : List PinD),cs0 = [.slice a len cap] /\ PinSl w a len cap ps:=by
 obtain ⟨a,len,cap,zs,h1,h2,h3,h4,h5,h6⟩:=zcz (E:=fun cs (p : PinD) => cs = [.int .i64 p.t,.int .i64 p.w,.int .i64 p.r]) Try.underlying77 Try.cellsPin (by omega) (fun n cs y hy hl _ => by
  obtain ⟨xs,m,_,_,_,hlen,hf⟩:=DataW.trod_struct Try.underlying108 hy
  match cs,hl with
  | [c0,c1,c2],_ =>
   match xs,hlen with
   | [y0,y1,y2],_ =>
    have h0:=hf 0 _ rfl
    have h1:=hf 1 _ rfl
    have h2:=hf 2 _ rfl
    simp only [List.getElem_toArray,List.getElem_cons_zero,List.getElem_cons_succ,Try.cellsInt] at h0 h1 h2
    obtain ⟨k0,hk0⟩:=zb8 (c:=c0) h0
    obtain ⟨k1,hk1⟩:=zb8 (c:=c1) h1
    obtain ⟨k2,hk2⟩:=zb8 (c:=c2) h2
    exact ⟨⟨k0,k1,k2⟩,by rw [hk0,hk1,hk2]⟩) h hN
 refine ⟨a,len,cap,zs,h1,h2,h3,h4,h5,fun i p hi => ?_⟩
 obtain ⟨b,o,cs,e1,_,e3,e4⟩:=h6 i p hi
 subst e4
 exact ⟨b,o,e1,e3 0 _ rfl,e3 1 _ rfl,e3 2 _ rfl⟩
theorem zmm {fuel : Nat} {cs0 : List Value} {x : DataW H × List MemPlace} (h : DataW.trod enc Try.prog w 0 (fun _ => true) true fuel 58 cs0 = some x) (hN : Rows.uptoBulk x.1 <= 1048576) :
  ∃ (a : Option Addr) (len cap : Nat) (rs : List (List PinD)),cs0 = [.slice a len cap] /\ RelSl PinSl w a len cap rs:=by
 obtain ⟨a,len,cap,zs,h1,h2,h3,h4,h5,h6⟩:=zcz (E:=fun cs (ps : List PinD) => ∃ pa pl pc,cs = [.slice pa pl pc] /\ PinSl w pa pl pc ps) Try.underlying58 Try.cellsRel (by omega) (fun n cs y hy hl hy2 => by
  obtain ⟨xs,m,_,hx,_,hlen,hf⟩:=DataW.trod_struct Try.underlying79 hy
  match cs,hl with
  | [c],_ =>
   match xs,hlen with
   | [y0],_ =>
    have h0:=hf 0 _ rfl
    simp only [List.getElem_toArray,List.getElem_cons_zero,List.getElem_cons_succ,Try.cellsPins] at h0
    rw [hx] at hy2
    obtain ⟨pa,pl,pc,ps,hc,hps⟩:=zml (cs0:=[c]) h0 (zdh hy2 (by simp))
    exact ⟨ps,pa,pl,pc,hc,hps⟩) h hN
 refine ⟨a,len,cap,zs,h1,h2,h3,h4,h5,fun i ps hi => ?_⟩
 obtain ⟨b,o,cs,e1,_,e3,pa,pl,pc,e4,e5⟩:=h6 i ps hi
 subst e4
 have:=e3 0 _ rfl
 rw [Nat.mul_one,Nat.add_zero] at this
 exact ⟨b,o,pa,pl,pc,e1,this,e5⟩
theorem zmo {fuel : Nat} {cs0 : List Value} {x : DataW H × List MemPlace} (h : DataW.trod enc Try.prog w 0 (fun _ => true) true fuel 24 cs0 = some x) (hN : Rows.uptoBulk x.1 <= 1048576) :
  ∃ (a : Option Addr) (len cap : Nat) (vs : List SvcD),cs0 = [.slice a len cap] /\ len = vs.length /\ vs.length <= 2000000 /\ SvcsAt (RelSl PinSl) w a vs:=by
 obtain ⟨a,len,cap,zs,h1,h2,h3,h4,h5,h6⟩:=zcz (E:=fun cs (v : SvcD) => ∃ ra rl rc,cs = [.int .i64 v.size,.int .i64 v.now,.int .i64 v.want,.slice ra rl rc] /\ RelSl PinSl w ra rl rc v.rels) Try.underlying24 Try.cellsSvc (by omega) (fun n cs y hy hl hy2 => by
  obtain ⟨xs,m,_,hx,_,hlen,hf⟩:=DataW.trod_struct Try.underlying60 hy
  match cs,hl with
  | [c0,c1,c2,c3],_ =>
   match xs,hlen with
   | [y0,y1,y2,y3],_ =>
    have h0:=hf 0 _ rfl
    have h1:=hf 1 _ rfl
    have h2:=hf 2 _ rfl
    have h3:=hf 3 _ rfl
    simp only [List.getElem_toArray,List.getElem_cons_zero,List.getElem_cons_succ,Try.cellsInt,Try.cellsRels] at h0 h1 h2 h3
    obtain ⟨k0,hk0⟩:=zb8 (c:=c0) h0
    obtain ⟨k1,hk1⟩:=zb8 (c:=c1) h1
    obtain ⟨k2,hk2⟩:=zb8 (c:=c2) h2
    rw [hx] at hy2
    obtain ⟨ra,rl,rc,rs,hc,hrs⟩:=zmm (cs0:=[c3]) h3 (zdh hy2 (by simp))
    simp at hc
    exact ⟨⟨k0,k1,k2,rs⟩,ra,rl,rc,by rw [hk0,hk1,hk2,hc],hrs⟩) h hN
 refine ⟨a,len,cap,zs,h1,h2,h3,fun i v hi => ?_⟩
 obtain ⟨b,o,cs,e1,_,e3,ra,rl,rc,e4,e5⟩:=h6 i v hi
 subst e4
 exact ⟨b,o,ra,rl,rc,e1,e3 0 _ rfl,e3 1 _ rfl,e3 2 _ rfl,e3 3 _ rfl,e5⟩
end
end
section
open Go.RowKit Go.ChangeShapes Go.WideShapes
section
variable {H : Type} {enc : TypeId × Value -> H} {w : World}
theorem Try.cellsMv : Try.prog.cellsOf 45 = 2:=by kernel_rfl
theorem Try.cellsStrs2 : Try.prog.cellsOf 22 = 1:=by kernel_rfl
theorem Try.cellsTops2 : Try.prog.cellsOf 23 = 1:=by kernel_rfl
theorem Try.cellsSvcs2 : Try.prog.cellsOf 24 = 1:=by kernel_rfl
theorem zmk {fuel : Nat} {cs0 : List Value} {x : DataW H × List MemPlace} (h : DataW.trod enc Try.prog w 0 (fun _ => true) true fuel 27 cs0 = some x) (hN : Rows.uptoBulk x.1 <= 1048576) :
  ∃ (a : Option Addr) (len cap : Nat) (ms : List (Int × Int)),cs0 = [.slice a len cap] /\ len = ms.length /\ ms.length <= 2000000 /\ MvsAt w a ms:=by
 obtain ⟨a,len,cap,zs,h1,h2,h3,h4,h5,h6⟩:=zcz (E:=fun cs (p : Int × Int) => cs = [.int .i64 p.1,.int .i64 p.2]) Try.underlying27 Try.cellsMv (by omega) (fun n cs y hy hl _ => by
  obtain ⟨xs,m,_,_,_,hlen,hf⟩:=DataW.trod_struct Try.underlying45 hy
  match cs,hl with
  | [c0,c1],_ =>
   match xs,hlen with
   | [y0,y1],_ =>
    have h0:=hf 0 _ rfl
    have h1:=hf 1 _ rfl
    simp only [List.getElem_toArray,List.getElem_cons_zero,List.getElem_cons_succ,Try.cellsInt] at h0 h1
    obtain ⟨k0,hk0⟩:=zb8 (c:=c0) h0
    obtain ⟨k1,hk1⟩:=zb8 (c:=c1) h1
    exact ⟨(k0,k1),by rw [hk0,hk1]⟩) h hN
 refine ⟨a,len,cap,zs,h1,h2,h3,fun i p hi => ?_⟩
 obtain ⟨b,o,cs,e1,_,e3,e4⟩:=h6 i p hi
 subst e4
 exact ⟨b,o,e1,e3 0 _ rfl,e3 1 _ rfl⟩
end
set_option maxRecDepth 100000 in
theorem zmi {H : Type} {enc : TypeId × Value -> H} {W : World} {base : Nat} {v : Value} {d : DataW H} {p : List MemPlace} (hv : Value.okWide Try.prog W .any base 26 v) (h : DataW.Trod enc Try.prog W 0 (fun _ => true) true 26 v d p) (hN : Rows.uptoBulk d <= 1048576) :
  ∃ (f : zac) (sa ta va : Option Addr) (sl sc tl tc vl vc : Nat),v = .agg #[.slice sa sl sc,.slice ta tl tc,.slice va vl vc] /\ FleetAt W sa sl sc ta tl tc va vl vc f:=by
 obtain ⟨cs,rfl,hcs⟩:=okWide_struct Try.underlying26 hv
 obtain ⟨fuel,hf⟩:=h
 obtain ⟨xs,m,_,hx,hl,hlen,hfs⟩:=DataW.trod_struct Try.underlying26 hf
 simp only [Value.cells] at hf hl hfs
 rw [Try.cellsFlt] at hcs
 obtain ⟨l⟩:=cs
 simp at hcs
 match l,hcs with
 | [c0,c1,c2],_ =>
  match xs,hlen with
  | [y0,y1,y2],_ =>
   have h0:=hfs 0 _ rfl
   have h1:=hfs 1 _ rfl
   have h2:=hfs 2 _ rfl
   simp only [List.getElem_toArray,List.getElem_cons_zero,List.getElem_cons_succ,Try.cellsStrs2,Try.cellsTops2,Try.cellsSvcs2] at h0 h1 h2
   have hx1 : d = .agg [y0.1,y1.1,y2.1]:=by simpa using congrArg Prod.fst hx
   rw [hx1] at hN
   obtain ⟨sa,sl,sc,ss,e0,a1,a2,a3,a4⟩:=zmn (cs0:=[c0]) Try.underlying22 Try.underlying9 Try.cellsStr h0 (zdh hN (by simp))
   obtain ⟨ta,tl,tc,ts,e1,b1,b2,b3⟩:=zmp (cs0:=[c1]) h1 (zdh hN (by simp))
   obtain ⟨va,vl,vc,vs,e2,g1,g2,g3⟩:=zmo (cs0:=[c2]) h2 (zdh hN (by simp))
   simp at e0 e1 e2
   subst e0 e1 e2
   exact ⟨⟨ss,ts,vs⟩,sa,ta,va,sl,sc,tl,tc,vl,vc,rfl,⟨a1,a2,a3,a4,b1,b2,b3,g1,g2,g3⟩⟩
theorem zmj {H : Type} {enc : TypeId × Value -> H} {W : World} {base : Nat} {v : Value} {d : DataW H} {p : List MemPlace} (hv : Value.okWide Try.prog W .any base 27 v) (h : DataW.Trod enc Try.prog W 0 (fun _ => true) true 27 v d p) (hN : Rows.uptoBulk d <= 1048576) :
  ∃ (ms : List (Int × Int)) (ma : Option Addr) (mc : Nat),v = .slice ma ms.length mc /\ ms.length <= 2000000 /\ MvsAt W ma ms:=by
 obtain ⟨a,len,cap,rfl⟩:=okWide_slice Try.underlying27 hv
 obtain ⟨fuel,hf⟩:=h
 obtain ⟨a',len',cap',ms,e0,e1,e2,e3⟩:=zmk hf hN
 simp [Value.cells] at e0
 obtain ⟨rfl,rfl,rfl⟩:=e0
 subst e1
 exact ⟨ms,a,cap,rfl,e2,e3⟩
end
section
open Go.ChangeShapes Go.WideShapes Go.ChangeAt Go.RowKit
theorem zje : laidOutB Try.prog = true:=by kernel_rfl
theorem zol : ownKnob Try.prog.godebug = none:=by kernel_rfl
set_option maxRecDepth 100000 in
theorem zoj (H : Type) (enc : TypeId × Value -> H) (W : World) (base : Nat) (args : Array Value) (ds gs : List (DataW H)) (before : List MemPlace)
  (hval : ∀ (j : Nat) t v,Try.f3.params[j]? = some t -> args[j]? = some v -> Value.okWide Try.prog W .any base t v)
  (hW : DataW.Whole enc Try.prog Try.f3.params.toList Rows.soundSpec.vars false W args.toList ds gs before) (hk : Rows.uptoSmall H (ds ++ gs) = true) :
  Calls Try.prog 3 args W fun e W' => ∃ v,e = .returned v /\ Rows.soundSpec.post enc Try.prog Try.f3 false true false false W args v W':=by
 have hW':=hW
 obtain ⟨p,q,hA0,hV,rfl,hfz,hnd⟩:=hW
 have hA : DataW.TrodAll enc Try.prog W 0 (fun _ => true) true Try.f3.params.toList args.toList ds p:=hA0
 rw [Try.params3] at hA hval
 obtain ⟨v0,vs0,d0,ds0,p0,q0,hargs,rfl,rfl,h0,r0⟩:=trodAll_cons hA
 obtain ⟨v1,vs1,d1,ds1,p1,q1,hargs1,rfl,rfl,h1,r1⟩:=trodAll_cons r0
 obtain ⟨rfl,rfl,rfl⟩:=trodAll_nil r1
 obtain rfl : args = #[v0,v1]:=by cases args;simp_all
 obtain ⟨rfl,rfl⟩:=trodVars_none hV
 clear hA0
 have hN : Rows.uptoBulk d0 <= 1048576 /\ Rows.uptoBulk d1 <= 1048576:=by
  unfold Rows.uptoSmall at hk
  have:=of_decide_eq_true hk
  simp only [List.append_nil,Rows.uptoBulkAll] at this
  omega
 have hlt0 : ∀ x ∈ p0,x.block < W.heap.size:=fun x hx => by simpa using hW'.lt x (by simp [hx])
 have hlt1 : ∀ x ∈ p1,x.block < W.heap.size:=fun x hx => by simpa using hW'.lt x (by simp [hx])
 obtain ⟨f,sa,ta,va,sl,sc,tl,tc,vl,vc,rfl,hF⟩:=zmi (hval 0 26 v0 rfl rfl) h0 hN.1
 obtain ⟨ms,ma,mc,rfl,hml,hm⟩:=zmj (hval 1 27 v1 rfl rfl) h1 hN.2
 refine (zon f sa ta va sl sc tl tc vl vc ms ma mc W hF hml hm zkf).mono fun e W' ⟨he,bel⟩ => ?_
 subst he
 have ha0 : DataW.Trod enc Try.prog W' 0 (fun b => decide (b < W.heap.size)) true 26 (.agg #[.slice sa sl sc,.slice ta tl tc,.slice va vl vc]) d0 p0 :=
  Below.trod zje (by kernel_rfl) (of_decide_eq_true (by kernel_rfl)) h0 bel hlt0
 have ha1 : DataW.Trod enc Try.prog W' 0 (fun b => decide (b < W.heap.size)) true 27 (.slice ma ms.length mc) d1 p1 :=
  Below.trod zje (by kernel_rfl) (of_decide_eq_true (by kernel_rfl)) h1 bel hlt1
 exact ⟨_,rfl,_,_,_,[],_,[],hW',trodAll_mk1 (shut_bool Try.underlying4 _),trodAll_cons_mk ha0 (trodAll_cons_mk ha1 trodAll_mk0),rfl,bel.frame _,fun h => by cases h⟩
theorem zom (os : Os) {H : Type} (enc : TypeId × Value -> H) : ∃ places,DataW.whole enc Try.prog ((World.holding Try.prog os ⟨#[],#[],[]⟩).forCall (fun _ _ => 0) ⟨#[],#[.agg #[.slice none 0 0,.slice none 0 0,.slice none 0 0],.slice none 0 0],[]⟩).memory Try.f3.params.toList Rows.soundSpec.vars false (#[.agg #[.slice none 0 0,.slice none 0 0,.slice none 0 0],.slice none 0 0] : Array Value).toList 8 = some ([.agg [.nil,.nil,.nil],.nil],[],places) :=
 ⟨[],by kernel_rfl⟩
set_option maxRecDepth 100000 in
theorem zok (os : Os) (started : os.Started) (H : Type) (enc : TypeId × Value -> H) (F : Stop.Interp) :
  ReturnsInHanded {} Try.checked os 3 .any ((Rows.OpenSpec.upto Rows.soundSpec).preRow enc Try.prog Try.f3 Rows.soundUptoRow.domain false Rows.soundUptoRow.laid) (((Rows.OpenSpec.upto Rows.soundSpec).at F).post enc Try.prog Try.f3 false true false false):=by
 obtain ⟨places,hx⟩:=zom os enc
 refine returnsInHanded_of_row (C:=Try.checked) (s:=Rows.OpenSpec.upto Rows.soundSpec) zol started (by kernel_rfl) Try.func3
  (witness_row_at (enc:=enc) (C:=Try.checked) false (World.holding Try.prog os ⟨#[],#[],[]⟩) #[.agg #[.slice none 0 0,.slice none 0 0,.slice none 0 0],.slice none 0 0] rfl (by kernel_rfl) (by kernel_rfl) (by kernel_rfl)
   (OpenSpec.preRow_of_cond 8 hx (by kernel_rfl) (fun k hk => by cases hk;rfl) (by kernel_rfl) (laidMetH_nil _ _))) ?_
 intro W base args ds gs before hval hW _ hk _ hL _ _
 exact zoj H enc W base args ds gs before hval hW (hk _ rfl)
theorem sound_upto : Rows.SoundUptoSaid :=
 OpenClaim.holds_of_cond 3 Try.f3 rfl rfl rfl rfl rfl rfl rfl ⟨rfl,rfl,rfl,rfl,rfl⟩ rfl rfl rfl rfl rfl (by kernel_rfl) Try.func3 (by kernel_rfl)
  (of_decide_eq_true (by kernel_rfl)) (by unfold Func.isWrapper;first | (rw [if_pos (by decide +kernel)];kernel_rfl) | (rw [if_neg (by decide +kernel)];exact ⟨rfl,rfl⟩))
  (fun os started H enc _ F => by rw [OpenClaim.pre_eq_preRow];exact zok os started H enc F)
#print axioms sound_upto
end
end Go.Proofs.Ytkkekopomiehlab
