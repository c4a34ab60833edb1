import Derived.Test.YtkkekopomiehlaaGreatCLn4
import Derived.Deep.Onto
set_option linter.unusedVariables false
set_option linter.unusedSimpArgs false
set_option maxHeartbeats 40000000
namespace Go.Proofs.YtkkekopomiehlaaGreat
section
set_option maxRecDepth 4000
open Go.RowKit
def rlen (vs : List SvcD) (s : Nat) : Nat:=match vs[s]? with | some v => v.rels.length | none => 0
def zfo (vs : List SvcD) (s : Nat) : List (Nat × Nat):=(List.range (rlen vs s)).map fun r => (s,r)
def zb4 (vs : List SvcD) (s : Nat) : List (Nat × Nat):=(List.range s).flatMap (zfo vs)
def prs (vs : List SvcD) : List (Nat × Nat):=zb4 vs vs.length
theorem zlc (vs : List SvcD) (s : Nat) : zb4 vs (s + 1) = zb4 vs s ++ zfo vs s:=by rw [zb4,zb4,List.range_succ,List.flatMap_append];simp
def prC (l : List (Nat × Nat)) : List Value:=l.flatMap fun p => [.int .i64 p.1,.int .i64 p.2]
theorem zlb (a b : List (Nat × Nat)) : prC (a ++ b) = prC a ++ prC b:=by simp [prC]
theorem zc3 : ∀ (l : List (Nat × Nat)) (i : Nat) (p : Nat × Nat),l[i]? = some p -> (prC l)[i * 2]? = some (.int .i64 p.1) /\ (prC l)[i * 2 + 1]? = some (.int .i64 p.2)
 | [],i,p,h => by simp at h
 | q :: l,0,p,h => by simp at h;subst h;exact ⟨rfl,rfl⟩
 | q :: l,i + 1,p,h => by
  rw [List.getElem?_cons_succ] at h
  have:=zc3 l i p h
  rw [prC,List.flatMap_cons,show (i + 1) * 2 = i * 2 + 1 + 1 by omega]
  exact this
theorem Tryz.infoPair : (Tryz.prog.info? 64).map (fun i => (i.zero,i.size,i.bytes)) = some (some (.agg #[.int .i64 0,.int .i64 0]),2,16):=by kernel_rfl
theorem zpm (f : zae) (sa ta va : Option Addr) (sl sc tl tc vl vc : Nat) (w : World) (hf : FleetAt w sa sl sc ta tl tc va vl vc f) (h3 : f.vs.length <= 3) (hr3 : ∀ v ∈ f.vs,v.rels.length <= 3) :
  Calls Tryz.prog 57 #[.agg #[.slice sa sl sc,.slice ta tl tc,.slice va vl vc]] w fun e W => ∃ v,e = .returned v /\ W.ownsRow w.heap.size 64 2 v (prs f.vs).length (prC (prs f.vs)) /\ Below w.heap.size w W:=by
 have hv1:=hf.v1
 have HV:= zab hf.v3
 have HR3:= zab hr3
 obtain ⟨ii,hii,hz0,hzz1,hzz2⟩:=info_parts Tryz.infoPair
 obtain ⟨ss,ts,vs⟩:=f
 simp only at hv1 HV h3 HR3 ⊢
 clear hf hr3
 obtain ⟨v1a,v1b⟩ : vl <= vs.length /\ vs.length <= vl:=by omega
 clear hv1
 have hB0:=bel1 w (.cells #[.slice sa sl sc,.slice ta tl tc,.slice va vl vc] 26)
 have e0:=box3 w (.slice sa sl sc) (.slice ta tl tc) (.slice va vl vc) 26
 go_enter Tryz.func57,Tryz.ntmps57
 go_wp2_with fail
 go_loopw [3,4] (fun vl' vs' wr => ∃ s : Nat,s <= vl /\ vs' = .int .i64 s /\ Hid ((zb4 vs s).length <= 3 * s) /\ wr.ownsRow (w.heap.size + 1) 64 2 vl' (zb4 vs s).length (prC (zb4 vs s)) /\ Below (w.heap.size + 1) (w.alloc (.cells #[.slice sa sl sc,.slice ta tl tc,.slice va vl vc] 26)) wr) (fun _ s _ => vl - (intOf s).toNat)
 case atStart => exact ⟨0,Nat.zero_le _,rfl,(by show _ <= _;simp [zb4]),World.ownsRow_nil _ _ _ _,Below.refl _ _⟩
 case round =>
  obtain ⟨s,hs,rfl,hle,hown,hb⟩:=hrel
  obtain ⟨f0,f1,f2⟩:=zak (hb.mono (by simp)) e0
  have hfl : w.heap.size < wr.heap.size:=zaf f0
  have hx0 := znn s
  by_cases hlt : s < vl
  ·obtain ⟨v,hv⟩ : ∃ v,vs[s]? = some v:=⟨vs[s]'(by omega),List.getElem?_eq_getElem (by omega)⟩
   obtain ⟨b,o,ra,rl,rc,rfl,_,_,_,c3,hrel⟩:=HV.out s v hv
   have hrl:=hrel.1
   have hrl3:=HR3.out v (List.mem_of_getElem? hv)
   have hrn : rlen vs s = rl:=by unfold rlen;rw [hv];exact hrl.symm
   have c3w:=c3
   have c3:=zaa (hB0.trans (hb.mono (by simp))) c3
   have hx1 : (s : Int) < (vl : Int):=by omega
   have HRN:= zab hrn
   have hrl3' : rl <= 3:=by omega
   clear hrel hrl hrl3 hrn hv
   go_wp2_with fail
   go_loopw [3,5] (fun vl' vr wr => ∃ r : Nat,r <= rl /\ vr = .int .i64 r /\ wr.ownsRow (w.heap.size + 1) 64 2 vl' ((zb4 vs s).length + r) (prC (zb4 vs s ++ (List.range r).map fun r => (s,r))) /\ Below (w.heap.size + 1) (w.alloc (.cells #[.slice sa sl sc,.slice ta tl tc,.slice (some ⟨b,o,none⟩) vl vc] 26)) wr) (fun _ r _ => rl - (intOf r).toNat)
   case atStart => exact ⟨0,Nat.zero_le _,rfl,by simpa using hown,hb⟩
   case round =>
    obtain ⟨r,hr,rfl,hown2,hb2⟩:=hrel
    have hlow : ∀ k,u3.ownBlock = some k -> w.heap.size + 1 <= k /\ k < wr.heap.size:=fun k h => hown2.lt k h
    have z2:=hb2.size
    rw [za2] at z2
    obtain ⟨f0,f1,f2⟩:=zak (hb2.mono (by simp)) e0
    have c3:=zaa (hB0.trans (hb2.mono (by simp))) c3w
    have hfl : w.heap.size < wr.heap.size:=zaf f0
    have hy0 := znn r
    by_cases hrl : r < rl
    ·have hleo:=hle.out
     go_wp2_with (at_builtin;refine wpList_append_lies _ rfl _ _ _ rfl (w.heap.size + 1) 64 ii _ 2 16 Tryz.underlying61 hii hz0 hzz1 hzz2 rfl (by omega) u3 ((zb4 vs s).length + r) _ rfl (hown2.alloc _) ⟨wr.heap.size,0,none⟩ 1 1 [.int .i64 s,.int .i64 r] rfl rfl (World.news_of_block (heap_alloc_new wr _)) (by simp [Value.oneCell']) (by omega) (by unfold maxLen;omega) (by omega) (by simp;omega) (wr.heap.size + 1) (by simp) ?_;intro g' cap' w3 hown' hgrow hat hlt3)
     go_roundw
     case rel =>
      refine ⟨r + 1,by omega,by go_num,?_,Below.grown (hb2.alloc z2 _) hgrow (by simp;omega) (fun k hk => (hlow k hk).1)⟩
      rw [List.range_succ,List.map_append,<- List.append_assoc,zlb,<- Nat.add_assoc];exact hown'
     case measure => simp [intOf];omega
    ·have hre : r = rl:=by omega
     subst hre
     go_wp2_with fail
     go_roundw
     case rel =>
      refine ⟨s + 1,by omega,by go_num,?_,?_,hb2⟩
      ·show _ <= _
       have:=hle.out
       rw [zlc,List.length_append,zfo,List.length_map,List.length_range,HRN.out];omega
      ·rw [zlc,List.length_append,zfo,List.length_map,List.length_range,HRN.out];exact hown2
     case measure => simp [intOf];omega
  ·have hse : s = vl:=by omega
   subst hse
   go_wp2_with fail
   go_ret
   refine ⟨u3,rfl,?_,hB0.trans (hb.mono (by simp))⟩
   have hvv : s = vs.length:=by omega
   have:=World.ownsRow.mono hown (base':=w.heap.size) (by omega)
   unfold prs
   rw [<- hvv];exact this
end
end Go.Proofs.YtkkekopomiehlaaGreat
