import Derived.Test.YtkkekopomiehlabHSp7
set_option linter.unusedVariables false
set_option linter.unusedSimpArgs false
set_option maxHeartbeats 40000000
set_option maxRecDepth 4000
namespace Go.Proofs.Ytkkekopomiehlab
section
set_option maxRecDepth 100000
open Go.RowKit
def sch0 : ByteArray:=⟨#[123,97,58,105,125]⟩
def sch1 : ByteArray:=⟨#[123,97,58,108,44,98,58,115,61,34,45,34,125]⟩
def flt0 : zad:=⟨[sch0,sch1],[1],[⟨1,0,1,[[⟨0,0,-1⟩],[⟨0,1,-1⟩]]⟩,⟨1,0,1,[[⟨0,-1,0⟩],[⟨0,-1,1⟩]]⟩]⟩
theorem ord0 : ordB flt0 = true:=by decide +kernel
theorem saf0 : zak flt0 [(1,1),(0,1)] = (2,0):=by decide +kernel
theorem snd0 : sndB (zac flt0) = true:=by decide +kernel
theorem tou0 : (touS (zac flt0) 6).length = 6:=by decide +kernel
theorem zo6 : zap (zac flt0) = touS (zac flt0) 6:=(zcd (za1 _) tou0).symm
theorem t01 : ((touS (zac flt0) 6)[1]?.map TS.fr) = some 0 /\ ((touS (zac flt0) 6)[1]?.map TS.to) = some 4 /\ ((touS (zac flt0) 6)[2]?.map TS.fr) = some 1 /\ ((touS (zac flt0) 6)[2]?.map TS.to) = some 1:=by decide +kernel
theorem t02 : ((touS (zac flt0) 6)[0]?.map fun t => decide (t.now.has = (zac flt0).wnt)) = some false /\ ((touS (zac flt0) 6)[1]?.map fun t => decide (t.now.has = (zac flt0).wnt)) = some false /\ ((touS (zac flt0) 6)[2]?.map fun t => decide (t.now.has = (zac flt0).wnt)) = some true:=by decide +kernel
theorem znu (f0 : zad) (hf : f0 = flt0) : PlanIs f0 512 [(1,1),(0,1)] 0:=by
 subst hf
 unfold PlanIs
 rw [if_pos ord0,if_neg (by decide),if_pos snd0,zo6,if_neg (by rw [tou0];decide)]
 right
 refine ⟨?_,rfl⟩
 generalize hL : touS (zac flt0) 6 = L
 have h1:=t01
 have h2:=t02
 rw [hL] at h1 h2
 obtain ⟨a1,a2,a3,a4⟩:=h1
 obtain ⟨b0,b1,b2⟩:=h2
 generalize (zac flt0).wnt = wn at b0 b1 b2 ⊢
 clear hL
 obtain ⟨x1,hx1,f1⟩:=Option.map_eq_some_iff.1 a1
 obtain ⟨x2,hx2,f2⟩:=Option.map_eq_some_iff.1 a3
 rw [hx1] at a2 b1
 rw [hx2] at a4 b2
 simp only [Option.map_some,Option.some.injEq,decide_eq_true_eq,decide_eq_false_iff_not] at a2 a4 b1 b2
 refine ⟨2,2,fun t => t,x2,hx2,b2,fun i s hi hs => ?_,⟨rfl,rfl,fun t ht => ?_⟩,?_⟩
 ·have : i = 0 \/ i = 1:=by omega
  rcases this with rfl | rfl
  ·rw [hs] at b0
   simpa using b0
  ·rw [hx1] at hs;cases hs;exact b1
 ·have : t = 0 \/ t = 1:=by omega
  rcases this with rfl | rfl
  ·exact ⟨by omega,by omega,x1,hx1,f1⟩
  ·exact ⟨by omega,by omega,x2,hx2,f2⟩
 ·unfold wayL wayM
  simp [List.range_succ,hx1,hx2,mvOf,a2,a4]
theorem zn4 : ∃ f0 : zad,f0 = flt0 /\ zak f0 [(1,1),(0,1)] = (2,0) /\ PlanIs f0 512 [(1,1),(0,1)] 0:=by
 obtain ⟨f0,hf⟩ : ∃ f0,f0 = flt0:=⟨_,rfl⟩
 refine ⟨f0,hf,?_,znu f0 hf⟩
 rw [hf];exact saf0
end
section
open Go.RowKit
end
section
open Go.RowKit
end
section
open Go.RowKit
def rdB (ss : List ByteArray) (p q : PinD) : Bool:=(decide (p.w < 0) || decide (q.r < 0)) || tabI ss p.w.toNat q.r.toNat
end
section
open Go.RowKit
def meB (ss : List ByteArray) (ts : List Int) (kept : Bool) (p q : PinD) : Bool:=(p.t != q.t) || (kept && (ts.getD p.t.toNat 0 != 0)) || (rdB ss p q && rdB ss q p)
def metB (ss : List ByteArray) (ts : List Int) (kept : Bool) (ps qs : List PinD) : Bool:=ps.all fun p => qs.all (meB ss ts kept p)
end
section
open Go.RowKit
end
section
open Go.RowKit
def rlen (vs : List SvcD) (s : Nat) : Nat:=match vs[s]? with | some v => v.rels.length | none => 0
def znw (vs : List SvcD) (s : Nat) : List (Nat × Nat):=(List.range (rlen vs s)).map fun r => (s,r)
def znx (vs : List SvcD) (s : Nat) : List (Nat × Nat):=(List.range s).flatMap (znw vs)
def prs (vs : List SvcD) : List (Nat × Nat):=znx vs vs.length
end
section
open Go.RowKit
def eB (f : zad) (x y : Nat) : Bool:=metB f.ss f.ts false (plOf f x) (plOf f y)
def kB (f : zad) (x y : Nat) : Bool:=metB f.ss f.ts true (plOf f x) (plOf f y)
def nowI (f : zad) (s : Nat) : Int:=match f.vs[s]? with | some v => v.now | none => 0
def mvAt (ms : List (Int × Int)) (j : Nat) : Int × Int:=ms.getD j (-1,0)
def rmB (f : zad) (ms : List (Int × Int)) (j : Nat) : Bool:=(numB (mvAt ms j).1 f.vs.length && numB (mvAt ms j).2 (rlen f.vs (mvAt ms j).1.toNat)) && !(hasI (nowI f (mvAt ms j).1.toNat) ms (mvAt ms j).1 j == (mvAt ms j).2)
def plc (m : Int × Int) : Nat:=m.1.toNat * 3 + m.2.toNat
theorem zi6 {vs : List SvcD} {s : Nat} {v : SvcD} (h : vs[s]? = some v) : rlen vs s = v.rels.length:=by unfold rlen;rw [h]
theorem zh3 {f : zad} {s : Nat} {v : SvcD} (h : f.vs[s]? = some v) : nowI f s = v.now:=by unfold nowI;rw [h]
theorem zco (f : zad) (x y : Nat) (hy : y < 3) : thB f (x * 3 + y) = (decide (x < f.vs.length) && decide (y < rlen f.vs x)):=by
 unfold thB rlen
 rw [show (x * 3 + y) / 3 = x by omega,show (x * 3 + y) % 3 = y by omega]
 cases h : f.vs[x]? with
 | none => simp
 | some v => have:=(List.getElem?_eq_some_iff.1 h).1;simp [this]
theorem zfm {f : zad} (p : Nat) : fsB f p = (thB f p && (nowI f (p / 3) == ((p % 3 : Nat) : Int))):=by
 unfold fsB thB nowI
 cases h : f.vs[p / 3]? with
 | none => simp
 | some v =>
  simp only
  rw [show (((p % 3 : Nat) : Int) == v.now) = (v.now == ((p % 3 : Nat) : Int)) from Bool.beq_comm]
theorem Ord.rl {f : zad} (h : Ord f) {s : Nat} (hs : s < f.vs.length) : 1 <= rlen f.vs s /\ rlen f.vs s <= 3 /\ 0 <= nowI f s /\ nowI f s < rlen f.vs s:=by
 obtain ⟨v,hv⟩ : ∃ v,f.vs[s]? = some v:=⟨f.vs[s],List.getElem?_eq_getElem hs⟩
 have:=h.parts (List.mem_of_getElem? hv)
 rw [zi6 hv,zh3 hv]
 exact ⟨this.1,this.2.1,this.2.2.1.1,this.2.2.1.2⟩
structure St (f : zad) (ms : List (Int × Int)) (j : Nat) (S : SiD) : Prop where
 ok : S.ok
 has : ∀ p,p < 9 -> S.has.getD p false = (thB f p && (hasI (nowI f (p / 3)) ms ((p / 3 : Nat) : Int) j == ((p % 3 : Nat) : Int)))
 had : ∀ p,p < 9 -> S.had.getD p false = (fsB f p || (List.range j).any fun i => plc (mvAt ms i) == p)
theorem St.zero {f : zad} {ms : List (Int × Int)} : St f ms 0 (begD (zac f)):=by
 refine ⟨zbx (za1 f),fun p hp => ?_,fun p hp => ?_⟩
 ·show (zac f).fst.getD p false = _
  rw [zeb f hp,zfm];rfl
 ·show (zac f).fst.getD p false = _
  rw [zeb f hp];simp
theorem zdt {f : zad} {ms : List (Int × Int)} {j : Nat} (ho : Ord f) (h : rmB f ms j = true) : ∃ x y : Nat,mvAt ms j = (((x : Nat) : Int),((y : Nat) : Int)) /\ x < f.vs.length /\ y < rlen f.vs x /\ x < 3 /\ y < 3 /\ hasI (nowI f x) ms x j ≠ y:=by
 unfold rmB numB at h
 simp only [Bool.and_eq_true,decide_eq_true_eq,Bool.not_eq_true'] at h
 obtain ⟨⟨⟨a1,a2⟩,a3,a4⟩,a5⟩:=h
 have h3:=ho.vs3
 have hr:=(ho.rl (s:=(mvAt ms j).1.toNat) (by omega)).2.1
 refine ⟨(mvAt ms j).1.toNat,(mvAt ms j).2.toNat,?_,by omega,by omega,by omega,by omega,?_⟩
 ·rw [Int.toNat_of_nonneg a1,Int.toNat_of_nonneg a3]
 ·rw [Int.toNat_of_nonneg a1,Int.toNat_of_nonneg a3]
  intro hc;rw [hc] at a5;simp at a5
theorem zdr {x y : Nat} (hx : x < 3) (hy : y < 3) : plI (x : Int) (y : Int) = ((x * 3 + y : Nat) : Int):=by
 unfold plI
 rw [show numB (x : Int) 3 = true by unfold numB;simp;omega,show numB (y : Int) 3 = true by unfold numB;simp;omega]
 simp
theorem zee {l : List Bool} {i p : Nat} {b : Bool} (hi : i < l.length) : (l.set i b).getD p false = if i = p then b else l.getD p false:=by
 rw [List.getD,List.getElem?_set]
 by_cases h : i = p
 ·rw [if_pos h,if_pos hi,if_pos h];rfl
 ·rw [if_neg h,if_neg h];rfl
theorem zhp {now : Int} {ms : List (Int × Int)} {s : Int} {j : Nat} : hasI now ms s (j + 1) = if (mvAt ms j).1 = s then (mvAt ms j).2 else hasI now ms s j:=rfl
theorem St.step {f : zad} {ms : List (Int × Int)} {j : Nat} {S : SiD} (ho : Ord f) (h : St f ms j S) (hm : rmB f ms j = true) : St f ms (j + 1) (aft S (plI (mvAt ms j).1 (mvAt ms j).2)):=by
 obtain ⟨x,y,hxy,hx,hy,hx3,hy3,hne⟩:=zdt ho hm
 rw [hxy]
 simp only
 rw [zdr hx3 hy3]
 refine ⟨zcs h.ok _,fun p hp => ?_,fun p hp => ?_⟩
 ·unfold aft
  rw [if_pos (by omega),Int.toNat_natCast]
  unfold aftD
  simp only
  rw [zee (by simp;omega),zdv _ _ hp,zhp,hxy]
  simp only
  by_cases h1 : p / 3 = x
  ·rw [if_pos (show ((x : Nat) : Int) = ((p / 3 : Nat) : Int) by omega)]
   by_cases h2 : x * 3 + y = p
   ·rw [if_pos h2,<- h2,zco f x y hy3,show (x * 3 + y) % 3 = y by omega];simp [hx,hy]
   ·rw [if_neg h2,if_pos (by omega),show (((y : Nat) : Int) == ((p % 3 : Nat) : Int)) = false by simp;omega];simp
  ·rw [if_neg (by omega),if_neg (by omega),if_neg (by omega)];exact h.has p hp
 ·unfold aft
  rw [if_pos (by omega),Int.toNat_natCast]
  unfold aftD
  simp only
  rw [zee (by rw [h.ok.2];omega),List.range_succ,List.any_append,h.had p hp,show ([j].any fun i => plc (mvAt ms i) == p) = (x * 3 + y == p) by simp [plc,hxy]]
  by_cases h2 : x * 3 + y = p
  ·rw [if_pos h2];simp [h2]
  ·rw [if_neg h2]
   rw [show (x * 3 + y == p) = false by simp [h2]]
   rw [Bool.or_false]
theorem zmd {f : zad} {ms : List (Int × Int)} {j : Nat} {S : SiD} (ho : Ord f) (h : St f ms j S) : mvB (zac f) S (plI (mvAt ms j).1 (mvAt ms j).2) = rmB f ms j:=by
 have h3:=ho.vs3
 by_cases hin : (0 <= (mvAt ms j).1 /\ (mvAt ms j).1 < 3) /\ 0 <= (mvAt ms j).2 /\ (mvAt ms j).2 < 3
 ·obtain ⟨x,hx⟩ : ∃ x : Nat,(mvAt ms j).1 = x:=⟨(mvAt ms j).1.toNat,by omega⟩
  obtain ⟨y,hy⟩ : ∃ y : Nat,(mvAt ms j).2 = y:=⟨(mvAt ms j).2.toNat,by omega⟩
  unfold mvB rmB
  rw [hx,hy] at hin ⊢
  rw [zdr (by omega) (by omega),Int.toNat_natCast,Int.toNat_natCast,zg0 f (by omega),h.has _ (by omega),zco f x y (by omega),show (x * 3 + y) / 3 = x by omega,show (x * 3 + y) % 3 = y by omega]
  rw [show numB ((x * 3 + y : Nat) : Int) 9 = true by unfold numB;simp;omega,show numB (x : Int) f.vs.length = decide (x < f.vs.length) by unfold numB;simp,show numB (y : Int) (rlen f.vs x) = decide (y < rlen f.vs x) by unfold numB;simp]
  cases decide (x < f.vs.length) <;> cases decide (y < rlen f.vs x) <;> simp
 ·have e1 : plI (mvAt ms j).1 (mvAt ms j).2 = -1:=by
   unfold plI
   rw [if_neg]
   unfold numB
   simp only [Bool.and_eq_true,decide_eq_true_eq]
   exact hin
  rw [e1]
  have e2 : mvB (zac f) S (-1) = false:=by unfold mvB numB;simp
  rw [e2]
  cases hr : rmB f ms j with
  | false => rfl
  | true =>
   exfalso
   obtain ⟨x,y,hxy,_,_,hx3,hy3,_⟩:=zdt ho hr
   rw [hxy] at hin
   simp only at hin
   omega
theorem zmf {c : ChD} {S : SiD} {ms : List (Int × Int)} {j : Nat} (hj : j < ms.length) : ms.drop j = mvAt ms j :: ms.drop (j + 1):=by
 rw [List.drop_eq_getElem_cons hj]
 simp [mvAt,List.getD,List.getElem?_eq_getElem hj]
theorem zh0 {f : zad} {ms : List (Int × Int)} (ho : Ord f) : ∀ (n j : Nat) (S : SiD),n = ms.length - j -> j <= ms.length -> St f ms j S -> (∀ i,i < j -> rmB f ms i = true) -> mvsB (zac f) S (ms.drop j) = (List.range ms.length).all (rmB f ms)
 | 0,j,S,hn,hj,hS,hall => by
  obtain rfl : j = ms.length:=by omega
  rw [List.drop_length,mvsB,eq_comm,List.all_eq_true]
  exact fun i hi => hall i (List.mem_range.1 hi)
 | n + 1,j,S,hn,hj,hS,hall => by
  rw [zmf (c:=zac f) (S:=S) (by omega),mvsB,zmd ho hS]
  cases hr : rmB f ms j with
  | false => rw [Bool.false_and];exact (ze6 (show j < ms.length by omega) hr).symm
  | true =>
   rw [Bool.true_and]
   exact zh0 ho n (j + 1) _ (by omega) (by omega) (hS.step ho hr) (fun i hi => by
    rcases Nat.lt_succ_iff_lt_or_eq.1 hi with h | h
    ·exact hall i h
    ·rw [h];exact hr)
end
section
open Go.RowKit
end
section
open Go.RowKit
end
section
open Go.RowKit
end
section
open Go.RowKit
end
section
open Go.RowKit
def RwB (w : World) (u : Value) (r : List Bool) : Prop:=∃ (g c : Nat) (cs : List Value),u = .slice (some ⟨g,0,none⟩) r.length c /\ RowIs w g 4 cs /\ cs.take r.length = r.map Value.bool
theorem RwB.keep {w w' : World} {u : Value} {r : List Bool} (h : RwB w u r) (hb : Below w.heap.size w w') : RwB w' u r:=by
 obtain ⟨g,c,cs,h1,h2,h3⟩:=h
 exact ⟨g,c,cs,h1,h2.keep hb,h3⟩
def RwsB (w : World) (us : List Value) (M : List (List Bool)) : Prop:=∀ (k : Nat) (u : Value),us[k]? = some u -> ∃ r,M[k]? = some r /\ RwB w u r
theorem RwsB.keep {w w' : World} {us : List Value} {M : List (List Bool)} (h : RwsB w us M) (hb : Below w.heap.size w w') : RwsB w' us M:=fun k u hu => by
 obtain ⟨r,h1,h2⟩:=h k u hu;exact ⟨r,h1,h2.keep hb⟩
theorem RwsB.snoc {w w' : World} {us : List Value} {M : List (List Bool)} {o : Obj} {B n size : Nat} {vt u : Value} {r : List Bool} {xs : List Value} (h : RwsB w us M) (hu : RwB w u r) (hM : M[us.length]? = some r) (hown : w.ownsRow B 61 size vt n xs) (hg : (w.alloc o).grownBy w' vt.ownBlock) : RwsB w' (us ++ [u]) M:=fun k x hx => by
 have key : ∀ {u r},RwB w u r -> RwB w' u r:=fun hh => by
  obtain ⟨g,c,cs,h1,h2,h3⟩:=hh
  exact ⟨g,c,cs,h1,(h2.keep (bel1 _ _)).grown hg (zmy hown h2 (by decide)),h3⟩
 by_cases hk : k < us.length
 ·rw [List.getElem?_append_left hk] at hx
  obtain ⟨r',h1,h2⟩:=h k x hx
  exact ⟨r',h1,key h2⟩
 ·have hk2 : k = us.length:=by have:=(List.getElem?_eq_some_iff.1 hx).1;simp at this;omega
  subst hk2
  simp at hx;subst hx
  exact ⟨r,hM,key hu⟩
end
section
open Go.RowKit
def intC (l : List Int) : List Value:=l.map (.int .i64)
def NowL (w : World) (B g cap n : Nat) (l : List Int) : Prop:=w.ownsRow B 3 1 (.slice (some ⟨g,0,none⟩) n cap) n (intC l)
theorem NowL.keep {w w' : World} {B g cap n : Nat} {l : List Int} (h : NowL w B g cap n l) (hb : Below w.heap.size w w') : NowL w' B g cap n l:=zci h hb
theorem NowL.cell {w : World} {B g cap n : Nat} {l : List Int} (h : NowL w B g cap n l) {i : Nat} {x : Int} (hi : l[i]? = some x) : w.cell? ⟨g,i,none⟩ = some (.int .i64 x):=by
 have hl:=h.1
 have:=(List.getElem?_eq_some_iff.1 hi).1
 rw [World.ownsRow.cellAt h _ (by simp [intC] at hl;omega)]
 unfold intC;rw [List.getElem?_map,hi];rfl
theorem Try.infoIntK : (Try.prog.info? 3).map (fun i => (i.zero,i.size,i.bytes)) = some (some (.int .i64 0),1,8):=by kernel_rfl
theorem zmi (f : zad) (ho : Ord f) (sa ta va : Option Addr) (sl sc tl tc vl vc : Nat) (w : World) (hf : FleetAt w sa sl sc ta tl tc va vl vc f) :
  Calls Try.prog 24 #[.agg #[.slice sa sl sc,.slice ta tl tc,.slice va vl vc]] w fun e W => ∃ g c,e = .returned (.slice (some ⟨g,0,none⟩) f.vs.length c) /\ NowL W w.heap.size g c f.vs.length ((List.range f.vs.length).map (nowI f)) /\ Below w.heap.size w W:=by
 have f0:=box3 w (.slice sa sl sc) (.slice ta tl tc) (.slice va vl vc) 26
 have hb0:=bel1 w (.cells #[.slice sa sl sc,.slice ta tl tc,.slice va vl vc] 26)
 have h1:=ho.vs1
 have h3:=ho.vs3
 have hv1:=hf.v1
 obtain ⟨v1a,v1b⟩ : vl <= f.vs.length /\ f.vs.length <= vl:=by omega
 obtain ⟨iI,hiI,zI0,zI1,zI2⟩:=info_parts Try.infoIntK
 have HF:= zab hf
 clear hf hv1 ho
 go_enter Try.func24,Try.ntmps24
 go_wp2_with fail
 go_loopw [3,4] (fun vt vi wr => ∃ i : Nat,i <= vl /\ vi = .int .i64 i /\ wr.ownsRow w.heap.size 3 1 vt i (intC ((List.range i).map (nowI f))) /\ Hid (∀ k,vt.ownBlock = some k -> w.heap.size + 1 <= k) /\ Below (w.heap.size + 1) (w.alloc (.cells #[.slice sa sl sc,.slice ta tl tc,.slice va vl vc] 26)) wr) (fun _ i _ => vl - (intOf i).toNat)
 case atStart => exact ⟨0,Nat.zero_le _,rfl,World.ownsRow_nil _ _ _ _,(fun k h => by cases h),Below.refl _ _⟩
 case round =>
  obtain ⟨i,hi,rfl,hown,hlo,hb⟩:=hrel
  rename World => w5
  have hb' : Below (w.alloc (.cells #[.slice sa sl sc,.slice ta tl tc,.slice va vl vc] 26)).heap.size (w.alloc (.cells #[.slice sa sl sc,.slice ta tl tc,.slice va vl vc] 26)) w5:=hb.mono (by simp)
  obtain ⟨q0,q1,q2⟩:=zag hb' f0
  have hbw:=thn3 hb0 hb'
  have z5:=zaj q0
  have hx0 := znn i
  have HOWN:= zab hown
  have HB:= zab hb
  by_cases hlt : i < vl
  ·obtain ⟨v,hv⟩ : ∃ v,f.vs[i]? = some v:=⟨f.vs[i]'(by omega),List.getElem?_eq_getElem _⟩
   obtain ⟨bv,ov,ra,rl,rc,rfl,_,c1,_,_,_⟩:=HF.out.v3 i v hv
   have c1:=zaa hbw c1
   have lc:=zaj c1
   rw [<- zh3 hv] at c1
   have hx1 : (i : Int) < (vl : Int):=by omega
   have hn1 : (List.range (i + 1)).map (nowI f) = (List.range i).map (nowI f) ++ [nowI f i]:=by rw [List.range_succ,List.map_append];rfl
   have HN1:= zab hn1
   generalize nowI f i = x at c1 HN1
   clear hown hb hb' hv hn1
   go_wp2_with (at_builtin;refine wpList_append_lies _ rfl _ _ _ rfl w.heap.size 3 iI _ 1 8 Try.underlying64 hiI zI0 zI1 zI2 rfl (by omega) u3 i _ rfl (HOWN.out.alloc _) ⟨w5.heap.size,0,none⟩ 1 1 [.int .i64 x] rfl rfl (World.news_of_block (heap_alloc_new w5 _)) (by simp [Value.oneCell']) (by omega) (by unfold maxLen;omega) (by omega) (by simp;omega) (w5.heap.size + 1) (by simp) ?_;intro g2 cap2 w8 hown2 hgrow2 hat2 hlt2)
   go_roundw
   case rel =>
    refine ⟨i + 1,by omega,by go_num,by rw [HN1.out,intC,List.map_append];exact hown2,fun k hk => ?_,?_⟩
    ·have e : g2 = k:=by simpa [Value.ownBlock] using hk
     subst e
     rcases hat2 with h | h
     ·exact hlo.out g2 h
     ·omega
    ·exact Below.grown (HB.out.alloc (by omega) _) hgrow2 (by simp;omega) (fun k hk => hlo.out k hk)
   case measure => simp [intOf];omega
  ·obtain rfl : vl = i:=by omega
   have hvv : f.vs.length = vl:=by omega
   obtain ⟨g,c,hu,hN⟩ : ∃ g c,u3 = .slice (some ⟨g,0,none⟩) f.vs.length c /\ NowL w5 w.heap.size g c f.vs.length ((List.range f.vs.length).map (nowI f)):=by
    have h:=hown
    rw [<- hvv] at h
    obtain ⟨hl,⟨_,h0⟩ | ⟨g,cap,cur,hu,hr⟩⟩:=h
    ·omega
    ·exact ⟨g,cap,hu,hl,.inr ⟨g,cap,cur,rfl,hr⟩⟩
   subst hu
   have HN:= zab hN
   clear hN hown hb hvv HOWN hlo
   go_wp2_with fail
   go_ret
   exact ⟨g,c,rfl,HN.out,hbw⟩
def cfgL (f : zad) (ms : List (Int × Int)) (j : Nat) : List Int:=(List.range f.vs.length).map fun s => hasI (nowI f s) ms s j
theorem zea {f : zad} {ms : List (Int × Int)} {j s : Nat} (hs : s < f.vs.length) : (cfgL f ms j)[s]? = some (hasI (nowI f s) ms s j):=by
 unfold cfgL;rw [List.getElem?_map,List.getElem?_range hs];rfl
end
section
open Go.RowKit
theorem zbs (w : World) (o : Obj) : (w.alloc o).heap[w.heap.size]? = some o:=by show (w.heap.push o)[w.heap.size]? = some o;simp
theorem zf4 (n : Nat) (hn : 0 < n) (hn2 : n <= 9) (w : World) : Calls Try.prog 30 #[.int .i64 0,.int .i64 n] w fun e W => e = .returned (.int .i64 0) /\ Below w.heap.size w W:=by
 go_enter Try.func30,Try.ntmps30
 go_wp2_with fail
 go_ret
 exact ⟨rfl,Below.refl _ _⟩
theorem zer (a b : Int) (w : World) : Calls Try.prog 33 #[.int .i64 a,.int .i64 b] w fun e W => ∃ g,e = .returned (.agg #[.slice (some ⟨g,0,none⟩) 1 1]) /\ RowIs W g 108 [.int .i64 0,.int .i64 a,.int .i64 b] /\ Below w.heap.size w W:=by
 go_enter Try.func33,Try.ntmps33
 go_wp2_with fail
 refine bodyPost_ret (v:=.agg #[.slice (some ⟨w.heap.size + 1,0,none⟩) 1 1]) (by simp [results,Try.results33,go_sem]) rfl ?_
 refine ⟨w.heap.size + 1,rfl,?_,thn3 (bel1 _ _) (bel1 _ _)⟩
 have:=zbs (w.alloc (.cells #[.slice (some ⟨w.heap.size + 1,0,none⟩) 1 1] 79)) (.cells #[.int .i64 0,.int .i64 a,.int .i64 b] 108)
 rw [show (w.alloc (.cells #[.slice (some ⟨w.heap.size + 1,0,none⟩) 1 1] 79)).heap.size = w.heap.size + 1 by simp] at this
 exact this
theorem zp1 (sz : Int) (w : World) : Calls Try.prog 31 #[.int .i64 sz] w fun e W => ∃ g p1 p2,e = .returned (.agg #[.int .i64 sz,.int .i64 0,.int .i64 1,.slice (some ⟨g,0,none⟩) 2 2]) /\ RowIs W g 79 [.slice (some ⟨p1,0,none⟩) 1 1,.slice (some ⟨p2,0,none⟩) 1 1] /\ RowIs W p1 108 [.int .i64 0,.int .i64 0,.int .i64 (-1)] /\ RowIs W p2 108 [.int .i64 0,.int .i64 1,.int .i64 (-1)] /\ Below w.heap.size w W:=by
 have c1:=fun W => zer 0 (-1) W
 have c2:=fun W => zer 1 (-1) W
 have z0 : RowIs (w.alloc (.cells #[.int .i64 0,.int .i64 0,.int .i64 0,.slice none 0 0] 60)) w.heap.size 60 [.int .i64 0,.int .i64 0,.int .i64 0,.slice none 0 0]:=zbs _ _
 have Z0:= zab z0
 clear z0
 go_enter Try.func31,Try.ntmps31
 go_wp2_with (first
  | (go_at_call 33;have hq:=hb1;refine (c2 _).mono ?_;rintro e w2 ⟨p2,rfl,hr2,hb2⟩;have HR1:=(zab (hr1.out.keep hb2));have HR2:= zab hr2;have Z2:=(zab (((Z0.out.keep hb1).keep hb2).keep (bel1 w2 (.cells #[.slice (some ⟨p1,0,none⟩) 1 1,.slice (some ⟨p2,0,none⟩) 1 1] 79))));have y0:=Z2.out.cell (j:=0) rfl;have y1:=Z2.out.cell (j:=1) rfl;have y2:=Z2.out.cell (j:=2) rfl;have y3:=Z2.out.cell (j:=3) rfl;have x0:=Z2.out.frozen 0;have x1:=Z2.out.frozen 1;have x2:=Z2.out.frozen 2;have x3:=Z2.out.frozen 3)
  | (go_at_call 33;refine (c1 _).mono ?_;rintro e w1 ⟨p1,rfl,hr1,hb1⟩;have hr1:=(zab hr1)))
 have Z3:=(((Z2.out.set 0 (.int .i64 sz)).set 1 (.int .i64 0)).set 2 (.int .i64 1)).set 3 (.slice (some ⟨w2.heap.size,0,none⟩) 2 2)
 have k0:=Z3.cell (j:=0) rfl
 have k1:=Z3.cell (j:=1) rfl
 have k2:=Z3.cell (j:=2) rfl
 have k3:=Z3.cell (j:=3) rfl
 have hB2:=thn3 (thn3 (thn3 (bel1 w _) hb1) hb2) (bel1 w2 (.cells #[.slice (some ⟨p1,0,none⟩) 1 1,.slice (some ⟨p2,0,none⟩) 1 1] 79))
 have lz:=((Z0.out.keep hb1).keep hb2).lt
 have n1:=(HR1.out.keep (bel1 w2 (.cells #[.slice (some ⟨p1,0,none⟩) 1 1,.slice (some ⟨p2,0,none⟩) 1 1] 79))).ne Z2.out (by decide)
 have n2:=(HR2.out.keep (bel1 w2 (.cells #[.slice (some ⟨p1,0,none⟩) 1 1,.slice (some ⟨p2,0,none⟩) 1 1] 79))).ne Z2.out (by decide)
 refine bodyPost_ret (v:=.agg #[.int .i64 sz,.int .i64 0,.int .i64 1,.slice (some ⟨w2.heap.size,0,none⟩) 2 2]) (by simp [results,Try.results31,go_sem,k0,k1,k2,k3]) rfl ?_
 refine ⟨w2.heap.size,p1,p2,rfl,?_,?_,?_,(((hB2.setCell (Nat.le_refl _) _).setCell (Nat.le_refl _) _).setCell (Nat.le_refl _) _).setCell (Nat.le_refl _) _⟩
 ·have hne : (⟨w.heap.size,0,none⟩ : Addr).block ≠ w2.heap.size:=by show w.heap.size ≠ _;omega
  exact ((((show RowIs (w2.alloc (.cells #[.slice (some ⟨p1,0,none⟩) 1 1,.slice (some ⟨p2,0,none⟩) 1 1] 79)) w2.heap.size 79 _ from zbs _ _).setOther (by exact hne) _).setOther (by exact hne) _).setOther (by exact hne) _).setOther (by exact hne) _
 ·exact ((((HR1.out.keep (bel1 w2 (.cells #[.slice (some ⟨p1,0,none⟩) 1 1,.slice (some ⟨p2,0,none⟩) 1 1] 79))).setOther (by exact n1.symm) _).setOther (by exact n1.symm) _).setOther (by exact n1.symm) _).setOther (by exact n1.symm) _
 ·exact ((((HR2.out.keep (bel1 w2 (.cells #[.slice (some ⟨p1,0,none⟩) 1 1,.slice (some ⟨p2,0,none⟩) 1 1] 79))).setOther (by exact n2.symm) _).setOther (by exact n2.symm) _).setOther (by exact n2.symm) _).setOther (by exact n2.symm) _
theorem zn1 (sz : Int) (w : World) : Calls Try.prog 32 #[.int .i64 sz] w fun e W => ∃ g p1 p2,e = .returned (.agg #[.int .i64 sz,.int .i64 0,.int .i64 1,.slice (some ⟨g,0,none⟩) 2 2]) /\ RowIs W g 79 [.slice (some ⟨p1,0,none⟩) 1 1,.slice (some ⟨p2,0,none⟩) 1 1] /\ RowIs W p1 108 [.int .i64 0,.int .i64 (-1),.int .i64 0] /\ RowIs W p2 108 [.int .i64 0,.int .i64 (-1),.int .i64 1] /\ Below w.heap.size w W:=by
 have c1:=fun W => zer (-1) 0 W
 have c2:=fun W => zer (-1) 1 W
 have z0 : RowIs (w.alloc (.cells #[.int .i64 0,.int .i64 0,.int .i64 0,.slice none 0 0] 60)) w.heap.size 60 [.int .i64 0,.int .i64 0,.int .i64 0,.slice none 0 0]:=zbs _ _
 have Z0:= zab z0
 clear z0
 go_enter Try.func32,Try.ntmps32
 go_wp2_with (first
  | (go_at_call 33;have hq:=hb1;refine (c2 _).mono ?_;rintro e w2 ⟨p2,rfl,hr2,hb2⟩;have HR1:=(zab (hr1.out.keep hb2));have HR2:= zab hr2;have Z2:=(zab (((Z0.out.keep hb1).keep hb2).keep (bel1 w2 (.cells #[.slice (some ⟨p1,0,none⟩) 1 1,.slice (some ⟨p2,0,none⟩) 1 1] 79))));have y0:=Z2.out.cell (j:=0) rfl;have y1:=Z2.out.cell (j:=1) rfl;have y2:=Z2.out.cell (j:=2) rfl;have y3:=Z2.out.cell (j:=3) rfl;have x0:=Z2.out.frozen 0;have x1:=Z2.out.frozen 1;have x2:=Z2.out.frozen 2;have x3:=Z2.out.frozen 3)
  | (go_at_call 33;refine (c1 _).mono ?_;rintro e w1 ⟨p1,rfl,hr1,hb1⟩;have hr1:=(zab hr1)))
 have Z3:=(((Z2.out.set 0 (.int .i64 sz)).set 1 (.int .i64 0)).set 2 (.int .i64 1)).set 3 (.slice (some ⟨w2.heap.size,0,none⟩) 2 2)
 have k0:=Z3.cell (j:=0) rfl
 have k1:=Z3.cell (j:=1) rfl
 have k2:=Z3.cell (j:=2) rfl
 have k3:=Z3.cell (j:=3) rfl
 have hB2:=thn3 (thn3 (thn3 (bel1 w _) hb1) hb2) (bel1 w2 (.cells #[.slice (some ⟨p1,0,none⟩) 1 1,.slice (some ⟨p2,0,none⟩) 1 1] 79))
 have lz:=((Z0.out.keep hb1).keep hb2).lt
 have n1:=(HR1.out.keep (bel1 w2 (.cells #[.slice (some ⟨p1,0,none⟩) 1 1,.slice (some ⟨p2,0,none⟩) 1 1] 79))).ne Z2.out (by decide)
 have n2:=(HR2.out.keep (bel1 w2 (.cells #[.slice (some ⟨p1,0,none⟩) 1 1,.slice (some ⟨p2,0,none⟩) 1 1] 79))).ne Z2.out (by decide)
 refine bodyPost_ret (v:=.agg #[.int .i64 sz,.int .i64 0,.int .i64 1,.slice (some ⟨w2.heap.size,0,none⟩) 2 2]) (by simp [results,Try.results32,go_sem,k0,k1,k2,k3]) rfl ?_
 refine ⟨w2.heap.size,p1,p2,rfl,?_,?_,?_,(((hB2.setCell (Nat.le_refl _) _).setCell (Nat.le_refl _) _).setCell (Nat.le_refl _) _).setCell (Nat.le_refl _) _⟩
 ·have hne : (⟨w.heap.size,0,none⟩ : Addr).block ≠ w2.heap.size:=by show w.heap.size ≠ _;omega
  exact ((((show RowIs (w2.alloc (.cells #[.slice (some ⟨p1,0,none⟩) 1 1,.slice (some ⟨p2,0,none⟩) 1 1] 79)) w2.heap.size 79 _ from zbs _ _).setOther (by exact hne) _).setOther (by exact hne) _).setOther (by exact hne) _).setOther (by exact hne) _
 ·exact ((((HR1.out.keep (bel1 w2 (.cells #[.slice (some ⟨p1,0,none⟩) 1 1,.slice (some ⟨p2,0,none⟩) 1 1] 79))).setOther (by exact n1.symm) _).setOther (by exact n1.symm) _).setOther (by exact n1.symm) _).setOther (by exact n1.symm) _
 ·exact ((((HR2.out.keep (bel1 w2 (.cells #[.slice (some ⟨p1,0,none⟩) 1 1,.slice (some ⟨p2,0,none⟩) 1 1] 79))).setOther (by exact n2.symm) _).setOther (by exact n2.symm) _).setOther (by exact n2.symm) _).setOther (by exact n2.symm) _
theorem zi5 {W : World} {g p1 p2 : Nat} {a1 b1 a2 b2 : Int} (h : RowIs W g 79 [.slice (some ⟨p1,0,none⟩) 1 1,.slice (some ⟨p2,0,none⟩) 1 1]) (h1 : RowIs W p1 108 [.int .i64 0,.int .i64 a1,.int .i64 b1]) (h2 : RowIs W p2 108 [.int .i64 0,.int .i64 a2,.int .i64 b2]) : RelSl PinSl W (some ⟨g,0,none⟩) 2 2 [[⟨0,a1,b1⟩],[⟨0,a2,b2⟩]]:=by
 have key : ∀ {p : Nat} {a b : Int},RowIs W p 108 [.int .i64 0,.int .i64 a,.int .i64 b] -> PinSl W (some ⟨p,0,none⟩) 1 1 [⟨0,a,b⟩]:=fun h => by
  refine ⟨rfl,by simp,by decide,by decide,fun i q hi => ?_⟩
  have : i = 0:=by have:=(List.getElem?_eq_some_iff.1 hi).1;simpa using this
  subst this
  simp at hi;subst hi
  exact ⟨_,0,rfl,h.cell (j:=0) rfl,h.cell (j:=1) rfl,h.cell (j:=2) rfl⟩
 refine ⟨rfl,by simp,by decide,by decide,fun i ps hi => ?_⟩
 have hl:=(List.getElem?_eq_some_iff.1 hi).1
 have : i = 0 \/ i = 1:=by simp at hl;omega
 rcases this with rfl | rfl
 ·simp at hi;subst hi
  exact ⟨g,0,_,_,_,rfl,h.cell (j:=0) rfl,key h1⟩
 ·simp at hi;subst hi
  exact ⟨g,0,_,_,_,rfl,h.cell (j:=1) rfl,key h2⟩
end
end Go.Proofs.Ytkkekopomiehlab
