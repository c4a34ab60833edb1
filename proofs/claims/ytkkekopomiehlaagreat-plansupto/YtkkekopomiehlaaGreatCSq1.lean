import Derived.Test.YtkkekopomiehlaaGreatCSf13
import Derived.Test.YtkkekopomiehlaaGreatCSf9
import Derived.Test.YtkkekopomiehlaaGreatCSr3
import Derived.Test.YtkkekopomiehlaaGreatCSr5
set_option linter.unusedVariables false
set_option linter.unusedSimpArgs false
set_option maxHeartbeats 40000000
set_option maxRecDepth 4000
namespace Go.Proofs.YtkkekopomiehlaaGreat
section
open Go.RowKit
theorem zxg {ns nt : Nat} {ps : List PinD} (h : zb9 ns nt ps = true) : zee ns nt ps:=fun p hp => by
 unfold zb9 at h
 rw [Bool.and_eq_true,List.all_eq_true] at h
 obtain ⟨k,hk⟩:=List.getElem?_of_mem hp
 have hkl:=(List.getElem?_eq_some_iff.1 hk).1
 have:=h.2 k (List.mem_range.2 hkl)
 unfold pinK at this
 rw [hk] at this
 simp only [Bool.and_eq_true] at this
 have h1:=this.1
 unfold pinB numB at h1
 simp only [Bool.and_eq_true,Bool.or_eq_true,decide_eq_true_eq,beq_iff_eq] at h1
 obtain ⟨⟨a1,a2⟩,a3⟩:=h1
 refine ⟨a1,?_,?_,?_,?_⟩ <;> omega
theorem zfl {f : zae} (h : Ord f) (p : Nat) : zee f.ss.length f.ts.length (plOf f p):=by
 unfold plOf
 split
 ·rename_i v hv
  have hv':=(h.parts (List.mem_of_getElem? hv)).2.2.2.2
  rw [List.getD]
  cases hr : v.rels[p % 3]? with
  | none => exact fun q hq => by simp at hq
  | some ps => exact zxg (hv' ps (List.mem_of_getElem? hr))
 ·exact fun q hq => by simp at hq
theorem zmw {ss : List ByteArray} (h8 : ss.length <= 8) {x y : Int} (hx : -1 <= x /\ x < ss.length) (hy : -1 <= y /\ y < ss.length) : crB (zbd ss) x y = ((decide (x < 0) || decide (y < 0)) || tabI ss x.toNat y.toNat):=by
 unfold crB
 by_cases h1 : x = -1
 ·subst h1;simp
 by_cases h2 : y = -1
 ·subst h2;simp
 have e1 : (x == -1) = false:=by simp [h1]
 have e2 : (y == -1) = false:=by simp [h2]
 have e3 : numB x 8 = true:=by unfold numB;simp;omega
 have e4 : numB y 8 = true:=by unfold numB;simp;omega
 have e5 : decide (x < 0) = false:=by simp;omega
 have e6 : decide (y < 0) = false:=by simp;omega
 rw [e1,e2,e3,e4,e5,e6,zzy _ (by omega) (by omega)]
 simp
theorem zn5 {ss : List ByteArray} {nt : Nat} (h8 : ss.length <= 8) {p q : PinD} (hp : p.w < ss.length /\ p.r < ss.length /\ -1 <= p.w /\ -1 <= p.r) (hq : q.w < ss.length /\ q.r < ss.length /\ -1 <= q.w /\ -1 <= q.r) : gaB (zbd ss) p q = (rdB ss p q && rdB ss q p):=by
 unfold gaB rdB
 rw [zmw h8 ⟨hp.2.2.1,hp.1⟩ ⟨hq.2.2.2,hq.2.1⟩,zmw h8 ⟨hq.2.2.1,hq.1⟩ ⟨hp.2.2.2,hp.2.1⟩]
theorem zhi {α : Type} {l : List α} {F G : α -> Bool} (h : ∀ x ∈ l,F x = G x) : l.all F = l.all G:=by
 induction l with
 | nil => rfl
 | cons a l ih => rw [List.all_cons,List.all_cons,h a (by simp),ih (fun x hx => h x (by simp [hx]))]
theorem ztn {ss : List ByteArray} {ts : List Int} (h8 : ss.length <= 8) {ps qs : List PinD} (hp : zee ss.length ts.length ps) (hq : zee ss.length ts.length qs) : cmpA (zbd ss) ps qs = metB ss ts false ps qs:=by
 unfold cmpA metB
 refine zhi fun p hpm => zhi fun q hqm => ?_
 unfold cpA meB
 rw [zn5 (nt:=0) h8 (hp p hpm).2 (hq q hqm).2]
 simp
theorem zto {ss : List ByteArray} {ts : List Int} (h8 : ss.length <= 8) {ps qs : List PinD} (hp : zee ss.length ts.length ps) (hq : zee ss.length ts.length qs) : cmpF (zbd ss) ts ps qs = metB ss ts true ps qs:=by
 unfold cmpF metB
 refine zhi fun p hpm => zhi fun q hqm => ?_
 unfold cpF cpA meB
 rw [zn5 (nt:=0) h8 (hp p hpm).2 (hq q hqm).2]
 have:=(hp p hpm).1
 rw [show numB p.t ts.length = true by unfold numB;simp;omega]
 rw [show (ts.getD p.t.toNat 0 != 0) = !(ts.getD p.t.toNat 0 == 0) from rfl]
 generalize (ts.getD p.t.toNat 0 == 0) = c
 generalize (p.t != q.t) = a
 generalize (rdB ss p q && rdB ss q p) = b
 cases a <;> cases b <;> cases c <;> rfl
def eB (f : zae) (x y : Nat) : Bool:=metB f.ss f.ts false (plOf f x) (plOf f y)
def kB (f : zae) (x y : Nat) : Bool:=metB f.ss f.ts true (plOf f x) (plOf f y)
theorem zf4 {f : zae} (h : Ord f) {p q : Nat} (hp : p < 9) (hq : q < 9) : ((zad f).alg.getD p []).getD q false = eB f p q:=by
 rw [ztl f hp hq,ztn (ts:=f.ts) h.ss8 (zfl h p) (zfl h q)];rfl
theorem znx {f : zae} (h : Ord f) {p q : Nat} (hp : p < 9) (hq : q < 9) : ((zad f).fev.getD p []).getD q false = kB f p q:=by
 rw [ztm f hp hq,zto h.ss8 (zfl h p) (zfl h q)];rfl
def nowI (f : zae) (s : Nat) : Int:=match f.vs[s]? with | some v => v.now | none => 0
def mvAt (ms : List (Int × Int)) (j : Nat) : Int × Int:=ms.getD j (-1,0)
def rmB (f : zae) (ms : List (Int × Int)) (j : Nat) : Bool:=(numB (mvAt ms j).1 f.vs.length && numB (mvAt ms j).2 (rlen f.vs (mvAt ms j).1.toNat)) && !(hasI (nowI f (mvAt ms j).1.toNat) ms (mvAt ms j).1 j == (mvAt ms j).2)
def plc (m : Int × Int) : Nat:=m.1.toNat * 3 + m.2.toNat
def nwP (f : zae) (s : Nat) : Nat:=s * 3 + (nowI f s).toNat
def rndB (f : zae) : Bool:=(List.range f.vs.length).all fun s => (List.range f.vs.length).all fun t => eB f (nwP f s) (nwP f t)
theorem zlg {vs : List SvcD} {s : Nat} {v : SvcD} (h : vs[s]? = some v) : rlen vs s = v.rels.length:=by unfold rlen;rw [h]
theorem zia {f : zae} {s : Nat} {v : SvcD} (h : f.vs[s]? = some v) : nowI f s = v.now:=by unfold nowI;rw [h]
theorem ze5 (f : zae) (x y : Nat) (hy : y < 3) : thB f (x * 3 + y) = (decide (x < f.vs.length) && decide (y < rlen f.vs x)):=by
 unfold thB rlen
 rw [show (x * 3 + y) / 3 = x by omega,show (x * 3 + y) % 3 = y by omega]
 cases h : f.vs[x]? with
 | none => simp
 | some v => have:=(List.getElem?_eq_some_iff.1 h).1;simp [this]
theorem zgl {f : zae} (p : Nat) : fsB f p = (thB f p && (nowI f (p / 3) == ((p % 3 : Nat) : Int))):=by
 unfold fsB thB nowI
 cases h : f.vs[p / 3]? with
 | none => simp
 | some v =>
  simp only
  rw [show (((p % 3 : Nat) : Int) == v.now) = (v.now == ((p % 3 : Nat) : Int)) from Bool.beq_comm]
theorem Ord.rl {f : zae} (h : Ord f) {s : Nat} (hs : s < f.vs.length) : 1 <= rlen f.vs s /\ rlen f.vs s <= 3 /\ 0 <= nowI f s /\ nowI f s < rlen f.vs s:=by
 obtain ⟨v,hv⟩ : ∃ v,f.vs[s]? = some v:=⟨f.vs[s],List.getElem?_eq_getElem hs⟩
 have:=h.parts (List.mem_of_getElem? hv)
 rw [zlg hv,zia hv]
 exact ⟨this.1,this.2.1,this.2.2.1.1,this.2.2.1.2⟩
structure St (f : zae) (ms : List (Int × Int)) (j : Nat) (S : SiD) : Prop where
 ok : S.ok
 has : ∀ p,p < 9 -> S.has.getD p false = (thB f p && (hasI (nowI f (p / 3)) ms ((p / 3 : Nat) : Int) j == ((p % 3 : Nat) : Int)))
 had : ∀ p,p < 9 -> S.had.getD p false = (fsB f p || (List.range j).any fun i => plc (mvAt ms i) == p)
theorem St.zero {f : zae} {ms : List (Int × Int)} : St f ms 0 (begD (zad f)):=by
 refine ⟨zhm (zb5 f),fun p hp => ?_,fun p hp => ?_⟩
 ·show (zad f).fst.getD p false = _
  rw [zea f hp,zgl];rfl
 ·show (zad f).fst.getD p false = _
  rw [zea f hp];simp
theorem zx7 {f : zae} {ms : List (Int × Int)} {j : Nat} (ho : Ord f) (h : rmB f ms j = true) : ∃ x y : Nat,mvAt ms j = (((x : Nat) : Int),((y : Nat) : Int)) /\ x < f.vs.length /\ y < rlen f.vs x /\ x < 3 /\ y < 3 /\ hasI (nowI f x) ms x j ≠ y:=by
 unfold rmB numB at h
 simp only [Bool.and_eq_true,decide_eq_true_eq,Bool.not_eq_true'] at h
 obtain ⟨⟨⟨a1,a2⟩,a3,a4⟩,a5⟩:=h
 have h3:=ho.vs3
 have hr:=(ho.rl (s:=(mvAt ms j).1.toNat) (by omega)).2.1
 refine ⟨(mvAt ms j).1.toNat,(mvAt ms j).2.toNat,?_,by omega,by omega,by omega,by omega,?_⟩
 ·rw [Int.toNat_of_nonneg a1,Int.toNat_of_nonneg a3]
 ·rw [Int.toNat_of_nonneg a1,Int.toNat_of_nonneg a3]
  intro hc;rw [hc] at a5;simp at a5
theorem zxl {x y : Nat} (hx : x < 3) (hy : y < 3) : plI (x : Int) (y : Int) = ((x * 3 + y : Nat) : Int):=by
 unfold plI
 rw [show numB (x : Int) 3 = true by unfold numB;simp;omega,show numB (y : Int) 3 = true by unfold numB;simp;omega]
 simp
theorem zhw {l : List Bool} {i p : Nat} {b : Bool} (hi : i < l.length) : (l.set i b).getD p false = if i = p then b else l.getD p false:=by
 rw [List.getD,List.getElem?_set]
 by_cases h : i = p
 ·rw [if_pos h,if_pos hi,if_pos h];rfl
 ·rw [if_neg h,if_neg h];rfl
theorem zuv {now : Int} {ms : List (Int × Int)} {s : Int} {j : Nat} : hasI now ms s (j + 1) = if (mvAt ms j).1 = s then (mvAt ms j).2 else hasI now ms s j:=rfl
theorem St.step {f : zae} {ms : List (Int × Int)} {j : Nat} {S : SiD} (ho : Ord f) (h : St f ms j S) (hm : rmB f ms j = true) : St f ms (j + 1) (aft S (plI (mvAt ms j).1 (mvAt ms j).2)):=by
 obtain ⟨x,y,hxy,hx,hy,hx3,hy3,hne⟩:=zx7 ho hm
 rw [hxy]
 simp only
 rw [zxl hx3 hy3]
 refine ⟨zhh h.ok _,fun p hp => ?_,fun p hp => ?_⟩
 ·unfold aft
  rw [if_pos (by omega),Int.toNat_natCast]
  unfold aftD
  simp only
  rw [zhw (by simp;omega),zd3 _ _ hp,zuv,hxy]
  simp only
  by_cases h1 : p / 3 = x
  ·rw [if_pos (show ((x : Nat) : Int) = ((p / 3 : Nat) : Int) by omega)]
   by_cases h2 : x * 3 + y = p
   ·rw [if_pos h2,<- h2,ze5 f x y hy3,show (x * 3 + y) % 3 = y by omega];simp [hx,hy]
   ·rw [if_neg h2,if_pos (by omega),show (((y : Nat) : Int) == ((p % 3 : Nat) : Int)) = false by simp;omega];simp
  ·rw [if_neg (by omega),if_neg (by omega),if_neg (by omega)];exact h.has p hp
 ·unfold aft
  rw [if_pos (by omega),Int.toNat_natCast]
  unfold aftD
  simp only
  rw [zhw (by rw [h.ok.2];omega),List.range_succ,List.any_append,h.had p hp,show ([j].any fun i => plc (mvAt ms i) == p) = (x * 3 + y == p) by simp [plc,hxy]]
  by_cases h2 : x * 3 + y = p
  ·rw [if_pos h2];simp [h2]
  ·rw [if_neg h2]
   rw [show (x * 3 + y == p) = false by simp [h2]]
   rw [Bool.or_false]
theorem zzk {f : zae} (ho : Ord f) : sndB (zad f) = rndB f:=by
 have h3:=ho.vs3
 rw [Bool.eq_iff_iff]
 unfold sndB rndB algB
 rw [List.all_eq_true,List.all_eq_true]
 have hn : ∀ s,s < f.vs.length -> nwP f s < 9 /\ fsB f (nwP f s) = true:=fun s hs => by
  have hr:=ho.rl hs
  refine ⟨by unfold nwP;omega,?_⟩
  have e : nwP f s = s * 3 + (nowI f s).toNat:=rfl
  rw [zgl,e,ze5 f s _ (by omega),show (s * 3 + (nowI f s).toNat) / 3 = s by omega,show (s * 3 + (nowI f s).toNat) % 3 = (nowI f s).toNat by omega]
  rw [show decide (s < f.vs.length) = true by simp [hs],show decide ((nowI f s).toNat < rlen f.vs s) = true by simp;omega,show (nowI f s == (((nowI f s).toNat : Nat) : Int)) = true by simp;omega]
  rfl
 have hb : ∀ p,p < 9 -> fsB f p = true -> ∃ s,s < f.vs.length /\ p = nwP f s:=fun p hp hf => by
  rw [zgl,Bool.and_eq_true] at hf
  obtain ⟨v,hv,hr⟩:=zz8 hf.1
  have hs:=(List.getElem?_eq_some_iff.1 hv).1
  have hn : nowI f (p / 3) = ((p % 3 : Nat) : Int):=by simpa using hf.2
  refine ⟨p / 3,hs,?_⟩
  unfold nwP
  rw [hn,Int.toNat_natCast];omega
 constructor
 ·intro H s hs
  have hs:=List.mem_range.1 hs
  rw [List.all_eq_true]
  intro t ht
  have ht:=List.mem_range.1 ht
  obtain ⟨a1,a2⟩:=hn s hs
  obtain ⟨b1,b2⟩:=hn t ht
  have:=H (nwP f s) (List.mem_range.2 a1)
  rw [zea f a1,a2] at this
  simp only [Bool.not_true,Bool.false_or] at this
  rw [List.all_eq_true] at this
  have:=this (nwP f t) (List.mem_range.2 b1)
  rw [zea f b1,b2,zf4 ho a1 b1] at this
  simpa using this
 ·intro H p hp
  have hp:=List.mem_range.1 hp
  rw [zea f hp]
  cases hf : fsB f p with
  | false => simp
  | true =>
   obtain ⟨s,hs,rfl⟩:=hb p hp hf
   simp only [Bool.not_true,Bool.false_or]
   rw [List.all_eq_true]
   intro q hq
   have hq:=List.mem_range.1 hq
   rw [zea f hq,zf4 ho hp hq]
   cases hg : fsB f q with
   | false => simp
   | true =>
    obtain ⟨t,ht,rfl⟩:=hb q hq hg
    have:=H s (List.mem_range.2 hs)
    rw [List.all_eq_true] at this
    simp [this t (List.mem_range.2 ht)]
end
section
open Go.RowKit
theorem zun (ss : List ByteArray) : fitM ss = matF (tabI ss) ss.length:=by
 unfold fitM matF
 apply List.ext_getElem?
 intro i
 by_cases hi : i < ss.length
 ·rw [List.getElem?_map,List.getElem?_map,List.getElem?_range hi,List.getElem?_eq_getElem hi]
  simp only [Option.map_some,Option.some.injEq]
  apply List.ext_getElem?
  intro j
  by_cases hj : j < ss.length
  ·rw [List.getElem?_map,List.getElem?_map,List.getElem?_range hj,List.getElem?_eq_getElem hj]
   simp only [Option.map_some,Option.some.injEq]
   exact (zlp (List.getElem?_eq_getElem hi) (List.getElem?_eq_getElem hj)).symm
  ·rw [List.getElem?_eq_none (by simp;omega),List.getElem?_eq_none (by simp;omega)]
 ·rw [List.getElem?_eq_none (by simp;omega),List.getElem?_eq_none (by simp;omega)]
theorem zil {vs : List SvcD} {s r : Nat} (hs : s < vs.length) (hr : r < rlen vs s) : (s,r) ∈ prs vs:=by
 unfold prs zb4
 exact List.mem_flatMap.2 ⟨s,List.mem_range.2 hs,List.mem_map.2 ⟨r,List.mem_range.2 hr,rfl⟩⟩
theorem zkh {vs : List SvcD} {p : Nat × Nat} (h : p ∈ prs vs) : ∃ v ps,vs[p.1]? = some v /\ v.rels[p.2]? = some ps:=by
 unfold prs zb4 at h
 obtain ⟨s,hs,hm⟩:=List.mem_flatMap.1 h
 have hs:=List.mem_range.1 hs
 obtain ⟨r,hr,rfl⟩:=List.mem_map.1 hm
 have hr:=List.mem_range.1 hr
 refine ⟨vs[s],?_⟩
 rw [zlg (List.getElem?_eq_getElem hs)] at hr
 exact ⟨vs[s].rels[r],List.getElem?_eq_getElem hs,List.getElem?_eq_getElem hr⟩
theorem zpu {f : zae} {p : Nat × Nat} {v : SvcD} {ps : List PinD} (hv : f.vs[p.1]? = some v) (hr : v.rels[p.2]? = some ps) (h3 : p.2 < 3) : plOf f (plN p) = ps:=by
 unfold plOf plN
 rw [show (p.1 * 3 + p.2) / 3 = p.1 by omega,show (p.1 * 3 + p.2) % 3 = p.2 by omega,hv]
 simp [List.getD,hr]
structure LookAt (W : World) (g : Nat) (sa : Option Addr) (sl sc : Nat) (ta : Option Addr) (tl tc : Nat) (va : Option Addr) (vl vc : Nat) (f : zae) (E K : List (List Bool)) : Prop where
 fl : FleetAt W sa sl sc ta tl tc va vl vc f
 c0 : W.cell? ⟨g,0,none⟩ = some (.slice sa sl sc)
 c1 : W.cell? ⟨g,1,none⟩ = some (.slice ta tl tc)
 c2 : W.cell? ⟨g,2,none⟩ = some (.slice va vl vc)
 E4 : ∃ ea ec,W.cell? ⟨g,4,none⟩ = some (.slice ea 9 ec) /\ MatAt W ea E
 K5 : ∃ ka kc,W.cell? ⟨g,5,none⟩ = some (.slice ka 9 kc) /\ MatAt W ka K
 okE : Mok (prs f.vs) (eB f) E
 okK : Mok (prs f.vs) (kB f) K
theorem LookAt.keep {W W' : World} (hb : Below W.heap.size W W') {g : Nat} {sa ta va : Option Addr} {sl sc tl tc vl vc : Nat} {f : zae} {E K : List (List Bool)} (h : LookAt W g sa sl sc ta tl tc va vl vc f E K) : LookAt W' g sa sl sc ta tl tc va vl vc f E K :=
 ⟨h.fl.keep hb,zaa hb h.c0,zaa hb h.c1,zaa hb h.c2,by obtain ⟨a,c,h1,h2⟩:=h.E4;exact ⟨a,c,zaa hb h1,h2.keep hb⟩,by obtain ⟨a,c,h1,h2⟩:=h.K5;exact ⟨a,c,zaa hb h1,h2.keep hb⟩,h.okE,h.okK⟩
theorem zsf (f : zae) (ho : Ord f) (sa ta va : Option Addr) (sl sc tl tc vl vc : Nat) (w : World) (hf : FleetAt w sa sl sc ta tl tc va vl vc f) :
  Calls Tryz.prog 30 #[.agg #[.slice sa sl sc,.slice ta tl tc,.slice va vl vc]] w fun e W => ∃ (g : Nat) (E K : List (List Bool)),e = .returned (.pointer (some ⟨g,0,none⟩)) /\ LookAt W g sa sl sc ta tl tc va vl vc f E K /\ Below w.heap.size w W:=by
 have hr3 : ∀ v ∈ f.vs,v.rels.length <= 3:=fun v hv => (ho.parts hv).2.1
 have hsch : ∀ (i : Nat) (s : ByteArray),f.ss[i]? = some s -> s.size <= 60 /\ (pAll false s).isSome = true:=fun i s hi => by
  have h:=ho.sch
  unfold zc5 at h
  rw [Bool.and_eq_true,List.all_eq_true] at h
  have:=h.2 s (List.mem_of_getElem? hi)
  unfold schB at this
  rw [Bool.and_eq_true] at this
  exact ⟨of_decide_eq_true this.1,this.2⟩
 have hL0 : 0 < (prs f.vs).length:=by
  have h1:=ho.vs1
  have:=zil (vs:=f.vs) (s:=0) (r:=0) (by omega) (by have:=(ho.rl (s:=0) (by omega)).1;omega)
  exact List.length_pos_of_mem this
 refine (zvp f sa ta va sl sc tl tc vl vc w hf ho.ss8 ho.vs3 hr3 (tabI f.ss) (fun k x y => metB f.ss f.ts k (plOf f x) (plOf f y)) (fun i j s t hi hj W => ?_) hL0 (fun p q kept W g fa fc hp hq hV => ?_)).mono ?_
 ·have:=zxw s t (hsch i s hi).1 (hsch j t hj).1 (hsch i s hi).2 (hsch j t hj).2 W
  rw [<- zlp hi hj] at this
  exact this
 ·obtain ⟨v1,ps,hv1,hp1⟩:=zkh hp
  obtain ⟨v2,qs,hv2,hq2⟩:=zkh hq
  have hp3:=zik ho.vs3 hr3 hp
  have hq3:=zik ho.vs3 hr3 hq
  rw [<- zun] at hV
  have e1:=zpu hv1 hp1 hp3.2
  have e2:=zpu hv2 hq2 hq3.2
  have o1:=zfl ho (plN p)
  have o2:=zfl ho (plN q)
  rw [e1] at o1
  rw [e2] at o2
  show Calls _ _ _ _ (fun e W' => e = .returned (.bool (metB f.ss f.ts kept (plOf f (plN p)) (plOf f (plN q)))) /\ Below W.heap.size W W')
  rw [e1,e2]
  exact zv0 f g sa ta va fa sl sc tl tc vl vc fc W hV ho.ss8 p.1 p.2 q.1 q.2 v1 v2 ps qs kept hv1 hp1 hv2 hq2 o1 o2
 ·rintro e W ⟨g,fa,ea,ka,fc,ec,kc,E,K,rfl,hV,h4,h5,hmE,hmK,hokE,hokK,hb⟩
  exact ⟨g,E,K,rfl,⟨hV.fl,hV.c0,hV.c1,hV.c2,⟨ea,ec,h4,hmE⟩,⟨ka,kc,h5,hmK⟩,hokE,hokK⟩,hb⟩
theorem Mok.get {L : List (Nat × Nat)} {H : Nat -> Nat -> Bool} {E : List (List Bool)} (h : Mok L H E) {x y : Nat} (hx : x < 9) (hy : y < 9) : ∃ r,E[x]? = some r /\ r.length = 9 /\ r[y]? = some (mG E x y):=by
 have hxl : x < E.length:=by rw [h.1.1];exact hx
 refine ⟨E[x],List.getElem?_eq_getElem hxl,h.1.2 _ (List.getElem_mem _),?_⟩
 have hl : E[x].length = 9:=h.1.2 _ (List.getElem_mem _)
 unfold mG
 rw [show E.getD x [] = E[x] by rw [List.getD,List.getElem?_eq_getElem hxl];rfl,List.getD,List.getElem?_eq_getElem (show y < E[x].length by omega)];rfl
theorem LookAt.eE {W : World} {g : Nat} {sa ta va : Option Addr} {sl sc tl tc vl vc : Nat} {f : zae} {E K : List (List Bool)} (h : LookAt W g sa sl sc ta tl tc va vl vc f E K) {p q : Nat × Nat} (hp : p ∈ prs f.vs) (hq : q ∈ prs f.vs) (hx : plN p < 9) (hy : plN q < 9) :
  ∃ b o ec g' c,W.cell? ⟨g,4,none⟩ = some (.slice (some ⟨b,o,none⟩) 9 ec) /\ W.cell? ⟨b,o + plN p,none⟩ = some (.slice (some ⟨g',0,none⟩) 9 c) /\ W.cell? ⟨g',plN q,none⟩ = some (.bool (eB f (plN p) (plN q))):=by
 obtain ⟨ea,ec,h1,h2⟩:=h.E4
 obtain ⟨r,hr,hl,hg⟩:=h.okE.get hx hy
 obtain ⟨b,o,g',c,rfl,m1,m2⟩:=h2 _ r hr
 rw [hl] at m1
 have:=m2 _ _ hg
 rw [h.okE.2 p q hp hq] at this
 exact ⟨b,o,ec,g',c,h1,m1,this⟩
theorem LookAt.kK {W : World} {g : Nat} {sa ta va : Option Addr} {sl sc tl tc vl vc : Nat} {f : zae} {E K : List (List Bool)} (h : LookAt W g sa sl sc ta tl tc va vl vc f E K) {p q : Nat × Nat} (hp : p ∈ prs f.vs) (hq : q ∈ prs f.vs) (hx : plN p < 9) (hy : plN q < 9) :
  ∃ b o ec g' c,W.cell? ⟨g,5,none⟩ = some (.slice (some ⟨b,o,none⟩) 9 ec) /\ W.cell? ⟨b,o + plN p,none⟩ = some (.slice (some ⟨g',0,none⟩) 9 c) /\ W.cell? ⟨g',plN q,none⟩ = some (.bool (kB f (plN p) (plN q))):=by
 obtain ⟨ea,ec,h1,h2⟩:=h.K5
 obtain ⟨r,hr,hl,hg⟩:=h.okK.get hx hy
 obtain ⟨b,o,g',c,rfl,m1,m2⟩:=h2 _ r hr
 rw [hl] at m1
 have:=m2 _ _ hg
 rw [h.okK.2 p q hp hq] at this
 exact ⟨b,o,ec,g',c,h1,m1,this⟩
end
section
open Go.RowKit
def PrAt (w : World) (a : Option Addr) (l : List (Nat × Nat)) : Prop:=∀ i q,l[i]? = some q -> ∃ b,a = some ⟨b,0,none⟩ /\ w.cell? ⟨b,i * 2,none⟩ = some (.int .i64 q.1) /\ w.cell? ⟨b,i * 2 + 1,none⟩ = some (.int .i64 q.2)
theorem PrAt.keep {w w' : World} (hb : Below w.heap.size w w') {a : Option Addr} {l : List (Nat × Nat)} (h : PrAt w a l) : PrAt w' a l:=fun i q hi => by
 obtain ⟨b,h1,h2,h3⟩:=h i q hi
 exact ⟨b,h1,zaa hb h2,zaa hb h3⟩
def sfeB (f : zae) (p : Nat × Nat) (nw ps : List (Nat × Nat)) : Bool:=eB f (plN p) (plN p) && (nw.all fun q => eB f (plN p) (plN q)) && (ps.all fun q => kB f (plN p) (plN q))
theorem zyg (f : zae) (ho : Ord f) (sa ta va : Option Addr) (sl sc tl tc vl vc : Nat) (g : Nat) (E K : List (List Bool)) (w : World) (hV : LookAt w g sa sl sc ta tl tc va vl vc f E K) (p : Nat × Nat) (hp : p ∈ prs f.vs) (nw ps : List (Nat × Nat)) (hn : ∀ q ∈ nw,q ∈ prs f.vs) (hs : ∀ q ∈ ps,q ∈ prs f.vs)
  (na pa : Option Addr) (nc pc : Nat) (hnl : nw.length <= 2000000) (hpl : ps.length <= 2000000) (hna : PrAt w na nw) (hpa : PrAt w pa ps) :
  Calls Tryz.prog 33 #[.pointer (some ⟨g,0,none⟩),.agg #[.int .i64 p.1,.int .i64 p.2],.slice na nw.length nc,.slice pa ps.length pc] w fun e W => e = .returned (.bool (sfeB f p nw ps)) /\ Below w.heap.size w W:=by
 have hr3 : ∀ v ∈ f.vs,v.rels.length <= 3:=fun v hv => (ho.parts hv).2.1
 have hlt3 : ∀ q,q ∈ prs f.vs -> q.1 < 3 /\ q.2 < 3:=fun q hq => zik ho.vs3 hr3 hq
 have hp3:=hlt3 p hp
 have hp9 : plN p < 9:=by unfold plN;omega
 obtain ⟨b0,o0,ec0,g0,cc0,x1,x2,x3⟩:=hV.eE hp hp hp9 hp9
 have id1 : ∀ W,Calls Tryz.prog 58 #[.agg #[.int .i64 p.1,.int .i64 p.2]] W fun e W' => e = .returned (.int .i64 ((plN p : Nat) : Int)) /\ Below W.heap.size W W':=fun W => zev p.1 p.2 (by omega) (by omega) W
 have hP0 : (0 : Int) <= ((plN p : Nat) : Int):=Int.natCast_nonneg _
 have hP9 : ((plN p : Nat) : Int) < 9:=by omega
 obtain ⟨R,hR⟩ : ∃ R,R = sfeB f p nw ps:=⟨_,rfl⟩
 rw [<- hR]
 have HR : Hid (R = (eB f (plN p) (plN p) && (nw.all fun q => eB f (plN p) (plN q)) && (ps.all fun q => kB f (plN p) (plN q)))):=hR
 have HV:= zab hV
 have HL3:= zab hlt3
 have HN:= zab hn
 have HS:= zab hs
 have HNA:= zab hna
 have HPA:= zab hpa
 have HPM:= zab hp
 clear hR hV ho hr3 hlt3 hn hs hna hpa hp
 have hb0:=bel1 w (.cells #[.int .i64 p.1,.int .i64 p.2] 64)
 have pb:=box2 w (.int .i64 p.1) (.int .i64 p.2) 64
 cases hE0 : eB f (plN p) (plN p) with
 | false =>
  have hR1 : R = false:=by rw [HR.out,hE0];rfl
  rw [hE0] at x3
  subst hR1
  clear HR hE0
  go_enter Tryz.func33,Tryz.ntmps33
  go_wp2_with (go_at_call 58;refine (id1 _).mono ?_;rintro e w1 ⟨rfl,hb1⟩;have hB1:=thn3 hb0 hb1;have y1:=zaa hB1 x1;have y2:=zaa hB1 x2;have y3:=zaa hB1 x3)
  go_ret
  exact ⟨rfl,hB1⟩
 | true =>
  have HR2 : Hid (R = ((nw.all fun q => eB f (plN p) (plN q)) && (ps.all fun q => kB f (plN p) (plN q)))):=by show _ = _;rw [HR.out,hE0];rfl
  rw [hE0] at x3
  clear HR hE0
  go_enter Tryz.func33,Tryz.ntmps33
  go_wp2_with (go_at_call 58;refine (id1 _).mono ?_;rintro e w1 ⟨rfl,hb1⟩;have hB1:=thn3 hb0 hb1;have y1:=zaa hB1 x1;have y2:=zaa hB1 x2;have y3:=zaa hB1 x3)
  clear x1 x2 x3 y1 y2 y3 id1
  go_loopw [10] (fun vi wr => ∃ i : Nat,i <= nw.length /\ vi = .int .i64 i /\ Hid ((nw.take i).all (fun q => eB f (plN p) (plN q)) = true) /\ Below w.heap.size w wr) (fun i _ => nw.length - (intOf i).toNat)
  case atStart => exact ⟨0,Nat.zero_le _,rfl,(by show _ = _;rfl),hB1⟩
  case round =>
   obtain ⟨i,hi,rfl,hal,hb⟩:=hrel
   have hx0 := znn i
   by_cases hlt : i < nw.length
   ·obtain ⟨q,hq⟩ : ∃ q,nw[i]? = some q:=⟨nw[i],List.getElem?_eq_getElem hlt⟩
    have hqm:=HN.out q (List.mem_of_getElem? hq)
    have hq3:=HL3.out q hqm
    have hq9 : plN q < 9:=by unfold plN;omega
    obtain ⟨bn,rfl,n1,n2⟩:=HNA.out i q hq
    obtain ⟨be,oe,ec,ge,ce,x1,x2,x3⟩:=HV.out.eE HPM.out hqm hp9 hq9
    have id2 : ∀ W,Calls Tryz.prog 58 #[.agg #[.int .i64 q.1,.int .i64 q.2]] W fun e W' => e = .returned (.int .i64 ((plN q : Nat) : Int)) /\ Below W.heap.size W W':=fun W => zev q.1 q.2 (by omega) (by omega) W
    have hQ0 : (0 : Int) <= ((plN q : Nat) : Int):=Int.natCast_nonneg _
    have hQ9 : ((plN q : Nat) : Int) < 9:=by omega
    have hx1 : (i : Int) < (nw.length : Int):=by omega
    have n1:=zaa hb n1
    have n2:=zaa hb n2
    have x1:=zaa hb x1
    have x2:=zaa hb x2
    have x3:=zaa hb x3
    have hsn:=zcb (fun q => eB f (plN p) (plN q)) hq
    rw [hal.out,Bool.true_and] at hsn
    have hno : eB f (plN p) (plN q) = false -> R = false:=fun h => by rw [HR2.out,zca (f:=fun q => eB f (plN p) (plN q)) hq h];rfl
    generalize eB f (plN p) (plN q) = x at hsn hno x3
    have HSN:= zab hsn
    have l1:=zaf n1
    have l2:=zaf x1
    have l3:=zaf x2
    have l4:=zaf x3
    clear hsn hal hq
    cases x with
    | true =>
     clear hno
     go_wp2_with fail
     go_region_held3 (fun w' => (w'.cell? ⟨g,4,none⟩ = some (.slice (some ⟨be,oe,none⟩) 9 ec) /\ w'.cell? ⟨be,oe + plN p,none⟩ = some (.slice (some ⟨ge,0,none⟩) 9 ce) /\ w'.cell? ⟨ge,plN q,none⟩ = some (.bool true)) /\ w'.cell? ⟨bn,i * 2,none⟩ = some (.int .i64 q.1) /\ w'.cell? ⟨bn,i * 2 + 1,none⟩ = some (.int .i64 q.2)) (go_keep) (first | (go_at_call 58;refine (id2 _).mono ?_;rintro e w2 ⟨rfl,hb2⟩;have z1:=zaa hb2 x1;have z2:=zaa hb2 x2;have z3:=zaa hb2 x3;have z4:=zaa hb2 n1;have z5:=zaa hb2 n2))
     go_wp2_with fail
     go_roundw
     case rel => exact ⟨i + 1,by omega,by go_num,HSN,thn3 hb.drew hb2⟩
     case measure => simp [intOf];omega
    | false =>
     have hR1:=hno rfl
     clear hno
     subst hR1
     go_wp2_with fail
     go_region_held3 (fun w' => (w'.cell? ⟨g,4,none⟩ = some (.slice (some ⟨be,oe,none⟩) 9 ec) /\ w'.cell? ⟨be,oe + plN p,none⟩ = some (.slice (some ⟨ge,0,none⟩) 9 ce) /\ w'.cell? ⟨ge,plN q,none⟩ = some (.bool false)) /\ w'.cell? ⟨bn,i * 2,none⟩ = some (.int .i64 q.1) /\ w'.cell? ⟨bn,i * 2 + 1,none⟩ = some (.int .i64 q.2)) (go_keep) (first | (go_at_call 58;refine (id2 _).mono ?_;rintro e w2 ⟨rfl,hb2⟩;have z1:=zaa hb2 x1;have z2:=zaa hb2 x2;have z3:=zaa hb2 x3;have z4:=zaa hb2 n1;have z5:=zaa hb2 n2))
     go_wp2_with fail
     go_ret
     exact ⟨rfl,thn3 hb.drew hb2⟩
   ·have HR3 : Hid (R = ps.all fun q => kB f (plN p) (plN q)):=by
     show _ = _;rw [HR2.out];have:=hal.out;rw [List.take_of_length_le (by omega)] at this;rw [this];rfl
    clear hal HR2
    go_wp2_with fail
    go_loopw [11] (fun vi wr => ∃ i : Nat,i <= ps.length /\ vi = .int .i64 i /\ Hid ((ps.take i).all (fun q => kB f (plN p) (plN q)) = true) /\ Below w.heap.size w wr) (fun i _ => ps.length - (intOf i).toNat)
    case atStart => exact ⟨0,Nat.zero_le _,rfl,(by show _ = _;rfl),hb⟩
    case round =>
     clear hi hx0 hlt hb
     obtain ⟨i,hi,rfl,hal,hb⟩:=hrel
     have hx0 := znn i
     by_cases hlt : i < ps.length
     ·obtain ⟨q,hq⟩ : ∃ q,ps[i]? = some q:=⟨ps[i],List.getElem?_eq_getElem hlt⟩
      have hqm:=HS.out q (List.mem_of_getElem? hq)
      have hq3:=HL3.out q hqm
      have hq9 : plN q < 9:=by unfold plN;omega
      obtain ⟨bn,rfl,n1,n2⟩:=HPA.out i q hq
      obtain ⟨be,oe,ec,ge,ce,x1,x2,x3⟩:=HV.out.kK HPM.out hqm hp9 hq9
      have id2 : ∀ W,Calls Tryz.prog 58 #[.agg #[.int .i64 q.1,.int .i64 q.2]] W fun e W' => e = .returned (.int .i64 ((plN q : Nat) : Int)) /\ Below W.heap.size W W':=fun W => zev q.1 q.2 (by omega) (by omega) W
      have hQ0 : (0 : Int) <= ((plN q : Nat) : Int):=Int.natCast_nonneg _
      have hQ9 : ((plN q : Nat) : Int) < 9:=by omega
      have hx1 : (i : Int) < (ps.length : Int):=by omega
      have n1:=zaa hb n1
      have n2:=zaa hb n2
      have x1:=zaa hb x1
      have x2:=zaa hb x2
      have x3:=zaa hb x3
      have hsn:=zcb (fun q => kB f (plN p) (plN q)) hq
      rw [hal.out,Bool.true_and] at hsn
      have hno : kB f (plN p) (plN q) = false -> R = false:=fun h => by rw [HR3.out];exact zca (f:=fun q => kB f (plN p) (plN q)) hq h
      generalize kB f (plN p) (plN q) = x at hsn hno x3
      have HSN:= zab hsn
      have l1:=zaf n1
      have l2:=zaf x1
      have l3:=zaf x2
      have l4:=zaf x3
      clear hsn hal hq
      cases x with
      | true =>
       clear hno
       go_wp2_with fail
       go_region_held3 (fun w' => (w'.cell? ⟨g,5,none⟩ = some (.slice (some ⟨be,oe,none⟩) 9 ec) /\ w'.cell? ⟨be,oe + plN p,none⟩ = some (.slice (some ⟨ge,0,none⟩) 9 ce) /\ w'.cell? ⟨ge,plN q,none⟩ = some (.bool true)) /\ w'.cell? ⟨bn,i * 2,none⟩ = some (.int .i64 q.1) /\ w'.cell? ⟨bn,i * 2 + 1,none⟩ = some (.int .i64 q.2)) (go_keep) (first | (go_at_call 58;refine (id2 _).mono ?_;rintro e w2 ⟨rfl,hb2⟩;have z1:=zaa hb2 x1;have z2:=zaa hb2 x2;have z3:=zaa hb2 x3;have z4:=zaa hb2 n1;have z5:=zaa hb2 n2))
       go_wp2_with fail
       go_roundw
       case rel => exact ⟨i + 1,by omega,by go_num,HSN,thn3 hb.drew hb2⟩
       case measure => simp [intOf];omega
      | false =>
       have hR1:=hno rfl
       clear hno
       subst hR1
       go_wp2_with fail
       go_region_held3 (fun w' => (w'.cell? ⟨g,5,none⟩ = some (.slice (some ⟨be,oe,none⟩) 9 ec) /\ w'.cell? ⟨be,oe + plN p,none⟩ = some (.slice (some ⟨ge,0,none⟩) 9 ce) /\ w'.cell? ⟨ge,plN q,none⟩ = some (.bool false)) /\ w'.cell? ⟨bn,i * 2,none⟩ = some (.int .i64 q.1) /\ w'.cell? ⟨bn,i * 2 + 1,none⟩ = some (.int .i64 q.2)) (go_keep) (first | (go_at_call 58;refine (id2 _).mono ?_;rintro e w2 ⟨rfl,hb2⟩;have z1:=zaa hb2 x1;have z2:=zaa hb2 x2;have z3:=zaa hb2 x3;have z4:=zaa hb2 n1;have z5:=zaa hb2 n2))
       go_wp2_with fail
       go_ret
       exact ⟨rfl,thn3 hb.drew hb2⟩
     ·have hR1 : R = true:=by rw [HR3.out];have:=hal.out;rw [List.take_of_length_le (by omega)] at this;exact this
      clear hal HR3
      subst hR1
      go_wp2_with fail
      go_ret
      exact ⟨rfl,hb⟩
end
section
open Go.RowKit
def natC (ns : List Nat) : List Value:=ns.map fun (x : Nat) => Value.int .i64 (x : Int)
theorem zfh (ns : List Nat) : (natC ns).length = ns.length:=by simp [natC]
theorem zec {w : World} {g : Nat} {ns : List Nat} (h : w.rangeAt g 0 (natC ns)) {i x : Nat} (hi : ns[i]? = some x) : w.cell? ⟨g,i,none⟩ = some (.int .i64 (x : Int)):=by
 have:=h i (.int .i64 (x : Int)) (by rw [natC,List.getElem?_map,hi];rfl)
 rwa [Nat.zero_add] at this
theorem zfr {w : World} {b o : Nat} {cs : List Value} (h : w.rangeAt b o cs) (hl : 0 < cs.length) : b < w.heap.size:=zaf (h 0 _ (List.getElem?_eq_getElem hl))
theorem zz3 {xs ys : List Nat} {i x y : Nat} (hx : xs[i]? = some x) (hy : ys[i]? = some y) (h : xs.take i = ys.take i) (hxy : x = y) : xs.take (i + 1) = ys.take (i + 1):=by
 rw [List.take_add_one,List.take_add_one,hx,hy,h,hxy]
theorem zqk (xs ys : List Nat) (hl : xs.length = ys.length) (hn : ys.length <= 1000) (ga ca gb cb : Nat) (w : World) (ha : w.rangeAt ga 0 (natC xs)) (hb : w.rangeAt gb 0 (natC ys)) :
  Calls Tryz.prog 81 #[.slice (some ⟨ga,0,none⟩) ys.length ca,.slice (some ⟨gb,0,none⟩) ys.length cb] w fun e W => e = .returned (.bool (decide (xs = ys))) /\ Below w.heap.size w W:=by
 obtain ⟨R,hR⟩ : ∃ R,R = decide (xs = ys):=⟨_,rfl⟩
 rw [<- hR]
 have HR:= zab hR
 have HA:= zab ha
 have HB:= zab hb
 have HLL:= zab hl
 clear hR ha hb hl
 go_enter Tryz.func81,Tryz.ntmps81
 go_wp2_with fail
 go_loopw [5] (fun vi wr => ∃ i : Nat,i <= ys.length /\ vi = .int .i64 i /\ Hid (xs.take i = ys.take i) /\ Below w.heap.size w wr) (fun i _ => ys.length - (intOf i).toNat)
 case atStart => exact ⟨0,Nat.zero_le _,rfl,(by show _ = _;rfl),Below.refl _ _⟩
 case round =>
  obtain ⟨i,hi,rfl,htk,hb⟩:=hrel
  rename World => w5
  have hx0 := znn i
  by_cases hlt : i < ys.length
  ·obtain ⟨x,hx⟩ : ∃ x,xs[i]? = some x:=⟨xs[i]'(by rw [HLL.out];exact hlt),List.getElem?_eq_getElem _⟩
   obtain ⟨y,hy⟩ : ∃ y,ys[i]? = some y:=⟨ys[i],List.getElem?_eq_getElem hlt⟩
   have c1:=zec (zag hb HA.out) hx
   have c2:=zec (zag hb HB.out) hy
   have hx1 : (i : Int) < (ys.length : Int):=by omega
   by_cases hxy : x = y
   ·have HT:=(zab (zz3 hx hy htk.out hxy))
    subst hxy
    clear htk hx hy
    go_wp2_with fail
    (first | go_region_held3 (fun w' => w'.cell? ⟨ga,i,none⟩ = some (.int .i64 (x : Int)) /\ w'.cell? ⟨gb,i,none⟩ = some (.int .i64 (x : Int))) (go_keep) (fail) | skip)
    go_wp2_with fail
    go_roundw
    case rel => exact ⟨i + 1,by omega,by go_num,HT,hb.drew⟩
    case measure => simp [intOf];omega
   ·have hR1 : R = false:=by
     rw [HR.out];refine decide_eq_false fun e => hxy ?_
     rw [e,hy] at hx;exact (by simpa using hx.symm)
    have hne : ¬ ((x : Int) = (y : Int)):=by omega
    clear htk hx hy HR hxy
    subst hR1
    go_wp2_with fail
    (first | go_region_held3 (fun w' => w'.cell? ⟨ga,i,none⟩ = some (.int .i64 (x : Int)) /\ w'.cell? ⟨gb,i,none⟩ = some (.int .i64 (y : Int))) (go_keep) (fail) | skip)
    go_wp2_with fail
    go_ret
    exact ⟨rfl,hb.drew⟩
  ·have hR1 : R = true:=by
    rw [HR.out];refine decide_eq_true ?_
    have:=htk.out
    rwa [List.take_of_length_le (by have:=HLL.out;omega),List.take_of_length_le (by omega)] at this
   clear htk HR
   subst hR1
   go_wp2_with fail
   go_ret
   exact ⟨rfl,hb⟩
end
end Go.Proofs.YtkkekopomiehlaaGreat
