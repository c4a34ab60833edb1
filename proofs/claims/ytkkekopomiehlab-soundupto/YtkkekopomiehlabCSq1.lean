import Derived.Test.YtkkekopomiehlabCSk1
set_option linter.unusedVariables false
set_option linter.unusedSimpArgs false
set_option maxHeartbeats 40000000
set_option maxRecDepth 4000
namespace Go.Proofs.Ytkkekopomiehlab
section
open Go.RowKit
theorem znl {ns nt : Nat} {ps : List PinD} (h : zav ns nt ps = true) : zci ns nt ps:=fun p hp => by
 unfold zav at h
 rw [Bool.and_eq_true,List.all_eq_true] at h
 obtain ⟨k,hk⟩:=List.getElem?_of_mem hp
 have hkl:=(List.getElem?_eq_some_iff.1 hk).1
 have:=h.2 k (List.mem_range.2 hkl)
 unfold pinK at this
 rw [hk] at this
 simp only [Bool.and_eq_true] at this
 have h1:=this.1
 unfold pinB numB at h1
 simp only [Bool.and_eq_true,Bool.or_eq_true,decide_eq_true_eq,beq_iff_eq] at h1
 obtain ⟨⟨a1,a2⟩,a3⟩:=h1
 refine ⟨a1,?_,?_,?_,?_⟩ <;> omega
theorem zc0 {f : zac} (h : Ord f) (p : Nat) : zci f.ss.length f.ts.length (plOf f p):=by
 unfold plOf
 split
 ·rename_i v hv
  have hv':=(h.parts (List.mem_of_getElem? hv)).2.2.2.2
  rw [List.getD]
  cases hr : v.rels[p % 3]? with
  | none => exact fun q hq => by simp at hq
  | some ps => exact znl (hv' ps (List.mem_of_getElem? hr))
 ·exact fun q hq => by simp at hq
theorem zgw {ss : List ByteArray} (h8 : ss.length <= 8) {x y : Int} (hx : -1 <= x /\ x < ss.length) (hy : -1 <= y /\ y < ss.length) : crB (zas ss) x y = ((decide (x < 0) || decide (y < 0)) || tabI ss x.toNat y.toNat):=by
 unfold crB
 by_cases h1 : x = -1
 ·subst h1;simp
 by_cases h2 : y = -1
 ·subst h2;simp
 have e1 : (x == -1) = false:=by simp [h1]
 have e2 : (y == -1) = false:=by simp [h2]
 have e3 : numB x 8 = true:=by unfold numB;simp;omega
 have e4 : numB y 8 = true:=by unfold numB;simp;omega
 have e5 : decide (x < 0) = false:=by simp;omega
 have e6 : decide (y < 0) = false:=by simp;omega
 rw [e1,e2,e3,e4,e5,e6,zou _ (by omega) (by omega)]
 simp
theorem zhi {ss : List ByteArray} {nt : Nat} (h8 : ss.length <= 8) {p q : PinD} (hp : p.w < ss.length /\ p.r < ss.length /\ -1 <= p.w /\ -1 <= p.r) (hq : q.w < ss.length /\ q.r < ss.length /\ -1 <= q.w /\ -1 <= q.r) : gaB (zas ss) p q = (rdB ss p q && rdB ss q p):=by
 unfold gaB rdB
 rw [zgw h8 ⟨hp.2.2.1,hp.1⟩ ⟨hq.2.2.2,hq.2.1⟩,zgw h8 ⟨hq.2.2.1,hq.1⟩ ⟨hp.2.2.2,hp.2.1⟩]
theorem zea {α : Type} {l : List α} {F G : α -> Bool} (h : ∀ x ∈ l,F x = G x) : l.all F = l.all G:=by
 induction l with
 | nil => rfl
 | cons a l ih => rw [List.all_cons,List.all_cons,h a (by simp),ih (fun x hx => h x (by simp [hx]))]
theorem zk1 {ss : List ByteArray} {ts : List Int} (h8 : ss.length <= 8) {ps qs : List PinD} (hp : zci ss.length ts.length ps) (hq : zci ss.length ts.length qs) : cmpA (zas ss) ps qs = metB ss ts false ps qs:=by
 unfold cmpA metB
 refine zea fun p hpm => zea fun q hqm => ?_
 unfold cpA meB
 rw [zhi (nt:=0) h8 (hp p hpm).2 (hq q hqm).2]
 simp
theorem zk2 {ss : List ByteArray} {ts : List Int} (h8 : ss.length <= 8) {ps qs : List PinD} (hp : zci ss.length ts.length ps) (hq : zci ss.length ts.length qs) : cmpF (zas ss) ts ps qs = metB ss ts true ps qs:=by
 unfold cmpF metB
 refine zea fun p hpm => zea fun q hqm => ?_
 unfold cpF cpA meB
 rw [zhi (nt:=0) h8 (hp p hpm).2 (hq q hqm).2]
 have:=(hp p hpm).1
 rw [show numB p.t ts.length = true by unfold numB;simp;omega]
 rw [show (ts.getD p.t.toNat 0 != 0) = !(ts.getD p.t.toNat 0 == 0) from rfl]
 generalize (ts.getD p.t.toNat 0 == 0) = c
 generalize (p.t != q.t) = a
 generalize (rdB ss p q && rdB ss q p) = b
 cases a <;> cases b <;> cases c <;> rfl
def eB (f : zac) (x y : Nat) : Bool:=metB f.ss f.ts false (plOf f x) (plOf f y)
def kB (f : zac) (x y : Nat) : Bool:=metB f.ss f.ts true (plOf f x) (plOf f y)
theorem zdb {f : zac} (h : Ord f) {p q : Nat} (hp : p < 9) (hq : q < 9) : ((zaf f).alg.getD p []).getD q false = eB f p q:=by
 rw [zkv f hp hq,zk1 (ts:=f.ts) h.ss8 (zc0 h p) (zc0 h q)];rfl
theorem zfh {f : zac} (h : Ord f) {p q : Nat} (hp : p < 9) (hq : q < 9) : ((zaf f).fev.getD p []).getD q false = kB f p q:=by
 rw [zkw f hp hq,zk2 h.ss8 (zc0 h p) (zc0 h q)];rfl
def nowI (f : zac) (s : Nat) : Int:=match f.vs[s]? with | some v => v.now | none => 0
def mvAt (ms : List (Int × Int)) (j : Nat) : Int × Int:=ms.getD j (-1,0)
def rmB (f : zac) (ms : List (Int × Int)) (j : Nat) : Bool:=(numB (mvAt ms j).1 f.vs.length && numB (mvAt ms j).2 (rlen f.vs (mvAt ms j).1.toNat)) && !(hasI (nowI f (mvAt ms j).1.toNat) ms (mvAt ms j).1 j == (mvAt ms j).2)
def plc (m : Int × Int) : Nat:=m.1.toNat * 3 + m.2.toNat
def hsP (f : zac) (ms : List (Int × Int)) (j s : Nat) : Nat:=s * 3 + (hasI (nowI f s) ms s j).toNat
def nwP (f : zac) (s : Nat) : Nat:=s * 3 + (nowI f s).toNat
def rsB (f : zac) (ms : List (Int × Int)) (j : Nat) : Bool :=
 eB f (plc (mvAt ms j)) (plc (mvAt ms j)) && ((List.range f.vs.length).all fun s => eB f (plc (mvAt ms j)) (hsP f ms j s)) && (((List.range f.vs.length).all fun s => kB f (plc (mvAt ms j)) (nwP f s)) && (List.range j).all fun i => kB f (plc (mvAt ms j)) (plc (mvAt ms i)))
def rndB (f : zac) : Bool:=(List.range f.vs.length).all fun s => (List.range f.vs.length).all fun t => eB f (nwP f s) (nwP f t)
def rN (F : Nat -> Bool) : Nat -> Nat -> Nat
 | 0,j => j
 | n + 1,j => if F j = true then rN F n (j + 1) else j
theorem zf2 {vs : List SvcD} {s : Nat} {v : SvcD} (h : vs[s]? = some v) : rlen vs s = v.rels.length:=by unfold rlen;rw [h]
theorem zdv {f : zac} {s : Nat} {v : SvcD} (h : f.vs[s]? = some v) : nowI f s = v.now:=by unfold nowI;rw [h]
theorem zdz (f : zac) (x y : Nat) (hy : y < 3) : thB f (x * 3 + y) = (decide (x < f.vs.length) && decide (y < rlen f.vs x)):=by
 unfold thB rlen
 rw [show (x * 3 + y) / 3 = x by omega,show (x * 3 + y) % 3 = y by omega]
 cases h : f.vs[x]? with
 | none => simp
 | some v => have:=(List.getElem?_eq_some_iff.1 h).1;simp [this]
theorem zdp {f : zac} (p : Nat) : fsB f p = (thB f p && (nowI f (p / 3) == ((p % 3 : Nat) : Int))):=by
 unfold fsB thB nowI
 cases h : f.vs[p / 3]? with
 | none => simp
 | some v =>
  simp only
  rw [show (((p % 3 : Nat) : Int) == v.now) = (v.now == ((p % 3 : Nat) : Int)) from Bool.beq_comm]
theorem Ord.rl {f : zac} (h : Ord f) {s : Nat} (hs : s < f.vs.length) : 1 <= rlen f.vs s /\ rlen f.vs s <= 3 /\ 0 <= nowI f s /\ nowI f s < rlen f.vs s:=by
 obtain ⟨v,hv⟩ : ∃ v,f.vs[s]? = some v:=⟨f.vs[s],List.getElem?_eq_getElem hs⟩
 have:=h.parts (List.mem_of_getElem? hv)
 rw [zf2 hv,zdv hv]
 exact ⟨this.1,this.2.1,this.2.2.1.1,this.2.2.1.2⟩
structure St (f : zac) (ms : List (Int × Int)) (j : Nat) (S : SiD) : Prop where
 ok : S.ok
 has : ∀ p,p < 9 -> S.has.getD p false = (thB f p && (hasI (nowI f (p / 3)) ms ((p / 3 : Nat) : Int) j == ((p % 3 : Nat) : Int)))
 had : ∀ p,p < 9 -> S.had.getD p false = (fsB f p || (List.range j).any fun i => plc (mvAt ms i) == p)
theorem St.zero {f : zac} {ms : List (Int × Int)} : St f ms 0 (begD (zaf f)):=by
 refine ⟨zb4 (zdm f),fun p hp => ?_,fun p hp => ?_⟩
 ·show (zaf f).fst.getD p false = _
  rw [zcu f hp,zdp];rfl
 ·show (zaf f).fst.getD p false = _
  rw [zcu f hp];simp
theorem zcn {f : zac} {ms : List (Int × Int)} {j : Nat} (ho : Ord f) (h : rmB f ms j = true) : ∃ x y : Nat,mvAt ms j = (((x : Nat) : Int),((y : Nat) : Int)) /\ x < f.vs.length /\ y < rlen f.vs x /\ x < 3 /\ y < 3 /\ hasI (nowI f x) ms x j ≠ y:=by
 unfold rmB numB at h
 simp only [Bool.and_eq_true,decide_eq_true_eq,Bool.not_eq_true'] at h
 obtain ⟨⟨⟨a1,a2⟩,a3,a4⟩,a5⟩:=h
 have h3:=ho.vs3
 have hr:=(ho.rl (s:=(mvAt ms j).1.toNat) (by omega)).2.1
 refine ⟨(mvAt ms j).1.toNat,(mvAt ms j).2.toNat,?_,by omega,by omega,by omega,by omega,?_⟩
 ·rw [Int.toNat_of_nonneg a1,Int.toNat_of_nonneg a3]
 ·rw [Int.toNat_of_nonneg a1,Int.toNat_of_nonneg a3]
  intro hc;rw [hc] at a5;simp at a5
theorem zf0 {x y : Nat} (hx : x < 3) (hy : y < 3) : plI (x : Int) (y : Int) = ((x * 3 + y : Nat) : Int):=by
 unfold plI
 rw [show numB (x : Int) 3 = true by unfold numB;simp;omega,show numB (y : Int) 3 = true by unfold numB;simp;omega]
 simp
theorem zhl {l : List Bool} {i p : Nat} {b : Bool} (hi : i < l.length) : (l.set i b).getD p false = if i = p then b else l.getD p false:=by
 rw [List.getD,List.getElem?_set]
 by_cases h : i = p
 ·rw [if_pos h,if_pos hi,if_pos h];rfl
 ·rw [if_neg h,if_neg h];rfl
theorem zfl {now : Int} {ms : List (Int × Int)} {s : Int} {j : Nat} : hasI now ms s (j + 1) = if (mvAt ms j).1 = s then (mvAt ms j).2 else hasI now ms s j:=rfl
theorem St.step {f : zac} {ms : List (Int × Int)} {j : Nat} {S : SiD} (ho : Ord f) (h : St f ms j S) (hm : rmB f ms j = true) : St f ms (j + 1) (aft S (plI (mvAt ms j).1 (mvAt ms j).2)):=by
 obtain ⟨x,y,hxy,hx,hy,hx3,hy3,hne⟩:=zcn ho hm
 rw [hxy]
 simp only
 rw [zf0 hx3 hy3]
 refine ⟨zda h.ok _,fun p hp => ?_,fun p hp => ?_⟩
 ·unfold aft
  rw [if_pos (by omega),Int.toNat_natCast]
  unfold aftD
  simp only
  rw [zhl (by simp;omega),zco _ _ hp,zfl,hxy]
  simp only
  by_cases h1 : p / 3 = x
  ·rw [if_pos (show ((x : Nat) : Int) = ((p / 3 : Nat) : Int) by omega)]
   by_cases h2 : x * 3 + y = p
   ·rw [if_pos h2,<- h2,zdz f x y hy3,show (x * 3 + y) % 3 = y by omega];simp [hx,hy]
   ·rw [if_neg h2,if_pos (by omega),show (((y : Nat) : Int) == ((p % 3 : Nat) : Int)) = false by simp;omega];simp
  ·rw [if_neg (by omega),if_neg (by omega),if_neg (by omega)];exact h.has p hp
 ·unfold aft
  rw [if_pos (by omega),Int.toNat_natCast]
  unfold aftD
  simp only
  rw [zhl (by rw [h.ok.2];omega),List.range_succ,List.any_append,h.had p hp,show ([j].any fun i => plc (mvAt ms i) == p) = (x * 3 + y == p) by simp [plc,hxy]]
  by_cases h2 : x * 3 + y = p
  ·rw [if_pos h2];simp [h2]
  ·rw [if_neg h2]
   rw [show (x * 3 + y == p) = false by simp [h2]]
   rw [Bool.or_false]
theorem zfm {f : zac} {ms : List (Int × Int)} (ho : Ord f) {s : Nat} (hs : s < f.vs.length) : ∀ j,(∀ i,i < j -> rmB f ms i = true) -> 0 <= hasI (nowI f s) ms s j /\ hasI (nowI f s) ms s j < rlen f.vs s
 | 0,_ => (ho.rl hs).2.2
 | j + 1,h => by
  rw [zfl]
  obtain ⟨x,y,hxy,hx,hy,_⟩:=zcn ho (h j (by omega))
  rw [hxy]
  simp only
  by_cases hc : ((x : Nat) : Int) = (s : Int)
  ·rw [if_pos hc]
   obtain rfl : x = s:=by omega
   omega
  ·rw [if_neg hc];exact zfm ho hs j (fun i hi => h i (by omega))
theorem zl6 {f : zac} {ms : List (Int × Int)} {j : Nat} {S : SiD} (ho : Ord f) (h : St f ms j S) : mvB (zaf f) S (plI (mvAt ms j).1 (mvAt ms j).2) = rmB f ms j:=by
 have h3:=ho.vs3
 by_cases hin : (0 <= (mvAt ms j).1 /\ (mvAt ms j).1 < 3) /\ 0 <= (mvAt ms j).2 /\ (mvAt ms j).2 < 3
 ·obtain ⟨x,hx⟩ : ∃ x : Nat,(mvAt ms j).1 = x:=⟨(mvAt ms j).1.toNat,by omega⟩
  obtain ⟨y,hy⟩ : ∃ y : Nat,(mvAt ms j).2 = y:=⟨(mvAt ms j).2.toNat,by omega⟩
  unfold mvB rmB
  rw [hx,hy] at hin ⊢
  rw [zf0 (by omega) (by omega),Int.toNat_natCast,Int.toNat_natCast,zkx f (by omega),h.has _ (by omega),zdz f x y (by omega),show (x * 3 + y) / 3 = x by omega,show (x * 3 + y) % 3 = y by omega]
  rw [show numB ((x * 3 + y : Nat) : Int) 9 = true by unfold numB;simp;omega,show numB (x : Int) f.vs.length = decide (x < f.vs.length) by unfold numB;simp,show numB (y : Int) (rlen f.vs x) = decide (y < rlen f.vs x) by unfold numB;simp]
  cases decide (x < f.vs.length) <;> cases decide (y < rlen f.vs x) <;> simp
 ·have e1 : plI (mvAt ms j).1 (mvAt ms j).2 = -1:=by
   unfold plI
   rw [if_neg]
   unfold numB
   simp only [Bool.and_eq_true,decide_eq_true_eq]
   exact hin
  rw [e1]
  have e2 : mvB (zaf f) S (-1) = false:=by unfold mvB numB;simp
  rw [e2]
  cases hr : rmB f ms j with
  | false => rfl
  | true =>
   exfalso
   obtain ⟨x,y,hxy,_,_,hx3,hy3,_⟩:=zcn ho hr
   rw [hxy] at hin
   simp only at hin
   omega
theorem zhv {c : ChD} {S : SiD} {ms : List (Int × Int)} {j : Nat} (hj : j < ms.length) : ms.drop j = mvAt ms j :: ms.drop (j + 1):=by
 rw [List.drop_eq_getElem_cons hj]
 simp [mvAt,List.getD,List.getElem?_eq_getElem hj]
theorem zhw {f : zac} {ms : List (Int × Int)} (ho : Ord f) : ∀ (n j : Nat) (S : SiD),n = ms.length - j -> j <= ms.length -> St f ms j S -> (∀ i,i < j -> rmB f ms i = true) -> mvsB (zaf f) S (ms.drop j) = (List.range ms.length).all (rmB f ms)
 | 0,j,S,hn,hj,hS,hall => by
  obtain rfl : j = ms.length:=by omega
  rw [List.drop_length,mvsB,eq_comm,List.all_eq_true]
  exact fun i hi => hall i (List.mem_range.1 hi)
 | n + 1,j,S,hn,hj,hS,hall => by
  rw [zhv (c:=zaf f) (S:=S) (by omega),mvsB,zl6 ho hS]
  cases hr : rmB f ms j with
  | false => rw [Bool.false_and];exact (ze7 (show j < ms.length by omega) hr).symm
  | true =>
   rw [Bool.true_and]
   exact zhw ho n (j + 1) _ (by omega) (by omega) (hS.step ho hr) (fun i hi => by
    rcases Nat.lt_succ_iff_lt_or_eq.1 hi with h | h
    ·exact hall i h
    ·rw [h];exact hr)
theorem zoa {f : zac} {ms : List (Int × Int)} {j : Nat} {S : SiD} (ho : Ord f) (h : St f ms j S) (hall : ∀ i,i < j -> rmB f ms i = true) (hm : rmB f ms j = true) : sfB (zaf f) S (plI (mvAt ms j).1 (mvAt ms j).2) = rsB f ms j:=by
 obtain ⟨x,y,hxy,hx,hy,hx3,hy3,hne⟩:=zcn ho hm
 have h3:=ho.vs3
 have hp9 : x * 3 + y < 9:=by omega
 have hpl : plc (mvAt ms j) = x * 3 + y:=by rw [hxy];simp [plc]
 unfold sfB rsB
 rw [hpl,hxy]
 simp only
 rw [zf0 hx3 hy3,Int.toNat_natCast,zdb ho hp9 hp9,show numB ((x * 3 + y : Nat) : Int) 9 = true by unfold numB;simp;omega,Bool.true_and]
 have e1 : algB S.has ((zaf f).alg.getD (x * 3 + y) []) = (List.range f.vs.length).all fun s => eB f (x * 3 + y) (hsP f ms j s):=by
  rw [Bool.eq_iff_iff]
  unfold algB
  rw [List.all_eq_true,List.all_eq_true]
  constructor
  ·intro H s hs
   have hs:=List.mem_range.1 hs
   have hin:=zfm (ms:=ms) ho hs j hall
   have hr:=ho.rl hs
   have hlt : hsP f ms j s < 9:=by unfold hsP;omega
   have:=H (hsP f ms j s) (List.mem_range.2 hlt)
   rw [h.has _ hlt,zdb ho hp9 hlt] at this
   have e : hsP f ms j s = s * 3 + (hasI (nowI f s) ms s j).toNat:=rfl
   rw [e,zdz f s _ (by omega),show (s * 3 + (hasI (nowI f s) ms s j).toNat) / 3 = s by omega,show (s * 3 + (hasI (nowI f s) ms s j).toNat) % 3 = (hasI (nowI f s) ms s j).toNat by omega] at this
   rw [show decide (s < f.vs.length) = true by simp [hs],show decide ((hasI (nowI f s) ms s j).toNat < rlen f.vs s) = true by simp;omega,show (hasI (nowI f s) ms s j == (((hasI (nowI f s) ms s j).toNat : Nat) : Int)) = true by simp;omega] at this
   show eB f (x * 3 + y) (s * 3 + (hasI (nowI f s) ms s j).toNat) = true
   simpa using this
  ·intro H p hp
   have hp:=List.mem_range.1 hp
   rw [h.has _ hp,zdb ho hp9 hp]
   cases ht : thB f p with
   | false => simp
   | true =>
    obtain ⟨v,hv,hr⟩:=zf6 ht
    have hs:=(List.getElem?_eq_some_iff.1 hv).1
    by_cases hc : hasI (nowI f (p / 3)) ms ((p / 3 : Nat) : Int) j = ((p % 3 : Nat) : Int)
    ·have:=H (p / 3) (List.mem_range.2 hs)
     unfold hsP at this
     rw [hc,Int.toNat_natCast,show p / 3 * 3 + p % 3 = p by omega] at this
     simp [this]
    ·rw [beq_false_of_ne hc];simp
 have e2 : algB S.had ((zaf f).fev.getD (x * 3 + y) []) = (((List.range f.vs.length).all fun s => kB f (x * 3 + y) (nwP f s)) && (List.range j).all fun i => kB f (x * 3 + y) (plc (mvAt ms i))):=by
  rw [Bool.eq_iff_iff]
  unfold algB
  rw [Bool.and_eq_true,List.all_eq_true,List.all_eq_true,List.all_eq_true]
  constructor
  ·intro H
   constructor
   ·intro s hs
    have hs:=List.mem_range.1 hs
    have hr:=ho.rl hs
    have hlt : nwP f s < 9:=by unfold nwP;omega
    have:=H (nwP f s) (List.mem_range.2 hlt)
    rw [h.had _ hlt,zfh ho hp9 hlt] at this
    have ef : fsB f (nwP f s) = true:=by
     have e : nwP f s = s * 3 + (nowI f s).toNat:=rfl
     rw [zdp,e,zdz f s _ (by omega),show (s * 3 + (nowI f s).toNat) / 3 = s by omega,show (s * 3 + (nowI f s).toNat) % 3 = (nowI f s).toNat by omega]
     rw [show decide (s < f.vs.length) = true by simp [hs],show decide ((nowI f s).toNat < rlen f.vs s) = true by simp;omega,show (nowI f s == (((nowI f s).toNat : Nat) : Int)) = true by simp;omega]
     rfl
    rw [ef] at this
    simpa using this
   ·intro i hi
    have hi:=List.mem_range.1 hi
    obtain ⟨x',y',hxy',hx',hy',hx3',hy3',_⟩:=zcn ho (hall i hi)
    have hpl' : plc (mvAt ms i) = x' * 3 + y':=by rw [hxy'];simp [plc]
    have hlt : plc (mvAt ms i) < 9:=by omega
    have:=H (plc (mvAt ms i)) (List.mem_range.2 hlt)
    rw [h.had _ hlt,zfh ho hp9 hlt] at this
    have ea : ((List.range j).any fun k => plc (mvAt ms k) == plc (mvAt ms i)) = true:=by
     rw [List.any_eq_true];exact ⟨i,List.mem_range.2 hi,by simp⟩
    rw [ea] at this
    simpa using this
  ·rintro ⟨H1,H2⟩ p hp
   have hp:=List.mem_range.1 hp
   rw [h.had _ hp,zfh ho hp9 hp]
   cases hf : fsB f p with
   | true =>
    rw [zdp,Bool.and_eq_true] at hf
    obtain ⟨v,hv,hr⟩:=zf6 hf.1
    have hs:=(List.getElem?_eq_some_iff.1 hv).1
    have hn : nowI f (p / 3) = ((p % 3 : Nat) : Int):=by simpa using hf.2
    have:=H1 (p / 3) (List.mem_range.2 hs)
    unfold nwP at this
    rw [hn,Int.toNat_natCast,show p / 3 * 3 + p % 3 = p by omega] at this
    simp [this]
   | false =>
    cases ha : (List.range j).any fun i => plc (mvAt ms i) == p with
    | false => simp
    | true =>
     rw [List.any_eq_true] at ha
     obtain ⟨i,hi,he⟩:=ha
     have:=H2 i hi
     rw [show plc (mvAt ms i) = p by simpa using he] at this
     simp [this]
 rw [e1,e2]
theorem zja {f : zac} {ms : List (Int × Int)} (ho : Ord f) (hv : ∀ i,i < ms.length -> rmB f ms i = true) : ∀ (n j : Nat) (S : SiD),n = ms.length - j -> j <= ms.length -> St f ms j S -> sfN (zaf f) S (ms.drop j) + j = rN (rsB f ms) n j
 | 0,j,S,hn,hj,hS => by
  obtain rfl : j = ms.length:=by omega
  rw [List.drop_length,sfN,rN];omega
 | n + 1,j,S,hn,hj,hS => by
  rw [zhv (c:=zaf f) (S:=S) (by omega),sfN,rN,zoa ho hS (fun i hi => hv i (by omega)) (hv j (by omega))]
  by_cases hr : rsB f ms j = true
  ·rw [if_pos hr,if_pos hr,<- zja ho hv n (j + 1) _ (by omega) (by omega) (hS.step ho (hv j (by omega)))];omega
  ·rw [if_neg hr,if_neg hr];omega
theorem zoi {f : zac} (ho : Ord f) : sndB (zaf f) = rndB f:=by
 have h3:=ho.vs3
 rw [Bool.eq_iff_iff]
 unfold sndB rndB algB
 rw [List.all_eq_true,List.all_eq_true]
 have hn : ∀ s,s < f.vs.length -> nwP f s < 9 /\ fsB f (nwP f s) = true:=fun s hs => by
  have hr:=ho.rl hs
  refine ⟨by unfold nwP;omega,?_⟩
  have e : nwP f s = s * 3 + (nowI f s).toNat:=rfl
  rw [zdp,e,zdz f s _ (by omega),show (s * 3 + (nowI f s).toNat) / 3 = s by omega,show (s * 3 + (nowI f s).toNat) % 3 = (nowI f s).toNat by omega]
  rw [show decide (s < f.vs.length) = true by simp [hs],show decide ((nowI f s).toNat < rlen f.vs s) = true by simp;omega,show (nowI f s == (((nowI f s).toNat : Nat) : Int)) = true by simp;omega]
  rfl
 have hb : ∀ p,p < 9 -> fsB f p = true -> ∃ s,s < f.vs.length /\ p = nwP f s:=fun p hp hf => by
  rw [zdp,Bool.and_eq_true] at hf
  obtain ⟨v,hv,hr⟩:=zf6 hf.1
  have hs:=(List.getElem?_eq_some_iff.1 hv).1
  have hn : nowI f (p / 3) = ((p % 3 : Nat) : Int):=by simpa using hf.2
  refine ⟨p / 3,hs,?_⟩
  unfold nwP
  rw [hn,Int.toNat_natCast];omega
 constructor
 ·intro H s hs
  have hs:=List.mem_range.1 hs
  rw [List.all_eq_true]
  intro t ht
  have ht:=List.mem_range.1 ht
  obtain ⟨a1,a2⟩:=hn s hs
  obtain ⟨b1,b2⟩:=hn t ht
  have:=H (nwP f s) (List.mem_range.2 a1)
  rw [zcu f a1,a2] at this
  simp only [Bool.not_true,Bool.false_or] at this
  rw [List.all_eq_true] at this
  have:=this (nwP f t) (List.mem_range.2 b1)
  rw [zcu f b1,b2,zdb ho a1 b1] at this
  simpa using this
 ·intro H p hp
  have hp:=List.mem_range.1 hp
  rw [zcu f hp]
  cases hf : fsB f p with
  | false => simp
  | true =>
   obtain ⟨s,hs,rfl⟩:=hb p hp hf
   simp only [Bool.not_true,Bool.false_or]
   rw [List.all_eq_true]
   intro q hq
   have hq:=List.mem_range.1 hq
   rw [zcu f hq,zdb ho hp hq]
   cases hg : fsB f q with
   | false => simp
   | true =>
    obtain ⟨t,ht,rfl⟩:=hb q hq hg
    have:=H s (List.mem_range.2 hs)
    rw [List.all_eq_true] at this
    simp [this t (List.mem_range.2 ht)]
end
section
open Go.RowKit
theorem zgu {ss : List ByteArray} {ts : List Int} {kept : Bool} {ps qs : List PinD} : claB ss ts kept ps qs = false ↔ ∀ p ∈ ps,∀ q ∈ qs,p.t = q.t -> 0 <= p.w -> 0 <= q.r -> (kept = true -> ¬ 0 < ts.getD p.t.toNat 0) -> tabI ss p.w.toNat q.r.toNat = true:=by
 unfold claB clB
 rw [Bool.eq_false_iff]
 constructor
 ·intro h p hp q hq h1 h2 h3 h4
  cases htab : tabI ss p.w.toNat q.r.toNat with
  | true => rfl
  | false =>
   exfalso
   apply h
   rw [List.any_eq_true]
   refine ⟨p,hp,?_⟩
   rw [List.any_eq_true]
   refine ⟨q,hq,?_⟩
   rw [htab]
   simp only [Bool.and_eq_true,Bool.not_eq_true',beq_iff_eq,decide_eq_true_eq]
   refine ⟨⟨⟨⟨h1,h2⟩,h3⟩,?_⟩,trivial⟩
   cases kept with
   | false => rfl
   | true => rw [decide_eq_false (h4 rfl)];rfl
 ·intro h hc
  rw [List.any_eq_true] at hc
  obtain ⟨p,hp,hc⟩:=hc
  rw [List.any_eq_true] at hc
  obtain ⟨q,hq,hc⟩:=hc
  simp only [Bool.and_eq_true,Bool.not_eq_true',beq_iff_eq,decide_eq_true_eq] at hc
  obtain ⟨⟨⟨⟨h1,h2⟩,h3⟩,h4⟩,h5⟩:=hc
  rw [h p hp q hq h1 h2 h3 (fun hk => by rw [hk] at h4;simpa using h4)] at h5
  cases h5
theorem zl4 {ss : List ByteArray} {ts : List Int} {kept : Bool} {ps qs : List PinD} : metB ss ts kept ps qs = true ↔ ∀ p ∈ ps,∀ q ∈ qs,p.t = q.t -> (kept = true -> ts.getD p.t.toNat 0 = 0) -> rdB ss p q = true /\ rdB ss q p = true:=by
 unfold metB
 rw [List.all_eq_true]
 refine ⟨fun h p hp q hq h1 h2 => ?_,fun h p hp => ?_⟩
 ·have:=List.all_eq_true.1 (h p hp) q hq
  unfold meB at this
  simp only [Bool.or_eq_true,Bool.and_eq_true,bne_iff_ne,ne_eq] at this
  rcases this with (h3 | ⟨h3,h4⟩) | h3
  ·exact (h3 h1).elim
  ·exact (h4 (h2 h3)).elim
  ·exact h3
 ·rw [List.all_eq_true]
  intro q hq
  unfold meB
  simp only [Bool.or_eq_true,Bool.and_eq_true,bne_iff_ne,ne_eq]
  by_cases h1 : p.t = q.t
  ·by_cases h2 : kept = true -> ts.getD p.t.toNat 0 = 0
   ·exact .inr (h p hp q hq h1 h2)
   ·exact .inl (.inr ⟨Classical.byContradiction fun h3 => h2 fun h4 => (h3 h4).elim,fun h3 => h2 fun _ => h3⟩)
  ·exact .inl (.inl h1)
theorem zeq {ss : List ByteArray} {p q : PinD} : rdB ss p q = true ↔ (0 <= p.w -> 0 <= q.r -> tabI ss p.w.toNat q.r.toNat = true):=by
 unfold rdB
 simp only [Bool.or_eq_true,decide_eq_true_eq]
 constructor
 ·intro h h1 h2
  rcases h with (h | h) | h
  iterate 2
   ·omega
  ·exact h
 ·intro h
  by_cases h1 : p.w < 0
  ·exact .inl (.inl h1)
  ·by_cases h2 : q.r < 0
   ·exact .inl (.inr h2)
   ·exact .inr (h (by omega) (by omega))
theorem zec {ss : List ByteArray} {ts : List Int} (hts : ∀ k,0 <= ts.getD k 0) {kept : Bool} {ps qs : List PinD} : (claB ss ts kept ps qs || claB ss ts kept qs ps) = !metB ss ts kept ps qs:=by
 have h0 : ∀ k,(¬ 0 < ts.getD k 0) ↔ ts.getD k 0 = 0:=fun k => by have:=hts k;omega
 have key : metB ss ts kept ps qs = true ↔ claB ss ts kept ps qs = false /\ claB ss ts kept qs ps = false:=by
  rw [zl4,zgu,zgu]
  constructor
  ·intro h
   refine ⟨fun p hp q hq h1 h2 h3 h4 => ?_,fun q hq p hp h1 h2 h3 h4 => ?_⟩
   ·exact zeq.1 (h p hp q hq h1 (fun hk => (h0 _).1 (h4 hk))).1 h2 h3
   ·exact zeq.1 (h p hp q hq h1.symm (fun hk => by rw [<- h1];exact (h0 _).1 (h4 hk))).2 h2 h3
  ·rintro ⟨h1,h2⟩ p hp q hq h3 h4
   exact ⟨zeq.2 fun h5 h6 => h1 p hp q hq h3 h5 h6 (fun hk => (h0 _).2 (h4 hk)),zeq.2 fun h5 h6 => h2 q hq p hp h3.symm h5 h6 (fun hk => by rw [<- h3];exact (h0 _).2 (h4 hk))⟩
 cases h1 : claB ss ts kept ps qs <;> cases h2 : claB ss ts kept qs ps <;> cases h3 : metB ss ts kept ps qs <;> simp_all
theorem zky {ss : List ByteArray} {ts : List Int} (hts : ∀ k,0 <= ts.getD k 0) {kept : Bool} {ps : List PinD} : claB ss ts kept ps ps = !metB ss ts kept ps ps:=by
 rw [<- zec hts];simp
theorem zmt {f : zac} (h : zbo f.ts = true) (k : Nat) : 0 <= f.ts.getD k 0:=by
 unfold zbo at h
 rw [Bool.and_eq_true,List.all_eq_true] at h
 rw [List.getD]
 cases hk : f.ts[k]? with
 | none => exact Int.le_refl _
 | some x =>
  have:=h.2 x (List.mem_of_getElem? hk)
  unfold topB at this
  rw [Bool.and_eq_true] at this
  exact of_decide_eq_true this.1
theorem ziq {f : zac} {s a : Nat} {v : SvcD} {ps : List PinD} (h3 : a < 3) (hs : f.vs[s]? = some v) (ha : v.rels[a]? = some ps) : plOf f (s * 3 + a) = ps:=by
 unfold plOf
 rw [show (s * 3 + a) / 3 = s by omega,show (s * 3 + a) % 3 = a by omega,hs]
 show v.rels.getD a [] = ps
 rw [List.getD,ha];rfl
end
section
open Go.RowKit
theorem zpk {s : ByteArray} (hs : 60 < s.size) (hm : s.size <= maxLen) (w : World) :
  Calls Try.prog 45 #[.string s] w fun e w' => e = .returned (.tuple #[.agg #[.int .i64 0,.string ByteArray.empty,.bool false,.slice none 0 0,.slice none 0 0],.int .i64 1]) /\ Below w.heap.size w w':=by
 unfold maxLen at hm
 go_enter Try.func45,Try.ntmps45
 go_wp2_with fail
 exact bodyPost_ret (v:=.tuple #[.agg #[.int .i64 0,.string ByteArray.empty,.bool false,.slice none 0 0,.slice none 0 0],.int .i64 1]) (by simp [results,Try.results45,go_sem];rfl) rfl ⟨rfl,(Below.refl _ _).alloc (Nat.le_refl _) _⟩
theorem zcr {s : ByteArray} (hs : s.size <= 60) (w : World) :
  Calls Try.prog 45 #[.string s] w fun e w' => TRet w.heap.size s.size (.int .i64 2) (.int .i64 0) (pAll false s) e w' /\ Below w.heap.size w w':=by
 have _hs : s.size <= 9000000:=by omega
 have hB : ∀ o,Below w.heap.size w (w.alloc o):=fun o => (Below.refl _ _).alloc (Nat.le_refl _) _
 cases hx : pAll false s with
 | none =>
  have hcall:=fun w => zd8 (zd7 hs w) hx
  clear hx
  go_enter Try.func45,Try.ntmps45
  go_wp2_with (go_at_call 52;refine (hcall _).mono ?_;rintro e w1 ⟨rfl,hb1⟩;obtain ⟨hc1,hf1⟩:=zaj hb1;have hz1 : w.heap.size < w1.heap.size:=(by have:=hb1.size;simp at this;omega))
  exact bodyPost_ret (v:=.tuple #[.agg #[.int .i64 0,.string ByteArray.empty,.bool false,.slice none 0 0,.slice none 0 0],.int .i64 2]) (by simp [results,Try.results45,go_sem,hc1,hz1];rfl) rfl ⟨rfl,Below.alloc' (Below.set5 ((hB _).trans (hb1.mono (by simp))) (Nat.le_refl _)) _⟩
 | some ty =>
  have hcall:=fun w => zc9 (zd7 hs w) hx
  clear hx
  go_enter Try.func45,Try.ntmps45
  go_wp2_with (go_at_call 52;refine (hcall _).mono ?_;rintro e w1 ⟨ai,li,ci,af,lf,cf,rfl,hr1,hb1⟩;obtain ⟨hc1,hf1⟩:=zaj hb1;have hz1 : w.heap.size < w1.heap.size:=(by have:=hb1.size;simp at this;omega))
  refine bodyPost_ret (v:=.tuple #[.agg #[.int .i64 ty.kind,.string ty.letters,.bool ty.op,.slice ai li ci,.slice af lf cf],.int .i64 0]) (by simp [results,Try.results45,go_sem,hc1,hz1]) rfl ?_
  exact ⟨⟨ai,li,ci,af,lf,cf,rfl,(hr1.keep (fun b o v hS h => zam _ (zbg h (by simp at hS;omega)))).imp (fun b _ h => by simp at h;omega)⟩,Below.alloc' (Below.set5 ((hB _).trans (hb1.mono (by simp))) (Nat.le_refl _)) _⟩
end
end Go.Proofs.Ytkkekopomiehlab
