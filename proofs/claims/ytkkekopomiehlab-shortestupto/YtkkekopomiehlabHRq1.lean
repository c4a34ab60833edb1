import Derived.Test.YtkkekopomiehlabHSk3
set_option linter.unusedVariables false
set_option linter.unusedSimpArgs false
set_option maxHeartbeats 40000000
set_option maxRecDepth 4000
namespace Go.Proofs.Ytkkekopomiehlab
section
open Go.RowKit
structure RQ (f : zad) (s : SiD) (now had : List Nat) : Prop where
 ok : s.ok
 ln : now.length = f.vs.length
 lh : had.length = f.vs.length
 nr : ∀ (i y : Nat),now[i]? = some y -> y < rlen f.vs i
 h8 : ∀ (i h : Nat),had[i]? = some h -> h < 8
 hr : ∀ (i h r : Nat),had[i]? = some h -> r < 3 -> bitB h r = true -> r < rlen f.vs i
 hs : ∀ p,p < 9 -> s.has.getD p false = (decide (p / 3 < f.vs.length) && decide (now.getD (p / 3) 0 = p % 3))
 hd : ∀ p,p < 9 -> s.had.getD p false = (decide (p / 3 < f.vs.length) && bitB (had.getD (p / 3) 0) (p % 3))
theorem zd9 {h r t : Nat} (hh : h < 8) (hr : r < 3) (ht : t < 3) : bitB (h ||| 2 ^ r) t = (bitB h t || decide (t = r)):=by
 rcases lt8 hh with rfl | rfl | rfl | rfl | rfl | rfl | rfl | rfl <;> rcases lt3 hr with rfl | rfl | rfl <;> rcases lt3 ht with rfl | rfl | rfl <;> rfl
theorem ze9 {r t : Nat} (hr : r < 3) (ht : t < 3) : bitB (2 ^ r) t = decide (t = r):=by
 rcases lt3 hr with rfl | rfl | rfl <;> rcases lt3 ht with rfl | rfl | rfl <;> rfl
theorem zmx {h r : Nat} (hh : h < 8) (hr : r < 3) : h ||| 2 ^ r < 8:=by
 rcases lt8 hh with rfl | rfl | rfl | rfl | rfl | rfl | rfl | rfl <;> rcases lt3 hr with rfl | rfl | rfl <;> decide
theorem znv {r : Nat} (hr : r < 3) : 2 ^ r < 8:=by rcases lt3 hr with rfl | rfl | rfl <;> decide
theorem zgv {h k : Nat} (hh : h < 8) (hk : k < 8) (e0 : bitB h 0 = bitB k 0) (e1 : bitB h 1 = bitB k 1) (e2 : bitB h 2 = bitB k 2) : h = k:=by
 rcases lt8 hh with rfl | rfl | rfl | rfl | rfl | rfl | rfl | rfl <;> rcases lt8 hk with rfl | rfl | rfl | rfl | rfl | rfl | rfl | rfl <;> first | rfl | exact absurd e0 (by decide) | exact absurd e1 (by decide) | exact absurd e2 (by decide)
theorem zax {l : List Nat} {i y : Nat} (h : l[i]? = some y) : l.getD i 0 = y:=by rw [List.getD,h];rfl
theorem zdu {F : Nat -> Nat} {n i : Nat} (h : i < n) : ((List.range n).map F)[i]? = some (F i):=by rw [List.getElem?_map,List.getElem?_range h];rfl
theorem zbz {F : Nat -> Nat} {n i y : Nat} (h : ((List.range n).map F)[i]? = some y) : i < n /\ y = F i:=by
 have hl:=(List.getElem?_eq_some_iff.1 h).1
 rw [List.length_map,List.length_range] at hl
 rw [zdu hl] at h
 exact ⟨hl,by simpa using h.symm⟩
theorem RQ.get {f : zad} {s : SiD} {now had : List Nat} (h : RQ f s now had) {i : Nat} (hi : i < f.vs.length) : ∃ y b,now[i]? = some y /\ had[i]? = some b /\ y < rlen f.vs i /\ b < 8:=by
 obtain ⟨y,hy⟩ : ∃ y,now[i]? = some y:=⟨now[i]'(by rw [h.ln];exact hi),List.getElem?_eq_getElem _⟩
 obtain ⟨b,hb⟩ : ∃ b,had[i]? = some b:=⟨had[i]'(by rw [h.lh];exact hi),List.getElem?_eq_getElem _⟩
 exact ⟨y,b,hy,hb,h.nr i y hy,h.h8 i b hb⟩
theorem RQ.start {f : zad} (ho : Ord f) : RQ f (begD (zac f)) ((List.range f.vs.length).map fun s => (nowI f s).toNat) ((List.range f.vs.length).map fun s => 2 ^ (nowI f s).toNat):=by
 refine ⟨zbx (za1 f),by simp,by simp,fun i y h => ?_,fun i h hh => ?_,fun i h r hh hr hb => ?_,fun p hp => ?_,fun p hp => ?_⟩
 ·obtain ⟨hl,rfl⟩:=zbz h;have:=ho.rl hl;omega
 ·obtain ⟨hl,rfl⟩:=zbz hh;have:=ho.rl hl;exact znv (by omega)
 ·obtain ⟨hl,rfl⟩:=zbz hh
  have:=ho.rl hl
  rw [ze9 (by omega) hr] at hb
  have:=of_decide_eq_true hb
  omega
 ·show (zac f).fst.getD p false = _
  rw [zeb f hp,zfm]
  by_cases hl : p / 3 < f.vs.length
  ·have hrl:=ho.rl hl
   have h1:=zco f (p / 3) (p % 3) (by omega)
   rw [show p / 3 * 3 + p % 3 = p by omega] at h1
   rw [h1,zax (zdu hl)]
   rw [Bool.eq_iff_iff];simp [hl];omega
  ·have h1:=zco f (p / 3) (p % 3) (by omega)
   rw [show p / 3 * 3 + p % 3 = p by omega] at h1
   rw [h1];simp [hl]
 ·show (zac f).fst.getD p false = _
  rw [zeb f hp,zfm]
  have h1:=zco f (p / 3) (p % 3) (by omega)
  rw [show p / 3 * 3 + p % 3 = p by omega] at h1
  by_cases hl : p / 3 < f.vs.length
  ·have hrl:=ho.rl hl
   rw [h1,zax (zdu hl),ze9 (by omega) (by omega)]
   rw [Bool.eq_iff_iff];simp [hl];omega
  ·rw [h1];simp [hl]
theorem zmh {xs : List Nat} {a r n i : Nat} (h : i < n) : (nowS xs a r n)[i]? = some (if i = a then r else xs.getD i 0):=zdu h
theorem zlt {xs : List Nat} {a r n i : Nat} (h : i < n) : (hadS xs a r n)[i]? = some (if i = a then xs.getD i 0 ||| 2 ^ r else xs.getD i 0):=zdu h
theorem RQ.step {f : zad} (ho : Ord f) {s : SiD} {now had : List Nat} (h : RQ f s now had) {x y : Nat} (hx : x < f.vs.length) (hy : y < rlen f.vs x) : RQ f (aft s ((x * 3 + y : Nat) : Int)) (nowS now x y f.vs.length) (hadS had x y f.vs.length):=by
 have h3:=ho.vs3
 have hy3 : y < 3:=by have:=ho.rl hx;omega
 have hp9 : x * 3 + y < 9:=by omega
 refine ⟨zcs h.ok _,by simp [nowS],by simp [hadS],fun i z hz => ?_,fun i b hb => ?_,fun i b r hb hr hbit => ?_,fun p hp => ?_,fun p hp => ?_⟩
 ·obtain ⟨hl,rfl⟩:=zbz hz
  obtain ⟨u,v,hu,hv,hur,hv8⟩:=h.get hl
  by_cases hix : i = x
  ·subst hix;rw [if_pos rfl];exact hy
  ·rw [if_neg hix,zax hu];exact hur
 ·obtain ⟨hl,rfl⟩:=zbz hb
  obtain ⟨u,v,hu,hv,hur,hv8⟩:=h.get hl
  rw [zax hv]
  split
  ·exact zmx hv8 hy3
  ·exact hv8
 ·obtain ⟨hl,rfl⟩:=zbz hb
  obtain ⟨u,v,hu,hv,hur,hv8⟩:=h.get hl
  rw [zax hv] at hbit
  by_cases hix : i = x
  ·subst hix
   rw [if_pos rfl,zd9 hv8 hy3 hr,Bool.or_eq_true] at hbit
   rcases hbit with hbit | hbit
   ·exact h.hr i v r hv hr hbit
   ·have:=of_decide_eq_true hbit;omega
  ·rw [if_neg hix] at hbit
   exact h.hr i v r hv hr hbit
 ·unfold aft
  rw [if_pos (by omega),Int.toNat_natCast]
  unfold aftD
  simp only
  rw [zee (by simp;omega),zdv _ _ hp,show (x * 3 + y) / 3 = x by omega]
  by_cases hl : p / 3 < f.vs.length
  ·rw [zax (zmh hl)]
   by_cases h1 : p / 3 = x
   ·rw [if_pos h1,if_pos h1]
    rw [Bool.eq_iff_iff]
    simp only [Bool.and_eq_true,decide_eq_true_eq]
    by_cases h2 : x * 3 + y = p
    ·rw [if_pos h2];simp;omega
    ·rw [if_neg h2];simp;omega
   ·rw [if_neg (by omega),if_neg h1,if_neg h1,h.hs p hp]
  ·rw [if_neg (by omega),if_neg (by omega),h.hs p hp];simp [hl]
 ·unfold aft
  rw [if_pos (by omega),Int.toNat_natCast]
  unfold aftD
  simp only
  rw [zee (by rw [h.ok.2];omega),h.hd p hp]
  by_cases hl : p / 3 < f.vs.length
  ·obtain ⟨u,v,hu,hv,hur,hv8⟩:=h.get hl
   rw [zax (zlt hl),zax hv]
   by_cases h1 : p / 3 = x
   ·rw [if_pos h1,zd9 hv8 hy3 (by omega)]
    by_cases h2 : x * 3 + y = p
    ·rw [if_pos h2,show decide (p % 3 = y) = true by simp;omega];simp [hl]
    ·rw [if_neg h2,show decide (p % 3 = y) = false by simp;omega];simp
   ·rw [if_neg (by omega),if_neg h1]
  ·rw [if_neg (by omega)];simp [hl]
theorem RQ.inj {f : zad} (ho : Ord f) {s t : SiD} {now had now' had' : List Nat} (h : RQ f s now had) (k : RQ f t now' had') : s = t ↔ (now = now' /\ had = had'):=by
 have h3:=ho.vs3
 constructor
 ·rintro rfl
  have hpl : ∀ i r,i < f.vs.length -> r < 3 -> (i * 3 + r) / 3 = i /\ (i * 3 + r) % 3 = r /\ i * 3 + r < 9:=fun i r hi hr => by omega
  constructor
  ·refine List.ext_getElem (by rw [h.ln,k.ln]) fun i h1 h2 => ?_
   have hi : i < f.vs.length:=by rw [<- h.ln];exact h1
   have hrl:=ho.rl hi
   obtain ⟨u,v,hu,hv,hur,hv8⟩:=h.get hi
   obtain ⟨u',v',hu',hv',hur',hv8'⟩:=k.get hi
   have e1 : now[i] = u:=by rw [List.getElem?_eq_getElem h1] at hu;simpa using hu
   have e2 : now'[i] = u':=by rw [List.getElem?_eq_getElem h2] at hu';simpa using hu'
   obtain ⟨a1,a2,a3⟩:=hpl i u hi (by omega)
   have q1:=h.hs (i * 3 + u) a3
   have q2:=k.hs (i * 3 + u) a3
   rw [q1,a1,a2,zax hu,zax hu'] at q2
   simp [hi] at q2
   rw [e1,e2,q2]
  ·refine List.ext_getElem (by rw [h.lh,k.lh]) fun i h1 h2 => ?_
   have hi : i < f.vs.length:=by rw [<- h.lh];exact h1
   obtain ⟨u,v,hu,hv,hur,hv8⟩:=h.get hi
   obtain ⟨u',v',hu',hv',hur',hv8'⟩:=k.get hi
   have e1 : had[i] = v:=by rw [List.getElem?_eq_getElem h1] at hv;simpa using hv
   have e2 : had'[i] = v':=by rw [List.getElem?_eq_getElem h2] at hv';simpa using hv'
   have q : ∀ r,r < 3 -> bitB v r = bitB v' r:=fun r hr => by
    obtain ⟨a1,a2,a3⟩:=hpl i r hi hr
    have q1:=h.hd (i * 3 + r) a3
    have q2:=k.hd (i * 3 + r) a3
    rw [q1,a1,a2,zax hv,zax hv'] at q2
    simpa [hi] using q2
   rw [e1,e2]
   exact zgv hv8 hv8' (q 0 (by omega)) (q 1 (by omega)) (q 2 (by omega))
 ·rintro ⟨rfl,rfl⟩
  rw [SiD.eq_iff]
  constructor
  ·refine List.ext_getElem (by rw [h.ok.1,k.ok.1]) fun p h1 h2 => ?_
   have q1:=h.hs p (by rw [<- h.ok.1];exact h1)
   have q2:=k.hs p (by rw [<- h.ok.1];exact h1)
   rw [<- q1] at q2
   simpa [List.getD,h1,h2] using q2.symm
  ·refine List.ext_getElem (by rw [h.ok.2,k.ok.2]) fun p h1 h2 => ?_
   have q1:=h.hd p (by rw [<- h.ok.2];exact h1)
   have q2:=k.hd p (by rw [<- h.ok.2];exact h1)
   rw [<- q1] at q2
   simpa [List.getD,h1,h2] using q2.symm
end
section
open Go.RowKit
structure RB (f : zad) (s : SiD) (now had : List Nat) : Prop where
 q : RQ f s now had
 b : ∀ (i y h : Nat),now[i]? = some y -> had[i]? = some h -> bitB h y = true /\ bitB h (nowI f i).toNat = true
theorem RB.start {f : zad} (ho : Ord f) : RB f (begD (zac f)) ((List.range f.vs.length).map fun s => (nowI f s).toNat) ((List.range f.vs.length).map fun s => 2 ^ (nowI f s).toNat):=by
 refine ⟨RQ.start ho,fun i y h hy hh => ?_⟩
 obtain ⟨hi,rfl⟩:=zbz hy
 obtain ⟨_,rfl⟩:=zbz hh
 obtain ⟨_,h3,h0,h1⟩:=ho.rl hi
 have : (nowI f i).toNat < 3:=by omega
 rw [ze9 this this]
 simp
theorem RB.step {f : zad} (ho : Ord f) {s y : SiD} {now had : List Nat} (h : RB f s now had) {p : Nat} (hy : nxS (zac f) s p = some y) : ∃ now' had',RB f y now' had':=by
 have hm : mvB (zac f) s (p : Int) = true:=by
  unfold nxS at hy
  split at hy
  ·assumption
  ·cases hy
 have hp : p < 9:=by
  unfold mvB numB at hm
  simp only [Bool.and_eq_true,decide_eq_true_eq] at hm
  omega
 have ht : thB f p = true:=by
  cases ht : thB f p with
  | true => rfl
  | false =>
   unfold mvB at hm
   rw [Int.toNat_natCast,zg0 f hp,ht] at hm
   simp at hm
 have hya : y = aft s (p : Int):=by
  unfold nxS at hy
  rw [if_pos hm] at hy
  split at hy
  ·cases hy;rfl
  ·cases hy
 have hpe : p = p / 3 * 3 + p % 3:=by omega
 rw [hpe,zco f _ _ (by omega),Bool.and_eq_true,decide_eq_true_eq,decide_eq_true_eq] at ht
 have hq:=h.q.step ho ht.1 ht.2
 rw [<- hpe,<- hya] at hq
 refine ⟨_,_,hq,fun i z k hz hk => ?_⟩
 obtain ⟨hi,hz'⟩:=zbz hz
 obtain ⟨_,hk'⟩:=zbz hk
 obtain ⟨z0,k0,h1,h2,h3,h4⟩:=h.q.get hi
 obtain ⟨b1,b2⟩:=h.b i z0 k0 h1 h2
 obtain ⟨_,r3,n0,n1⟩:=ho.rl hi
 rw [zax h1] at hz'
 rw [zax h2] at hk'
 have hp3 : p % 3 < 3:=by omega
 by_cases e : i = p / 3
 ·rw [if_pos e] at hz' hk'
  subst hz' hk'
  rw [zd9 h4 hp3 hp3,zd9 h4 hp3 (by omega),b2]
  simp
 ·rw [if_neg e] at hz' hk'
  subst hz' hk'
  exact ⟨b1,b2⟩
def cdB (a n h : Nat) : Nat :=
 let x:=if a = 0 then 1 else 0
 let y:=if a = 2 then 1 else 2
 match bitB h x,bitB h y with
 | false,false => 0
 | true,false => if n = a then 1 else 2
 | false,true => if n = a then 3 else 4
 | true,true => if n = a then 5 else if n = x then 6 else 7
theorem zk1 : ∀ a < 3,∀ n < 3,∀ h < 8,cdB a n h < 8:=by decide
theorem zkz : ((List.range 3).all fun a => (List.range 3).all fun n => (List.range 8).all fun h => (List.range 3).all fun m => (List.range 8).all fun k => !(bitB h n && bitB h a && bitB k m && bitB k a && (cdB a n h == cdB a m k)) || (n == m && h == k)) = true:=by decide +kernel
theorem zk0 {a n h m k : Nat} (ha : a < 3) (hn : n < 3) (hh : h < 8) (hm : m < 3) (hk : k < 8) (h1 : bitB h n = true) (h2 : bitB h a = true) (h3 : bitB k m = true) (h4 : bitB k a = true) (h5 : cdB a n h = cdB a m k) : n = m /\ h = k:=by
 have:=List.all_eq_true.1 (List.all_eq_true.1 (List.all_eq_true.1 (List.all_eq_true.1 (List.all_eq_true.1 zkz a (List.mem_range.2 ha)) n (List.mem_range.2 hn)) h (List.mem_range.2 hh)) m (List.mem_range.2 hm)) k (List.mem_range.2 hk)
 rw [h1,h2,h3,h4,h5] at this
 simpa using this
def cdI (f : zad) (now had : List Nat) (i : Nat) : Nat:=if i < f.vs.length then cdB (nowI f i).toNat (now.getD i 0) (had.getD i 0) else 0
def cdL (f : zad) (now had : List Nat) : Nat:=cdI f now had 0 + 8 * cdI f now had 1 + 64 * cdI f now had 2
theorem RB.parts {f : zad} (ho : Ord f) {s : SiD} {now had : List Nat} (h : RB f s now had) {i : Nat} (hi : i < f.vs.length) : (nowI f i).toNat < 3 /\ now.getD i 0 < 3 /\ had.getD i 0 < 8 /\ bitB (had.getD i 0) (now.getD i 0) = true /\ bitB (had.getD i 0) (nowI f i).toNat = true:=by
 obtain ⟨z0,k0,h1,h2,h3,h4⟩:=h.q.get hi
 obtain ⟨b1,b2⟩:=h.b i z0 k0 h1 h2
 obtain ⟨_,r3,n0,n1⟩:=ho.rl hi
 rw [zax h1,zax h2]
 exact ⟨by omega,by omega,h4,b1,b2⟩
theorem zde {f : zad} (ho : Ord f) {s : SiD} {now had : List Nat} (h : RB f s now had) (i : Nat) : cdI f now had i < 8:=by
 unfold cdI
 split
 ·rename_i hi
  obtain ⟨a,b,c,_,_⟩:=h.parts ho hi
  exact zk1 _ a _ b _ c
 ·omega
theorem RB.inj {f : zad} (ho : Ord f) {s t : SiD} {now had now' had' : List Nat} (h : RB f s now had) (k : RB f t now' had') (hc : cdL f now had = cdL f now' had') : s = t:=by
 have h3:=ho.vs3
 have l:=fun i => zde ho h i
 have m:=fun i => zde ho k i
 have l0:=l 0;have l1:=l 1;have l2:=l 2
 have m0:=m 0;have m1:=m 1;have m2:=m 2
 unfold cdL at hc
 have e : ∀ i,i < 3 -> cdI f now had i = cdI f now' had' i:=fun i hi => by
  rcases lt3 hi with rfl | rfl | rfl <;> omega
 have key : ∀ i,i < f.vs.length -> now.getD i 0 = now'.getD i 0 /\ had.getD i 0 = had'.getD i 0:=fun i hi => by
  have:=e i (by omega)
  unfold cdI at this
  rw [if_pos hi,if_pos hi] at this
  obtain ⟨a1,a2,a3,a4,a5⟩:=h.parts ho hi
  obtain ⟨_,c2,c3,c4,c5⟩:=k.parts ho hi
  exact zk0 a1 a2 a3 c2 c3 a4 a5 c4 c5 this
 refine (h.q.inj ho k.q).2 ⟨?_,?_⟩
 ·refine List.ext_getElem? fun i => ?_
  by_cases hi : i < f.vs.length
  ·obtain ⟨z,_,hz,_,_,_⟩:=h.q.get hi
   obtain ⟨z',_,hz',_,_,_⟩:=k.q.get hi
   have:=(key i hi).1
   rw [zax hz,zax hz'] at this
   rw [hz,hz',this]
  ·rw [List.getElem?_eq_none (by rw [h.q.ln];omega),List.getElem?_eq_none (by rw [k.q.ln];omega)]
 ·refine List.ext_getElem? fun i => ?_
  by_cases hi : i < f.vs.length
  ·obtain ⟨_,z,_,hz,_,_⟩:=h.q.get hi
   obtain ⟨_,z',_,hz',_,_⟩:=k.q.get hi
   have:=(key i hi).2
   rw [zax hz,zax hz'] at this
   rw [hz,hz',this]
  ·rw [List.getElem?_eq_none (by rw [h.q.lh];omega),List.getElem?_eq_none (by rw [k.q.lh];omega)]
theorem zo7 {f : zad} (ho : Ord f) : (zap (zac f)).length <= 512:=by
 classical
 obtain ⟨K,hK⟩:=zc6 (za1 f)
 have hI:=zdy (za1 f) hK
 have hP : ∀ (j : Nat) (a : TS SiD),(zap (zac f))[j]? = some a -> ∃ now had,RB f a.now now had:=by
  rw [<- zcd (za1 f) hK]
  exact zc5 (P:=fun s => ∃ now had,RB f s now had) ⟨_,_,RB.start ho⟩ (fun s p y ⟨now,had,h⟩ hy => h.step ho hy) K
 refine hI.len (P:=fun s => ∃ now had,RB f s now had) hP (fun s => if h : ∃ q : List Nat × List Nat,RB f s q.1 q.2 then cdL f (Classical.choose h).1 (Classical.choose h).2 else 0) (fun x y hx hy hc => ?_) (fun x hx => ?_)
 ·obtain ⟨n1,h1,hx⟩:=hx
  obtain ⟨n2,h2,hy⟩:=hy
  have ex : ∃ q : List Nat × List Nat,RB f x q.1 q.2:=⟨(n1,h1),hx⟩
  have ey : ∃ q : List Nat × List Nat,RB f y q.1 q.2:=⟨(n2,h2),hy⟩
  simp only [dif_pos ex,dif_pos ey] at hc
  exact (Classical.choose_spec ex).inj ho (Classical.choose_spec ey) hc
 ·obtain ⟨n1,h1,hx⟩:=hx
  have ex : ∃ q : List Nat × List Nat,RB f x q.1 q.2:=⟨(n1,h1),hx⟩
  simp only [dif_pos ex]
  have l0:=zde ho (Classical.choose_spec ex) 0
  have l1:=zde ho (Classical.choose_spec ex) 1
  have l2:=zde ho (Classical.choose_spec ex) 2
  unfold cdL;omega
end
section
open Go.RowKit
def b1 (x : Bool) : Nat:=if x = true then 1 else 0
def hcI (s : SiD) (i : Nat) : Nat:=b1 (s.had.getD (i * 3) false) + b1 (s.had.getD (i * 3 + 1) false) + b1 (s.had.getD (i * 3 + 2) false)
def hcS (s : SiD) : Nat:=hcI s 0 + hcI s 1 + hcI s 2
def ccI (s : SiD) (i : Nat) : Nat:=if s.has.getD (i * 3 + 1) false = true then 1 else if s.has.getD (i * 3 + 2) false = true then 2 else 0
def ccS (s : SiD) : Nat:=ccI s 0 + 3 * ccI s 1 + 9 * ccI s 2
theorem ze7 (x : Bool) : b1 x <= 1:=by cases x <;> decide
theorem zbc (s : SiD) (i : Nat) : ccI s i < 3:=by unfold ccI;split;omega;split <;> omega
def subS (s t : SiD) : Prop:=∀ p,p < 9 -> s.had.getD p false = true -> t.had.getD p false = true
theorem subS.trans {s t u : SiD} (h : subS s t) (k : subS t u) : subS s u:=fun p hp hs => k p hp (h p hp hs)
theorem zkr {x y : Bool} (h : x = true -> y = true) : b1 x <= b1 y:=by cases x <;> cases y <;> simp_all [b1]
theorem zkq {x y : Bool} (h : x = true -> y = true) (e : b1 y <= b1 x) : x = y:=by cases x <;> cases y <;> simp_all [b1]
theorem zot {s t : SiD} (h : subS s t) (e : hcS t <= hcS s) : ∀ p,p < 9 -> s.had.getD p false = t.had.getD p false:=by
 have m : ∀ p,p < 9 -> b1 (s.had.getD p false) <= b1 (t.had.getD p false):=fun p hp => zkr (h p hp)
 have m0:=m 0 (by omega);have m1:=m 1 (by omega);have m2:=m 2 (by omega);have m3:=m 3 (by omega);have m4:=m 4 (by omega);have m5:=m 5 (by omega);have m6:=m 6 (by omega);have m7:=m 7 (by omega);have m8:=m 8 (by omega)
 unfold hcS hcI at e
 simp only [Nat.zero_mul,Nat.zero_add,Nat.one_mul,show 2 * 3 = 6 from rfl,show 3 + 1 = 4 from rfl,show 3 + 2 = 5 from rfl,show 6 + 1 = 7 from rfl,show 6 + 2 = 8 from rfl] at e
 intro p hp
 refine zkq (h p hp) ?_
 have : p = 0 \/ p = 1 \/ p = 2 \/ p = 3 \/ p = 4 \/ p = 5 \/ p = 6 \/ p = 7 \/ p = 8:=by omega
 rcases this with rfl | rfl | rfl | rfl | rfl | rfl | rfl | rfl | rfl <;> omega
theorem RB.hc {f : zad} (ho : Ord f) {s : SiD} {now had : List Nat} (h : RB f s now had) (i : Nat) (hi : i < 3) : if i < f.vs.length then 1 <= hcI s i /\ hcI s i <= 3 else hcI s i = 0:=by
 have d0:=h.q.hd (i * 3) (by omega)
 have d1:=h.q.hd (i * 3 + 1) (by omega)
 have d2:=h.q.hd (i * 3 + 2) (by omega)
 rw [show i * 3 / 3 = i by omega,show i * 3 % 3 = 0 by omega] at d0
 rw [show (i * 3 + 1) / 3 = i by omega,show (i * 3 + 1) % 3 = 1 by omega] at d1
 rw [show (i * 3 + 2) / 3 = i by omega,show (i * 3 + 2) % 3 = 2 by omega] at d2
 unfold hcI
 rw [d0,d1,d2]
 split
 ·rename_i hl
  obtain ⟨a,_,c,_,e⟩:=h.parts ho hl
  rw [decide_eq_true hl,Bool.true_and,Bool.true_and,Bool.true_and]
  have l0:=ze7 (bitB (had.getD i 0) 0)
  have l1:=ze7 (bitB (had.getD i 0) 1)
  have l2:=ze7 (bitB (had.getD i 0) 2)
  refine ⟨?_,by omega⟩
  rcases lt3 a with ha | ha | ha <;> rw [ha] at e <;> rw [e] <;> simp only [b1,if_true] <;> omega
 ·rename_i hl
  rw [decide_eq_false hl];rfl
theorem RB.cc {f : zad} (ho : Ord f) {s : SiD} {now had : List Nat} (h : RB f s now had) (i : Nat) (hi : i < 3) : ccI s i = if i < f.vs.length then now.getD i 0 else 0:=by
 have d1:=h.q.hs (i * 3 + 1) (by omega)
 have d2:=h.q.hs (i * 3 + 2) (by omega)
 rw [show (i * 3 + 1) / 3 = i by omega,show (i * 3 + 1) % 3 = 1 by omega] at d1
 rw [show (i * 3 + 2) / 3 = i by omega,show (i * 3 + 2) % 3 = 2 by omega] at d2
 unfold ccI
 rw [d1,d2]
 by_cases hl : i < f.vs.length
 ·rw [if_pos hl,decide_eq_true hl,Bool.true_and,Bool.true_and]
  obtain ⟨_,b,_,_,_⟩:=h.parts ho hl
  rcases lt3 b with hb | hb | hb <;> rw [hb] <;> simp
 ·rw [if_neg hl,decide_eq_false hl];simp
theorem RB.same {f : zad} (ho : Ord f) {s t : SiD} {now had now' had' : List Nat} (h : RB f s now had) (k : RB f t now' had') (hs : subS s t) (h1 : hcS s = hcS t) (h2 : ccS s = ccS t) : s = t:=by
 have h3:=ho.vs3
 have hd:=zot hs (by omega)
 have c0:=zbc s 0;have c1:=zbc s 1;have c2:=zbc s 2
 have e0:=zbc t 0;have e1:=zbc t 1;have e2:=zbc t 2
 unfold ccS at h2
 have key : ∀ i,i < 3 -> ccI s i = ccI t i:=fun i hi => by rcases lt3 hi with rfl | rfl | rfl <;> omega
 refine (h.q.inj ho k.q).2 ⟨?_,?_⟩
 ·refine List.ext_getElem? fun i => ?_
  by_cases hi : i < f.vs.length
  ·obtain ⟨z,_,hz,_,_,_⟩:=h.q.get hi
   obtain ⟨z',_,hz',_,_,_⟩:=k.q.get hi
   have:=key i (by omega)
   rw [h.cc ho i (by omega),k.cc ho i (by omega),if_pos hi,if_pos hi,zax hz,zax hz'] at this
   rw [hz,hz',this]
  ·rw [List.getElem?_eq_none (by rw [h.q.ln];omega),List.getElem?_eq_none (by rw [k.q.ln];omega)]
 ·refine List.ext_getElem? fun i => ?_
  by_cases hi : i < f.vs.length
  ·obtain ⟨_,z,_,hz,_,hz8⟩:=h.q.get hi
   obtain ⟨_,z',_,hz',_,hz8'⟩:=k.q.get hi
   have bb : ∀ r,r < 3 -> bitB z r = bitB z' r:=fun r hr => by
    have:=hd (i * 3 + r) (by omega)
    rw [h.q.hd _ (by omega),k.q.hd _ (by omega),show (i * 3 + r) / 3 = i by omega,show (i * 3 + r) % 3 = r by omega,decide_eq_true hi,Bool.true_and,Bool.true_and,zax hz,zax hz'] at this
    exact this
   rw [hz,hz',zgv hz8 hz8' (bb 0 (by omega)) (bb 1 (by omega)) (bb 2 (by omega))]
  ·rw [List.getElem?_eq_none (by rw [h.q.lh];omega),List.getElem?_eq_none (by rw [k.q.lh];omega)]
end
section
open Go.RowKit
theorem zo8 {f : zad} (ho : Ord f) : ∀ (j : Nat) (a : TS SiD),(zap (zac f))[j]? = some a -> ∃ now had,RB f a.now now had:=by
 obtain ⟨K,hK⟩:=zc6 (za1 f)
 rw [<- zcd (za1 f) hK]
 exact zc5 (P:=fun s => ∃ now had,RB f s now had) ⟨_,_,RB.start ho⟩ (fun s p y ⟨now,had,h⟩ hy => h.step ho hy) K
theorem zmn {c : ChD} {s y : SiD} {p : Nat} (h : nxS c s p = some y) : subS s y:=by
 unfold nxS at h
 split at h
 ·split at h
  ·cases h
   intro q hq hs
   unfold aft
   split
   case isFalse => exact hs
   show (s.had.set _ true).getD q false = true
   rw [List.getD] at hs ⊢
   rw [List.getElem?_set]
   split
   ·split
    ·rfl
    ·rename_i h1 h2
     subst h1
     rw [List.getElem?_eq_none (by omega)] at hs
     cases hs
   ·exact hs
  ·cases h
 ·cases h
theorem zj1 {f : zad} (ho : Ord f) {g D : Nat} {v : Nat -> Nat} (hg : g < (zap (zac f)).length) (hv : Way (zap (zac f)) g D v) : D <= 188:=by
 obtain ⟨K,hK⟩:=zc6 (za1 f)
 have hI:=zdy (za1 f) hK
 have hP:=zo8 ho
 generalize zap (zac f) = L at hg hv hI hP
 have h3:=ho.vs3
 have hvl : ∀ t,t <= D -> v t < L.length:=fun t ht => by have:=hv.le ht;omega
 have hsub : ∀ t,t < D -> ∀ a b,L[v t]? = some a -> L[v (t + 1)]? = some b -> subS a.now b.now:=fun t ht a b ha hb => by
  obtain ⟨h0,_,x,hx,hxf⟩:=hv.step t ht
  rw [hb] at hx;cases hx
  obtain ⟨m,hm⟩ : ∃ m,v (t + 1) = m + 1:=⟨v (t + 1) - 1,by omega⟩
  rw [hm] at hb
  obtain ⟨_,_,_,a',ha',hna⟩:=hI.tm m b hb
  rw [hxf,ha] at ha';cases ha'
  exact zmn hna
 have hchain : ∀ d t,t + d <= D -> ∀ a b,L[v t]? = some a -> L[v (t + d)]? = some b -> subS a.now b.now:=by
  intro d
  induction d with
  | zero => intro t _ a b ha hb;rw [Nat.add_zero,ha] at hb;cases hb;exact fun p hp h => h
  | succ d ih =>
   intro t ht a b ha hb
   obtain ⟨c,hc⟩ : ∃ c,L[v (t + d)]? = some c:=⟨_,List.getElem?_eq_getElem (hvl _ (by omega))⟩
   exact (ih t (by omega) a c ha hc).trans (hsub (t + d) (by omega) c b hc hb)
 have hmono : ∀ d t,t + d + 1 <= D -> v t < v (t + d + 1):=by
  intro d
  induction d with
  | zero => intro t ht;exact (hv.step t (by omega)).2.1
  | succ d ih => intro t ht;have:=ih t (by omega);have:=(hv.step (t + d + 1) (by omega)).2.1;rw [show t + (d + 1) + 1 = t + d + 1 + 1 by omega];omega
 have hb : ∀ a : TS SiD,(∃ now had,RB f a.now now had) -> f.vs.length <= hcS a.now /\ hcS a.now <= f.vs.length + 6:=fun a ⟨now,had,h⟩ => by
  have e0:=h.hc ho 0 (by omega);have e1:=h.hc ho 1 (by omega);have e2:=h.hc ho 2 (by omega)
  have h1:=ho.vs1
  unfold hcS
  split at e0 <;> split at e1 <;> split at e2 <;> omega
 have:=zft 189 ((List.range (D + 1)).map fun t => match L[v t]? with | some a => (hcS a.now - f.vs.length) * 27 + ccS a.now | none => 0) (zh2 fun i j c hi hj => ?_) (fun c hc => ?_)
 ·rw [List.length_map,List.length_range] at this;omega
 ·rw [List.getElem?_map,Option.map_eq_some_iff] at hi hj
  obtain ⟨i',hi',hic⟩:=hi
  obtain ⟨j',hj',hjc⟩:=hj
  have li:=(List.getElem?_eq_some_iff.1 hi').1
  have lj:=(List.getElem?_eq_some_iff.1 hj').1
  rw [List.length_range] at li lj
  rw [List.getElem?_range li] at hi'
  rw [List.getElem?_range lj] at hj'
  cases hi';cases hj'
  obtain ⟨a,ha⟩ : ∃ a,L[v i]? = some a:=⟨_,List.getElem?_eq_getElem (hvl i (by omega))⟩
  obtain ⟨b,hbb⟩ : ∃ b,L[v j]? = some b:=⟨_,List.getElem?_eq_getElem (hvl j (by omega))⟩
  rw [ha] at hic
  rw [hbb] at hjc
  simp only at hic hjc
  have ba:=hb a (hP _ _ ha)
  have bb:=hb b (hP _ _ hbb)
  have ca : ccS a.now < 27:=by have:=zbc a.now 0;have:=zbc a.now 1;have:=zbc a.now 2;unfold ccS;omega
  have cb : ccS b.now < 27:=by have:=zbc b.now 0;have:=zbc b.now 1;have:=zbc b.now 2;unfold ccS;omega
  have e1 : hcS a.now = hcS b.now:=by omega
  have e2 : ccS a.now = ccS b.now:=by omega
  obtain ⟨n1,d1,r1⟩:=hP _ _ ha
  obtain ⟨n2,d2,r2⟩:=hP _ _ hbb
  rcases Nat.lt_trichotomy i j with h | h | h
  ·obtain ⟨d,rfl⟩ : ∃ d,j = i + d + 1:=⟨j - i - 1,by omega⟩
   have:=r1.same ho r2 (hchain (d + 1) i (by omega) a b ha hbb) e1 e2
   have:=hI.nd _ _ _ _ ha hbb this
   have:=hmono d i (by omega)
   omega
  ·exact h
  ·obtain ⟨d,rfl⟩ : ∃ d,i = j + d + 1:=⟨i - j - 1,by omega⟩
   have:=r2.same ho r1 (hchain (d + 1) j (by omega) b a hbb ha) e1.symm e2.symm
   have:=hI.nd _ _ _ _ hbb ha this
   have:=hmono d j (by omega)
   omega
 ·obtain ⟨t,ht,rfl⟩:=List.mem_map.1 hc
  have ht:=List.mem_range.1 ht
  obtain ⟨a,ha⟩ : ∃ a,L[v t]? = some a:=⟨_,List.getElem?_eq_getElem (hvl t (by omega))⟩
  rw [ha]
  have ba:=hb a (hP _ _ ha)
  have ca : ccS a.now < 27:=by have:=zbc a.now 0;have:=zbc a.now 1;have:=zbc a.now 2;unfold ccS;omega
  show (hcS a.now - f.vs.length) * 27 + ccS a.now < 189
  omega
end
section
open Go.RowKit
theorem zh6 {c : ChD} {s y : SiD} {p : Nat} (h : nxS c s p = some y) : mvB c s (p : Int) = true /\ sfB c s (p : Int) = true /\ y = aft s (p : Int):=by
 unfold nxS at h
 split at h
 ·rename_i h1
  split at h
  ·rename_i h2
   cases h
   exact ⟨h1,h2,rfl⟩
  ·cases h
 ·cases h
theorem zf5 {p : Nat} (hp : p < 9) : plI (mvOf p).1 (mvOf p).2 = (p : Int):=by
 have h1 : p / 3 < 3:=by omega
 have h2 : p % 3 < 3:=by omega
 show plI ((p / 3 : Nat) : Int) ((p % 3 : Nat) : Int) = (p : Int)
 rw [zdr h1 h2]
 congr 1;omega
theorem zj2 {c : ChD} {L : List (TS SiD)} {T g D : Nat} {v : Nat -> Nat} (hI : TInv (nxS c) L T) (hv : Way L g D v) (hg : g < L.length) : ∀ (n t : Nat),t + n = D -> ∀ a,L[v t]? = some a -> mvsB c a.now ((List.range n).map fun i => wayM L v (t + i)) = true /\ sfN c a.now ((List.range n).map fun i => wayM L v (t + i)) = n
 | 0,t,_,a,ha => ⟨rfl,rfl⟩
 | n + 1,t,ht,a,ha => by
  obtain ⟨h0,_,b,hb,hbf⟩:=hv.step t (by omega)
  obtain ⟨m,hm⟩ : ∃ m,v (t + 1) = m + 1:=⟨v (t + 1) - 1,by omega⟩
  have hb':=hb
  rw [hm] at hb'
  obtain ⟨_,_,h9,a',ha',hna⟩:=hI.tm m b hb'
  rw [hbf,ha] at ha';cases ha'
  obtain ⟨k1,k2,k3⟩:=zh6 hna
  have hw : wayM L v t = mvOf b.to:=by unfold wayM;rw [hb]
  have hl : (List.range (n + 1)).map (fun i => wayM L v (t + i)) = mvOf b.to :: (List.range n).map fun i => wayM L v (t + 1 + i):=by
   rw [List.range_succ_eq_map,List.map_cons,List.map_map,Nat.add_zero,hw]
   congr 1
   refine List.map_congr_left fun i _ => ?_
   show wayM L v (t + (i + 1)) = _
   congr 1;omega
  obtain ⟨i1,i2⟩:=zj2 hI hv hg n (t + 1) (by omega) b hb
  rw [hl]
  refine ⟨?_,?_⟩
  ·show (mvB c a.now (plI (mvOf b.to).1 (mvOf b.to).2) && mvsB c (aft a.now (plI (mvOf b.to).1 (mvOf b.to).2)) _) = true
   rw [zf5 h9,k1,<- k3,i1];rfl
  ·show (if sfB c a.now (plI (mvOf b.to).1 (mvOf b.to).2) = true then sfN c (aft a.now (plI (mvOf b.to).1 (mvOf b.to).2)) _ + 1 else 0) = n + 1
   rw [zf5 h9,if_pos k2,<- k3,i2]
theorem zpz {f : zad} (ho : Ord f) (hob : ordB f = true) (hsn : sndB (zac f) = true) {g D : Nat} {v : Nat -> Nat} (hg : g < (zap (zac f)).length) (hv : Way (zap (zac f)) g D v) : zak f (wayL (zap (zac f)) v D) = ((D : Int),0):=by
 have hD:=zj1 ho hg hv
 obtain ⟨K,hK⟩:=zc6 (za1 f)
 have hI:=zdy (za1 f) hK
 have h0 : (zap (zac f))[v 0]? = some ⟨begD (zac f),0,0⟩:=by rw [hv.zero,<- zcd (za1 f) hK];exact zgb _ _ _
 generalize zap (zac f) = L at hg hv hI h0
 obtain ⟨h1,h2⟩:=zj2 hI hv hg D 0 (by omega) _ h0
 have e : (List.range D).map (fun i => wayM L v (0 + i)) = wayL L v D:=by
  unfold wayL
  refine List.map_congr_left fun i _ => ?_
  rw [Nat.zero_add]
 rw [e] at h1 h2
 simp only at h1 h2
 unfold zak
 have hl : (wayL L v D).length = D:=by simp [wayL]
 rw [if_pos hob,if_pos (by unfold amB;rw [h1,hl,decide_eq_true (by omega)];rfl),if_pos hsn,h2]
end
end Go.Proofs.Ytkkekopomiehlab
