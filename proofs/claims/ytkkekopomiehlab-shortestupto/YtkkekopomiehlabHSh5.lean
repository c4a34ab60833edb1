import Derived.Test.YtkkekopomiehlabHRq1
set_option linter.unusedVariables false
set_option linter.unusedSimpArgs false
set_option maxHeartbeats 40000000
set_option maxRecDepth 4000
namespace Go.Proofs.Ytkkekopomiehlab
section
open Go.RowKit
def allE (c : ChD) (L : List (TS SiD)) : List (Nat × Nat × Nat) :=
 letI : DecidableEq SiD:=fun s t => decidable_of_iff _ (zjg (s:=s) (t:=t))
 (List.range L.length).flatMap fun i => (List.range L.length).flatMap fun j => (List.range 9).filterMap fun p => match L[i]?,L[j]? with
  | some a,some b => if nxS c a.now p = some b.now then some (i,j,p) else none
  | _,_ => none
theorem zce {c : ChD} {L : List (TS SiD)} {i j p : Nat} : (i,j,p) ∈ allE c L ↔ p < 9 /\ ∃ a b,L[i]? = some a /\ L[j]? = some b /\ nxS c a.now p = some b.now:=by
 unfold allE
 simp only [List.mem_flatMap,List.mem_range,List.mem_filterMap]
 constructor
 ·rintro ⟨i',hi,j',hj,p',hp,h⟩
  split at h
  ·rename_i a b ha hb
   split at h
   ·rename_i hn
    simp at h
    obtain ⟨rfl,rfl,rfl⟩:=h
    exact ⟨hp,a,b,ha,hb,hn⟩
   ·cases h
  ·cases h
 ·rintro ⟨hp,a,b,ha,hb,hn⟩
  refine ⟨i,(List.getElem?_eq_some_iff.1 ha).1,j,(List.getElem?_eq_some_iff.1 hb).1,p,hp,?_⟩
  rw [ha,hb]
  simp only
  rw [if_pos hn]
theorem zc9 {c : ChD} {L : List (TS SiD)} (hI : TInv (nxS c) L (9 * L.length)) : EdgesOk (nxS c) L (allE c L):=by
 refine ⟨fun i j p h => ?_,fun i a p y ha hp hy => ?_⟩
 ·obtain ⟨h1,a,b,h2,h3,h4⟩:=zce.1 h
  exact ⟨h1,a,b,h2,h3,h4⟩
 ·have hi:=(List.getElem?_eq_some_iff.1 ha).1
  obtain ⟨j,b,hb,hby,_⟩:=hI.ev i a p y ha hp hy (by omega)
  exact ⟨j,zce.2 ⟨hp,a,b,ha,hb,by rw [hby];exact hy⟩⟩
def plM (m : Int × Int) : Nat:=(plI m.1 m.2).toNat
theorem zhw {c : ChD} {L : List (TS SiD)} (hI : TInv (nxS c) L (9 * L.length)) : ∀ (ms : List (Int × Int)) (i : Nat) (a : TS SiD),L[i]? = some a -> mvsB c a.now ms = true -> sfN c a.now ms = ms.length -> ∃ u : Nat -> Nat,u 0 = i /\ ∀ k m,ms[k]? = some m -> (u k,u (k + 1),plM m) ∈ allE c L
 | [],i,a,_,_,_ => ⟨fun _ => i,rfl,fun k m h => by simp at h⟩
 | m :: ms,i,a,ha,hm,hs => by
  have h1 : mvB c a.now (plI m.1 m.2) = true /\ mvsB c (aft a.now (plI m.1 m.2)) ms = true:=by
   have : (mvB c a.now (plI m.1 m.2) && mvsB c (aft a.now (plI m.1 m.2)) ms) = true:=hm
   rwa [Bool.and_eq_true] at this
  have h2 : (if sfB c a.now (plI m.1 m.2) = true then sfN c (aft a.now (plI m.1 m.2)) ms + 1 else 0) = ms.length + 1:=hs
  have hsf : sfB c a.now (plI m.1 m.2) = true:=by
   cases h : sfB c a.now (plI m.1 m.2) with
   | true => rfl
   | false => rw [h,if_neg (by simp)] at h2;omega
  rw [if_pos hsf] at h2
  have hp : 0 <= plI m.1 m.2 /\ plI m.1 m.2 < 9:=by
   have:=h1.1
   unfold mvB numB at this
   simp only [Bool.and_eq_true,decide_eq_true_eq] at this
   exact this.1.1
  have hpn : ((plM m : Nat) : Int) = plI m.1 m.2:=by unfold plM;omega
  have hp9 : plM m < 9:=by omega
  have hnx : nxS c a.now (plM m) = some (aft a.now (plI m.1 m.2)):=by
   unfold nxS
   rw [hpn,if_pos h1.1,if_pos hsf]
  obtain ⟨j,hj⟩:=(zc9 hI).all i a (plM m) _ ha hp9 hnx
  obtain ⟨_,a',b,ha',hb,hnb⟩:=zce.1 hj
  rw [ha] at ha';cases ha'
  rw [hnx] at hnb
  have hbn : b.now = aft a.now (plI m.1 m.2):=by simpa using hnb.symm
  obtain ⟨u,hu0,hu⟩:=zhw hI ms j b hb (by rw [hbn];exact h1.2) (by rw [hbn];omega)
  refine ⟨fun k => match k with | 0 => i | k + 1 => u k,rfl,fun k m' hk => ?_⟩
  cases k with
  | zero => simp at hk;subst hk;show (i,u 0,plM m) ∈ _;rw [hu0];exact hj
  | succ k => rw [List.getElem?_cons_succ] at hk;exact hu k m' hk
theorem zir {c : ChD} {L : List (TS SiD)} {G : Nat -> Bool} {ms : List (Int × Int)} {u : Nat -> Nat} (hu : ∀ k m,ms[k]? = some m -> (u k,u (k + 1),plM m) ∈ allE c L) (hG : G (u ms.length) = true) : ∀ d,d <= ms.length -> nrB (allE c L) G d (u (ms.length - d)) = true
 | 0,_ => hG
 | d + 1,hd => by
  have ih:=zir hu hG d (by omega)
  obtain ⟨m,hm⟩ : ∃ m,ms[ms.length - (d + 1)]? = some m:=⟨_,List.getElem?_eq_getElem (by omega)⟩
  have:=hu _ m hm
  rw [show ms.length - (d + 1) + 1 = ms.length - d by omega] at this
  exact zfu this ih
theorem zpy {c : ChD} {L : List (TS SiD)} (hI : TInv (nxS c) L (9 * L.length)) {G : Nat -> Bool} {g D : Nat} {v : Nat -> Nat} (hv : Way L g D v) (hg : ∀ i,i < g -> G i = false) {ms : List (Int × Int)} {u : Nat -> Nat} (hu0 : u 0 = 0) (hu : ∀ k m,ms[k]? = some m -> (u k,u (k + 1),plM m) ∈ allE c L) (hG : G (u ms.length) = true) :
  D <= ms.length /\ (ms.length = D -> ∀ t x m,t < D -> L[v (t + 1)]? = some x -> ms[t]? = some m -> (∀ k y n,k < t -> L[v (k + 1)]? = some y -> ms[k]? = some n -> plM n = y.to) -> x.to <= plM m):=by
 have he:=zc9 hI
 have hnr:=zir hu hG
 refine ⟨?_,fun hl t x m ht hx hm hag => ?_⟩
 ·apply Nat.le_of_not_lt
  intro hc
  have h1:=hnr ms.length (Nat.le_refl _)
  rw [Nat.sub_self,hu0] at h1
  have:=(hv.step 0 (by omega)).1
  exact ze1 hI he hv hg ms.length 1 0 this h1 (by omega)
 ·have huv : ∀ k,k <= t -> u k = v k:=by
   intro k
   induction k with
   | zero => intro _;rw [hu0,hv.zero]
   | succ k ih =>
    intro hk
    obtain ⟨y,hy⟩ : ∃ y,L[v (k + 1)]? = some y:=by obtain ⟨_,_,y,hy,_⟩:=hv.step k (by omega);exact ⟨y,hy⟩
    obtain ⟨n,hn⟩ : ∃ n,ms[k]? = some n:=⟨_,List.getElem?_eq_getElem (by omega)⟩
    have e1:=hu k n hn
    rw [hag k y n (by omega) hy hn,ih (by omega)] at e1
    have e2:=ze0 hI he hv (by omega) hy
    exact he.det hI e1 e2
  apply Nat.le_of_not_lt
  intro hc
  have e1:=hu t m hm
  rw [huv t (Nat.le_refl _)] at e1
  obtain ⟨hp,a,b,ha,hb,hab⟩:=zce.1 e1
  obtain ⟨h0,_,x',hx',hxf⟩:=hv.step t ht
  rw [hx] at hx';cases hx'
  have hlow:=hI.lower ha hb hp hab hx h0 (by omega)
  have h1:=hnr (D - (t + 1)) (by omega)
  rw [show ms.length - (D - (t + 1)) = t + 1 by omega] at h1
  exact ze1 hI he hv hg (D - (t + 1)) (t + 1) _ hlow h1 (by omega)
end
section
open Go.RowKit
theorem zln {l m : List Bool} (hl : l.length = m.length) (h : ∀ p,p < l.length -> l.getD p false = m.getD p false) : l = m :=
 List.ext_getElem hl fun p h1 h2 => by have:=h p h1;simpa [List.getD,h1,h2] using this
def zbl (f : zad) (s : Nat) : Int:=match f.vs[s]? with | some v => v.want | none => 0
theorem zgh {f : zad} {s : Nat} {v : SvcD} (h : f.vs[s]? = some v) : zbl f s = v.want:=by unfold zbl;rw [h]
def leB (f : zad) (ms : List (Int × Int)) : Bool:=(ms.all fun m => numB m.1 f.vs.length) && (List.range f.vs.length).all fun s => hasI (nowI f s) ms s ms.length == zbl f s
theorem St.goal {f : zad} {ms : List (Int × Int)} {j : Nat} {S : SiD} (ho : Ord f) (h : St f ms j S) (hall : ∀ i,i < j -> rmB f ms i = true) : S.has = (zac f).wnt ↔ ∀ s,s < f.vs.length -> hasI (nowI f s) ms s j = zbl f s:=by
 have h3:=ho.vs3
 have hw : ∀ p,p < 9 -> (zac f).wnt.getD p false = wnB f p:=fun p hp => zdv _ _ hp
 have hpart : ∀ (i : Nat) (v : SvcD),f.vs[i]? = some v -> 0 <= v.want /\ v.want < v.rels.length /\ v.rels.length <= 3:=fun i v hv => by
  have:=ho.parts (List.mem_of_getElem? hv)
  exact ⟨this.2.2.2.1.1,this.2.2.2.1.2,this.2.1⟩
 constructor
 ·intro H s hs
  obtain ⟨v,hv⟩ : ∃ v,f.vs[s]? = some v:=⟨f.vs[s],List.getElem?_eq_getElem hs⟩
  have hpp:=hpart s v hv
  rw [zgh hv]
  have hp : s * 3 + v.want.toNat < 9:=by omega
  have q:=h.has _ hp
  rw [H,hw _ hp] at q
  unfold wnB at q
  rw [zco f _ _ (by omega),show (s * 3 + v.want.toNat) / 3 = s by omega,show (s * 3 + v.want.toNat) % 3 = v.want.toNat by omega,hv,zi6 hv] at q
  have e : ((v.want.toNat : Nat) : Int) = v.want:=by omega
  rw [e] at q
  simp [hs,show v.want.toNat < v.rels.length by omega] at q
  exact q
 ·intro H
  refine zln (by rw [h.ok.1,(za1 f).wnt]) fun p h1 => ?_
  have hp : p < 9:=by rw [<- h.ok.1];exact h1
  rw [h.has p hp,hw p hp]
  unfold wnB thB
  cases hv : f.vs[p / 3]? with
  | none => rfl
  | some v =>
   have hl:=(List.getElem?_eq_some_iff.1 hv).1
   have:=H (p / 3) hl
   rw [zgh hv] at this
   rw [this]
   simp only
   rw [show (v.want == ((p % 3 : Nat) : Int)) = (((p % 3 : Nat) : Int) == v.want) from Bool.beq_comm]
theorem zf3 {f : zad} (ho : Ord f) {L : List (TS SiD)} (h0 : L[0]? = some ⟨begD (zac f),0,0⟩) {ms : List (Int × Int)} (hall : ∀ i,i < ms.length -> rmB f ms i = true) {u : Nat -> Nat} (hu0 : u 0 = 0) (hu : ∀ k m,ms[k]? = some m -> (u k,u (k + 1),plM m) ∈ allE (zac f) L) : ∀ k,k <= ms.length -> ∃ a,L[u k]? = some a /\ St f ms k a.now
 | 0,_ => ⟨_,by rw [hu0];exact h0,St.zero⟩
 | k + 1,hk => by
  obtain ⟨a,ha,hS⟩:=zf3 ho h0 hall hu0 hu k (by omega)
  obtain ⟨m,hm⟩ : ∃ m,ms[k]? = some m:=⟨_,List.getElem?_eq_getElem (by omega)⟩
  obtain ⟨_,a',b,ha',hb,hnb⟩:=zce.1 (hu k m hm)
  rw [ha] at ha';cases ha'
  have hmv : mvAt ms k = m:=by simp [mvAt,List.getD,hm]
  have hr:=hall k (by omega)
  obtain ⟨x,y,hxy,hx,hy,hx3,hy3,_⟩:=zdt ho hr
  have hst:=hS.step ho hr
  rw [hxy] at hst
  simp only at hst
  rw [hmv] at hxy
  obtain ⟨_,_,e⟩:=zh6 hnb
  have hp : ((plM m : Nat) : Int) = plI (x : Int) (y : Int):=by unfold plM;rw [hxy];simp only;rw [zdr hx3 hy3,Int.toNat_natCast]
  rw [hp] at e
  exact ⟨b,hb,by rw [e];exact hst⟩
theorem zgq {f : zad} {ms : List (Int × Int)} (ho : Ord f) (h : mvsB (zac f) (begD (zac f)) ms = true) : ∀ i,i < ms.length -> rmB f ms i = true:=by
 have h1:=zh0 (ms:=ms) ho ms.length 0 _ (by omega) (Nat.zero_le _) St.zero (fun i hi => by omega)
 rw [List.drop_zero,h,eq_comm,List.all_eq_true] at h1
 exact fun i hi => h1 i (List.mem_range.2 hi)
theorem zfo {f : zad} {ms : List (Int × Int)} {S : SiD} (ho : Ord f) (hall : ∀ i,i < ms.length -> rmB f ms i = true) (h : St f ms ms.length S) : leB f ms = true ↔ S.has = (zac f).wnt:=by
 rw [h.goal ho hall]
 unfold leB
 rw [Bool.and_eq_true,List.all_eq_true,List.all_eq_true]
 constructor
 ·intro H s hs
  simpa using H.2 s (List.mem_range.2 hs)
 ·intro H
  refine ⟨fun m hm => ?_,fun s hs => by simpa using H s (List.mem_range.1 hs)⟩
  obtain ⟨i,hi,rfl⟩:=List.mem_iff_getElem.1 hm
  obtain ⟨x,y,hxy,hx,_⟩:=zdt ho (hall i hi)
  have hmv : mvAt ms i = ms[i]:=by simp [mvAt,List.getD,hi]
  rw [hmv] at hxy
  rw [hxy]
  unfold numB
  simp;omega
def erB : List (Int × Int) -> List (Int × Int) -> Bool
 | x :: xs,y :: ys => if x.1 = y.1 then (if x.2 = y.2 then erB xs ys else decide (x.2 < y.2)) else decide (x.1 < y.1)
 | _,_ => false
def eaB (a b : List (Int × Int)) : Bool:=if a.length = b.length then erB a b else decide (a.length < b.length)
theorem zhl : ∀ (a b : List (Int × Int)),a.length = b.length -> erB a b = true -> ∃ (t : Nat) (x y : Int × Int),a[t]? = some x /\ b[t]? = some y /\ (∀ k,k < t -> a[k]? = b[k]?) /\ (x.1 < y.1 \/ (x.1 = y.1 /\ x.2 < y.2))
 | [],[],_,h => by cases h
 | [],_ :: _,h,_ => by simp at h
 | _ :: _,[],h,_ => by simp at h
 | x :: xs,y :: ys,hl,h => by
  unfold erB at h
  split at h
  ·rename_i h1
   split at h
   ·rename_i h2
    obtain ⟨t,u,v,q1,q2,q3,q4⟩:=zhl xs ys (by simpa using hl) h
    refine ⟨t + 1,u,v,by rw [List.getElem?_cons_succ];exact q1,by rw [List.getElem?_cons_succ];exact q2,fun k hk => ?_,q4⟩
    cases k with
    | zero =>
     obtain ⟨x1,x2⟩:=x;obtain ⟨y1,y2⟩:=y
     simp only at h1 h2
     subst h1 h2;rfl
    | succ k => rw [List.getElem?_cons_succ,List.getElem?_cons_succ];exact q3 k (by omega)
   ·exact ⟨0,x,y,rfl,rfl,fun k hk => by omega,.inr ⟨h1,of_decide_eq_true h⟩⟩
  ·exact ⟨0,x,y,rfl,rfl,fun k hk => by omega,.inl (of_decide_eq_true h)⟩
theorem ziu {p : Nat} (hp : p < 9) : plM (mvOf p) = p:=by unfold plM;rw [zf5 hp];simp
theorem zgi {L : List (TS SiD)} {v : Nat -> Nat} {D t : Nat} (ht : t < D) : (wayL L v D)[t]? = some (wayM L v t):=by
 unfold wayL;rw [List.getElem?_map,List.getElem?_range ht];rfl
theorem zjc {f : zad} {ms : List (Int × Int)} (hob : ordB f = true) (h1 : (zak f ms).1 = (ms.length : Int)) (h2 : (zak f ms).2 = 0) : mvsB (zac f) (begD (zac f)) ms = true /\ sfN (zac f) (begD (zac f)) ms = ms.length:=by
 unfold zak at h1 h2
 rw [if_pos hob] at h1 h2
 by_cases ha : amB (zac f) ms = true
 ·rw [if_pos ha] at h1 h2
  by_cases hs : sndB (zac f) = true
  ·rw [if_pos hs] at h1 h2
   unfold amB at ha
   rw [Bool.and_eq_true] at ha
   simp only at h1
   exact ⟨ha.2,by omega⟩
  ·rw [if_neg hs] at h2;simp at h2
 ·rw [if_neg ha] at h2;simp at h2
theorem zn9 {f : zad} (hob : ordB f = true) (ho : Ord f) {L : List (TS SiD)} (hI : TInv (nxS (zac f)) L (9 * L.length)) (h0 : L[0]? = some ⟨begD (zac f),0,0⟩) (h188 : ∀ g D v,g < L.length -> Way L g D v -> D <= 188) (hsaf : ∀ g D v,g < L.length -> Way L g D v -> zak f (wayL L v D) = ((D : Int),0)) {p : List (Int × Int)} {e : Int} (hP : ((∀ t ∈ L,t.now.has ≠ (zac f).wnt) /\ p = [] /\ e = 13) \/ (FirstAt L (zac f).wnt p /\ e = 0)) (ms : List (Int × Int)) :
  p.length <= 188 /\ ((e = 13 /\ p = [] /\ leB f [] = false /\ ((leB f ms && decide ((zak f ms).2 = 0) && decide ((zak f ms).1 = (ms.length : Int))) = false)) \/ (e = 0 /\ zak f p = ((p.length : Int),0) /\ leB f p = true /\ ((leB f ms && decide ((zak f ms).2 = 0) && decide ((zak f ms).1 = (ms.length : Int))) = false \/ eaB ms p = false))):=by
 have key : ∀ l : List (Int × Int),(leB f l && decide ((zak f l).2 = 0) && decide ((zak f l).1 = (l.length : Int))) = true -> ∃ u : Nat -> Nat,u 0 = 0 /\ (∀ k m,l[k]? = some m -> (u k,u (k + 1),plM m) ∈ allE (zac f) L) /\ (∀ i,i < l.length -> rmB f l i = true) /\ ∃ a,L[u l.length]? = some a /\ a.now.has = (zac f).wnt:=fun l hl => by
  rw [Bool.and_eq_true,Bool.and_eq_true,decide_eq_true_eq,decide_eq_true_eq] at hl
  obtain ⟨⟨k1,k2⟩,k3⟩:=hl
  obtain ⟨q1,q2⟩:=zjc hob k3 k2
  obtain ⟨u,hu0,hu⟩:=zhw hI l 0 _ h0 q1 q2
  have hall:=zgq ho q1
  obtain ⟨a,ha,hS⟩:=zf3 ho h0 hall hu0 hu l.length (Nat.le_refl _)
  exact ⟨u,hu0,hu,hall,a,ha,(zfo ho hall hS).1 k1⟩
 rcases hP with ⟨hn,rfl,rfl⟩ | ⟨⟨k,D,v,t,hk,ht,hf,hw,rfl⟩,rfl⟩
 ·refine ⟨Nat.zero_le _,.inl ⟨rfl,rfl,?_,?_⟩⟩
  ·rw [Bool.eq_false_iff]
   intro hc
   have:=(zfo (ms:=[]) ho (fun i hi => by simp at hi) St.zero).1 hc
   exact hn _ (List.mem_of_getElem? h0) this
  ·rw [Bool.eq_false_iff]
   intro hc
   obtain ⟨u,_,_,_,a,ha,hh⟩:=key ms hc
   exact hn a (List.mem_of_getElem? ha) hh
 ·have hkl:=(List.getElem?_eq_some_iff.1 hk).1
  have hD:=h188 _ _ _ hkl hw
  have hsf:=hsaf _ _ _ hkl hw
  have hll:=zj0 L v D
  refine ⟨by omega,.inr ⟨rfl,by rw [hll];exact hsf,?_,?_⟩⟩
  ·obtain ⟨q1,q2⟩:=zjc hob (ms:=wayL L v D) (by rw [hsf,hll]) (by rw [hsf])
   have hall:=zgq ho q1
   have hu : ∀ i m,(wayL L v D)[i]? = some m -> (v i,v (i + 1),plM m) ∈ allE (zac f) L:=fun i m hi => by
    have hlt:=(List.getElem?_eq_some_iff.1 hi).1
    rw [hll] at hlt
    rw [zgi hlt] at hi
    cases hi
    obtain ⟨_,_,x,hx,_⟩:=hw.step i hlt
    have he:=ze0 hI (zc9 hI) hw hlt hx
    have h9:=(zce.1 he).1
    rw [show wayM L v i = mvOf x.to by unfold wayM;rw [hx],ziu h9]
    exact he
   obtain ⟨a,ha,hS⟩:=zf3 ho h0 hall hw.zero hu _ (Nat.le_refl _)
   refine (zfo ho hall hS).2 ?_
   rw [hll,hw.last,hk] at ha
   cases ha
   exact ht
  ·cases hc : (leB f ms && decide ((zak f ms).2 = 0) && decide ((zak f ms).1 = (ms.length : Int))) with
   | false => exact .inl rfl
   | true =>
    right
    obtain ⟨u,hu0,hu,hall,a,ha,hh⟩:=key ms hc
    obtain ⟨m1,m2⟩:=zpy hI (G:=fun i => match L[i]? with | some s => decide (s.now.has = (zac f).wnt) | none => false) hw (fun i hi => by
     cases hs : L[i]? with
     | none => rfl
     | some s => simpa using hf i s hi hs) hu0 hu (by simp only [ha];simpa using hh)
    unfold eaB
    rw [hll]
    by_cases hl : ms.length = D
    ·rw [if_pos hl,Bool.eq_false_iff]
     intro her
     obtain ⟨s,x,y,hx,hy,heq,hlt⟩:=zhl _ _ (by rw [hll];exact hl) her
     have hsD : s < D:=by have:=(List.getElem?_eq_some_iff.1 hx).1;omega
     obtain ⟨_,_,z,hz,_⟩:=hw.step s hsD
     have h9:=(zce.1 (ze0 hI (zc9 hI) hw hsD hz)).1
     have:=m2 hl s z x hsD hz hx (fun k w n hks hkw hkn => by
      have h9':=(zce.1 (ze0 hI (zc9 hI) hw (by omega) hkw)).1
      have:=heq k hks
      rw [hkn,zgi (by omega)] at this
      cases this
      rw [show wayM L v k = mvOf w.to by unfold wayM;rw [hkw],ziu h9'])
     rw [zgi hsD,show wayM L v s = mvOf z.to by unfold wayM;rw [hz]] at hy
     cases hy
     obtain ⟨a1,a2,hxy,_,_,ha3,hb3,_⟩:=zdt ho (hall s (by omega))
     rw [show mvAt ms s = x by simp [mvAt,List.getD,hx]] at hxy
     subst hxy
     have e : plM ((a1 : Int),(a2 : Int)) = a1 * 3 + a2:=by unfold plM;simp only;rw [zdr ha3 hb3,Int.toNat_natCast]
     rw [e] at this
     unfold mvOf at hlt
     simp only at hlt
     omega
    ·rw [if_neg hl]
     simp;omega
theorem zob {f : zad} (hob : ordB f = true) (hsn : sndB (zac f) = true) {p : List (Int × Int)} {e : Int} (hP : PlanIs f 512 p e) (ms : List (Int × Int)) :
  p.length <= 188 /\ ((e = 13 /\ p = [] /\ leB f [] = false /\ ((leB f ms && decide ((zak f ms).2 = 0) && decide ((zak f ms).1 = (ms.length : Int))) = false)) \/ (e = 0 /\ zak f p = ((p.length : Int),0) /\ leB f p = true /\ ((leB f ms && decide ((zak f ms).2 = 0) && decide ((zak f ms).1 = (ms.length : Int))) = false \/ eaB ms p = false))):=by
 have ho:=zeo hob
 have h512:=zo7 ho
 obtain ⟨K,hK⟩:=zc6 (za1 f)
 have hI:=zdy (za1 f) hK
 have h0 : (zap (zac f))[0]? = some ⟨begD (zac f),0,0⟩:=by rw [<- zcd (za1 f) hK];exact zgb _ _ _
 unfold PlanIs at hP
 rw [if_pos hob,if_neg (by omega),if_pos hsn,if_neg (by omega)] at hP
 exact zn9 hob ho hI h0 (fun _ _ _ h1 h2 => zj1 ho h1 h2) (fun _ _ _ h1 h2 => zpz ho hob hsn h1 h2) hP ms
end
end Go.Proofs.Ytkkekopomiehlab
