import Derived.Test.YtkkekopomiehlaaGreatCRp5
set_option linter.unusedVariables false
set_option linter.unusedSimpArgs false
set_option maxHeartbeats 40000000
set_option maxRecDepth 4000
namespace Go.Proofs.YtkkekopomiehlaaGreat
section
open Go.RowKit
theorem zle {e : SE} {n : Nat} {q : Nat × Nat} : q ∈ psL e n ↔ q.1 < n /\ q.2 < 3 /\ bitB (e.had.getD q.1 0) q.2 = true:=by
 unfold psL psO
 rw [List.mem_flatMap]
 constructor
 ·rintro ⟨s,hs,hq⟩
  obtain ⟨r,hr,rfl⟩:=List.mem_map.1 hq
  rw [List.mem_filter] at hr
  exact ⟨List.mem_range.1 hs,List.mem_range.1 hr.1,hr.2⟩
 ·rintro ⟨h1,h2,h3⟩
  exact ⟨q.1,List.mem_range.2 h1,List.mem_map.2 ⟨q.2,List.mem_filter.2 ⟨List.mem_range.2 h2,h3⟩,rfl⟩⟩
theorem zkv {e : SE} {n : Nat} {q : Nat × Nat} : q ∈ nwL e n ↔ q.1 < n /\ q.2 = e.now.getD q.1 0:=by
 unfold nwL
 constructor
 ·intro h
  obtain ⟨s,hs,rfl⟩:=List.mem_map.1 h
  exact ⟨List.mem_range.1 hs,rfl⟩
 ·rintro ⟨h1,h2⟩
  exact List.mem_map.2 ⟨q.1,List.mem_range.2 h1,by rw [<- h2]⟩
theorem RQ.now_prs {f : zae} {s : SiD} {e : SE} (h : RQ f s e.now e.had) : ∀ q ∈ nwL e f.vs.length,q ∈ prs f.vs:=fun q hq => by
 obtain ⟨h1,h2⟩:=zkv.1 hq
 obtain ⟨u,v,hu,hv,hur,hv8⟩:=h.get h1
 rw [zbp hu] at h2
 exact zil h1 (by omega)
theorem RQ.past_prs {f : zae} {s : SiD} {e : SE} (h : RQ f s e.now e.had) : ∀ q ∈ psL e f.vs.length,q ∈ prs f.vs:=fun q hq => by
 obtain ⟨h1,h2,h3⟩:=zle.1 hq
 obtain ⟨u,v,hu,hv,hur,hv8⟩:=h.get h1
 rw [zbp hv] at h3
 exact zil h1 (h.hr q.1 v q.2 hv h2 h3)
theorem RQ.safe {f : zae} (ho : Ord f) {s : SiD} {e : SE} (h : RQ f s e.now e.had) {x y : Nat} (hx : x < f.vs.length) (hy : y < rlen f.vs x) : sfB (zad f) s ((x * 3 + y : Nat) : Int) = sfeB f (x,y) (nwL e f.vs.length) (psL e f.vs.length):=by
 have h3:=ho.vs3
 have hy3 : y < 3:=by have:=ho.rl hx;omega
 have hp9 : x * 3 + y < 9:=by omega
 unfold sfB sfeB
 rw [Int.toNat_natCast,zf4 ho hp9 hp9,show numB ((x * 3 + y : Nat) : Int) 9 = true by unfold numB;simp;omega,Bool.true_and]
 have e0 : plN (x,y) = x * 3 + y:=rfl
 rw [e0]
 have e1 : algB s.has ((zad f).alg.getD (x * 3 + y) []) = (nwL e f.vs.length).all fun q => eB f (x * 3 + y) (plN q):=by
  rw [Bool.eq_iff_iff]
  unfold algB
  rw [List.all_eq_true,List.all_eq_true]
  constructor
  ·intro H q hq
   obtain ⟨h1,h2⟩:=zkv.1 hq
   obtain ⟨u,v,hu,hv,hur,hv8⟩:=h.get h1
   have hrl:=ho.rl h1
   rw [zbp hu] at h2
   have hlt : plN q < 9:=by unfold plN;omega
   have:=H (plN q) (List.mem_range.2 hlt)
   rw [h.hs _ hlt,zf4 ho hp9 hlt,show plN q / 3 = q.1 by unfold plN;omega,show plN q % 3 = q.2 by unfold plN;omega,zbp hu] at this
   simpa [h1,h2] using this
  ·intro H p hp
   have hp:=List.mem_range.1 hp
   rw [h.hs p hp,zf4 ho hp9 hp]
   by_cases hl : p / 3 < f.vs.length /\ e.now.getD (p / 3) 0 = p % 3
   ·have:=H (p / 3,p % 3) (zkv.2 ⟨hl.1,hl.2.symm⟩)
    rw [show plN (p / 3,p % 3) = p by unfold plN;simp only;omega] at this
    rw [this];simp
   ·rw [show (decide (p / 3 < f.vs.length) && decide (e.now.getD (p / 3) 0 = p % 3)) = false by rw [Bool.eq_false_iff];simp only [ne_eq,Bool.and_eq_true,decide_eq_true_eq];exact hl]
    rfl
 have e2 : algB s.had ((zad f).fev.getD (x * 3 + y) []) = (psL e f.vs.length).all fun q => kB f (x * 3 + y) (plN q):=by
  rw [Bool.eq_iff_iff]
  unfold algB
  rw [List.all_eq_true,List.all_eq_true]
  constructor
  ·intro H q hq
   obtain ⟨h1,h2,h4⟩:=zle.1 hq
   have hlt : plN q < 9:=by unfold plN;omega
   have:=H (plN q) (List.mem_range.2 hlt)
   rw [h.hd _ hlt,znx ho hp9 hlt,show plN q / 3 = q.1 by unfold plN;omega,show plN q % 3 = q.2 by unfold plN;omega,h4] at this
   simpa [h1] using this
  ·intro H p hp
   have hp:=List.mem_range.1 hp
   rw [h.hd p hp,znx ho hp9 hp]
   by_cases hl : p / 3 < f.vs.length /\ bitB (e.had.getD (p / 3) 0) (p % 3) = true
   ·have:=H (p / 3,p % 3) (zle.2 ⟨hl.1,by simp only;omega,hl.2⟩)
    rw [show plN (p / 3,p % 3) = p by unfold plN;simp only;omega] at this
    rw [this];simp
   ·rw [show (decide (p / 3 < f.vs.length) && bitB (e.had.getD (p / 3) 0) (p % 3)) = false by rw [Bool.eq_false_iff];simp only [ne_eq,Bool.and_eq_true,decide_eq_true_eq];exact hl]
    rfl
 rw [e1,e2]
theorem RQ.mv {f : zae} (ho : Ord f) {s : SiD} {now had : List Nat} (h : RQ f s now had) {x y : Nat} (hx : x < f.vs.length) (hy : y < rlen f.vs x) : mvB (zad f) s ((x * 3 + y : Nat) : Int) = !decide (now.getD x 0 = y):=by
 have h3:=ho.vs3
 have hy3 : y < 3:=by have:=ho.rl hx;omega
 have hp9 : x * 3 + y < 9:=by omega
 unfold mvB
 rw [Int.toNat_natCast,zmq f hp9,h.hs _ hp9,ze5 f x y hy3,show (x * 3 + y) / 3 = x by omega,show (x * 3 + y) % 3 = y by omega,show numB ((x * 3 + y : Nat) : Int) 9 = true by unfold numB;simp;omega]
 simp [hx,hy]
theorem zv6 {f : zae} {s : SiD} {p : Nat} (hp : p < 9) (h : thB f p = false) : mvB (zad f) s (p : Int) = false:=by
 unfold mvB
 rw [Int.toNat_natCast,zmq f hp,h];simp
theorem zo2 {f : zae} {s : SiD} {p : Nat} (hp : p < 9) (h : thB f p = false) : nxS (zad f) s p = none:=by
 unfold nxS;rw [zv6 hp h];rfl
theorem RQ.nx {f : zae} (ho : Ord f) {s : SiD} {e : SE} (h : RQ f s e.now e.had) {q : Nat × Nat} (hq : q ∈ prs f.vs) (hx : q.1 < f.vs.length) (hy : q.2 < rlen f.vs q.1) : nxS (zad f) s (plN q) = if sfeB f q (nwL e f.vs.length) (psL e f.vs.length) = true /\ e.now.getD q.1 0 ≠ q.2 then some (aft s ((plN q : Nat) : Int)) else none:=by
 unfold nxS plN
 rw [h.mv ho hx hy,h.safe ho hx hy]
 by_cases h1 : e.now.getD q.1 0 = q.2
 ·rw [decide_eq_true h1,if_neg (by simp),if_neg (fun h => h.2 h1)]
 ·rw [decide_eq_false h1,if_pos (by simp)]
  by_cases h2 : sfeB f q (nwL e f.vs.length) (psL e f.vs.length) = true
  ·rw [if_pos h2,if_pos ⟨h2,h1⟩]
  ·rw [if_neg h2,if_neg (fun h => h2 h.1)]
theorem zuf {l m : List Bool} (hl : l.length = m.length) (h : ∀ p,p < l.length -> l.getD p false = m.getD p false) : l = m :=
 List.ext_getElem hl fun p h1 h2 => by have:=h p h1;simpa [List.getD,h1,h2] using this
theorem RQ.goal {f : zae} (ho : Ord f) {s : SiD} {now had : List Nat} (h : RQ f s now had) : wntB f.vs now f.vs.length = decide (s.has = (zad f).wnt):=by
 have h3:=ho.vs3
 have hw : ∀ p,p < 9 -> (zad f).wnt.getD p false = wnB f p:=fun p hp => zd3 _ _ hp
 have hpart : ∀ (i : Nat) (v : SvcD),f.vs[i]? = some v -> 0 <= v.want /\ v.want < v.rels.length /\ v.rels.length <= 3:=fun i v hv => by
  have:=ho.parts (List.mem_of_getElem? hv)
  exact ⟨this.2.2.2.1.1,this.2.2.2.1.2,this.2.1⟩
 rw [Bool.eq_iff_iff,decide_eq_true_eq]
 unfold wntB
 rw [List.all_eq_true]
 constructor
 ·intro H
  refine zuf (by rw [h.ok.1,(zb5 f).wnt]) fun p h1 => ?_
  have hp : p < 9:=by rw [<- h.ok.1];exact h1
  rw [h.hs p hp,hw p hp]
  unfold wnB
  by_cases hl : p / 3 < f.vs.length
  ·obtain ⟨v,hv⟩ : ∃ v,f.vs[p / 3]? = some v:=⟨f.vs[p / 3],List.getElem?_eq_getElem hl⟩
   have H1:=H (p / 3) (List.mem_range.2 hl)
   have hpp:=hpart _ v hv
   rw [hv] at H1 ⊢
   simp only [decide_eq_true_eq] at H1
   rw [Bool.eq_iff_iff]
   simp [hl]
   simp only [List.getD] at H1
   omega
  ·rw [List.getElem?_eq_none (by omega)];simp [hl]
 ·intro H i hi
  have hi:=List.mem_range.1 hi
  obtain ⟨v,hv⟩ : ∃ v,f.vs[i]? = some v:=⟨f.vs[i],List.getElem?_eq_getElem hi⟩
  obtain ⟨u,b,hu,hb,hur,hb8⟩:=h.get hi
  have hrl:=ho.rl hi
  rw [hv]
  simp only [decide_eq_true_eq]
  have hp : i * 3 + u < 9:=by omega
  have q1:=h.hs (i * 3 + u) hp
  rw [H,hw _ hp,show (i * 3 + u) / 3 = i by omega,show (i * 3 + u) % 3 = u by omega,zbp hu] at q1
  unfold wnB at q1
  rw [show (i * 3 + u) / 3 = i by omega,show (i * 3 + u) % 3 = u by omega,hv] at q1
  simp [hi] at q1
  rw [zbp hu]
  exact q1.2
end
section
open Go.RowKit
section
def tinL (nx : SiD -> Nat -> Option SiD) (k : Nat) (s : SiD) (L : List (TS SiD)) (ps : List Nat) : List (TS SiD) :=
 ps.foldl (fun M p => match nx s p with | some y => tins k M p y | none => M) L
theorem ze6 (nx : SiD -> Nat -> Option SiD) (k : Nat) (s : SiD) (L : List (TS SiD)) (ps : List Nat) (p : Nat) : tinL nx k s L (ps ++ [p]) = match nx s p with | some y => tins k (tinL nx k s L ps) p y | none => tinL nx k s L ps:=by
 unfold tinL;rw [List.foldl_append];rfl
theorem zrg (nx : SiD -> Nat -> Option SiD) (k : Nat) (s : SiD) (L : List (TS SiD)) : ∀ p,tin nx k s p L = tinL nx k s L (List.range p)
 | 0 => rfl
 | p + 1 => by
  rw [tin,List.range_succ,ze6,zrg nx k s L p]
  all_goals (cases nx s p <;> rfl)
theorem zra (nx : SiD -> Nat -> Option SiD) (k : Nat) (s : SiD) (g : Nat -> Bool) : ∀ (ps : List Nat) (L : List (TS SiD)),(∀ p ∈ ps,g p = false -> nx s p = none) -> tinL nx k s L (ps.filter g) = tinL nx k s L ps
 | [],L,_ => rfl
 | p :: ps,L,h => by
  have ih:=fun L => zra nx k s g ps L (fun q hq => h q (by simp [hq]))
  cases hg : g p with
  | true => rw [List.filter_cons_of_pos hg];exact ih _
  | false =>
   rw [List.filter_cons_of_neg (by simp [hg])]
   rw [ih]
   unfold tinL
   rw [List.foldl_cons,h p (by simp) hg]
theorem zre {nx : SiD -> Nat -> Option SiD} {k i : Nat} {s : SiD} {a : TS SiD} : ∀ (ps : List Nat) (L : List (TS SiD)),L[i]? = some a -> (tinL nx k s L ps)[i]? = some a
 | [],L,h => h
 | p :: ps,L,h => by
  unfold tinL
  rw [List.foldl_cons]
  refine zre ps _ ?_
  split
  ·exact zrh h
  ·exact h
end
theorem zxm : ∀ n < 4,∀ a < 4,∀ b < 4,∀ c < 4,(List.range 9).filter (fun p => decide (p / 3 < n) && decide (p % 3 < [a,b,c].getD (p / 3) 0)) = (List.range n).flatMap (fun s => (List.range ([a,b,c].getD s 0)).map fun r => s * 3 + r):=by decide +kernel
theorem zqg (vs : List SvcD) {s : Nat} (hs : s < 3) : [rlen vs 0,rlen vs 1,rlen vs 2].getD s 0 = rlen vs s:=by
 rcases lt3 hs with rfl | rfl | rfl <;> rfl
theorem znz {g h : Nat -> Bool} : ∀ {l : List Nat},(∀ x ∈ l,g x = h x) -> l.filter g = l.filter h
 | [],_ => rfl
 | a :: l,H => by
  rw [List.filter_cons,List.filter_cons,H a (by simp),znz (fun x hx => H x (by simp [hx]))]
theorem zn2 {β : Type} {g h : Nat -> List β} : ∀ {l : List Nat},(∀ x ∈ l,g x = h x) -> l.flatMap g = l.flatMap h
 | [],_ => rfl
 | a :: l,H => by rw [List.flatMap_cons,List.flatMap_cons,H a (by simp),zn2 (fun x hx => H x (by simp [hx]))]
theorem zp2 {f : zae} (ho : Ord f) : (prs f.vs).map plN = (List.range 9).filter (thB f):=by
 have h3:=ho.vs3
 have hr : ∀ s,rlen f.vs s < 4:=fun s => by have:=zqh (vs:=f.vs) (fun v hv => (ho.parts hv).2.1) s;omega
 have:=zxm f.vs.length (by omega) (rlen f.vs 0) (hr 0) (rlen f.vs 1) (hr 1) (rlen f.vs 2) (hr 2)
 have e1 : (List.range 9).filter (thB f) = (List.range 9).filter (fun p => decide (p / 3 < f.vs.length) && decide (p % 3 < [rlen f.vs 0,rlen f.vs 1,rlen f.vs 2].getD (p / 3) 0)):=znz fun p hp => by
  have hp:=List.mem_range.1 hp
  have h1:=ze5 f (p / 3) (p % 3) (by omega)
  rw [show p / 3 * 3 + p % 3 = p by omega] at h1
  rw [h1,zqg f.vs (by omega)]
 rw [e1,this]
 unfold prs zb4 zfo
 rw [List.map_flatMap]
 refine zn2 fun s hs => ?_
 have hs:=List.mem_range.1 hs
 rw [zqg f.vs (by omega),List.map_map]
 rfl
theorem yaaf {f : zae} (ho : Ord f) {k : Nat} {a : TS SiD} (ha : (touS (zad f) k)[k]? = some a) : touS (zad f) (k + 1) = tinL (nxS (zad f)) k a.now (touS (zad f) k) ((prs f.vs).map plN):=by
 rw [zri ha,zrg,zp2 ho,zra]
 intro p hp h
 exact zo2 (List.mem_range.1 hp) h
structure LR (f : zae) (L : List (TS SiD)) (l : List SE) : Prop where
 len : l.length = L.length
 rq : ∀ (j : Nat) (t : TS SiD) (e : SE),L[j]? = some t -> l[j]? = some e -> RQ f t.now e.now e.had /\ e.far = -1
theorem LR.get {f : zae} {L : List (TS SiD)} {l : List SE} (h : LR f L l) {j : Nat} {t : TS SiD} (ht : L[j]? = some t) : ∃ e,l[j]? = some e /\ RQ f t.now e.now e.had /\ e.far = -1:=by
 obtain ⟨e,he⟩ : ∃ e,l[j]? = some e:=⟨l[j]'(by rw [h.len];exact (List.getElem?_eq_some_iff.1 ht).1),List.getElem?_eq_getElem _⟩
 exact ⟨e,he,h.rq j t e ht he⟩
theorem LR.snoc {f : zae} {L : List (TS SiD)} {l : List SE} (h : LR f L l) {t : TS SiD} {e : SE} (hq : RQ f t.now e.now e.had) (hf : e.far = -1) : LR f (L ++ [t]) (l ++ [e]):=by
 refine ⟨by rw [List.length_append,List.length_append,h.len];rfl,fun j u d hu hd => ?_⟩
 rcases zdg hu with hu | ⟨hj,rfl⟩
 ·rcases zdg hd with hd | ⟨hj,rfl⟩
  ·exact h.rq j u d hu hd
  ·have:=(List.getElem?_eq_some_iff.1 hu).1;rw [h.len] at hj;omega
 ·rcases zdg hd with hd | ⟨hj',rfl⟩
  ·have:=(List.getElem?_eq_some_iff.1 hd).1;rw [h.len] at this;omega
  ·exact ⟨hq,hf⟩
theorem zn4 (x : SE) : ∀ (l : List SE) (i : Nat),(fndI x l i = -1 /\ ∀ e ∈ l,¬ (e.now = x.now /\ e.had = x.had)) \/ ∃ j e,l[j]? = some e /\ e.now = x.now /\ e.had = x.had /\ fndI x l i = ((i + j : Nat) : Int)
 | [],i => .inl ⟨rfl,fun e he => by simp at he⟩
 | a :: l,i => by
  rw [fndI]
  by_cases h : a.now = x.now /\ a.had = x.had
  ·rw [if_pos h];exact .inr ⟨0,a,rfl,h.1,h.2,by simp⟩
  ·rw [if_neg h]
   rcases zn4 x l (i + 1) with ⟨h1,h2⟩ | ⟨j,e,h1,h2,h3,h4⟩
   ·refine .inl ⟨h1,fun e he => ?_⟩
    rcases List.mem_cons.1 he with rfl | he
    ·exact h
    ·exact h2 e he
   ·exact .inr ⟨j + 1,e,by rw [List.getElem?_cons_succ];exact h1,h2,h3,by rw [h4];congr 1;omega⟩
theorem LR.find {f : zae} (ho : Ord f) {L : List (TS SiD)} {l : List SE} (h : LR f L l) {y : SiD} {x : SE} (hq : RQ f y x.now x.had) :
  (fndI x l 0 = -1 /\ (L.any fun t => zg3 t.now y) = false) \/ ∃ (j : Nat) (t : TS SiD),L[j]? = some t /\ t.now = y /\ fndI x l 0 = (j : Int) /\ (L.any fun t => zg3 t.now y) = true:=by
 rcases zn4 x l 0 with ⟨h1,h2⟩ | ⟨j,e,h1,h2,h3,h4⟩
 ·refine .inl ⟨h1,?_⟩
  rw [Bool.eq_false_iff]
  intro hc
  obtain ⟨t,ht,hty⟩:=List.any_eq_true.1 hc
  obtain ⟨j,hj⟩:=List.getElem?_of_mem ht
  obtain ⟨e,he,hr,_⟩:=h.get hj
  exact h2 e (List.mem_of_getElem? he) ((hr.inj ho hq).1 (zqu.1 hty))
 ·obtain ⟨t,ht⟩ : ∃ t,L[j]? = some t:=⟨L[j]'(by rw [<- h.len];exact (List.getElem?_eq_some_iff.1 h1).1),List.getElem?_eq_getElem _⟩
  have hr:=(h.rq j t e ht h1).1
  have hty : t.now = y:=(hr.inj ho hq).2 ⟨h2,h3⟩
  exact .inr ⟨j,t,ht,hty,by rw [h4,Nat.zero_add],List.any_eq_true.2 ⟨t,List.mem_of_getElem? ht,zqu.2 hty⟩⟩
structure EI (nx : SiD -> Nat -> Option SiD) (L : List (TS SiD)) (E : List (Nat × Nat × Nat)) (i : Nat) (ps : List Nat) : Prop where
 ok : ∀ a b p,(a,b,p) ∈ E -> p < 9 /\ ∃ t u,L[a]? = some t /\ L[b]? = some u /\ nx t.now p = some u.now
 all : ∀ (a : Nat) (t : TS SiD) (p : Nat) (y : SiD),L[a]? = some t -> p < 9 -> nx t.now p = some y -> a < i \/ (a = i /\ p ∈ ps) -> ∃ b,(a,b,p) ∈ E
theorem EI.skip {nx : SiD -> Nat -> Option SiD} {L : List (TS SiD)} {E : List (Nat × Nat × Nat)} {i : Nat} {ps : List Nat} (h : EI nx L E i ps) {t : TS SiD} (ht : L[i]? = some t) {p : Nat} (hp : nx t.now p = none) : EI nx L E i (ps ++ [p]):=by
 refine ⟨h.ok,fun a u q y hu hq hy hc => ?_⟩
 rcases hc with hc | ⟨rfl,hc⟩
 ·exact h.all a u q y hu hq hy (.inl hc)
 ·rcases List.mem_append.1 hc with hc | hc
  ·exact h.all a u q y hu hq hy (.inr ⟨rfl,hc⟩)
  ·simp at hc;subst hc
   rw [ht] at hu;cases hu
   rw [hp] at hy;cases hy
theorem EI.add {nx : SiD -> Nat -> Option SiD} {L L' : List (TS SiD)} {E : List (Nat × Nat × Nat)} {i : Nat} {ps : List Nat} (h : EI nx L E i ps) (hL : ∀ (j : Nat) (t : TS SiD),L[j]? = some t -> L'[j]? = some t) (hL2 : ∀ (j : Nat) (t : TS SiD),j <= i -> L'[j]? = some t -> L[j]? = some t) {t : TS SiD} (ht : L[i]? = some t) {p : Nat} (hp9 : p < 9) {y : SiD} (hp : nx t.now p = some y) {n : Nat} {u : TS SiD} (hu : L'[n]? = some u) (huy : u.now = y) : EI nx L' (E ++ [(i,n,p)]) i (ps ++ [p]):=by
 refine ⟨fun a b q hm => ?_,fun a v q z hv hq hz hc => ?_⟩
 ·rcases List.mem_append.1 hm with hm | hm
  ·obtain ⟨h1,t1,u1,h2,h3,h4⟩:=h.ok a b q hm
   exact ⟨h1,t1,u1,hL _ _ h2,hL _ _ h3,h4⟩
  ·simp at hm
   obtain ⟨rfl,rfl,rfl⟩:=hm
   exact ⟨hp9,t,u,hL _ _ ht,hu,by rw [huy];exact hp⟩
 ·have hai : a <= i:=by rcases hc with hc | hc <;> omega
  have hv':=hL2 a v hai hv
  rcases hc with hc | ⟨rfl,hc⟩
  ·obtain ⟨b,hb⟩:=h.all a v q z hv' hq hz (.inl hc)
   exact ⟨b,by simp [hb]⟩
  ·rcases List.mem_append.1 hc with hc | hc
   ·obtain ⟨b,hb⟩:=h.all a v q z hv' hq hz (.inr ⟨rfl,hc⟩)
    exact ⟨b,by simp [hb]⟩
   ·simp at hc;subst hc
    exact ⟨n,by simp⟩
theorem EI.next {f : zae} (ho : Ord f) {L : List (TS SiD)} {E : List (Nat × Nat × Nat)} {i : Nat} (h : EI (nxS (zad f)) L E i ((prs f.vs).map plN)) : EI (nxS (zad f)) L E (i + 1) []:=by
 refine ⟨h.ok,fun a u q y hu hq hy hc => ?_⟩
 rcases hc with hc | ⟨_,hc⟩
 ·rcases Nat.lt_succ_iff_lt_or_eq.1 hc with hc | rfl
  ·exact h.all a u q y hu hq hy (.inl hc)
  ·refine h.all a u q y hu hq hy (.inr ⟨rfl,?_⟩)
   rw [zp2 ho,List.mem_filter]
   refine ⟨List.mem_range.2 hq,?_⟩
   cases hth : thB f q with
   | true => rfl
   | false => rw [zo2 hq hth] at hy;cases hy
 ·simp at hc
theorem EI.done {nx : SiD -> Nat -> Option SiD} {L : List (TS SiD)} {E : List (Nat × Nat × Nat)} (h : EI nx L E L.length []) : EdgesOk nx L E :=
 ⟨h.ok,fun a t p y ht hp hy => h.all a t p y ht hp hy (.inl (List.getElem?_eq_some_iff.1 ht).1)⟩
end
section
open Go.RowKit
theorem PrAt.grown {w w' : World} {row : Option Nat} {a : Option Addr} {l : List (Nat × Nat)} (h : PrAt w a l) (hg : w.grownBy w' row) (hne : ∀ b,a = some ⟨b,0,none⟩ -> some b ≠ row) : PrAt w' a l:=fun i q hi => by
 obtain ⟨b,h1,h2,h3⟩:=h i q hi
 exact ⟨b,h1,hg.cell h2 (hne b h1),hg.cell h3 (hne b h1)⟩
theorem SeAt.grown {w w' : World} {row : Option Nat} {m : Nat} {e : SE} (h : SeAt w m e) (hg : w.grownBy w' row) (h1 : some e.a ≠ row) (h2 : some e.b ≠ row) : SeAt w' m e :=
 ⟨h.1,h.2.1,fun j v hj => hg.cell (h.2.2.1 j v hj) h1,fun j v hj => hg.cell (h.2.2.2 j v hj) h2⟩
theorem zla {w : World} {base n : Nat} {v : Value} {l : List (Nat × Nat)} (h : w.ownsRow base 64 2 v n (prC l)) (hl : l.length = n) : ∃ a c,v = .slice a n c /\ PrAt w a l:=by
 have h0:=h
 rcases h.2 with ⟨hv,hn⟩ | ⟨g,cap,cur,hv,_⟩
 ·subst hn
  have : l = []:=List.eq_nil_of_length_eq_zero hl
  subst this
  exact ⟨none,0,hv,fun i m hi => by simp at hi⟩
 ·subst hv
  refine ⟨some ⟨g,0,none⟩,cap,rfl,fun k e hk => ⟨g,rfl,?_⟩⟩
  obtain ⟨q0,q1⟩:=zc3 l k e hk
  have:=(List.getElem?_eq_some_iff.1 hk).1
  exact ⟨by rw [h0.cellAt _ (by omega)];exact q0,by rw [h0.cellAt _ (by omega)];exact q1⟩
def edC (E : List (Nat × Nat × Nat)) : List Value:=E.flatMap fun e => [.int .i64 (e.1 : Int),.int .i64 (e.2.1 : Int),.int .i64 ((e.2.2 / 3 : Nat) : Int),.int .i64 ((e.2.2 % 3 : Nat) : Int)]
theorem zt5 (a b : List (Nat × Nat × Nat)) : edC (a ++ b) = edC a ++ edC b:=by simp [edC]
theorem znb : ∀ {E : List (Nat × Nat × Nat)} {k : Nat} {e : Nat × Nat × Nat},E[k]? = some e -> (edC E)[k * 4]? = some (.int .i64 (e.1 : Int)) /\ (edC E)[k * 4 + 1]? = some (.int .i64 (e.2.1 : Int)) /\ (edC E)[k * 4 + 2]? = some (.int .i64 ((e.2.2 / 3 : Nat) : Int)) /\ (edC E)[k * 4 + 3]? = some (.int .i64 ((e.2.2 % 3 : Nat) : Int))
 | [],k,e,h => by simp at h
 | q :: E,0,e,h => by simp at h;subst h;exact ⟨rfl,rfl,rfl,rfl⟩
 | q :: E,k + 1,e,h => by
  rw [List.getElem?_cons_succ] at h
  obtain ⟨h0,h1,h2,h3⟩:=znb h
  have e4 : edC (q :: E) = [.int .i64 (q.1 : Int),.int .i64 (q.2.1 : Int),.int .i64 ((q.2.2 / 3 : Nat) : Int),.int .i64 ((q.2.2 % 3 : Nat) : Int)] ++ edC E:=rfl
  rw [e4]
  refine ⟨?_,?_,?_,?_⟩ <;> rw [List.getElem?_append_right (by simp;omega)]
  ·rw [show (k + 1) * 4 - ([.int .i64 (q.1 : Int),.int .i64 (q.2.1 : Int),.int .i64 ((q.2.2 / 3 : Nat) : Int),.int .i64 ((q.2.2 % 3 : Nat) : Int)] : List Value).length = k * 4 by simp;omega];exact h0
  ·rw [show (k + 1) * 4 + 1 - ([.int .i64 (q.1 : Int),.int .i64 (q.2.1 : Int),.int .i64 ((q.2.2 / 3 : Nat) : Int),.int .i64 ((q.2.2 % 3 : Nat) : Int)] : List Value).length = k * 4 + 1 by simp;omega];exact h1
  ·rw [show (k + 1) * 4 + 2 - ([.int .i64 (q.1 : Int),.int .i64 (q.2.1 : Int),.int .i64 ((q.2.2 / 3 : Nat) : Int),.int .i64 ((q.2.2 % 3 : Nat) : Int)] : List Value).length = k * 4 + 2 by simp;omega];exact h2
  ·rw [show (k + 1) * 4 + 3 - ([.int .i64 (q.1 : Int),.int .i64 (q.2.1 : Int),.int .i64 ((q.2.2 / 3 : Nat) : Int),.int .i64 ((q.2.2 % 3 : Nat) : Int)] : List Value).length = k * 4 + 3 by simp;omega];exact h3
theorem zna {w : World} {base n : Nat} {v : Value} {E : List (Nat × Nat × Nat)} (h : w.ownsRow base 86 4 v n (edC E)) (hl : E.length = n) : ∃ a c,v = .slice a n c /\ EdAt w a E:=by
 have h0:=h
 rcases h.2 with ⟨hv,hn⟩ | ⟨g,cap,cur,hv,_⟩
 ·subst hn
  have : E = []:=List.eq_nil_of_length_eq_zero hl
  subst this
  exact ⟨none,0,hv,fun i m hi => by simp at hi⟩
 ·subst hv
  refine ⟨some ⟨g,0,none⟩,cap,rfl,fun k e hk => ⟨g,rfl,?_⟩⟩
  obtain ⟨q0,q1,q2,q3⟩:=znb hk
  have:=(List.getElem?_eq_some_iff.1 hk).1
  exact ⟨by rw [h0.cellAt _ (by omega)];exact q0,by rw [h0.cellAt _ (by omega)];exact q1,by rw [h0.cellAt _ (by omega)];exact q2,by rw [h0.cellAt _ (by omega)];exact q3⟩
structure Rc (f : zae) (w wr : World) (gl cl : Nat) (l : List SE) (ve : Value) (E : List (Nat × Nat × Nat)) (L : List (TS SiD)) (X : List (Option Addr × List (Nat × Nat))) : Prop where
 own : wr.ownsRow w.heap.size 83 3 (.slice (some ⟨gl,0,none⟩) l.length cl) l.length (sesC l)
 ses : SesAt wr f.vs.length l
 ne : ∀ e ∈ l,(e.a ≠ gl /\ some e.a ≠ ve.ownBlock /\ e.a < wr.heap.size) /\ e.b ≠ gl /\ some e.b ≠ ve.ownBlock /\ e.b < wr.heap.size
 oe : wr.ownsRow w.heap.size 86 4 ve E.length (edC E)
 ge : ve.ownBlock ≠ some gl
 lr : LR f L l
 pr : ∀ x ∈ X,PrAt wr x.1 x.2 /\ ∀ b,x.1 = some ⟨b,0,none⟩ -> b ≠ gl /\ some b ≠ ve.ownBlock /\ b < wr.heap.size
 bel : Below w.heap.size w wr
section
variable {f : zae} {w wr : World} {gl cl : Nat} {l : List SE} {ve : Value} {E : List (Nat × Nat × Nat)} {L : List (TS SiD)} {X : List (Option Addr × List (Nat × Nat))}
theorem Rc.keep (h : Rc f w wr gl cl l ve E L X) {wr' : World} (hb : Below wr.heap.size wr wr') : Rc f w wr' gl cl l ve E L X:=by
 have hz:=hb.size
 refine ⟨zbc h.own hb,h.ses.keep hb,fun e he => ?_,zbc h.oe hb,h.ge,h.lr,fun x hx => ⟨(h.pr x hx).1.keep hb,fun b hxb => ?_⟩,thn3 h.bel hb⟩
 ·obtain ⟨⟨a1,a2,a3⟩,b1,b2,b3⟩:=h.ne e he;exact ⟨⟨a1,a2,by omega⟩,b1,b2,by omega⟩
 ·obtain ⟨a1,a2,a3⟩:=(h.pr x hx).2 b hxb;exact ⟨a1,a2,by omega⟩
theorem Rc.less (h : Rc f w wr gl cl l ve E L X) {Y : List (Option Addr × List (Nat × Nat))} (hy : ∀ x ∈ Y,x ∈ X) : Rc f w wr gl cl l ve E L Y:=⟨h.own,h.ses,h.ne,h.oe,h.ge,h.lr,fun x hx => h.pr x (hy x hx),h.bel⟩
theorem Rc.addE (h : Rc f w wr gl cl l ve E L X) {o : Obj} {w' : World} {g2 c2 : Nat} {d : Nat × Nat × Nat} (hg : (wr.alloc o).grownBy w' ve.ownBlock) (hown : w'.ownsRow w.heap.size 86 4 (.slice (some ⟨g2,0,none⟩) (E.length + 1) c2) (E.length + 1) (edC E ++ [.int .i64 (d.1 : Int),.int .i64 (d.2.1 : Int),.int .i64 ((d.2.2 / 3 : Nat) : Int),.int .i64 ((d.2.2 % 3 : Nat) : Int)])) (hat : ve.ownBlock = some g2 \/ g2 = wr.heap.size + 1) :
  Rc f w w' gl cl l (.slice (some ⟨g2,0,none⟩) (E.length + 1) c2) (E ++ [d]) L X:=by
 have hz:=hg.size
 have hz1 : (wr.alloc o).heap.size = wr.heap.size + 1:=by simp
 have hgl:=(h.own.lt gl rfl).2
 have hwz:=h.bel.size
 have hne : ∀ b,some b ≠ ve.ownBlock -> b < wr.heap.size -> some b ≠ (Value.slice (some ⟨g2,0,none⟩) (E.length + 1) c2).ownBlock:=fun b h1 h2 e => by
  have e' : b = g2:=by simpa [Value.ownBlock] using e
  rcases hat with h3 | h3
  ·exact h1 (by rw [h3,e'])
  ·omega
 refine ⟨(h.own.alloc _).kept hg (.inr (fun e => h.ge e.symm)),fun e he => ?_,fun e he => ?_,?_,fun e => ?_,h.lr,fun x hx => ⟨?_,fun b hxb => ?_⟩,?_⟩
 ·obtain ⟨⟨a1,a2,a3⟩,b1,b2,b3⟩:=h.ne e he
  exact ((h.ses e he).keep (belS _ _)).grown hg a2 b2
 ·obtain ⟨⟨a1,a2,a3⟩,b1,b2,b3⟩:=h.ne e he
  exact ⟨⟨a1,hne _ a2 a3,by omega⟩,b1,hne _ b2 b3,by omega⟩
 ·rw [zt5,List.length_append];exact hown
 ·exact hne gl (fun e => h.ge e.symm) hgl e.symm
 ·exact ((h.pr x hx).1.keep (belS _ _)).grown hg fun b hb => ((h.pr x hx).2 b hb).2.1
 ·obtain ⟨a1,a2,a3⟩:=(h.pr x hx).2 b hxb
  exact ⟨a1,hne b a2 a3,by omega⟩
 ·exact Below.grown (h.bel.alloc hwz _) hg (by omega) (fun k hk => (h.oe.lt k hk).1)
theorem Rc.addL (h : Rc f w wr gl cl l ve E L X) {o : Obj} {w' : World} {g2 c2 : Nat} {e : SE} {t : TS SiD} (hg : (wr.alloc o).grownBy w' (some gl)) (hown : w'.ownsRow w.heap.size 83 3 (.slice (some ⟨g2,0,none⟩) (l.length + 1) c2) (l.length + 1) (sesC l ++ seC e)) (hat : some gl = some g2 \/ g2 = wr.heap.size + 1)
  (hse : SeAt wr f.vs.length e) (hea : e.a ≠ gl /\ some e.a ≠ ve.ownBlock /\ e.a < wr.heap.size) (heb : e.b ≠ gl /\ some e.b ≠ ve.ownBlock /\ e.b < wr.heap.size) (hq : RQ f t.now e.now e.had) (hf : e.far = -1) :
  Rc f w w' g2 c2 (l ++ [e]) ve E (L ++ [t]) X:=by
 have hz:=hg.size
 have hz1 : (wr.alloc o).heap.size = wr.heap.size + 1:=by simp
 have hwz:=h.bel.size
 have hne : ∀ b,b ≠ gl -> b < wr.heap.size -> b ≠ g2:=fun b h1 h2 e => by
  rcases hat with h3 | h3
  ·exact h1 (by simp at h3;omega)
  ·omega
 have hs : ∀ b,b ≠ gl -> some b ≠ some gl:=fun b h1 e => h1 (by simpa using e)
 refine ⟨?_,fun d hd => ?_,fun d hd => ?_,(h.oe.alloc _).kept hg (.inr h.ge),fun ee => ?_,h.lr.snoc hq hf,fun x hx => ⟨?_,fun b hxb => ?_⟩,?_⟩
 ·rw [zy5,List.length_append]
  have : sesC [e] = seC e:=by simp [sesC]
  rw [this];exact hown
 ·rcases List.mem_append.1 hd with hd | hd
  ·obtain ⟨⟨a1,a2,a3⟩,b1,b2,b3⟩:=h.ne d hd
   exact ((h.ses d hd).keep (belS _ _)).grown hg (hs _ a1) (hs _ b1)
  ·simp at hd;subst hd
   exact (hse.keep (belS _ _)).grown hg (hs _ hea.1) (hs _ heb.1)
 ·rcases List.mem_append.1 hd with hd | hd
  ·obtain ⟨⟨a1,a2,a3⟩,b1,b2,b3⟩:=h.ne d hd
   exact ⟨⟨hne _ a1 a3,a2,by omega⟩,hne _ b1 b3,b2,by omega⟩
  ·simp at hd;subst hd
   obtain ⟨a1,a2,a3⟩:=hea
   obtain ⟨b1,b2,b3⟩:=heb
   exact ⟨⟨hne _ a1 a3,a2,by omega⟩,hne _ b1 b3,b2,by omega⟩
 ·rcases hat with h3 | h3
  ·exact h.ge (ee.trans h3.symm)
  ·have:=(h.oe.lt g2 ee).2;omega
 ·exact ((h.pr x hx).1.keep (belS _ _)).grown hg fun b hb => hs _ ((h.pr x hx).2 b hb).1
 ·obtain ⟨a1,a2,a3⟩:=(h.pr x hx).2 b hxb
  exact ⟨hne b a1 a3,a2,by omega⟩
 ·exact Below.grown (h.bel.alloc hwz _) hg (by omega) (fun k hk => by cases hk;exact (h.own.lt gl rfl).1)
end
end
section
open Go.RowKit
theorem zo0 {f : zae} (ho : Ord f) {s : Nat} (hs : s < f.vs.length) : ∃ n : Nat,nowI f s = n /\ n < rlen f.vs s /\ n < 3 /\ nwP f s = plN (s,n) /\ (s,n) ∈ prs f.vs /\ plN (s,n) < 9:=by
 have hr:=ho.rl hs
 have h3:=ho.vs3
 refine ⟨(nowI f s).toNat,(Int.toNat_of_nonneg hr.2.2.1).symm,by omega,by omega,rfl,zil hs (by omega),by unfold plN;simp only;omega⟩
theorem zzn (f : zae) (ho : Ord f) (sa ta va : Option Addr) (sl sc tl tc vl vc : Nat) (g : Nat) (E K : List (List Bool)) (w : World) (hV : LookAt w g sa sl sc ta tl tc va vl vc f E K) :
  Calls Tryz.prog 31 #[.pointer (some ⟨g,0,none⟩)] w fun e W => e = .returned (.bool (rndB f)) /\ Below w.heap.size w W:=by
 have hv1:=hV.fl.v1
 have h3:=ho.vs3
 obtain ⟨v1a,v1b⟩ : vl <= f.vs.length /\ f.vs.length <= vl:=by omega
 obtain ⟨R,hR⟩ : ∃ R,R = rndB f:=⟨_,rfl⟩
 rw [<- hR]
 have HR : Hid (R = (List.range f.vs.length).all fun s => (List.range f.vs.length).all fun t => eB f (nwP f s) (nwP f t)):=hR
 have HV:= zab hV
 have HO:= zab ho
 have c2:=hV.c2
 have hgl:=zaf c2
 clear hR hV ho hv1
 go_enter Tryz.func31,Tryz.ntmps31
 go_wp2_with fail
 go_loopw [3] (fun vs wr => ∃ s : Nat,s <= vl /\ vs = .int .i64 s /\ Hid ((List.range s).all (fun s => (List.range f.vs.length).all fun t => eB f (nwP f s) (nwP f t)) = true) /\ Below w.heap.size w wr) (fun s _ => vl - (intOf s).toNat)
 case atStart => exact ⟨0,Nat.zero_le _,rfl,(by show _ = _;rfl),Below.refl _ _⟩
 case round =>
  obtain ⟨s,hs,rfl,hal,hb⟩:=hrel
  have c2r:=zaa hb c2
  have hx0 := znn s
  by_cases hlt : s < vl
  ·have hx1 : (s : Int) < (vl : Int):=by omega
   obtain ⟨n,hn,hnr,hn3,hnp,hmem,hp9⟩:=zo0 HO.out (f:=f) (s:=s) (by omega)
   obtain ⟨v,hv⟩ : ∃ v,f.vs[s]? = some v:=⟨f.vs[s]'(by omega),List.getElem?_eq_getElem (by omega)⟩
   obtain ⟨b,o,ra,rl,rc,rfl,_,d1,_,_,_⟩:=HV.out.fl.v3 s v hv
   rw [zia hv] at hn
   rw [hn] at d1
   have hsn:=zf5 (fun s => (List.range f.vs.length).all fun t => eB f (nwP f s) (nwP f t)) s
   rw [hal.out,Bool.true_and,hnp] at hsn
   have hno : ((List.range f.vs.length).all fun t => eB f (nwP f s) (nwP f t)) = false -> R = false:=fun h => by rw [HR.out];exact zhj (show s < f.vs.length by omega) h
   rw [hnp] at hno
   have HSN:= zab hsn
   have HNO:= zab hno
   clear hsn hno hal hv hn hnp
   go_wp2_with fail
   go_loopw [4] (fun vt wr => ∃ t : Nat,t <= vl /\ vt = .int .i64 t /\ Hid ((List.range t).all (fun t => eB f (plN (s,n)) (nwP f t)) = true) /\ Below w.heap.size w wr) (fun t _ => vl - (intOf t).toNat)
   case atStart => exact ⟨0,Nat.zero_le _,rfl,(by show _ = _;rfl),hb⟩
   case round =>
    clear hb c2r
    obtain ⟨t,ht,rfl,hal,hb⟩:=hrel
    have c2r:=zaa hb c2
    have hgr:=zaf c2r
    have hy0 := znn t
    by_cases hlt2 : t < vl
    ·have hy1 : (t : Int) < (vl : Int):=by omega
     obtain ⟨m,hm,hmr,hm3,hmp,hmem2,hq9⟩:=zo0 HO.out (f:=f) (s:=t) (by omega)
     obtain ⟨v,hv⟩ : ∃ v,f.vs[t]? = some v:=⟨f.vs[t]'(by omega),List.getElem?_eq_getElem (by omega)⟩
     obtain ⟨b',o',ra2,rl2,rc2,heq,_,d2,_,_,_⟩:=HV.out.fl.v3 t v hv
     obtain ⟨rfl,rfl⟩ : b = b' /\ o = o':=by cases heq;exact ⟨rfl,rfl⟩
     rw [zia hv] at hm
     rw [hm] at d2
     have hsn:=zf5 (fun t => eB f (plN (s,n)) (nwP f t)) t
     rw [hal.out,Bool.true_and,hmp] at hsn
     have hno : eB f (plN (s,n)) (nwP f t) = false -> R = false:=fun h => HNO.out (zhj (show t < f.vs.length by omega) h)
     rw [hmp] at hno
     obtain ⟨be,oe,ec,ge,ce,x1,x2,x3⟩:=HV.out.eE hmem hmem2 hp9 hq9
     have id1 : ∀ W,Calls Tryz.prog 58 #[.agg #[.int .i64 s,.int .i64 n]] W fun e W' => e = .returned (.int .i64 ((plN (s,n) : Nat) : Int)) /\ Below W.heap.size W W':=fun W => zev s n (by omega) (by omega) W
     have id2 : ∀ W,Calls Tryz.prog 58 #[.agg #[.int .i64 t,.int .i64 m]] W fun e W' => e = .returned (.int .i64 ((plN (t,m) : Nat) : Int)) /\ Below W.heap.size W W':=fun W => zev t m (by omega) (by omega) W
     have d1r:=zaa hb d1
     have d2r:=zaa hb d2
     have hP0 : (0 : Int) <= ((plN (s,n) : Nat) : Int):=Int.natCast_nonneg _
     have hP9 : ((plN (s,n) : Nat) : Int) < 9:=by omega
     have hQ0 : (0 : Int) <= ((plN (t,m) : Nat) : Int):=Int.natCast_nonneg _
     have hQ9 : ((plN (t,m) : Nat) : Int) < 9:=by omega
     generalize eB f (plN (s,n)) (plN (t,m)) = x at hsn hno x3
     have HSN2:= zab hsn
     clear hsn hal hv hm hmp heq
     generalize plN (s,n) = P at *
     generalize plN (t,m) = Q at *
     cases x with
     | true =>
      clear hno
      go_wp2_with (first
       | (go_at_call 58;have hq:=hb1;refine (id2 _).mono ?_;rintro e w2 ⟨rfl,hb2⟩;have hB2:=thn3 (thn3 hb hb1) hb2;have y1:=zaa hB2 x1;have y2:=zaa hB2 x2;have y3:=zaa hB2 x3)
       | (go_at_call 58;refine (id1 _).mono ?_;rintro e w1 ⟨rfl,hb1⟩;have c2q:=zaa hb1 c2r;have d2q:=zaa hb1 d2r))
      go_roundw
      case rel => exact ⟨t + 1,by omega,by go_num,HSN2,hB2⟩
      case measure => simp [intOf];omega
     | false =>
      have hR1:=hno rfl
      clear hno
      subst hR1
      go_wp2_with (first
       | (go_at_call 58;have hq:=hb1;refine (id2 _).mono ?_;rintro e w2 ⟨rfl,hb2⟩;have hB2:=thn3 (thn3 hb hb1) hb2;have y1:=zaa hB2 x1;have y2:=zaa hB2 x2;have y3:=zaa hB2 x3)
       | (go_at_call 58;refine (id1 _).mono ?_;rintro e w1 ⟨rfl,hb1⟩;have c2q:=zaa hb1 c2r;have d2q:=zaa hb1 d2r))
      go_ret
      exact ⟨rfl,hB2⟩
    ·have hX : Hid ((List.range (s + 1)).all (fun s => (List.range f.vs.length).all fun t => eB f (nwP f s) (nwP f t)) = true):=by
      show _ = _;rw [HSN.out];have:=hal.out;rw [show t = f.vs.length by omega] at this;exact this
     clear hal HSN HNO
     go_wp2_with fail
     go_roundw
     case rel => exact ⟨s + 1,by omega,by go_num,hX,hb⟩
     case measure => simp [intOf];omega
  ·have hR1 : R = true:=by rw [HR.out];have:=hal.out;rw [show s = f.vs.length by omega] at this;exact this
   clear hal HR
   subst hR1
   go_wp2_with fail
   go_ret
   exact ⟨rfl,hb⟩
end
end Go.Proofs.YtkkekopomiehlaaGreat
