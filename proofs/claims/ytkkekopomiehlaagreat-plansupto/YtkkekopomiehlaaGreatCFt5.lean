import Derived.Test.YtkkekopomiehlaaGreatCDec13
set_option linter.unusedVariables false
set_option linter.unusedSimpArgs false
set_option maxHeartbeats 40000000
namespace Go.Proofs.YtkkekopomiehlaaGreat
section
set_option maxRecDepth 4000
open Go.RowKit
def outU : Option ByteArray -> ByteArray
 | none => ByteArray.empty
 | some t => t
theorem zg8 (o : Option ByteArray) : uR o = .tuple #[.string (outU o),.bool o.isSome]:=by cases o <;> rfl
theorem iB {a b : Nat} (h : a = b) : ((a : Int) == (b : Int)) = true:=by simp;omega
theorem iN {a b : Nat} (h : a ≠ b) : ((a : Int) == (b : Int)) = false:=by simp;omega
theorem yaa3 {m : Nat} (IH : zhg m) : zhg (m + 1):=by
 intro nw nr x r w ai af li ci lf cf bi bf mi di mf df hm hk hwt hx hr
 cases nw with
 | zero => exact hx.elim
 | succ n =>
 cases nr with
 | zero => exact hr.elim
 | succ q =>
 show Calls _ _ _ _ (fun e w' => e = .returned (uR ((zch (unV m n) (unV m (n + 1)) n x r).map (txtV (n + 1) x))) /\ Below w.heap.size w w')
 rw [zg8]
 have hx8 : x.letters.size <= 8:=hx.1
 have hr8 : r.letters.size <= 8:=hr.1
 have hinx:=fun (hne : x.inner ≠ []) (W : World) (hb : Below w.heap.size w W) => zh1 n W ai af li ci lf cf x (hx.keep hb) hne
 have hinr:=fun (hne : r.inner ≠ []) (W : World) (hb : Below w.heap.size w W) => zh1 q W bi bf mi di mf df r (hr.keep hb) hne
 by_cases hr63 : r.kind = 63
 ·have hnr : r.inner ≠ []:=hr.2.2.2.1.1 (.inr hr63)
  by_cases hx63 : x.kind = 63
  ·have hi:=hk.2.2.1 (.inr hx63)
   have hwi:=wtI (m:=n) hi.1
   rw [show (zch (unV m n) (unV m (n + 1)) n x r).map (txtV (n + 1) x) = (unV m n x.in r.in).map (txtV n x.in) by unfold zch;rw [if_pos ⟨hx63,hr63⟩,Option.map_map];rfl]
   refine yaao x r w ai li ci af lf cf bi mi di bf mf df _ _ (iB hx63) (iB hr63) n q (hinx hi.1) (hinr hnr) (fun W p1 p2 p3 p4 p5 p6 q1 q2 q3 q4 q5 q6 hb hp hq => ?_)
   have:=IH n q x.in r.in W p1 p4 p2 p3 p5 p6 q1 q4 q2 q3 q5 q6 (by omega) hi.2 (by omega) hp hq
   rw [zg8] at this;exact this
  ·rw [show zch (unV m n) (unV m (n + 1)) n x r = unV m (n + 1) x r.in by unfold zch;rw [if_neg (fun h => hx63 h.1),if_pos hr63]]
   refine yaau x r w ai li ci af lf cf bi mi di bf mf df _ _ (iN hx63) (iB hr63) q (hinr hnr) (fun W p1 p2 p3 p4 p5 p6 hb hp => ?_)
   have:=IH (n + 1) q x r.in W ai af li ci lf cf p1 p4 p2 p3 p5 p6 (by omega) hk hwt (hx.keep hb) hp
   rw [zg8] at this;exact this
 ·have hst : zch (unV m n) (unV m (n + 1)) n x r = if zba x.kind r.kind = true then none else if x.kind ≠ r.kind then some (lv (n + 1) x) else if x.kind = 60 then (unL x.letters r.letters r.op x.letters.size 0).map Val.cho else if x.kind = 91 then (unV m n x.in r.in).map fun u => .lst [u] else if x.kind = 123 then unF (unV m n) n x.fields r.fields else none:=by
   unfold zch;rw [if_neg (fun h => hr63 h.2),if_neg hr63]
  have h2:=iN (b:=63) hr63
  cases hs : zba x.kind r.kind with
  | true =>
   rw [hst,if_pos hs]
   have hx63 : x.kind ≠ 63:=by simp [zba] at hs;omega
   exact yaav x r w ai li ci af lf cf bi mi di bf mf df _ _ (iN hx63) h2 hs rfl rfl
  | false =>
   have hs' : ¬ zba x.kind r.kind = true:=by rw [hs];simp
   by_cases hkk : x.kind = r.kind
   ·have hx63 : x.kind ≠ 63:=by omega
    have h1:=iN (b:=63) hx63
    have h3 : ((x.kind : Int) != (r.kind : Int)) = false:=by simp;omega
    rw [hst,if_neg hs',if_neg (by simp [hkk])]
    rcases hk.1 with h | h | h | h | h | h | h
    iterate 3
     ·exfalso;rw [<- hkk,h] at hs;cases hs
    ·rw [if_pos h,Option.map_map]
     refine yaap x r w ai li ci af lf cf bi mi di bf mf df _ _ h1 h2 hs h3 (iB h) (fun W hb => ?_)
     have:=yaa4 x r ai li ci af lf cf bi mi di bf mf df W hx8 hr8
     refine this.mono (fun e w' he => ⟨?_,he.2⟩)
     rw [he.1]
     cases unL x.letters r.letters r.op x.letters.size 0 <;> rfl
    ·have hi:=hk.2.2.1 (.inl h)
     have hnr : r.inner ≠ []:=hr.2.2.2.1.1 (.inl (by omega))
     have hwi:=wtI (m:=n) hi.1
     rw [if_neg (by omega),if_pos h,Option.map_map]
     refine yaas x r w ai li ci af lf cf bi mi di bf mf df _ _ h1 h2 hs h3 (iN (b:=60) (by omega)) (iB h) n q (hinx hi.1) (hinr hnr) (fun W p1 p2 p3 p4 p5 p6 q1 q2 q3 q4 q5 q6 hb hp hq => ?_)
     cases hu : unV m n x.in r.in with
     | none =>
      have:=zrz x.in r.in W p1 p2 p3 p4 p5 p6 q1 q2 q3 q4 q5 q6 ByteArray.empty false (Nat.zero_le _) (fun W' hb' => by
       have:=IH n q x.in r.in W' p1 p4 p2 p3 p5 p6 q1 q4 q2 q3 q5 q6 (by omega) hi.2 (by omega) (hp.keep hb') (hq.keep hb')
       rw [hu] at this;exact this)
      exact this
     | some u =>
      have hus:=zf0 m n x.in r.in u hi.2 hu
      have:=zrz x.in r.in W p1 p2 p3 p4 p5 p6 q1 q2 q3 q4 q5 q6 (txtV n x.in u) true (by omega) (fun W' hb' => by
       have:=IH n q x.in r.in W' p1 p4 p2 p3 p5 p6 q1 q4 q2 q3 q5 q6 (by omega) hi.2 (by omega) (hp.keep hb') (hq.keep hb')
       rw [hu] at this;exact this)
      exact this
    ·omega
    ·rw [if_neg (by omega),if_neg (by omega),if_pos h]
     have hfx:=hx.flds
     have hfr:=hr.flds
     refine yaat x r w ai li ci af lf cf bi mi di bf mf df _ _ h1 h2 hs h3 (iN (b:=60) (by omega)) (iN (b:=91) (by omega)) (iB h) (fun W hb => ?_)
     have:=yaa5 IH n q (by omega) x r.fields W af bf lf cf mf df hfx.1 hfr.1 hfx.2.1 hfr.2.1 (hx.2.2.2.1.2 h) hk.2.2.2 (by rw [wt] at hwt;omega) (hx.keep hb).flds.2.2 (hr.keep hb).flds.2.2
     rw [zg8] at this;exact this
   ·have h3 : ((x.kind : Int) != (r.kind : Int)) = true:=by simp;omega
    rw [hst,if_neg hs',if_pos hkk]
    by_cases hx63 : x.kind = 63
    ·exact yaaq x r w ai li ci af lf cf bi mi di bf mf df _ _ (iB hx63) h2 hs h3 rfl (fun W hb => zgo (n + 1) x W ai af li ci lf cf hk hwt (hx.keep hb))
    ·exact yaar x r w ai li ci af lf cf bi mi di bf mf df _ _ (iN hx63) h2 hs h3 rfl (fun W hb => zgo (n + 1) x W ai af li ci lf cf hk hwt (hx.keep hb))
theorem zry : ∀ m,zhg m
 | 0 => fun nw nr x r w ai af li ci lf cf bi bf mi di mf df hm hk hwt hx hr => by
  obtain rfl : nw = 0:=by omega
  exact hx.elim
 | m + 1 => yaa3 (zry m)
theorem zny {s : ByteArray} {n i k : Nat} {ty : Ty} (h : zac true s (n + 1) i = some (ty,k)) (h3 : ¬ ty.kind = 123) : ty.fields = []:=by
 have his : i < s.size:=by have:=za8 true s _ _ _ _ h;omega
 rw [zac] at h
 split at h
 ·cases h;rfl
 ·split at h
  ·cases h;rfl
  ·split at h
   ·cases h;rfl
   ·split at h
    ·rw [zfj s (i + 1) (by omega)] at h
     unfold zcw at h
     simp only at h
     split at h
     ·cases h
     ·split at h
      iterate 2
       ·split at h
        ·cases h;rfl
        ·cases h
    ·split at h
     ·unfold zbt at h
      split at h
      ·cases h
      ·split at h
       ·cases h;rfl
       ·cases h
     ·split at h
      ·unfold zbq at h
       split at h
       ·cases h
       ·split at h
        ·cases h
        ·cases h;rfl
      ·split at h
       ·unfold pRec at h
        split at h
        ·cases h
        ·cases h;exact absurd rfl h3
       ·cases h
theorem zrt {s : ByteArray} : ∀ (n i : Nat) (ty : Ty) (k : Nat),zac true s n i = some (ty,k) -> tyK n ty
 | 0,i,ty,k,h => by simp [zac] at h
 | n + 1,i,ty,k,h => by
  have ih:=zrt (s:=s) n
  have his : i < s.size:=by have:=za8 true s _ _ _ _ h;omega
  obtain ⟨_,n',hn,h60,hin,hne,h123,hk⟩:=zcg h
  obtain rfl : n' = n:=by omega
  have hg:=zlx _ _ _ _ h
  refine ⟨hk,fun h6 => (ze0 (by omega) (h60 h6)).2.2.1,fun hh => ?_,fun f hf => ?_⟩
  ·obtain ⟨k',hk'⟩:=hin hh
   refine ⟨fun hi => ?_,ih _ _ _ hk'⟩
   have : ty.in = zbl 0:=by unfold Ty.in;rw [hi];rfl
   rw [this] at hk'
   obtain ⟨_,_,_,_,_,_,_,h7⟩:=zcg hk'
   have h0 : (zbl 0).kind = 0:=rfl
   omega
  ·have h3 : ty.kind = 123:=by
    rcases Nat.lt_or_ge 0 0 with h | _
    ·omega
    ·apply Classical.byContradiction
     intro h3
     have : ty.fields = []:=zny h h3
     rw [this] at hf;exact absurd hf List.not_mem_nil
   obtain ⟨k',hk'⟩:=h123 h3
   exact (zii (Q:=fun f => f.1 < 256 /\ tyK n' f.2.1) (fun i f k hf => by
     have h256:=zk4 hf
     unfold zaj at hf
     split at hf
     ·split at hf
      ·cases hf
      ·rename_i t k' ht
       have h1:=ih _ _ _ ht
       split at hf
       ·split at hf
        ·cases hf
        ·cases hf;exact ⟨h256,h1⟩
       ·cases hf;exact ⟨h256,h1⟩
     ·cases hf) _ _ _ _ _ hk' (fun f hf => absurd hf List.not_mem_nil) (by simp)).1 f hf
theorem zie {st : Bool} {s : ByteArray} {ty : Ty} (hx : pAll st s = some ty) : zac st s s.size 0 = some (ty,s.size):=by
 unfold pAll at hx
 rcases hq : zac st s s.size 0 with _ | ⟨ty',k⟩
 ·rw [hq] at hx;cases hx
 ·rw [hq] at hx;simp only at hx
  split at hx
  ·rename_i h;cases hx;rw [h]
  ·cases hx
end
section
open Go.RowKit
def tyL : Nat -> Ty -> Prop
 | 0,_ => False
 | n + 1,ty => (ty.kind = 105 \/ ty.kind = 108 \/ ty.kind = 115 \/ ty.kind = 60 \/ ty.kind = 91 \/ ty.kind = 63 \/ ty.kind = 123) /\ (ty.kind = 60 -> 1 <= ty.letters.size /\ ty.letters.size <= 8) /\ (ty.kind = 91 \/ ty.kind = 63 -> tyL n ty.in) /\ (ty.kind = 63 -> ty.in.kind ≠ 63) /\ (ty.kind = 123 -> ty.fields ≠ [] /\ ∀ f ∈ ty.fields,tyL n f.2.1)
theorem zfg : ∀ (n : Nat) (ty : Ty),tyL n ty -> okV n ty (lv n ty)
 | 0,ty,h => h.elim
 | n + 1,ty,h => by
  rw [lv]
  split
  ·rename_i hk
   exact zkx (by rcases hk with h | h;exact .inl ⟨h,by omega,by omega⟩;exact .inr ⟨h,by omega,by omega⟩)
  ·split
   ·rename_i hk;exact zo3 ⟨hk,Nat.zero_le _,rfl⟩
   ·split
    ·rename_i hk;exact zib ⟨hk,(h.2.1 hk).1,by omega⟩
    ·split
     ·rename_i hk;exact zfi ⟨hk,Nat.zero_le _,fun v hv => absurd hv List.not_mem_nil⟩
     ·split
      ·rename_i hk;exact zkw hk
      ·have hk : ty.kind = 123:=by have:=h.1;omega
       have h5:=h.2.2.2.2 hk
       refine zgw ⟨hk,h5.1,by simp,fun p hp => ?_⟩
       rw [List.zip_map_right] at hp
       obtain ⟨q,hq,rfl⟩:=List.mem_map.1 hp
       have hqq : q.1 = q.2 /\ q.1 ∈ ty.fields:=by
        obtain ⟨i,hi⟩:=List.getElem?_of_mem hq
        rw [List.getElem?_zip_eq_some] at hi
        exact ⟨Option.some.inj (hi.1.symm.trans hi.2),List.mem_of_getElem? hi.1⟩
       have:=zfg n q.1.2.1 (h5.2 q.1 hqq.2)
       show okV n q.1.2.1 (lv n q.2.2.1)
       rw [<- hqq.1];exact this
theorem zjd (c : Nat) : ∀ (fs : List (Nat × Ty × ByteArray)) (vs : List Val),vs.length = fs.length ->
  (fs.findIdx? (fun g => g.1 == c) = none -> (fs.zip vs).find? (fun p => p.1.1 == c) = none) /\
  (∀ p,fs.findIdx? (fun g => g.1 == c) = some p -> ∃ f v,fs[p]? = some f /\ vs[p]? = some v /\ (fs.zip vs).find? (fun p => p.1.1 == c) = some (f,v))
 | [],vs,h => ⟨fun _ => rfl,fun p hp => by simp at hp⟩
 | f :: fs,[],h => by simp at h
 | f :: fs,v :: vs,h => by
  have ih:=zjd c fs vs (by simpa using h)
  rw [List.findIdx?_cons,List.zip_cons_cons,List.find?_cons]
  by_cases hc : (f.1 == c) = true
  ·rw [if_pos hc]
   refine ⟨fun h => by simp at h,fun p hp => ?_⟩
   cases hp
   refine ⟨f,v,rfl,rfl,?_⟩
   rw [show ((f,v).1.1 == c) = true from hc]
  ·rw [if_neg hc,show ((f,v).1.1 == c) = false by simpa using hc]
   refine ⟨fun h => ih.1 (by simpa using h),fun p hp => ?_⟩
   obtain ⟨q,hq,rfl⟩:=Option.map_eq_some_iff.1 hp
   obtain ⟨f',v',h1,h2,h3⟩:=ih.2 q hq
   exact ⟨f',v',by simpa using h1,by simpa using h2,h3⟩
theorem zp6 {f : Nat × Ty × ByteArray -> Option ByteArray} : ∀ (gs : List (Nat × Ty × ByteArray)) (mk t : ByteArray) (g : Nat × Ty × ByteArray),g ∈ gs -> f g = none -> zbu f gs mk t = none
 | h :: gs,mk,t,g,hg,hf => by
  rw [zbu]
  rcases List.mem_cons.1 hg with rfl | hg
  ·rw [hf]
  ·cases f h with
   | none => rfl
   | some x => exact zp6 gs _ _ g hg hf
theorem zl0 {wl rl : ByteArray} {op : Bool} : ∀ (m k j : Nat),unL wl rl op m k = some j -> k <= j /\ j < k + m /\ op = false /\ pOf rl (bAt wl j) < 0
 | 0,k,j,h => by simp [unL] at h
 | m + 1,k,j,h => by
  rw [unL] at h
  split at h
  ·have:=zl0 m (k + 1) j h;exact ⟨by omega,by omega,this.2.2⟩
  ·rename_i hc
   cases h
   simp at hc
   exact ⟨Nat.le_refl _,by omega,hc.1,hc.2⟩
theorem zrx {wl rl : ByteArray} {op : Bool} : ∀ (m k j : Nat),unL wl rl op m k = none -> k <= j -> j < k + m -> op = true \/ 0 <= pOf rl (bAt wl j)
 | 0,k,j,h,h1,h2 => by omega
 | m + 1,k,j,h,h1,h2 => by
  rw [unL] at h
  split at h
  ·rename_i hc
   by_cases hk : j = k
   ·subst hk;simpa using hc
   ·exact zrx m (k + 1) j h (by omega) (by omega)
  ·cases h
theorem zg9 : ∀ (m n : Nat) (x r : Ty) (u : Val),tyL n x -> unV m n x r = some u -> okV n x u /\ ∀ k,rdT k x r u = none
 | 0,n,x,r,u,_,h => by simp [unV] at h
 | m + 1,0,x,r,u,hl,h => hl.elim
 | m + 1,n + 1,x,r,u,hl,h => by
  change zch (unV m n) (unV m (n + 1)) n x r = some u at h
  unfold zch at h
  have z : ∀ {k},k = 0 -> rdT k x r u = none:=fun h => by subst h;rfl
  split at h
  ·rename_i hc
   obtain ⟨v,hv,rfl⟩:=Option.map_eq_some_iff.1 h
   have ih:=zg9 m n x.in r.in v (hl.2.2.1 (.inr hc.1)) hv
   refine ⟨zky ⟨hc.1,ih.1⟩,fun k => ?_⟩
   cases k with
   | zero => rfl
   | succ k =>
    show za0 (rdT k) x r (.som v) = none
    unfold za0
    rw [if_pos hc.1]
    show rdT k x.in r v = none
    cases k with
    | zero => rfl
    | succ k =>
     show za0 (rdT k) x.in r v = none
     unfold za0
     rw [if_neg (hl.2.2.2.1 hc.1),if_pos hc.2]
     exact ih.2 k
  ·rename_i hc
   split at h
   ·rename_i hr
    have ih:=zg9 m (n + 1) x r.in u hl h
    refine ⟨ih.1,fun k => ?_⟩
    cases k with
    | zero => rfl
    | succ k =>
     show za0 (rdT k) x r u = none
     unfold za0
     rw [if_neg (fun h => hc ⟨h,hr⟩),if_pos hr]
     exact ih.2 k
   ·rename_i hr
    split at h
    ·cases h
    ·rename_i hs
     split at h
     ·rename_i hkk
      cases h
      refine ⟨zfg (n + 1) x hl,fun k => ?_⟩
      cases k with
      | zero => rfl
      | succ k =>
       show za0 (rdT k) x r (lv (n + 1) x) = none
       unfold za0
       by_cases hx : x.kind = 63
       ·rw [if_pos hx,show lv (n + 1) x = .non by rw [lv,if_neg (by omega),if_neg (by omega),if_neg (by omega),if_neg (by omega),if_pos hx]]
        show (if r.kind = 63 then some (⟨#[95]⟩ : ByteArray) else none) = none
        rw [if_neg hr]
       ·rw [if_neg hx,if_neg hr,if_neg hs,if_pos hkk]
     ·rename_i hkk
      have hkk' : x.kind = r.kind:=by simpa using hkk
      split at h
      ·rename_i h60
       obtain ⟨j,hj,rfl⟩:=Option.map_eq_some_iff.1 h
       have hsp:=zl0 _ _ _ hj
       have:=(hl.2.1 h60).2
       refine ⟨zib ⟨h60,by omega,by omega⟩,fun k => ?_⟩
       cases k with
       | zero => rfl
       | succ k =>
        show za0 (rdT k) x r (.cho j) = none
        unfold za0
        rw [if_neg (by omega),if_neg hr,if_neg hs,if_neg hkk]
        show zd0 x.letters r.letters r.op j = none
        unfold zd0
        rw [if_pos hsp.2.2.2,hsp.2.2.1];rfl
      ·split at h
       ·rename_i h91
        obtain ⟨v,hv,rfl⟩:=Option.map_eq_some_iff.1 h
        have ih:=zg9 m n x.in r.in v (hl.2.2.1 (.inl h91)) hv
        refine ⟨zfi ⟨h91,by simp,fun w hw => by rw [List.mem_singleton.1 hw];exact ih.1⟩,fun k => ?_⟩
        cases k with
        | zero => rfl
        | succ k =>
         show za0 (rdT k) x r (.lst [v]) = none
         unfold za0
         rw [if_neg (by omega),if_neg hr,if_neg hs,if_neg hkk]
         show zbv (rdT k x.in r.in) [v] 0 ⟨#[91]⟩ = none
         rw [zbv,ih.2 k]
       ·split at h
        ·rename_i h123
         have h5:=hl.2.2.2.2 h123
         have hlv : okV (n + 1) x (.rcd (x.fields.map fun f => lv n f.2.1)):=by
          have:=zfg (n + 1) x hl
          rw [lv,if_neg (by omega),if_neg (by omega),if_neg (by omega),if_neg (by omega),if_neg (by omega)] at this
          exact this
         have fin : ∀ (vs : List Val) (g : Nat × Ty × ByteArray) (k : Nat),g ∈ r.fields -> zbi (rdT k) (x.fields.zip vs) g = none -> rdT (k + 1) x r (.rcd vs) = none:=fun vs g k hg hf => by
          show za0 (rdT k) x r (.rcd vs) = none
          unfold za0
          rw [if_neg (by omega),if_neg hr,if_neg hs,if_neg hkk]
          show zbu (zbi (rdT k) (x.fields.zip vs)) r.fields ⟨#[123]⟩ ByteArray.empty = none
          exact zp6 r.fields _ _ g hg hf
         have key : ∀ gs : List (Nat × Ty × ByteArray),(∀ g ∈ gs,g ∈ r.fields) -> unF (unV m n) n x.fields gs = some u -> okV (n + 1) x u /\ ∀ k,rdT k x r u = none:=by
          intro gs
          induction gs with
          | nil => intro _ h;simp [unF] at h
          | cons g gs ihg =>
           intro hsub h
           rw [unF] at h
           split at h
           ·rename_i hfi
            split at h
            ·rename_i hz
             cases h
             refine ⟨hlv,fun k => ?_⟩
             cases k with
             | zero => rfl
             | succ k =>
              refine fin _ g k (hsub g (by simp)) ?_
              unfold zbi
              rw [(zjd g.1 x.fields _ (by simp)).1 hfi]
              simp only
              rw [if_pos hz]
            ·exact ihg (fun g hg => hsub g (by simp [hg])) h
           ·rename_i p hfi
            have hpl : p < x.fields.length:=by rw [List.findIdx?_eq_some_iff_getElem] at hfi;exact hfi.1
            obtain ⟨q,hq⟩ : ∃ q,x.fields[p]? = some q:=⟨x.fields[p],List.getElem?_eq_getElem hpl⟩
            rw [zgm hq] at h
            split at h
            ·exact ihg (fun g hg => hsub g (by simp [hg])) h
            ·rename_i v hv
             cases h
             have hql:=h5.2 q (List.mem_of_getElem? hq)
             have ih:=zg9 m n q.2.1 g.2.1 v hql hv
             have hsl : ((x.fields.map fun f => lv n f.2.1).set p v).length = x.fields.length:=by simp
             refine ⟨zgw ⟨h123,h5.1,hsl,fun pr hpr => ?_⟩,fun k => ?_⟩
             ·obtain ⟨i,hi⟩:=List.getElem?_of_mem hpr
              rw [List.getElem?_zip_eq_some] at hi
              by_cases hip : i = p
              ·subst hip
               rw [hq] at hi
               rw [List.getElem?_set_self (by simpa using hpl)] at hi
               have e1:=Option.some.inj hi.1
               have e2:=Option.some.inj hi.2
               rw [<- e1,<- e2];exact ih.1
              ·have hi1:=hi.1
               rw [List.getElem?_set_ne (by omega),List.getElem?_map,hi1] at hi
               have e2:=hi.2
               simp at e2
               rw [<- e2]
               exact zfg n _ (h5.2 pr.1 (List.mem_of_getElem? hi1))
             ·cases k with
              | zero => rfl
              | succ k =>
               refine fin _ g k (hsub g (by simp)) ?_
               obtain ⟨f,w,e1,e2,e3⟩:=(zjd g.1 x.fields _ hsl).2 p hfi
               unfold zbi
               rw [e3]
               rw [hq] at e1
               rw [List.getElem?_set_self (by simpa using hpl)] at e2
               cases e1
               cases e2
               exact ih.2 k
         exact key r.fields (fun g hg => hg) h
        ·cases h
end
section
open Go.RowKit
def ln : Nat -> Ty -> Nat
 | 0,_ => 0
 | n + 1,ty => if ty.kind = 91 then ln n ty.in + 2 else if ty.kind = 63 then ln n ty.in + 1 else if ty.kind = 123 then (ty.fields.map fun f => ln n f.2.1 + 3).sum + 1 else 1
theorem zq4 {α : Type} (c : α -> Nat) : ∀ (l : List α) (x : α),x ∈ l -> c x <= (l.map c).sum
 | y :: l,x,h => by
  simp
  rcases List.mem_cons.1 h with rfl | h
  ·omega
  ·have:=zq4 c l x h;omega
theorem zpb {pf : Nat -> Option ((Nat × Ty × ByteArray) × Nat)} {s : ByteArray} {N : Nat} (hp : ∀ i f k,pf i = some (f,k) -> i < k /\ k <= s.size /\ ln N f.2.1 + 2 <= k - i) :
  ∀ (m a : Nat) (acc fs : List (Nat × Ty × ByteArray)) (k : Nat),zaz pf s m a acc = some (fs,k) -> a < k /\ (fs.map fun f => ln N f.2.1 + 3).sum <= (acc.map fun f => ln N f.2.1 + 3).sum + (k - a)
 | 0,a,acc,fs,k,h => by simp [zaz] at h
 | m + 1,a,acc,fs,k,h => by
  rw [zaz] at h
  split at h
  ·cases h
  ·rename_i f k' hf
   have h1:=hp _ _ _ hf
   split at h
   ·cases h
   ·split at h
    ·simp only [Option.some.injEq,Prod.mk.injEq] at h
     obtain ⟨rfl,rfl⟩:=h
     rw [List.map_append,List.sum_append]
     simp
     omega
    ·split at h
     ·have:=zpb hp m (k' + 1) (acc ++ [f]) fs k h
      rw [List.map_append,List.sum_append] at this
      simp at this ⊢
      omega
     ·cases h
theorem yaak {s : ByteArray} (N : Nat) : ∀ (n i : Nat) (ty : Ty) (k : Nat),zac true s n i = some (ty,k) -> ln N ty <= k - i:=by
 intro n
 induction n generalizing N with
 | zero => intro i ty k h;simp [zac] at h
 | succ n ih =>
  intro i ty k h
  have hbd:=za8 true s _ _ _ _ h
  cases N with
  | zero => rw [ln];omega
  | succ N =>
  obtain ⟨_,n',hn,h60,hin,hne,h123,hk⟩:=zcg h
  obtain rfl : n' = n:=by omega
  rw [ln]
  split
  ·rename_i h91
   rw [zac] at h
   have hb : bAt s i = 91:=by rw [(zcg (n:=n' + 1) (by rw [zac];exact h)).1,h91];rfl
   rw [if_neg (by omega),if_neg (by omega),if_neg (by omega),if_neg (by omega),if_pos hb] at h
   unfold zbt at h
   split at h
   ·cases h
   ·rename_i t k' ht
    split at h
    ·cases h
     have:=ih N _ _ _ ht
     have:=za8 true s _ _ _ _ ht
     show ln N t + 2 <= _
     omega
    ·cases h
  ·split
   ·rename_i h63
    rw [zac] at h
    have hb : bAt s i = 63:=by rw [(zcg (n:=n' + 1) (by rw [zac];exact h)).1,h63];rfl
    rw [if_neg (by omega),if_neg (by omega),if_neg (by omega),if_neg (by omega),if_neg (by omega),if_pos hb] at h
    unfold zbq at h
    split at h
    ·cases h
    ·rename_i t k' ht
     split at h
     ·cases h
     ·cases h
      have:=ih N _ _ _ ht
      have:=za8 true s _ _ _ _ ht
      show ln N t + 1 <= _
      omega
   ·split
    ·rename_i h3
     rw [zac] at h
     have hb : bAt s i = 123:=by rw [(zcg (n:=n' + 1) (by rw [zac];exact h)).1,h3];rfl
     rw [if_neg (by omega),if_neg (by omega),if_neg (by omega),if_neg (by omega),if_neg (by omega),if_neg (by omega),if_pos hb] at h
     unfold pRec at h
     split at h
     ·cases h
     ·rename_i fs k' hfs
      cases h
      have:=zpb (N:=N) (fun i f k hf => by
       unfold zaj at hf
       split at hf
       ·split at hf
        ·cases hf
        ·rename_i t k' ht
         have h1:=ih N _ _ _ ht
         have h2:=za8 true s _ _ _ _ ht
         split at hf
         ·split at hf
          ·cases hf
          ·rename_i d m' he
           cases hf
           have h3:=zbo he
           refine ⟨by omega,by omega,?_⟩
           show ln N t + 2 <= _
           omega
         ·cases hf
          refine ⟨by omega,by omega,?_⟩
          show ln N t + 2 <= _
          omega
       ·cases hf) _ _ _ _ _ hfs
      simp at this ⊢
      omega
    ·omega
end
section
open Go.RowKit
theorem zqa {f : Val -> Option ByteArray} : ∀ (vs : List Val) (k : Nat) (t : ByteArray),(∀ v ∈ vs,f v ≠ none) -> zbv f vs k t ≠ none
 | [],k,t,h => by simp [zbv]
 | v :: vs,k,t,h => by
  rw [zbv]
  have h1:=h v (by simp)
  cases hv : f v with
  | none => exact absurd hv h1
  | some x => exact zqa vs _ _ (fun v hv => h v (by simp [hv]))
theorem zp8 {f : Nat × Ty × ByteArray -> Option ByteArray} : ∀ (gs : List (Nat × Ty × ByteArray)) (mk t : ByteArray),(∀ g ∈ gs,f g ≠ none) -> zbu f gs mk t ≠ none
 | [],mk,t,h => by simp [zbu]
 | g :: gs,mk,t,h => by
  rw [zbu]
  have h1:=h g (by simp)
  cases hv : f g with
  | none => exact absurd hv h1
  | some x => exact zp8 gs _ _ (fun g hg => h g (by simp [hg]))
theorem zly {f : Ty -> Ty -> Option Val} {n : Nat} {wf : List (Nat × Ty × ByteArray)} : ∀ (gs : List (Nat × Ty × ByteArray)),unF f n wf gs = none -> ∀ g ∈ gs,(wf.findIdx? (fun h => h.1 == g.1) = none /\ g.2.2.size ≠ 0) \/ ∃ p q,wf.findIdx? (fun h => h.1 == g.1) = some p /\ wf[p]? = some q /\ f q.2.1 g.2.1 = none
 | [],h,g,hg => absurd hg List.not_mem_nil
 | k :: gs,h,g,hg => by
  rw [unF] at h
  split at h
  ·rename_i hfi
   split at h
   ·cases h
   ·rename_i hz
    rcases List.mem_cons.1 hg with rfl | hg
    ·exact .inl ⟨hfi,hz⟩
    ·exact zly gs h g hg
  ·rename_i p hfi
   have hpl : p < wf.length:=by rw [List.findIdx?_eq_some_iff_getElem] at hfi;exact hfi.1
   obtain ⟨q,hq⟩ : ∃ q,wf[p]? = some q:=⟨wf[p],List.getElem?_eq_getElem hpl⟩
   rw [zgm hq] at h
   split at h
   ·rename_i hn
    rcases List.mem_cons.1 hg with rfl | hg
    ·exact .inr ⟨p,q,hfi,hq,hn⟩
    ·exact zly gs h g hg
   ·cases h
theorem zha : ∀ (m k n q : Nat) (x r : Ty) (v : Val),n + q <= m -> n + q <= k -> tyL n x -> tyL q r -> unV m n x r = none -> okV n x v -> rdT k x r v ≠ none
 | m,k,0,q,x,r,v,h1,h2,hx,hr,h,hv => hx.elim
 | m,k,n + 1,0,x,r,v,h1,h2,hx,hr,h,hv => hr.elim
 | 0,k,n + 1,q + 1,x,r,v,h1,h2,hx,hr,h,hv => by omega
 | m + 1,0,n + 1,q + 1,x,r,v,h1,h2,hx,hr,h,hv => by omega
 | m + 1,1,n + 1,q + 1,x,r,v,h1,h2,hx,hr,h,hv => by omega
 | m + 1,k + 2,n + 1,q + 1,x,r,v,h1,h2,hx,hr,h,hv => by
  change zch (unV m n) (unV m (n + 1)) n x r = none at h
  unfold zch at h
  show za0 (rdT (k + 1)) x r v ≠ none
  unfold za0
  split at h
  ·rename_i hc
   rw [Option.map_eq_none_iff] at h
   rw [if_pos hc.1]
   rcases hv with ⟨y,rfl,hv⟩ | ⟨s,rfl,hv⟩ | ⟨i,rfl,hv⟩ | ⟨vs,rfl,hv⟩ | ⟨rfl,hv⟩ | ⟨u,rfl,hv⟩ | ⟨vs,rfl,hv⟩
   iterate 4
    ·omega
   ·show (if r.kind = 63 then some (⟨#[95]⟩ : ByteArray) else none) ≠ none
    rw [if_pos hc.2];simp
   ·show za0 (rdT k) x.in r u ≠ none
    unfold za0
    rw [if_neg (hx.2.2.2.1 hc.1),if_pos hc.2]
    exact zha m k n q x.in r.in u (by omega) (by omega) (hx.2.2.1 (.inr hc.1)) (hr.2.2.1 (.inr hc.2)) h hv.2
   ·omega
  ·rename_i hc
   split at h
   ·rename_i hr63
    rw [if_neg (fun h => hc ⟨h,hr63⟩),if_pos hr63]
    exact zha m (k + 1) (n + 1) q x r.in v (by omega) (by omega) hx (hr.2.2.1 (.inr hr63)) h hv
   ·rename_i hr63
    split at h
    ·rename_i hs
     have hx63 : x.kind ≠ 63:=by simp [zba] at hs;omega
     rw [if_neg hx63,if_neg hr63,if_pos hs];simp
    ·rename_i hs
     split at h
     ·cases h
     ·rename_i hkk
      have hkk' : x.kind = r.kind:=by simpa using hkk
      have hx63 : x.kind ≠ 63:=by omega
      rw [if_neg hx63,if_neg hr63,if_neg hs,if_neg hkk]
      rcases hv with ⟨y,rfl,hv⟩ | ⟨s,rfl,hv⟩ | ⟨i,rfl,hv⟩ | ⟨vs,rfl,hv⟩ | ⟨rfl,hv⟩ | ⟨u,rfl,hv⟩ | ⟨vs,rfl,hv⟩
      ·exfalso;apply hs;rw [<- hkk'];rcases hv with h | h <;> simp [zba,h.1]
      ·exfalso;apply hs;rw [<- hkk'];simp [zba,hv.1]
      ·rw [if_pos hv.1,Option.map_eq_none_iff] at h
       show zd0 x.letters r.letters r.op i ≠ none
       unfold zd0
       have:=zrx _ _ i h (Nat.zero_le _) (by omega)
       split
       ·rename_i hp
        rw [if_pos (by rcases this with h | h;exact h;omega)];simp
       ·simp
      ·rw [if_neg (by omega),if_pos hv.1,Option.map_eq_none_iff] at h
       show zbv (rdT (k + 1) x.in r.in) vs 0 ⟨#[91]⟩ ≠ none
       exact zqa vs _ _ (fun u hu => zha m (k + 1) n q x.in r.in u (by omega) (by omega) (hx.2.2.1 (.inl hv.1)) (hr.2.2.1 (.inl (by omega))) h (hv.2.2 u hu))
      iterate 2
       ·omega
      ·rw [if_neg (by omega),if_neg (by omega),if_pos hv.1] at h
       show zbu (zbi (rdT (k + 1)) (x.fields.zip vs)) r.fields ⟨#[123]⟩ ByteArray.empty ≠ none
       have hxf:=hx.2.2.2.2 hv.1
       have hrf:=hr.2.2.2.2 (by omega)
       refine zp8 r.fields _ _ (fun g hg => ?_)
       unfold zbi
       have hz:=zjd g.1 x.fields vs hv.2.2.1
       rcases zly r.fields h g hg with ⟨e1,e2⟩ | ⟨p,f,e1,e2,e3⟩
       ·rw [hz.1 e1]
        simp only
        rw [if_neg e2];simp
       ·obtain ⟨f',w,g1,g2,g3⟩:=hz.2 p e1
        rw [e2] at g1
        cases g1
        rw [g3]
        simp only
        exact zha m (k + 1) n q f.2.1 g.2.1 w (by omega) (by omega) (hxf.2 f (List.mem_of_getElem? e2)) (hrf.2 g hg) e3 (hv.2.2.2 (f,w) (by
         refine List.mem_of_getElem? (i:=p) ?_
         rw [List.getElem?_zip_eq_some];exact ⟨e2,g2⟩))
theorem zmk {α : Type} (f : α -> ByteArray) (c : α -> Nat) : ∀ (l : List α),(∀ x ∈ l,(f x).size <= c x) -> (catB (l.map f)).size <= (l.map c).sum
 | [],h => by simp [catB]
 | x :: l,h => by
  have:=h x (by simp)
  have:=zmk f c l (fun y hy => h y (by simp [hy]))
  simp only [List.map_cons,catB,ByteArray.size_append,List.sum_cons];omega
theorem zkf : ∀ (n : Nat) (ty : Ty),tyL n ty -> (datV n (lv n ty)).size <= ln n ty
 | 0,ty,h => h.elim
 | n + 1,ty,h => by
  rw [lv,ln]
  split
  ·rename_i hk
   rw [if_neg (by omega),if_neg (by omega),if_neg (by omega),zgf];decide
  ·split
   ·rename_i hk
    rw [if_neg (by omega),if_neg (by omega),if_neg (by omega),zgh];decide
   ·split
    ·rename_i hk
     rw [if_neg (by omega),if_neg (by omega),if_neg (by omega),zes,zai];omega
    ·split
     ·rename_i hk
      rw [zdc]
      show (oneB 0 ++ catB []).size <= _
      rw [ByteArray.size_append,zai];simp [catB]
     ·rename_i h91
      split
      ·rename_i hk
       rw [zet,zai];omega
      ·have hk : ty.kind = 123:=by have:=h.1;omega
       rw [if_pos hk,zdd]
       have h5:=h.2.2.2.2 hk
       rw [List.map_map]
       have:=zmk (fun f : Nat × Ty × ByteArray => datV n (lv n f.2.1)) (fun f => ln n f.2.1 + 3) ty.fields (fun f hf => by have:=zkf n f.2.1 (h5.2 f hf);omega)
       exact Nat.le_trans this (by omega)
end
end Go.Proofs.YtkkekopomiehlaaGreat
