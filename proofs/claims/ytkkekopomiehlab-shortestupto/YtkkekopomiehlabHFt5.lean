import Derived.Test.YtkkekopomiehlabHFt4
set_option linter.unusedVariables false
set_option linter.unusedSimpArgs false
set_option maxHeartbeats 40000000
set_option maxRecDepth 4000
namespace Go.Proofs.Ytkkekopomiehlab
section
open Go.RowKit
def outU : Option ByteArray -> ByteArray
 | none => ByteArray.empty
 | some t => t
theorem zd0 (o : Option ByteArray) : uR o = .tuple #[.string (outU o),.bool o.isSome]:=by cases o <;> rfl
theorem iB {a b : Nat} (h : a = b) : ((a : Int) == (b : Int)) = true:=by simp;omega
theorem iN {a b : Nat} (h : a ≠ b) : ((a : Int) == (b : Int)) = false:=by simp;omega
theorem zpp {m : Nat} (IH : zd5 m) : zd5 (m + 1):=by
 intro nw nr x r w ai af li ci lf cf bi bf mi di mf df hm hk hwt hx hr
 cases nw with
 | zero => exact hx.elim
 | succ n =>
 cases nr with
 | zero => exact hr.elim
 | succ q =>
 show Calls _ _ _ _ (fun e w' => e = .returned (uR ((zb5 (unV m n) (unV m (n + 1)) n x r).map (txtV (n + 1) x))) /\ Below w.heap.size w w')
 rw [zd0]
 have hx8 : x.letters.size <= 8:=hx.1
 have hr8 : r.letters.size <= 8:=hr.1
 have hinx:=fun (hne : x.inner ≠ []) (W : World) (hb : Below w.heap.size w W) => zeg n W ai af li ci lf cf x (hx.keep hb) hne
 have hinr:=fun (hne : r.inner ≠ []) (W : World) (hb : Below w.heap.size w W) => zeg q W bi bf mi di mf df r (hr.keep hb) hne
 by_cases hr63 : r.kind = 63
 ·have hnr : r.inner ≠ []:=hr.2.2.2.1.1 (.inr hr63)
  by_cases hx63 : x.kind = 63
  ·have hi:=hk.2.2.1 (.inr hx63)
   have hwi:=wtI (m:=n) hi.1
   rw [show (zb5 (unV m n) (unV m (n + 1)) n x r).map (txtV (n + 1) x) = (unV m n x.in r.in).map (txtV n x.in) by unfold zb5;rw [if_pos ⟨hx63,hr63⟩,Option.map_map];rfl]
   refine zpg x r w ai li ci af lf cf bi mi di bf mf df _ _ (iB hx63) (iB hr63) n q (hinx hi.1) (hinr hnr) (fun W p1 p2 p3 p4 p5 p6 q1 q2 q3 q4 q5 q6 hb hp hq => ?_)
   have:=IH n q x.in r.in W p1 p4 p2 p3 p5 p6 q1 q4 q2 q3 q5 q6 (by omega) hi.2 (by omega) hp hq
   rw [zd0] at this;exact this
  ·rw [show zb5 (unV m n) (unV m (n + 1)) n x r = unV m (n + 1) x r.in by unfold zb5;rw [if_neg (fun h => hx63 h.1),if_pos hr63]]
   refine zpm x r w ai li ci af lf cf bi mi di bf mf df _ _ (iN hx63) (iB hr63) q (hinr hnr) (fun W p1 p2 p3 p4 p5 p6 hb hp => ?_)
   have:=IH (n + 1) q x r.in W ai af li ci lf cf p1 p4 p2 p3 p5 p6 (by omega) hk hwt (hx.keep hb) hp
   rw [zd0] at this;exact this
 ·have hst : zb5 (unV m n) (unV m (n + 1)) n x r = if za3 x.kind r.kind = true then none else if x.kind ≠ r.kind then some (lv (n + 1) x) else if x.kind = 60 then (unL x.letters r.letters r.op x.letters.size 0).map Val.cho else if x.kind = 91 then (unV m n x.in r.in).map fun u => .lst [u] else if x.kind = 123 then unF (unV m n) n x.fields r.fields else none:=by
   unfold zb5;rw [if_neg (fun h => hr63 h.2),if_neg hr63]
  have h2:=iN (b:=63) hr63
  cases hs : za3 x.kind r.kind with
  | true =>
   rw [hst,if_pos hs]
   have hx63 : x.kind ≠ 63:=by simp [za3] at hs;omega
   exact zpn x r w ai li ci af lf cf bi mi di bf mf df _ _ (iN hx63) h2 hs rfl rfl
  | false =>
   have hs' : ¬ za3 x.kind r.kind = true:=by rw [hs];simp
   by_cases hkk : x.kind = r.kind
   ·have hx63 : x.kind ≠ 63:=by omega
    have h1:=iN (b:=63) hx63
    have h3 : ((x.kind : Int) != (r.kind : Int)) = false:=by simp;omega
    rw [hst,if_neg hs',if_neg (by simp [hkk])]
    rcases hk.1 with h | h | h | h | h | h | h
    iterate 3
     ·exfalso;rw [<- hkk,h] at hs;cases hs
    ·rw [if_pos h,Option.map_map]
     refine zph x r w ai li ci af lf cf bi mi di bf mf df _ _ h1 h2 hs h3 (iB h) (fun W hb => ?_)
     have:=zpq x r ai li ci af lf cf bi mi di bf mf df W hx8 hr8
     refine this.mono (fun e w' he => ⟨?_,he.2⟩)
     rw [he.1]
     cases unL x.letters r.letters r.op x.letters.size 0 <;> rfl
    ·have hi:=hk.2.2.1 (.inl h)
     have hnr : r.inner ≠ []:=hr.2.2.2.1.1 (.inl (by omega))
     have hwi:=wtI (m:=n) hi.1
     rw [if_neg (by omega),if_pos h,Option.map_map]
     refine zpk x r w ai li ci af lf cf bi mi di bf mf df _ _ h1 h2 hs h3 (iN (b:=60) (by omega)) (iB h) n q (hinx hi.1) (hinr hnr) (fun W p1 p2 p3 p4 p5 p6 q1 q2 q3 q4 q5 q6 hb hp hq => ?_)
     cases hu : unV m n x.in r.in with
     | none =>
      have:=zjz x.in r.in W p1 p2 p3 p4 p5 p6 q1 q2 q3 q4 q5 q6 ByteArray.empty false (Nat.zero_le _) (fun W' hb' => by
       have:=IH n q x.in r.in W' p1 p4 p2 p3 p5 p6 q1 q4 q2 q3 q5 q6 (by omega) hi.2 (by omega) (hp.keep hb') (hq.keep hb')
       rw [hu] at this;exact this)
      exact this
     | some u =>
      have hus:=zc7 m n x.in r.in u hi.2 hu
      have:=zjz x.in r.in W p1 p2 p3 p4 p5 p6 q1 q2 q3 q4 q5 q6 (txtV n x.in u) true (by omega) (fun W' hb' => by
       have:=IH n q x.in r.in W' p1 p4 p2 p3 p5 p6 q1 q4 q2 q3 q5 q6 (by omega) hi.2 (by omega) (hp.keep hb') (hq.keep hb')
       rw [hu] at this;exact this)
      exact this
    ·omega
    ·rw [if_neg (by omega),if_neg (by omega),if_pos h]
     have hfx:=hx.flds
     have hfr:=hr.flds
     refine zpl x r w ai li ci af lf cf bi mi di bf mf df _ _ h1 h2 hs h3 (iN (b:=60) (by omega)) (iN (b:=91) (by omega)) (iB h) (fun W hb => ?_)
     have:=zpr IH n q (by omega) x r.fields W af bf lf cf mf df hfx.1 hfr.1 hfx.2.1 hfr.2.1 (hx.2.2.2.1.2 h) hk.2.2.2 (by rw [wt] at hwt;omega) (hx.keep hb).flds.2.2 (hr.keep hb).flds.2.2
     rw [zd0] at this;exact this
   ·have h3 : ((x.kind : Int) != (r.kind : Int)) = true:=by simp;omega
    rw [hst,if_neg hs',if_pos hkk]
    by_cases hx63 : x.kind = 63
    ·exact zpi x r w ai li ci af lf cf bi mi di bf mf df _ _ (iB hx63) h2 hs h3 rfl (fun W hb => zdm (n + 1) x W ai af li ci lf cf hk hwt (hx.keep hb))
    ·exact zpj x r w ai li ci af lf cf bi mi di bf mf df _ _ (iN hx63) h2 hs h3 rfl (fun W hb => zdm (n + 1) x W ai af li ci lf cf hk hwt (hx.keep hb))
theorem zjy : ∀ m,zd5 m
 | 0 => fun nw nr x r w ai af li ci lf cf bi bf mi di mf df hm hk hwt hx hr => by
  obtain rfl : nw = 0:=by omega
  exact hx.elim
 | m + 1 => zpp (zjy m)
theorem zlq {s : ByteArray} {n i k : Nat} {ty : Ty} (h : zaf true s (n + 1) i = some (ty,k)) (h3 : ¬ ty.kind = 123) : ty.fields = []:=by
 have his : i < s.size:=by have:=zbt true s _ _ _ _ h;omega
 rw [zaf] at h
 split at h
 ·cases h;rfl
 ·split at h
  ·cases h;rfl
  ·split at h
   ·cases h;rfl
   ·split at h
    ·rw [zfz s (i + 1) (by omega)] at h
     unfold zby at h
     simp only at h
     split at h
     ·cases h
     ·split at h
      iterate 2
       ·split at h
        ·cases h;rfl
        ·cases h
    ·split at h
     ·unfold zbe at h
      split at h
      ·cases h
      ·split at h
       ·cases h;rfl
       ·cases h
     ·split at h
      ·unfold zbf at h
       split at h
       ·cases h
       ·split at h
        ·cases h
        ·cases h;rfl
      ·split at h
       ·unfold pRec at h
        split at h
        ·cases h
        ·cases h;exact absurd rfl h3
       ·cases h
theorem zjv {s : ByteArray} : ∀ (n i : Nat) (ty : Ty) (k : Nat),zaf true s n i = some (ty,k) -> tyK n ty
 | 0,i,ty,k,h => by simp [zaf] at h
 | n + 1,i,ty,k,h => by
  have ih:=zjv (s:=s) n
  have his : i < s.size:=by have:=zbt true s _ _ _ _ h;omega
  obtain ⟨_,n',hn,h60,hin,hne,h123,hk⟩:=zgf h
  obtain rfl : n' = n:=by omega
  have hg:=zjw _ _ _ _ h
  refine ⟨hk,fun h6 => (zi1 (by omega) (h60 h6)).2.2.1,fun hh => ?_,fun f hf => ?_⟩
  ·obtain ⟨k',hk'⟩:=hin hh
   refine ⟨fun hi => ?_,ih _ _ _ hk'⟩
   have : ty.in = za8 0:=by unfold Ty.in;rw [hi];rfl
   rw [this] at hk'
   obtain ⟨_,_,_,_,_,_,_,h7⟩:=zgf hk'
   have h0 : (za8 0).kind = 0:=rfl
   omega
  ·have h3 : ty.kind = 123:=by
    rcases Nat.lt_or_ge 0 0 with h | _
    ·omega
    ·apply Classical.byContradiction
     intro h3
     have : ty.fields = []:=zlq h h3
     rw [this] at hf;exact absurd hf List.not_mem_nil
   obtain ⟨k',hk'⟩:=h123 h3
   exact (zf1 (Q:=fun f => f.1 < 256 /\ tyK n' f.2.1) (fun i f k hf => by
     have h256:=zh9 hf
     unfold zal at hf
     split at hf
     ·split at hf
      ·cases hf
      ·rename_i t k' ht
       have h1:=ih _ _ _ ht
       split at hf
       ·split at hf
        ·cases hf
        ·cases hf;exact ⟨h256,h1⟩
       ·cases hf;exact ⟨h256,h1⟩
     ·cases hf) _ _ _ _ _ hk' (fun f hf => absurd hf List.not_mem_nil) (by simp)).1 f hf
theorem zh7 {st : Bool} {s : ByteArray} {ty : Ty} (hx : pAll st s = some ty) : zaf st s s.size 0 = some (ty,s.size):=by
 unfold pAll at hx
 rcases hq : zaf st s s.size 0 with _ | ⟨ty',k⟩
 ·rw [hq] at hx;cases hx
 ·rw [hq] at hx;simp only at hx
  split at hx
  ·rename_i h;cases hx;rw [h]
  ·cases hx
end
section
open Go.RowKit
end
section
open Go.RowKit
def ln : Nat -> Ty -> Nat
 | 0,_ => 0
 | n + 1,ty => if ty.kind = 91 then ln n ty.in + 2 else if ty.kind = 63 then ln n ty.in + 1 else if ty.kind = 123 then (ty.fields.map fun f => ln n f.2.1 + 3).sum + 1 else 1
end
section
open Go.RowKit
end
section
open Go.RowKit
end
section
open Go.RowKit
end
section
open Go.RowKit
end
section
open Go.RowKit
end
section
open Go.RowKit
end
section
open Go.RowKit
end
section
open Go.RowKit
end
section
open Go.RowKit
end
section
open Go.RowKit
end
section
open Go.RowKit
end
section
open Go.RowKit
end
section
open Go.RowKit
end
section
open Go.RowKit
end
section
def Rel (t : ByteArray) (f g : Nat -> Option (ByteArray × Nat)) : Prop:=(∀ j d k,g j = some (d,k) -> f j = some (d,k)) /\ (∀ j d k,f j = some (d,k) -> bAt t k ≠ 45 -> g j = some (d,k))
theorem Rel.refl (t : ByteArray) (f : Nat -> Option (ByteArray × Nat)) : Rel t f f:=⟨fun _ _ _ h => h,fun _ _ _ h _ => h⟩
theorem Rel.none {t : ByteArray} {f g : Nat -> Option (ByteArray × Nat)} (h : Rel t f g) {j : Nat} (hf : f j = none) : g j = none:=by
 rcases hg : g j with _ | ⟨d,k⟩
 ·rfl
 ·rw [h.1 _ _ _ hg] at hf;cases hf
theorem zhb (lo hi : Int) (t : ByteArray) : Rel t (zaz false lo hi t) (zaz true lo hi t):=by
 constructor
 ·intro j d k h
  unfold zaz at h ⊢
  split at h
  ·cases h
  ·split at h
   ·cases h
   ·rename_i hr
    split at h
    ·cases h
    ·simp only [if_neg hr];simpa using h
 ·intro j d k h hk
  unfold zaz at h ⊢
  split at h
  ·cases h
  ·split at h
   ·cases h
   ·rename_i hr
    simp only [if_neg hr]
    simp at h
    rw [if_neg (by rw [h.2];exact fun x => hk x.2)]
    simp [h]
theorem zg9 {t : ByteArray} {f g : Nat -> Option (ByteArray × Nat)} (h : Rel t f g) : ∀ (m c b : Nat) (d : ByteArray),za6 g t m c b d = za6 f t m c b d
 | 0,c,b,d => rfl
 | m + 1,c,b,d => by
  rw [za6,za6]
  rcases hf : f (b + 1) with _ | ⟨x,k⟩
  ·rw [h.none hf]
  ·by_cases h45 : bAt t k = 45
   ·simp only [if_neg (show ¬ bAt t k = 93 by omega),if_neg (show ¬ bAt t k = 44 by omega)]
    rcases hg : g (b + 1) with _ | ⟨x',k'⟩
    ·rfl
    ·have:=h.1 _ _ _ hg
     rw [hf] at this
     simp only [Option.some.injEq,Prod.mk.injEq] at this
     obtain ⟨rfl,rfl⟩:=this
     simp only [if_neg (show ¬ bAt t k = 93 by omega),if_neg (show ¬ bAt t k = 44 by omega)]
   ·rw [h.2 _ _ _ hf h45]
    simp only
    rw [zg9 h m (c + 1) k (d ++ x)]
theorem zg6 {t : ByteArray} {f : Ty -> Nat -> Option (ByteArray × Nat)} {fs : List (Nat × Ty × ByteArray)} {b : Nat} {d : ByteArray} (h : bAt t b = 45) : zas f t fs 44 b d = none:=by
 cases fs with
 | nil => rw [zas,if_neg (by omega)]
 | cons g fs => rw [zas,if_neg (by omega)]
theorem zg7 {t : ByteArray} {f g : Ty -> Nat -> Option (ByteArray × Nat)} (h : ∀ ty,Rel t (f ty) (g ty)) : ∀ (fs : List (Nat × Ty × ByteArray)) (mk : Int) (b : Nat) (d : ByteArray),zas g t fs mk b d = zas f t fs mk b d
 | [],mk,b,d => by rw [zas,zas]
 | x :: fs,mk,b,d => by
  rw [zas,zas]
  split
  ·rcases hf : f x.2.1 (b + 3) with _ | ⟨y,k⟩
   ·rw [(h _).none hf]
   ·by_cases h45 : bAt t k = 45
    ·simp only
     rw [zg6 h45]
     rcases hg : g x.2.1 (b + 3) with _ | ⟨y',k'⟩
     ·rfl
     ·have:=(h _).1 _ _ _ hg
      rw [hf] at this
      simp only [Option.some.injEq,Prod.mk.injEq] at this
      obtain ⟨rfl,rfl⟩:=this
      simp only
      exact zg6 h45
    ·rw [(h _).2 _ _ _ hf h45]
     simp only
     exact zg7 h fs 44 k (d ++ y)
  ·rfl
theorem zlk {t : ByteArray} {f g : Nat -> Option (ByteArray × Nat)} (h : Rel t f g) : Rel t (zba f t) (zba g t):=by
 constructor
 ·intro j d k hj
  unfold zba at hj ⊢
  split at hj
  ·rename_i hc;rw [if_pos hc];exact hj
  ·rename_i hc;rw [if_neg hc]
   rcases hg : g j with _ | ⟨x,k'⟩
   ·rw [hg] at hj;cases hj
   ·rw [hg] at hj;rw [h.1 _ _ _ hg];exact hj
 ·intro j d k hj hk
  unfold zba at hj ⊢
  split at hj
  ·rename_i hc;rw [if_pos hc];exact hj
  ·rename_i hc;rw [if_neg hc]
   rcases hf : f j with _ | ⟨x,k'⟩
   ·rw [hf] at hj;cases hj
   ·rw [hf] at hj
    simp only [Option.some.injEq,Prod.mk.injEq] at hj
    rw [h.2 _ _ _ hf (by rw [hj.2];exact hk)]
    simp [hj]
theorem zhd (t : ByteArray) : ∀ (n : Nat) (ty : Ty),Rel t (enc false t n ty) (enc true t n ty)
 | 0,ty => ⟨fun j d k h => by simp [enc] at h,fun j d k h => by simp [enc] at h⟩
 | n + 1,ty => by
  have ih:=zhd t n
  have eF : ∀ j,enc false t (n + 1) ty j = _:=fun j => by rw [enc]
  have eT : ∀ j,enc true t (n + 1) ty j = _:=fun j => by rw [enc]
  have key : ∀ (a b : Nat -> Option (ByteArray × Nat)),(∀ j,enc false t (n + 1) ty j = a j) -> (∀ j,enc true t (n + 1) ty j = b j) -> Rel t a b -> Rel t (enc false t (n + 1) ty) (enc true t (n + 1) ty):=fun a b ha hb h =>
   ⟨fun j d k hj => by rw [ha];rw [hb] at hj;exact h.1 j d k hj,fun j d k hj hk => by rw [hb];rw [ha] at hj;exact h.2 j d k hj hk⟩
  by_cases h1 : ty.kind = 105
  ·exact key _ _ (fun j => by rw [enc,if_pos h1]) (fun j => by rw [enc,if_pos h1]) (zhb _ _ t)
  by_cases h2 : ty.kind = 108
  ·exact key _ _ (fun j => by rw [enc,if_neg h1,if_pos h2]) (fun j => by rw [enc,if_neg h1,if_pos h2]) (zhb _ _ t)
  by_cases h3 : ty.kind = 115
  ·exact key _ _ (fun j => by rw [enc,if_neg h1,if_neg h2,if_pos h3]) (fun j => by rw [enc,if_neg h1,if_neg h2,if_pos h3]) (Rel.refl t _)
  by_cases h4 : ty.kind = 60
  ·exact key (zbr ty.letters t) (zbr ty.letters t) (fun j => by rw [enc,if_neg h1,if_neg h2,if_neg h3,if_pos h4];rfl) (fun j => by rw [enc,if_neg h1,if_neg h2,if_neg h3,if_pos h4];rfl) (Rel.refl t _)
  by_cases h5 : ty.kind = 91
  ·refine key (zbd (enc false t n ty.in) t) (zbd (enc false t n ty.in) t) (fun j => by rw [enc,if_neg h1,if_neg h2,if_neg h3,if_neg h4,if_pos h5]) (fun j => ?_) (Rel.refl t _)
   rw [enc,if_neg h1,if_neg h2,if_neg h3,if_neg h4,if_pos h5]
   unfold zbd
   rw [zg9 (ih ty.in)]
  by_cases h6 : ty.kind = 63
  ·exact key _ _ (fun j => by rw [enc,if_neg h1,if_neg h2,if_neg h3,if_neg h4,if_neg h5,if_pos h6]) (fun j => by rw [enc,if_neg h1,if_neg h2,if_neg h3,if_neg h4,if_neg h5,if_pos h6]) (zlk (ih ty.in))
  by_cases h7 : ty.kind = 123
  ·exact key (fun j => zas (enc false t n) t ty.fields 123 j ByteArray.empty) (fun j => zas (enc false t n) t ty.fields 123 j ByteArray.empty) (fun j => by rw [enc,if_neg h1,if_neg h2,if_neg h3,if_neg h4,if_neg h5,if_neg h6,if_pos h7]) (fun j => by
    rw [enc,if_neg h1,if_neg h2,if_neg h3,if_neg h4,if_neg h5,if_neg h6,if_pos h7,zg7 ih]) (Rel.refl t _)
  ·exact key (fun _ => none) (fun _ => none) (fun j => by rw [enc,if_neg h1,if_neg h2,if_neg h3,if_neg h4,if_neg h5,if_neg h6,if_neg h7]) (fun j => by rw [enc,if_neg h1,if_neg h2,if_neg h3,if_neg h4,if_neg h5,if_neg h6,if_neg h7]) (Rel.refl t _)
theorem zm2 {pt : Nat -> Option (Ty × Nat)} {ef eg : Ty -> Nat -> Option (ByteArray × Nat)} {s : ByteArray} (h : ∀ ty,Rel s (ef ty) (eg ty)) :
  (∀ a f k,zal pt eg s a = some (f,k) -> zal pt ef s a = some (f,k)) /\ (∀ a f k,zal pt ef s a = some (f,k) -> bAt s k ≠ 45 -> zal pt eg s a = some (f,k)):=by
 constructor
 ·intro a f k hx
  unfold zal at hx ⊢
  split at hx
  ·rename_i hc;rw [if_pos hc]
   rcases hp : pt (a + 2) with _ | ⟨ty,k'⟩
   ·rw [hp] at hx;cases hx
   ·rw [hp] at hx
    simp only at hx ⊢
    split at hx
    ·rename_i h6;rw [if_pos h6]
     rcases hy : eg ty (k' + 1) with _ | ⟨d,m⟩
     ·rw [hy] at hx;cases hx
     ·rw [hy] at hx;rw [(h ty).1 _ _ _ hy];exact hx
    ·rename_i h6;rw [if_neg h6];exact hx
  ·cases hx
 ·intro a f k hx hk
  unfold zal at hx ⊢
  split at hx
  ·rename_i hc;rw [if_pos hc]
   rcases hp : pt (a + 2) with _ | ⟨ty,k'⟩
   ·rw [hp] at hx;cases hx
   ·rw [hp] at hx
    simp only at hx ⊢
    split at hx
    ·rename_i h6;rw [if_pos h6]
     rcases hy : ef ty (k' + 1) with _ | ⟨d,m⟩
     ·rw [hy] at hx;cases hx
     ·rw [hy] at hx
      have hx2:=hx
      simp only [Option.some.injEq,Prod.mk.injEq] at hx2
      rw [(h ty).2 _ _ _ hy (by rw [hx2.2];exact hk)];exact hx
    ·rename_i h6;rw [if_neg h6];exact hx
  ·cases hx
theorem zic {pf pg : Nat -> Option ((Nat × Ty × ByteArray) × Nat)} {s : ByteArray} (h1 : ∀ a f k,pg a = some (f,k) -> pf a = some (f,k)) (h2 : ∀ a f k,pf a = some (f,k) -> bAt s k ≠ 45 -> pg a = some (f,k)) :
  ∀ (m a : Nat) (acc : List (Nat × Ty × ByteArray)),zat pg s m a acc = zat pf s m a acc
 | 0,a,acc => rfl
 | m + 1,a,acc => by
  rw [zat,zat]
  rcases hf : pf a with _ | ⟨f,k⟩
  ·rcases hg : pg a with _ | ⟨f',k'⟩
   ·rfl
   ·rw [h1 _ _ _ hg] at hf;cases hf
  ·by_cases h45 : bAt s k = 45
   ·simp only [if_neg (show ¬ bAt s k = 125 by omega),if_neg (show ¬ bAt s k = 44 by omega),ite_self]
    rcases hg : pg a with _ | ⟨f',k'⟩
    ·rfl
    ·have:=h1 _ _ _ hg
     rw [hf] at this
     simp only [Option.some.injEq,Prod.mk.injEq] at this
     obtain ⟨rfl,rfl⟩:=this
     simp only [if_neg (show ¬ bAt s k = 125 by omega),if_neg (show ¬ bAt s k = 44 by omega),ite_self]
   ·rw [h2 _ _ _ hf h45]
    simp only
    rw [zic h1 h2 m (k + 1) (acc ++ [f])]
theorem zik (s : ByteArray) : ∀ (n i : Nat),zaf true s n i = zaf false s n i
 | 0,i => rfl
 | n + 1,i => by
  have ih : zaf true s n = zaf false s n:=funext (zik s n)
  rw [zaf,zaf,ih]
  have hr:=zm2 (pt:=zaf false s n) (s:=s) (fun ty => zhd s n ty)
  have e : ∀ a,pRec (zal (zaf false s n) (enc true s n) s) s a = pRec (zal (zaf false s n) (enc false s n) s) s a:=fun a => by
   unfold pRec;rw [zic hr.1 hr.2]
  rw [e]
theorem zmz (s : ByteArray) : pAll true s = pAll false s:=by unfold pAll;rw [zik]
end
section
open Go.RowKit
end
section
open Go.RowKit
end
section
open Go.RowKit
theorem zid {pf : Nat -> Option ((Nat × Ty × ByteArray) × Nat)} {s : ByteArray} {N : Nat} (hp : ∀ i f k,pf i = some (f,k) -> i < k /\ k <= s.size /\ wt N f.2.1 + f.2.2.size + 84 <= 80 * (k - i)) :
  ∀ (m a : Nat) (acc fs : List (Nat × Ty × ByteArray)) (k : Nat),zat pf s m a acc = some (fs,k) -> a < k /\ k <= s.size /\ (fs.map fun f => wt N f.2.1 + f.2.2.size + 4).sum <= (acc.map fun f => wt N f.2.1 + f.2.2.size + 4).sum + 80 * (k - a)
 | 0,a,acc,fs,k,h => by simp [zat] at h
 | m + 1,a,acc,fs,k,h => by
  rw [zat] at h
  split at h
  ·cases h
  ·rename_i f k' hf
   have h1:=hp _ _ _ hf
   split at h
   ·cases h
   ·split at h
    ·rename_i h125
     have:=zaq (s:=s) (i:=k') (by omega)
     simp only [Option.some.injEq,Prod.mk.injEq] at h
     obtain ⟨rfl,rfl⟩:=h
     rw [List.map_append,List.sum_append]
     simp
     omega
    ·split at h
     ·have:=zid hp m (k' + 1) (acc ++ [f]) fs k h
      rw [List.map_append,List.sum_append] at this
      simp at this ⊢
      omega
     ·cases h
theorem zna (st : Bool) (s : ByteArray) (N : Nat) : ∀ (n i : Nat) (ty : Ty) (k : Nat),zaf st s n i = some (ty,k) -> wt N ty <= 80 * (k - i):=by
 intro n
 induction n generalizing N with
 | zero => intro i ty k h;simp [zaf] at h
 | succ n IH =>
  intro i ty k h
  have hbd:=zbt st s _ _ _ _ h
  cases N with
  | zero => rw [wt];omega
  | succ N =>
  have hpl : ∀ q : Nat,wt (N + 1) (za8 q) <= 80 * (i + 1 - i):=fun q => by rw [wt];simp [za8]
  rw [zaf] at h
  split at h
  ·cases h;exact hpl _
  ·split at h
   ·cases h;exact hpl _
   ·split at h
    ·cases h;exact hpl _
    ·split at h
     ·simp only [zbb] at h
      split at h
      ·cases h
      ·split at h
       iterate 2
        ·split at h
         ·cases h;rw [wt];simp;omega
         ·cases h
     ·split at h
      ·unfold zbe at h
       split at h
       ·cases h
       ·rename_i t k' ht
        split at h
        ·cases h
         have:=IH N _ _ _ ht
         have:=zbt st s _ _ _ _ ht
         rw [wt];simp;omega
        ·cases h
      ·split at h
       ·unfold zbf at h
        split at h
        ·cases h
        ·rename_i t k' ht
         have:=IH N _ _ _ ht
         have:=zbt st s _ _ _ _ ht
         split at h
         ·cases h
         ·cases h;rw [wt];simp;omega
       ·split at h
        ·unfold pRec at h
         split at h
         ·cases h
         ·rename_i fs k' hfs
          cases h
          have:=zid (N:=N) (fun i f k hf => by
           unfold zal at hf
           split at hf
           ·split at hf
            ·cases hf
            ·rename_i t k' ht
             have h1:=IH N _ _ _ ht
             have h2:=zbt st s _ _ _ _ ht
             split at hf
             ·split at hf
              ·cases hf
              ·rename_i d m' he
               cases hf
               have h3:=zb8 he
               have h4:=size_extract s (k' + 1) k (by omega) (by omega)
               refine ⟨by omega,by omega,?_⟩
               show wt N t + (s.extract (k' + 1) k).size + 84 <= _
               omega
             ·cases hf
              refine ⟨by omega,by omega,?_⟩
              show wt N t + 0 + 84 <= _
              omega
           ·cases hf) _ _ _ _ _ hfs
          rw [wt];simp at this ⊢;omega
        ·cases h
theorem zm0 {st : Bool} {s : ByteArray} {x : Ty} (h : pAll st s = some x) (hs : s.size <= 60) (N : Nat) : wt N x <= 20000:=by
 have:=zna st s N _ _ _ _ (zh7 h)
 omega
end
section
open Go.RowKit
def fitB (s t : ByteArray) : Bool:=match pAll false s,pAll false t with
 | some x,some r => (unV (s.size + t.size) s.size x r).isNone
 | _,_ => false
end
end Go.Proofs.Ytkkekopomiehlab
