import Derived.Test.YtkkekopomiehlaaGreatCFt5
set_option linter.unusedVariables false
set_option linter.unusedSimpArgs false
set_option maxHeartbeats 40000000
namespace Go.Proofs.YtkkekopomiehlaaGreat
section
open Go.RowKit
def tyF : Nat -> Ty -> Prop
 | 0,_ => True
 | n + 1,ty => (ty.kind = 60 -> ty.letters.size <= 8) /\ (ty.kind = 91 \/ ty.kind = 63 -> tyF n ty.in) /\ (ty.kind = 123 -> ty.fields ≠ []) /\ ∀ f ∈ ty.fields,tyF n f.2.1
theorem zmy (t : ByteArray) (a : Nat) : ∀ m,(∀ i,i < m -> isD (bAt t (a + i)) = true) -> 0 <= dVal t a m
 | 0,h => Int.le_refl _
 | m + 1,h => by
  have h1:=zmy t a m (fun i hi => h i (by omega))
  have h2:=zdv (h m (by omega))
  rw [dVal];omega
theorem zo8 {t : ByteArray} {a e : Nat} {n : Int} (h : pDig t a = some (n,e)) : 0 <= n /\ a < e /\ e <= t.size /\ decS 18 n.toNat = t.extract a e:=by
 obtain ⟨h1,h2,h3,h4,h5,h6,h7⟩:=zk1 h
 have hd : ∀ i,i < e - a -> isD (bAt t (a + i)) = true:=fun i hi => h3 (a + i) (by omega) (by omega)
 refine ⟨by rw [h7];exact zmy t a _ hd,h1,h2,?_⟩
 have:=zho t a (e - a - 1) 18 (fun j hj => zdv (hd j (by omega))) (fun hm => by have:=zdv (hd 0 (by omega));rw [Nat.add_zero] at this;have:=h6 (by omega);omega) (by omega) (by omega)
 rw [show e - a - 1 + 1 = e - a by omega,<- h7,show a + (e - a - 1) + 1 = e by omega] at this
 exact this
theorem znl {st : Bool} {lo hi : Int} {t d : ByteArray} {j e : Nat} (h : za3 st lo hi t j = some (d,e)) : ∃ x,lo <= x /\ x <= hi /\ At t j (decI x) /\ e = j + (decI x).size /\ d = zao x:=by
 unfold za3 at h
 split at h
 ·cases h
 ·rename_i n e' hn
  split at h
  ·cases h
  ·rename_i hr
   split at h
   ·cases h
   ·cases h
    refine ⟨n,by omega,by omega,?_⟩
    unfold pNum at hn
    split at hn
    ·rename_i h45
     split at hn
     ·cases hn
     ·rename_i n0 e0 hp
      split at hn
      ·cases hn
      ·rename_i hn0
       cases hn
       obtain ⟨p1,p2,p3,p4⟩:=zo8 hp
       have hdI : decI (-n0) = ⟨#[45]⟩ ++ t.extract (j + 1) e:=by unfold decI;rw [if_pos (by omega),<- p4];congr 2;omega
       have hs:=size_extract t (j + 1) e (by omega) p3
       have e1 : (⟨#[45]⟩ : ByteArray).size = 1:=rfl
       have hjt : j < t.size:=zar (by omega)
       rw [hdI]
       refine ⟨At.app.2 ⟨⟨by rw [e1];omega,fun i hi => ?_⟩,by rw [e1];exact At.of (by omega) p3⟩,by rw [ByteArray.size_append,hs,e1];omega,rfl⟩
       rw [e1] at hi
       obtain rfl : i = 0:=by omega
       rw [Nat.add_zero,h45];rfl
    ·obtain ⟨p1,p2,p3,p4⟩:=zo8 hn
     have hdI : decI n = t.extract j e:=by unfold decI;rw [if_neg (by omega),p4]
     rw [hdI]
     exact ⟨At.of (by omega) p3,by rw [size_extract t j e (by omega) p3];omega,rfl⟩
theorem zmb {s : ByteArray} : ∀ (m k : Nat),(∀ i,i < m -> inS (bAt s (k + i)) = true) -> allS s m k = true
 | 0,k,h => rfl
 | m + 1,k,h => by
  rw [allS,Bool.and_eq_true]
  exact ⟨by have:=h 0 (by omega);rw [Nat.add_zero] at this;exact this,zmb m (k + 1) (fun i hi => by have:=h (i + 1) (by omega);rw [show k + (i + 1) = k + 1 + i by omega] at this;exact this)⟩
theorem zub {t d : ByteArray} {j e : Nat} (h : zbh t j = some (d,e)) : ∃ s : ByteArray,s.size <= 60 /\ allS s s.size 0 = true /\ At t j (quo ++ s ++ quo) /\ e = j + (quo ++ s ++ quo).size /\ d = oneB s.size ++ s:=by
 unfold zbh at h
 split at h
 ·rename_i h34
  simp only at h
  have hrl:=zce inS t (t.size - (j + 1)) (j + 1)
  have hra:=zef inS t (t.size - (j + 1)) (j + 1)
  generalize zap inS t (t.size - (j + 1)) (j + 1) = E at h hrl hra
  split at h
  ·rename_i hc
   cases h
   have hE : E < t.size:=zar (by omega)
   have hjt : j < t.size:=zar (by omega)
   have hs:=size_extract t (j + 1) E (by omega) (by omega)
   refine ⟨t.extract (j + 1) E,by omega,zmb _ _ (fun i hi => ?_),?_,?_,by rw [hs]⟩
   ·rw [Nat.zero_add,zbs t (j + 1) E i (by omega) (by omega)]
    exact hra _ (by omega) (by omega)
   ·rw [At.app,At.app,ByteArray.size_append,zdz,hs]
    refine ⟨⟨⟨by rw [zdz];omega,fun i hi => ?_⟩,At.of (by omega) (by omega)⟩,⟨by rw [zdz];omega,fun i hi => ?_⟩⟩
    ·rw [zdz] at hi;obtain rfl : i = 0:=by omega
     rw [Nat.add_zero,h34];rfl
    ·rw [zdz] at hi;obtain rfl : i = 0:=by omega
     rw [show j + (1 + (E - (j + 1))) + 0 = E by omega,hc.1];rfl
   ·rw [ByteArray.size_append,ByteArray.size_append,zdz,hs];omega
  ·cases h
 ·cases h
theorem zpf {l : ByteArray} {c : Int} : ∀ (m k : Nat),0 <= za6 l c m k -> ∃ i : Nat,za6 l c m k = i /\ k <= i /\ i < k + m /\ bAt l i = c
 | 0,k,h => by simp [za6] at h
 | m + 1,k,h => by
  rw [za6] at h ⊢
  split at h
  ·rename_i hb;rw [if_pos hb];exact ⟨k,rfl,Nat.le_refl _,by omega,hb⟩
  ·rename_i hb
   rw [if_neg hb]
   obtain ⟨i,h1,h2,h3,h4⟩:=zpf m (k + 1) h
   exact ⟨i,h1,by omega,by omega,h4⟩
theorem At.one' {t : ByteArray} {j : Nat} (c : UInt8) (h : bAt t j = (c.toNat : Int)) : At t j ⟨#[c]⟩:=by
 have hj : j < t.size:=zar (by omega)
 refine ⟨by rw [sz1];omega,fun i hi => ?_⟩
 rw [sz1] at hi
 obtain rfl : i = 0:=by omega
 rw [Nat.add_zero,h];rfl
theorem zni {t : ByteArray} {f : Nat -> Option (ByteArray × Nat)} {tv : Val -> ByteArray} {ok : Val -> Prop} (hf : ∀ j d k,f j = some (d,k) -> ∃ v,ok v /\ At t j (tv v) /\ k = j + (tv v).size) :
  ∀ (m c b : Nat) (d d' : ByteArray) (k : Nat),za7 f t m c b d = some (d',k) -> ∃ (v : Val) (us : List Val),us.length < m /\ ok v /\ (∀ u ∈ us,ok u) /\ At t (b + 1) (tv v ++ sepT (us.map tv)) /\ k = b + 1 + (tv v ++ sepT (us.map tv)).size
 | 0,c,b,d,d',k,h => by simp [za7] at h
 | m + 1,c,b,d,d',k,h => by
  rw [za7] at h
  split at h
  ·cases h
  ·rename_i x k' hx
   obtain ⟨v,hv1,hv2,hv3⟩:=hf _ _ _ hx
   split at h
   ·rename_i h93
    cases h
    refine ⟨v,[],by simp,hv1,fun u hu => absurd hu List.not_mem_nil,?_,?_⟩
    ·rw [At.app];refine ⟨hv2,?_⟩
     rw [<- hv3];exact At.one' 93 h93
    ·rw [ByteArray.size_append,<- Nat.add_assoc,<- hv3];rfl
   ·split at h
    ·rename_i h44
     obtain ⟨w,us,h1,h2,h3,h4,h5⟩:=zni hf m _ _ _ _ _ h
     refine ⟨v,w :: us,by simp;omega,hv1,fun u hu => by rcases List.mem_cons.1 hu with rfl | hu;exact h2;exact h3 u hu,?_,?_⟩
     ·rw [At.app,<- hv3,List.map_cons,sepT,At.app,sz1]
      exact ⟨hv2,At.one' 44 h44,h4⟩
     ·rw [List.map_cons,sepT,ByteArray.size_append,ByteArray.size_append,sz1];omega
    ·cases h
theorem znf {t : ByteArray} {f : Ty -> Nat -> Option (ByteArray × Nat)} {tv : Ty -> Val -> ByteArray} {ok : Ty -> Val -> Prop} :
  ∀ (fs : List (Nat × Ty × ByteArray)) (mk : UInt8) (b : Nat) (d d' : ByteArray) (k : Nat),(∀ g ∈ fs,∀ j d k,f g.2.1 j = some (d,k) -> ∃ v,ok g.2.1 v /\ At t j (tv g.2.1 v) /\ k = j + (tv g.2.1 v).size) -> (∀ g ∈ fs,g.1 < 256) -> zax f t fs (mk.toNat : Int) b d = some (d',k) -> ∃ vs : List Val,vs.length = fs.length /\ (∀ p ∈ fs.zip vs,ok p.1.2.1 p.2) /\ At t b (recT ((fs.zip vs).map fun p => (p.1.1,tv p.1.2.1 p.2)) ⟨#[mk]⟩) /\ k = b + (recT ((fs.zip vs).map fun p => (p.1.1,tv p.1.2.1 p.2)) ⟨#[mk]⟩).size
 | [],mk,b,d,d',k,hf,hg,h => by
  rw [zax] at h
  split at h
  ·rename_i h125
   cases h
   exact ⟨[],rfl,fun p hp => absurd hp (by simp),At.one' 125 h125,rfl⟩
  ·cases h
 | g :: fs,mk,b,d,d',k,hf,hg,h => by
  rw [zax] at h
  split at h
  ·rename_i hc
   split at h
   ·cases h
   ·rename_i x k' hx
    obtain ⟨v,hv1,hv2,hv3⟩:=hf g (by simp) _ _ _ hx
    obtain ⟨vs,h1,h2,h3,h4⟩:=znf (ok:=ok) fs 44 _ _ _ _ (fun g' hg' => hf g' (by simp [hg'])) (fun g' hg' => hg g' (by simp [hg'])) h
    have h256:=hg g (by simp)
    refine ⟨v :: vs,by simp [h1],fun p hp => ?_,?_,?_⟩
    ·rw [List.zip_cons_cons] at hp
     rcases List.mem_cons.1 hp with rfl | hp
     ·exact hv1
     ·exact h2 p hp
    ·simp only [List.zip_cons_cons,List.map_cons,recT]
     rw [At.app,At.app,At.app,At.app,At.one h256]
     simp only [ByteArray.size_append,sz1,zai]
     refine ⟨⟨At.one' mk hc.1,hc.2.1,?_,?_⟩,?_⟩
     ·rw [show b + 1 + 1 = b + 2 by omega];exact At.one' 58 hc.2.2
     ·rw [show b + 1 + 1 + 1 = b + 3 by omega];exact hv2
     ·rw [show b + (1 + (1 + (1 + (tv g.2.1 v).size))) = k' by omega];exact h3
    ·simp only [List.zip_cons_cons,List.map_cons,recT,ByteArray.size_append,sz1,zai]
     omega
  ·cases h
theorem zno {st : Bool} {t : ByteArray} : ∀ (n : Nat) (ty : Ty) (j : Nat) (d : ByteArray) (k : Nat),tyG n ty -> tyF n ty -> enc st t n ty j = some (d,k) -> ∃ v,okV n ty v /\ At t j (txtV n ty v) /\ k = j + (txtV n ty v).size
 | 0,ty,j,d,k,_,_,h => by simp [enc] at h
 | n + 1,ty,j,d,k,hg,hF,h => by
  have ih:=zno (st:=st) (t:=t) n
  rw [enc] at h
  split at h
  ·rename_i hk
   obtain ⟨x,h1,h2,h3,h4,_⟩:=znl h
   exact ⟨.num x,zkx (.inl ⟨hk,h1,h2⟩),h3,h4⟩
  ·split at h
   ·rename_i hk
    obtain ⟨x,h1,h2,h3,h4,_⟩:=znl h
    exact ⟨.num x,zkx (.inr ⟨hk,h1,h2⟩),h3,h4⟩
   ·split at h
    ·rename_i hk
     obtain ⟨s,h1,h2,h3,h4,_⟩:=zub h
     exact ⟨.str s,zo3 ⟨hk,h1,h2⟩,h3,h4⟩
    ·split at h
     ·rename_i hk
      split at h
      ·cases h
      ·rename_i hp
       cases h
       obtain ⟨i,h1,h2,h3,h4⟩:=zpf (l:=ty.letters) (c:=bAt t j) ty.letters.size 0 (by unfold pOf at hp;omega)
       have hl:=(hF.1 hk)
       have hj : j < t.size:=by
        have:=(hg.1 hk i (by omega)).1
        rw [h4] at this
        have:=zkd this
        exact zar (by omega)
       have hhi:=zep t j
       have hL:=zkd ((hg.1 hk i (by omega)).1)
       refine ⟨.cho i,zib ⟨hk,by omega,by omega⟩,?_,?_⟩
       ·rw [zfy,At.one (by omega)];omega
       ·rw [zfy,zai]
     ·split at h
      ·rename_i hk
       unfold zbk at h
       split at h
       ·rename_i h91
        split at h
        ·rename_i h93
         cases h
         refine ⟨.lst [],zfi ⟨hk,Nat.zero_le _,fun v hv => absurd hv List.not_mem_nil⟩,?_,?_⟩
         ·rw [zfz]
          show At t j (⟨#[91]⟩ ++ ⟨#[93]⟩)
          rw [At.app,sz1]
          exact ⟨At.one' 91 h91,At.one' 93 h93⟩
         ·rw [zfz];rfl
        ·obtain ⟨v,us,h1,h2,h3,h4,h5⟩:=zni (tv:=txtV n ty.in) (ok:=okV n ty.in) (fun j d k h => ih ty.in j d k (hg.2.2.1 (.inl hk)) (hF.2.1 (.inl hk)) h) _ _ _ _ _ _ h
         have hT : txtV (n + 1) ty (.lst (v :: us)) = ⟨#[91]⟩ ++ (txtV n ty.in v ++ sepT (us.map (txtV n ty.in))):=by
          rw [zfz];simp only [List.map_cons,zdx,zod,Nat.lt_irrefl,if_false,ByteArray.append_assoc]
         refine ⟨.lst (v :: us),zfi ⟨hk,by simp;omega,fun u hu => by rcases List.mem_cons.1 hu with rfl | hu;exact h2;exact h3 u hu⟩,?_,?_⟩
         ·rw [hT,At.app,sz1];exact ⟨At.one' 91 h91,h4⟩
         ·rw [hT,ByteArray.size_append,sz1];omega
       ·cases h
      ·split at h
       ·rename_i hk
        unfold zbn at h
        split at h
        ·rename_i h95
         cases h
         refine ⟨.non,zkw hk,?_,?_⟩
         ·rw [zi8];exact At.one' 95 h95
         ·rw [zi8];rfl
        ·split at h
         ·cases h
         ·rename_i d0 k0 h0
          cases h
          obtain ⟨v,h1,h2,h3⟩:=ih ty.in j d0 k (hg.2.2.1 (.inr hk)) (hF.2.1 (.inr hk)) h0
          exact ⟨.som v,zky ⟨hk,h1⟩,by rw [zi9];exact h2,by rw [zi9];exact h3⟩
       ·split at h
        ·rename_i hk
         obtain ⟨vs,h1,h2,h3,h4⟩:=znf (tv:=txtV n) (ok:=fun t v => okV n t v) ty.fields 123 j ByteArray.empty d k (fun f hf j d k h => ih f.2.1 j d k (hg.2.2.2 f hf).2 (hF.2.2.2 f hf) h) (fun g hg' => (hg.2.2.2 g hg').1) h
         refine ⟨.rcd vs,zgw ⟨hk,hF.2.2.1 hk,h1,h2⟩,?_,?_⟩
         ·rw [zel,zj9,ByteArray.empty_append];exact h3
         ·rw [zel,zj9,ByteArray.empty_append];exact h4
        ·cases h
end
section
open Go.RowKit
def tyD : Nat -> Ty -> Prop
 | 0,_ => True
 | n + 1,ty => (ty.kind = 91 \/ ty.kind = 63 -> tyD n ty.in) /\ ∀ f ∈ ty.fields,tyD n f.2.1 /\ (f.2.2.size ≠ 0 -> ∃ v,okV n f.2.1 v /\ f.2.2 = txtV n f.2.1 v)
theorem zg6 {s : ByteArray} : ∀ (n i : Nat) (ty : Ty) (k : Nat),zac true s n i = some (ty,k) -> tyL n ty /\ tyF n ty /\ tyD n ty
 | 0,i,ty,k,h => by simp [zac] at h
 | n + 1,i,ty,k,h => by
  have ih:=zg6 (s:=s) n
  have his : i < s.size:=by have:=za8 true s _ _ _ _ h;omega
  obtain ⟨_,n',hn,h60,hin,hne,h123,hk⟩:=zcg h
  obtain rfl : n' = n:=by omega
  have h6 : ty.kind = 60 -> 1 <= ty.letters.size /\ ty.letters.size <= 8:=fun h => by
   obtain ⟨_,_,l3,l4,_⟩:=ze0 (by omega) (h60 h)
   exact ⟨l3,l4⟩
  have hi : ty.kind = 91 \/ ty.kind = 63 -> tyL n' ty.in /\ tyF n' ty.in /\ tyD n' ty.in:=fun h => by
   obtain ⟨k',hk'⟩:=hin h
   exact ih _ _ _ hk'
  have hfs : ty.kind = 123 -> ty.fields ≠ [] /\ ∀ f ∈ ty.fields,tyL n' f.2.1 /\ tyF n' f.2.1 /\ tyD n' f.2.1 /\ (f.2.2.size ≠ 0 -> ∃ v,okV n' f.2.1 v /\ f.2.2 = txtV n' f.2.1 v):=fun h3 => by
   obtain ⟨k',hk'⟩:=h123 h3
   have hpf : ∀ i f k,zaj (zac true s n') (enc true s n') s i = some (f,k) -> (i < k /\ k <= s.size) /\ tyL n' f.2.1 /\ tyF n' f.2.1 /\ tyD n' f.2.1 /\ (f.2.2.size ≠ 0 -> ∃ v,okV n' f.2.1 v /\ f.2.2 = txtV n' f.2.1 v):=fun i f k hf => by
    unfold zaj at hf
    split at hf
    ·split at hf
     ·cases hf
     ·rename_i t k' ht
      have h1:=ih _ _ _ ht
      have h2:=za8 true s _ _ _ _ ht
      split at hf
      ·split at hf
       ·cases hf
       ·rename_i d m' he
        cases hf
        have h3:=zbo he
        obtain ⟨v,e1,e2,e3⟩:=zno n' t _ _ _ (zlx _ _ _ _ ht).1 h1.2.1 he
        refine ⟨⟨by omega,by omega⟩,h1.1,h1.2.1,h1.2.2,fun _ => ⟨v,e1,?_⟩⟩
        show s.extract (k' + 1) k = txtV n' t v
        rw [e3];exact e2.ext
      ·cases hf
       exact ⟨⟨by omega,by omega⟩,h1.1,h1.2.1,h1.2.2,fun h => absurd rfl h⟩
    ·cases hf
   have hl:=zgz (fun a f k hf => (hpf a f k hf).1) (Nat.zero_le _) hk'
   refine ⟨fun hf => by rw [hf] at hl;simp at hl,?_⟩
   exact (zii (Q:=fun f => tyL n' f.2.1 /\ tyF n' f.2.1 /\ tyD n' f.2.1 /\ (f.2.2.size ≠ 0 -> ∃ v,okV n' f.2.1 v /\ f.2.2 = txtV n' f.2.1 v)) (fun i f k hf => (hpf i f k hf).2) _ _ _ _ _ hk' (fun f hf => absurd hf List.not_mem_nil) (by simp)).1
  have hff : ∀ f ∈ ty.fields,ty.kind = 123:=fun f hf => by
   apply Classical.byContradiction
   intro h3
   rw [zny h h3] at hf;exact absurd hf List.not_mem_nil
  exact ⟨⟨hk,h6,fun h => (hi h).1,hne,fun h3 => ⟨(hfs h3).1,fun f hf => ((hfs h3).2 f hf).1⟩⟩,
   ⟨fun h => (h6 h).2,fun h => (hi h).2.1,fun h3 => (hfs h3).1,fun f hf => ((hfs (hff f hf)).2 f hf).2.1⟩,
   ⟨fun h => (hi h).2.2,fun f hf => ((hfs (hff f hf)).2 f hf).2.2⟩⟩
theorem zml {α : Type} (f : Val -> ByteArray) (c : α -> Nat) : ∀ (gs : List α) (vs : List Val),vs.length = gs.length -> (∀ (i : Nat) (g : α) (v : Val),gs[i]? = some g -> vs[i]? = some v -> (f v).size <= c g) -> (catB (vs.map f)).size <= (gs.map c).sum
 | [],[],hl,h => by simp [catB]
 | [],v :: vs,hl,h => by simp at hl
 | g :: gs,[],hl,h => by simp at hl
 | g :: gs,v :: vs,hl,h => by
  have h1:=h 0 g v rfl rfl
  have h2:=zml f c gs vs (by simpa using hl) (fun i g' v' hg hv => h (i + 1) g' v' (by simpa using hg) (by simpa using hv))
  simp only [List.map_cons,catB,ByteArray.size_append,List.sum_cons];omega
end
section
open Go.RowKit
def trn (f : Ty -> List Val) (ls : List Val) : List (Nat × Ty × ByteArray) -> Nat -> List Val
 | [],_ => []
 | g :: gs,p => (f g.2.1).map (fun v => Val.rcd (ls.set p v)) ++ trn f ls gs (p + 1)
def smV : Nat -> Ty -> List Val
 | 0,_ => []
 | n + 1,ty => if ty.kind = 60 then (List.range ty.letters.size).map Val.cho else if ty.kind = 91 then .lst [] :: (smV n ty.in).map (fun v => .lst [v]) else if ty.kind = 63 then .non :: (smV n ty.in).map Val.som
  else if ty.kind = 123 then trn (smV n) (ty.fields.map fun f => lv n f.2.1) ty.fields 0 else [lv (n + 1) ty]
theorem zgt {f : Ty -> List Val} {ls : List Val} {v : Val} : ∀ (gs : List (Nat × Ty × ByteArray)) (p : Nat),v ∈ trn f ls gs p ↔ ∃ i g u,gs[i]? = some g /\ u ∈ f g.2.1 /\ v = .rcd (ls.set (p + i) u)
 | [],p => by simp [trn]
 | g :: gs,p => by
  rw [trn,List.mem_append,zgt gs (p + 1)]
  constructor
  ·rintro (h | ⟨i,g',u,h1,h2,h3⟩)
   ·obtain ⟨u,hu,rfl⟩:=List.mem_map.1 h
    exact ⟨0,g,u,rfl,hu,rfl⟩
   ·exact ⟨i + 1,g',u,by simpa using h1,h2,by rw [h3,show p + 1 + i = p + (i + 1) by omega]⟩
  ·rintro ⟨i,g',u,h1,h2,h3⟩
   cases i with
   | zero => simp at h1;subst h1;exact .inl (List.mem_map.2 ⟨u,h2,h3.symm⟩)
   | succ i => exact .inr ⟨i,g',u,by simpa using h1,h2,by rw [h3,show p + 1 + i = p + (i + 1) by omega]⟩
theorem zh8 {n : Nat} {ty : Ty} (h : ty.kind = 123) : lv (n + 1) ty = .rcd (ty.fields.map fun f => lv n f.2.1):=by
 rw [lv,if_neg (by omega),if_neg (by omega),if_neg (by omega),if_neg (by omega),if_neg (by omega)]
theorem zh9 : ∀ (n : Nat) (ty : Ty),tyL n ty -> lv n ty ∈ smV n ty
 | 0,ty,h => h.elim
 | n + 1,ty,h => by
  rw [smV]
  split
  ·rename_i hk
   rw [lv,if_neg (by omega),if_neg (by omega),if_pos hk]
   have:=(h.2.1 hk).1
   exact List.mem_map.2 ⟨0,List.mem_range.2 (by omega),rfl⟩
  ·split
   ·rename_i hk
    rw [lv,if_neg (by omega),if_neg (by omega),if_neg (by omega),if_pos hk];simp
   ·split
    ·rename_i hk
     rw [lv,if_neg (by omega),if_neg (by omega),if_neg (by omega),if_neg (by omega),if_pos hk];simp
    ·split
     ·rename_i hk
      have h5:=h.2.2.2.2 hk
      rw [zh8 hk,zgt]
      obtain ⟨g,gs,hg⟩:=List.exists_cons_of_ne_nil h5.1
      refine ⟨0,g,lv n g.2.1,by rw [hg];rfl,zh9 n g.2.1 (h5.2 g (by rw [hg];simp)),?_⟩
      rw [hg];rfl
     ·simp
theorem zqs {n : Nat} {ty : Ty} (h : tyL (n + 1) ty) (hk : ty.kind = 123) {p : Nat} {g : Nat × Ty × ByteArray} {u : Val} (hg : ty.fields[p]? = some g) (P : Ty -> Val -> Prop) (hl : ∀ t,tyL n t -> P t (lv n t)) (hu : P g.2.1 u) :
  ∀ (i : Nat) (q : Nat × Ty × ByteArray) (v : Val),ty.fields[i]? = some q -> ((ty.fields.map fun f => lv n f.2.1).set p u)[i]? = some v -> P q.2.1 v:=fun i q v h1 h2 => by
 have hpl : p < ty.fields.length:=by have:=List.getElem?_eq_some_iff.1 hg;exact this.1
 by_cases hip : i = p
 ·subst hip
  rw [List.getElem?_set_self (by simpa using hpl)] at h2
  rw [hg] at h1
  cases h1;cases h2;exact hu
 ·rw [List.getElem?_set_ne (by omega),List.getElem?_map,h1] at h2
  simp at h2
  rw [<- h2]
  exact hl _ ((h.2.2.2.2 hk).2 q (List.mem_of_getElem? h1))
theorem ziu : ∀ (n : Nat) (ty : Ty),tyL n ty -> ∀ v ∈ smV n ty,okV n ty v
 | 0,ty,h => h.elim
 | n + 1,ty,h => fun v hv => by
  rw [smV] at hv
  split at hv
  ·rename_i hk
   obtain ⟨i,hi,rfl⟩:=List.mem_map.1 hv
   have:=List.mem_range.1 hi
   have:=(h.2.1 hk).2
   exact zib ⟨hk,by omega,by omega⟩
  ·split at hv
   ·rename_i hk
    rcases List.mem_cons.1 hv with rfl | hv
    ·exact zfi ⟨hk,by simp,fun v hv => by simp at hv⟩
    ·obtain ⟨u,hu,rfl⟩:=List.mem_map.1 hv
     exact zfi ⟨hk,by simp,fun w hw => by rw [List.mem_singleton.1 hw];exact ziu n ty.in (h.2.2.1 (.inl hk)) u hu⟩
   ·split at hv
    ·rename_i hk
     rcases List.mem_cons.1 hv with rfl | hv
     ·exact zkw hk
     ·obtain ⟨u,hu,rfl⟩:=List.mem_map.1 hv
      exact zky ⟨hk,ziu n ty.in (h.2.2.1 (.inr hk)) u hu⟩
    ·split at hv
     ·rename_i hk
      have h5:=h.2.2.2.2 hk
      obtain ⟨i,g,u,h1,h2,rfl⟩:=(zgt _ _).1 hv
      rw [Nat.zero_add]
      have hu:=ziu n g.2.1 (h5.2 g (List.mem_of_getElem? h1)) u h2
      refine zgw ⟨hk,h5.1,by simp,fun pr hpr => ?_⟩
      obtain ⟨j,hj⟩:=List.getElem?_of_mem hpr
      rw [List.getElem?_zip_eq_some] at hj
      exact zqs h hk h1 (fun t v => okV n t v) (zfg n) hu j _ _ hj.1 hj.2
     ·rw [List.mem_singleton.1 hv];exact zfg (n + 1) ty h
theorem ze3 : ∀ (n : Nat) (ty : Ty),tyL n ty -> ∀ v ∈ smV n ty,(datV n v).size <= ln n ty
 | 0,ty,h => h.elim
 | n + 1,ty,h => fun v hv => by
  rw [smV] at hv
  split at hv
  ·rename_i hk
   obtain ⟨i,hi,rfl⟩:=List.mem_map.1 hv
   rw [zes,zai,ln,if_neg (by omega),if_neg (by omega),if_neg (by omega)];omega
  ·split at hv
   ·rename_i hk
    rw [ln,if_pos hk]
    rcases List.mem_cons.1 hv with rfl | hv
    ·rw [zdc]
     show (oneB 0 ++ catB []).size <= _
     rw [ByteArray.size_append,zai];simp [catB]
    ·obtain ⟨u,hu,rfl⟩:=List.mem_map.1 hv
     have:=ze3 n ty.in (h.2.2.1 (.inl hk)) u hu
     rw [zdc,ByteArray.size_append,zai]
     show 1 + (catB [datV n u]).size <= _
     simp only [catB,ByteArray.size_append]
     have : ByteArray.empty.size = 0:=rfl
     omega
   ·split at hv
    ·rename_i hk
     rw [ln,if_neg (by omega),if_pos hk]
     rcases List.mem_cons.1 hv with rfl | hv
     ·rw [zet,zai];omega
     ·obtain ⟨u,hu,rfl⟩:=List.mem_map.1 hv
      have:=ze3 n ty.in (h.2.2.1 (.inr hk)) u hu
      rw [zgg,ByteArray.size_append,zai];omega
    ·split at hv
     ·rename_i hk
      have h5:=h.2.2.2.2 hk
      obtain ⟨i,g,u,h1,h2,rfl⟩:=(zgt _ _).1 hv
      rw [Nat.zero_add]
      have hu:=ze3 n g.2.1 (h5.2 g (List.mem_of_getElem? h1)) u h2
      rw [zdd,ln,if_neg (by omega),if_neg (by omega),if_pos hk]
      have:=zml (datV n) (fun g : Nat × Ty × ByteArray => ln n g.2.1 + 3) ty.fields ((ty.fields.map fun f => lv n f.2.1).set i u) (by simp) (fun j q v e1 e2 => by
       have:=zqs h hk h1 (fun t v => (datV n v).size <= ln n t) (zkf n) hu j q v e1 e2
       have h3 : (datV n v).size <= ln n q.2.1:=this
       show (datV n v).size <= ln n q.2.1 + 3
       omega)
      omega
     ·rw [List.mem_singleton.1 hv];exact zkf (n + 1) ty h
theorem zrp {f : Ty -> List Val} {ls : List Val} {c : Nat × Ty × ByteArray -> Nat} : ∀ (gs : List (Nat × Ty × ByteArray)) (p : Nat),(∀ g ∈ gs,(f g.2.1).length <= c g) -> (trn f ls gs p).length <= (gs.map c).sum
 | [],p,h => by simp [trn]
 | g :: gs,p,h => by
  have:=h g (by simp)
  have:=zrp (f:=f) (ls:=ls) (c:=c) gs (p + 1) (fun g hg => h g (by simp [hg]))
  rw [trn,List.length_append,List.length_map,List.map_cons,List.sum_cons];omega
theorem zhb : ∀ (m n : Nat) (x r : Ty) (u : Val),tyL n x -> unV m n x r = some u -> u ∈ smV n x
 | 0,n,x,r,u,hl,h => by simp [unV] at h
 | m + 1,0,x,r,u,hl,h => hl.elim
 | m + 1,n + 1,x,r,u,hl,h => by
  change zch (unV m n) (unV m (n + 1)) n x r = some u at h
  unfold zch at h
  split at h
  ·rename_i hc
   obtain ⟨v,hv,rfl⟩:=Option.map_eq_some_iff.1 h
   have:=zhb m n x.in r.in v (hl.2.2.1 (.inr hc.1)) hv
   rw [smV,if_neg (by omega),if_neg (by omega),if_pos hc.1]
   exact List.mem_cons_of_mem _ (List.mem_map.2 ⟨v,this,rfl⟩)
  ·split at h
   ·exact zhb m (n + 1) x r.in u hl h
   ·split at h
    ·cases h
    ·split at h
     ·cases h;exact zh9 (n + 1) x hl
     ·split at h
      ·rename_i h60
       obtain ⟨v,hv,rfl⟩:=Option.map_eq_some_iff.1 h
       have:=zl0 _ _ _ hv
       rw [smV,if_pos h60]
       exact List.mem_map.2 ⟨v,List.mem_range.2 (by omega),rfl⟩
      ·split at h
       ·rename_i h91
        obtain ⟨v,hv,rfl⟩:=Option.map_eq_some_iff.1 h
        have:=zhb m n x.in r.in v (hl.2.2.1 (.inl h91)) hv
        rw [smV,if_neg (by omega),if_pos h91]
        exact List.mem_cons_of_mem _ (List.mem_map.2 ⟨v,this,rfl⟩)
       ·split at h
        ·rename_i h123
         have h5:=hl.2.2.2.2 h123
         have go : ∀ gs : List (Nat × Ty × ByteArray),unF (unV m n) n x.fields gs = some u -> u ∈ smV (n + 1) x:=by
          intro gs
          induction gs with
          | nil => intro h;simp [unF] at h
          | cons g gs ihg =>
           intro h
           rw [unF] at h
           split at h
           ·split at h
            ·cases h
             have:=zh9 (n + 1) x hl
             rwa [zh8 h123] at this
            ·exact ihg h
           ·rename_i p hfi
            have hpl : p < x.fields.length:=by rw [List.findIdx?_eq_some_iff_getElem] at hfi;exact hfi.1
            obtain ⟨q,hq⟩ : ∃ q,x.fields[p]? = some q:=⟨x.fields[p],List.getElem?_eq_getElem hpl⟩
            rw [zgm hq] at h
            split at h
            ·exact ihg h
            ·rename_i v hv
             cases h
             have h1:=zhb m n q.2.1 g.2.1 v (h5.2 q (List.mem_of_getElem? hq)) hv
             rw [smV,if_neg (by omega),if_neg (by omega),if_neg (by omega),if_pos h123]
             exact (zgt _ _).2 ⟨p,q,v,hq,h1,by rw [Nat.zero_add]⟩
         exact go r.fields h
        ·cases h
theorem zh0 {n : Nat} {ty : Ty} (h : tyL (n + 1) ty) (hk : ty.kind = 91 \/ ty.kind = 63) : wt n ty.in + 70 <= wt (n + 1) ty:=by
 have h1:=h.2.2.1 hk
 rw [wt]
 cases hi : ty.inner with
 | nil =>
  rw [Ty.in,hi] at h1
  cases n with
  | zero => exact h1.elim
  | succ n => have:=h1.1;simp [zbl] at this
 | cons a rest =>
  have : ty.in = a:=by rw [Ty.in,hi];rfl
  rw [this,List.map_cons,List.sum_cons];omega
theorem ze4 : ∀ (n : Nat) (ty : Ty),tyL n ty -> (smV n ty).length <= wt n ty
 | 0,ty,h => h.elim
 | n + 1,ty,h => by
  have h70:=zem n ty
  rw [smV]
  split
  ·rename_i hk;have:=(h.2.1 hk).2;rw [List.length_map,List.length_range];omega
  ·split
   ·rename_i hk
    have h1:=ze4 n ty.in (h.2.2.1 (.inl hk))
    have h2:=zh0 h (.inl hk)
    rw [List.length_cons,List.length_map];omega
   ·split
    ·rename_i hk
     have h1:=ze4 n ty.in (h.2.2.1 (.inr hk))
     have h2:=zh0 h (.inr hk)
     rw [List.length_cons,List.length_map];omega
    ·split
     ·rename_i hk
      have:=zrp (f:=smV n) (ls:=ty.fields.map fun f => lv n f.2.1) (c:=fun f => wt n f.2.1 + f.2.2.size + 4) ty.fields 0 (fun g hg => by have:=ze4 n g.2.1 ((h.2.2.2.2 hk).2 g hg);omega)
      rw [wt];omega
     ·simp;omega
end
section
set_option maxRecDepth 4000
open Go.RowKit
def SRet (o : Option ByteArray) (e : Ending) : Prop :=
 match o with
 | some t => e = .returned (.tuple #[.string t,.bool true])
 | none => ∃ t : ByteArray,e = .returned (.tuple #[.string t,.bool false])
def ze8 (m : Nat) (s t d : ByteArray) : Prop:=∀ (nw nr i k j : Nat) (x y : Ty) (kx ky : Nat) (v : Val) (w : World),nw + nr <= m -> nw <= 100 -> nr <= 100 -> zac true s nw i = some (x,kx) -> s.size <= i + nw -> zac true t nr k = some (y,ky) -> t.size <= k + nr ->
 okV nw x v -> At d j (datV nw v) -> wt m y <= 20000 ->
 Calls Tryz.prog 79 #[.string s,.int .i64 i,.string t,.int .i64 k,.string d,.int .i64 j] w fun e w' => SRet (rdT m x y v) e /\ Below w.heap.size w w'
def zc7 (f : Val -> Option ByteArray) : List Val -> ByteArray -> Option ByteArray
 | [],t => some t
 | v :: vs,t =>
  match f v with
  | none => none
  | some x => zc7 f vs ((t ++ ⟨#[44]⟩) ++ x)
def zfa (t : ByteArray) : ByteArray:=(⟨#[91]⟩ ++ (if t.size = 0 then t else t.extract 1 t.size)) ++ ⟨#[93]⟩
theorem zs8 (a : ByteArray) : zfa (⟨#[44]⟩ ++ a) = (⟨#[91]⟩ ++ a) ++ ⟨#[93]⟩:=by
 unfold zfa
 rw [if_neg (by rw [ByteArray.size_append];have : (⟨#[44]⟩ : ByteArray).size = 1:=rfl;omega),zjz]
theorem zqz (f : Val -> Option ByteArray) : ∀ (vs : List Val) (k : Nat) (a : ByteArray),0 < k -> zbv f vs k (⟨#[91]⟩ ++ a) = (zc7 f vs (⟨#[44]⟩ ++ a)).map zfa
 | [],k,a,hk => by simp only [zbv,zc7,Option.map_some,zs8]
 | v :: vs,k,a,hk => by
  simp only [zbv,zc7]
  cases hx : f v with
  | none => rfl
  | some x =>
   simp only [if_pos hk]
   have:=zqz f vs (k + 1) (a ++ (⟨#[44]⟩ ++ x)) (by omega)
   simp only [ByteArray.append_assoc] at this ⊢
   exact this
theorem zzj (f : Val -> Option ByteArray) (vs : List Val) : zbv f vs 0 ⟨#[91]⟩ = (zc7 f vs ByteArray.empty).map zfa:=by
 cases vs with
 | nil => rfl
 | cons v vs =>
  simp only [zbv,zc7]
  cases hx : f v with
  | none => rfl
  | some x =>
   have:=zqz f vs 1 x (by omega)
   simp only [ByteArray.empty_append,Nat.lt_irrefl,if_false] at this ⊢
   exact this
theorem zqc {C b : Nat} {t : ByteArray} (h : t.size <= C * b) (hC : C <= 20001) (hb : b <= 65) : t.size <= 1300100:=by
 have h1:=Nat.mul_le_mul hC hb
 omega
theorem zym {m : Nat} {s t d : ByteArray} (IH : ze8 m s t d) (hs : s.size <= 4096) (ht : t.size <= 4096) (hd : d.size <= 64) (nw nr i k j : Nat) (x y : Ty) (kx ky : Nat) (vs : List Val) (w : World) (hm : nw + nr <= m) (hnw : nw <= 100) (hnr : nr <= 100) (hpx : zac true s nw i = some (x,kx)) (hix : s.size <= i + nw)
  (hpy : zac true t nr k = some (y,ky)) (hky : t.size <= k + nr) (hvl : vs.length <= 16) (hv : ∀ v ∈ vs,okV nw x v) (hat : At d j (oneB vs.length ++ catB (vs.map (datV nw)))) (hwt : wt m y <= 20000) :
  Calls Tryz.prog 99 #[.string s,.int .i64 i,.string t,.int .i64 k,.string d,.int .i64 j] w fun e w' => e = .returned (sRet (zbv (rdT m x y) vs 0 ⟨#[91]⟩)) /\ Below w.heap.size w w':=by
 have _hd : d.size <= 9000000:=by omega
 rw [At.app,At.one (by omega),zai] at hat
 obtain ⟨hj,hat⟩:=hat
 have hjd : j < d.size:=zar (by omega)
 have hdj : d[j].toNat = vs.length:=by rw [za1 d j hjd] at hj;omega
 rw [zzj]
 obtain ⟨R,hR⟩ : ∃ R,R = zc7 (rdT m x y) vs ByteArray.empty:=⟨_,rfl⟩
 rw [<- hR]
 have HR : Hid (R = zc7 (rdT m x y) vs ByteArray.empty):=hR
 have HV : Hid (∀ v ∈ vs,okV nw x v):=hv
 have HA : Hid (At d (j + 1) (catB (vs.map (datV nw)))):=hat
 have hle:=hat.le
 have HL : Hid (vs.length = d[j].toNat):=hdj.symm
 have hL16 : d[j].toNat <= 16:=by omega
 have TA:=zi3 (s:=s) (t:=d) hs (by omega) nw hnw
 clear hR hv hj hat hdj hvl
 go_enter Tryz.func99,Tryz.ntmps99
 go_wp2_with fail
 go_loopw [15,16,17] (fun vd vb vc wr => ∃ (c b : Nat) (us : List Val) (u : ByteArray),c + us.length = d[j].toNat /\ j + 1 <= b /\ b <= d.size /\ vc = .int .i64 c /\ vb = .int .i64 b /\ vd = .string u /\ (c = 0 -> u.size = 0) /\ (0 < c -> 1 <= u.size) /\ Hid (R = zc7 (rdT m x y) us u) /\ Hid (At d b (catB (us.map (datV nw)))) /\ Hid (∀ v ∈ us,okV nw x v) /\ Hid (u.size <= (wt m y + 1) * b) /\ Below w.heap.size w wr) (fun _ _ c _ => 17 - (intOf c).toNat)
 case atStart => exact ⟨0,j + 1,vs,ByteArray.empty,by have:=HL.out;omega,Nat.le_refl _,by omega,rfl,by go_num,rfl,fun _ => rfl,fun h => by omega,HR,HA,HV,Nat.zero_le _,Below.refl _ _⟩
 case round =>
  obtain ⟨c,b,us,u,hcm,hjb,hbt,rfl,rfl,rfl,hu0,hu1,hR,hA,hU,hsz,hb⟩:=hrel
  have hs2:=zqc hsz.out (by omega) (by omega)
  have one1 : (⟨#[93]⟩ : ByteArray).size = 1:=rfl
  have one2 : (⟨#[44]⟩ : ByteArray).size = 1:=rfl
  have one3 : (⟨#[91]⟩ : ByteArray).size = 1:=rfl
  cases us with
  | nil =>
   have hcL : ¬ (c : Int) < (d[j].toNat : Int):=by simp at hcm;omega
   have hr' : Hid (R = some u):=hR
   by_cases hc0 : c = 0
   ·have hue : u = ByteArray.empty:=zeq (hu0 hc0) (fun i hi => by have:=hu0 hc0;omega)
    subst hue
    clear hu0 hu1
    go_wp2_with fail
    go_ret2
    rw [hr'.out]
    exact ⟨rfl,hb⟩
   ·have hu2 : 1 <= u.size:=hu1 (by omega)
    have hue:=zkq hu2
    have hsx:=size_extract u 1 u.size hu2 (Nat.le_refl _)
    have HB : Hid (zfa u = (⟨#[91]⟩ ++ u.extract 1 u.size) ++ ⟨#[93]⟩):=by show _ = _;unfold zfa;rw [if_neg (by omega)]
    clear hu0 hu1
    go_wp2_with fail
    go_ret2
    rw [hr'.out]
    simp only [Option.map_some,HB.out]
    exact ⟨rfl,hb⟩
  | cons v us =>
   have hcL : (c : Int) < (d[j].toNat : Int):=by simp at hcm;omega
   have hA2 : At d b (datV nw v) /\ At d (b + (datV nw v).size) (catB (us.map (datV nw))):=by
    have:=hA.out;simp only [List.map_cons,catB] at this;exact At.app.1 this
   have hvk:=hU.out v (by simp)
   have hdx:=zhq nw x v b hvk hA2.1
   have hseen:=fun w => IH nw nr i k b x y kx ky v w hm hnw hnr hpx hix hpy hky hvk hA2.1 hwt
   obtain ⟨q,hq⟩ : ∃ q,q = b + (datV nw v).size:=⟨_,rfl⟩
   rw [<- hq] at hdx hA2
   have hq1:=hA2.1.le
   have hqp:=zfc _ _ _ hvk
   have htell:=fun w => TA.yes w hpx hix hbt hdx
   have HA2 : Hid (At d q (catB (us.map (datV nw)))):=hA2.2
   have HU : Hid (∀ v ∈ us,okV nw x v):=fun v hv => hU.out v (by simp [hv])
   have hqd : q <= d.size:=by omega
   have hbq : b < q:=by omega
   have hxs:=fun z (hz : rdT m x y v = some z) => zfp m nw x y v z hvk hz
   rw [show (datV nw v).size = q - b by omega] at hxs
   have hlen : c + 1 + us.length = d[j].toNat:=by simp at hcm;omega
   clear hdx hA2 hq hU hA hq1 hqp hcm hu0 hu1
   cases hy : rdT m x y v with
   | none =>
    have hr' : Hid (R = none):=by show _ = _;rw [hR.out,zc7,hy]
    rw [hy] at hseen
    clear hy hxs
    go_wp2_with (first | (go_at_call 79;refine (hseen _).mono ?_;rintro e w1 ⟨⟨z,rfl⟩,hb1⟩))
    go_ret2
    rw [hr'.out]
    exact ⟨rfl,hb.trans (hb1.mono hb.size)⟩
   | some z =>
    have hzs:=hxs z hy
    rw [hy] at hseen
    have z1 : (u ++ ⟨#[44]⟩).size = u.size + 1:=by rw [ByteArray.size_append,one2]
    have hsum : u.size + 1 + z.size <= (wt m y + 1) * q:=by
     have h1:=zcj (C:=wt m y + 1) (show 0 <= b by omega) (show b <= q by omega)
     have h2 : (wt m y + 1) * (q - b) = wt m y * (q - b) + (q - b):=by rw [Nat.add_mul,Nat.one_mul]
     have:=hsz.out
     simp only [Nat.sub_zero] at h1
     omega
    have hs3 : z.size <= 1300100:=by
     have h3 : z.size <= (wt m y + 1) * q:=by omega
     exact zqc h3 (by omega) (by omega)
    have hr' : Hid (R = zc7 (rdT m x y) us ((u ++ ⟨#[44]⟩) ++ z)):=by show _ = _;rw [hR.out,zc7,hy]
    have HS : Hid (((u ++ ⟨#[44]⟩) ++ z).size <= (wt m y + 1) * q):=by show _ <= _;rw [ByteArray.size_append,z1];omega
    clear hy hxs hsum hzs
    go_wp2_with (first | (go_at_call 79;refine (hseen _).mono ?_;rintro e w1 ⟨rfl,hb1⟩) | (go_at_call 97;refine (htell _).mono ?_;rintro e w2 ⟨rfl,hb2⟩))
    go_roundw
    case rel => exact ⟨c + 1,q,us,_,hlen,by omega,hqd,by go_num,rfl,rfl,fun h => by omega,fun _ => by rw [ByteArray.size_append,z1];omega,hr',HA2,HU,HS,(hb.trans (hb1.mono hb.size)).trans (hb2.mono (Nat.le_trans hb.size hb1.size))⟩
    case measure => simp [intOf];omega
end
end Go.Proofs.YtkkekopomiehlaaGreat
