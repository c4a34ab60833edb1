import Derived.Test.YtkkekopomiehlaaGreatCEq1
set_option linter.unusedVariables false
set_option linter.unusedSimpArgs false
set_option maxHeartbeats 40000000
set_option maxRecDepth 4000
namespace Go.Proofs.YtkkekopomiehlaaGreat
section
open Go.RowKit
def zbg (s : ByteArray) : Nat -> Nat -> Nat -> Nat -> Nat × Nat
 | 0,k,u,x => (u,k)
 | m + 1,k,u,x => if s.size <= k then (u,k) else if bAt s k < 128 then (u + (bAt s k).toNat % 128 * x,k + 1) else zbg s m (k + 1) (u + (bAt s k).toNat % 128 * x) (x * 128)
theorem zqp (s : ByteArray) (a : Nat) : ∀ (m k u x v e : Nat),uAtL s a m k u x = some (v,e) -> zbg s m (a + k) u x = (v,e)
 | 0,k,u,x,v,e,h => by simp [uAtL] at h
 | m + 1,k,u,x,v,e,h => by
  rw [uAtL] at h
  have hhi:=zep s (a + k)
  split at h
  ·cases h
  ·rename_i hc
   have hk : a + k < s.size:=zar (by omega)
   rw [zbg,if_neg (by omega)]
   split at h
   ·rename_i hd
    cases h
    rw [if_pos hd,show (bAt s (a + k)).toNat % 128 = (bAt s (a + k)).toNat by omega]
   ·rename_i hd
    rw [if_neg hd,show (bAt s (a + k)).toNat % 128 = (bAt s (a + k)).toNat - 128 by omega]
    exact zqp s a m (k + 1) _ _ v e h
theorem zqo (s : ByteArray) (a : Nat) : ∀ (m k u x v e : Nat),(0 < k -> 128 <= bAt s (a + k - 1)) -> (0 < k \/ (0 < m /\ a < s.size)) -> uAtL s a m k u x = none -> zbg s m (a + k) u x = (v,e) ->
  a + 1 <= e /\ (128 <= bAt s (e - 1) \/ (a + 2 <= e /\ bAt s (e - 1) = 0))
 | 0,k,u,x,v,e,h0,h1,h2,h3 => by
  simp only [zbg,Prod.mk.injEq] at h3
  obtain ⟨rfl,rfl⟩:=h3
  have hk : 0 < k:=by omega
  exact ⟨by omega,.inl (h0 hk)⟩
 | m + 1,k,u,x,v,e,h0,h1,h2,h3 => by
  have hlo:=zs1 s (a + k)
  rw [uAtL] at h2
  rw [zbg] at h3
  by_cases hk : s.size <= a + k
  ·rw [if_pos hk] at h3
   simp only [Prod.mk.injEq] at h3
   obtain ⟨rfl,rfl⟩:=h3
   have hk0 : 0 < k:=by omega
   exact ⟨by omega,.inl (h0 hk0)⟩
  ·rw [if_neg hk] at h3
   have hb:=za1 s (a + k) (by omega)
   by_cases hd : bAt s (a + k) < 128
   ·rw [if_pos hd] at h3
    simp only [Prod.mk.injEq] at h3
    obtain ⟨rfl,rfl⟩:=h3
    split at h2
    ·rename_i hc
     exact ⟨by omega,.inr ⟨by omega,by rw [show a + k + 1 - 1 = a + k by omega];omega⟩⟩
    ·cases h2
   ·rw [if_neg hd] at h3
    rw [if_neg (by omega),if_neg hd] at h2
    exact zqo s a m (k + 1) _ _ v e (fun _ => by rw [show a + (k + 1) - 1 = a + k by omega];omega) (.inl (by omega)) h2 (by rw [show (bAt s (a + k)).toNat - 128 = (bAt s (a + k)).toNat % 128 by have:=zep s (a + k);omega];exact h3)
theorem zgj (s : ByteArray) (p : Nat) (h : p < s.size) : s.extract p (p + 1) = oneB (bAt s p).toNat:=by
 rw [za1 s p h]
 apply ByteArray.ext
 have : p < s.data.size:=h
 apply Array.ext
 ·simp [oneB];omega
 ·intro i h1 h2
  simp [oneB] at h2
  subst h2
  simp [oneB]
  rfl
theorem zuh (s : ByteArray) (p e : Nat) (h : p + 1 <= e) : s.extract p e = s.extract p (p + 1) ++ s.extract (p + 1) e:=by
 rw [ByteArray.extract_append_extract,Nat.min_eq_left (by omega),Nat.max_eq_right h]
theorem zmv (s : ByteArray) (a : Nat) : ∀ (m k u x v e : Nat),uAtL s a m k u x = some (v,e) -> a + k < e /\ ∃ y,v = u + x * y /\ (0 < k -> 0 < y) /\ ∀ M acc,e <= a + k + M + 1 -> codU M acc y = acc ++ s.extract (a + k) e
 | 0,k,u,x,v,e,h => by simp [uAtL] at h
 | m + 1,k,u,x,v,e,h => by
  rw [uAtL] at h
  have hhi:=zep s (a + k)
  split at h
  ·cases h
  ·rename_i hc
   have hk : a + k < s.size:=zar (by omega)
   split at h
   ·rename_i hd
    simp only [Option.some.injEq,Prod.mk.injEq] at h
    obtain ⟨rfl,rfl⟩:=h
    refine ⟨by omega,(bAt s (a + k)).toNat,by rw [Nat.mul_comm],by omega,fun M acc _ => ?_⟩
    rw [zgj s _ hk]
    cases M with
    | zero => rfl
    | succ M => rw [codU,if_neg (by omega)]
   ·rename_i hd
    obtain ⟨hlt,y,hv,hy,hcod⟩:=zmv s a m (k + 1) _ _ v e h
    have hy1:=hy (by omega)
    refine ⟨by omega,(bAt s (a + k)).toNat - 128 + 128 * y,?_,by omega,fun M acc hM => ?_⟩
    ·rw [hv,Nat.mul_add,Nat.mul_assoc,Nat.mul_comm x ((bAt s (a + k)).toNat - 128)];omega
    ·obtain ⟨M',rfl⟩ : ∃ M',M = M' + 1:=⟨M - 1,by omega⟩
     rw [codU,if_pos (by omega),show ((bAt s (a + k)).toNat - 128 + 128 * y) % 128 + 128 = (bAt s (a + k)).toNat by omega,show ((bAt s (a + k)).toNat - 128 + 128 * y) / 128 = y by omega,hcod M' _ (by omega),zuh s (a + k) e (by omega),zgj s _ hk,ByteArray.append_assoc]
     rfl
theorem zmu : ∀ (m : Nat) (acc : ByteArray) (u : Nat),u < 128 ^ (m + 1) -> acc.size + 1 <= (codU m acc u).size /\ bAt (codU m acc u) ((codU m acc u).size - 1) < 128 /\ (0 < u -> bAt (codU m acc u) ((codU m acc u).size - 1) ≠ 0) /\ (u < 128 -> (codU m acc u).size = acc.size + 1)
 | m,acc,u,h => by
  have base : ∀ u,u < 128 -> acc.size + 1 <= (acc ++ oneB u).size /\ bAt (acc ++ oneB u) ((acc ++ oneB u).size - 1) < 128 /\ (0 < u -> bAt (acc ++ oneB u) ((acc ++ oneB u).size - 1) ≠ 0) /\ (u < 128 -> (acc ++ oneB u).size = acc.size + 1):=by
   intro u hu
   have hs : (acc ++ oneB u).size = acc.size + 1:=by rw [ByteArray.size_append,zai]
   have hb : bAt (acc ++ oneB u) (acc.size + 1 - 1) = u:=by
    rw [show acc.size + 1 - 1 = acc.size + 0 by omega,zeo,zdj u (by omega)]
   rw [hs,hb]
   exact ⟨by omega,by omega,by omega,fun _ => rfl⟩
  cases m with
  | zero => rw [codU];exact base u (by simpa using h)
  | succ m =>
   rw [codU]
   by_cases hu : 128 <= u
   ·rw [if_pos hu]
    have ih:=zmu m (acc ++ oneB (u % 128 + 128)) (u / 128) (by rw [Nat.pow_succ] at h;omega)
    rw [ByteArray.size_append,zai] at ih
    exact ⟨by omega,ih.2.1,fun _ => ih.2.2.1 (by omega),fun h => by omega⟩
   ·rw [if_neg hu];exact base u (by omega)
theorem zsa (u : Nat) : zig (zbj u) = u:=by unfold zig zbj;split <;> split <;> omega
def za4 (lo hi : Int) (s : ByteArray) (a : Nat) : Option (ByteArray × Nat) :=
 if zao (zbj (zbg s 8 a 0 1).1) ≠ s.extract a (zbg s 8 a 0 1).2 \/ zbj (zbg s 8 a 0 1).1 < lo \/ hi < zbj (zbg s 8 a 0 1).1 then none
 else some (decI (zbj (zbg s 8 a 0 1).1),(zbg s 8 a 0 1).2)
theorem zir (s : ByteArray) : ∀ (m k u x v e : Nat),u < x -> k <= s.size -> zbg s m k u x = (v,e) -> v < x * 128 ^ m /\ k <= e /\ e <= s.size /\ e <= k + m
 | 0,k,u,x,v,e,hu,hk,h => by simp only [zbg,Prod.mk.injEq] at h;obtain ⟨rfl,rfl⟩:=h;simp;omega
 | m + 1,k,u,x,v,e,hu,hk,h => by
  rw [zbg] at h
  have hx : x * 128 <= x * 128 ^ (m + 1):=Nat.mul_le_mul_left x (by rw [Nat.pow_succ];have:=Nat.pow_pos (n:=m) (show 0 < 128 by omega);omega)
  have hd : (bAt s k).toNat % 128 * x <= 127 * x:=Nat.mul_le_mul_right x (by omega)
  split at h
  ·simp only [Prod.mk.injEq] at h;obtain ⟨rfl,rfl⟩:=h;omega
  ·split at h
   ·simp only [Prod.mk.injEq] at h;obtain ⟨rfl,rfl⟩:=h;omega
   ·have ih:=zir s m (k + 1) _ _ v e (by omega) (by omega) h
    have e1 : x * 128 * 128 ^ m = x * 128 ^ (m + 1):=by rw [Nat.pow_succ',Nat.mul_assoc]
    rw [e1] at ih
    omega
theorem zi1 (lo hi : Int) (s : ByteArray) (a : Nat) (ha : a < s.size) : za4 lo hi s a = zcu lo hi s a:=by
 rcases hu : uAt s a with _ | ⟨u,e⟩
 ·unfold zcu;rw [hu]
  unfold za4
  rcases hsc : zbg s 8 a 0 1 with ⟨v,e⟩
  have hn:=zqo s a 8 0 0 1 v e (by omega) (.inr ⟨by omega,ha⟩) hu (by simpa using hsc)
  have hb:=zir s 8 a 0 1 v e (by omega) (by omega) hsc
  rw [if_pos]
  left
  intro heq
  have hl:=zmu 8 ByteArray.empty v (by have h1:=hb.1;simp only [Nat.reducePow,Nat.reduceAdd] at h1 ⊢;omega)
  have hnd : zao (zbj v) = codU 8 ByteArray.empty v:=by unfold zao;rw [zsa]
  have heq : zao (zbj v) = s.extract a e:=heq
  rw [<- hnd,heq] at hl
  have hsz:=size_extract s a e (by omega) hb.2.2.1
  have hz : ByteArray.empty.size = 0:=rfl
  rw [hsz,zbs s a e _ (by omega) hb.2.2.1,show a + (e - a - 1) = e - 1 by omega,hz] at hl
  rcases hn.2 with h | ⟨h1,h2⟩
  ·omega
  ·by_cases hv : 0 < v
   ·exact hl.2.2.1 hv h2
   ·have:=hl.2.2.2 (by omega);omega
 ·have hsc : zbg s 8 a 0 1 = (u,e):=by have:=zqp s a 8 0 0 1 u e hu;simpa using this
  unfold za4 zcu
  rw [hsc,hu]
  simp only
  obtain ⟨h1,y,hy,_,hcod⟩:=zmv s a 8 0 0 1 u e hu
  have hb:=zir s 8 a 0 1 u e (by omega) (by omega) hsc
  have hnd : zao (zbj u) = s.extract a e:=by
   unfold zao;rw [zsa,show u = y by omega,hcod 8 ByteArray.empty (by omega)];simp
  by_cases hr : zbj u < lo \/ hi < zbj u
  ·rw [if_pos (.inr hr),if_pos hr]
  ·rw [if_neg hr,if_neg]
   rintro (h | h)
   ·exact h hnd
   ·exact hr h
end
section
open Go.RowKit
def tyK : Nat -> Ty -> Prop
 | 0,_ => True
 | n + 1,ty => (ty.kind = 105 \/ ty.kind = 108 \/ ty.kind = 115 \/ ty.kind = 60 \/ ty.kind = 91 \/ ty.kind = 63 \/ ty.kind = 123) /\ (ty.kind = 60 -> 1 <= ty.letters.size) /\ (ty.kind = 91 \/ ty.kind = 63 -> ty.inner ≠ [] /\ tyK n ty.in) /\ ∀ f ∈ ty.fields,f.1 < 256 /\ tyK n f.2.1
def lv : Nat -> Ty -> Val
 | 0,_ => .non
 | n + 1,ty => if ty.kind = 105 \/ ty.kind = 108 then .num 0 else if ty.kind = 115 then .str ByteArray.empty else if ty.kind = 60 then .cho 0 else if ty.kind = 91 then .lst [] else if ty.kind = 63 then .non else .rcd (ty.fields.map fun f => lv n f.2.1)
def rwT (f : Ty -> ByteArray) (x : ByteArray) (p : Int) : List (Nat × Ty × ByteArray) -> Nat -> ByteArray -> ByteArray -> ByteArray
 | [],_,_,t => t ++ ⟨#[125]⟩
 | g :: gs,k,mk,t => rwT f x p gs (k + 1) ⟨#[44]⟩ (t ++ (((mk ++ oneB g.1) ++ ⟨#[58]⟩) ++ (if (k : Int) = p then x else f g.2.1)))
theorem zfs (f : Ty -> ByteArray) (tv : Ty -> Val -> ByteArray) (x : ByteArray) (p : Int) : ∀ (fs : List (Nat × Ty × ByteArray)) (vs : List Val) (k : Nat) (mk t : ByteArray),vs.length = fs.length ->
  (∀ i g v,fs[i]? = some g -> vs[i]? = some v -> (if ((k + i : Nat) : Int) = p then x else f g.2.1) = tv g.2.1 v) -> rwT f x p fs k mk t = zdl ((fs.zip vs).map fun q => (q.1.1,tv q.1.2.1 q.2)) mk t
 | [],vs,k,mk,t,hl,h => by cases vs <;> rfl
 | g :: fs,[],k,mk,t,hl,h => by simp at hl
 | g :: fs,v :: vs,k,mk,t,hl,h => by
  have h0:=h 0 g v rfl rfl
  rw [Nat.add_zero] at h0
  rw [rwT,h0,zfs f tv x p fs vs (k + 1) _ _ (by simpa using hl) (fun i g' v' hg hv => by have:=h (i + 1) g' v' (by simpa using hg) (by simpa using hv);rw [show k + (i + 1) = k + 1 + i by omega] at this;exact this),List.zip_cons_cons,List.map_cons,zdl]
theorem ziq {f : Ty -> ByteArray} {x : ByteArray} {p : Int} {c : Nat × Ty × ByteArray -> Nat} : ∀ (gs : List (Nat × Ty × ByteArray)) (k : Nat) (mk t : ByteArray),mk.size = 1 -> (∀ i g,gs[i]? = some g -> (if ((k + i : Nat) : Int) = p then x else f g.2.1).size + 3 <= c g) -> (rwT f x p gs k mk t).size <= t.size + 1 + (gs.map c).sum
 | [],k,mk,t,hm,h => by rw [rwT,ByteArray.size_append];have : (⟨#[125]⟩ : ByteArray).size = 1:=rfl;simp;omega
 | g :: gs,k,mk,t,hm,h => by
  have h0:=h 0 g rfl
  simp only [Nat.add_zero] at h0
  have ih:=ziq (f:=f) (x:=x) (p:=p) (c:=c) gs (k + 1) ⟨#[44]⟩ (t ++ (((mk ++ oneB g.1) ++ ⟨#[58]⟩) ++ (if (k : Int) = p then x else f g.2.1))) rfl (fun i g' hg => by have:=h (i + 1) g' (by simpa using hg);rw [show k + (i + 1) = k + 1 + i by omega] at this;exact this)
  rw [rwT]
  have e1 : (⟨#[58]⟩ : ByteArray).size = 1:=rfl
  simp only [ByteArray.size_append,zai,hm,e1] at ih
  simp only [List.map_cons,List.sum_cons]
  omega
def zf3 (n : Nat) : Prop:=∀ (ty : Ty) (w : World) (ai af : Option Addr) (li ci lf cf : Nat),tyK n ty -> wt n ty <= 20000 -> Rep n w ai li ci af lf cf ty ->
 Calls Tryz.prog 86 #[.agg #[.int .i64 ty.kind,.string ty.letters,.bool ty.op,.slice ai li ci,.slice af lf cf]] w fun e w' => e = .returned (.string (txtV n ty (lv n ty))) /\ Below w.heap.size w w'
theorem zgs : ∀ (n : Nat) (ty : Ty),(txtV n ty (lv n ty)).size <= wt n ty
 | 0,ty => Nat.zero_le _
 | n + 1,ty => by
  have h70:=zem n ty
  rw [lv]
  split
  ·rw [zrr];have:=zj0 0;omega
  ·split
   ·rw [zrs];simp only [ByteArray.size_append];have:=zdz;have : ByteArray.empty.size = 0:=rfl;omega
   ·split
    ·rw [zfy,zai];omega
    ·split
     ·rw [zfz];show (⟨#[91]⟩ ++ ⟨#[93]⟩ : ByteArray).size <= _;rw [ByteArray.size_append];have : (⟨#[91]⟩ : ByteArray).size = 1:=rfl;have : (⟨#[93]⟩ : ByteArray).size = 1:=rfl;omega
     ·split
      ·rw [zi8];have : (⟨#[95]⟩ : ByteArray).size = 1:=rfl;omega
      ·rw [zel,<- zfs (fun t => txtV n t (lv n t)) (txtV n) ByteArray.empty (-1) ty.fields _ 0 _ _ (by simp) (fun i g v hg hv => by
        rw [List.getElem?_map,hg] at hv;simp at hv;rw [if_neg (by omega),<- hv])]
       have:=ziq (f:=fun t => txtV n t (lv n t)) (x:=ByteArray.empty) (p:=-1) (c:=fun f => wt n f.2.1 + f.2.2.size + 4) ty.fields 0 ⟨#[123]⟩ ByteArray.empty rfl (fun i g hg => by
        rw [if_neg (by omega)];have:=zgs n g.2.1;omega)
       have e : ByteArray.empty.size = 0:=rfl
       rw [wt];omega
theorem zln {α : Type} (c : α -> Nat) (K : Nat) : ∀ (l : List α) (x : α),x ∈ l -> (l.map c).sum <= K -> c x <= K
 | y :: l,x,h,hk => by
  simp at hk
  rcases List.mem_cons.1 h with rfl | h
  ·omega
  ·exact zln c K l x h (by omega)
theorem zqf {n : Nat} (IH : zf3 n) (fs : List (Nat × Ty × ByteArray)) (p : Int) (x : ByteArray) (w : World) (af : Option Addr) (lf cf : Nat) (hlf : lf = fs.length) (hfl : fs.length <= 9000000) (hx : x.size <= 20000) (hk : ∀ f ∈ fs,f.1 < 256 /\ tyK n f.2.1) (hwt : (fs.map fun f => wt n f.2.1 + f.2.2.size + 4).sum <= 20000) (hr : RepF n w af fs) :
  Calls Tryz.prog 113 #[.slice af lf cf,.int .i64 p,.string x] w fun e w' => e = .returned (.string (rwT (fun t => txtV n t (lv n t)) x p fs 0 ⟨#[123]⟩ ByteArray.empty)) /\ Below w.heap.size w w':=by
 subst hlf
 obtain ⟨R,hR⟩ : ∃ R,R = rwT (fun t => txtV n t (lv n t)) x p fs 0 ⟨#[123]⟩ ByteArray.empty:=⟨_,rfl⟩
 rw [<- hR]
 have HR : Hid (R = rwT (fun t => txtV n t (lv n t)) x p (fs.drop 0) 0 ⟨#[123]⟩ ByteArray.empty):=hR
 clear hR
 have hfl2 : fs.length <= 5000:=by
  have : ∀ l : List (Nat × Ty × ByteArray),l.length * 4 <= (l.map fun f => wt n f.2.1 + f.2.2.size + 4).sum:=fun l => by
   induction l with
   | nil => simp
   | cons a l ih => simp;omega
  have:=this fs;omega
 go_enter Tryz.func113,Tryz.ntmps113
 go_wp2_with fail
 go_loopw [7,8,14] (fun vt vm vi wr => ∃ (i : Nat) (mk t : ByteArray),i <= fs.length /\ vi = .int .i64 i /\ vm = .string mk /\ vt = .string t /\ mk.size = 1 /\ t.size <= 20010 * i /\ Hid (R = rwT (fun t => txtV n t (lv n t)) x p (fs.drop i) i mk t) /\ Below w.heap.size w wr) (fun _ _ i _ => fs.length - (intOf i).toNat)
 case atStart => exact ⟨0,⟨#[123]⟩,ByteArray.empty,Nat.zero_le _,rfl,rfl,rfl,rfl,Nat.le_refl _,HR,Below.refl _ _⟩
 case round =>
  obtain ⟨i,mk,t,hi,rfl,rfl,rfl,hmk,hts,hR,hb⟩:=hrel
  have one1 : (⟨#[125]⟩ : ByteArray).size = 1:=rfl
  have one2 : (⟨#[58]⟩ : ByteArray).size = 1:=rfl
  have hmul : 20010 * i <= 20010 * 5000:=Nat.mul_le_mul_left _ (by omega)
  have hts2 : t.size <= 100050000:=by omega
  by_cases hlt : i < fs.length
  ·obtain ⟨f,hf⟩ : ∃ f,fs[i]? = some f:=⟨fs[i],List.getElem?_eq_getElem hlt⟩
   have hdrop : fs.drop i = f :: fs.drop (i + 1):=by
    rw [List.drop_eq_getElem_cons hlt];rw [List.getElem?_eq_getElem hlt] at hf;simp at hf;rw [hf]
   have hmem:=List.mem_of_getElem? hf
   obtain ⟨h256,hkf⟩:=hk f hmem
   have hwf : wt n f.2.1 <= 20000:=by
    have:=zln (fun f : Nat × Ty × ByteArray => wt n f.2.1 + f.2.2.size + 4) 20000 fs f hmem hwt
    omega
   rcases hr with ⟨hr,_⟩ | ⟨g,rfl,hcells⟩
   ·rw [hr] at hf;simp at hf
   ·obtain ⟨p1,p2,p3,q1,q2,q3,hrep,k0,k1,k2,k3,k4,k5,k6⟩:=hcells i f hf
    have k0:=zaa hb k0
    have k1:=zaa hb k1
    have k2:=zaa hb k2
    have k3:=zaa hb k3
    have k4:=zaa hb k4
    have k5:=zaa hb k5
    have k6:=zaa hb k6
    have hg' : g < wr.heap.size:=zaf k0
    have hBa : ∀ o,Below wr.heap.size wr (wr.alloc o):=fun o => (Below.refl _ _).alloc (Nat.le_refl _) _
    have hcall:=fun o => IH f.2.1 (wr.alloc o) p1 q1 p2 p3 q2 q3 hkf hwf ((hrep.keep hb).keep (hBa o))
    have hls:=zgs n f.2.1
    have hso : (oneB f.1).size = 1:=rfl
    have hz1 : (mk ++ oneB f.1).size = 2:=by rw [ByteArray.size_append,hmk,hso]
    have hz2 : (mk ++ oneB f.1 ++ ⟨#[58]⟩).size = 3:=by rw [ByteArray.size_append,hz1,one2]
    have hmul2 : 20010 * (i + 1) = 20010 * i + 20010:=by omega
    by_cases hp : (i : Int) = p
    ·have hp' : ((i : Int) != p) = false:=by simp [hp]
     have hr' : Hid (R = rwT (fun t => txtV n t (lv n t)) x p (fs.drop (i + 1)) (i + 1) ⟨#[44]⟩ (t ++ (mk ++ oneB f.1 ++ ⟨#[58]⟩ ++ x))):=by show _ = _;rw [hR.out,hdrop,rwT,if_pos hp]
     have hz3 : (mk ++ oneB f.1 ++ ⟨#[58]⟩ ++ x).size = 3 + x.size:=by rw [ByteArray.size_append,hz2]
     have HS : (t ++ (mk ++ oneB f.1 ++ ⟨#[58]⟩ ++ x)).size <= 20010 * (i + 1):=by rw [ByteArray.size_append,hz3];omega
     clear hdrop hf hcells hp hR hrep hls hmul hmul2
     go_wp2_with (first | (go_at_call 111;refine (zed f.1 _ (by omega)).mono ?_;rintro e w3 ⟨rfl,hb3⟩))
     go_roundw
     case rel => exact ⟨i + 1,⟨#[44]⟩,_,by omega,by go_num,rfl,rfl,rfl,HS,hr',hb.trans (((hBa _).trans (hb3.mono (by simp))).mono hb.size)⟩
     case measure => simp [intOf];omega
    ·have hp' : ((i : Int) != p) = true:=by simp [hp]
     obtain ⟨Y,hY⟩ : ∃ Y,Y = txtV n f.2.1 (lv n f.2.1):=⟨_,rfl⟩
     rw [<- hY] at hcall hls
     have hr' : Hid (R = rwT (fun t => txtV n t (lv n t)) x p (fs.drop (i + 1)) (i + 1) ⟨#[44]⟩ (t ++ (mk ++ oneB f.1 ++ ⟨#[58]⟩ ++ Y))):=by show _ = _;rw [hR.out,hdrop,rwT,if_neg hp,hY]
     have hz3 : (mk ++ oneB f.1 ++ ⟨#[58]⟩ ++ Y).size = 3 + Y.size:=by rw [ByteArray.size_append,hz2]
     have HS : (t ++ (mk ++ oneB f.1 ++ ⟨#[58]⟩ ++ Y)).size <= 20010 * (i + 1):=by rw [ByteArray.size_append,hz3];omega
     have hYs : Y.size <= 20000:=by omega
     clear hdrop hf hcells hp hR hrep hY hls hmul hmul2
     go_wp2_with (first | (go_at_call 86;refine (hcall _).mono ?_;rintro e w2 ⟨rfl,hb2⟩;obtain ⟨hc2,hf2⟩:=zal hb2) | (go_at_call 111;refine (zed f.1 _ (by omega)).mono ?_;rintro e w3 ⟨rfl,hb3⟩))
     go_roundw
     case rel => exact ⟨i + 1,⟨#[44]⟩,_,by omega,by go_num,rfl,rfl,rfl,HS,hr',hb.trans ((((hBa _).trans (hb2.mono (by simp))).trans (hb3.mono (by have:=hb2.size;simp at this;omega))).mono hb.size)⟩
     case measure => simp [intOf];omega
  ·have hnil : fs.drop i = []:=List.drop_of_length_le (by omega)
   have hr' : Hid (R = t ++ ⟨#[125]⟩):=by show _ = _;rw [hR.out,hnil,rwT]
   go_wp2_with fail
   go_ret
   exact ⟨zcy hr'.out.symm,hb⟩
end
section
open Go.RowKit
theorem zok {n : Nat} {s t : ByteArray} (IL : LayOK n s t) (ht : t.size <= 4096) (hn : n <= 100) (i j : Nat) {fs : List (Nat × Ty × ByteArray)} {k0 : Nat} (hne : 0 < fs.length) (hfl : fs.length <= 4096)
  (hF0 : ∀ w,Calls Tryz.prog 94 #[.string s,.int .i64 i] w fun e w' => GRet w.heap.size n s (some (fs,k0)) e w' /\ Below w.heap.size w w') (w : World) (hj : j < t.size) :
  Calls Tryz.prog 130 #[.string s,.int .i64 i,.string t,.int .i64 j] w fun e w' => e = .returned (zbx (zax (enc true t n) t fs 123 j ByteArray.empty)) /\ Below w.heap.size w w':=by
 have _hs : t.size <= 9000000:=by omega
 have hF : ∀ w,Calls Tryz.prog 94 #[.string s,.int .i64 i] w fun e w' => ∃ g cap xs,e = .returned (.tuple #[.slice (some ⟨g,0,none⟩) fs.length cap,.int .i64 k0]) /\ w'.ownsRow w.heap.size 176 4 (.slice (some ⟨g,0,none⟩) fs.length cap) fs.length xs /\ RowR n s xs fs /\ Below w.heap.size w w':=fun w => by
  refine (hF0 w).mono ?_
  rintro e w' ⟨⟨g,cap,xs,h1,h2,h3⟩,h4⟩
  exact ⟨g,cap,xs,h1,h2,h3,h4⟩
 clear hF0
 obtain ⟨R,hR⟩ : ∃ R,R = zax (enc true t n) t fs 123 j ByteArray.empty:=⟨_,rfl⟩
 rw [<- hR]
 have HR : Hid (R = zax (enc true t n) t fs 123 j ByteArray.empty):=hR
 clear hR
 go_enter Tryz.func130,Tryz.ntmps130
 go_wp2_with (go_at_call 94;refine (hF _).mono ?_;rintro e wf ⟨g,cap,xs,rfl,hown,hrow,hbf0⟩)
 go_loopw [12,13,14] (fun vd vb vi wr => ∃ (x b : Nat) (d : ByteArray),x <= fs.length /\ j <= b /\ b <= t.size /\ vi = .int .i64 x /\ vb = .int .i64 b /\ vd = .string d /\ Hid (R = zax (enc true t n) t (fs.drop x) (if x = 0 then 123 else 44) b d) /\ Hid (d.size <= (9 * n + 9) * (b - j)) /\ Below wf.heap.size wf wr) (fun _ _ x _ => fs.length - (intOf x).toNat)
 case atStart => exact ⟨0,j,ByteArray.empty,Nat.zero_le _,Nat.le_refl _,by omega,rfl,rfl,rfl,HR,Nat.zero_le _,Below.refl _ _⟩
 case round =>
  obtain ⟨x,b,d,hx0,hjb,hbt,rfl,rfl,rfl,hR,hd,hb⟩:=hrel
  by_cases hlt : x < fs.length
  ·obtain ⟨f,hf⟩ : ∃ f,fs[x]? = some f:=⟨fs[x],List.getElem?_eq_getElem hlt⟩
   have hdrop : fs.drop x = f :: fs.drop (x + 1):=by
    rw [List.drop_eq_getElem_cons hlt];rw [List.getElem?_eq_getElem hlt] at hf;simp at hf;rw [hf]
   obtain ⟨p,kp,hp,hpn,h256,c0,c1,c2,c3⟩:=hrow.2 x f hf
   have k0:=zaa hb (zaq hown c0)
   have k1:=zaa hb (zaq hown c1)
   have hg' : g < wr.heap.size:=zaf k0
   clear hf c0 c1 c2 c3
   have hds:=zcr hd.out hn (by omega)
   rw [hdrop,zax] at hR
   by_cases hx1 : x = 0
   ·have hx' : ((x : Int) == 0) = true:=by simp;omega
    rw [if_pos hx1] at hR
    have HX : Hid (x = 0):=hx1
    clear hx1
    by_cases h1 : bAt t b = 123
    ·have h1' : atB t b 123 = true:=zbe rfl h1
     by_cases h2 : bAt t (b + 1) = f.1
     ·have h2' : atB t ((b : Int) + 1) f.1 = true:=zbe rfl h2
      by_cases h3 : bAt t (b + 2) = 58
      ·have h3' : atB t ((b : Int) + 2) 58 = true:=zbe rfl h3
       have hb3 : b + 2 < t.size:=zar (by omega)
       cases hy : enc true t n f.2.1 (b + 3) with
       | none =>
        have hr' : Hid (R = none):=by show _ = _;rw [hR.out,if_pos ⟨h1,h2,h3⟩,hy]
        have hcall:=fun w => IL.no w hp hpn (show b + 3 <= t.size by omega) hy
        clear h1 h2 h3 hy hR hrow hown
        go_wp2_with (first | (go_at_call 93;refine (zam (zah _ _ _ _ (by omega) _hs)).mono ?_;rintro e _ ⟨rfl,rfl⟩) | (go_at_call 115;refine (hcall _).mono ?_;rintro e w1 ⟨d',hd',rfl,hb1⟩))
        go_ret2
        rw [hr'.out]
        exact ⟨rfl,(hbf0.trans (hb.mono hbf0.size)).trans (hb1.mono (Nat.le_trans hbf0.size hb.size))⟩
       | some q =>
        obtain ⟨y,k⟩:=q
        obtain ⟨hk1,hk2,hks⟩:=zbo hy
        have hsum : (d ++ y).size <= (9 * n + 9) * (k - j):=by
         rw [ByteArray.size_append]
         have e1:=zcj (C:=9 * n + 9) (show j <= b + 3 by omega) (show b + 3 <= k by omega)
         have e2:=zdm (C:=9 * n + 9) (show b - j <= b + 3 - j by omega)
         have:=hd.out
         omega
        have hys:=zcr hks hn (by omega)
        have HS : Hid ((d ++ y).size <= (9 * n + 9) * (k - j)):=hsum
        have hr' : Hid (R = zax (enc true t n) t (fs.drop (x + 1)) (if x + 1 = 0 then 123 else 44) k (d ++ y)):=by show _ = _;rw [hR.out,if_pos ⟨h1,h2,h3⟩,hy,if_neg (by omega)]
        have hcall:=fun w => IL.yes w hp hpn (show b + 3 <= t.size by omega) hy
        clear h1 h2 h3 hy hks hsum hR hrow hown
        go_wp2_with (first | (go_at_call 93;refine (zam (zah _ _ _ _ (by omega) _hs)).mono ?_;rintro e _ ⟨rfl,rfl⟩) | (go_at_call 115;refine (hcall _).mono ?_;rintro e w1 ⟨rfl,hb1⟩))
        go_roundw
        case rel => exact ⟨x + 1,k,d ++ y,by omega,by omega,by omega,by go_num,rfl,rfl,hr',HS,hb.trans (hb1.mono hb.size)⟩
        case measure => simp [intOf];omega
      ·have h3' : atB t ((b : Int) + 2) 58 = false:=zbb rfl h3
       have hr' : Hid (R = none):=by show _ = _;rw [hR.out,if_neg (fun h => h3 h.2.2)]
       clear h1 h2 h3 hR hrow hown
       go_wp2_with (first | (go_at_call 93;refine (zam (zah _ _ _ _ (by omega) _hs)).mono ?_;rintro e _ ⟨rfl,rfl⟩))
       go_ret2
       rw [hr'.out]
       exact ⟨rfl,hbf0.trans (hb.mono hbf0.size)⟩
     ·have h2' : atB t ((b : Int) + 1) f.1 = false:=zbb rfl h2
      have hr' : Hid (R = none):=by show _ = _;rw [hR.out,if_neg (fun h => h2 h.2.1)]
      clear h1 h2 hR hrow hown
      go_wp2_with (first | (go_at_call 93;refine (zam (zah _ _ _ _ (by omega) _hs)).mono ?_;rintro e _ ⟨rfl,rfl⟩))
      go_ret2
      rw [hr'.out]
      exact ⟨rfl,hbf0.trans (hb.mono hbf0.size)⟩
    ·have h1' : atB t b 123 = false:=zbb rfl h1
     have hr' : Hid (R = none):=by show _ = _;rw [hR.out,if_neg (fun h => h1 h.1)]
     clear h1 hR hrow hown
     go_wp2_with (first | (go_at_call 93;refine (zam (zah _ _ _ _ (by omega) _hs)).mono ?_;rintro e _ ⟨rfl,rfl⟩))
     go_ret2
     rw [hr'.out]
     exact ⟨rfl,hbf0.trans (hb.mono hbf0.size)⟩
   ·have hx' : ((x : Int) == 0) = false:=by simp;omega
    rw [if_neg hx1] at hR
    clear hx1
    by_cases h1 : bAt t b = 44
    ·have h1' : atB t b 44 = true:=zbe rfl h1
     by_cases h2 : bAt t (b + 1) = f.1
     ·have h2' : atB t ((b : Int) + 1) f.1 = true:=zbe rfl h2
      by_cases h3 : bAt t (b + 2) = 58
      ·have h3' : atB t ((b : Int) + 2) 58 = true:=zbe rfl h3
       have hb3 : b + 2 < t.size:=zar (by omega)
       cases hy : enc true t n f.2.1 (b + 3) with
       | none =>
        have hr' : Hid (R = none):=by show _ = _;rw [hR.out,if_pos ⟨h1,h2,h3⟩,hy]
        have hcall:=fun w => IL.no w hp hpn (show b + 3 <= t.size by omega) hy
        clear h1 h2 h3 hy hR hrow hown
        go_wp2_with (first | (go_at_call 93;refine (zam (zah _ _ _ _ (by omega) _hs)).mono ?_;rintro e _ ⟨rfl,rfl⟩) | (go_at_call 115;refine (hcall _).mono ?_;rintro e w1 ⟨d',hd',rfl,hb1⟩))
        go_ret2
        rw [hr'.out]
        exact ⟨rfl,(hbf0.trans (hb.mono hbf0.size)).trans (hb1.mono (Nat.le_trans hbf0.size hb.size))⟩
       | some q =>
        obtain ⟨y,k⟩:=q
        obtain ⟨hk1,hk2,hks⟩:=zbo hy
        have hsum : (d ++ y).size <= (9 * n + 9) * (k - j):=by
         rw [ByteArray.size_append]
         have e1:=zcj (C:=9 * n + 9) (show j <= b + 3 by omega) (show b + 3 <= k by omega)
         have e2:=zdm (C:=9 * n + 9) (show b - j <= b + 3 - j by omega)
         have:=hd.out
         omega
        have hys:=zcr hks hn (by omega)
        have HS : Hid ((d ++ y).size <= (9 * n + 9) * (k - j)):=hsum
        have hr' : Hid (R = zax (enc true t n) t (fs.drop (x + 1)) (if x + 1 = 0 then 123 else 44) k (d ++ y)):=by show _ = _;rw [hR.out,if_pos ⟨h1,h2,h3⟩,hy,if_neg (by omega)]
        have hcall:=fun w => IL.yes w hp hpn (show b + 3 <= t.size by omega) hy
        clear h1 h2 h3 hy hks hsum hR hrow hown
        go_wp2_with (first | (go_at_call 93;refine (zam (zah _ _ _ _ (by omega) _hs)).mono ?_;rintro e _ ⟨rfl,rfl⟩) | (go_at_call 115;refine (hcall _).mono ?_;rintro e w1 ⟨rfl,hb1⟩))
        go_roundw
        case rel => exact ⟨x + 1,k,d ++ y,by omega,by omega,by omega,by go_num,rfl,rfl,hr',HS,hb.trans (hb1.mono hb.size)⟩
        case measure => simp [intOf];omega
      ·have h3' : atB t ((b : Int) + 2) 58 = false:=zbb rfl h3
       have hr' : Hid (R = none):=by show _ = _;rw [hR.out,if_neg (fun h => h3 h.2.2)]
       clear h1 h2 h3 hR hrow hown
       go_wp2_with (first | (go_at_call 93;refine (zam (zah _ _ _ _ (by omega) _hs)).mono ?_;rintro e _ ⟨rfl,rfl⟩))
       go_ret2
       rw [hr'.out]
       exact ⟨rfl,hbf0.trans (hb.mono hbf0.size)⟩
     ·have h2' : atB t ((b : Int) + 1) f.1 = false:=zbb rfl h2
      have hr' : Hid (R = none):=by show _ = _;rw [hR.out,if_neg (fun h => h2 h.2.1)]
      clear h1 h2 hR hrow hown
      go_wp2_with (first | (go_at_call 93;refine (zam (zah _ _ _ _ (by omega) _hs)).mono ?_;rintro e _ ⟨rfl,rfl⟩))
      go_ret2
      rw [hr'.out]
      exact ⟨rfl,hbf0.trans (hb.mono hbf0.size)⟩
    ·have h1' : atB t b 44 = false:=zbb rfl h1
     have hr' : Hid (R = none):=by show _ = _;rw [hR.out,if_neg (fun h => h1 h.1)]
     clear h1 hR hrow hown
     go_wp2_with (first | (go_at_call 93;refine (zam (zah _ _ _ _ (by omega) _hs)).mono ?_;rintro e _ ⟨rfl,rfl⟩))
     go_ret2
     rw [hr'.out]
     exact ⟨rfl,hbf0.trans (hb.mono hbf0.size)⟩
  ·have hnil : fs.drop x = []:=List.drop_of_length_le (by omega)
   rw [hnil,zax] at hR
   have hlen : ((fs.length : Int) == 0) = false:=by rw [beq_eq_false_iff_ne];omega
   clear hrow hown
   by_cases h5 : bAt t b = 125
   ·have h5' : atB t b 125 = true:=zbe rfl h5
    have hr' : Hid (R = some (d,b + 1)):=by show _ = _;rw [hR.out,if_pos h5]
    clear h5 hR
    go_wp2_with (first | (go_at_call 93;refine (zam (zah _ _ _ _ (by omega) _hs)).mono ?_;rintro e _ ⟨rfl,rfl⟩))
    go_ret2
    rw [hr'.out]
    exact ⟨rfl,hbf0.trans (hb.mono hbf0.size)⟩
   ·have h5' : atB t b 125 = false:=zbb rfl h5
    have hr' : Hid (R = none):=by show _ = _;rw [hR.out,if_neg h5]
    clear h5 hR
    go_wp2_with (first | (go_at_call 93;refine (zam (zah _ _ _ _ (by omega) _hs)).mono ?_;rintro e _ ⟨rfl,rfl⟩))
    go_ret2
    rw [hr'.out]
    exact ⟨rfl,hbf0.trans (hb.mono hbf0.size)⟩
end
end Go.Proofs.YtkkekopomiehlaaGreat
