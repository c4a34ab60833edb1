import Derived.Test.YtkkekopomiehlaaGreatCRef5
import Derived.Test.YtkkekopomiehlaaGreatCEq2
set_option linter.unusedVariables false
set_option linter.unusedSimpArgs false
set_option maxHeartbeats 40000000
namespace Go.Proofs.YtkkekopomiehlaaGreat
section
theorem yaai (l : ByteArray) : tw l = true ↔ ∃ i j,j < i /\ i < l.size /\ bAt l i = bAt l j:=by
 constructor
 ·intro h
  rcases Classical.em (∃ i j,j < i /\ i < l.size /\ bAt l i = bAt l j) with h1 | h1
  ·exact h1
  ·rw [zlw (fun i j hj hi e => h1 ⟨i,j,hj,hi,e⟩)] at h;cases h
 ·rintro ⟨i,j,h1,h2,h3⟩;exact zi7 h1 h2 h3
theorem zhl (fs : List (Nat × Ty × ByteArray)) (h : ∀ f ∈ fs,f.1 < 256) (i : Nat) (hi : i < fs.length) : bAt (zb2 fs) i = fs[i].1:=by
 have hs:=zdy fs
 rw [za1 _ _ (by omega)]
 have h1:=h fs[i] (List.getElem_mem hi)
 have e : (zb2 fs)[i]'(by omega) = fs[i].1.toUInt8:=by
  show (zb2 fs).data[i]'_ = _
  simp [zb2]
 rw [e]
 simp [Nat.toUInt8,UInt8.toNat_ofNat']
 omega
def Dup (fs : List (Nat × Ty × ByteArray)) : Prop:=∃ i j,∃ (h1 : j < i) (h2 : i < fs.length),(fs[i]).1 = (fs[j]'(by omega)).1
theorem zrq (fs : List (Nat × Ty × ByteArray)) (h : ∀ f ∈ fs,f.1 < 256) : tw (zb2 fs) = true ↔ Dup fs:=by
 rw [yaai,zdy]
 constructor
 ·rintro ⟨i,j,h1,h2,h3⟩
  rw [zhl fs h i h2,zhl fs h j (by omega)] at h3
  exact ⟨i,j,h1,h2,by omega⟩
 ·rintro ⟨i,j,h1,h2,h3⟩
  refine ⟨i,j,h1,h2,?_⟩
  rw [zhl fs h i h2,zhl fs h j (by omega),h3]
theorem Dup.more {fs gs : List (Nat × Ty × ByteArray)} (h : Dup fs) : Dup (fs ++ gs):=by
 obtain ⟨i,j,h1,h2,h3⟩:=h
 refine ⟨i,j,h1,by simp;omega,?_⟩
 rw [List.getElem_append_left h2,List.getElem_append_left (by omega)];exact h3
theorem Dup.has {acc : List (Nat × Ty × ByteArray)} {f : Nat × Ty × ByteArray} (h : hasL acc f.1 = true) : Dup (acc ++ [f]):=by
 unfold hasL at h
 rw [List.any_eq_true] at h
 obtain ⟨g,hg,he⟩:=h
 obtain ⟨j,hj,rfl⟩:=List.getElem_of_mem hg
 refine ⟨acc.length,j,hj,by simp,?_⟩
 rw [List.getElem_append_left hj]
 simp at he ⊢
 exact he.symm
theorem Dup.not {acc : List (Nat × Ty × ByteArray)} {f : Nat × Ty × ByteArray} (h : ¬ Dup acc) (hh : hasL acc f.1 = false) : ¬ Dup (acc ++ [f]):=by
 rintro ⟨i,j,h1,h2,h3⟩
 simp at h2
 by_cases hi : i < acc.length
 ·rw [List.getElem_append_left hi,List.getElem_append_left (by omega)] at h3
  exact h ⟨i,j,h1,hi,h3⟩
 ·obtain rfl : i = acc.length:=by omega
  rw [List.getElem_append_left h1] at h3
  simp at h3
  have:=zuw acc f.1 j acc[j] (List.getElem?_eq_getElem h1) h3.symm
  rw [this] at hh;cases hh
theorem zo9 {pf : Nat -> Option ((Nat × Ty × ByteArray) × Nat)} {s : ByteArray} (hp : ∀ a f k,pf a = some (f,k) -> f.1 < 256) : ∀ {m a k : Nat} {acc fs : List (Nat × Ty × ByteArray)},(∀ f ∈ acc,f.1 < 256) -> zby pf s m a acc = some (fs,k) -> (∃ gs,fs = acc ++ gs) /\ ∀ f ∈ fs,f.1 < 256
 | 0,a,k,acc,fs,_,h => by simp [zby] at h
 | m + 1,a,k,acc,fs,ha,h => by
  rw [zby] at h
  split at h
  ·cases h
  ·rename_i f k' hx
   have h256:=hp _ _ _ hx
   have ha' : ∀ g ∈ acc ++ [f],g.1 < 256:=fun g hg => by
    simp at hg;rcases hg with hg | rfl
    ·exact ha g hg
    ·exact h256
   split at h
   ·obtain ⟨⟨gs,rfl⟩,h2⟩:=zo9 hp ha' h
    exact ⟨⟨f :: gs,by simp⟩,h2⟩
   ·simp only [Option.some.injEq,Prod.mk.injEq] at h
    obtain ⟨rfl,rfl⟩:=h
    exact ⟨⟨[f],rfl⟩,ha'⟩
theorem zn0 {s : ByteArray} {fs : List (Nat × Ty × ByteArray)} {k : Nat} (h : ∀ f ∈ fs,f.1 < 256) (hd : Dup fs) : fin s (some (fs,k)) = none:=by
 show (if _ then _ else _) = _
 rw [if_pos (.inl ((zrq fs h).mpr hd))]
theorem zpa {pf : Nat -> Option ((Nat × Ty × ByteArray) × Nat)} {s : ByteArray} (hp : ∀ a f k,pf a = some (f,k) -> f.1 < 256) : ∀ {m a : Nat} {acc : List (Nat × Ty × ByteArray)},(∀ f ∈ acc,f.1 < 256) -> ¬ Dup acc -> zaz pf s m a acc = fin s (zby pf s m a acc)
 | 0,a,acc,_,_ => rfl
 | m + 1,a,acc,ha,hnd => by
  rw [zaz,zby]
  rcases hx : pf a with _ | ⟨f,k⟩
  ·rfl
  ·have h256:=hp _ _ _ hx
   have ha' : ∀ g ∈ acc ++ [f],g.1 < 256:=fun g hg => by
    simp at hg;rcases hg with hg | rfl
    ·exact ha g hg
    ·exact h256
   simp only
   cases hh : hasL acc f.1 with
   | true =>
    rw [if_pos (show (acc.any fun g => g.1 == f.1) = true from hh)]
    have hd:=Dup.has hh
    split
    ·rcases hy : zby pf s m (k + 1) (acc ++ [f]) with _ | ⟨fs,k'⟩
     ·rfl
     ·obtain ⟨⟨gs,rfl⟩,h2⟩:=zo9 hp ha' hy
      exact (zn0 h2 hd.more).symm
    ·exact (zn0 ha' hd).symm
   | false =>
    rw [if_neg (by rw [show (acc.any fun g => g.1 == f.1) = false from hh];simp)]
    have hd:=Dup.not hnd hh
    by_cases h5 : bAt s k = 125
    ·rw [if_pos h5,if_neg (by omega)]
     show _ = (if _ then _ else _)
     rw [if_neg]
     rintro (h | h)
     ·exact hd ((zrq _ ha').mp h)
     ·exact h h5
    ·rw [if_neg h5]
     by_cases h4 : bAt s k = 44
     ·rw [if_pos h4,if_pos h4]
      exact zpa hp ha' hd
     ·rw [if_neg h4,if_neg h4]
      show _ = (if _ then _ else _)
      rw [if_pos (.inr h5)]
theorem zk4 {pt : Nat -> Option (Ty × Nat)} {ef : Ty -> Nat -> Option (ByteArray × Nat)} {s : ByteArray} {i k : Nat} {f : Nat × Ty × ByteArray} (h : zaj pt ef s i = some (f,k)) : f.1 < 256:=by
 unfold zaj at h
 have:=zep s i
 split at h
 ·split at h
  ·cases h
  ·split at h
   ·split at h
    ·cases h
    ·simp only [Option.some.injEq,Prod.mk.injEq] at h
     rw [<- h.1];show (bAt s i).toNat < 256;omega
   ·simp only [Option.some.injEq,Prod.mk.injEq] at h
    rw [<- h.1];show (bAt s i).toNat < 256;omega
 ·cases h
theorem zuk (pt : Nat -> Option (Ty × Nat)) (ef : Ty -> Nat -> Option (ByteArray × Nat)) (s : ByteArray) (m a : Nat) : zaz (zaj pt ef s) s m a [] = fin s (zby (zaj pt ef s) s m a []) :=
 zpa (fun a f k h => zk4 h) (fun f hf => by simp at hf) (by rintro ⟨i,j,h1,h2,h3⟩;simp at h2)
end
section
theorem zph (l : ByteArray) (c : Int) : ∀ m k,(∀ i,k <= i -> i < k + m -> bAt l i ≠ c) -> za6 l c m k = -1
 | 0,k,_ => rfl
 | m + 1,k,h => by rw [za6,if_neg (h k (by omega) (by omega))];exact zph l c m (k + 1) (fun i h1 h2 => h i (by omega) (by omega))
theorem zpi (l : ByteArray) (c : Int) : ∀ m k i,k <= i -> i < k + m -> bAt l i = c -> 0 <= za6 l c m k
 | 0,k,i,h1,h2,_ => by omega
 | m + 1,k,i,h1,h2,h3 => by
  rw [za6];split
  ·omega
  ·rename_i h
   by_cases e : i = k
   ·subst e;exact absurd h3 h
   ·exact zpi l c m (k + 1) i (by omega) (by omega) h3
theorem zwz (s : ByteArray) (a e : Nat) (h1 : a <= e) (h2 : e <= s.size) (c : Int) (h : ∀ i,a <= i -> i < e -> bAt s i ≠ c) : pOf (s.extract a e) c < 0:=by
 have hs:=size_extract s a e h1 h2
 unfold pOf
 rw [zph _ _ _ _ (fun i _ hi => by rw [zbs s a e i (by omega) h2];exact h _ (by omega) (by omega))]
 omega
theorem zw0 (s : ByteArray) (a e i : Nat) (h2 : e <= s.size) (c : Int) (h3 : a <= i) (h4 : i < e) (h : bAt s i = c) : 0 <= pOf (s.extract a e) c:=by
 have hs:=size_extract s a e (by omega) h2
 exact zpi _ _ _ _ (i - a) (by omega) (by omega) (by rw [zbs s a e (i - a) (by omega) h2,show a + (i - a) = i by omega];exact h)
theorem zog (s : ByteArray) (a : Nat) : ∀ (m e : Nat),a <= e -> e + m <= s.size -> (∀ i,a <= i -> i < e -> isL (bAt s i) = true) -> (∀ i j,a <= j -> j < i -> i < e -> bAt s i ≠ bAt s j) ->
  (∀ i,a <= i -> i < lEnd s a m e -> isL (bAt s i) = true) /\ (∀ i j,a <= j -> j < i -> i < lEnd s a m e -> bAt s i ≠ bAt s j) /\ (lEnd s a m e = e + m \/ isL (bAt s (lEnd s a m e)) = false \/ ∃ j,a <= j /\ j < lEnd s a m e /\ bAt s (lEnd s a m e) = bAt s j)
 | 0,e,h1,h2,h3,h4 => ⟨h3,h4,.inl rfl⟩
 | m + 1,e,h1,h2,h3,h4 => by
  rw [lEnd]
  by_cases h : isL (bAt s e) = true /\ pOf (s.extract a e) (bAt s e) < 0
  ·rw [if_pos h]
   have ih:=zog s a m (e + 1) (by omega) (by omega) (fun i i1 i2 => by
    by_cases x : i = e
    ·subst x;exact h.1
    ·exact h3 i i1 (by omega)) (fun i j j1 j2 i2 => by
    by_cases x : i = e
    ·subst x;intro hh
     have:=zw0 s a i j (by omega) (bAt s i) j1 j2 hh.symm
     omega
    ·exact h4 i j j1 j2 (by omega))
   refine ⟨ih.1,ih.2.1,?_⟩
   rcases ih.2.2 with h5 | h5
   ·left;omega
   ·exact .inr h5
  ·rw [if_neg h]
   refine ⟨h3,h4,.inr ?_⟩
   cases hl : isL (bAt s e) with
   | false => exact .inl rfl
   | true =>
    right
    rcases Classical.em (∃ j,a <= j /\ j < e /\ bAt s e = bAt s j) with h5 | h5
    ·exact h5
    ·exfalso;apply h
     exact ⟨hl,zwz s a e h1 (by omega) _ (fun i i1 i2 hh => h5 ⟨i,i1,i2,hh.symm⟩)⟩
def zcw (s : ByteArray) (a : Nat) : Option (Ty × Nat) :=
 let E:=zap isL s (s.size - a) a
 if E - a < 1 \/ 8 < E - a \/ tw (s.extract a E) = true then none
 else if bAt s E = 43 then (if bAt s (E + 1) = 62 then some (⟨60,s.extract a E,true,[],[]⟩,E + 2) else none)
 else if bAt s E = 62 then some (⟨60,s.extract a E,false,[],[]⟩,E + 1) else none
theorem zkd {b : Int} (h : isL b = true) : 97 <= b /\ b <= 122:=by simpa [isL] using h
theorem zfj (s : ByteArray) (a : Nat) (ha : a <= s.size) : zb8 s a = zcw s a:=by
 unfold zb8 zcw
 simp only
 obtain ⟨E,hE⟩ : ∃ E,E = zap isL s (s.size - a) a:=⟨_,rfl⟩
 obtain ⟨X,hX⟩ : ∃ X,X = lEnd s a (s.size - a) a:=⟨_,rfl⟩
 have hsp:=zog s a (s.size - a) a (Nat.le_refl _) (by omega) (fun i h1 h2 => by omega) (fun i j h1 h2 h3 => by omega)
 have hXl:=zh4 s a (s.size - a) a
 have hEl:=zce isL s (s.size - a) a
 rw [<- hX] at hsp hXl ⊢
 rw [<- hE] at hEl ⊢
 have hall : ∀ i,a <= i -> i < E -> isL (bAt s i) = true:=fun i h1 h2 => zef isL s (s.size - a) a i h1 (by rw [<- hE];exact h2)
 have hnot : isL (bAt s E) = false:=by rw [hE];exact zg2 isL s rfl _ _ (by omega)
 obtain ⟨s1,s2,s3⟩:=hsp
 have hXE : X <= E:=by
  rcases Nat.lt_or_ge E X with h | h
  ·rw [s1 E (by omega) h] at hnot;cases hnot
  ·exact h
 have hsz:=size_extract s a E (by omega) (by omega)
 by_cases hlt : X < E
 ·have hlet:=zkd (hall X (by omega) hlt)
  have htw : tw (s.extract a E) = true:=by
   rcases s3 with h | h | ⟨j,j1,j2,j3⟩
   ·omega
   ·rw [hall X (by omega) hlt] at h;cases h
   ·refine zi7 (i:=X - a) (j:=j - a) (by omega) (by omega) ?_
    rw [zbs s a E (X - a) (by omega) (by omega),zbs s a E (j - a) (by omega) (by omega),show a + (X - a) = X by omega,show a + (j - a) = j by omega]
    exact j3
  rw [if_pos (show E - a < 1 \/ 8 < E - a \/ tw (s.extract a E) = true from .inr (.inr htw))]
  split
  ·rfl
  ·rw [if_neg (by omega),if_neg (by omega)]
 ·obtain rfl : X = E:=by omega
  have htw : tw (s.extract a X) = false:=zlw (fun i j h1 h2 h3 => by
   rw [zbs s a X i (by omega) (by omega),zbs s a X j (by omega) (by omega)] at h3
   exact s2 (a + i) (a + j) (by omega) (by omega) (by omega) h3)
  simp only [htw,Bool.false_eq_true,or_false]
theorem zpk {st : Bool} {s : ByteArray} {n i k : Nat} {t : Ty} (h : zac st s n i = some (t,k)) : (t.kind = 63 ↔ bAt s i = 63):=by
 cases n with
 | zero => simp [zac] at h
 | succ n =>
  rw [zac] at h
  have two : ∀ {c : Nat},some (zbl c,i + 1) = some (t,k) -> t.kind = c:=fun h => by
   simp only [Option.some.injEq,Prod.mk.injEq] at h;rw [<- h.1];rfl
  split at h
  ·have:=two h;omega
  ·split at h
   ·have:=two h;omega
   ·split at h
    ·have:=two h;omega
    ·split at h
     ·unfold zb8 at h
      simp only at h
      split at h
      ·cases h
      ·split at h
       iterate 2
        ·split at h
         ·simp only [Option.some.injEq,Prod.mk.injEq] at h;rw [<- h.1];simp;omega
         ·cases h
     ·split at h
      ·unfold zbt at h
       split at h
       ·cases h
       ·split at h
        ·simp only [Option.some.injEq,Prod.mk.injEq] at h;rw [<- h.1];simp;omega
        ·cases h
      ·split at h
       ·unfold zbq at h
        split at h
        ·cases h
        ·split at h
         ·cases h
         ·simp only [Option.some.injEq,Prod.mk.injEq] at h;rw [<- h.1];simp;omega
       ·split at h
        ·unfold pRec at h
         split at h
         ·cases h
         ·simp only [Option.some.injEq,Prod.mk.injEq] at h;rw [<- h.1];simp;omega
        ·cases h
end
section
open Go.RowKit
abbrev Fld:=Nat × Ty × ByteArray
def zff (v : Val) : ByteArray:=if v.tag = 0 then decI v.n else if v.tag = 1 then quo ++ v.s ++ quo else ByteArray.empty
def zba (a b : Nat) : Bool:=(a == 105 && (b == 105 || b == 108)) || ((a == 108 || a == 115) && b == a)
def zbv (f : Val -> Option ByteArray) : List Val -> Nat -> ByteArray -> Option ByteArray
 | [],_,t => some (t ++ ⟨#[93]⟩)
 | v :: vs,k,t =>
  match f v with
  | none => none
  | some x => zbv f vs (k + 1) ((if 0 < k then t ++ ⟨#[44]⟩ else t) ++ x)
def zbi (f : Ty -> Ty -> Val -> Option ByteArray) (ps : List (Fld × Val)) (g : Fld) : Option ByteArray :=
 match ps.find? (fun p => p.1.1 == g.1) with
 | none => if g.2.2.size = 0 then none else some g.2.2
 | some p => f p.1.2.1 g.2.1 p.2
def zbu (f : Fld -> Option ByteArray) : List Fld -> ByteArray -> ByteArray -> Option ByteArray
 | [],_,t => some (t ++ ⟨#[125]⟩)
 | g :: gs,mk,t =>
  match f g with
  | none => none
  | some x => zbu f gs ⟨#[44]⟩ (t ++ (((mk ++ oneB g.1) ++ ⟨#[58]⟩) ++ x))
def zd0 (wl rl : ByteArray) (op : Bool) (i : Nat) : Option ByteArray :=
 if pOf rl (bAt wl i) < 0 then (if op = true then some (rl.extract 0 1) else none) else some (oneB (bAt wl i).toNat)
def za0 (f : Ty -> Ty -> Val -> Option ByteArray) (w r : Ty) (v : Val) : Option ByteArray :=
 if w.kind = 63 then (if v.tag = 4 then (if r.kind = 63 then some ⟨#[95]⟩ else none) else if v.tag = 5 then f w.in r v.hd else none)
 else if r.kind = 63 then f w r.in v
 else if zba w.kind r.kind = true then some (zff v)
 else if w.kind ≠ r.kind then none
 else if v.tag = 2 then zd0 w.letters r.letters r.op v.n.toNat
 else if v.tag = 3 then zbv (f w.in r.in) v.vs 0 ⟨#[91]⟩
 else if v.tag = 6 then zbu (zbi f (w.fields.zip v.vs)) r.fields ⟨#[123]⟩ ByteArray.empty
 else none
def rdT : Nat -> Ty -> Ty -> Val -> Option ByteArray
 | 0,_,_,_ => none
 | m + 1,w,r,v => za0 (rdT m) w r v
def wt : Nat -> Ty -> Nat
 | 0,_ => 0
 | n + 1,ty => 70 + (ty.inner.map (wt n)).sum + (ty.fields.map fun f => wt n f.2.1 + f.2.2.size + 4).sum
theorem ziz {α : Type} (f g : α -> Nat) : ∀ (l : List α),(∀ x ∈ l,f x <= g x) -> (l.map f).sum <= (l.map g).sum
 | [],_ => by simp
 | x :: l,h => by
  have h1:=h x (by simp)
  have h2:=ziz f g l (fun y hy => h y (by simp [hy]))
  simp;omega
theorem zhc : ∀ (n : Nat) (ty : Ty),wt n ty <= wt (n + 1) ty
 | 0,ty => by simp [wt]
 | n + 1,ty => by
  rw [wt,wt]
  have h1:=ziz (wt n) (wt (n + 1)) ty.inner (fun t _ => zhc n t)
  have h2:=ziz (fun f : Nat × Ty × ByteArray => wt n f.2.1 + f.2.2.size + 4) (fun f => wt (n + 1) f.2.1 + f.2.2.size + 4) ty.fields (fun f _ => by have:=zhc n f.2.1;omega)
  omega
theorem zem (n : Nat) (ty : Ty) : 70 <= wt (n + 1) ty:=by rw [wt];omega
theorem ztp (m : Nat) (u : Nat) : 1 <= (codU m ByteArray.empty u).size:=by
 cases m with
 | zero => simp [codU,zai]
 | succ m =>
  by_cases h : 128 <= u
  ·rw [zms h,ByteArray.size_append,zai];omega
  ·rw [zjx (by omega),zai];omega
theorem zfc : ∀ (n : Nat) (ty : Ty) (v : Val),okV n ty v -> 1 <= (datV n v).size
 | 0,ty,v,h => h.elim
 | n + 1,ty,v,h => by
  rcases h with ⟨x,rfl,h⟩ | ⟨s,rfl,h⟩ | ⟨i,rfl,h⟩ | ⟨vs,rfl,h⟩ | ⟨rfl,h⟩ | ⟨v,rfl,h⟩ | ⟨vs,rfl,h⟩
  ·rw [zgf];exact ztp _ _
  ·rw [zgh,ByteArray.size_append,zai];omega
  ·rw [zes,zai];omega
  ·rw [zdc,ByteArray.size_append,zai];omega
  ·rw [zet,zai];omega
  ·rw [zgg,ByteArray.size_append,zai];omega
  ·obtain ⟨_,h1,h2,h3⟩:=h
   rw [zdd]
   rcases hf : ty.fields with _ | ⟨g,fs⟩
   ·exact absurd hf h1
   ·rcases vs with _ | ⟨v,vs⟩
    ·rw [hf] at h2;simp at h2
    ·rw [hf] at h3
     have:=zfc n g.2.1 v (h3 (g,v) (by simp))
     simp only [List.map_cons,catB,ByteArray.size_append];omega
theorem zp9 {f : Val -> Option ByteArray} {dv : Val -> ByteArray} {W : Nat} : ∀ (vs : List Val) (k : Nat) (t x : ByteArray),(∀ v ∈ vs,1 <= (dv v).size /\ ∀ y,f v = some y -> y.size <= W * (dv v).size) -> zbv f vs k t = some x ->
  x.size <= t.size + 1 + (W + 1) * (catB (vs.map dv)).size
 | [],k,t,x,hf,h => by
  simp only [zbv,Option.some.injEq] at h
  rw [<- h,ByteArray.size_append,zb3];omega
 | v :: vs,k,t,x,hf,h => by
  rw [zbv] at h
  split at h
  ·cases h
  ·rename_i y hy
   have h1:=zp9 vs (k + 1) _ x (fun v hv => hf v (by simp [hv])) h
   have h2:=hf v (by simp)
   have h3:=h2.2 y hy
   have hs : ((if 0 < k then t ++ ⟨#[44]⟩ else t) ++ y).size <= t.size + 1 + y.size:=by
    rw [ByteArray.size_append];split
    ·rw [ByteArray.size_append,zb3];omega
    ·omega
   simp only [List.map_cons,catB,ByteArray.size_append]
   rw [Nat.mul_add,Nat.add_mul W 1 (dv v).size]
   omega
theorem zp7 {f : Fld -> Option ByteArray} {c : Fld -> Nat} : ∀ (gs : List Fld) (mk t x : ByteArray),mk.size = 1 -> (∀ g ∈ gs,∀ y,f g = some y -> y.size + 3 <= c g) -> zbu f gs mk t = some x ->
  x.size <= t.size + 1 + (gs.map c).sum
 | [],mk,t,x,hm,hf,h => by
  simp only [zbu,Option.some.injEq] at h
  rw [<- h,ByteArray.size_append,zb3];simp
 | g :: gs,mk,t,x,hm,hf,h => by
  rw [zbu] at h
  split at h
  ·cases h
  ·rename_i y hy
   have h1:=zp7 gs _ _ x (zb3 44) (fun g hg => hf g (by simp [hg])) h
   have h2:=hf g (by simp) y hy
   simp only [ByteArray.size_append,zb3,zai,hm] at h1
   simp;omega
theorem zkk {α : Type} (f : α -> Nat) (c : Nat) : ∀ (l : List α),(l.map fun x => f x * c).sum = (l.map f).sum * c
 | [] => by simp
 | x :: l => by simp [zkk f c l,Nat.add_mul]
theorem zjr {x : ByteArray} : ∀ {l : List ByteArray},x ∈ l -> x.size <= (catB l).size
 | y :: l,h => by
  rw [catB,ByteArray.size_append]
  rcases List.mem_cons.1 h with rfl | h
  ·omega
  ·have:=zjr h;omega
theorem zj6 {l : List (Fld × Val)} {q : Fld × Val -> Bool} {p : Fld × Val} (h : l.find? q = some p) : p ∈ l:=List.mem_of_find?_eq_some h
theorem zwl {n : Nat} {ty : Ty} {v : Val} (h : okV n ty v) : ty.kind ≠ 0:=by
 cases n with
 | zero => exact h.elim
 | succ n =>
  rcases h with ⟨x,rfl,h⟩ | ⟨s,rfl,h⟩ | ⟨i,rfl,h⟩ | ⟨vs,rfl,h⟩ | ⟨rfl,h⟩ | ⟨v,rfl,h⟩ | ⟨vs,rfl,h⟩ <;> omega
theorem zqb : ∀ (m n : Nat) (w : Ty) (v : Val),okV n w v -> rdT m w (zbl 0) v = none
 | 0,n,w,v,h => rfl
 | m + 1,0,w,v,h => h.elim
 | m + 1,n + 1,w,v,h => by
  have hk:=zwl h
  have h0 : (zbl 0).kind = 0:=rfl
  show za0 _ _ _ _ = _
  unfold za0
  split
  ·rename_i h63
   rcases h with ⟨x,rfl,h⟩ | ⟨s,rfl,h⟩ | ⟨i,rfl,h⟩ | ⟨vs,rfl,h⟩ | ⟨rfl,h⟩ | ⟨v,rfl,h⟩ | ⟨vs,rfl,h⟩
   iterate 5
    ·rfl
   ·exact zqb m n _ _ h.2
   ·rfl
  ·rw [if_neg (by rw [h0];omega),if_neg,if_pos (by rw [h0];exact hk)]
   simp [zba,h0];omega
theorem zoa {m n : Nat} {w r : Ty} {v : Val} {x : ByteArray} (hv : okV n w v) (h : rdT m w r.in v = some x) : wt m r.in + 70 <= wt (m + 1) r:=by
 unfold Ty.in at h ⊢
 rcases hi : r.inner with _ | ⟨t,ts⟩
 ·rw [hi] at h;simp only [List.headD_nil] at h;rw [zqb _ _ _ _ hv] at h;cases h
 ·rw [wt,hi];simp;omega
theorem zfp : ∀ (m n : Nat) (w r : Ty) (v : Val) (x : ByteArray),okV n w v -> rdT m w r v = some x -> x.size <= wt m r * (datV n v).size
 | 0,n,w,r,v,x,hv,h => by simp [rdT] at h
 | m + 1,0,w,r,v,x,hv,h => hv.elim
 | m + 1,n + 1,w,r,v,x,hv,h => by
  have hp:=zfc _ _ _ hv
  have h70 : 70 * (datV (n + 1) v).size <= wt (m + 1) r * (datV (n + 1) v).size:=Nat.mul_le_mul_right _ (zem m r)
  change za0 (rdT m) w r v = some x at h
  unfold za0 at h
  split at h
  ·rename_i hk
   split at h
   ·split at h
    ·cases h;rw [zb3];omega
    ·cases h
   ·split at h
    ·rename_i h4 h5
     rcases hv with ⟨x,rfl,hv⟩ | ⟨s,rfl,hv⟩ | ⟨i,rfl,hv⟩ | ⟨vs,rfl,hv⟩ | ⟨rfl,hv⟩ | ⟨v,rfl,hv⟩ | ⟨vs,rfl,hv⟩
     iterate 5
      ·cases h5
     ·have:=zfp m n w.in r v x hv.2 h
      rw [zgg,ByteArray.size_append,zai]
      have e1:=Nat.mul_le_mul_right (datV n v).size (zhc m r)
      have e2:=Nat.mul_le_mul_left (wt (m + 1) r) (show (datV n v).size <= 1 + (datV n v).size by omega)
      omega
     ·cases h5
    ·cases h
  ·split at h
   ·rename_i hk
    have h1:=zfp m (n + 1) w r.in v x hv h
    have h2:=zoa hv h
    have:=Nat.mul_le_mul_right (datV (n + 1) v).size (show wt m r.in <= wt (m + 1) r by omega)
    omega
   ·split at h
    ·rename_i h63 hs
     cases h
     have e0 : ByteArray.empty.size = 0:=rfl
     unfold zff
     split
     ·have:=zj0 v.n;omega
     ·split
      ·rename_i h1
       rcases hv with ⟨x,rfl,hv⟩ | ⟨s,rfl,hv⟩ | ⟨i,rfl,hv⟩ | ⟨vs,rfl,hv⟩ | ⟨rfl,hv⟩ | ⟨v,rfl,hv⟩ | ⟨vs,rfl,hv⟩
       ·cases h1
       ·rw [ByteArray.size_append,ByteArray.size_append,zdz,show (Val.str s).s = s from rfl];omega
       iterate 5
        ·cases h1
      ·omega
    ·split at h
     ·cases h
     ·split at h
      ·unfold zd0 at h
       split at h
       ·split at h
        ·cases h
         have : (r.letters.extract 0 1).size <= 1:=by rw [ByteArray.size_extract];omega
         omega
        ·cases h
       ·cases h;rw [zai];omega
      ·split at h
       ·rename_i h3
        rcases hv with ⟨x,rfl,hv⟩ | ⟨s,rfl,hv⟩ | ⟨i,rfl,hv⟩ | ⟨vs,rfl,hv⟩ | ⟨rfl,hv⟩ | ⟨v,rfl,hv⟩ | ⟨vs,rfl,hv⟩
        iterate 3
         ·cases h3
        ·rw [show (Val.lst vs).vs = vs from rfl] at h
         rw [zdc] at h70 hp ⊢
         rw [ByteArray.size_append,zai] at h70 hp ⊢
         rcases hvs : vs with _ | ⟨u,us⟩
         ·rw [hvs] at h;simp only [zbv,Option.some.injEq] at h;rw [<- h,ByteArray.size_append,zb3,zb3];rw [hvs] at h70 hp;omega
         ·have hW : ∀ v ∈ vs,1 <= (datV n v).size /\ ∀ y,rdT m w.in r.in v = some y -> y.size <= (wt (m + 1) r - 70) * (datV n v).size:=fun v hv' => by
           refine ⟨zfc _ _ _ (hv.2.2 v hv'),fun y hy => ?_⟩
           have h1:=zfp m n _ _ _ _ (hv.2.2 v hv') hy
           have h2:=zoa (hv.2.2 v hv') hy
           have:=Nat.mul_le_mul_right (datV n v).size (show wt m r.in <= wt (m + 1) r - 70 by omega)
           omega
          have:=zp9 (dv:=datV n) vs 0 _ x hW h
          rw [zb3] at this
          rw [<- hvs]
          have hw:=zem m r
          have e1:=Nat.mul_le_mul_right (catB (vs.map (datV n))).size (show wt (m + 1) r - 70 + 1 <= wt (m + 1) r by omega)
          rw [Nat.mul_add]
          omega
        iterate 3
         ·cases h3
       ·split at h
        ·rename_i h6
         rcases hv with ⟨x,rfl,hv⟩ | ⟨s,rfl,hv⟩ | ⟨i,rfl,hv⟩ | ⟨vs,rfl,hv⟩ | ⟨rfl,hv⟩ | ⟨v,rfl,hv⟩ | ⟨vs,rfl,hv⟩
         iterate 6
          ·cases h6
         ·rw [show (Val.rcd vs).vs = vs from rfl] at h
          rw [zdd] at h70 hp ⊢
          have:=zp7 (c:=fun g => (wt m g.2.1 + g.2.2.size + 4) * (catB (vs.map (datV n))).size) r.fields _ _ x (zb3 123) (fun g hg y hy => by
           have e3 : 4 <= 4 * (catB (vs.map (datV n))).size:=by omega
           rw [Nat.add_mul,Nat.add_mul]
           unfold zbi at hy
           split at hy
           ·split at hy
            ·cases hy
            ·cases hy
             have:=Nat.le_mul_of_pos_right g.2.2.size hp
             omega
           ·rename_i p hp'
            have hm:=zj6 hp'
            have h1:=zfp m n _ _ _ _ (hv.2.2.2 p hm) hy
            have h2:=zjr (l:=vs.map (datV n)) (x:=datV n p.2) (List.mem_map.2 ⟨p.2,(List.of_mem_zip (a:=p.1) (b:=p.2) hm).2,rfl⟩)
            have h3:=Nat.mul_le_mul_left (wt m g.2.1) h2
            omega) h
          have e0 : ByteArray.empty.size = 0:=rfl
          rw [zkk (fun g : Nat × Ty × ByteArray => wt m g.2.1 + g.2.2.size + 4),e0] at this
          have e1 : wt (m + 1) r * (catB (vs.map (datV n))).size = (70 + (r.inner.map (wt m)).sum) * (catB (vs.map (datV n))).size + (r.fields.map fun f => wt m f.2.1 + f.2.2.size + 4).sum * (catB (vs.map (datV n))).size:=by rw [wt,Nat.add_mul]
          rw [e1,Nat.add_mul]
          omega
        ·cases h
end
section
set_option maxRecDepth 4000
open Go.RowKit
theorem beqK (b k : Nat) : ((b : Int) == (k : Int)) = (b == k):=by
 by_cases h : b = k
 ·subst h;simp
 ·rw [show (b == k) = false by simpa using h];simp;omega
theorem zft (a b : Nat) (w : World) :
  Calls Tryz.prog 85 #[.int .i64 a,.int .i64 b] w fun e w' => e = .returned (.bool (zba a b)) /\ w = w':=by
 by_cases h1 : a = 105
 ·subst h1
  by_cases h2 : b = 105
  ·subst h2
   go_enter Tryz.func85,Tryz.ntmps85
   go_wp2_with fail
   go_ret
   exact ⟨rfl,rfl⟩
  ·have h2' : ((b : Int) == 105) = false:=by simp;omega
   have hr : Hid (zba 105 b = ((b : Int) == 108)):=by
    show _ = _;rw [show ((b : Int) == 108) = (b == 108) from beqK b 108];simp [zba,h2]
   clear h2
   go_enter Tryz.func85,Tryz.ntmps85
   go_wp2_with fail
   go_ret
   exact ⟨za9 (by rw [hr.out]),rfl⟩
 ·have h1' : ((a : Int) == 105) = false:=by simp;omega
  by_cases h2 : a = 108
  ·subst h2
   have hr : Hid (zba 108 b = ((b : Int) == 108)):=by
    show _ = _;rw [show ((b : Int) == 108) = (b == 108) from beqK b 108];simp [zba]
   go_enter Tryz.func85,Tryz.ntmps85
   go_wp2_with fail
   go_ret
   exact ⟨za9 (by rw [hr.out]),rfl⟩
  ·have h2' : ((a : Int) == 108) = false:=by simp;omega
   by_cases h3 : a = 115
   ·subst h3
    have hr : Hid (zba 115 b = ((b : Int) == 115)):=by
     show _ = _;rw [show ((b : Int) == 115) = (b == 115) from beqK b 115];simp [zba]
    go_enter Tryz.func85,Tryz.ntmps85
    go_wp2_with fail
    go_ret
    exact ⟨za9 (by rw [hr.out]),rfl⟩
   ·have h3' : ((a : Int) == 115) = false:=by simp;omega
    have hr : Hid (zba a b = false):=by show _ = _;simp [zba,h1,h2,h3]
    clear h1 h2 h3
    go_enter Tryz.func85,Tryz.ntmps85
    go_wp2_with fail
    go_ret
    exact ⟨za9 (by rw [hr.out]),rfl⟩
theorem zz5 (ty : Ty) (ai : Option Addr) (li ci : Nat) (af : Option Addr) (lf cf : Nat) (c : Int) (w : World) (hl : ty.letters.size <= 8) :
  Calls Tryz.prog 110 #[.agg #[.int .i64 ty.kind,.string ty.letters,.bool ty.op,.slice ai li ci,.slice af lf cf],.int .i64 c] w fun e w' => e = .returned (.bool (ty.op || decide (0 <= pOf ty.letters c))) /\ Below w.heap.size w w':=by
 have _hl : ty.letters.size <= 9000000:=by omega
 have hB : ∀ o,Below w.heap.size w (w.alloc o):=fun o => (Below.refl _ _).alloc (Nat.le_refl _) _
 cases hop : ty.op with
 | true =>
  go_enter Tryz.func110,Tryz.ntmps110
  go_wp2_with (go_at_call 126;refine (zfm _ _ _ _hl).mono ?_;rintro e w' ⟨rfl,rfl⟩)
  go_ret
  exact ⟨rfl,by first | exact hB _ | exact Below.refl _ _⟩
 | false =>
  go_enter Tryz.func110,Tryz.ntmps110
  go_wp2_with (go_at_call 126;refine (zfm _ _ _ _hl).mono ?_;rintro e w' ⟨rfl,rfl⟩)
  go_ret
  exact ⟨za9 (by simp),by first | exact hB _ | exact Below.refl _ _⟩
theorem zzp (s : ByteArray) (a b : Nat) (w : World) (h : s.size < b) (_hs : s.size <= 9000000) (hb : b <= 9000000) :
  Calls Tryz.prog 124 #[.string s,.int .i64 a,.int .i64 b] w fun e w' => e = .returned (.string ByteArray.empty) /\ w' = w:=by
 by_cases hab : b < a
 iterate 2
  ·go_enter Tryz.func124,Tryz.ntmps124
   go_wp2_with fail
   go_ret
   exact ⟨rfl,rfl⟩
theorem zum (ty : Ty) (ai : Option Addr) (li ci : Nat) (af : Option Addr) (lf cf : Nat) (w : World) (hl : ty.letters.size <= 8) :
  Calls Tryz.prog 108 #[.agg #[.int .i64 ty.kind,.string ty.letters,.bool ty.op,.slice ai li ci,.slice af lf cf]] w fun e w' => e = .returned (.string (ty.letters.extract 0 1)) /\ Below w.heap.size w w':=by
 have _hl : ty.letters.size <= 9000000:=by omega
 have hB : ∀ o,Below w.heap.size w (w.alloc o):=fun o => (Below.refl _ _).alloc (Nat.le_refl _) _
 have hsp : ∀ w,Calls Tryz.prog 124 #[.string ty.letters,.int .i64 0,.int .i64 1] w fun e w' => e = .returned (.string (ty.letters.extract 0 1)) /\ w' = w:=fun w => by
  by_cases h1 : 1 <= ty.letters.size
  ·exact zdh ty.letters 0 1 w (by omega) h1 _hl
  ·rw [show ty.letters.extract 0 1 = ByteArray.empty from zeq (by rw [ByteArray.size_extract];show _ = 0;omega) (fun i hi => by rw [ByteArray.size_extract] at hi;omega)]
   exact zzp ty.letters 0 1 w (by omega) _hl (by omega)
 go_enter Tryz.func108,Tryz.ntmps108
 go_wp2_with (go_at_call 124;refine (hsp _).mono ?_;rintro e w' ⟨rfl,rfl⟩)
 go_ret
 exact ⟨rfl,by first | exact hB _ | exact Below.refl _ _⟩
end
end Go.Proofs.YtkkekopomiehlaaGreat
