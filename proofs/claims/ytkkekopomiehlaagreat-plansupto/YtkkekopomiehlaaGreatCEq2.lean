import Derived.Test.YtkkekopomiehlaaGreatCRef3
set_option linter.unusedVariables false
set_option linter.unusedSimpArgs false
set_option maxHeartbeats 40000000
namespace Go.Proofs.YtkkekopomiehlaaGreat
section
theorem zds (s : ByteArray) (i : Nat) (h : i < s.size) : bAt s i = (s.data[i]'h).toNat:=by rw [za1 s i h];rfl
theorem ze9 (a b : ByteArray) (i : Nat) (h : i < a.size) : bAt (a ++ b) i = bAt a i:=by
 have h2 : i < (a ++ b).size:=by rw [ByteArray.size_append];omega
 rw [zds _ _ h2,zds _ _ h]
 congr 2
 simp only [ByteArray.data_append]
 exact Array.getElem_append_left h
theorem zeo (a b : ByteArray) (i : Nat) : bAt (a ++ b) (a.size + i) = bAt b i:=by
 by_cases h : i < b.size
 ·have h2 : a.size + i < (a ++ b).size:=by rw [ByteArray.size_append];omega
  rw [zds _ _ h2,zds _ _ h]
  congr 2
  simp only [ByteArray.data_append]
  rw [Array.getElem_append_right (by show a.data.size <= a.size + i;exact Nat.le_add_right _ _)]
  congr 1
  show a.size + i - a.data.size = i
  have : a.data.size = a.size:=rfl
  omega
 ·rw [zci _ _ (by rw [ByteArray.size_append];omega),zci _ _ (by omega)]
theorem zbs (s : ByteArray) (a b i : Nat) (h1 : a + i < b) (h2 : b <= s.size) : bAt (s.extract a b) i = bAt s (a + i):=by
 have hs:=size_extract s a b (by omega) h2
 rw [zds _ _ (by omega),zds s _ (by omega)]
 congr 2
 simp only [ByteArray.data_extract]
 exact Array.getElem_extract _
theorem zeq {a b : ByteArray} (hs : a.size = b.size) (h : ∀ i,i < a.size -> bAt a i = bAt b i) : a = b:=by
 apply ByteArray.ext
 apply Array.ext
 ·exact hs
 ·intro i h1 h2
  have:=h i h1
  rw [zds _ _ h1,zds _ _ h2] at this
  exact UInt8.toNat_inj.mp (by omega)
theorem zdj (n : Nat) (h : n < 256) : bAt (oneB n) 0 = n:=by
 rw [zds _ _ (by rw [zai];omega)]
 simp [oneB,Nat.toUInt8]
 omega
theorem zj3 (m n : Nat) : 1 <= (decS m n).size:=by
 cases m with
 | zero => rw [decS,zai];exact Nat.le_refl _
 | succ m => rw [decS];split <;> simp [ByteArray.size_append,zai]
theorem zj1 : ∀ (m n i : Nat),n < 10 ^ (m + 1) -> i < (decS m n).size -> 48 <= bAt (decS m n) i /\ bAt (decS m n) i <= 57
 | 0,n,i,hn,hi => by
  rw [decS,zai] at hi
  obtain rfl : i = 0:=by omega
  rw [decS,zdj _ (by omega)];omega
 | m + 1,n,i,hn,hi => by
  rw [decS] at hi ⊢
  split at hi
  ·rw [zai] at hi
   obtain rfl : i = 0:=by omega
   rw [if_pos (by assumption),zdj _ (by omega)];omega
  ·rw [if_neg (by assumption)]
   rw [ByteArray.size_append,zai] at hi
   by_cases h : i < (decS m (n / 10)).size
   ·rw [ze9 _ _ _ h]
    exact zj1 m (n / 10) i (by rw [Nat.pow_succ] at hn;omega) h
   ·obtain rfl : i = (decS m (n / 10)).size + 0:=by omega
    rw [zeo,zdj _ (by omega)];omega
theorem zhn : ∀ (k m n : Nat),n < 10 ^ (k + 1) -> (decS m n).size <= k + 1
 | k,0,n,hn => by rw [decS,zai];omega
 | 0,m + 1,n,hn => by rw [decS,if_pos (by simpa using hn),zai];omega
 | k + 1,m + 1,n,hn => by
  rw [decS];split
  ·rw [zai];omega
  ·have:=zhn k m (n / 10) (by rw [Nat.pow_succ] at hn;omega)
   rw [ByteArray.size_append,zai];omega
theorem zj2 : ∀ (m n : Nat),n < 10 ^ (m + 1) -> 10 <= n -> bAt (decS m n) 0 ≠ 48
 | 0,n,hn,h => by simp at hn;omega
 | m + 1,n,hn,h => by
  rw [decS,if_neg (by omega),ze9 _ _ _ (zj3 m (n / 10))]
  by_cases h2 : 10 <= n / 10
  ·exact zj2 m (n / 10) (by rw [Nat.pow_succ] at hn;omega) h2
  ·cases m with
   | zero => rw [decS,zdj _ (by omega)];omega
   | succ m => rw [decS,if_pos (by omega),zdj _ (by omega)];omega
theorem zm6 (m n : Nat) (hn : n < 10 ^ (m + 1)) (h : 2 <= (decS m n).size) : 10 <= n:=by
 rcases Nat.lt_or_ge n 10 with h1 | h1
 ·have:=zhn 0 m n (by simpa using h1);omega
 ·exact h1
theorem zm0 (t : ByteArray) (a : Nat) : ∀ m,(∀ j,j < m -> 48 <= bAt t (a + j)) -> 1 <= m -> 49 <= bAt t a -> 1 <= dVal t a m
 | 0,_,h,_ => by omega
 | 1,_,_,h => by simp [dVal];omega
 | m + 2,hd,_,h => by
  have:=zm0 t a (m + 1) (fun j hj => hd j (by omega)) (by omega) h
  have:=hd (m + 1) (by omega)
  rw [dVal];omega
theorem zho (t : ByteArray) (a : Nat) : ∀ (m M : Nat),(∀ j,j < m + 1 -> 48 <= bAt t (a + j) /\ bAt t (a + j) <= 57) -> (0 < m -> 49 <= bAt t a) -> m <= M -> a + m + 1 <= t.size -> decS M (dVal t a (m + 1)).toNat = t.extract a (a + m + 1)
 | 0,M,hd,h0,hM,hs => by
  have h1:=hd 0 (by omega)
  simp only [Nat.add_zero] at h1
  have hv : dVal t a 1 = bAt t a - 48:=by simp [dVal]
  have e : decS M (dVal t a 1).toNat = oneB (48 + (dVal t a 1).toNat):=by
   cases M with
   | zero => rfl
   | succ M => rw [decS,if_pos (by omega)]
  rw [e]
  have hx:=size_extract t a (a + 0 + 1) (by omega) hs
  apply zeq
  ·rw [zai];omega
  ·intro i hi
   rw [zai] at hi
   obtain rfl : i = 0:=by omega
   rw [zdj _ (by omega),zbs t a _ 0 (by omega) hs]
   simp only [Nat.add_zero];omega
 | m + 1,M,hd,h0,hM,hs => by
  obtain ⟨M',rfl⟩ : ∃ M',M = M' + 1:=⟨M - 1,by omega⟩
  have ih:=zho t a m M' (fun j hj => hd j (by omega)) (fun _ => h0 (by omega)) (by omega) (by omega)
  have h1:=hd (m + 1) (by omega)
  have hp:=zm0 t a (m + 1) (fun j hj => (hd j (by omega)).1) (by omega) (h0 (by omega))
  have hv : dVal t a (m + 1 + 1) = dVal t a (m + 1) * 10 + (bAt t (a + (m + 1)) - 48):=rfl
  have e1 : (dVal t a (m + 1 + 1)).toNat / 10 = (dVal t a (m + 1)).toNat:=by omega
  have e2 : 48 + (dVal t a (m + 1 + 1)).toNat % 10 = (bAt t (a + (m + 1))).toNat:=by omega
  rw [decS,if_neg (by omega),e1,e2,ih]
  have hx:=size_extract t a (a + m + 1) (by omega) (by omega)
  have hy:=size_extract t a (a + (m + 1) + 1) (by omega) (by omega)
  apply zeq
  ·rw [ByteArray.size_append,zai];omega
  ·intro i hi
   rw [ByteArray.size_append,zai] at hi
   rw [zbs t a _ i (by omega) (by omega)]
   by_cases h : i < m + 1
   ·rw [ze9 _ _ _ (by omega),zbs t a _ i (by omega) (by omega)]
   ·obtain rfl : i = (t.extract a (a + m + 1)).size + 0:=by omega
    rw [zeo,zdj _ (by omega),hx]
    rw [show a + (a + m + 1 - a + 0) = a + (m + 1) by omega]
    omega
theorem zg2 (p : Int -> Bool) (s : ByteArray) (hp : p (-1) = false) : ∀ (m e : Nat),s.size <= e + m -> p (bAt s (zap p s m e)) = false
 | 0,e,h => by rw [zap,zci s e (by omega)];exact hp
 | m + 1,e,h => by
  rw [zap];split
  ·exact zg2 p s hp m (e + 1) (by omega)
  ·rename_i hq;simpa using hq
theorem zio (p : Int -> Bool) (s : ByteArray) : ∀ (d a k : Nat),k = a + d -> k <= s.size -> (∀ i,a <= i -> i < k -> p (bAt s i) = true) -> p (bAt s k) = false -> zap p s (s.size - a) a = k
 | 0,a,k,h,hk,ha,hn => by
  obtain rfl : k = a:=by omega
  exact zd4 p s _ k rfl hn
 | d + 1,a,k,h,hk,ha,hn => by
  rw [ze2 p s _ a rfl (by omega) (ha a (by omega) (by omega))]
  exact zio p s d (a + 1) k (by omega) hk (fun i h1 h2 => ha i (by omega) h2) hn
theorem zk1 {s : ByteArray} {a e : Nat} {n : Int} (h : pDig s a = some (n,e)) : a < e /\ e <= s.size /\ (∀ i,a <= i -> i < e -> isD (bAt s i) = true) /\ isD (bAt s e) = false /\ e - a <= 16 /\ (1 < e - a -> bAt s a ≠ 48) /\ n = dVal s a (e - a):=by
 have hbd:=zfk h
 unfold pDig at h
 simp only at h
 obtain ⟨E,hE⟩ : ∃ E,E = zap isD s (s.size - a) a:=⟨_,rfl⟩
 rw [<- hE] at h
 split at h
 ·cases h
 ·rename_i hc
  simp only [Option.some.injEq,Prod.mk.injEq] at h
  obtain ⟨rfl,rfl⟩:=h
  refine ⟨hbd.1,hbd.2.1,fun i h1 h2 => zef isD s (s.size - a) a i h1 (by rw [<- hE];exact h2),?_,by omega,fun h1 h2 => hc (.inr (.inr ⟨h1,h2⟩)),rfl⟩
  rw [hE];exact zg2 isD s rfl _ _ (by omega)
theorem zo7 {s : ByteArray} {a e : Nat} (h1 : a < e) (h2 : e <= s.size) (h3 : ∀ i,a <= i -> i < e -> isD (bAt s i) = true) (h4 : isD (bAt s e) = false) (h5 : e - a <= 16) (h6 : 1 < e - a -> bAt s a ≠ 48) : pDig s a = some (dVal s a (e - a),e):=by
 have hE:=zio isD s (e - a) a e (by omega) h2 h3 h4
 exact zk3 s a e hE.symm (by rintro (h | h | h);omega;omega;exact h6 h.1 h.2)
theorem zh3 {b : Int} (h : isD b = true) : isN b = true:=by simp [isN,h]
theorem zoc {b : Int} (h : isD b = false) (h2 : b ≠ 45) : isN b = false:=by simp [isN,h,h2]
theorem zdv {b : Int} (h : isD b = true) : 48 <= b /\ b <= 57:=by simpa [isD] using h
theorem zob {b : Int} (h : 48 <= b /\ b <= 57) : isD b = true:=by simpa [isD] using h
theorem zu1 {b : Int} (h : isN b = true) : b = 45 \/ (48 <= b /\ b <= 57):=by
 simp [isN,isD] at h;omega
theorem zl3 (t : ByteArray) (j : Nat) : ∀ m,(∀ i,i < m -> isN (bAt t (j + i)) = true) -> 0 <= vAll t j m
 | 0,_ => by simp [vAll]
 | m + 1,h => by
  have:=zl3 t j m (fun i hi => h i (by omega))
  have:=zu1 (h m (by omega))
  rw [vAll];split <;> omega
theorem zl1 (t : ByteArray) (j : Nat) : ∀ m,(∀ i,i < m -> isD (bAt t (j + i)) = true) -> vAll t j m = dVal t j m
 | 0,_ => rfl
 | m + 1,h => by
  have:=zdv (h m (by omega))
  rw [vAll,dVal,if_neg (by omega),zl1 t j m (fun i hi => h i (by omega))];omega
theorem zl2 (t : ByteArray) (j : Nat) (h45 : bAt t j = 45) : ∀ m,(∀ i,i < m -> isD (bAt t (j + 1 + i)) = true) -> vAll t j (m + 1) = dVal t (j + 1) m
 | 0,_ => by rw [vAll,if_pos (by simpa using h45)];rfl
 | m + 1,h => by
  have:=zdv (h m (by omega))
  have e : j + (m + 1) = j + 1 + m:=by omega
  rw [vAll,dVal,e,if_neg (by omega),zl2 t j h45 m (fun i hi => h i (by omega))];omega
theorem p16 (n : Nat) (h : n <= 1000000000000000) : n < 10 ^ (15 + 1):=by omega
theorem p19 (n : Nat) (h : n <= 1000000000000000) : n < 10 ^ (18 + 1):=by omega
theorem zu9 {t : ByteArray} {j : Nat} {lo hi : Int} (hh : hi <= 1000000000000000) (hj : j <= t.size) (h45 : ¬ bAt t j = 45) : layN t j lo hi = za3 true lo hi t j:=by
 obtain ⟨E,hE⟩ : ∃ E,E = zap isN t (t.size - j) j:=⟨_,rfl⟩
 have hle:=zce isN t (t.size - j) j
 rw [<- hE] at hle
 have hall : ∀ i,j <= i -> i < E -> isN (bAt t i) = true:=fun i h1 h2 => zef isN t (t.size - j) j i h1 (by rw [<- hE];exact h2)
 have hnot : isN (bAt t E) = false:=by rw [hE];exact zg2 isN t rfl _ _ (by omega)
 have hL : layN t j lo hi = if 18 < E - j then none else if decI (vAll t j (E - j)) = t.extract j E /\ lo <= vAll t j (E - j) /\ vAll t j (E - j) <= hi then some (zao (vAll t j (E - j)),E) else none:=by
  unfold layN;simp only [if_neg h45];rw [hE]
 have hv:=zl3 t j (E - j) (fun i hi => hall _ (by omega) (by omega))
 by_cases C : decI (vAll t j (E - j)) = t.extract j E /\ lo <= vAll t j (E - j) /\ vAll t j (E - j) <= hi
 ·obtain ⟨c1,c2,c3⟩:=C
  have hd : decI (vAll t j (E - j)) = decS 18 (vAll t j (E - j)).toNat:=by unfold decI;rw [if_neg (by omega)]
  rw [hd] at c1
  have hsz:=size_extract t j E (by omega) (by omega)
  have hpos:=zj3 18 (vAll t j (E - j)).toNat
  have hlen:=zhn 15 18 (vAll t j (E - j)).toNat (p16 _ (by omega))
  rw [c1,hsz] at hpos hlen
  have hdig : ∀ i,j <= i -> i < E -> isD (bAt t i) = true:=fun i h1 h2 => by
   have:=zj1 18 (vAll t j (E - j)).toNat (i - j) (p19 _ (by omega)) (by rw [c1,hsz];omega)
   rw [c1,zbs t j E (i - j) (by omega) (by omega),show j + (i - j) = i by omega] at this
   exact zob this
  have hne : isD (bAt t E) = false:=by
   rcases h : isD (bAt t E) with _ | _
   ·rfl
   ·rw [zh3 h] at hnot;cases hnot
  have hE45 : ¬ bAt t E = 45:=fun h => by rw [h] at hnot;cases hnot
  have hlead : 1 < E - j -> bAt t j ≠ 48:=fun h1 => by
   have hb:=zm6 18 (vAll t j (E - j)).toNat (p19 _ (by omega)) (by rw [c1,hsz];omega)
   have hf:=zj2 18 (vAll t j (E - j)).toNat (p19 _ (by omega)) hb
   rw [c1,zbs t j E 0 (by omega) (by omega)] at hf
   simpa using hf
  have hp:=zo7 (by omega) (by omega) hdig hne (by omega) hlead
  have hvd:=zl1 t j (E - j) (fun i hi => hdig _ (by omega) (by omega))
  rw [hL,if_neg (by omega),if_pos ⟨by rw [hd];exact c1,c2,c3⟩]
  unfold za3 pNum
  rw [if_neg h45,hp]
  simp only
  rw [<- hvd,if_neg (by omega),if_neg (fun h => hE45 h.2)]
 ·rw [hL,if_neg C,ite_self]
  rcases hx : za3 true lo hi t j with _ | ⟨d,k⟩
  ·rfl
  ·exfalso
   unfold za3 pNum at hx
   rw [if_neg h45] at hx
   rcases hp : pDig t j with _ | ⟨n,e⟩
   ·rw [hp] at hx;cases hx
   ·rw [hp] at hx
    simp only at hx
    split at hx
    ·cases hx
    ·rename_i hr
     split at hx
     ·cases hx
     ·rename_i he
      have he45 : bAt t e ≠ 45:=fun h => he ⟨trivial,h⟩
      obtain ⟨f1,f2,f3,f4,f5,f6,f7⟩:=zk1 hp
      have hEe : E = e:=by rw [hE];exact zio isN t (e - j) j e (by omega) f2 (fun i h1 h2 => zh3 (f3 i h1 h2)) (zoc f4 he45)
      subst hEe
      have hvd:=zl1 t j (E - j) (fun i hi => f3 _ (by omega) (by omega))
      apply C
      have hdec:=zho t j (E - j - 1) 18 (fun i hi => zdv (f3 _ (by omega) (by omega))) (fun h => by
       have:=f6 (by omega);have:=zdv (f3 j (by omega) (by omega));omega) (by omega) (by omega)
      rw [show E - j - 1 + 1 = E - j by omega,show j + (E - j - 1) + 1 = E by omega] at hdec
      rw [hvd]
      refine ⟨?_,by omega,by omega⟩
      unfold decI
      rw [if_neg (by omega)]
      exact hdec
theorem zu8 {t : ByteArray} {j : Nat} {lo hi : Int} (hl : -1000000000000000 <= lo) (hj : j < t.size) (h45 : bAt t j = 45) : layN t j lo hi = za3 true lo hi t j:=by
 obtain ⟨E,hE⟩ : ∃ E,E = zap isN t (t.size - j) j:=⟨_,rfl⟩
 have hle:=zce isN t (t.size - j) j
 rw [<- hE] at hle
 have hall : ∀ i,j <= i -> i < E -> isN (bAt t i) = true:=fun i h1 h2 => zef isN t (t.size - j) j i h1 (by rw [<- hE];exact h2)
 have hnot : isN (bAt t E) = false:=by rw [hE];exact zg2 isN t rfl _ _ (by omega)
 have hjE : j < E:=by
  rcases Nat.lt_or_ge j E with h | h
  ·exact h
  ·obtain rfl : E = j:=by omega
   rw [h45] at hnot;cases hnot
 have hL : layN t j lo hi = if 18 < E - j then none else if decI (-vAll t j (E - j)) = t.extract j E /\ lo <= -vAll t j (E - j) /\ -vAll t j (E - j) <= hi then some (zao (-vAll t j (E - j)),E) else none:=by
  unfold layN;simp only [if_pos h45];rw [hE]
 have hv:=zl3 t j (E - j) (fun i hi => hall _ (by omega) (by omega))
 by_cases C : decI (-vAll t j (E - j)) = t.extract j E /\ lo <= -vAll t j (E - j) /\ -vAll t j (E - j) <= hi
 ·obtain ⟨c1,c2,c3⟩:=C
  have hsz:=size_extract t j E (by omega) (by omega)
  have hv0 : 0 < vAll t j (E - j):=by
   rcases Int.lt_or_eq_of_le hv with h | h
   ·exact h
   ·exfalso
    rw [<- h] at c1
    have h1:=zbs t j E 0 (by omega) (by omega)
    rw [<- c1] at h1
    simp only [Nat.add_zero] at h1
    rw [h45] at h1
    cases h1
  have hd : decI (-vAll t j (E - j)) = ⟨#[45]⟩ ++ decS 18 (vAll t j (E - j)).toNat:=by unfold decI;rw [if_pos (by omega),Int.neg_neg]
  have c1':=c1
  rw [hd] at c1
  have hs1 : (⟨#[45]⟩ : ByteArray).size = 1:=rfl
  have hpos:=zj3 18 (vAll t j (E - j)).toNat
  have hlen:=zhn 15 18 (vAll t j (E - j)).toNat (p16 _ (by omega))
  have htot : 1 + (decS 18 (vAll t j (E - j)).toNat).size = E - j:=by have h:=congrArg ByteArray.size c1;rw [ByteArray.size_append,hs1,hsz] at h;exact h
  have hbyte : ∀ i,i < (decS 18 (vAll t j (E - j)).toNat).size -> bAt (decS 18 (vAll t j (E - j)).toNat) i = bAt t (j + 1 + i):=fun i hi => by
   have h1:=zeo ⟨#[45]⟩ (decS 18 (vAll t j (E - j)).toNat) i
   rw [c1,hs1,zbs t j E (1 + i) (by omega) (by omega)] at h1
   rw [<- h1];congr 1;omega
  have hdig : ∀ i,j + 1 <= i -> i < E -> isD (bAt t i) = true:=fun i h1 h2 => by
   have:=zj1 18 (vAll t j (E - j)).toNat (i - (j + 1)) (p19 _ (by omega)) (by omega)
   rw [hbyte _ (by omega),show j + 1 + (i - (j + 1)) = i by omega] at this
   exact zob this
  have hne : isD (bAt t E) = false:=by
   rcases h : isD (bAt t E) with _ | _
   ·rfl
   ·rw [zh3 h] at hnot;cases hnot
  have hE45 : ¬ bAt t E = 45:=fun h => by rw [h] at hnot;cases hnot
  have hlead : 1 < E - (j + 1) -> bAt t (j + 1) ≠ 48:=fun h1 => by
   have hb:=zm6 18 (vAll t j (E - j)).toNat (p19 _ (by omega)) (by omega)
   have hf:=zj2 18 (vAll t j (E - j)).toNat (p19 _ (by omega)) hb
   rw [hbyte 0 (by omega)] at hf
   simpa using hf
  have hp:=zo7 (by omega) (by omega) hdig hne (by omega) hlead
  have hvd:=zl2 t j h45 (E - (j + 1)) (fun i hi => hdig _ (by omega) (by omega))
  rw [show E - (j + 1) + 1 = E - j by omega] at hvd
  rw [hL,if_neg (by omega),if_pos ⟨c1',c2,c3⟩]
  unfold za3 pNum
  rw [if_pos h45,hp]
  simp only
  rw [<- hvd,if_neg (by omega)]
  simp only
  rw [if_neg (by omega),if_neg (fun h => hE45 h.2)]
 ·rw [hL,if_neg C,ite_self]
  rcases hx : za3 true lo hi t j with _ | ⟨d,k⟩
  ·rfl
  ·exfalso
   unfold za3 pNum at hx
   rw [if_pos h45] at hx
   rcases hp : pDig t (j + 1) with _ | ⟨n,e⟩
   ·rw [hp] at hx;cases hx
   ·rw [hp] at hx
    simp only at hx
    by_cases hn0 : n = 0
    ·rw [if_pos hn0] at hx;cases hx
    ·rw [if_neg hn0] at hx
     simp only at hx
     split at hx
     ·cases hx
     ·rename_i hr
      split at hx
      ·cases hx
      ·rename_i he
       have he45 : bAt t e ≠ 45:=fun h => he ⟨trivial,h⟩
       obtain ⟨f1,f2,f3,f4,f5,f6,f7⟩:=zk1 hp
       have hEe : E = e:=by
        rw [hE]
        exact zio isN t (e - j) j e (by omega) f2 (fun i h1 h2 => by
         by_cases h : i = j
         ·subst h;rw [h45];rfl
         ·exact zh3 (f3 i (by omega) h2)) (zoc f4 he45)
       subst hEe
       have hvd:=zl2 t j h45 (E - (j + 1)) (fun i hi => f3 _ (by omega) (by omega))
       rw [show E - (j + 1) + 1 = E - j by omega] at hvd
       have hnn:=(zfk hp).2.2.1
       apply C
       have hdec:=zho t (j + 1) (E - (j + 1) - 1) 18 (fun i hi => zdv (f3 _ (by omega) (by omega))) (fun h => by
        have:=f6 (by omega);have:=zdv (f3 (j + 1) (by omega) (by omega));omega) (by omega) (by omega)
       rw [show E - (j + 1) - 1 + 1 = E - (j + 1) by omega,show j + 1 + (E - (j + 1) - 1) + 1 = E by omega] at hdec
       rw [hvd]
       refine ⟨?_,by omega,by omega⟩
       unfold decI
       rw [if_pos (by omega),Int.neg_neg,hdec]
       have hs1 : (⟨#[45]⟩ : ByteArray).size = 1:=rfl
       have hx1:=size_extract t (j + 1) E (by omega) (by omega)
       have hx2:=size_extract t j E (by omega) (by omega)
       apply zeq
       ·rw [ByteArray.size_append,hs1];omega
       ·intro i hi
        rw [ByteArray.size_append,hs1] at hi
        rw [zbs t j E i (by omega) (by omega)]
        cases i with
        | zero => rw [ze9 _ _ _ (by omega)];simp only [Nat.add_zero];rw [h45];rfl
        | succ i =>
         have h1:=zeo ⟨#[45]⟩ (t.extract (j + 1) E) i
         rw [hs1,Nat.add_comm 1 i] at h1
         rw [h1,zbs t (j + 1) E i (by omega) (by omega)]
         congr 1;omega
theorem zh5 {t : ByteArray} {j : Nat} {lo hi : Int} (hl : -1000000000000000 <= lo) (hh : hi <= 1000000000000000) (hj : j < t.size) : layN t j lo hi = za3 true lo hi t j:=by
 by_cases h : bAt t j = 45
 ·exact zu8 hl hj h
 ·exact zu9 hh (by omega) h
end
section
open Go.RowKit
structure Val where
 tag : Nat
 n : Int
 s : ByteArray
 vs : List Val
def Val.num (x : Int) : Val:=⟨0,x,ByteArray.empty,[]⟩
def Val.str (s : ByteArray) : Val:=⟨1,0,s,[]⟩
def Val.cho (i : Nat) : Val:=⟨2,i,ByteArray.empty,[]⟩
def Val.lst (vs : List Val) : Val:=⟨3,0,ByteArray.empty,vs⟩
def Val.non : Val:=⟨4,0,ByteArray.empty,[]⟩
def Val.som (v : Val) : Val:=⟨5,0,ByteArray.empty,[v]⟩
def Val.rcd (vs : List Val) : Val:=⟨6,0,ByteArray.empty,vs⟩
def Val.hd (v : Val) : Val:=v.vs.headD Val.non
def At (d : ByteArray) (j : Nat) (x : ByteArray) : Prop:=j + x.size <= d.size /\ ∀ i,i < x.size -> bAt d (j + i) = bAt x i
theorem At.app {d x y : ByteArray} {j : Nat} : At d j (x ++ y) ↔ At d j x /\ At d (j + x.size) y:=by
 unfold At
 rw [ByteArray.size_append]
 constructor
 ·rintro ⟨h1,h2⟩
  refine ⟨⟨by omega,fun i hi => ?_⟩,⟨by omega,fun i hi => ?_⟩⟩
  ·rw [h2 i (by omega),ze9 _ _ _ hi]
  ·rw [show j + x.size + i = j + (x.size + i) by omega,h2 _ (by omega),zeo]
 ·rintro ⟨⟨h1,h2⟩,h3,h4⟩
  refine ⟨by omega,fun i hi => ?_⟩
  by_cases hx : i < x.size
  ·rw [h2 i hx,ze9 _ _ _ hx]
  ·obtain ⟨m,rfl⟩ : ∃ m,i = x.size + m:=⟨i - x.size,by omega⟩
   rw [zeo,<- h4 m (by omega)];congr 1;omega
theorem At.nil {d : ByteArray} {j : Nat} (h : j <= d.size) : At d j ByteArray.empty:=⟨by simpa using h,fun i hi => by simp at hi⟩
theorem At.one {d : ByteArray} {j b : Nat} (hb : b < 256) : At d j (oneB b) ↔ bAt d j = b:=by
 unfold At
 rw [zai]
 constructor
 ·rintro ⟨_,h⟩;have:=h 0 (by omega);rw [zdj b hb] at this;exact this
 ·intro h
  refine ⟨by have:=zar (s:=d) (i:=j) (by omega);omega,fun i hi => ?_⟩
  obtain rfl : i = 0:=by omega
  rw [zdj b hb];exact h
theorem At.ext {d x : ByteArray} {j : Nat} (h : At d j x) : d.extract j (j + x.size) = x:=by
 have hs:=size_extract d j (j + x.size) (by omega) h.1
 refine zeq (by omega) (fun i hi => ?_)
 rw [zbs _ _ _ _ (by omega) h.1,h.2 i (by omega)]
theorem At.of {d : ByteArray} {j k : Nat} (h1 : j <= k) (h2 : k <= d.size) : At d j (d.extract j k):=by
 have hs:=size_extract d j k h1 h2
 exact ⟨by omega,fun i hi => by rw [zbs _ _ _ _ (by omega) h2]⟩
theorem At.le {d x : ByteArray} {j : Nat} (h : At d j x) : j + x.size <= d.size:=h.1
theorem At.self (d : ByteArray) : At d 0 d:=⟨by omega,fun i hi => by rw [Nat.zero_add]⟩
def catB : List ByteArray -> ByteArray
 | [] => ByteArray.empty
 | x :: xs => x ++ catB xs
theorem zjw : ∀ (m : Nat) (acc : ByteArray) (u : Nat),codU m acc u = acc ++ codU m ByteArray.empty u
 | 0,acc,u => by simp [codU]
 | m + 1,acc,u => by
  rw [codU,codU]
  split
  ·rw [zjw m (acc ++ _),zjw m (ByteArray.empty ++ _)];simp [ByteArray.append_assoc]
  ·simp
theorem zjx {m u : Nat} (h : u < 128) : codU m ByteArray.empty u = oneB u:=by
 cases m with
 | zero => simp [codU]
 | succ m => rw [codU,if_neg (by omega)];simp
theorem zms {m u : Nat} (h : 128 <= u) : codU (m + 1) ByteArray.empty u = oneB (u % 128 + 128) ++ codU m ByteArray.empty (u / 128):=by
 rw [codU,if_pos h,zjw];simp
theorem yaam {d : ByteArray} {a : Nat} : ∀ (m m' k u x U : Nat),U < 128 ^ (m + 1) -> U < 128 ^ (m' + 1) -> (0 < k -> U ≠ 0) -> At d (a + k) (codU m' ByteArray.empty U) ->
  uAtL d a (m + 1) k u x = some (u + U * x,a + k + (codU m' ByteArray.empty U).size):=by
 intro m
 induction m with
 | zero =>
  intro m' k u x U h1 h2 h3 h4
  have hU : U < 128:=by simpa using h1
  rw [uAtL]
  rw [zjx hU] at h4 ⊢
  rw [At.one (by omega)] at h4
  rw [h4,if_neg (by omega),if_pos (by omega),zai]
  simp
 | succ m ih =>
  intro m' k u x U h1 h2 h3 h4
  rw [uAtL]
  by_cases hU : U < 128
  ·rw [zjx hU] at h4 ⊢
   rw [At.one (by omega)] at h4
   rw [h4,if_neg (by omega),if_pos (by omega),zai]
   simp
  ·cases m' with
   | zero => simp at h2;omega
   | succ m' =>
    rw [zms (by omega)] at h4 ⊢
    rw [At.app,At.one (by omega),zai] at h4
    obtain ⟨h5,h6⟩:=h4
    rw [h5,if_neg (by omega),if_neg (by omega)]
    have e1 : (((U % 128 + 128 : Nat) : Int).toNat - 128) = U % 128:=by omega
    rw [e1,ih m' (k + 1) _ _ (U / 128) (by rw [Nat.pow_succ] at h1;omega) (by rw [Nat.pow_succ] at h2;omega) (fun _ => by omega) h6]
    have e2 : U / 128 * (x * 128) = U / 128 * 128 * x:=by rw [Nat.mul_comm x 128,Nat.mul_assoc]
    have e3 : u + U % 128 * x + U / 128 * (x * 128) = u + U * x:=by
     rw [e2,Nat.add_assoc,<- Nat.add_mul,show U % 128 + U / 128 * 128 = U by omega]
    have e4 : a + (k + 1) + (codU m' ByteArray.empty (U / 128)).size = a + k + (oneB (U % 128 + 128) ++ codU m' ByteArray.empty (U / 128)).size:=by
     rw [ByteArray.size_append,zai];omega
    rw [e3,e4]
theorem zr0 (n : Int) : zbj (zig n) = n:=by
 unfold zig zbj;split <;> split <;> omega
theorem zrv {d : ByteArray} {j : Nat} {n : Int} (h1 : -1000000000000000 <= n) (h2 : n <= 1000000000000000) (h : At d j (zao n)) : uAt d j = some (zig n,j + (zao n).size):=by
 have hz : zig n < 128 ^ 8:=by unfold zig;split <;> omega
 have:=yaam (d:=d) (a:=j) 7 8 0 0 1 (zig n) hz (by omega) (by omega) h
 unfold uAt;rw [this];simp [zao]
def datV : Nat -> Val -> ByteArray
 | 0,_ => ByteArray.empty
 | n + 1,v =>
  if v.tag = 0 then zao v.n
  else if v.tag = 1 then oneB v.s.size ++ v.s
  else if v.tag = 2 then oneB v.n.toNat
  else if v.tag = 3 then oneB v.vs.length ++ catB (v.vs.map (datV n))
  else if v.tag = 4 then oneB 0
  else if v.tag = 5 then oneB 1 ++ datV n v.hd
  else catB (v.vs.map (datV n))
theorem zgf (n : Nat) (x : Int) : datV (n + 1) (.num x) = zao x:=rfl
theorem zgh (n : Nat) (s : ByteArray) : datV (n + 1) (.str s) = oneB s.size ++ s:=rfl
theorem zes (n i : Nat) : datV (n + 1) (.cho i) = oneB i:=rfl
theorem zdc (n : Nat) (vs : List Val) : datV (n + 1) (.lst vs) = oneB vs.length ++ catB (vs.map (datV n)):=rfl
theorem zet (n : Nat) : datV (n + 1) .non = oneB 0:=rfl
theorem zgg (n : Nat) (v : Val) : datV (n + 1) (.som v) = oneB 1 ++ datV n v:=rfl
theorem zdd (n : Nat) (vs : List Val) : datV (n + 1) (.rcd vs) = catB (vs.map (datV n)):=rfl
def zdx : Nat -> List ByteArray -> ByteArray -> ByteArray
 | _,[],t => t ++ ⟨#[93]⟩
 | k,x :: xs,t => zdx (k + 1) xs ((if 0 < k then t ++ ⟨#[44]⟩ else t) ++ x)
def zdl : List (Nat × ByteArray) -> ByteArray -> ByteArray -> ByteArray
 | [],_,t => t ++ ⟨#[125]⟩
 | p :: ps,mk,t => zdl ps ⟨#[44]⟩ (t ++ (((mk ++ oneB p.1) ++ ⟨#[58]⟩) ++ p.2))
def txtV : Nat -> Ty -> Val -> ByteArray
 | 0,_,_ => ByteArray.empty
 | n + 1,ty,v =>
  if v.tag = 0 then decI v.n
  else if v.tag = 1 then quo ++ v.s ++ quo
  else if v.tag = 2 then oneB (bAt ty.letters v.n.toNat).toNat
  else if v.tag = 3 then zdx 0 (v.vs.map (txtV n ty.in)) ⟨#[91]⟩
  else if v.tag = 4 then ⟨#[95]⟩
  else if v.tag = 5 then txtV n ty.in v.hd
  else zdl ((ty.fields.zip v.vs).map fun p => (p.1.1,txtV n p.1.2.1 p.2)) ⟨#[123]⟩ ByteArray.empty
theorem zrr (n : Nat) (ty : Ty) (x : Int) : txtV (n + 1) ty (.num x) = decI x:=rfl
theorem zrs (n : Nat) (ty : Ty) (s : ByteArray) : txtV (n + 1) ty (.str s) = quo ++ s ++ quo:=rfl
theorem zfy (n : Nat) (ty : Ty) (i : Nat) : txtV (n + 1) ty (.cho i) = oneB (bAt ty.letters i).toNat:=rfl
theorem zfz (n : Nat) (ty : Ty) (vs : List Val) : txtV (n + 1) ty (.lst vs) = zdx 0 (vs.map (txtV n ty.in)) ⟨#[91]⟩:=rfl
theorem zi8 (n : Nat) (ty : Ty) : txtV (n + 1) ty .non = ⟨#[95]⟩:=rfl
theorem zi9 (n : Nat) (ty : Ty) (v : Val) : txtV (n + 1) ty (.som v) = txtV n ty.in v:=rfl
theorem zel (n : Nat) (ty : Ty) (vs : List Val) : txtV (n + 1) ty (.rcd vs) = zdl ((ty.fields.zip vs).map fun p => (p.1.1,txtV n p.1.2.1 p.2)) ⟨#[123]⟩ ByteArray.empty:=rfl
def okV : Nat -> Ty -> Val -> Prop
 | 0,_,_ => False
 | n + 1,ty,v =>
  (∃ x,v = .num x /\ ((ty.kind = 105 /\ -2147483648 <= x /\ x <= 2147483647) \/ (ty.kind = 108 /\ -1000000000000000 <= x /\ x <= 1000000000000000))) \/
  (∃ s,v = .str s /\ ty.kind = 115 /\ s.size <= 60 /\ allS s s.size 0 = true) \/
  (∃ i,v = .cho i /\ ty.kind = 60 /\ i < ty.letters.size /\ i < 256) \/
  (∃ vs,v = .lst vs /\ ty.kind = 91 /\ vs.length <= 16 /\ ∀ v ∈ vs,okV n ty.in v) \/
  (v = .non /\ ty.kind = 63) \/
  (∃ u,v = .som u /\ ty.kind = 63 /\ okV n ty.in u) \/
  (∃ vs,v = .rcd vs /\ ty.kind = 123 /\ ty.fields ≠ [] /\ vs.length = ty.fields.length /\ ∀ p ∈ ty.fields.zip vs,okV n p.1.2.1 p.2)
theorem zkx {n : Nat} {ty : Ty} {x : Int} (h : (ty.kind = 105 /\ -2147483648 <= x /\ x <= 2147483647) \/ (ty.kind = 108 /\ -1000000000000000 <= x /\ x <= 1000000000000000)) : okV (n + 1) ty (.num x):=.inl ⟨x,rfl,h⟩
theorem zo3 {n : Nat} {ty : Ty} {s : ByteArray} (h : ty.kind = 115 /\ s.size <= 60 /\ allS s s.size 0 = true) : okV (n + 1) ty (.str s):=.inr (.inl ⟨s,rfl,h⟩)
theorem zib {n : Nat} {ty : Ty} {i : Nat} (h : ty.kind = 60 /\ i < ty.letters.size /\ i < 256) : okV (n + 1) ty (.cho i):=.inr (.inr (.inl ⟨i,rfl,h⟩))
theorem zfi {n : Nat} {ty : Ty} {vs : List Val} (h : ty.kind = 91 /\ vs.length <= 16 /\ ∀ v ∈ vs,okV n ty.in v) : okV (n + 1) ty (.lst vs):=.inr (.inr (.inr (.inl ⟨vs,rfl,h⟩)))
theorem zkw {n : Nat} {ty : Ty} (h : ty.kind = 63) : okV (n + 1) ty .non:=.inr (.inr (.inr (.inr (.inl ⟨rfl,h⟩))))
theorem zky {n : Nat} {ty : Ty} {v : Val} (h : ty.kind = 63 /\ okV n ty.in v) : okV (n + 1) ty (.som v):=.inr (.inr (.inr (.inr (.inr (.inl ⟨v,rfl,h⟩)))))
theorem zgw {n : Nat} {ty : Ty} {vs : List Val} (h : ty.kind = 123 /\ ty.fields ≠ [] /\ vs.length = ty.fields.length /\ ∀ p ∈ ty.fields.zip vs,okV n p.1.2.1 p.2) : okV (n + 1) ty (.rcd vs):=.inr (.inr (.inr (.inr (.inr (.inr ⟨vs,rfl,h⟩)))))
theorem zma {d s : ByteArray} : ∀ (m j i : Nat),(∀ k,k < m -> bAt d (j + k) = bAt s (i + k)) -> allS d m j = allS s m i
 | 0,j,i,h => rfl
 | m + 1,j,i,h => by
  have h0:=h 0 (by omega)
  simp only [Nat.add_zero] at h0
  rw [allS,allS,h0,zma m (j + 1) (i + 1) (fun k hk => by have:=h (k + 1) (by omega);rw [show j + 1 + k = j + (k + 1) by omega,show i + 1 + k = i + (k + 1) by omega];exact this)]
theorem zt0 {d s : ByteArray} {j : Nat} (h1 : s.size <= 60) (h2 : allS s s.size 0 = true) (h : At d j (oneB s.size ++ s)) : zb6 d j = some (quo ++ s ++ quo,j + (oneB s.size ++ s).size):=by
 rw [At.app,At.one (by omega),zai] at h
 obtain ⟨h3,h4⟩:=h
 unfold zb6
 rw [h3,if_neg (by omega),Int.toNat_natCast,h4.ext,if_pos,ByteArray.size_append,zai]
 ·congr 2;omega
 ·rw [<- h2];exact zma _ _ _ (fun k hk => by rw [h4.2 k hk,Nat.zero_add])
theorem zm4 {d : ByteArray} {f : Nat -> Option (ByteArray × Nat)} {dv tv : Val -> ByteArray} : ∀ (vs : List Val) (k fr : Nat) (t : ByteArray),(∀ v ∈ vs,∀ j,At d j (dv v) -> f j = some (tv v,j + (dv v).size)) ->
  At d fr (catB (vs.map dv)) -> zb1 f vs.length k fr t = some (zdx k (vs.map tv) t,fr + (catB (vs.map dv)).size)
 | [],k,fr,t,hf,h => by simp [zb1,zdx,catB]
 | v :: vs,k,fr,t,hf,h => by
  simp only [List.map_cons,catB] at h ⊢
  rw [At.app] at h
  rw [List.length_cons,zb1,hf v (by simp) fr h.1]
  simp only
  rw [zm4 vs (k + 1) (fr + (dv v).size) _ (fun v hv => hf v (by simp [hv])) h.2,zdx,ByteArray.size_append,Nat.add_assoc]
theorem zm2 {d : ByteArray} {f : Ty -> Nat -> Option (ByteArray × Nat)} {dv : Val -> ByteArray} {tv : Ty -> Val -> ByteArray} : ∀ (fs : List (Nat × Ty × ByteArray)) (vs : List Val) (mk : ByteArray) (fr : Nat) (t : ByteArray),vs.length = fs.length ->
  (∀ p ∈ fs.zip vs,∀ j,At d j (dv p.2) -> f p.1.2.1 j = some (tv p.1.2.1 p.2,j + (dv p.2).size)) ->
  At d fr (catB (vs.map dv)) -> zbw f fs mk fr t = some (zdl ((fs.zip vs).map fun p => (p.1.1,tv p.1.2.1 p.2)) mk t,fr + (catB (vs.map dv)).size)
 | [],[],mk,fr,t,hl,hf,h => by simp [zbw,zdl,catB]
 | [],v :: vs,mk,fr,t,hl,hf,h => by simp at hl
 | g :: fs,[],mk,fr,t,hl,hf,h => by simp at hl
 | g :: fs,v :: vs,mk,fr,t,hl,hf,h => by
  simp only [List.map_cons,catB] at h ⊢
  rw [At.app] at h
  rw [zbw,hf (g,v) (by simp) fr h.1]
  simp only
  rw [zm2 fs vs _ (fr + (dv v).size) _ (by simpa using hl) (fun p hp => hf p (by simp [hp])) h.2,ByteArray.size_append,Nat.add_assoc]
  simp only [List.zip_cons_cons,List.map_cons,zdl]
theorem zhq {d : ByteArray} : ∀ (n : Nat) (ty : Ty) (v : Val) (j : Nat),okV n ty v -> At d j (datV n v) -> dec d n ty j = some (txtV n ty v,j + (datV n v).size)
 | 0,ty,v,j,hv,h => hv.elim
 | n + 1,ty,v,j,hv,h => by
  have ih:=zhq (d:=d) n
  rcases hv with ⟨x,rfl,hv⟩ | ⟨s,rfl,hv⟩ | ⟨i,rfl,hv⟩ | ⟨vs,rfl,hv⟩ | ⟨rfl,hv⟩ | ⟨v,rfl,hv⟩ | ⟨vs,rfl,hv⟩
  ·rw [zgf] at h ⊢
   rw [zrr]
   rcases hv with ⟨hk,h1,h2⟩ | ⟨hk,h1,h2⟩
   ·rw [dec,if_pos hk];unfold zcu;rw [zrv (by omega) (by omega) h];simp only [zr0];rw [if_neg (by omega)]
   ·rw [dec,if_neg (by omega),if_pos hk];unfold zcu;rw [zrv (by omega) (by omega) h];simp only [zr0];rw [if_neg (by omega)]
  ·rw [zgh] at h ⊢
   rw [zrs]
   rw [dec,if_neg (by omega),if_neg (by omega),if_pos hv.1,zt0 hv.2.1 hv.2.2 h]
  ·rw [zes] at h ⊢
   rw [zfy]
   rw [At.one hv.2.2] at h
   have:=za1 ty.letters i hv.2.1
   rw [dec,if_neg (by omega),if_neg (by omega),if_neg (by omega),if_pos hv.1];unfold zdu;rw [h,Int.toNat_natCast,if_neg (by omega),zai]
  ·rw [zdc] at h ⊢
   rw [zfz]
   rw [At.app,At.one (by omega),zai] at h
   rw [dec,if_neg (by omega),if_neg (by omega),if_neg (by omega),if_neg (by omega),if_pos hv.1];unfold zc0
   rw [h.1,if_neg (by omega),Int.toNat_natCast,zm4 (dv:=datV n) (tv:=txtV n ty.in) vs 0 (j + 1) _ (fun v hv' j h => ih ty.in v j (hv.2.2 v hv') h) h.2,ByteArray.size_append,zai,Nat.add_assoc]
  ·rw [zet] at h ⊢
   rw [zi8]
   rw [At.one (by omega)] at h
   rw [dec,if_neg (by omega),if_neg (by omega),if_neg (by omega),if_neg (by omega),if_neg (by omega),if_pos hv];unfold zcs;rw [h,if_pos (by omega),zai]
  ·rw [zgg] at h ⊢
   rw [zi9]
   rw [At.app,At.one (by omega),zai] at h
   rw [dec,if_neg (by omega),if_neg (by omega),if_neg (by omega),if_neg (by omega),if_neg (by omega),if_pos hv.1];unfold zcs
   rw [h.1,if_neg (by omega),if_pos (by omega),ih ty.in v _ hv.2 h.2,ByteArray.size_append,zai,Nat.add_assoc]
  ·rw [zdd] at h ⊢
   rw [zel]
   rw [dec,if_neg (by omega),if_neg (by omega),if_neg (by omega),if_neg (by omega),if_neg (by omega),if_neg (by omega),if_pos ⟨hv.1,hv.2.1⟩]
   exact zm2 (dv:=datV n) (tv:=txtV n) ty.fields vs _ j _ hv.2.2.1 (fun p hp j h => ih p.1.2.1 p.2 j (hv.2.2.2 p hp) h) h
end
end Go.Proofs.YtkkekopomiehlaaGreat
