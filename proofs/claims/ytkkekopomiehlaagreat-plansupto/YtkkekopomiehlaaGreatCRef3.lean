import Derived.Test.YtkkekopomiehlaaGreatCRef2
set_option linter.unusedVariables false
set_option linter.unusedSimpArgs false
set_option maxHeartbeats 40000000
namespace Go.Proofs.YtkkekopomiehlaaGreat
section
set_option maxRecDepth 4000
open Go.RowKit
def isN (b : Int) : Bool:=isD b || (b == 45)
def vAll (t : ByteArray) (j : Nat) : Nat -> Int
 | 0 => 0
 | m + 1 => if bAt t (j + m) = 45 then vAll t j m else 10 * vAll t j m + (bAt t (j + m) - 48)
theorem zr1 (t : ByteArray) (j k : Nat) (h : j <= k) : vAll t j (k + 1 - j) = if bAt t k = 45 then vAll t j (k - j) else 10 * vAll t j (k - j) + (bAt t k - 48):=by
 rw [show k + 1 - j = (k - j) + 1 by omega,vAll,show j + (k - j) = k by omega]
def layN (t : ByteArray) (j : Nat) (lo hi : Int) : Option (ByteArray × Nat) :=
 let E:=zap isN t (t.size - j) j
 if 18 < E - j then none else
  let v:=if bAt t j = 45 then -vAll t j (E - j) else vAll t j (E - j)
  if decI v = t.extract j E /\ lo <= v /\ v <= hi then some (zao v,E) else none
def zbx : Option (ByteArray × Nat) -> Value
 | some (d,k) => .tuple #[.string d,.int .i64 k]
 | none => .tuple #[.string ByteArray.empty,.int .i64 (-1)]
theorem ret2 {a b a' b' : Value} (h : a = a') (h' : b = b') : Ending.returned (.tuple #[a,b]) = .returned (.tuple #[a',b']):=by rw [h,h']
theorem zk9 (m : Nat) (h : m <= 18) : (10 : Int) ^ m <= 1000000000000000000:=by
 have h1 : 10 ^ m <= 10 ^ 18:=Nat.pow_le_pow_right (by omega) h
 have h2 : (10 : Int) ^ m = ((10 ^ m : Nat) : Int):=by simp
 rw [h2];omega
theorem zxt (m : Nat) (h : m <= 17) : (10 : Int) ^ m <= 100000000000000000:=by
 have h1 : 10 ^ m <= 10 ^ 17:=Nat.pow_le_pow_right (by omega) h
 have h2 : (10 : Int) ^ m = ((10 ^ m : Nat) : Int):=by simp
 rw [h2];omega
set_option maxRecDepth 10000 in
theorem zh6 (t : ByteArray) (j : Nat) (lo hi : Int) (w : World) (_hs : t.size <= 9000000) (hj : j < t.size) (hl0 : -10000000000000000 <= lo) (hh0 : hi <= 10000000000000000) :
  Calls Tryz.prog 127 #[.string t,.int .i64 j,.int .i64 lo,.int .i64 hi] w fun e w' => e = .returned (zbx (layN t j lo hi)) /\ Below w.heap.size w w':=by
 obtain ⟨E,hE⟩ : ∃ E,E = zap isN t (t.size - j) j:=⟨_,rfl⟩
 have HP : Hid (layN t j lo hi = if 18 < E - j then none else if decI (if bAt t j = 45 then -vAll t j (E - j) else vAll t j (E - j)) = t.extract j E /\ lo <= (if bAt t j = 45 then -vAll t j (E - j) else vAll t j (E - j)) /\ (if bAt t j = 45 then -vAll t j (E - j) else vAll t j (E - j)) <= hi then some (zao (if bAt t j = 45 then -vAll t j (E - j) else vAll t j (E - j)),E) else none):=by show _ = _;rw [hE];rfl
 have HE : Hid (E = zap isN t (t.size - j) j):=hE
 have HL : Hid (j <= E /\ E <= t.size):=by show _ /\ _;rw [hE];have:=zce isN t (t.size - j) j;omega
 clear hE
 go_enter Tryz.func127,Tryz.ntmps127
 go_wp2_with fail
 go_loop [10,11] (fun vk vv => ∃ (k : Nat) (n : Int),j <= k /\ k <= t.size /\ k <= j + 18 /\ vk = .int .i64 k /\ vv = .int .i64 n /\ Hid (n = vAll t j (k - j)) /\ 0 <= n /\ Hid (n < 10 ^ (k - j)) /\ Hid (E = zap isN t (t.size - k) k)) (fun vk _ => t.size - (intOf vk).toNat)
 case atStart => exact ⟨j,0,Nat.le_refl _,by omega,by omega,rfl,rfl,by rw [Nat.sub_self];rfl,by omega,by rw [Nat.sub_self];show (0 : Int) < 10 ^ 0;decide,HE⟩
 case round =>
  obtain ⟨k,n,hjk,hkt,hk18,rfl,rfl,hn,hn0,hn1,hp⟩:=hrel
  by_cases hlt : k < t.size
  ·have hbk : Hid (bAt t k = t[k].toNat):=za1 t k hlt
   by_cases h45 : (t[k].toNat : Int) = 45
   ·have h45' : ((t[k].toNat : Int) == 45) = true:=by simp [h45]
    have h45n : ((t[k].toNat : Int) != 45) = false:=by simp [h45]
    have hp1 : Hid (E = zap isN t (t.size - (k + 1)) (k + 1)):=ze2 _ _ _ _ hp.out hlt (by rw [hbk.out,h45];rfl)
    have H45 : Hid (bAt t k = 45):=by show _ = _;rw [hbk.out,h45]
    clear h45
    by_cases h17 : k = j + 18
    ·have h17' : (17 : Int) < (k : Int) - (j : Int):=by omega
     have H17 : Hid (k = j + 18):=h17
     clear h17
     go_wp2_with fail
     go_ret2
     have hlast : k + 1 <= E:=by rw [hp1.out];exact (zce _ _ _ _).1
     have:=H17.out
     rw [HP.out,if_pos (by omega)]
     exact ⟨rfl,Below.refl _ _⟩
    ·have h17' : ¬ (17 : Int) < (k : Int) - (j : Int):=by omega
     go_wp2_with fail
     go_round
     case rel =>
      refine ⟨k + 1,n,by omega,by omega,by omega,by go_num,rfl,?_,hn0,?_,hp1⟩
      ·show _ = _;rw [zr1 t j k hjk,if_pos H45.out];exact hn.out
      ·show _ < _
       have e : (10 : Int) ^ (k + 1 - j) = 10 ^ (k - j) * 10:=by rw [show k + 1 - j = (k - j) + 1 by omega,Int.pow_succ]
       have:=hn1.out;rw [e];omega
     case measure => simp [intOf];omega
   ·have h45' : ((t[k].toNat : Int) == 45) = false:=by simpa using h45
    have h45n : ((t[k].toNat : Int) != 45) = true:=by simpa using h45
    have hu:=t[k].toNat_lt
    by_cases hd : 48 <= (t[k].toNat : Int) /\ (t[k].toNat : Int) <= 57
    ·obtain ⟨hd1,hd2⟩:=hd
     have hp1 : Hid (E = zap isN t (t.size - (k + 1)) (k + 1)):=ze2 _ _ _ _ hp.out hlt (by rw [hbk.out];simp [isN,isD];left;omega)
     have H45 : Hid (¬ bAt t k = 45):=by show ¬ _;rw [hbk.out];exact h45
     by_cases h17 : k = j + 18
     ·have h17' : (17 : Int) < (k : Int) - (j : Int):=by omega
      have H17 : Hid (k = j + 18):=h17
      clear h17 h45
      go_wp2_with fail
      go_ret2
      have hlast : k + 1 <= E:=by rw [hp1.out];exact (zce _ _ _ _).1
      have:=H17.out
      rw [HP.out,if_pos (by omega)]
      exact ⟨rfl,Below.refl _ _⟩
     ·have h17' : ¬ (17 : Int) < (k : Int) - (j : Int):=by omega
      have hm:=zxt (k - j) (by omega)
      have hm' : n < 100000000000000000:=by have:=hn1.out;omega
      clear hm h45
      go_wp2_with fail
      go_round
      case rel =>
       refine ⟨k + 1,10 * n + ((t[k].toNat : Int) - 48),by omega,by omega,by omega,by go_num,zbz (by omega),?_,by omega,?_,hp1⟩
       ·show _ = _;rw [zr1 t j k hjk,if_neg H45.out,<- hn.out,hbk.out]
       ·show _ < _
        have e : (10 : Int) ^ (k + 1 - j) = 10 ^ (k - j) * 10:=by rw [show k + 1 - j = (k - j) + 1 by omega,Int.pow_succ]
        have:=hn1.out;rw [e];omega
      case measure => simp [intOf];omega
    ·have HEk : Hid (E = k):=zd4 _ _ _ _ hp.out (by rw [hbk.out];simp [isN,isD];constructor <;> omega)
     clear h45n
     have hsp : (t[k].toNat : Int) < 48 \/ 57 < (t[k].toNat : Int):=by omega
     clear hd h45
     rcases hsp with hsp | hsp
     iterate 2
      ·have hm:=zk9 (k - j) (by omega)
       have hm' : n < 1000000000000000000:=by have:=hn1.out;omega
       clear hm
       by_cases hneg : bAt t j = 45
       ·have hneg' : atB t j 45 = true:=zbe rfl hneg
        have HQ : Hid (layN t j lo hi = if decI (-n) = t.extract j k /\ lo <= -n /\ -n <= hi then some (zao (-n),k) else none):=by
         show _ = _;rw [HP.out,HEk.out,if_neg (by omega),<- hn.out];simp only [if_pos hneg]
        clear hneg
        by_cases hc : decI (-n) = t.extract j k
        ·have hc' : ((decI (-n)).toList == (t.extract j k).toList) = true:=by rw [hc];simp
         by_cases hlo : -n < lo
         ·have hr : Hid (layN t j lo hi = none):=by show _ = _;rw [HQ.out,if_neg (by omega)]
          clear HP HQ hc
          go_wp2_with (first | (go_at_call 93;refine (zah _ _ _ _ (by omega) _hs).mono ?_;rintro e w' ⟨rfl,rfl⟩) | (go_at_call 132;refine (zau _ _ (by omega) (by omega)).mono ?_;rintro e w1 ⟨rfl,hb1⟩) | (go_at_call 131;refine (zat _ _ (by omega) (by omega)).mono ?_;rintro e w2 ⟨rfl,hb2⟩))
          go_ret2
          rw [hr.out]
          exact ⟨rfl,hb1⟩
         ·by_cases hhi : hi < -n
          ·have hr : Hid (layN t j lo hi = none):=by show _ = _;rw [HQ.out,if_neg (by omega)]
           clear HP HQ hc
           go_wp2_with (first | (go_at_call 93;refine (zah _ _ _ _ (by omega) _hs).mono ?_;rintro e w' ⟨rfl,rfl⟩) | (go_at_call 132;refine (zau _ _ (by omega) (by omega)).mono ?_;rintro e w1 ⟨rfl,hb1⟩) | (go_at_call 131;refine (zat _ _ (by omega) (by omega)).mono ?_;rintro e w2 ⟨rfl,hb2⟩))
           go_ret2
           rw [hr.out]
           exact ⟨rfl,hb1⟩
          ·have hr : Hid (layN t j lo hi = some (zao (-n),k)):=by show _ = _;rw [HQ.out,if_pos ⟨hc,by omega,by omega⟩]
           clear HP HQ hc
           go_wp2_with (first | (go_at_call 93;refine (zah _ _ _ _ (by omega) _hs).mono ?_;rintro e w' ⟨rfl,rfl⟩) | (go_at_call 132;refine (zau _ _ (by omega) (by omega)).mono ?_;rintro e w1 ⟨rfl,hb1⟩) | (go_at_call 131;refine (zat _ _ (by omega) (by omega)).mono ?_;rintro e w2 ⟨rfl,hb2⟩))
           go_ret2
           rw [hr.out]
           exact ⟨rfl,hb1.trans (hb2.mono hb1.size)⟩
        ·have hc' : ((decI (-n)).toList == (t.extract j k).toList) = false:=by rw [ByteArray.toList_eq,ByteArray.toList_eq];simp only [beq_eq_false_iff_ne,ne_eq];intro h;exact hc (ByteArray.ext (Array.toList_inj.mp h))
         have hr : Hid (layN t j lo hi = none):=by show _ = _;rw [HQ.out,if_neg (fun h => hc h.1)]
         clear HP HQ hc
         go_wp2_with (first | (go_at_call 93;refine (zah _ _ _ _ (by omega) _hs).mono ?_;rintro e w' ⟨rfl,rfl⟩) | (go_at_call 132;refine (zau _ _ (by omega) (by omega)).mono ?_;rintro e w1 ⟨rfl,hb1⟩) | (go_at_call 131;refine (zat _ _ (by omega) (by omega)).mono ?_;rintro e w2 ⟨rfl,hb2⟩))
         go_ret2
         rw [hr.out]
         exact ⟨rfl,hb1⟩
       ·have hneg' : atB t j 45 = false:=zbb rfl hneg
        have HQ : Hid (layN t j lo hi = if decI (n) = t.extract j k /\ lo <= n /\ n <= hi then some (zao (n),k) else none):=by
         show _ = _;rw [HP.out,HEk.out,if_neg (by omega),<- hn.out];simp only [if_neg hneg]
        clear hneg
        by_cases hc : decI (n) = t.extract j k
        ·have hc' : ((decI (n)).toList == (t.extract j k).toList) = true:=by rw [hc];simp
         by_cases hlo : n < lo
         ·have hr : Hid (layN t j lo hi = none):=by show _ = _;rw [HQ.out,if_neg (by omega)]
          clear HP HQ hc
          go_wp2_with (first | (go_at_call 93;refine (zah _ _ _ _ (by omega) _hs).mono ?_;rintro e w' ⟨rfl,rfl⟩) | (go_at_call 132;refine (zau _ _ (by omega) (by omega)).mono ?_;rintro e w1 ⟨rfl,hb1⟩) | (go_at_call 131;refine (zat _ _ (by omega) (by omega)).mono ?_;rintro e w2 ⟨rfl,hb2⟩))
          go_ret2
          rw [hr.out]
          exact ⟨rfl,hb1⟩
         ·by_cases hhi : hi < n
          ·have hr : Hid (layN t j lo hi = none):=by show _ = _;rw [HQ.out,if_neg (by omega)]
           clear HP HQ hc
           go_wp2_with (first | (go_at_call 93;refine (zah _ _ _ _ (by omega) _hs).mono ?_;rintro e w' ⟨rfl,rfl⟩) | (go_at_call 132;refine (zau _ _ (by omega) (by omega)).mono ?_;rintro e w1 ⟨rfl,hb1⟩) | (go_at_call 131;refine (zat _ _ (by omega) (by omega)).mono ?_;rintro e w2 ⟨rfl,hb2⟩))
           go_ret2
           rw [hr.out]
           exact ⟨rfl,hb1⟩
          ·have hr : Hid (layN t j lo hi = some (zao (n),k)):=by show _ = _;rw [HQ.out,if_pos ⟨hc,by omega,by omega⟩]
           clear HP HQ hc
           go_wp2_with (first | (go_at_call 93;refine (zah _ _ _ _ (by omega) _hs).mono ?_;rintro e w' ⟨rfl,rfl⟩) | (go_at_call 132;refine (zau _ _ (by omega) (by omega)).mono ?_;rintro e w1 ⟨rfl,hb1⟩) | (go_at_call 131;refine (zat _ _ (by omega) (by omega)).mono ?_;rintro e w2 ⟨rfl,hb2⟩))
           go_ret2
           rw [hr.out]
           exact ⟨rfl,hb1.trans (hb2.mono hb1.size)⟩
        ·have hc' : ((decI (n)).toList == (t.extract j k).toList) = false:=by rw [ByteArray.toList_eq,ByteArray.toList_eq];simp only [beq_eq_false_iff_ne,ne_eq];intro h;exact hc (ByteArray.ext (Array.toList_inj.mp h))
         have hr : Hid (layN t j lo hi = none):=by show _ = _;rw [HQ.out,if_neg (fun h => hc h.1)]
         clear HP HQ hc
         go_wp2_with (first | (go_at_call 93;refine (zah _ _ _ _ (by omega) _hs).mono ?_;rintro e w' ⟨rfl,rfl⟩) | (go_at_call 132;refine (zau _ _ (by omega) (by omega)).mono ?_;rintro e w1 ⟨rfl,hb1⟩) | (go_at_call 131;refine (zat _ _ (by omega) (by omega)).mono ?_;rintro e w2 ⟨rfl,hb2⟩))
         go_ret2
         rw [hr.out]
         exact ⟨rfl,hb1⟩
  ·have HEk : Hid (E = k):=zd4 _ _ _ _ hp.out (by rw [zci t k (by omega)];rfl)
   have hm:=zk9 (k - j) (by omega)
   have hm' : n < 1000000000000000000:=by have:=hn1.out;omega
   clear hm
   by_cases hneg : bAt t j = 45
   ·have hneg' : atB t j 45 = true:=zbe rfl hneg
    have HQ : Hid (layN t j lo hi = if decI (-n) = t.extract j k /\ lo <= -n /\ -n <= hi then some (zao (-n),k) else none):=by
     show _ = _;rw [HP.out,HEk.out,if_neg (by omega),<- hn.out];simp only [if_pos hneg]
    clear hneg
    by_cases hc : decI (-n) = t.extract j k
    ·have hc' : ((decI (-n)).toList == (t.extract j k).toList) = true:=by rw [hc];simp
     by_cases hlo : -n < lo
     ·have hr : Hid (layN t j lo hi = none):=by show _ = _;rw [HQ.out,if_neg (by omega)]
      clear HP HQ hc
      go_wp2_with (first | (go_at_call 93;refine (zah _ _ _ _ (by omega) _hs).mono ?_;rintro e w' ⟨rfl,rfl⟩) | (go_at_call 132;refine (zau _ _ (by omega) (by omega)).mono ?_;rintro e w1 ⟨rfl,hb1⟩) | (go_at_call 131;refine (zat _ _ (by omega) (by omega)).mono ?_;rintro e w2 ⟨rfl,hb2⟩))
      go_ret2
      rw [hr.out]
      exact ⟨rfl,hb1⟩
     ·by_cases hhi : hi < -n
      ·have hr : Hid (layN t j lo hi = none):=by show _ = _;rw [HQ.out,if_neg (by omega)]
       clear HP HQ hc
       go_wp2_with (first | (go_at_call 93;refine (zah _ _ _ _ (by omega) _hs).mono ?_;rintro e w' ⟨rfl,rfl⟩) | (go_at_call 132;refine (zau _ _ (by omega) (by omega)).mono ?_;rintro e w1 ⟨rfl,hb1⟩) | (go_at_call 131;refine (zat _ _ (by omega) (by omega)).mono ?_;rintro e w2 ⟨rfl,hb2⟩))
       go_ret2
       rw [hr.out]
       exact ⟨rfl,hb1⟩
      ·have hr : Hid (layN t j lo hi = some (zao (-n),k)):=by show _ = _;rw [HQ.out,if_pos ⟨hc,by omega,by omega⟩]
       clear HP HQ hc
       go_wp2_with (first | (go_at_call 93;refine (zah _ _ _ _ (by omega) _hs).mono ?_;rintro e w' ⟨rfl,rfl⟩) | (go_at_call 132;refine (zau _ _ (by omega) (by omega)).mono ?_;rintro e w1 ⟨rfl,hb1⟩) | (go_at_call 131;refine (zat _ _ (by omega) (by omega)).mono ?_;rintro e w2 ⟨rfl,hb2⟩))
       go_ret2
       rw [hr.out]
       exact ⟨rfl,hb1.trans (hb2.mono hb1.size)⟩
    ·have hc' : ((decI (-n)).toList == (t.extract j k).toList) = false:=by rw [ByteArray.toList_eq,ByteArray.toList_eq];simp only [beq_eq_false_iff_ne,ne_eq];intro h;exact hc (ByteArray.ext (Array.toList_inj.mp h))
     have hr : Hid (layN t j lo hi = none):=by show _ = _;rw [HQ.out,if_neg (fun h => hc h.1)]
     clear HP HQ hc
     go_wp2_with (first | (go_at_call 93;refine (zah _ _ _ _ (by omega) _hs).mono ?_;rintro e w' ⟨rfl,rfl⟩) | (go_at_call 132;refine (zau _ _ (by omega) (by omega)).mono ?_;rintro e w1 ⟨rfl,hb1⟩) | (go_at_call 131;refine (zat _ _ (by omega) (by omega)).mono ?_;rintro e w2 ⟨rfl,hb2⟩))
     go_ret2
     rw [hr.out]
     exact ⟨rfl,hb1⟩
   ·have hneg' : atB t j 45 = false:=zbb rfl hneg
    have HQ : Hid (layN t j lo hi = if decI (n) = t.extract j k /\ lo <= n /\ n <= hi then some (zao (n),k) else none):=by
     show _ = _;rw [HP.out,HEk.out,if_neg (by omega),<- hn.out];simp only [if_neg hneg]
    clear hneg
    by_cases hc : decI (n) = t.extract j k
    ·have hc' : ((decI (n)).toList == (t.extract j k).toList) = true:=by rw [hc];simp
     by_cases hlo : n < lo
     ·have hr : Hid (layN t j lo hi = none):=by show _ = _;rw [HQ.out,if_neg (by omega)]
      clear HP HQ hc
      go_wp2_with (first | (go_at_call 93;refine (zah _ _ _ _ (by omega) _hs).mono ?_;rintro e w' ⟨rfl,rfl⟩) | (go_at_call 132;refine (zau _ _ (by omega) (by omega)).mono ?_;rintro e w1 ⟨rfl,hb1⟩) | (go_at_call 131;refine (zat _ _ (by omega) (by omega)).mono ?_;rintro e w2 ⟨rfl,hb2⟩))
      go_ret2
      rw [hr.out]
      exact ⟨rfl,hb1⟩
     ·by_cases hhi : hi < n
      ·have hr : Hid (layN t j lo hi = none):=by show _ = _;rw [HQ.out,if_neg (by omega)]
       clear HP HQ hc
       go_wp2_with (first | (go_at_call 93;refine (zah _ _ _ _ (by omega) _hs).mono ?_;rintro e w' ⟨rfl,rfl⟩) | (go_at_call 132;refine (zau _ _ (by omega) (by omega)).mono ?_;rintro e w1 ⟨rfl,hb1⟩) | (go_at_call 131;refine (zat _ _ (by omega) (by omega)).mono ?_;rintro e w2 ⟨rfl,hb2⟩))
       go_ret2
       rw [hr.out]
       exact ⟨rfl,hb1⟩
      ·have hr : Hid (layN t j lo hi = some (zao (n),k)):=by show _ = _;rw [HQ.out,if_pos ⟨hc,by omega,by omega⟩]
       clear HP HQ hc
       go_wp2_with (first | (go_at_call 93;refine (zah _ _ _ _ (by omega) _hs).mono ?_;rintro e w' ⟨rfl,rfl⟩) | (go_at_call 132;refine (zau _ _ (by omega) (by omega)).mono ?_;rintro e w1 ⟨rfl,hb1⟩) | (go_at_call 131;refine (zat _ _ (by omega) (by omega)).mono ?_;rintro e w2 ⟨rfl,hb2⟩))
       go_ret2
       rw [hr.out]
       exact ⟨rfl,hb1.trans (hb2.mono hb1.size)⟩
    ·have hc' : ((decI (n)).toList == (t.extract j k).toList) = false:=by rw [ByteArray.toList_eq,ByteArray.toList_eq];simp only [beq_eq_false_iff_ne,ne_eq];intro h;exact hc (ByteArray.ext (Array.toList_inj.mp h))
     have hr : Hid (layN t j lo hi = none):=by show _ = _;rw [HQ.out,if_neg (fun h => hc h.1)]
     clear HP HQ hc
     go_wp2_with (first | (go_at_call 93;refine (zah _ _ _ _ (by omega) _hs).mono ?_;rintro e w' ⟨rfl,rfl⟩) | (go_at_call 132;refine (zau _ _ (by omega) (by omega)).mono ?_;rintro e w1 ⟨rfl,hb1⟩) | (go_at_call 131;refine (zat _ _ (by omega) (by omega)).mono ?_;rintro e w2 ⟨rfl,hb2⟩))
     go_ret2
     rw [hr.out]
     exact ⟨rfl,hb1⟩
theorem zol (s : ByteArray) (a : Nat) (w : World) (_hs : s.size <= 9000000) (ha : a < s.size) :
  Calls Tryz.prog 128 #[.string s,.int .i64 a] w fun e w' => e = .returned (zbx (zbh s a)) /\ Below w.heap.size w w':=by
 by_cases hq : bAt s a = 34
 ·have hq' : atB s a 34 = true:=zbe rfl hq
  obtain ⟨E,hE⟩ : ∃ E,E = zap inS s (s.size - (a + 1)) (a + 1):=⟨_,rfl⟩
  have HE : Hid (E = zap inS s (s.size - (a + 1)) (a + 1)):=hE
  have hr : Hid (zbh s a = if bAt s E = 34 /\ E - (a + 1) <= 60 then some (oneB (E - (a + 1)) ++ s.extract (a + 1) E,E + 1) else none):=by show _ = _;unfold zbh;rw [if_pos hq,<- hE]
  clear hq hE
  go_enter Tryz.func128,Tryz.ntmps128
  go_wp2_with (go_at_call 93;refine (zah _ _ _ _ (by omega) _hs).mono ?_;rintro e w' ⟨rfl,rfl⟩)
  go_loop [6] (fun i => ∃ k : Nat,a + 1 <= k /\ k <= s.size /\ i = .int .i64 k /\ Hid (E = zap inS s (s.size - k) k)) (fun i => s.size - (intOf i).toNat)
  case atStart => exact ⟨a + 1,Nat.le_refl _,by omega,by go_num,HE⟩
  case round =>
   obtain ⟨k,hak,hk,rfl,hp⟩:=hrel
   by_cases hlt : k < s.size
   ·have hbk : Hid (bAt s k = s[k].toNat):=za1 s k hlt
    cases hd : inS (s[k].toNat : Int) with
    | true =>
     go_wp2_with (go_at_call 133;refine (zfn _ _).mono ?_;rintro e w' ⟨rfl,rfl⟩)
     go_round
     case rel => exact ⟨k + 1,by omega,by omega,by go_num,ze2 _ _ _ _ hp.out hlt (by rw [hbk.out];exact hd)⟩
     case measure => simp [intOf];omega
    | false =>
     have hEk : E = k:=zd4 _ _ _ _ hp.out (by rw [hbk.out];exact hd)
     rw [hEk] at hr
     clear HE hp hEk
     by_cases hq2 : bAt s k = 34
     ·have hq2' : atB s k 34 = true:=zbe rfl hq2
      by_cases h60 : (60 : Int) < (k : Int) - (a : Int) - 1
      ·have hr' : Hid (zbh s a = none):=by show _ = _;rw [hr.out,if_neg (by omega)]
       clear hr hq2 hbk
       go_wp2_with (first | (go_at_call 93;refine (zah _ _ _ _ (by omega) _hs).mono ?_;rintro e w' ⟨rfl,rfl⟩) | (go_at_call 133;refine (zfn _ _).mono ?_;rintro e w' ⟨rfl,rfl⟩))
       go_ret2
       rw [hr'.out]
       exact ⟨rfl,Below.refl _ _⟩
      ·have hr' : Hid (zbh s a = some (oneB (k - (a + 1)) ++ s.extract (a + 1) k,k + 1)):=by show _ = _;rw [hr.out,if_pos ⟨hq2,by omega⟩]
       have hsz : (oneB ((k : Int) - (a : Int) - 1).toNat).size = 1:=rfl
       have hsx:=size_extract s (a + 1) k (by omega) (by omega)
       have hone : ∀ x,(oneB x).size = 1:=fun _ => rfl
       have hsx' : ((s.extract (a + 1) k).size : Int) <= 8388608:=by omega
       have hw1 : IntKind.i64.wrap ((a : Int) + 1) = (a : Int) + 1:=by rw [IntKind.wrap_i64];omega
       have hw2 : IntKind.i64.wrap ((k : Int) + 1) = (k : Int) + 1:=by rw [IntKind.wrap_i64];omega
       have i1 : (0 : Int) <= (a : Int) + 1:=by omega
       have i2 : (a : Int) + 1 <= (k : Int):=by omega
       have i3 : (k : Int) <= (s.size : Int):=by omega
       clear hr hq2 hbk
       go_wp2_with (first | (go_at_call 93;refine (zah _ _ _ _ (by omega) _hs).mono ?_;rintro e w' ⟨rfl,rfl⟩) | (go_at_call 133;refine (zfn _ _).mono ?_;rintro e w' ⟨rfl,rfl⟩))
       go_region_with (go_at_call 95;refine (zo4 _ _ (by omega) (by omega)).mono ?_;rintro e w1 ⟨rfl,hb1⟩)
       go_wp2_with fail
       go_ret2
       rw [hr'.out]
       refine ⟨ret2 (zl4 ?_) (zbz ?_),?_⟩
       ·rw [show k - (a + 1) = k - a - 1 by omega]
       ·omega
       ·exact (Below.refl _ _).drew.trans (hb1.mono (by simp))
     ·have hq2' : atB s k 34 = false:=zbb rfl hq2
      have hr' : Hid (zbh s a = none):=by show _ = _;rw [hr.out,if_neg (fun h => hq2 h.1)]
      clear hr hq2 hbk
      go_wp2_with (first | (go_at_call 93;refine (zah _ _ _ _ (by omega) _hs).mono ?_;rintro e w' ⟨rfl,rfl⟩) | (go_at_call 133;refine (zfn _ _).mono ?_;rintro e w' ⟨rfl,rfl⟩))
      go_ret2
      rw [hr'.out]
      exact ⟨rfl,Below.refl _ _⟩
   ·have hEk : E = k:=zd4 _ _ _ _ hp.out (by rw [zci s k (by omega)];rfl)
    have hq2' : atB s k 34 = false:=zbb rfl (by rw [zci s k (by omega)];omega)
    have hr' : Hid (zbh s a = none):=by show _ = _;rw [hr.out,hEk,if_neg (by rw [zci s k (by omega)];omega)]
    clear hr hEk HE hp
    go_wp2_with (first | (go_at_call 93;refine (zah _ _ _ _ (by omega) _hs).mono ?_;rintro e w' ⟨rfl,rfl⟩))
    go_ret2
    rw [hr'.out]
    exact ⟨rfl,Below.refl _ _⟩
 ·have hq' : atB s a 34 = false:=zbb rfl hq
  have hr : Hid (zbh s a = none):=by show _ = _;unfold zbh;rw [if_neg hq]
  clear hq
  go_enter Tryz.func128,Tryz.ntmps128
  go_wp2_with (go_at_call 93;refine (zah _ _ _ _ (by omega) _hs).mono ?_;rintro e w' ⟨rfl,rfl⟩)
  go_ret2
  rw [hr.out]
  exact ⟨rfl,Below.refl _ _⟩
end
end Go.Proofs.YtkkekopomiehlaaGreat
