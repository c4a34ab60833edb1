import Derived.Test.YtkkekopomiehlabHPure
import Derived.Deep.AppendLies
import Derived.Deep.MidRow
import Derived.Laws.PanicsMore
import Derived.Deep.RegionHeld3
set_option linter.unusedVariables false
set_option linter.unusedSimpArgs false
set_option maxHeartbeats 40000000
namespace Go.Proofs.Ytkkekopomiehlab
section
open Go.RowKit
theorem zg4 (s : ByteArray) (a : Nat) : ∀ m,(∀ j,j < m -> 48 <= bAt s (a + j)) -> 0 <= dVal s a m
 | 0,_ => by simp [dVal]
 | m + 1,h => by
  have:=zg4 s a m (fun j hj => h j (by omega));have:=h m (by omega);rw [dVal];omega
theorem zg3 (s : ByteArray) (a : Nat) : ∀ m,(∀ j,j < m -> bAt s (a + j) <= 57) -> dVal s a m < 10 ^ m
 | 0,_ => by simp [dVal]
 | m + 1,h => by
  have:=zg3 s a m (fun j hj => h j (by omega));have:=h m (by omega);rw [dVal,Int.pow_succ];omega
theorem zes (p : Int -> Bool) (s : ByteArray) : ∀ (m e j : Nat),e <= j -> j < zao p s m e -> p (bAt s j) = true
 | 0,e,j,h1,h2 => by simp [zao] at h2;omega
 | m + 1,e,j,h1,h2 => by
  rw [zao] at h2;split at h2
  ·by_cases hj : j = e
   ·subst hj;assumption
   ·exact zes p s m (e + 1) j (by omega) h2
  ·omega
theorem zep {s : ByteArray} {a e : Nat} {n : Int} (h : pDig s a = some (n,e)) : a < e /\ e <= s.size /\ 0 <= n /\ n < 10000000000000000:=by
 unfold pDig at h
 simp only at h
 obtain ⟨E,hE⟩ : ∃ E,E = zao isD s (s.size - a) a:=⟨_,rfl⟩
 rw [<- hE] at h
 split at h
 ·cases h
 ·rename_i hc
  simp only [Option.some.injEq,Prod.mk.injEq] at h
  obtain ⟨rfl,rfl⟩:=h
  have hle:=zcb isD s (s.size - a) a
  rw [<- hE] at hle
  have hd : ∀ j,j < E - a -> isD (bAt s (a + j)) = true:=fun j hj => zes isD s (s.size - a) a (a + j) (by omega) (by rw [<- hE];omega)
  have hlt : a < E:=by omega
  have hlast:=zeh (hd (E - a - 1) (by omega))
  refine ⟨hlt,by omega,zg4 _ _ _ (fun j hj => (zeh (hd j hj)).2.1),?_⟩
  have h1:=zg3 s a (E - a) (fun j hj => (zeh (hd j hj)).2.2)
  have h2:=ziz (E - a) (by omega)
  omega
def zml (a : Nat) : Option (Int × Nat) -> Value
 | some (n,e) => .tuple #[.int .i64 n,.int .i64 e,.bool true]
 | none => .tuple #[.int .i64 0,.int .i64 a,.bool false]
theorem zij {s : ByteArray} {a e : Nat} {n : Int} (h : pNum s a = some (n,e)) : a < e /\ e <= s.size /\ -10000000000000000 < n /\ n < 10000000000000000:=by
 unfold pNum at h
 split at h
 ·split at h
  ·cases h
  ·rename_i n' e' hd
   have:=zep hd
   split at h
   ·cases h
   ·simp only [Option.some.injEq,Prod.mk.injEq] at h
    omega
 ·have:=zep h;omega
theorem zin {s : ByteArray} {a : Nat} {n : Int} {e : Nat} (h : pDig s a = some (n,e)) (w : World) (hs : s.size <= 9000000) (ha : a <= s.size + 1) :
  Calls Try.prog 94 #[.string s,.int .i64 a] w fun r w' => r = .returned (.tuple #[.int .i64 n,.int .i64 e,.bool true]) /\ w' = w:=by
 have:=zil s a w hs ha;rw [h] at this;exact this
theorem zim {s : ByteArray} {a : Nat} (h : pDig s a = none) (w : World) (hs : s.size <= 9000000) (ha : a <= s.size + 1) :
  Calls Try.prog 94 #[.string s,.int .i64 a] w fun r w' => r = .returned (.tuple #[.int .i64 0,.int .i64 a,.bool false]) /\ w' = w:=by
 have:=zil s a w hs ha;rw [h] at this;exact this
theorem zio (s : ByteArray) (a : Nat) (w : World) (_hs : s.size <= 9000000) (ha : a <= s.size) :
  Calls Try.prog 91 #[.string s,.int .i64 a] w fun e w' => e = .returned (zml a (pNum s a)) /\ w' = w:=by
 by_cases hm : bAt s a = 45
 ·have hm' : (bAt s a == 45) = true:=by simp [hm]
  have HM : Hid (bAt s a = 45):=hm
  clear hm
  cases hp : pDig s (a + 1) with
  | none =>
   have hr : Hid (pNum s a = none):=by show _ = _;unfold pNum;rw [if_pos HM.out,hp]
   have hd:=fun w => zim hp w _hs (by omega)
   clear hp
   go_enter Try.func91,Try.ntmps91
   go_wp2_with (first | (go_at_call 68;refine (zaw _ _ _ _hs).mono ?_;rintro e w' ⟨rfl,rfl⟩) | (go_at_call 94;refine (hd _).mono ?_;rintro e w' ⟨rfl,rfl⟩))
   go_ret3
   rw [hr.out]
   exact ⟨rfl,rfl⟩
  | some p =>
   obtain ⟨n,e⟩:=p
   have hb:=zep hp
   obtain ⟨hb1,hb2,hb3,hb4⟩:=hb
   have hd:=fun w => zin hp w _hs (by omega)
   by_cases h0 : n = 0
   ·subst h0
    have hr : Hid (pNum s a = none):=by show _ = _;unfold pNum;rw [if_pos HM.out,hp];rfl
    clear hp
    go_enter Try.func91,Try.ntmps91
    go_wp2_with (first | (go_at_call 68;refine (zaw _ _ _ _hs).mono ?_;rintro e w' ⟨rfl,rfl⟩) | (go_at_call 94;refine (hd _).mono ?_;rintro e w' ⟨rfl,rfl⟩))
    go_ret3
    rw [hr.out]
    exact ⟨rfl,rfl⟩
   ·have hr : Hid (pNum s a = some (-n,e)):=by show _ = _;unfold pNum;rw [if_pos HM.out,hp];simp only [if_neg h0]
    have h0' : (n == 0) = false:=by simpa using h0
    clear hp
    go_enter Try.func91,Try.ntmps91
    go_wp2_with (first | (go_at_call 68;refine (zaw _ _ _ _hs).mono ?_;rintro e w' ⟨rfl,rfl⟩) | (go_at_call 94;refine (hd _).mono ?_;rintro e w' ⟨rfl,rfl⟩))
    go_ret3
    rw [hr.out]
    exact ⟨rfl,rfl⟩
 ·have hm' : (bAt s a == 45) = false:=by simpa using hm
  have hr : Hid (pNum s a = pDig s a):=by show _ = _;unfold pNum;rw [if_neg hm]
  cases hp : pDig s a with
  | none =>
   rw [hp] at hr
   have hd:=fun w => zim hp w _hs (by omega)
   clear hp
   go_enter Try.func91,Try.ntmps91
   go_wp2_with (first | (go_at_call 68;refine (zaw _ _ _ _hs).mono ?_;rintro e w' ⟨rfl,rfl⟩) | (go_at_call 94;refine (hd _).mono ?_;rintro e w' ⟨rfl,rfl⟩))
   go_ret3
   rw [hr.out]
   exact ⟨rfl,rfl⟩
  | some p =>
   obtain ⟨n,e⟩:=p
   rw [hp] at hr
   have hb:=zep hp
   obtain ⟨hb1,hb2,hb3,hb4⟩:=hb
   have hd:=fun w => zin hp w _hs (by omega)
   clear hp
   go_enter Try.func91,Try.ntmps91
   go_wp2_with (first | (go_at_call 68;refine (zaw _ _ _ _hs).mono ?_;rintro e w' ⟨rfl,rfl⟩) | (go_at_call 94;refine (hd _).mono ?_;rintro e w' ⟨rfl,rfl⟩))
   go_ret3
   rw [hr.out]
   exact ⟨rfl,rfl⟩
set_option maxRecDepth 10000 in
theorem zmm (n : Int) (w : World) (h1 : -10000000000000000 <= n) (h2 : n <= 10000000000000000) :
  Calls Try.prog 92 #[.int .i64 n] w fun e w' => e = .returned (.string (zcx n)) /\ Below w.heap.size w w':=by
 obtain ⟨U,hU⟩ : ∃ U,U = zig n:=⟨_,rfl⟩
 obtain ⟨D,hD⟩ : ∃ D,D = zcx n:=⟨_,rfl⟩
 rw [<- hD]
 have HD : Hid (D = codU 8 ByteArray.empty U):=by show _ = _;rw [hD,hU];rfl
 have hUb : U <= 20000000000000000:=by rw [hU];unfold zig;split <;> omega
 clear hD
 by_cases hn : n < 0
 all_goals
  have hUn : Hid ((U : Int) = if n < 0 then -2 * n - 1 else 2 * n):=by show _ = _;rw [hU];unfold zig;split <;> omega
  clear hU
  go_enter Try.func92,Try.ntmps92
  go_wp2_with fail
  go_loopw [3,4] (fun u d wr => ∃ (m v : Nat) (acc : ByteArray),m <= 8 /\ acc.size + m = 8 /\ u = .int .i64 v /\ d = .string acc /\ v <= 20000000000000000 /\ Hid (D = codU m acc v) /\ Hid (v < 128 ^ (m + 1)) /\ Below w.heap.size w wr) (fun u _ _ => (intOf u).toNat)
  case atStart =>
   refine ⟨8,U,ByteArray.empty,Nat.le_refl _,rfl,zcr ?_,rfl,hUb,HD,?_,Below.refl _ _⟩
   ·rw [hUn.out];first | rw [if_pos hn] | rw [if_neg (by omega)]
   ·show U < 128 ^ 9;omega
  case round =>
   obtain ⟨m,v,acc,hm,hacc,rfl,rfl,hv,hD,hlt,hb⟩:=hrel
   by_cases hge : 128 <= v
   ·have hm1 : 0 < m:=by
     rcases Nat.eq_zero_or_pos m with h | h
     ·subst h;have:=hlt.out;omega
     ·exact h
    obtain ⟨m',rfl⟩ : ∃ m',m = m' + 1:=⟨m - 1,by omega⟩
    have hsz : (oneB ((v : Int) % 128 + 128).toNat).size = 1:=rfl
    go_wp2_with (go_at_call 70;refine (zen _ _ (by omega) (by omega)).mono ?_;rintro e w' ⟨rfl,hb'⟩)
    go_roundw
    case rel =>
     refine ⟨m',v / 128,acc ++ oneB ((v : Int) % 128 + 128).toNat,by omega,by rw [ByteArray.size_append,hsz];omega,by go_num,rfl,by omega,?_,?_,hb.trans (hb'.mono hb.size)⟩
     ·show _ = _
      rw [hD.out,codU,if_pos hge,show ((v : Int) % 128 + 128).toNat = v % 128 + 128 by omega]
     ·show _ < _
      have:=hlt.out
      rw [Nat.pow_succ] at this
      omega
    case measure => simp [intOf];omega
   ·have hsz : (oneB v).size = 1:=rfl
    go_wp2_with (go_at_call 70;refine (zch _ _ (by omega)).mono ?_;rintro e w' ⟨rfl,hb'⟩)
    go_ret
    refine ⟨zf6 ?_,hb.trans (hb'.mono hb.size)⟩
    rw [hD.out]
    cases m with
    | zero => rfl
    | succ m => rw [codU,if_neg hge]
end
section
open Go.RowKit
def zck (a : Nat) : Option (ByteArray × Nat) -> Value
 | some (d,k) => .tuple #[.string d,.int .i64 k,.bool true]
 | none => .tuple #[.string ByteArray.empty,.int .i64 a,.bool false]
theorem znh {s : ByteArray} {a : Nat} {n : Int} {e : Nat} (h : pNum s a = some (n,e)) (w : World) (hs : s.size <= 9000000) (ha : a <= s.size) :
  Calls Try.prog 91 #[.string s,.int .i64 a] w fun r w' => r = .returned (.tuple #[.int .i64 n,.int .i64 e,.bool true]) /\ w' = w:=by
 have:=zio s a w hs ha;rw [h] at this;exact this
theorem zng {s : ByteArray} {a : Nat} (h : pNum s a = none) (w : World) (hs : s.size <= 9000000) (ha : a <= s.size) :
  Calls Try.prog 91 #[.string s,.int .i64 a] w fun r w' => r = .returned (.tuple #[.int .i64 0,.int .i64 a,.bool false]) /\ w' = w:=by
 have:=zio s a w hs ha;rw [h] at this;exact this
theorem zec (lo hi : Int) (s : ByteArray) (a : Nat) (w : World) (_hs : s.size <= 9000000) (ha : a <= s.size) :
  Calls Try.prog 85 #[.int .i64 lo,.int .i64 hi,.string s,.int .i64 a] w fun e w' => e = .returned (zck a (zaz false lo hi s a)) /\ Below w.heap.size w w':=by
 cases hp : pNum s a with
 | none =>
  have hr : Hid (zaz false lo hi s a = none):=by show _ = _;unfold zaz;rw [hp]
  have hd:=fun w => zng hp w _hs ha
  clear hp
  go_enter Try.func85,Try.ntmps85
  go_wp2_with (go_at_call 91;refine (hd _).mono ?_;rintro e w' ⟨rfl,rfl⟩)
  go_ret3
  rw [hr.out]
  exact ⟨rfl,Below.refl _ _⟩
 | some p =>
  obtain ⟨n,e⟩:=p
  obtain ⟨hb1,hb2,hb3,hb4⟩:=zij hp
  have hd:=fun w => znh hp w _hs ha
  by_cases hlo : n < lo
  ·have hr : Hid (zaz false lo hi s a = none):=by show _ = _;unfold zaz;rw [hp];simp [hlo]
   clear hp
   go_enter Try.func85,Try.ntmps85
   go_wp2_with (go_at_call 91;refine (hd _).mono ?_;rintro e w' ⟨rfl,rfl⟩)
   go_ret3
   rw [hr.out]
   exact ⟨rfl,Below.refl _ _⟩
  ·by_cases hhi : hi < n
   ·have hr : Hid (zaz false lo hi s a = none):=by show _ = _;unfold zaz;rw [hp];simp [hhi]
    clear hp
    go_enter Try.func85,Try.ntmps85
    go_wp2_with (go_at_call 91;refine (hd _).mono ?_;rintro e w' ⟨rfl,rfl⟩)
    go_ret3
    rw [hr.out]
    exact ⟨rfl,Below.refl _ _⟩
   ·have hr : Hid (zaz false lo hi s a = some (zcx n,e)):=by show _ = _;unfold zaz;rw [hp];simp [hlo,hhi]
    clear hp
    go_enter Try.func85,Try.ntmps85
    go_wp2_with (first | (go_at_call 91;refine (hd _).mono ?_;rintro e w' ⟨rfl,rfl⟩) | (go_at_call 92;refine (zmm _ _ (by omega) (by omega)).mono ?_;rintro e w' ⟨rfl,hbw⟩))
    go_ret3
    rw [hr.out]
    exact ⟨rfl,hbw⟩
theorem zif (l : ByteArray) (c : Int) : ∀ m k,zay l c m k < (k + m : Int) \/ zay l c m k < 0
 | 0,k => by simp [zay]
 | m + 1,k => by
  rw [zay];split
  ·left;omega
  ·have:=zif l c m (k + 1);omega
theorem zie (l : ByteArray) (c : Int) : ∀ m k,-1 <= zay l c m k
 | 0,k => by simp [zay]
 | m + 1,k => by
  rw [zay];split
  ·omega
  ·exact zie l c m (k + 1)
theorem zm6 (l : ByteArray) (c : Int) (h : l.size <= 8) : -1 <= pOf l c /\ pOf l c < 8:=by
 have h1:=zif l c l.size 0;have h2:=zie l c l.size 0;unfold pOf;omega
def zbr (l t : ByteArray) (j : Nat) : Option (ByteArray × Nat):=if pOf l (bAt t j) < 0 then none else some (oneB (pOf l (bAt t j)).toNat,j + 1)
theorem zhf (l s : ByteArray) (a : Nat) (w : World) (_hs : s.size <= 9000000) (hl : l.size <= 8) (ha : a <= s.size) :
  Calls Try.prog 87 #[.string l,.string s,.int .i64 a] w fun e w' => e = .returned (zck a (zbr l s a)) /\ Below w.heap.size w w':=by
 have hp:=zm6 l (bAt s a) hl
 obtain ⟨hp1,hp2⟩:=hp
 by_cases h0 : pOf l (bAt s a) < 0
 ·have hr : Hid (zbr l s a = none):=by show _ = _;unfold zbr;rw [if_pos h0]
  go_enter Try.func87,Try.ntmps87
  go_wp2_with (first | (go_at_call 68;refine (zaw _ _ _ _hs).mono ?_;rintro e w' ⟨rfl,rfl⟩) | (go_at_call 80;refine (zcz _ _ _ (by omega)).mono ?_;rintro e w' ⟨rfl,rfl⟩))
  go_ret3
  rw [hr.out]
  exact ⟨rfl,Below.refl _ _⟩
 ·have hr : Hid (zbr l s a = some (oneB (pOf l (bAt s a)).toNat,a + 1)):=by show _ = _;unfold zbr;rw [if_neg h0]
  go_enter Try.func87,Try.ntmps87
  go_wp2_with (first | (go_at_call 68;refine (zaw _ _ _ _hs).mono ?_;rintro e w' ⟨rfl,rfl⟩) | (go_at_call 80;refine (zcz _ _ _ (by omega)).mono ?_;rintro e w' ⟨rfl,rfl⟩) | (go_at_call 70;refine (zen _ _ (by omega) (by omega)).mono ?_;rintro e w' ⟨rfl,hbw⟩))
  go_ret3
  rw [hr.out]
  exact ⟨rfl,hbw⟩
theorem zhj (s : ByteArray) (a : Nat) (w : World) (_hs : s.size <= 9000000) (ha : a <= s.size) :
  Calls Try.prog 86 #[.string s,.int .i64 a] w fun e w' => e = .returned (zck a (zbk s a)) /\ Below w.heap.size w w':=by
 by_cases hq : bAt s a = 34
 ·have hq' : (bAt s a != 34) = false:=by simp [hq]
  obtain ⟨E,hE⟩ : ∃ E,E = zao inS s (s.size - (a + 1)) (a + 1):=⟨_,rfl⟩
  have HE : Hid (E = zao inS s (s.size - (a + 1)) (a + 1)):=hE
  have hr : Hid (zbk s a = if bAt s E = 34 /\ E - (a + 1) <= 60 then some (oneB (E - (a + 1)) ++ s.extract (a + 1) E,E + 1) else none):=by show _ = _;unfold zbk;rw [if_pos hq,<- hE]
  have hal : a < s.size:=zaq (by omega)
  clear hq hE
  go_enter Try.func86,Try.ntmps86
  go_wp2_with (go_at_call 68;refine (zaw _ _ _ _hs).mono ?_;rintro e w' ⟨rfl,rfl⟩)
  go_loop [8] (fun i => ∃ k : Nat,a + 1 <= k /\ k <= s.size /\ i = .int .i64 k /\ Hid (E = zao inS s (s.size - k) k)) (fun i => s.size - (intOf i).toNat)
  case atStart => exact ⟨a + 1,Nat.le_refl _,by omega,by go_num,HE⟩
  case round =>
   obtain ⟨k,hak,hk,rfl,hp⟩:=hrel
   cases hd : inS (bAt s k) with
   | true =>
    have hlt:=zlv hd
    go_wp2_with (first | (go_at_call 68;refine (zaw _ _ _ _hs).mono ?_;rintro e w' ⟨rfl,rfl⟩) | (go_at_call 93;refine (zef _ _).mono ?_;rintro e w' ⟨rfl,rfl⟩))
    go_round
    case rel => exact ⟨k + 1,by omega,by omega,by go_num,zja _ _ _ _ hp.out hlt hd⟩
    case measure => simp [intOf];omega
   | false =>
    have hEk : E = k:=zjb _ _ _ _ hp.out hd
    rw [hEk] at hr
    clear HE hp hEk
    by_cases hq2 : bAt s k = 34
    ·have hq2' : (bAt s k != 34) = false:=by simp [hq2]
     by_cases h60 : (60 : Int) < (k : Int) - ((a : Int) + 1)
     ·have hr' : Hid (zbk s a = none):=by show _ = _;rw [hr.out,if_neg (by omega)]
      clear hr hq2
      go_wp2_with (first | (go_at_call 68;refine (zaw _ _ _ _hs).mono ?_;rintro e w' ⟨rfl,rfl⟩) | (go_at_call 93;refine (zef _ _).mono ?_;rintro e w' ⟨rfl,rfl⟩))
      go_ret3
      rw [hr'.out]
      exact ⟨rfl,Below.refl _ _⟩
     ·have hr' : Hid (zbk s a = some (oneB (k - (a + 1)) ++ s.extract (a + 1) k,k + 1)):=by show _ = _;rw [hr.out,if_pos ⟨hq2,by omega⟩]
      have hsz : (oneB ((k : Int) - ((a : Int) + 1)).toNat).size = 1:=rfl
      have hsx:=size_extract s (a + 1) k (by omega) (by omega)
      clear hr hq2
      go_wp2_with (first | (go_at_call 68;refine (zaw _ _ _ _hs).mono ?_;rintro e w' ⟨rfl,rfl⟩) | (go_at_call 93;refine (zef _ _).mono ?_;rintro e w' ⟨rfl,rfl⟩) | (go_at_call 70;refine (zen _ _ (by omega) (by omega)).mono ?_;rintro e w' ⟨rfl,hbw⟩) | (go_at_call 79;refine (zbu s (a + 1) k _ (by omega) (by omega) _hs).mono ?_;rintro e w' ⟨rfl,rfl⟩))
      go_ret3
      rw [hr'.out]
      refine ⟨ret3 (zps ?_) (zcr ?_) rfl,hbw⟩
      ·rfl
      ·omega
    ·have hq2' : (bAt s k != 34) = true:=by simpa using hq2
     have hr' : Hid (zbk s a = none):=by show _ = _;rw [hr.out,if_neg (fun h => hq2 h.1)]
     clear hr hq2
     go_wp2_with (first | (go_at_call 68;refine (zaw _ _ _ _hs).mono ?_;rintro e w' ⟨rfl,rfl⟩) | (go_at_call 93;refine (zef _ _).mono ?_;rintro e w' ⟨rfl,rfl⟩))
     go_ret3
     rw [hr'.out]
     exact ⟨rfl,Below.refl _ _⟩
 ·have hq' : (bAt s a != 34) = true:=by simpa using hq
  have hr : Hid (zbk s a = none):=by show _ = _;unfold zbk;rw [if_neg hq]
  clear hq
  go_enter Try.func86,Try.ntmps86
  go_wp2_with (go_at_call 68;refine (zaw _ _ _ _hs).mono ?_;rintro e w' ⟨rfl,rfl⟩)
  go_ret3
  rw [hr.out]
  exact ⟨rfl,Below.refl _ _⟩
end
section
open Go.RowKit
theorem zam {B : Nat} {W w1 : World} (hb : Below B W w1) : (∀ b o,b < B -> w1.cell? ⟨b,o,none⟩ = W.cell? ⟨b,o,none⟩) /\ (∀ b o,b < B -> w1.frozen? ⟨b,o,none⟩ = W.frozen? ⟨b,o,none⟩) :=
 ⟨fun b o h => hb.cell (p:=⟨b,o,none⟩) h,fun b o h => hb.frozen (p:=⟨b,o,none⟩) h⟩
theorem zaj {w : World} {b o : Nat} {v : Value} (h : w.cell? ⟨b,o,none⟩ = some v) : b < w.heap.size:=World.block_lt_of_cell? w ⟨b,o,none⟩ h
def Rep : Nat -> World -> Option Addr -> Nat -> Nat -> Option Addr -> Nat -> Nat -> Ty -> Prop
 | 0,_,_,_,_,_,_,_,_ => False
 | n + 1,w,ai,li,ci,af,lf,cf,ty => ty.letters.size <= 8 /\ ty.fields.length <= 9000000 /\ lf = ty.fields.length /\ ((ty.kind = 91 \/ ty.kind = 63 -> ty.inner ≠ []) /\ (ty.kind = 123 -> ty.fields ≠ [])) /\
   ((ty.inner = [] /\ ai = none /\ li = 0 /\ ci = 0) \/
    ∃ t b p1 p2 p3 q1 q2 q3,ty.inner = [t] /\ ai = some ⟨b,0,none⟩ /\ li = 1 /\ Rep n w p1 p2 p3 q1 q2 q3 t /\
     w.cell? ⟨b,0,none⟩ = some (.int .i64 t.kind) /\ w.cell? ⟨b,1,none⟩ = some (.string t.letters) /\ w.cell? ⟨b,2,none⟩ = some (.bool t.op) /\ w.cell? ⟨b,3,none⟩ = some (.slice p1 p2 p3) /\ w.cell? ⟨b,4,none⟩ = some (.slice q1 q2 q3)) /\
   ((ty.fields = [] /\ af = none /\ lf = 0 /\ cf = 0) \/
    ∃ g,af = some ⟨g,0,none⟩ /\
     ∀ i f,ty.fields[i]? = some f -> ∃ p1 p2 p3 q1 q2 q3,Rep n w p1 p2 p3 q1 q2 q3 f.2.1 /\ w.cell? ⟨g,i * 7,none⟩ = some (.int .i64 f.1) /\
      w.cell? ⟨g,i * 7 + 1,none⟩ = some (.int .i64 f.2.1.kind) /\ w.cell? ⟨g,i * 7 + 2,none⟩ = some (.string f.2.1.letters) /\ w.cell? ⟨g,i * 7 + 3,none⟩ = some (.bool f.2.1.op) /\ w.cell? ⟨g,i * 7 + 4,none⟩ = some (.slice p1 p2 p3) /\ w.cell? ⟨g,i * 7 + 5,none⟩ = some (.slice q1 q2 q3) /\
      w.cell? ⟨g,i * 7 + 6,none⟩ = some (.string f.2.2))
theorem zaa {w w' : World} (hb : Below w.heap.size w w') {b o : Nat} {v : Value} (h : w.cell? ⟨b,o,none⟩ = some v) : w'.cell? ⟨b,o,none⟩ = some v:=by
 rw [hb.cell (p:=⟨b,o,none⟩) (zaj h)];exact h
theorem Rep.keep {w w' : World} (hb : Below w.heap.size w w') : ∀ {n : Nat} {ai af : Option Addr} {li ci lf cf : Nat} {ty : Ty},Rep n w ai li ci af lf cf ty -> Rep n w' ai li ci af lf cf ty
 | 0,_,_,_,_,_,_,_,h => h
 | n + 1,ai,af,li,ci,lf,cf,ty,h => by
  obtain ⟨hl,hn,hlf,hk,hi,hf⟩:=h
  refine ⟨hl,hn,hlf,hk,?_,?_⟩
  ·rcases hi with hi | ⟨t,b,p1,p2,p3,q1,q2,q3,h1,h2,h2',h3,k0,k1,k2,k3,k4⟩
   ·exact .inl hi
   ·exact .inr ⟨t,b,p1,p2,p3,q1,q2,q3,h1,h2,h2',Rep.keep hb h3,zaa hb k0,zaa hb k1,zaa hb k2,zaa hb k3,zaa hb k4⟩
  ·rcases hf with hf | ⟨g,h1,h2⟩
   ·exact .inl hf
   ·refine .inr ⟨g,h1,fun i f hi => ?_⟩
    obtain ⟨p1,p2,p3,q1,q2,q3,h3,k0,k1,k2,k3,k4,k5,k6⟩:=h2 i f hi
    exact ⟨p1,p2,p3,q1,q2,q3,Rep.keep hb h3,zaa hb k0,zaa hb k1,zaa hb k2,zaa hb k3,zaa hb k4,zaa hb k5,zaa hb k6⟩
theorem zeg (n : Nat) (w : World) (ai af : Option Addr) (li ci lf cf : Nat) (ty : Ty) (h : Rep (n + 1) w ai li ci af lf cf ty) (hne : ty.inner ≠ []) :
  Calls Try.prog 57 #[.agg #[.int .i64 ty.kind,.string ty.letters,.bool ty.op,.slice ai li ci,.slice af lf cf]] w fun e w' => ∃ p1 p2 p3 q1 q2 q3,e = .returned (.agg #[.int .i64 ty.in.kind,.string ty.in.letters,.bool ty.in.op,.slice p1 p2 p3,.slice q1 q2 q3]) /\ Rep n w' p1 p2 p3 q1 q2 q3 ty.in /\ Below w.heap.size w w':=by
 obtain ⟨hl,hn,hlf,hk,hi,hf⟩:=h
 clear hf hk
 rcases hi with ⟨hi,_⟩ | ⟨t,b,p1,p2,p3,q1,q2,q3,h1,rfl,rfl,h3,k0,k1,k2,k3,k4⟩
 ·exact absurd hi hne
 ·have hin : ty.in = t:=by unfold Ty.in;rw [h1];rfl
  rw [hin]
  have hb:=zaj k0
  clear hne h1 hin hlf
  go_enter Try.func57,Try.ntmps57
  go_wp2
  have hB : Below w.heap.size w ((w.alloc (.cells #[.int .i64 ty.kind,.string ty.letters,.bool ty.op,.slice (some ⟨b,0,none⟩) 1 ci,.slice af lf cf] 99)).alloc (.cells #[.int .i64 t.kind,.string t.letters,.bool t.op,.slice p1 p2 p3,.slice q1 q2 q3] 99)) :=
   ((Below.refl _ _).alloc (Nat.le_refl _) _).alloc (by simp) _
  exact bodyPost_ret (v:=.agg #[.int .i64 t.kind,.string t.letters,.bool t.op,.slice p1 p2 p3,.slice q1 q2 q3]) (by simp [results,Try.results57,go_sem]) rfl ⟨p1,p2,p3,q1,q2,q3,rfl,h3.keep hB,hB⟩
end
section
set_option maxRecDepth 4000
open Go.RowKit
theorem Try.infoSet : (Try.prog.info? 47).map (·.size) = some 9:=by kernel_rfl
theorem zi8 {P : Program} {w : World} (t e : TypeId) (d : TypeDesc) (n : Nat) (cs : Array Value) (k : IntKind) (i : Nat) (h : P.underlying t = some (.array n e)) (hs : (P.info? e).map (·.size) = some 1) (he : P.underlying e = some d) (hd : ∀ fs,d ≠ .struct fs) (hd2 : ∀ m u,d ≠ .array m u) (hin : i < n) (v : Value) (hv : cs[i]? = some v) :
  (Instr.index t (.agg cs) (.int k i)).run P w = .ok v w:=by
 have hn : (0 <= (i : Int) /\ (i : Int) < (n : Int)):=by omega
 cases hq : P.info? e with
 | none => simp [hq] at hs
 | some ii =>
  have hi : ii.size = 1:=by simpa [hq] using hs
  have hag : (isAgg e).run P w = .ok false w:=by
   unfold isAgg
   rw [Sem.run_bind,run_underlying he w]
   cases d <;> simp_all
  simp [Instr.index,run_underlying h,asIntOf,hn,go_sem,sizeOf,typeInfo,hq,hi,hin,hag,hv]
theorem Try.infoBool : (Try.prog.info? 4).map (·.size) = some 1:=by kernel_rfl
theorem zan (w : World) (o : Obj) : (w.alloc o).heap[w.heap.size]? = some o:=by show (w.heap.push o)[w.heap.size]? = some o;simp
theorem za0 {w : World} {b : Nat} {t : TypeId} {cs : List Value} (h : w.heap[b]? = some (.cells cs.toArray t (0,0))) : w.rangeAt b 0 cs:=fun j v hj => by
 rw [Nat.zero_add]
 simp only [World.cell?,h]
 simpa using hj
theorem zae {w w' : World} (hb : Below w.heap.size w w') {b o : Nat} {cs : List Value} (h : w.rangeAt b o cs) : w'.rangeAt b o cs:=fun j v hj => by
 have h1:=h j v hj
 rw [hb.cell (p:=⟨b,o + j,none⟩) (World.block_lt_of_cell? w ⟨b,o + j,none⟩ h1)];exact h1
theorem belS (w : World) (o : Obj) : Below w.heap.size w (w.alloc o):=(Below.refl _ _).alloc (Nat.le_refl _) _
def algB (xs ys : List Bool) : Bool:=(List.range 9).all fun i => !(xs.getD i false) || ys.getD i false
theorem zgr (F : Nat -> Bool) (x : Nat) : (List.range (x + 1)).all F = ((List.range x).all F && F x):=by rw [List.range_succ,List.all_append];simp
theorem ze6 {F : Nat -> Bool} {x n : Nat} (hx : x < n) (h : F x = false) : (List.range n).all F = false:=by
 cases hc : (List.range n).all F with
 | false => rfl
 | true => rw [List.all_eq_true] at hc;rw [hc x (List.mem_range.2 hx)] at h;cases h
theorem ze5 (xs ys : List Bool) (hx : xs.length = 9) (hy : ys.length = 9) (w : World) :
  Calls Try.prog 43 #[.agg (xs.map Value.bool).toArray,.agg (ys.map Value.bool).toArray] w fun e W => e = .returned (.bool (algB xs ys)) /\ Below w.heap.size w W:=by
 have hr:=zae (belS _ (.cells (ys.map Value.bool).toArray 47)) (za0 (zan w (.cells (xs.map Value.bool).toArray 47)))
 have hq:=za0 (zan (w.alloc (.cells (xs.map Value.bool).toArray 47)) (.cells (ys.map Value.bool).toArray 47))
 rw [show (w.alloc (.cells (xs.map Value.bool).toArray 47)).heap.size = w.heap.size + 1 by simp] at hq
 have hi : (Try.prog.info? 47).map (·.size) = some (xs.map Value.bool).length:=by rw [List.length_map,hx];exact Try.infoSet
 have hB:=(belS w (.cells (xs.map Value.bool).toArray 47)).alloc (by simp) (.cells (ys.map Value.bool).toArray 47)
 obtain ⟨R,hR⟩ : ∃ R,R = algB xs ys:=⟨_,rfl⟩
 rw [<- hR]
 have HR : Hid (R = (List.range 9).all fun i => !(xs.getD i false) || ys.getD i false):=hR
 have HX : Hid (xs.length = 9):=hx
 have HY : Hid (ys.length = 9):=hy
 clear hR hx hy
 go_enter Try.func43,Try.ntmps43
 go_wp2_with (refine wpList_load_mid (w:=(w.alloc (.cells (xs.map Value.bool).toArray 47)).alloc (.cells (ys.map Value.bool).toArray 47)) rfl 47 _ rfl _ _ rfl (xs.map Value.bool) _ hr Try.underlying47 rfl hi ?_)
 go_loopw [8] (fun vi wr => ∃ i : Nat,i <= 9 /\ vi = .int .i64 i /\ Hid ((List.range i).all (fun i => !(xs.getD i false) || ys.getD i false) = true) /\ wr = (w.alloc (.cells (xs.map Value.bool).toArray 47)).alloc (.cells (ys.map Value.bool).toArray 47)) (fun i _ => 9 - (intOf i).toNat)
 case atStart => exact ⟨0,by omega,rfl,(by show _ = _;rfl),rfl⟩
 case round =>
  obtain ⟨i,hi9,rfl,hn,rfl⟩:=hrel
  by_cases hlt : i < 9
  ·obtain ⟨x,hxi⟩ : ∃ x,xs[i]? = some x:=⟨xs[i]'(by rw [HX.out];omega),List.getElem?_eq_getElem (by rw [HX.out];omega)⟩
   obtain ⟨y,hyi⟩ : ∃ y,ys[i]? = some y:=⟨ys[i]'(by rw [HY.out];omega),List.getElem?_eq_getElem (by rw [HY.out];omega)⟩
   have hc:=hq i (.bool y) (by rw [List.getElem?_map,hyi];rfl)
   rw [Nat.zero_add] at hc
   have hx0 := znn i
   have hx1 : (i : Int) < 9:=by omega
   have hidx:=fun W => zi8 (P:=Try.prog) (w:=W) 47 4 .bool 9 (xs.map Value.bool).toArray .i64 i Try.underlying47 Try.infoBool Try.underlying4 (fun _ h => by cases h) (fun _ _ h => by cases h) hlt (.bool x) (by simp [hxi])
   have hFx : (!(xs.getD i false) || ys.getD i false) = (!x || y):=by simp [List.getD,hxi,hyi]
   have hno : (!x || y) = false -> R = false:=fun h => by rw [HR.out];exact ze6 hlt (by rw [hFx];exact h)
   have hyes : (!x || y) = true -> Hid ((List.range (i + 1)).all (fun i => !(xs.getD i false) || ys.getD i false) = true):=fun h => by show _ = _;rw [zgr,hn.out,hFx,h];rfl
   clear hFx hn hxi hyi hq HR
   cases x with
   | true =>
    cases y with
    | true =>
     have hy':=hyes rfl
     clear hno hyes
     go_wp2_with fail
     go_roundw
     case rel => exact ⟨i + 1,by omega,by go_num,hy',trivial⟩
     case measure => simp [intOf];omega
    | false =>
     have hR1:=hno rfl
     clear hno hyes
     subst hR1
     go_wp2_with fail
     go_ret
     exact ⟨rfl,hB⟩
   | false =>
    have hy':=hyes rfl
    clear hno hyes
    go_wp2_with fail
    go_roundw
    case rel => exact ⟨i + 1,by omega,by go_num,hy',trivial⟩
    case measure => simp [intOf];omega
  ·have hR1 : R = true:=by rw [HR.out,<- hn.out,show i = 9 by omega]
   clear HR hn
   subst hR1
   go_wp2_with fail
   go_ret
   exact ⟨rfl,hB⟩
end
end Go.Proofs.Ytkkekopomiehlab
