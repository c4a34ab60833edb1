import Derived.Test.YtkkekopomiehlaaGreatCSp5
set_option linter.unusedVariables false
set_option linter.unusedSimpArgs false
set_option maxHeartbeats 40000000
namespace Go.Proofs.YtkkekopomiehlaaGreat
section
set_option maxRecDepth 4000
open Go.RowKit
def decS : Nat -> Nat -> ByteArray
 | 0,n => oneB (48 + n)
 | m + 1,n => if n < 10 then oneB (48 + n) else decS m (n / 10) ++ oneB (48 + n % 10)
theorem zgi : ∀ m n,(decS m n).size <= m + 1
 | 0,n => by rw [decS,zai];omega
 | m + 1,n => by
  rw [decS];split
  ·rw [zai];omega
  ·have:=zgi m (n / 10);rw [ByteArray.size_append,zai];omega
theorem zgd (W : World) (b n : Nat) (hn : n < 256) (h : W.cell? ⟨b,0,none⟩ = some (.int .u8 n)) :
  (convert 177 9 (.slice (some ⟨b,0,none⟩) 1 1)).run Tryz.prog W = .ok (.string (oneB n)) W:=by
 have hc:=run_convert_bytes_arg (P:=Tryz.prog) W 177 5 (Tryz.underlying177) (Tryz.underlying5) b 0 1 1 [(n : Int)] rfl (fun i hi => by cases i with | zero => simpa using h | succ => omega) 9 (Tryz.underlying9)
 rw [hc]
 simp [oneB,strOfNums]
theorem zt3 : ∀ (m n : Nat) (w : World),m <= 20 -> n <= 1000000000000000000 -> n < 10 ^ (m + 1) ->
  Calls Tryz.prog 136 #[.int .i64 n] w fun e w' => e = .returned (.string (decS m n)) /\ Below w.heap.size w w':=by
 intro m
 induction m with
 | zero =>
  intro n w hm hn h1
  have h10 : n < 10:=by simpa using h1
  have hr : Hid (decS 0 n = oneB (48 + n)):=rfl
  clear h1
  have hc:=zgd (w.alloc (.cells #[.int .u8 (48 + n : Nat)] 5)) w.heap.size (48 + n) (by omega) (za5 rfl rfl)
  simp only [Int.natCast_add,Int.cast_ofNat_Int] at hc
  go_enter Tryz.func136,Tryz.ntmps136
  go_wp2_with fail
  go_ret
  exact ⟨zcy hr.out.symm,(Below.refl _ _).alloc (Nat.le_refl _) _⟩
 | succ m ih =>
  intro n w hm hn h1
  by_cases h10 : n < 10
  ·have hr : Hid (decS (m + 1) n = oneB (48 + n)):=by show _ = _;rw [decS,if_pos h10]
   clear h1
   have hc:=zgd (w.alloc (.cells #[.int .u8 (48 + n : Nat)] 5)) w.heap.size (48 + n) (by omega) (za5 rfl rfl)
   simp only [Int.natCast_add,Int.cast_ofNat_Int] at hc
   go_enter Tryz.func136,Tryz.ntmps136
   go_wp2_with fail
   go_ret
   exact ⟨zcy hr.out.symm,(Below.refl _ _).alloc (Nat.le_refl _) _⟩
  ·have hr : Hid (decS (m + 1) n = decS m (n / 10) ++ oneB (48 + n % 10)):=by show _ = _;rw [decS,if_neg h10]
   have hcall:=fun w => ih (n / 10) w (by omega) (by omega) (by rw [Nat.pow_succ] at h1;omega)
   have hsz:=zgi m (n / 10)
   have hs1 : (oneB (48 + n % 10)).size = 1:=rfl
   clear h1 ih
   simp only [Int.natCast_ediv,Int.cast_ofNat_Int] at hcall
   have hconv:=fun (W : World) (b : Nat) (h : W.cell? ⟨b,0,none⟩ = some (.int .u8 (48 + (n : Int) % 10))) => zgd W b (48 + n % 10) (by omega) (by rw [h];simp)
   have ht : (n : Int).tmod 10 = (n : Int) % 10:=Int.tmod_eq_emod_of_nonneg (by omega)
   have hw1 : IntKind.i64.wrap ((n : Int) / 10) = (n : Int) / 10:=by rw [IntKind.wrap_i64];omega
   have hw2 : IntKind.i64.wrap ((n : Int) % 10) = (n : Int) % 10:=by rw [IntKind.wrap_i64];omega
   have hw3 : IntKind.i64.wrap (48 + (n : Int) % 10) = 48 + (n : Int) % 10:=by rw [IntKind.wrap_i64];omega
   have hw4 : IntKind.u8.wrap (48 + (n : Int) % 10) = 48 + (n : Int) % 10:=by rw [IntKind.wrap_u8];omega
   go_enter Tryz.func136,Tryz.ntmps136
   go_wp2_with fail
   go_region_with (go_at_call 136;refine (hcall _).mono ?_;rintro e w1 ⟨rfl,hb1⟩;obtain ⟨hc1,hf1⟩:=zal hb1)
   all_goals
    go_wp2_with fail
    go_ret
    refine ⟨zcy hr.out.symm,?_⟩
    first | exact Below.trans (((Below.refl _ _).alloc (Nat.le_refl _) _).drew) (hb1.mono (by simp)) | exact Below.alloc' ((Below.refl w.heap.size w).drew.trans (hb1.mono (by simp))) _
def decI (n : Int) : ByteArray:=if n < 0 then ⟨#[45]⟩ ++ decS 18 (-n).toNat else decS 18 n.toNat
theorem zm8 (x : Int) (w : World) (h0 : 0 <= x) (h1 : x <= 1000000000000000000) :
  Calls Tryz.prog 136 #[.int .i64 x] w fun e w' => e = .returned (.string (decS 18 x.toNat)) /\ Below w.heap.size w w':=by
 obtain ⟨n,rfl⟩ : ∃ n : Nat,x = n:=⟨x.toNat,by omega⟩
 exact zt3 18 n w (by omega) (by omega) (by omega)
theorem zau (n : Int) (w : World) (h1 : -1000000000000000000 <= n) (h2 : n <= 1000000000000000000) :
  Calls Tryz.prog 132 #[.int .i64 n] w fun e w' => e = .returned (.string (decI n)) /\ Below w.heap.size w w':=by
 by_cases hn : n < 0
 ·have hr : Hid (decI n = ⟨#[45]⟩ ++ decS 18 (-n).toNat):=by show _ = _;unfold decI;rw [if_pos hn]
  have hsz:=zgi 18 (-n).toNat
  have hs1 : (⟨#[45]⟩ : ByteArray).size = 1:=rfl
  go_enter Tryz.func132,Tryz.ntmps132
  go_wp2_with (go_at_call 136;refine (zm8 _ _ (by omega) (by omega)).mono ?_;rintro e w1 ⟨rfl,hb1⟩)
  go_ret
  exact ⟨zcy hr.out.symm,hb1⟩
 ·have hr : Hid (decI n = decS 18 n.toNat):=by show _ = _;unfold decI;rw [if_neg hn]
  go_enter Tryz.func132,Tryz.ntmps132
  go_wp2_with (go_at_call 136;refine (zm8 _ _ (by omega) (by omega)).mono ?_;rintro e w1 ⟨rfl,hb1⟩)
  go_ret
  exact ⟨zcy hr.out.symm,hb1⟩
set_option maxRecDepth 10000 in
theorem zat (n : Int) (w : World) (h1 : -40000000000000000 <= n) (h2 : n <= 40000000000000000) :
  Calls Tryz.prog 131 #[.int .i64 n] w fun e w' => e = .returned (.string (zao n)) /\ Below w.heap.size w w':=by
 obtain ⟨U,hU⟩ : ∃ U,U = zig n:=⟨_,rfl⟩
 obtain ⟨D,hD⟩ : ∃ D,D = zao n:=⟨_,rfl⟩
 rw [<- hD]
 have HD : Hid (D = codU 8 ByteArray.empty U):=by show _ = _;rw [hD,hU];rfl
 have hUb : U <= 80000000000000000:=by rw [hU];unfold zig;split <;> omega
 clear hD
 by_cases hn : n < 0
 all_goals
  have hUn : Hid ((U : Int) = if n < 0 then -2 * n - 1 else 2 * n):=by show _ = _;rw [hU];unfold zig;split <;> omega
  clear hU
  go_enter Tryz.func131,Tryz.ntmps131
  go_wp2_with fail
  go_loopw [3,4] (fun u d wr => ∃ (m v : Nat) (acc : ByteArray),m <= 8 /\ acc.size + m = 8 /\ u = .int .i64 v /\ d = .string acc /\ v <= 80000000000000000 /\ Hid (D = codU m acc v) /\ Hid (v < 128 ^ (m + 1)) /\ Below w.heap.size w wr) (fun u _ _ => (intOf u).toNat)
  case atStart =>
   refine ⟨8,U,ByteArray.empty,Nat.le_refl _,rfl,zbz ?_,rfl,hUb,HD,?_,Below.refl _ _⟩
   ·rw [hUn.out];first | rw [if_pos hn] | rw [if_neg (by omega)]
   ·show U < 128 ^ 9;omega
  case round =>
   obtain ⟨m,v,acc,hm,hacc,rfl,rfl,hv,hD,hlt,hb⟩:=hrel
   by_cases hge : 128 <= v
   ·have hm1 : 0 < m:=by
     rcases Nat.eq_zero_or_pos m with h | h
     ·subst h;have:=hlt.out;omega
     ·exact h
    obtain ⟨m',rfl⟩ : ∃ m',m = m' + 1:=⟨m - 1,by omega⟩
    have hsz : (oneB ((v : Int) % 128 + 128).toNat).size = 1:=rfl
    go_wp2_with (go_at_call 95;refine (zo4 _ _ (by omega) (by omega)).mono ?_;rintro e w' ⟨rfl,hb'⟩)
    go_roundw
    case rel =>
     refine ⟨m',v / 128,acc ++ oneB ((v : Int) % 128 + 128).toNat,by omega,by rw [ByteArray.size_append,hsz];omega,by go_num,rfl,by omega,?_,?_,hb.trans (hb'.mono hb.size)⟩
     ·show _ = _
      rw [hD.out,codU,if_pos hge,show ((v : Int) % 128 + 128).toNat = v % 128 + 128 by omega]
     ·show _ < _
      have:=hlt.out
      rw [Nat.pow_succ] at this
      omega
    case measure => simp [intOf];omega
   ·have hsz : (oneB v).size = 1:=rfl
    go_wp2_with (go_at_call 95;refine (zcv _ _ (by omega)).mono ?_;rintro e w' ⟨rfl,hb'⟩)
    go_ret
    refine ⟨zcy ?_,hb.trans (hb'.mono hb.size)⟩
    rw [hD.out]
    cases m with
    | zero => rfl
    | succ m => rw [codU,if_neg hge]
end
section
open Go.RowKit
def uAtL (s : ByteArray) (a : Nat) : Nat -> Nat -> Nat -> Nat -> Option (Nat × Nat)
 | 0,_,_,_ => none
 | m + 1,k,u,x =>
  if bAt s (a + k) < 0 \/ (bAt s (a + k) = 0 /\ 0 < k) then none
  else if bAt s (a + k) < 128 then some (u + (bAt s (a + k)).toNat * x,a + k + 1)
  else uAtL s a m (k + 1) (u + ((bAt s (a + k)).toNat - 128) * x) (x * 128)
def uAt (s : ByteArray) (a : Nat) : Option (Nat × Nat):=uAtL s a 8 0 0 1
theorem zru (s : ByteArray) (a : Nat) : ∀ (m k u x v e : Nat),u < x -> x * 128 ^ m <= 72057594037927936 -> uAtL s a m k u x = some (v,e) -> v < 72057594037927936 /\ a + k < e /\ e <= s.size
 | 0,k,u,x,v,e,_,_,h => by simp [uAtL] at h
 | m + 1,k,u,x,v,e,hu,hx,h => by
  rw [uAtL] at h
  have hhi:=zep s (a + k)
  have hp : x * 128 <= x * 128 ^ (m + 1):=Nat.mul_le_mul_left x (by rw [Nat.pow_succ];have:=Nat.pow_pos (n:=m) (show 0 < 128 by omega);omega)
  split at h
  ·cases h
  ·rename_i hc
   split at h
   ·rename_i hd
    simp only [Option.some.injEq,Prod.mk.injEq] at h
    have hl : a + k < s.size:=zar (by omega)
    have hm : (bAt s (a + k)).toNat * x <= 127 * x:=Nat.mul_le_mul_right x (by omega)
    omega
   ·have hm : ((bAt s (a + k)).toNat - 128) * x <= 127 * x:=Nat.mul_le_mul_right x (by omega)
    have:=zru s a m (k + 1) _ _ v e (by omega) (by rw [Nat.pow_succ] at hx;rw [Nat.mul_assoc];rw [Nat.mul_comm 128];exact hx) h
    omega
def zbj (u : Nat) : Int:=if u % 2 = 1 then -((u / 2 : Nat) : Int) - 1 else ((u / 2 : Nat) : Int)
def zcu (lo hi : Int) (s : ByteArray) (a : Nat) : Option (ByteArray × Nat) :=
 match uAt s a with
 | none => none
 | some (u,e) => if zbj u < lo \/ hi < zbj u then none else some (decI (zbj u),e)
theorem yaan {s : ByteArray} {a u e : Nat} (h : uAt s a = some (u,e)) : u < 72057594037927936 /\ a < e /\ e <= s.size:=by
 have:=zru s a 8 0 0 1 u e (by omega) (by omega) h;omega
def allS (s : ByteArray) : Nat -> Nat -> Bool
 | 0,_ => true
 | m + 1,k => inS (bAt s k) && allS s m (k + 1)
def quo : ByteArray:=⟨#[34]⟩
def zb6 (s : ByteArray) (a : Nat) : Option (ByteArray × Nat) :=
 if bAt s a < 0 \/ 60 < bAt s a then none
 else if allS s (bAt s a).toNat (a + 1) = true then some (quo ++ s.extract (a + 1) (a + 1 + (bAt s a).toNat) ++ quo,a + 1 + (bAt s a).toNat) else none
def zdu (l s : ByteArray) (a : Nat) : Option (ByteArray × Nat) :=
 if bAt s a < 0 \/ bAt l (bAt s a).toNat < 0 then none else some (oneB (bAt l (bAt s a).toNat).toNat,a + 1)
def zb1 (f : Nat -> Option (ByteArray × Nat)) : Nat -> Nat -> Nat -> ByteArray -> Option (ByteArray × Nat)
 | 0,_,fr,t => some (t ++ ⟨#[93]⟩,fr)
 | m + 1,k,fr,t =>
  match f fr with
  | none => none
  | some (x,nx) => zb1 f m (k + 1) nx ((if 0 < k then t ++ ⟨#[44]⟩ else t) ++ x)
def zc0 (f : Nat -> Option (ByteArray × Nat)) (s : ByteArray) (a : Nat) : Option (ByteArray × Nat) :=
 if bAt s a < 0 \/ 16 < bAt s a then none else zb1 f (bAt s a).toNat 0 (a + 1) ⟨#[91]⟩
def zcs (f : Nat -> Option (ByteArray × Nat)) (s : ByteArray) (a : Nat) : Option (ByteArray × Nat) :=
 if bAt s a = 0 then some (⟨#[95]⟩,a + 1) else if bAt s a = 1 then f (a + 1) else none
def zbw (f : Ty -> Nat -> Option (ByteArray × Nat)) : List (Nat × Ty × ByteArray) -> ByteArray -> Nat -> ByteArray -> Option (ByteArray × Nat)
 | [],_,fr,t => some (t ++ ⟨#[125]⟩,fr)
 | g :: fs,mk,fr,t =>
  match f g.2.1 fr with
  | none => none
  | some (x,nx) => zbw f fs ⟨#[44]⟩ nx (t ++ (((mk ++ oneB g.1) ++ ⟨#[58]⟩) ++ x))
def dec (s : ByteArray) : Nat -> Ty -> Nat -> Option (ByteArray × Nat)
 | 0,_,_ => none
 | n + 1,ty,a =>
  if ty.kind = 105 then zcu (-2147483648) 2147483647 s a
  else if ty.kind = 108 then zcu (-1000000000000000) 1000000000000000 s a
  else if ty.kind = 115 then zb6 s a
  else if ty.kind = 60 then zdu ty.letters s a
  else if ty.kind = 91 then zc0 (dec s n ty.in) s a
  else if ty.kind = 63 then zcs (dec s n ty.in) s a
  else if ty.kind = 123 /\ ty.fields ≠ [] then zbw (dec s n) ty.fields ⟨#[123]⟩ a ByteArray.empty
  else none
theorem zj0 (n : Int) : (decI n).size <= 20:=by
 unfold decI
 split
 ·rw [ByteArray.size_append];have:=zgi 18 (-n).toNat;have e : (⟨#[45]⟩ : ByteArray).size = 1:=rfl;omega
 ·have:=zgi 18 n.toNat;omega
theorem zm5 {lo hi : Int} {s d : ByteArray} {a k : Nat} (h : zcu lo hi s a = some (d,k)) : a < k /\ k <= s.size /\ d.size <= 20 * (k - a):=by
 unfold zcu at h
 split at h
 ·cases h
 ·rename_i u e hu
  have:=yaan hu
  split at h
  ·cases h
  ·simp only [Option.some.injEq,Prod.mk.injEq] at h
   obtain ⟨rfl,rfl⟩:=h
   have:=zj0 (zbj u);omega
theorem zjh (s : ByteArray) : ∀ m k,allS s m k = true -> m = 0 \/ k + m <= s.size
 | 0,k,_ => .inl rfl
 | m + 1,k,h => by
  right
  rw [allS,Bool.and_eq_true] at h
  have h1:=zn9 h.1
  rcases zjh s m (k + 1) h.2 with h2 | h2 <;> omega
theorem zdz : quo.size = 1:=rfl
theorem ztz {s d : ByteArray} {a k : Nat} (h : zb6 s a = some (d,k)) : a < k /\ k <= s.size /\ d.size <= 20 * (k - a):=by
 unfold zb6 at h
 split at h
 ·cases h
 ·rename_i hc
  split at h
  ·rename_i hl
   simp only [Option.some.injEq,Prod.mk.injEq] at h
   obtain ⟨rfl,rfl⟩:=h
   have ha : a < s.size:=zar (by omega)
   have:=zjh s _ _ hl
   have hb : a + 1 + (bAt s a).toNat <= s.size:=by omega
   rw [ByteArray.size_append,ByteArray.size_append,zdz,size_extract s (a + 1) _ (by omega) hb]
   omega
  ·cases h
theorem ztw {l s d : ByteArray} {a k : Nat} (h : zdu l s a = some (d,k)) : a < k /\ k <= s.size /\ d.size <= 20 * (k - a):=by
 unfold zdu at h
 split at h
 ·cases h
 ·simp only [Option.some.injEq,Prod.mk.injEq] at h
  obtain ⟨rfl,rfl⟩:=h
  have ha : a < s.size:=zar (by omega)
  rw [zai];omega
theorem zb3 (c : UInt8) : (⟨#[c]⟩ : ByteArray).size = 1:=rfl
theorem zm3 {C T : Nat} {f : Nat -> Option (ByteArray × Nat)} (hf : Bd C T f) : ∀ (m k fr : Nat) (t x : ByteArray) (e : Nat),fr <= T -> zb1 f m k fr t = some (x,e) -> fr <= e /\ e <= T /\ x.size <= t.size + 1 + (C + 1) * (e - fr)
 | 0,k,fr,t,x,e,hT,h => by
  simp only [zb1,Option.some.injEq,Prod.mk.injEq] at h
  obtain ⟨rfl,rfl⟩:=h
  rw [ByteArray.size_append,zb3];omega
 | m + 1,k,fr,t,x,e,hT,h => by
  rw [zb1] at h
  split at h
  ·cases h
  ·rename_i y nx hy
   have hb:=hf _ _ _ hy
   have ih:=zm3 hf m (k + 1) nx _ x e hb.2.1 h
   have hs : ((if 0 < k then t ++ ⟨#[44]⟩ else t) ++ y).size <= t.size + 1 + y.size:=by
    rw [ByteArray.size_append];split
    ·rw [ByteArray.size_append,zb3];omega
    ·omega
   have e1:=zcj (C:=C + 1) (show fr <= nx by omega) (show nx <= e by omega)
   have e2 : (C + 1) * (nx - fr) = C * (nx - fr) + (nx - fr):=by rw [Nat.add_mul,Nat.one_mul]
   omega
theorem ztx {C : Nat} {s : ByteArray} {f : Nat -> Option (ByteArray × Nat)} (hf : Bd C s.size f) : Bd (C + 2) s.size (zc0 f s):=by
 intro a d k h
 unfold zc0 at h
 split at h
 ·cases h
 ·have ha : a < s.size:=zar (by omega)
  have:=zm3 hf _ 0 (a + 1) _ d k (by omega) h
  rw [zb3] at this
  have e1:=zcj (C:=C + 1) (show a <= a + 1 by omega) (show a + 1 <= k by omega)
  have e2 : (C + 2) * (k - a) = (C + 1) * (k - a) + (k - a):=by rw [show C + 2 = (C + 1) + 1 by omega,Nat.add_mul,Nat.one_mul]
  have e3 : (C + 1) * (a + 1 - a) = C + 1:=by rw [show a + 1 - a = 1 by omega,Nat.mul_one]
  omega
theorem zty {C : Nat} {s : ByteArray} {f : Nat -> Option (ByteArray × Nat)} (hC : 1 <= C) (hf : Bd C s.size f) : Bd C s.size (zcs f s):=by
 intro a d k h
 unfold zcs at h
 split at h
 ·simp only [Option.some.injEq,Prod.mk.injEq] at h
  obtain ⟨rfl,rfl⟩:=h
  have ha : a < s.size:=zar (by omega)
  rw [zb3,show a + 1 - a = 1 by omega];omega
 ·split at h
  ·have:=hf _ _ _ h
   have e:=zdm (C:=C) (show k - (a + 1) <= k - a by omega)
   omega
  ·cases h
theorem zm1 {C T : Nat} {f : Ty -> Nat -> Option (ByteArray × Nat)} (hf : ∀ ty,Bd C T (f ty)) : ∀ (fs : List (Nat × Ty × ByteArray)) (mk : ByteArray) (fr : Nat) (t x : ByteArray) (e : Nat),mk.size = 1 -> fr <= T -> zbw f fs mk fr t = some (x,e) -> fr + (if fs = [] then 0 else 1) <= e /\ e <= T /\ x.size <= t.size + 1 + (C + 3) * (e - fr)
 | [],mk,fr,t,x,e,hm,hT,h => by
  simp only [zbw,Option.some.injEq,Prod.mk.injEq] at h
  obtain ⟨rfl,rfl⟩:=h
  rw [ByteArray.size_append,zb3];simp;omega
 | g :: fs,mk,fr,t,x,e,hm,hT,h => by
  rw [zbw] at h
  split at h
  ·cases h
  ·rename_i y nx hy
   have hb:=hf _ _ _ _ hy
   have ih:=zm1 hf fs _ nx _ x e (zb3 44) hb.2.1 h
   simp only [ByteArray.size_append,zb3,zai,hm] at ih
   have e1:=zcj (C:=C + 3) (show fr <= nx by omega) (show nx <= e by split at ih <;> omega)
   have e2 : (C + 3) * (nx - fr) = C * (nx - fr) + 3 * (nx - fr):=by rw [Nat.add_mul]
   simp
   split at ih <;> omega
theorem zm7 (s : ByteArray) : ∀ (n : Nat) (ty : Ty),Bd (4 * n + 20) s.size (dec s n ty)
 | 0,ty => by intro a d k h;simp [dec] at h
 | n + 1,ty => by
  have ih:=zm7 s n
  intro a d k h
  rw [dec] at h
  have up : ∀ {d : ByteArray} {k : Nat},a < k /\ k <= s.size /\ d.size <= 20 * (k - a) -> a < k /\ k <= s.size /\ d.size <= (4 * (n + 1) + 20) * (k - a):=by
   rintro d k ⟨h1,h2,h3⟩
   have:=Nat.mul_le_mul_right (k - a) (show 20 <= 4 * (n + 1) + 20 by omega)
   omega
  split at h
  ·exact up (zm5 h)
  ·split at h
   ·exact up (zm5 h)
   ·split at h
    ·exact up (ztz h)
    ·split at h
     ·exact up (ztw h)
     ·split at h
      ·exact (ztx (ih ty.in)).mono (by omega) _ _ _ h
      ·split at h
       ·exact (zty (by omega) (ih ty.in)).mono (by omega) _ _ _ h
       ·split at h
        ·rename_i hc
         have ha : a <= s.size:=by
          rcases hfs : ty.fields with _ | ⟨g,fs⟩
          ·exact absurd hfs hc.2
          ·rw [hfs,zbw] at h
           split at h
           ·cases h
           ·rename_i y nx hy
            have:=ih _ _ _ _ hy;omega
         have:=zm1 ih ty.fields _ a _ d k (zb3 123) ha h
         rw [if_neg hc.2] at this
         have e0 : ByteArray.empty.size = 0:=rfl
         have e2 : (4 * (n + 1) + 20) * (k - a) = (4 * n + 20 + 3) * (k - a) + (k - a):=by rw [show 4 * (n + 1) + 20 = (4 * n + 20 + 3) + 1 by omega,Nat.add_mul,Nat.one_mul]
         omega
        ·cases h
theorem zhp {s d : ByteArray} {n a k : Nat} {ty : Ty} (h : dec s n ty a = some (d,k)) : a < k /\ k <= s.size /\ d.size <= (4 * n + 20) * (k - a):=zm7 s n ty a d k h
end
end Go.Proofs.YtkkekopomiehlaaGreat
