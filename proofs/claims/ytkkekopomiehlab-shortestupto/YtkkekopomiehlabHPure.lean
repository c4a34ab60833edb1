import Derived.Test.YtkkekopomiehlabProg
import Derived.WalkKit
import Derived.WalkSpells
import Derived.WalkLawsBesides
set_option linter.unusedVariables false
set_option linter.unusedSimpArgs false
set_option maxHeartbeats 40000000
namespace Go.Proofs.Ytkkekopomiehlab
section
theorem znn (n : Nat) : (0 : Int) <= (n : Int) := Int.natCast_nonneg n
def bAt (s : ByteArray) (i : Nat) : Int:=if h : i < s.size then (s[i].toNat : Int) else -1
def oneB (n : Nat) : ByteArray:=⟨#[n.toUInt8]⟩
def isL (b : Int) : Bool:=decide (97 <= b) && decide (b <= 122)
def isD (b : Int) : Bool:=decide (48 <= b) && decide (b <= 57)
def inS (b : Int) : Bool:=decide (32 <= b) && decide (b <= 126) && (b != 34)
def zay (l : ByteArray) (c : Int) : Nat -> Nat -> Int
 | 0,_ => -1
 | m + 1,k => if bAt l k = c then (k : Int) else zay l c m (k + 1)
def pOf (l : ByteArray) (c : Int) : Int:=zay l c l.size 0
def lEnd (s : ByteArray) (a : Nat) : Nat -> Nat -> Nat
 | 0,e => e
 | m + 1,e => if isL (bAt s e) = true /\ pOf (s.extract a e) (bAt s e) < 0 then lEnd s a m (e + 1) else e
def zao (p : Int -> Bool) (s : ByteArray) : Nat -> Nat -> Nat
 | 0,e => e
 | m + 1,e => if p (bAt s e) = true then zao p s m (e + 1) else e
def codU : Nat -> ByteArray -> Nat -> ByteArray
 | 0,acc,u => acc ++ oneB u
 | m + 1,acc,u => if 128 <= u then codU m (acc ++ oneB (u % 128 + 128)) (u / 128) else acc ++ oneB u
def zig (n : Int) : Nat:=if n < 0 then (-2 * n - 1).toNat else (2 * n).toNat
def zcx (n : Int) : ByteArray:=codU 8 ByteArray.empty (zig n)
def dVal (s : ByteArray) (a : Nat) : Nat -> Int
 | 0 => 0
 | k + 1 => dVal s a k * 10 + (bAt s (a + k) - 48)
def pDig (s : ByteArray) (a : Nat) : Option (Int × Nat) :=
 let e:=zao isD s (s.size - a) a
 if e = a \/ 16 < e - a \/ (1 < e - a /\ bAt s a = 48) then none else some (dVal s a (e - a),e)
def pNum (s : ByteArray) (a : Nat) : Option (Int × Nat) :=
 if bAt s a = 45 then
  match pDig s (a + 1) with
  | none => none
  | some (n,e) => if n = 0 then none else some (-n,e)
 else pDig s a
def zaz (st : Bool) (lo hi : Int) (t : ByteArray) (j : Nat) : Option (ByteArray × Nat) :=
 match pNum t j with
 | none => none
 | some (n,e) => if n < lo \/ hi < n then none else if st = true /\ bAt t e = 45 then none else some (zcx n,e)
def zbk (t : ByteArray) (j : Nat) : Option (ByteArray × Nat) :=
 if bAt t j = 34 then
  let e:=zao inS t (t.size - (j + 1)) (j + 1)
  if bAt t e = 34 /\ e - (j + 1) <= 60 then some (oneB (e - (j + 1)) ++ t.extract (j + 1) e,e + 1) else none
 else none
structure Ty where
 kind : Nat
 letters : ByteArray
 op : Bool
 inner : List Ty
 fields : List (Nat × Ty × ByteArray)
def za8 (k : Nat) : Ty:=⟨k,ByteArray.empty,false,[],[]⟩
def Ty.in (t : Ty) : Ty:=t.inner.headD (za8 0)
def za6 (f : Nat -> Option (ByteArray × Nat)) (t : ByteArray) : Nat -> Nat -> Nat -> ByteArray -> Option (ByteArray × Nat)
 | 0,_,_,_ => none
 | m + 1,c,b,d =>
  match f (b + 1) with
  | none => none
  | some (x,k) => if bAt t k = 93 then some (oneB c ++ (d ++ x),k + 1) else if bAt t k = 44 then za6 f t m (c + 1) k (d ++ x) else none
def zas (f : Ty -> Nat -> Option (ByteArray × Nat)) (t : ByteArray) : List (Nat × Ty × ByteArray) -> Int -> Nat -> ByteArray -> Option (ByteArray × Nat)
 | [],_,b,d => if bAt t b = 125 then some (d,b + 1) else none
 | g :: fs,mk,b,d =>
  if bAt t b = mk /\ bAt t (b + 1) = g.1 /\ bAt t (b + 2) = 58 then
   match f g.2.1 (b + 3) with
   | none => none
   | some (x,k) => zas f t fs 44 k (d ++ x)
  else none
def zbd (f : Nat -> Option (ByteArray × Nat)) (t : ByteArray) (j : Nat) : Option (ByteArray × Nat) :=
 if bAt t j = 91 then (if bAt t (j + 1) = 93 then some (oneB 0,j + 2) else za6 f t 16 1 j ByteArray.empty) else none
def zba (f : Nat -> Option (ByteArray × Nat)) (t : ByteArray) (j : Nat) : Option (ByteArray × Nat) :=
 if bAt t j = 95 then some (oneB 0,j + 1) else
  match f j with
  | none => none
  | some (d,k) => some (oneB 1 ++ d,k)
def enc (st : Bool) (t : ByteArray) : Nat -> Ty -> Nat -> Option (ByteArray × Nat)
 | 0,_,_ => none
 | n + 1,ty,j =>
  if ty.kind = 105 then zaz st (-2147483648) 2147483647 t j
  else if ty.kind = 108 then zaz st (-1000000000000000) 1000000000000000 t j
  else if ty.kind = 115 then zbk t j
  else if ty.kind = 60 then (if pOf ty.letters (bAt t j) < 0 then none else some (oneB (pOf ty.letters (bAt t j)).toNat,j + 1))
  else if ty.kind = 91 then zbd (enc st t n ty.in) t j
  else if ty.kind = 63 then zba (enc st t n ty.in) t j
  else if ty.kind = 123 then zas (enc st t n) t ty.fields 123 j ByteArray.empty
  else none
def zbb (s : ByteArray) (a : Nat) : Option (Ty × Nat) :=
 let e:=lEnd s a (s.size - a) a
 if e - a < 1 \/ 8 < e - a then none
 else if bAt s e = 43 then (if bAt s (e + 1) = 62 then some (⟨60,s.extract a e,true,[],[]⟩,e + 2) else none)
 else if bAt s e = 62 then some (⟨60,s.extract a e,false,[],[]⟩,e + 1) else none
def zal (pt : Nat -> Option (Ty × Nat)) (ef : Ty -> Nat -> Option (ByteArray × Nat)) (s : ByteArray) (i : Nat) : Option ((Nat × Ty × ByteArray) × Nat) :=
 if isL (bAt s i) = true /\ bAt s (i + 1) = 58 then
  match pt (i + 2) with
  | none => none
  | some (t,k) =>
   if bAt s k = 61 then
    match ef t (k + 1) with
    | none => none
    | some (_,m) => some (((bAt s i).toNat,t,s.extract (k + 1) m),m)
   else some (((bAt s i).toNat,t,ByteArray.empty),k)
 else none
def zat (pf : Nat -> Option ((Nat × Ty × ByteArray) × Nat)) (s : ByteArray) : Nat -> Nat -> List (Nat × Ty × ByteArray) -> Option (List (Nat × Ty × ByteArray) × Nat)
 | 0,_,_ => none
 | m + 1,a,acc =>
  match pf a with
  | none => none
  | some (f,k) =>
   if acc.any (fun g => g.1 == f.1) then none
   else if bAt s k = 125 then some (acc ++ [f],k + 1)
   else if bAt s k = 44 then zat pf s m (k + 1) (acc ++ [f])
   else none
def zbe (pt : Nat -> Option (Ty × Nat)) (s : ByteArray) (a : Nat) : Option (Ty × Nat) :=
 match pt a with
 | none => none
 | some (t,k) => if bAt s k = 93 then some (⟨91,ByteArray.empty,false,[t],[]⟩,k + 1) else none
def zbf (pt : Nat -> Option (Ty × Nat)) (a : Nat) : Option (Ty × Nat) :=
 match pt a with
 | none => none
 | some (t,k) => if t.kind = 63 then none else some (⟨63,ByteArray.empty,false,[t],[]⟩,k)
def pRec (pf : Nat -> Option ((Nat × Ty × ByteArray) × Nat)) (s : ByteArray) (a : Nat) : Option (Ty × Nat) :=
 match zat pf s (s.size - a) a [] with
 | none => none
 | some (fs,k) => some (⟨123,ByteArray.empty,false,[],fs⟩,k)
def zaf (st : Bool) (s : ByteArray) : Nat -> Nat -> Option (Ty × Nat)
 | 0,_ => none
 | n + 1,i =>
  if bAt s i = 105 then some (za8 105,i + 1)
  else if bAt s i = 108 then some (za8 108,i + 1)
  else if bAt s i = 115 then some (za8 115,i + 1)
  else if bAt s i = 60 then zbb s (i + 1)
  else if bAt s i = 91 then zbe (zaf st s n) s (i + 1)
  else if bAt s i = 63 then zbf (zaf st s n) (i + 1)
  else if bAt s i = 123 then pRec (zal (zaf st s n) (enc st s n) s) s (i + 1)
  else none
end
section
open Go.RowKit
theorem zcl {k : IntKind} {a b : Int} (h : a = b) : Ending.returned (.int k a) = .returned (.int k b):=by rw [h]
theorem zf6 {a b : ByteArray} (h : a = b) : Ending.returned (.string a) = .returned (.string b):=by rw [h]
theorem zav {a b : Bool} (h : a = b) : Ending.returned (.bool a) = .returned (.bool b):=by rw [h]
theorem zmo {a b : Int} (h : (a == b) = true) : a = b:=by simpa using h
theorem zmg {a b : Int} (h : (a == b) = false) : a ≠ b:=by simpa using h
theorem zj4 (b : UInt8) : wrap64 (b.toNat : Int) = b.toNat:=by
 have:=b.toNat_lt;exact IntWalk.wrap64_in _ (by omega)
theorem zct (s : ByteArray) (i : Nat) (h : i < s.size) : bAt s i = s[i].toNat:=by simp [bAt,h]
theorem zdb (s : ByteArray) (i : Nat) (h : s.size <= i) : bAt s i = -1:=by simp [bAt,show ¬ i < s.size by omega]
theorem zgt (s : ByteArray) (i : Nat) : bAt s i <= 255:=by
 unfold bAt;split
 ·have:=(s[i]).toNat_lt;omega
 ·omega
theorem zaq {s : ByteArray} {i : Nat} (h : 0 <= bAt s i) : i < s.size:=by
 unfold bAt at h;split at h
 ·assumption
 ·omega
theorem zkx (s : ByteArray) (i : Nat) (w : World) (hi : i < s.size) (_hs : s.size <= 9000000) :
  Calls Try.prog 68 #[.string s,.int .i64 i] w fun e w' => e = .returned (.int .i64 (bAt s i)) /\ w' = w:=by
 go_enter Try.func68,Try.ntmps68
 go_wp2
 go_ret
 exact ⟨zcl (by rw [zct s i hi];exact zj4 _),rfl⟩
theorem zky (s : ByteArray) (i : Nat) (w : World) (hi : s.size <= i) (_hs : s.size <= 9000000) :
  Calls Try.prog 68 #[.string s,.int .i64 i] w fun e w' => e = .returned (.int .i64 (bAt s i)) /\ w' = w:=by
 go_enter Try.func68,Try.ntmps68
 go_wp2
 go_ret
 exact ⟨zcl (by rw [zdb s i hi]),rfl⟩
theorem zaw (s : ByteArray) (i : Nat) (w : World) (_hs : s.size <= 9000000) :
  Calls Try.prog 68 #[.string s,.int .i64 i] w fun e w' => e = .returned (.int .i64 (bAt s i)) /\ w' = w:=by
 by_cases h : i < s.size
 ·exact zkx s i w h _hs
 ·exact zky s i w (by omega) _hs
theorem zai (s : ByteArray) (x : Int) (w : World) (h0 : 0 <= x) (hs : s.size <= 9000000) :
  Calls Try.prog 68 #[.string s,.int .i64 x] w fun e w' => e = .returned (.int .i64 (bAt s x.toNat)) /\ w' = w:=by
 obtain ⟨n,rfl⟩ : ∃ n : Nat,x = n:=⟨x.toNat,by omega⟩
 exact zaw s n w hs
theorem zbu (s : ByteArray) (a b : Nat) (w : World) (_h1 : a <= b) (_h2 : b <= s.size) (_hs : s.size <= 9000000) :
  Calls Try.prog 79 #[.string s,.int .i64 a,.int .i64 b] w fun e w' => e = .returned (.string (s.extract a b)) /\ w' = w:=by
 go_enter Try.func79,Try.ntmps79
 go_wp2
 go_ret
 exact ⟨rfl,rfl⟩
theorem zop (s : ByteArray) (x y : Int) (w : World) (h0 : 0 <= x) (h1 : x <= y) (h2 : y <= s.size) (hs : s.size <= 9000000) :
  Calls Try.prog 79 #[.string s,.int .i64 x,.int .i64 y] w fun e w' => e = .returned (.string (s.extract x.toNat y.toNat)) /\ w' = w:=by
 obtain ⟨a,rfl⟩ : ∃ n : Nat,x = n:=⟨x.toNat,by omega⟩
 obtain ⟨b,rfl⟩ : ∃ n : Nat,y = n:=⟨y.toNat,by omega⟩
 exact zbu s a b w (by omega) (by omega) hs
theorem zch (n : Nat) (w : World) (_hn : n < 256) :
  Calls Try.prog 70 #[.int .i64 n] w fun e w' => e = .returned (.string (oneB n)) /\ Below w.heap.size w w':=by
 have hc:=run_convert_bytes_arg (P:=Try.prog) (w.alloc (.cells #[.int .u8 n] 5)) 136 5 (Try.underlying136) (Try.underlying5) w.heap.size 0 1 1 [(n : Int)] rfl (fun i hi => by cases i with | zero => simp | succ => omega) 9 (Try.underlying9)
 go_enter Try.func70,Try.ntmps70
 go_wp2
 go_ret
 exact ⟨zf6 (by simp [oneB,strOfNums]),(Below.refl _ _).alloc (Nat.le_refl _) _⟩
theorem zen (x : Int) (w : World) (h0 : 0 <= x) (h1 : x < 256) :
  Calls Try.prog 70 #[.int .i64 x] w fun e w' => e = .returned (.string (oneB x.toNat)) /\ Below w.heap.size w w':=by
 obtain ⟨n,rfl⟩ : ∃ n : Nat,x = n:=⟨x.toNat,by omega⟩
 exact zch n w (by omega)
theorem zca (b : Int) (w : World) :
  Calls Try.prog 83 #[.int .i64 b] w fun e w' => e = .returned (.bool (isL b)) /\ w' = w:=by
 go_enter Try.func83,Try.ntmps83
 go_wp2
 all_goals (go_ret;exact ⟨zav (by simp [isL] <;> omega),rfl⟩)
theorem zcw (b : Int) (w : World) :
  Calls Try.prog 95 #[.int .i64 b] w fun e w' => e = .returned (.bool (isD b)) /\ w' = w:=by
 go_enter Try.func95,Try.ntmps95
 go_wp2
 all_goals (go_ret;exact ⟨zav (by simp [isD] <;> omega),rfl⟩)
theorem zef (b : Int) (w : World) :
  Calls Try.prog 93 #[.int .i64 b] w fun e w' => e = .returned (.bool (inS b)) /\ w' = w:=by
 go_enter Try.func93,Try.ntmps93
 go_wp2
 all_goals (go_ret;exact ⟨zav (by simp [inS] <;> omega),rfl⟩)
end
section
open Go.RowKit
theorem zm3 (l : ByteArray) (c : Int) (k : Nat) (h : pOf l c = zay l c (l.size - k) k) (hk : ¬ k < l.size) : pOf l c = -1:=by
 rw [h,show l.size - k = 0 by omega];rfl
theorem zm4 (l : ByteArray) (c : Int) (k : Nat) (h : pOf l c = zay l c (l.size - k) k) (hk : k < l.size) (hb : bAt l k = c) : pOf l c = k:=by
 rw [h,show l.size - k = (l.size - (k + 1)) + 1 by omega];simp [zay,hb]
theorem zm5 (l : ByteArray) (c : Int) (k : Nat) (h : pOf l c = zay l c (l.size - k) k) (hk : k < l.size) (hb : bAt l k ≠ c) : pOf l c = zay l c (l.size - (k + 1)) (k + 1):=by
 rw [h,show l.size - k = (l.size - (k + 1)) + 1 by omega];simp [zay,hb]
theorem zcz (l : ByteArray) (c : Int) (w : World) (_hs : l.size <= 9000000) :
  Calls Try.prog 80 #[.string l,.int .i64 c] w fun e w' => e = .returned (.int .i64 (pOf l c)) /\ w' = w:=by
 go_enter Try.func80,Try.ntmps80
 go_wp2
 go_loop [5] (fun i => ∃ k : Nat,k <= l.size /\ i = .int .i64 k /\ Hid (pOf l c = zay l c (l.size - k) k)) (fun i => l.size - (intOf i).toNat)
 case atStart => exact ⟨0,Nat.zero_le _,rfl,rfl⟩
 case round =>
  obtain ⟨k,hk,rfl,hp⟩:=hrel
  by_cases hlt : k < l.size
  ·have hw:=zj4 l[k]
   have hbk : Hid (bAt l k = l[k].toNat):=zct l k hlt
   go_wp2
   ·go_ret
    refine ⟨zcl ?_,rfl⟩
    rw [zm4 l c k hp.out hlt (by rw [hbk.out];exact zmo ‹_›)]
   ·go_round
    case rel => exact ⟨k + 1,by omega,by go_num,zm5 l c k hp.out hlt (by rw [hbk.out];exact zmg ‹_›)⟩
    case measure => simp [intOf];omega
  ·go_wp2
   go_ret
   exact ⟨zcl (by rw [zm3 l c k hp.out hlt]),rfl⟩
theorem zl0 (s : ByteArray) (a E e : Nat) (h : E = lEnd s a (s.size - e) e) (hk : ¬ e < s.size) : E = e:=by
 rw [h,show s.size - e = 0 by omega];rfl
theorem zht (s : ByteArray) (a E e : Nat) (h : E = lEnd s a (s.size - e) e) (hk : e < s.size) (hb : isL (bAt s e) = false \/ 0 <= pOf (s.extract a e) (bAt s e)) : E = e:=by
 rw [h,show s.size - e = (s.size - (e + 1)) + 1 by omega];rw [lEnd,if_neg]
 rintro ⟨h1,h2⟩;rcases hb with hb | hb
 ·rw [h1] at hb;cases hb
 ·omega
theorem zl1 (s : ByteArray) (a E e : Nat) (h : E = lEnd s a (s.size - e) e) (hk : e < s.size) (h1 : isL (bAt s e) = true) (h2 : pOf (s.extract a e) (bAt s e) < 0) : E = lEnd s a (s.size - (e + 1)) (e + 1):=by
 rw [h,show s.size - e = (s.size - (e + 1)) + 1 by omega];rw [lEnd,if_pos ⟨h1,h2⟩]
theorem size_extract (s : ByteArray) (a b : Nat) (h1 : a <= b) (h2 : b <= s.size) : (s.extract a b).size = b - a:=by
 rw [ByteArray.size_extract];omega
theorem zl9 (s : ByteArray) (a : Nat) (w : World) (_hs : s.size <= 9000000) (ha : a <= s.size) :
  Calls Try.prog 81 #[.string s,.int .i64 a] w fun e w' => e = .returned (.int .i64 (lEnd s a (s.size - a) a)) /\ w' = w:=by
 obtain ⟨E,hE⟩ : ∃ E,E = lEnd s a (s.size - a) a:=⟨_,rfl⟩
 rw [<- hE]
 have HE : Hid (E = lEnd s a (s.size - a) a):=hE
 clear hE
 go_enter Try.func81,Try.ntmps81
 go_wp2_with fail
 go_loop [5] (fun i => ∃ k : Nat,a <= k /\ k <= s.size /\ i = .int .i64 k /\ Hid (E = lEnd s a (s.size - k) k)) (fun i => s.size - (intOf i).toNat)
 case atStart => exact ⟨a,Nat.le_refl _,ha,rfl,HE⟩
 case round =>
  obtain ⟨k,hak,hk,rfl,hp⟩:=hrel
  by_cases hlt : k < s.size
  ·have hx:=size_extract s a k hak hk
   cases hl : isL (bAt s k) with
   | false =>
    go_wp2_with (first | (go_at_call 68;refine (zaw _ _ _ ?_).mono ?_;(first | assumption | omega);rintro e w' ⟨rfl,rfl⟩) | (go_at_call 83;refine (zca _ _).mono ?_;rintro e w' ⟨rfl,rfl⟩))
    go_ret
    exact ⟨zcl (by rw [zht s a E k hp.out hlt (.inl hl)]),rfl⟩
   | true =>
    by_cases hq : pOf (s.extract a k) (bAt s k) < 0
    ·go_wp2_with (first | (go_at_call 68;refine (zaw _ _ _ ?_).mono ?_;(first | assumption | omega);rintro e w' ⟨rfl,rfl⟩) | (go_at_call 83;refine (zca _ _).mono ?_;rintro e w' ⟨rfl,rfl⟩) | (go_at_call 79;refine (zbu _ _ _ _ hak hk _hs).mono ?_;rintro e w' ⟨rfl,rfl⟩) | (go_at_call 80;refine (zcz _ _ _ ?_).mono ?_;omega;rintro e w' ⟨rfl,rfl⟩))
     go_round
     case rel => exact ⟨k + 1,by omega,by omega,by go_num,zl1 s a E k hp.out hlt hl hq⟩
     case measure => simp [intOf];omega
    ·go_wp2_with (first | (go_at_call 68;refine (zaw _ _ _ ?_).mono ?_;(first | assumption | omega);rintro e w' ⟨rfl,rfl⟩) | (go_at_call 83;refine (zca _ _).mono ?_;rintro e w' ⟨rfl,rfl⟩) | (go_at_call 79;refine (zbu _ _ _ _ hak hk _hs).mono ?_;rintro e w' ⟨rfl,rfl⟩) | (go_at_call 80;refine (zcz _ _ _ ?_).mono ?_;omega;rintro e w' ⟨rfl,rfl⟩))
     go_ret
     exact ⟨zcl (by rw [zht s a E k hp.out hlt (.inr (by omega))]),rfl⟩
  ·go_wp2
   go_ret
   exact ⟨zcl (by rw [zl0 s a E k hp.out hlt]),rfl⟩
end
section
open Go.RowKit
theorem ret3 {a b c a' b' c' : Value} (h : a = a') (h' : b = b') (h'' : c = c') : Ending.returned (.tuple #[a,b,c]) = .returned (.tuple #[a',b',c']):=by rw [h,h',h'']
theorem zcr {k : IntKind} {a b : Int} (h : a = b) : Value.int k a = .int k b:=by rw [h]
theorem zps {a b : ByteArray} (h : a = b) : Value.string a = .string b:=by rw [h]
theorem zjb (p : Int -> Bool) (s : ByteArray) (E k : Nat) (h : E = zao p s (s.size - k) k) (hb : p (bAt s k) = false) : E = k:=by
 rw [h];rcases hm : s.size - k with _ | m
 ·rfl
 ·rw [zao,hb];rfl
theorem zja (p : Int -> Bool) (s : ByteArray) (E k : Nat) (h : E = zao p s (s.size - k) k) (hk : k < s.size) (hb : p (bAt s k) = true) : E = zao p s (s.size - (k + 1)) (k + 1):=by
 rw [h,show s.size - k = (s.size - (k + 1)) + 1 by omega];rw [zao,if_pos hb]
theorem zcb (p : Int -> Bool) (s : ByteArray) : ∀ (m e : Nat),e <= zao p s m e /\ zao p s m e <= e + m
 | 0,e => by simp [zao]
 | m + 1,e => by
  rw [zao];split
  ·have:=zcb p s m (e + 1);omega
  ·omega
theorem zeh {s : ByteArray} {k : Nat} (h : isD (bAt s k) = true) : k < s.size /\ 48 <= bAt s k /\ bAt s k <= 57:=by
 have h' : 48 <= bAt s k /\ bAt s k <= 57:=by simpa [isD] using h
 exact ⟨zaq (by omega),h'⟩
theorem zlv {s : ByteArray} {k : Nat} (h : inS (bAt s k) = true) : k < s.size:=by
 have h' : (32 <= bAt s k /\ bAt s k <= 126) /\ bAt s k ≠ 34:=by simpa [inS] using h
 exact zaq (by omega)
theorem ziz (m : Nat) (h : m <= 16) : (10 : Int) ^ m <= 10000000000000000:=by
 have h1 : 10 ^ m <= 10 ^ 16:=Nat.pow_le_pow_right (by omega) h
 have h2 : (10 : Int) ^ m = ((10 ^ m : Nat) : Int):=by simp
 rw [h2];omega
theorem zld (s : ByteArray) (a k : Nat) (h : a <= k) : dVal s a (k + 1 - a) = dVal s a (k - a) * 10 + (bAt s k - 48):=by
 rw [show k + 1 - a = (k - a) + 1 by omega,dVal,show a + (k - a) = k by omega]
theorem zf0 (s : ByteArray) (a E : Nat) (hE : E = zao isD s (s.size - a) a) (h : E = a \/ 16 < E - a \/ (1 < E - a /\ bAt s a = 48)) : pDig s a = none:=by
 unfold pDig;rw [<- hE];simp only [if_pos h]
theorem zh8 (s : ByteArray) (a E : Nat) (hE : E = zao isD s (s.size - a) a) (h : ¬ (E = a \/ 16 < E - a \/ (1 < E - a /\ bAt s a = 48))) : pDig s a = some (dVal s a (E - a),E):=by
 unfold pDig;rw [<- hE];simp only [if_neg h]
def zlf (a : Nat) : Option (Int × Nat) -> Value
 | some (n,e) => .tuple #[.int .i64 n,.int .i64 e,.bool true]
 | none => .tuple #[.int .i64 0,.int .i64 a,.bool false]
theorem zil (s : ByteArray) (a : Nat) (w : World) (_hs : s.size <= 9000000) (ha : a <= s.size + 1) :
  Calls Try.prog 94 #[.string s,.int .i64 a] w fun e w' => e = .returned (zlf a (pDig s a)) /\ w' = w:=by
 obtain ⟨E,hE⟩ : ∃ E,E = zao isD s (s.size - a) a:=⟨_,rfl⟩
 have HE : Hid (E = zao isD s (s.size - a) a):=hE
 have HL : Hid (a <= E):=by rw [hE];exact (zcb _ _ _ _).1
 clear hE
 go_enter Try.func94,Try.ntmps94
 go_wp2_with fail
 go_loop [7,8] (fun v i => ∃ (k : Nat) (n : Int),a <= k /\ k <= s.size + 1 /\ k <= a + 16 /\ i = .int .i64 k /\ v = .int .i64 n /\ Hid (n = dVal s a (k - a)) /\ 0 <= n /\ Hid (n < 10 ^ (k - a)) /\ Hid (E = zao isD s (s.size - k) k)) (fun _ i => s.size + 1 - (intOf i).toNat)
 case atStart => exact ⟨a,0,Nat.le_refl _,by omega,by omega,rfl,rfl,by rw [Nat.sub_self];rfl,by omega,by rw [Nat.sub_self];show (0 : Int) < 10 ^ 0;decide,HE⟩
 case round =>
  obtain ⟨k,n,hak,hk,hk16,rfl,rfl,hn,hn0,hn1,hp⟩:=hrel
  cases hd : isD (bAt s k) with
  | true =>
   obtain ⟨hlt,hd1,hd2⟩:=zeh hd
   have hp1 : Hid (E = zao isD s (s.size - (k + 1)) (k + 1)):=zja _ _ _ _ hp.out hlt hd
   by_cases h16 : k = a + 16
   ·have hc : ((k : Int) - (a : Int) == 16) = true:=by simp;omega
    have H16 : Hid (k = a + 16):=h16
    clear h16
    go_wp2_with (first | (go_at_call 68;refine (zaw _ _ _ _hs).mono ?_;rintro e w' ⟨rfl,rfl⟩) | (go_at_call 95;refine (zcw _ _).mono ?_;rintro e w' ⟨rfl,rfl⟩))
    go_ret3
    have:=H16.out
    have hlast : k + 1 <= E:=by rw [hp1.out];exact (zcb _ _ _ _).1
    rw [zf0 s a E HE.out (by omega)]
    exact ⟨rfl,rfl⟩
   ·have hc : ((k : Int) - (a : Int) == 16) = false:=by simp;omega
    have hm:=ziz (k - a) (by omega)
    have hm' : n <= 10000000000000000:=by have:=hn1.out;omega
    clear hm
    go_wp2_with (first | (go_at_call 68;refine (zaw _ _ _ _hs).mono ?_;rintro e w' ⟨rfl,rfl⟩) | (go_at_call 95;refine (zcw _ _).mono ?_;rintro e w' ⟨rfl,rfl⟩))
    go_round
    case rel =>
     refine ⟨k + 1,n * 10 + (bAt s k - 48),by omega,by omega,by omega,by go_num,zcr (by omega),?_,by omega,?_,hp1⟩
     ·show _ = _;rw [zld s a k hak,<- hn.out]
     ·show _ < _
      have e : (10 : Int) ^ (k + 1 - a) = 10 ^ (k - a) * 10:=by rw [show k + 1 - a = (k - a) + 1 by omega,Int.pow_succ]
      have:=hn1.out;rw [e];omega
    case measure => simp [intOf];omega
  | false =>
   have hEk : E = k:=zjb _ _ _ _ hp.out hd
   by_cases h0 : k = a
   ·subst h0
    have h0' : ((k : Int) == (k : Int)) = true:=by simp
    go_wp2_with (first | (go_at_call 68;refine (zaw _ _ _ _hs).mono ?_;rintro e w' ⟨rfl,rfl⟩) | (go_at_call 95;refine (zcw _ _).mono ?_;rintro e w' ⟨rfl,rfl⟩))
    go_ret3
    rw [zf0 s k E HE.out (by omega)]
    exact ⟨rfl,rfl⟩
   ·have h0' : ((k : Int) == (a : Int)) = false:=by simp;omega
    have hE' : Hid (E = k):=hEk
    clear hEk
    by_cases h1 : k = a + 1
    ·have hb : ¬ (1 : Int) < (k : Int) - (a : Int):=by omega
     have H1 : Hid (k = a + 1):=h1
     clear h1
     go_wp2_with (first | (go_at_call 68;refine (zaw _ _ _ _hs).mono ?_;rintro e w' ⟨rfl,rfl⟩) | (go_at_call 95;refine (zcw _ _).mono ?_;rintro e w' ⟨rfl,rfl⟩))
     go_ret3
     have:=hE'.out
     have:=H1.out
     rw [zh8 s a E HE.out (by omega)]
     refine ⟨ret3 (zcr ?_) (zcr ?_) rfl,rfl⟩
     ·rw [hE'.out,<- hn.out]
     ·omega
    ·have hb : (1 : Int) < (k : Int) - (a : Int):=by omega
     by_cases hz : bAt s a = 48
     ·have hz' : (bAt s a == 48) = true:=by simp [hz]
      have HZ : Hid (bAt s a = 48):=hz
      clear hz
      go_wp2_with (first | (go_at_call 68;refine (zaw _ _ _ _hs).mono ?_;rintro e w' ⟨rfl,rfl⟩) | (go_at_call 95;refine (zcw _ _).mono ?_;rintro e w' ⟨rfl,rfl⟩))
      go_ret3
      have:=hE'.out
      rw [zf0 s a E HE.out (.inr (.inr ⟨by omega,HZ.out⟩))]
      exact ⟨rfl,rfl⟩
     ·have hz' : (bAt s a == 48) = false:=by simpa using hz
      go_wp2_with (first | (go_at_call 68;refine (zaw _ _ _ _hs).mono ?_;rintro e w' ⟨rfl,rfl⟩) | (go_at_call 95;refine (zcw _ _).mono ?_;rintro e w' ⟨rfl,rfl⟩))
      go_ret3
      have:=hE'.out
      rw [zh8 s a E HE.out (by omega)]
      refine ⟨ret3 (zcr ?_) (zcr ?_) rfl,rfl⟩
      ·rw [hE'.out,<- hn.out]
      ·omega
end
end Go.Proofs.Ytkkekopomiehlab
