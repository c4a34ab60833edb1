import Derived.Test.YtkkekopomiehlaaGreatProg
import Derived.WalkKit
import Derived.WalkSpells
import Derived.WalkLawsBesides
set_option linter.unusedVariables false
set_option linter.unusedSimpArgs false
set_option maxHeartbeats 40000000
namespace Go.Proofs.YtkkekopomiehlaaGreat
section
theorem znn (n : Nat) : (0 : Int) <= (n : Int) := Int.natCast_nonneg n
def bAt (s : ByteArray) (i : Nat) : Int:=if h : i < s.size then (s[i].toNat : Int) else -1
def oneB (n : Nat) : ByteArray:=⟨#[n.toUInt8]⟩
def isL (b : Int) : Bool:=decide (97 <= b) && decide (b <= 122)
def isD (b : Int) : Bool:=decide (48 <= b) && decide (b <= 57)
def inS (b : Int) : Bool:=decide (32 <= b) && decide (b <= 126) && (b != 34)
def za6 (l : ByteArray) (c : Int) : Nat -> Nat -> Int
 | 0,_ => -1
 | m + 1,k => if bAt l k = c then (k : Int) else za6 l c m (k + 1)
def pOf (l : ByteArray) (c : Int) : Int:=za6 l c l.size 0
def lEnd (s : ByteArray) (a : Nat) : Nat -> Nat -> Nat
 | 0,e => e
 | m + 1,e => if isL (bAt s e) = true /\ pOf (s.extract a e) (bAt s e) < 0 then lEnd s a m (e + 1) else e
def zap (p : Int -> Bool) (s : ByteArray) : Nat -> Nat -> Nat
 | 0,e => e
 | m + 1,e => if p (bAt s e) = true then zap p s m (e + 1) else e
def codU : Nat -> ByteArray -> Nat -> ByteArray
 | 0,acc,u => acc ++ oneB u
 | m + 1,acc,u => if 128 <= u then codU m (acc ++ oneB (u % 128 + 128)) (u / 128) else acc ++ oneB u
def zig (n : Int) : Nat:=if n < 0 then (-2 * n - 1).toNat else (2 * n).toNat
def zao (n : Int) : ByteArray:=codU 8 ByteArray.empty (zig n)
def dVal (s : ByteArray) (a : Nat) : Nat -> Int
 | 0 => 0
 | k + 1 => dVal s a k * 10 + (bAt s (a + k) - 48)
def pDig (s : ByteArray) (a : Nat) : Option (Int × Nat) :=
 let e:=zap isD s (s.size - a) a
 if e = a \/ 16 < e - a \/ (1 < e - a /\ bAt s a = 48) then none else some (dVal s a (e - a),e)
def pNum (s : ByteArray) (a : Nat) : Option (Int × Nat) :=
 if bAt s a = 45 then
  match pDig s (a + 1) with
  | none => none
  | some (n,e) => if n = 0 then none else some (-n,e)
 else pDig s a
def za3 (st : Bool) (lo hi : Int) (t : ByteArray) (j : Nat) : Option (ByteArray × Nat) :=
 match pNum t j with
 | none => none
 | some (n,e) => if n < lo \/ hi < n then none else if st = true /\ bAt t e = 45 then none else some (zao n,e)
def zbh (t : ByteArray) (j : Nat) : Option (ByteArray × Nat) :=
 if bAt t j = 34 then
  let e:=zap inS t (t.size - (j + 1)) (j + 1)
  if bAt t e = 34 /\ e - (j + 1) <= 60 then some (oneB (e - (j + 1)) ++ t.extract (j + 1) e,e + 1) else none
 else none
structure Ty where
 kind : Nat
 letters : ByteArray
 op : Bool
 inner : List Ty
 fields : List (Nat × Ty × ByteArray)
def zbl (k : Nat) : Ty:=⟨k,ByteArray.empty,false,[],[]⟩
def Ty.in (t : Ty) : Ty:=t.inner.headD (zbl 0)
def za7 (f : Nat -> Option (ByteArray × Nat)) (t : ByteArray) : Nat -> Nat -> Nat -> ByteArray -> Option (ByteArray × Nat)
 | 0,_,_,_ => none
 | m + 1,c,b,d =>
  match f (b + 1) with
  | none => none
  | some (x,k) => if bAt t k = 93 then some (oneB c ++ (d ++ x),k + 1) else if bAt t k = 44 then za7 f t m (c + 1) k (d ++ x) else none
def zax (f : Ty -> Nat -> Option (ByteArray × Nat)) (t : ByteArray) : List (Nat × Ty × ByteArray) -> Int -> Nat -> ByteArray -> Option (ByteArray × Nat)
 | [],_,b,d => if bAt t b = 125 then some (d,b + 1) else none
 | g :: fs,mk,b,d =>
  if bAt t b = mk /\ bAt t (b + 1) = g.1 /\ bAt t (b + 2) = 58 then
   match f g.2.1 (b + 3) with
   | none => none
   | some (x,k) => zax f t fs 44 k (d ++ x)
  else none
def zbk (f : Nat -> Option (ByteArray × Nat)) (t : ByteArray) (j : Nat) : Option (ByteArray × Nat) :=
 if bAt t j = 91 then (if bAt t (j + 1) = 93 then some (oneB 0,j + 2) else za7 f t 16 1 j ByteArray.empty) else none
def zbn (f : Nat -> Option (ByteArray × Nat)) (t : ByteArray) (j : Nat) : Option (ByteArray × Nat) :=
 if bAt t j = 95 then some (oneB 0,j + 1) else
  match f j with
  | none => none
  | some (d,k) => some (oneB 1 ++ d,k)
def enc (st : Bool) (t : ByteArray) : Nat -> Ty -> Nat -> Option (ByteArray × Nat)
 | 0,_,_ => none
 | n + 1,ty,j =>
  if ty.kind = 105 then za3 st (-2147483648) 2147483647 t j
  else if ty.kind = 108 then za3 st (-1000000000000000) 1000000000000000 t j
  else if ty.kind = 115 then zbh t j
  else if ty.kind = 60 then (if pOf ty.letters (bAt t j) < 0 then none else some (oneB (pOf ty.letters (bAt t j)).toNat,j + 1))
  else if ty.kind = 91 then zbk (enc st t n ty.in) t j
  else if ty.kind = 63 then zbn (enc st t n ty.in) t j
  else if ty.kind = 123 then zax (enc st t n) t ty.fields 123 j ByteArray.empty
  else none
def zb8 (s : ByteArray) (a : Nat) : Option (Ty × Nat) :=
 let e:=lEnd s a (s.size - a) a
 if e - a < 1 \/ 8 < e - a then none
 else if bAt s e = 43 then (if bAt s (e + 1) = 62 then some (⟨60,s.extract a e,true,[],[]⟩,e + 2) else none)
 else if bAt s e = 62 then some (⟨60,s.extract a e,false,[],[]⟩,e + 1) else none
def zaj (pt : Nat -> Option (Ty × Nat)) (ef : Ty -> Nat -> Option (ByteArray × Nat)) (s : ByteArray) (i : Nat) : Option ((Nat × Ty × ByteArray) × Nat) :=
 if isL (bAt s i) = true /\ bAt s (i + 1) = 58 then
  match pt (i + 2) with
  | none => none
  | some (t,k) =>
   if bAt s k = 61 then
    match ef t (k + 1) with
    | none => none
    | some (_,m) => some (((bAt s i).toNat,t,s.extract (k + 1) m),m)
   else some (((bAt s i).toNat,t,ByteArray.empty),k)
 else none
def zaz (pf : Nat -> Option ((Nat × Ty × ByteArray) × Nat)) (s : ByteArray) : Nat -> Nat -> List (Nat × Ty × ByteArray) -> Option (List (Nat × Ty × ByteArray) × Nat)
 | 0,_,_ => none
 | m + 1,a,acc =>
  match pf a with
  | none => none
  | some (f,k) =>
   if acc.any (fun g => g.1 == f.1) then none
   else if bAt s k = 125 then some (acc ++ [f],k + 1)
   else if bAt s k = 44 then zaz pf s m (k + 1) (acc ++ [f])
   else none
def zbt (pt : Nat -> Option (Ty × Nat)) (s : ByteArray) (a : Nat) : Option (Ty × Nat) :=
 match pt a with
 | none => none
 | some (t,k) => if bAt s k = 93 then some (⟨91,ByteArray.empty,false,[t],[]⟩,k + 1) else none
def zbq (pt : Nat -> Option (Ty × Nat)) (a : Nat) : Option (Ty × Nat) :=
 match pt a with
 | none => none
 | some (t,k) => if t.kind = 63 then none else some (⟨63,ByteArray.empty,false,[t],[]⟩,k)
def pRec (pf : Nat -> Option ((Nat × Ty × ByteArray) × Nat)) (s : ByteArray) (a : Nat) : Option (Ty × Nat) :=
 match zaz pf s (s.size - a) a [] with
 | none => none
 | some (fs,k) => some (⟨123,ByteArray.empty,false,[],fs⟩,k)
def zac (st : Bool) (s : ByteArray) : Nat -> Nat -> Option (Ty × Nat)
 | 0,_ => none
 | n + 1,i =>
  if bAt s i = 105 then some (zbl 105,i + 1)
  else if bAt s i = 108 then some (zbl 108,i + 1)
  else if bAt s i = 115 then some (zbl 115,i + 1)
  else if bAt s i = 60 then zb8 s (i + 1)
  else if bAt s i = 91 then zbt (zac st s n) s (i + 1)
  else if bAt s i = 63 then zbq (zac st s n) (i + 1)
  else if bAt s i = 123 then pRec (zaj (zac st s n) (enc st s n) s) s (i + 1)
  else none
end
section
open Go.RowKit
theorem zcx {k : IntKind} {a b : Int} (h : a = b) : Ending.returned (.int k a) = .returned (.int k b):=by rw [h]
theorem zcy {a b : ByteArray} (h : a = b) : Ending.returned (.string a) = .returned (.string b):=by rw [h]
theorem za9 {a b : Bool} (h : a = b) : Ending.returned (.bool a) = .returned (.bool b):=by rw [h]
theorem zwk {a b : Int} (h : (a == b) = true) : a = b:=by simpa using h
theorem zv7 {a b : Int} (h : (a == b) = false) : a ≠ b:=by simpa using h
theorem zr7 (b : UInt8) : wrap64 (b.toNat : Int) = b.toNat:=by
 have:=b.toNat_lt;exact IntWalk.wrap64_in _ (by omega)
theorem za1 (s : ByteArray) (i : Nat) (h : i < s.size) : bAt s i = s[i].toNat:=by simp [bAt,h]
theorem zci (s : ByteArray) (i : Nat) (h : s.size <= i) : bAt s i = -1:=by simp [bAt,show ¬ i < s.size by omega]
theorem zs1 (s : ByteArray) (i : Nat) : -1 <= bAt s i:=by unfold bAt;split <;> omega
theorem zep (s : ByteArray) (i : Nat) : bAt s i <= 255:=by
 unfold bAt;split
 ·have:=(s[i]).toNat_lt;omega
 ·omega
theorem zar {s : ByteArray} {i : Nat} (h : 0 <= bAt s i) : i < s.size:=by
 unfold bAt at h;split at h
 ·assumption
 ·omega
theorem ztd (s : ByteArray) (i : Nat) (w : World) (hi : i < s.size) (_hs : s.size <= 9000000) :
  Calls Tryz.prog 101 #[.string s,.int .i64 i] w fun e w' => e = .returned (.int .i64 (bAt s i)) /\ w' = w:=by
 go_enter Tryz.func101,Tryz.ntmps101
 go_wp2
 go_ret
 exact ⟨zcx (by rw [za1 s i hi];exact zr7 _),rfl⟩
theorem zte (s : ByteArray) (i : Nat) (w : World) (hi : s.size <= i) (_hs : s.size <= 9000000) :
  Calls Tryz.prog 101 #[.string s,.int .i64 i] w fun e w' => e = .returned (.int .i64 (bAt s i)) /\ w' = w:=by
 go_enter Tryz.func101,Tryz.ntmps101
 go_wp2
 go_ret
 exact ⟨zcx (by rw [zci s i hi]),rfl⟩
theorem zbm (s : ByteArray) (i : Nat) (w : World) (_hs : s.size <= 9000000) :
  Calls Tryz.prog 101 #[.string s,.int .i64 i] w fun e w' => e = .returned (.int .i64 (bAt s i)) /\ w' = w:=by
 by_cases h : i < s.size
 ·exact ztd s i w h _hs
 ·exact zte s i w (by omega) _hs
theorem zas (s : ByteArray) (x : Int) (w : World) (h0 : 0 <= x) (hs : s.size <= 9000000) :
  Calls Tryz.prog 101 #[.string s,.int .i64 x] w fun e w' => e = .returned (.int .i64 (bAt s x.toNat)) /\ w' = w:=by
 obtain ⟨n,rfl⟩ : ∃ n : Nat,x = n:=⟨x.toNat,by omega⟩
 exact zbm s n w hs
theorem zdh (s : ByteArray) (a b : Nat) (w : World) (_h1 : a <= b) (_h2 : b <= s.size) (_hs : s.size <= 9000000) :
  Calls Tryz.prog 124 #[.string s,.int .i64 a,.int .i64 b] w fun e w' => e = .returned (.string (s.extract a b)) /\ w' = w:=by
 go_enter Tryz.func124,Tryz.ntmps124
 go_wp2
 go_ret
 exact ⟨rfl,rfl⟩
theorem zzo (s : ByteArray) (x y : Int) (w : World) (h0 : 0 <= x) (h1 : x <= y) (h2 : y <= s.size) (hs : s.size <= 9000000) :
  Calls Tryz.prog 124 #[.string s,.int .i64 x,.int .i64 y] w fun e w' => e = .returned (.string (s.extract x.toNat y.toNat)) /\ w' = w:=by
 obtain ⟨a,rfl⟩ : ∃ n : Nat,x = n:=⟨x.toNat,by omega⟩
 obtain ⟨b,rfl⟩ : ∃ n : Nat,y = n:=⟨y.toNat,by omega⟩
 exact zdh s a b w (by omega) (by omega) hs
theorem zed (n : Nat) (w : World) (_hn : n < 256) :
  Calls Tryz.prog 111 #[.int .i64 n] w fun e w' => e = .returned (.string (oneB n)) /\ Below w.heap.size w w':=by
 have hc:=run_convert_bytes_arg (P:=Tryz.prog) (w.alloc (.cells #[.int .u8 n] 5)) 177 5 (Tryz.underlying177) (Tryz.underlying5) w.heap.size 0 1 1 [(n : Int)] rfl (fun i hi => by cases i with | zero => simp | succ => omega) 9 (Tryz.underlying9)
 go_enter Tryz.func111,Tryz.ntmps111
 go_wp2
 go_ret
 exact ⟨zcy (by simp [oneB,strOfNums]),(Below.refl _ _).alloc (Nat.le_refl _) _⟩
theorem zic (x : Int) (w : World) (h0 : 0 <= x) (h1 : x < 256) :
  Calls Tryz.prog 111 #[.int .i64 x] w fun e w' => e = .returned (.string (oneB x.toNat)) /\ Below w.heap.size w w':=by
 obtain ⟨n,rfl⟩ : ∃ n : Nat,x = n:=⟨x.toNat,by omega⟩
 exact zed n w (by omega)
theorem zdw (b : Int) (w : World) :
  Calls Tryz.prog 134 #[.int .i64 b] w fun e w' => e = .returned (.bool (isL b)) /\ w' = w:=by
 go_enter Tryz.func134,Tryz.ntmps134
 go_wp2
 all_goals (go_ret;exact ⟨za9 (by simp [isL] <;> omega),rfl⟩)
theorem zfe (b : Int) (w : World) :
  Calls Tryz.prog 147 #[.int .i64 b] w fun e w' => e = .returned (.bool (isD b)) /\ w' = w:=by
 go_enter Tryz.func147,Tryz.ntmps147
 go_wp2
 all_goals (go_ret;exact ⟨za9 (by simp [isD] <;> omega),rfl⟩)
theorem zhz (b : Int) (w : World) :
  Calls Tryz.prog 145 #[.int .i64 b] w fun e w' => e = .returned (.bool (inS b)) /\ w' = w:=by
 go_enter Tryz.func145,Tryz.ntmps145
 go_wp2
 all_goals (go_ret;exact ⟨za9 (by simp [inS] <;> omega),rfl⟩)
end
section
open Go.RowKit
theorem zk5 (l : ByteArray) (c : Int) (k : Nat) (h : pOf l c = za6 l c (l.size - k) k) (hk : ¬ k < l.size) : pOf l c = -1:=by
 rw [h,show l.size - k = 0 by omega];rfl
theorem zk6 (l : ByteArray) (c : Int) (k : Nat) (h : pOf l c = za6 l c (l.size - k) k) (hk : k < l.size) (hb : bAt l k = c) : pOf l c = k:=by
 rw [h,show l.size - k = (l.size - (k + 1)) + 1 by omega];simp [za6,hb]
theorem zk7 (l : ByteArray) (c : Int) (k : Nat) (h : pOf l c = za6 l c (l.size - k) k) (hk : k < l.size) (hb : bAt l k ≠ c) : pOf l c = za6 l c (l.size - (k + 1)) (k + 1):=by
 rw [h,show l.size - k = (l.size - (k + 1)) + 1 by omega];simp [za6,hb]
theorem zfm (l : ByteArray) (c : Int) (w : World) (_hs : l.size <= 9000000) :
  Calls Tryz.prog 126 #[.string l,.int .i64 c] w fun e w' => e = .returned (.int .i64 (pOf l c)) /\ w' = w:=by
 go_enter Tryz.func126,Tryz.ntmps126
 go_wp2
 go_loop [5] (fun i => ∃ k : Nat,k <= l.size /\ i = .int .i64 k /\ Hid (pOf l c = za6 l c (l.size - k) k)) (fun i => l.size - (intOf i).toNat)
 case atStart => exact ⟨0,Nat.zero_le _,rfl,rfl⟩
 case round =>
  obtain ⟨k,hk,rfl,hp⟩:=hrel
  by_cases hlt : k < l.size
  ·have hw:=zr7 l[k]
   have hbk : Hid (bAt l k = l[k].toNat):=za1 l k hlt
   go_wp2
   ·go_ret
    refine ⟨zcx ?_,rfl⟩
    rw [zk6 l c k hp.out hlt (by rw [hbk.out];exact zwk ‹_›)]
   ·go_round
    case rel => exact ⟨k + 1,by omega,by go_num,zk7 l c k hp.out hlt (by rw [hbk.out];exact zv7 ‹_›)⟩
    case measure => simp [intOf];omega
  ·go_wp2
   go_ret
   exact ⟨zcx (by rw [zk5 l c k hp.out hlt]),rfl⟩
theorem zu6 (s : ByteArray) (a E e : Nat) (h : E = lEnd s a (s.size - e) e) (hk : ¬ e < s.size) : E = e:=by
 rw [h,show s.size - e = 0 by omega];rfl
theorem zoh (s : ByteArray) (a E e : Nat) (h : E = lEnd s a (s.size - e) e) (hk : e < s.size) (hb : isL (bAt s e) = false \/ 0 <= pOf (s.extract a e) (bAt s e)) : E = e:=by
 rw [h,show s.size - e = (s.size - (e + 1)) + 1 by omega];rw [lEnd,if_neg]
 rintro ⟨h1,h2⟩;rcases hb with hb | hb
 ·rw [h1] at hb;cases hb
 ·omega
theorem zu7 (s : ByteArray) (a E e : Nat) (h : E = lEnd s a (s.size - e) e) (hk : e < s.size) (h1 : isL (bAt s e) = true) (h2 : pOf (s.extract a e) (bAt s e) < 0) : E = lEnd s a (s.size - (e + 1)) (e + 1):=by
 rw [h,show s.size - e = (s.size - (e + 1)) + 1 by omega];rw [lEnd,if_pos ⟨h1,h2⟩]
theorem size_extract (s : ByteArray) (a b : Nat) (h1 : a <= b) (h2 : b <= s.size) : (s.extract a b).size = b - a:=by
 rw [ByteArray.size_extract];omega
theorem zvm (s : ByteArray) (a : Nat) (w : World) (_hs : s.size <= 9000000) (ha : a <= s.size) :
  Calls Tryz.prog 123 #[.string s,.int .i64 a] w fun e w' => e = .returned (.int .i64 (lEnd s a (s.size - a) a)) /\ w' = w:=by
 obtain ⟨E,hE⟩ : ∃ E,E = lEnd s a (s.size - a) a:=⟨_,rfl⟩
 rw [<- hE]
 have HE : Hid (E = lEnd s a (s.size - a) a):=hE
 clear hE
 go_enter Tryz.func123,Tryz.ntmps123
 go_wp2_with fail
 go_loop [5] (fun i => ∃ k : Nat,a <= k /\ k <= s.size /\ i = .int .i64 k /\ Hid (E = lEnd s a (s.size - k) k)) (fun i => s.size - (intOf i).toNat)
 case atStart => exact ⟨a,Nat.le_refl _,ha,rfl,HE⟩
 case round =>
  obtain ⟨k,hak,hk,rfl,hp⟩:=hrel
  by_cases hlt : k < s.size
  ·have hx:=size_extract s a k hak hk
   cases hl : isL (bAt s k) with
   | false =>
    go_wp2_with (first | (go_at_call 101;refine (zbm _ _ _ ?_).mono ?_;(first | assumption | omega);rintro e w' ⟨rfl,rfl⟩) | (go_at_call 134;refine (zdw _ _).mono ?_;rintro e w' ⟨rfl,rfl⟩))
    go_ret
    exact ⟨zcx (by rw [zoh s a E k hp.out hlt (.inl hl)]),rfl⟩
   | true =>
    by_cases hq : pOf (s.extract a k) (bAt s k) < 0
    ·go_wp2_with (first | (go_at_call 101;refine (zbm _ _ _ ?_).mono ?_;(first | assumption | omega);rintro e w' ⟨rfl,rfl⟩) | (go_at_call 134;refine (zdw _ _).mono ?_;rintro e w' ⟨rfl,rfl⟩) | (go_at_call 124;refine (zdh _ _ _ _ hak hk _hs).mono ?_;rintro e w' ⟨rfl,rfl⟩) | (go_at_call 126;refine (zfm _ _ _ ?_).mono ?_;omega;rintro e w' ⟨rfl,rfl⟩))
     go_round
     case rel => exact ⟨k + 1,by omega,by omega,by go_num,zu7 s a E k hp.out hlt hl hq⟩
     case measure => simp [intOf];omega
    ·go_wp2_with (first | (go_at_call 101;refine (zbm _ _ _ ?_).mono ?_;(first | assumption | omega);rintro e w' ⟨rfl,rfl⟩) | (go_at_call 134;refine (zdw _ _).mono ?_;rintro e w' ⟨rfl,rfl⟩) | (go_at_call 124;refine (zdh _ _ _ _ hak hk _hs).mono ?_;rintro e w' ⟨rfl,rfl⟩) | (go_at_call 126;refine (zfm _ _ _ ?_).mono ?_;omega;rintro e w' ⟨rfl,rfl⟩))
     go_ret
     exact ⟨zcx (by rw [zoh s a E k hp.out hlt (.inr (by omega))]),rfl⟩
  ·go_wp2
   go_ret
   exact ⟨zcx (by rw [zu6 s a E k hp.out hlt]),rfl⟩
end
section
open Go.RowKit
theorem ret3 {a b c a' b' c' : Value} (h : a = a') (h' : b = b') (h'' : c = c') : Ending.returned (.tuple #[a,b,c]) = .returned (.tuple #[a',b',c']):=by rw [h,h',h'']
theorem zbz {k : IntKind} {a b : Int} (h : a = b) : Value.int k a = .int k b:=by rw [h]
theorem zl4 {a b : ByteArray} (h : a = b) : Value.string a = .string b:=by rw [h]
theorem zd4 (p : Int -> Bool) (s : ByteArray) (E k : Nat) (h : E = zap p s (s.size - k) k) (hb : p (bAt s k) = false) : E = k:=by
 rw [h];rcases hm : s.size - k with _ | m
 ·rfl
 ·rw [zap,hb];rfl
theorem ze2 (p : Int -> Bool) (s : ByteArray) (E k : Nat) (h : E = zap p s (s.size - k) k) (hk : k < s.size) (hb : p (bAt s k) = true) : E = zap p s (s.size - (k + 1)) (k + 1):=by
 rw [h,show s.size - k = (s.size - (k + 1)) + 1 by omega];rw [zap,if_pos hb]
theorem zce (p : Int -> Bool) (s : ByteArray) : ∀ (m e : Nat),e <= zap p s m e /\ zap p s m e <= e + m
 | 0,e => by simp [zap]
 | m + 1,e => by
  rw [zap];split
  ·have:=zce p s m (e + 1);omega
  ·omega
theorem zh2 {s : ByteArray} {k : Nat} (h : isD (bAt s k) = true) : k < s.size /\ 48 <= bAt s k /\ bAt s k <= 57:=by
 have h' : 48 <= bAt s k /\ bAt s k <= 57:=by simpa [isD] using h
 exact ⟨zar (by omega),h'⟩
theorem zn9 {s : ByteArray} {k : Nat} (h : inS (bAt s k) = true) : k < s.size:=by
 have h' : (32 <= bAt s k /\ bAt s k <= 126) /\ bAt s k ≠ 34:=by simpa [inS] using h
 exact zar (by omega)
theorem zp0 (m : Nat) (h : m <= 16) : (10 : Int) ^ m <= 10000000000000000:=by
 have h1 : 10 ^ m <= 10 ^ 16:=Nat.pow_le_pow_right (by omega) h
 have h2 : (10 : Int) ^ m = ((10 ^ m : Nat) : Int):=by simp
 rw [h2];omega
theorem ztv (s : ByteArray) (a k : Nat) (h : a <= k) : dVal s a (k + 1 - a) = dVal s a (k - a) * 10 + (bAt s k - 48):=by
 rw [show k + 1 - a = (k - a) + 1 by omega,dVal,show a + (k - a) = k by omega]
theorem zk2 (s : ByteArray) (a E : Nat) (hE : E = zap isD s (s.size - a) a) (h : E = a \/ 16 < E - a \/ (1 < E - a /\ bAt s a = 48)) : pDig s a = none:=by
 unfold pDig;rw [<- hE];simp only [if_pos h]
theorem zk3 (s : ByteArray) (a E : Nat) (hE : E = zap isD s (s.size - a) a) (h : ¬ (E = a \/ 16 < E - a \/ (1 < E - a /\ bAt s a = 48))) : pDig s a = some (dVal s a (E - a),E):=by
 unfold pDig;rw [<- hE];simp only [if_neg h]
def zt2 (a : Nat) : Option (Int × Nat) -> Value
 | some (n,e) => .tuple #[.int .i64 n,.int .i64 e,.bool true]
 | none => .tuple #[.int .i64 0,.int .i64 a,.bool false]
theorem zpn (s : ByteArray) (a : Nat) (w : World) (_hs : s.size <= 9000000) (ha : a <= s.size + 1) :
  Calls Tryz.prog 146 #[.string s,.int .i64 a] w fun e w' => e = .returned (zt2 a (pDig s a)) /\ w' = w:=by
 obtain ⟨E,hE⟩ : ∃ E,E = zap isD s (s.size - a) a:=⟨_,rfl⟩
 have HE : Hid (E = zap isD s (s.size - a) a):=hE
 have HL : Hid (a <= E):=by rw [hE];exact (zce _ _ _ _).1
 clear hE
 go_enter Tryz.func146,Tryz.ntmps146
 go_wp2_with fail
 go_loop [7,8] (fun v i => ∃ (k : Nat) (n : Int),a <= k /\ k <= s.size + 1 /\ k <= a + 16 /\ i = .int .i64 k /\ v = .int .i64 n /\ Hid (n = dVal s a (k - a)) /\ 0 <= n /\ Hid (n < 10 ^ (k - a)) /\ Hid (E = zap isD s (s.size - k) k)) (fun _ i => s.size + 1 - (intOf i).toNat)
 case atStart => exact ⟨a,0,Nat.le_refl _,by omega,by omega,rfl,rfl,by rw [Nat.sub_self];rfl,by omega,by rw [Nat.sub_self];show (0 : Int) < 10 ^ 0;decide,HE⟩
 case round =>
  obtain ⟨k,n,hak,hk,hk16,rfl,rfl,hn,hn0,hn1,hp⟩:=hrel
  cases hd : isD (bAt s k) with
  | true =>
   obtain ⟨hlt,hd1,hd2⟩:=zh2 hd
   have hp1 : Hid (E = zap isD s (s.size - (k + 1)) (k + 1)):=ze2 _ _ _ _ hp.out hlt hd
   by_cases h16 : k = a + 16
   ·have hc : ((k : Int) - (a : Int) == 16) = true:=by simp;omega
    have H16 : Hid (k = a + 16):=h16
    clear h16
    go_wp2_with (first | (go_at_call 101;refine (zbm _ _ _ _hs).mono ?_;rintro e w' ⟨rfl,rfl⟩) | (go_at_call 147;refine (zfe _ _).mono ?_;rintro e w' ⟨rfl,rfl⟩))
    go_ret3
    have:=H16.out
    have hlast : k + 1 <= E:=by rw [hp1.out];exact (zce _ _ _ _).1
    rw [zk2 s a E HE.out (by omega)]
    exact ⟨rfl,rfl⟩
   ·have hc : ((k : Int) - (a : Int) == 16) = false:=by simp;omega
    have hm:=zp0 (k - a) (by omega)
    have hm' : n <= 10000000000000000:=by have:=hn1.out;omega
    clear hm
    go_wp2_with (first | (go_at_call 101;refine (zbm _ _ _ _hs).mono ?_;rintro e w' ⟨rfl,rfl⟩) | (go_at_call 147;refine (zfe _ _).mono ?_;rintro e w' ⟨rfl,rfl⟩))
    go_round
    case rel =>
     refine ⟨k + 1,n * 10 + (bAt s k - 48),by omega,by omega,by omega,by go_num,zbz (by omega),?_,by omega,?_,hp1⟩
     ·show _ = _;rw [ztv s a k hak,<- hn.out]
     ·show _ < _
      have e : (10 : Int) ^ (k + 1 - a) = 10 ^ (k - a) * 10:=by rw [show k + 1 - a = (k - a) + 1 by omega,Int.pow_succ]
      have:=hn1.out;rw [e];omega
    case measure => simp [intOf];omega
  | false =>
   have hEk : E = k:=zd4 _ _ _ _ hp.out hd
   by_cases h0 : k = a
   ·subst h0
    have h0' : ((k : Int) == (k : Int)) = true:=by simp
    go_wp2_with (first | (go_at_call 101;refine (zbm _ _ _ _hs).mono ?_;rintro e w' ⟨rfl,rfl⟩) | (go_at_call 147;refine (zfe _ _).mono ?_;rintro e w' ⟨rfl,rfl⟩))
    go_ret3
    rw [zk2 s k E HE.out (by omega)]
    exact ⟨rfl,rfl⟩
   ·have h0' : ((k : Int) == (a : Int)) = false:=by simp;omega
    have hE' : Hid (E = k):=hEk
    clear hEk
    by_cases h1 : k = a + 1
    ·have hb : ¬ (1 : Int) < (k : Int) - (a : Int):=by omega
     have H1 : Hid (k = a + 1):=h1
     clear h1
     go_wp2_with (first | (go_at_call 101;refine (zbm _ _ _ _hs).mono ?_;rintro e w' ⟨rfl,rfl⟩) | (go_at_call 147;refine (zfe _ _).mono ?_;rintro e w' ⟨rfl,rfl⟩))
     go_ret3
     have:=hE'.out
     have:=H1.out
     rw [zk3 s a E HE.out (by omega)]
     refine ⟨ret3 (zbz ?_) (zbz ?_) rfl,rfl⟩
     ·rw [hE'.out,<- hn.out]
     ·omega
    ·have hb : (1 : Int) < (k : Int) - (a : Int):=by omega
     by_cases hz : bAt s a = 48
     ·have hz' : (bAt s a == 48) = true:=by simp [hz]
      have HZ : Hid (bAt s a = 48):=hz
      clear hz
      go_wp2_with (first | (go_at_call 101;refine (zbm _ _ _ _hs).mono ?_;rintro e w' ⟨rfl,rfl⟩) | (go_at_call 147;refine (zfe _ _).mono ?_;rintro e w' ⟨rfl,rfl⟩))
      go_ret3
      have:=hE'.out
      rw [zk2 s a E HE.out (.inr (.inr ⟨by omega,HZ.out⟩))]
      exact ⟨rfl,rfl⟩
     ·have hz' : (bAt s a == 48) = false:=by simpa using hz
      go_wp2_with (first | (go_at_call 101;refine (zbm _ _ _ _hs).mono ?_;rintro e w' ⟨rfl,rfl⟩) | (go_at_call 147;refine (zfe _ _).mono ?_;rintro e w' ⟨rfl,rfl⟩))
      go_ret3
      have:=hE'.out
      rw [zk3 s a E HE.out (by omega)]
      refine ⟨ret3 (zbz ?_) (zbz ?_) rfl,rfl⟩
      ·rw [hE'.out,<- hn.out]
      ·omega
end
section
open Go.RowKit
theorem zmz (s : ByteArray) (a : Nat) : ∀ m,(∀ j,j < m -> 48 <= bAt s (a + j)) -> 0 <= dVal s a m
 | 0,_ => by simp [dVal]
 | m + 1,h => by
  have:=zmz s a m (fun j hj => h j (by omega));have:=h m (by omega);rw [dVal];omega
theorem zmx (s : ByteArray) (a : Nat) : ∀ m,(∀ j,j < m -> bAt s (a + j) <= 57) -> dVal s a m < 10 ^ m
 | 0,_ => by simp [dVal]
 | m + 1,h => by
  have:=zmx s a m (fun j hj => h j (by omega));have:=h m (by omega);rw [dVal,Int.pow_succ];omega
theorem zef (p : Int -> Bool) (s : ByteArray) : ∀ (m e j : Nat),e <= j -> j < zap p s m e -> p (bAt s j) = true
 | 0,e,j,h1,h2 => by simp [zap] at h2;omega
 | m + 1,e,j,h1,h2 => by
  rw [zap] at h2;split at h2
  ·by_cases hj : j = e
   ·subst hj;assumption
   ·exact zef p s m (e + 1) j (by omega) h2
  ·omega
theorem zfk {s : ByteArray} {a e : Nat} {n : Int} (h : pDig s a = some (n,e)) : a < e /\ e <= s.size /\ 0 <= n /\ n < 10000000000000000:=by
 unfold pDig at h
 simp only at h
 obtain ⟨E,hE⟩ : ∃ E,E = zap isD s (s.size - a) a:=⟨_,rfl⟩
 rw [<- hE] at h
 split at h
 ·cases h
 ·rename_i hc
  simp only [Option.some.injEq,Prod.mk.injEq] at h
  obtain ⟨rfl,rfl⟩:=h
  have hle:=zce isD s (s.size - a) a
  rw [<- hE] at hle
  have hd : ∀ j,j < E - a -> isD (bAt s (a + j)) = true:=fun j hj => zef isD s (s.size - a) a (a + j) (by omega) (by rw [<- hE];omega)
  have hlt : a < E:=by omega
  have hlast:=zh2 (hd (E - a - 1) (by omega))
  refine ⟨hlt,by omega,zmz _ _ _ (fun j hj => (zh2 (hd j hj)).2.1),?_⟩
  have h1:=zmx s a (E - a) (fun j hj => (zh2 (hd j hj)).2.2)
  have h2:=zp0 (E - a) (by omega)
  omega
def zwh (a : Nat) : Option (Int × Nat) -> Value
 | some (n,e) => .tuple #[.int .i64 n,.int .i64 e,.bool true]
 | none => .tuple #[.int .i64 0,.int .i64 a,.bool false]
theorem zpj {s : ByteArray} {a e : Nat} {n : Int} (h : pNum s a = some (n,e)) : a < e /\ e <= s.size /\ -10000000000000000 < n /\ n < 10000000000000000:=by
 unfold pNum at h
 split at h
 ·split at h
  ·cases h
  ·rename_i n' e' hd
   have:=zfk hd
   split at h
   ·cases h
   ·simp only [Option.some.injEq,Prod.mk.injEq] at h
    omega
 ·have:=zfk h;omega
theorem zpp {s : ByteArray} {a : Nat} {n : Int} {e : Nat} (h : pDig s a = some (n,e)) (w : World) (hs : s.size <= 9000000) (ha : a <= s.size + 1) :
  Calls Tryz.prog 146 #[.string s,.int .i64 a] w fun r w' => r = .returned (.tuple #[.int .i64 n,.int .i64 e,.bool true]) /\ w' = w:=by
 have:=zpn s a w hs ha;rw [h] at this;exact this
theorem zpo {s : ByteArray} {a : Nat} (h : pDig s a = none) (w : World) (hs : s.size <= 9000000) (ha : a <= s.size + 1) :
  Calls Tryz.prog 146 #[.string s,.int .i64 a] w fun r w' => r = .returned (.tuple #[.int .i64 0,.int .i64 a,.bool false]) /\ w' = w:=by
 have:=zpn s a w hs ha;rw [h] at this;exact this
theorem zpq (s : ByteArray) (a : Nat) (w : World) (_hs : s.size <= 9000000) (ha : a <= s.size) :
  Calls Tryz.prog 143 #[.string s,.int .i64 a] w fun e w' => e = .returned (zwh a (pNum s a)) /\ w' = w:=by
 by_cases hm : bAt s a = 45
 ·have hm' : (bAt s a == 45) = true:=by simp [hm]
  have HM : Hid (bAt s a = 45):=hm
  clear hm
  cases hp : pDig s (a + 1) with
  | none =>
   have hr : Hid (pNum s a = none):=by show _ = _;unfold pNum;rw [if_pos HM.out,hp]
   have hd:=fun w => zpo hp w _hs (by omega)
   clear hp
   go_enter Tryz.func143,Tryz.ntmps143
   go_wp2_with (first | (go_at_call 101;refine (zbm _ _ _ _hs).mono ?_;rintro e w' ⟨rfl,rfl⟩) | (go_at_call 146;refine (hd _).mono ?_;rintro e w' ⟨rfl,rfl⟩))
   go_ret3
   rw [hr.out]
   exact ⟨rfl,rfl⟩
  | some p =>
   obtain ⟨n,e⟩:=p
   have hb:=zfk hp
   obtain ⟨hb1,hb2,hb3,hb4⟩:=hb
   have hd:=fun w => zpp hp w _hs (by omega)
   by_cases h0 : n = 0
   ·subst h0
    have hr : Hid (pNum s a = none):=by show _ = _;unfold pNum;rw [if_pos HM.out,hp];rfl
    clear hp
    go_enter Tryz.func143,Tryz.ntmps143
    go_wp2_with (first | (go_at_call 101;refine (zbm _ _ _ _hs).mono ?_;rintro e w' ⟨rfl,rfl⟩) | (go_at_call 146;refine (hd _).mono ?_;rintro e w' ⟨rfl,rfl⟩))
    go_ret3
    rw [hr.out]
    exact ⟨rfl,rfl⟩
   ·have hr : Hid (pNum s a = some (-n,e)):=by show _ = _;unfold pNum;rw [if_pos HM.out,hp];simp only [if_neg h0]
    have h0' : (n == 0) = false:=by simpa using h0
    clear hp
    go_enter Tryz.func143,Tryz.ntmps143
    go_wp2_with (first | (go_at_call 101;refine (zbm _ _ _ _hs).mono ?_;rintro e w' ⟨rfl,rfl⟩) | (go_at_call 146;refine (hd _).mono ?_;rintro e w' ⟨rfl,rfl⟩))
    go_ret3
    rw [hr.out]
    exact ⟨rfl,rfl⟩
 ·have hm' : (bAt s a == 45) = false:=by simpa using hm
  have hr : Hid (pNum s a = pDig s a):=by show _ = _;unfold pNum;rw [if_neg hm]
  cases hp : pDig s a with
  | none =>
   rw [hp] at hr
   have hd:=fun w => zpo hp w _hs (by omega)
   clear hp
   go_enter Tryz.func143,Tryz.ntmps143
   go_wp2_with (first | (go_at_call 101;refine (zbm _ _ _ _hs).mono ?_;rintro e w' ⟨rfl,rfl⟩) | (go_at_call 146;refine (hd _).mono ?_;rintro e w' ⟨rfl,rfl⟩))
   go_ret3
   rw [hr.out]
   exact ⟨rfl,rfl⟩
  | some p =>
   obtain ⟨n,e⟩:=p
   rw [hp] at hr
   have hb:=zfk hp
   obtain ⟨hb1,hb2,hb3,hb4⟩:=hb
   have hd:=fun w => zpp hp w _hs (by omega)
   clear hp
   go_enter Tryz.func143,Tryz.ntmps143
   go_wp2_with (first | (go_at_call 101;refine (zbm _ _ _ _hs).mono ?_;rintro e w' ⟨rfl,rfl⟩) | (go_at_call 146;refine (hd _).mono ?_;rintro e w' ⟨rfl,rfl⟩))
   go_ret3
   rw [hr.out]
   exact ⟨rfl,rfl⟩
set_option maxRecDepth 10000 in
theorem zwi (n : Int) (w : World) (h1 : -10000000000000000 <= n) (h2 : n <= 10000000000000000) :
  Calls Tryz.prog 144 #[.int .i64 n] w fun e w' => e = .returned (.string (zao n)) /\ Below w.heap.size w w':=by
 obtain ⟨U,hU⟩ : ∃ U,U = zig n:=⟨_,rfl⟩
 obtain ⟨D,hD⟩ : ∃ D,D = zao n:=⟨_,rfl⟩
 rw [<- hD]
 have HD : Hid (D = codU 8 ByteArray.empty U):=by show _ = _;rw [hD,hU];rfl
 have hUb : U <= 20000000000000000:=by rw [hU];unfold zig;split <;> omega
 clear hD
 by_cases hn : n < 0
 all_goals
  have hUn : Hid ((U : Int) = if n < 0 then -2 * n - 1 else 2 * n):=by show _ = _;rw [hU];unfold zig;split <;> omega
  clear hU
  go_enter Tryz.func144,Tryz.ntmps144
  go_wp2_with fail
  go_loopw [3,4] (fun u d wr => ∃ (m v : Nat) (acc : ByteArray),m <= 8 /\ acc.size + m = 8 /\ u = .int .i64 v /\ d = .string acc /\ v <= 20000000000000000 /\ Hid (D = codU m acc v) /\ Hid (v < 128 ^ (m + 1)) /\ Below w.heap.size w wr) (fun u _ _ => (intOf u).toNat)
  case atStart =>
   refine ⟨8,U,ByteArray.empty,Nat.le_refl _,rfl,zbz ?_,rfl,hUb,HD,?_,Below.refl _ _⟩
   ·rw [hUn.out];first | rw [if_pos hn] | rw [if_neg (by omega)]
   ·show U < 128 ^ 9;omega
  case round =>
   obtain ⟨m,v,acc,hm,hacc,rfl,rfl,hv,hD,hlt,hb⟩:=hrel
   by_cases hge : 128 <= v
   ·have hm1 : 0 < m:=by
     rcases Nat.eq_zero_or_pos m with h | h
     ·subst h;have:=hlt.out;omega
     ·exact h
    obtain ⟨m',rfl⟩ : ∃ m',m = m' + 1:=⟨m - 1,by omega⟩
    have hsz : (oneB ((v : Int) % 128 + 128).toNat).size = 1:=rfl
    go_wp2_with (go_at_call 111;refine (zic _ _ (by omega) (by omega)).mono ?_;rintro e w' ⟨rfl,hb'⟩)
    go_roundw
    case rel =>
     refine ⟨m',v / 128,acc ++ oneB ((v : Int) % 128 + 128).toNat,by omega,by rw [ByteArray.size_append,hsz];omega,by go_num,rfl,by omega,?_,?_,hb.trans (hb'.mono hb.size)⟩
     ·show _ = _
      rw [hD.out,codU,if_pos hge,show ((v : Int) % 128 + 128).toNat = v % 128 + 128 by omega]
     ·show _ < _
      have:=hlt.out
      rw [Nat.pow_succ] at this
      omega
    case measure => simp [intOf];omega
   ·have hsz : (oneB v).size = 1:=rfl
    go_wp2_with (go_at_call 111;refine (zed _ _ (by omega)).mono ?_;rintro e w' ⟨rfl,hb'⟩)
    go_ret
    refine ⟨zcy ?_,hb.trans (hb'.mono hb.size)⟩
    rw [hD.out]
    cases m with
    | zero => rfl
    | succ m => rw [codU,if_neg hge]
end
end Go.Proofs.YtkkekopomiehlaaGreat
