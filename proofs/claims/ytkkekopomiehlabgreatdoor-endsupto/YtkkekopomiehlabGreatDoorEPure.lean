import Derived.Test.YtkkekopomiehlabGreatDoorProg
import Derived.WalkKit
import Derived.WalkSpells
import Derived.WalkLawsBesides
import Derived.Deep.AppendLies
import Derived.Deep.QuietTactic
import Derived.BigQuiet
set_option linter.unusedVariables false
set_option linter.unusedSimpArgs false
set_option maxHeartbeats 40000000
open ByteArray renaming empty->xe,size_append->xf,size_extract->xv
open Option.some renaming injEq->xg
open Nat renaming le_refl->xh,zero_le->xm,mul_le_mul_right->xo,mul_le_mul_left->xq,sub_self->xu,mul_add->xy
open Prod.mk renaming injEq->xj
open List renaming getElem?_eq_getElem->xp
namespace Go.Proofs.YtkkekopomiehlabGreatDoor
theorem znn (n : Nat) : (0 : Int) <= (n : Int) := Int.natCast_nonneg n
def bAt (s:ByteArray)(i:Nat):Int:=if h:i<s.size then (s[i].toNat:Int) else -1
def oneB (n:Nat):ByteArray:=⟨#[n.toUInt8]⟩
def isL (b:Int):Bool:=decide (97<=b)&&decide (b<=122)
def isD (b:Int):Bool:=decide (48<=b)&&decide (b<=57)
def inS (b:Int):Bool:=decide (32<=b)&&decide (b<=126)&&(b != 34)
def za6 (l:ByteArray)(c:Int):Nat->Nat->Int
 |0,_=>-1
 |m+1,k=>if bAt l k=c then (k:Int) else za6 l c m (k+1)
def pOf (l:ByteArray)(c:Int):Int:=za6 l c l.size 0
def lEnd (s:ByteArray)(a:Nat):Nat->Nat->Nat
 |0,e=>e
 |m+1,e=>if isL (bAt s e)=true/\pOf (s.extract a e) (bAt s e)<0 then lEnd s a m (e+1) else e
def zaz (p:Int->Bool)(s:ByteArray):Nat->Nat->Nat
 |0,e=>e
 |m+1,e=>if p (bAt s e)=true then zaz p s m (e+1) else e
def codU:Nat->ByteArray->Nat->ByteArray
 |0,acc,u=>acc++oneB u
 |m+1,acc,u=>if 128<=u then codU m (acc++oneB (u % 128+128)) (u / 128) else acc++oneB u
def zig (n:Int):Nat:=if n<0 then (-2*n-1).toNat else (2*n).toNat
def zcp (n:Int):ByteArray:=codU 8 xe (zig n)
def dVal (s:ByteArray)(a:Nat):Nat->Int
 |0=>0
 |k+1=>dVal s a k*10+(bAt s (a+k)-48)
def pDig (s:ByteArray)(a:Nat):Option (Int×Nat) :=
 let e:=zaz isD s (s.size-a) a
 if e=a\/16<e-a\/(1<e-a/\bAt s a=48) then none else some (dVal s a (e-a),e)
def pNum (s:ByteArray)(a:Nat):Option (Int×Nat) :=
 if bAt s a=45 then
  match pDig s (a+1) with
  |none=>none
  |some (n,e)=>if n=0 then none else some (-n,e)
 else pDig s a
def zbf (st:Bool)(lo hi:Int)(t:ByteArray)(j:Nat):Option (ByteArray×Nat) :=
 match pNum t j with
 |none=>none
 |some (n,e)=>if n<lo\/hi<n then none else if st=true/\bAt t e=45 then none else some (zcp n,e)
def zb2 (t:ByteArray)(j:Nat):Option (ByteArray×Nat) :=
 if bAt t j=34 then
  let e:=zaz inS t (t.size-(j+1)) (j+1)
  if bAt t e=34/\e-(j+1)<=60 then some (oneB (e-(j+1))++t.extract (j+1) e,e+1) else none
 else none
structure Ty where
 kind:Nat
 letters:ByteArray
 op:Bool
 inner:List Ty
 fields:List (Nat×Ty×ByteArray)
def za3 (k:Nat):Ty:=⟨k,xe,false,[],[]⟩
def Ty.in (t:Ty):Ty:=t.inner.headD (za3 0)
def zbh (f:Nat->Option (ByteArray×Nat))(t:ByteArray):Nat->Nat->Nat->ByteArray->Option (ByteArray×Nat)
 |0,_,_,_=>none
 |m+1,c,b,d =>
  match f (b+1) with
  |none=>none
  |some (x,k)=>if bAt t k=93 then some (oneB c++(d++x),k+1) else if bAt t k=44 then zbh f t m (c+1) k (d++x) else none
def za0 (f:Ty->Nat->Option (ByteArray×Nat))(t:ByteArray):List (Nat×Ty×ByteArray)->Int->Nat->ByteArray->Option (ByteArray×Nat)
 |[],_,b,d=>if bAt t b=125 then some (d,b+1) else none
 |g::fs,mk,b,d =>
  if bAt t b=mk/\bAt t (b+1)=g.1/\bAt t (b+2)=58 then
   match f g.2.1 (b+3) with
   |none=>none
   |some (x,k)=>za0 f t fs 44 k (d++x)
  else none
def zb1 (f:Nat->Option (ByteArray×Nat))(t:ByteArray)(j:Nat):Option (ByteArray×Nat) :=
 if bAt t j=91 then (if bAt t (j+1)=93 then some (oneB 0,j+2) else zbh f t 16 1 j xe) else none
def zbq (f:Nat->Option (ByteArray×Nat))(t:ByteArray)(j:Nat):Option (ByteArray×Nat) :=
 if bAt t j=95 then some (oneB 0,j+1) else
  match f j with
  |none=>none
  |some (d,k)=>some (oneB 1++d,k)
def enc (st:Bool)(t:ByteArray):Nat->Ty->Nat->Option (ByteArray×Nat)
 |0,_,_=>none
 |n+1,ty,j =>
  if ty.kind=105 then zbf st (-2147483648) 2147483647 t j
  else if ty.kind=108 then zbf st (-1000000000000000) 1000000000000000 t j
  else if ty.kind=115 then zb2 t j
  else if ty.kind=60 then (if pOf ty.letters (bAt t j)<0 then none else some (oneB (pOf ty.letters (bAt t j)).toNat,j+1))
  else if ty.kind=91 then zb1 (enc st t n ty.in) t j
  else if ty.kind=63 then zbq (enc st t n ty.in) t j
  else if ty.kind=123 then za0 (enc st t n) t ty.fields 123 j xe
  else none
def zb4 (s:ByteArray)(a:Nat):Option (Ty×Nat) :=
 let e:=lEnd s a (s.size-a) a
 if e-a<1\/8<e-a then none
 else if bAt s e=43 then (if bAt s (e+1)=62 then some (⟨60,s.extract a e,true,[],[]⟩,e+2) else none)
 else if bAt s e=62 then some (⟨60,s.extract a e,false,[],[]⟩,e+1) else none
def zar (pt:Nat->Option (Ty×Nat))(ef:Ty->Nat->Option (ByteArray×Nat))(s:ByteArray)(i:Nat):Option ((Nat×Ty×ByteArray)×Nat) :=
 if isL (bAt s i)=true/\bAt s (i+1)=58 then
  match pt (i+2) with
  |none=>none
  |some (t,k) =>
   if bAt s k=61 then
    match ef t (k+1) with
    |none=>none
    |some (_,m)=>some (((bAt s i).toNat,t,s.extract (k+1) m),m)
   else some (((bAt s i).toNat,t,xe),k)
 else none
def za1 (pf:Nat->Option ((Nat×Ty×ByteArray)×Nat))(s:ByteArray):Nat->Nat->List (Nat×Ty×ByteArray)->Option (List (Nat×Ty×ByteArray)×Nat)
 |0,_,_=>none
 |m+1,a,acc =>
  match pf a with
  |none=>none
  |some (f,k) =>
   if acc.any (fun g=>g.1 == f.1) then none
   else if bAt s k=125 then some (acc++[f],k+1)
   else if bAt s k=44 then za1 pf s m (k+1) (acc++[f])
   else none
def zcd (pt:Nat->Option (Ty×Nat))(s:ByteArray)(a:Nat):Option (Ty×Nat) :=
 match pt a with
 |none=>none
 |some (t,k)=>if bAt s k=93 then some (⟨91,xe,false,[t],[]⟩,k+1) else none
def zce (pt:Nat->Option (Ty×Nat))(a:Nat):Option (Ty×Nat) :=
 match pt a with
 |none=>none
 |some (t,k)=>if t.kind=63 then none else some (⟨63,xe,false,[t],[]⟩,k)
def pRec (pf:Nat->Option ((Nat×Ty×ByteArray)×Nat))(s:ByteArray)(a:Nat):Option (Ty×Nat) :=
 match za1 pf s (s.size-a) a [] with
 |none=>none
 |some (fs,k)=>some (⟨123,xe,false,[],fs⟩,k)
def zae (st:Bool)(s:ByteArray):Nat->Nat->Option (Ty×Nat)
 |0,_=>none
 |n+1,i =>
  if bAt s i=105 then some (za3 105,i+1)
  else if bAt s i=108 then some (za3 108,i+1)
  else if bAt s i=115 then some (za3 115,i+1)
  else if bAt s i=60 then zb4 s (i+1)
  else if bAt s i=91 then zcd (zae st s n) s (i+1)
  else if bAt s i=63 then zce (zae st s n) (i+1)
  else if bAt s i=123 then pRec (zar (zae st s n) (enc st s n) s) s (i+1)
  else none
section
open Go.RowKit
theorem zck {k:IntKind}{a b:Int}(h:a=b):Ending.returned (.int k a)=.returned (.int k b):=by rw[h]
theorem zen {a b:ByteArray}(h:a=b):Ending.returned (.string a)=.returned (.string b):=by rw[h]
theorem zbx {a b:Bool}(h:a=b):Ending.returned (.bool a)=.returned (.bool b):=by rw[h]
theorem zyr {a b:Int}(h:(a == b)=true):a=b:=by simpa using h
theorem zyj {a b:Int}(h:(a == b)=false):a≠b:=by simpa using h
theorem zs1 (b:UInt8):wrap64 (b.toNat:Int)=b.toNat:=by
 have:=b.toNat_lt;exact IntWalk.wrap64_in _ (by omega)
theorem zee (s:ByteArray)(i:Nat)(h:i<s.size):bAt s i=s[i].toNat:=by simp[bAt,h]
theorem zd0 (s:ByteArray)(i:Nat)(h:s.size<=i):bAt s i=-1:=by simp[bAt,show ¬ i<s.size by omega]
theorem zhm (s:ByteArray)(i:Nat):-1<=bAt s i:=by unfold bAt;split<;>omega
theorem zeq (s:ByteArray)(i:Nat):bAt s i<=255:=by
 unfold bAt;split
 ·have:=(s[i]).toNat_lt;omega
 ·omega
theorem zaw {s:ByteArray}{i:Nat}(h:0<=bAt s i):i<s.size:=by
 unfold bAt at h;split at h
 ·assumption
 ·omega
theorem zu3 (s:ByteArray)(i:Nat)(w:World)(hi:i<s.size)(_hs:s.size<=9000000) :
  Calls Tryz.prog 245 #[.string s,.int .i64 i] w fun e w'=>e=.returned (.int .i64 (bAt s i))/\w'=w:=by
 go_enter Tryz.func245,Tryz.ntmps245
 go_wp2
 go_ret;exact⟨zck (by rw[zee s i hi];exact zs1 _),rfl⟩
theorem zu5 (s:ByteArray)(i:Nat)(w:World)(hi:s.size<=i)(_hs:s.size<=9000000) :
  Calls Tryz.prog 245 #[.string s,.int .i64 i] w fun e w'=>e=.returned (.int .i64 (bAt s i))/\w'=w:=by
 go_enter Tryz.func245,Tryz.ntmps245
 go_wp2
 go_ret;exact⟨zck (by rw[zd0 s i hi]),rfl⟩
theorem zba (s:ByteArray)(i:Nat)(w:World)(_hs:s.size<=9000000) :
  Calls Tryz.prog 245 #[.string s,.int .i64 i] w fun e w'=>e=.returned (.int .i64 (bAt s i))/\w'=w:=by
 by_cases h:i<s.size
 ·exact zu3 s i w h _hs
 ·exact zu5 s i w (by omega) _hs
theorem zan (s:ByteArray)(x:Int)(w:World)(h0:0<=x)(hs:s.size<=9000000) :
  Calls Tryz.prog 245 #[.string s,.int .i64 x] w fun e w'=>e=.returned (.int .i64 (bAt s x.toNat))/\w'=w:=by
 obtain⟨n,rfl⟩:∃ n:Nat,x=n:=⟨x.toNat,by omega⟩;exact zba s n w hs
theorem zcq (s:ByteArray)(a b:Nat)(w:World)(_h1:a<=b)(_h2:b<=s.size)(_hs:s.size<=9000000) :
  Calls Tryz.prog 247 #[.string s,.int .i64 a,.int .i64 b] w fun e w'=>e=.returned (.string (s.extract a b))/\w'=w:=by
 go_enter Tryz.func247,Tryz.ntmps247
 go_wp2
 go_ret;exact⟨rfl,rfl⟩
theorem zr0 (s:ByteArray)(x y:Int)(w:World)(h0:0<=x)(h1:x<=y)(h2:y<=s.size)(hs:s.size<=9000000) :
  Calls Tryz.prog 247 #[.string s,.int .i64 x,.int .i64 y] w fun e w'=>e=.returned (.string (s.extract x.toNat y.toNat))/\w'=w:=by
 obtain⟨a,rfl⟩:∃ n:Nat,x=n:=⟨x.toNat,by omega⟩;obtain⟨b,rfl⟩:∃ n:Nat,y=n:=⟨y.toNat,by omega⟩;exact zcq s a b w (by omega) (by omega) hs
theorem zdp (n:Nat)(w:World)(_hn:n<256) :
  Calls Tryz.prog 251 #[.int .i64 n] w fun e w'=>e=.returned (.string (oneB n))/\Below w.heap.size w w':=by
 have hc:=run_convert_bytes_arg (P:=Tryz.prog) (w.alloc (.cells #[.int .u8 n] 5)) 217 5 (Tryz.underlying217) (Tryz.underlying5) w.heap.size 0 1 1 [(n:Int)] rfl (fun i hi=>by cases i with|zero=>simp|succ=>omega) 9 (Tryz.underlying9)
 go_enter Tryz.func251,Tryz.ntmps251
 go_wp2
 go_ret;exact⟨zen (by simp[oneB,strOfNums]),(Below.refl _ _).alloc (xh _) _⟩
theorem zel (x:Int)(w:World)(h0:0<=x)(h1:x<256) :
  Calls Tryz.prog 251 #[.int .i64 x] w fun e w'=>e=.returned (.string (oneB x.toNat))/\Below w.heap.size w w':=by
 obtain⟨n,rfl⟩:∃ n:Nat,x=n:=⟨x.toNat,by omega⟩;exact zdp n w (by omega)
theorem zd5 (b:Int)(w:World) :
  Calls Tryz.prog 309 #[.int .i64 b] w fun e w'=>e=.returned (.bool (isL b))/\w'=w:=by
 go_enter Tryz.func309,Tryz.ntmps309
 go_wp2
 all_goals (go_ret;exact⟨zbx (by simp[isL]<;>omega),rfl⟩)
theorem zfh (b:Int)(w:World) :
  Calls Tryz.prog 315 #[.int .i64 b] w fun e w'=>e=.returned (.bool (isD b))/\w'=w:=by
 go_enter Tryz.func315,Tryz.ntmps315
 go_wp2
 all_goals (go_ret;exact⟨zbx (by simp[isD]<;>omega),rfl⟩)
theorem zfg (b:Int)(w:World) :
  Calls Tryz.prog 294 #[.int .i64 b] w fun e w'=>e=.returned (.bool (inS b))/\w'=w:=by
 go_enter Tryz.func294,Tryz.ntmps294
 go_wp2
 all_goals (go_ret;exact⟨zbx (by simp[inS]<;>omega),rfl⟩)
end
section
open Go.RowKit
theorem zzj (l:ByteArray)(c:Int)(k:Nat)(h:pOf l c=za6 l c (l.size-k) k)(hk:¬ k<l.size):pOf l c=-1:=by
 rw[h,show l.size-k=0 by omega];rfl
theorem zzk (l:ByteArray)(c:Int)(k:Nat)(h:pOf l c=za6 l c (l.size-k) k)(hk:k<l.size)(hb:bAt l k=c):pOf l c=k:=by
 rw[h,show l.size-k=(l.size-(k+1))+1 by omega];simp[za6,hb]
theorem zzl (l:ByteArray)(c:Int)(k:Nat)(h:pOf l c=za6 l c (l.size-k) k)(hk:k<l.size)(hb:bAt l k≠c):pOf l c=za6 l c (l.size-(k+1)) (k+1):=by
 rw[h,show l.size-k=(l.size-(k+1))+1 by omega];simp[za6,hb]
theorem zd6 (l:ByteArray)(c:Int)(w:World)(_hs:l.size<=9000000) :
  Calls Tryz.prog 249 #[.string l,.int .i64 c] w fun e w'=>e=.returned (.int .i64 (pOf l c))/\w'=w:=by
 go_enter Tryz.func249,Tryz.ntmps249
 go_wp2
 go_loop [5] (fun i=>∃ k:Nat,k<=l.size/\i=.int .i64 k/\Hid (pOf l c=za6 l c (l.size-k) k)) (fun i=>l.size-(intOf i).toNat)
 case atStart=>exact⟨0,xm _,rfl,rfl⟩
 case round =>
  obtain⟨k,hk,rfl,hp⟩:=hrel;by_cases hlt:k<l.size
  ·have hw:=zs1 l[k];have hbk:Hid (bAt l k=l[k].toNat):=zee l k hlt
   go_wp2
   ·go_ret;refine⟨zck ?_,rfl⟩;rw[zzk l c k hp.out hlt (by rw[hbk.out];exact zyr ‹_›)]
   ·go_round
    case rel=>exact⟨k+1,by omega,by go_num,zzl l c k hp.out hlt (by rw[hbk.out];exact zyj ‹_›)⟩
    case measure=>simp[intOf];omega
  ·go_wp2
   go_ret;exact⟨zck (by rw[zzj l c k hp.out hlt]),rfl⟩
theorem zx4 (s:ByteArray)(a E e:Nat)(h:E=lEnd s a (s.size-e) e)(hk:¬ e<s.size):E=e:=by
 rw[h,show s.size-e=0 by omega];rfl
theorem zpb (s:ByteArray)(a E e:Nat)(h:E=lEnd s a (s.size-e) e)(hk:e<s.size)(hb:isL (bAt s e)=false\/0<=pOf (s.extract a e) (bAt s e)):E=e:=by
 rw[h,show s.size-e=(s.size-(e+1))+1 by omega];rw[lEnd,if_neg];rintro ⟨h1,h2⟩;rcases hb with hb|hb
 ·rw[h1]at hb;cases hb
 ·omega
theorem zx5 (s:ByteArray)(a E e:Nat)(h:E=lEnd s a (s.size-e) e)(hk:e<s.size)(h1:isL (bAt s e)=true)(h2:pOf (s.extract a e) (bAt s e)<0):E=lEnd s a (s.size-(e+1)) (e+1):=by
 rw[h,show s.size-e=(s.size-(e+1))+1 by omega];rw[lEnd,if_pos ⟨h1,h2⟩]
theorem size_extract (s:ByteArray)(a b:Nat)(h1:a<=b)(h2:b<=s.size):(s.extract a b).size=b-a:=by
 rw[xv];omega
theorem zyc (s:ByteArray)(a:Nat)(w:World)(_hs:s.size<=9000000)(ha:a<=s.size) :
  Calls Tryz.prog 302 #[.string s,.int .i64 a] w fun e w'=>e=.returned (.int .i64 (lEnd s a (s.size-a) a))/\w'=w:=by
 obtain⟨E,hE⟩:∃ E,E=lEnd s a (s.size-a) a:=⟨_,rfl⟩;rw[<- hE];have HE:Hid (E=lEnd s a (s.size-a) a):=hE;clear hE
 go_enter Tryz.func302,Tryz.ntmps302
 go_wp2_with fail
 go_loop [5] (fun i=>∃ k:Nat,a<=k/\k<=s.size/\i=.int .i64 k/\Hid (E=lEnd s a (s.size-k) k)) (fun i=>s.size-(intOf i).toNat)
 case atStart=>exact⟨a,xh _,ha,rfl,HE⟩
 case round =>
  obtain⟨k,hak,hk,rfl,hp⟩:=hrel;by_cases hlt:k<s.size
  ·have hx:=size_extract s a k hak hk;cases hl:isL (bAt s k) with
   |false =>
    go_wp2_with (first|(go_at_call 245;refine(zba _ _ _ ?_).mono ?_;(first|assumption|omega);rintro e w' ⟨rfl,rfl⟩)|(go_at_call 309;refine(zd5 _ _).mono ?_;rintro e w' ⟨rfl,rfl⟩))
    go_ret;exact⟨zck (by rw[zpb s a E k hp.out hlt (.inl hl)]),rfl⟩
   |true =>
    by_cases hq:pOf (s.extract a k) (bAt s k)<0
    ·go_wp2_with (first|(go_at_call 245;refine(zba _ _ _ ?_).mono ?_;(first|assumption|omega);rintro e w' ⟨rfl,rfl⟩)|(go_at_call 309;refine(zd5 _ _).mono ?_;rintro e w' ⟨rfl,rfl⟩)|(go_at_call 247;refine(zcq _ _ _ _ hak hk _hs).mono ?_;rintro e w' ⟨rfl,rfl⟩)|(go_at_call 249;refine(zd6 _ _ _ ?_).mono ?_;omega;rintro e w' ⟨rfl,rfl⟩))
     go_round
     case rel=>exact⟨k+1,by omega,by omega,by go_num,zx5 s a E k hp.out hlt hl hq⟩
     case measure=>simp[intOf];omega
    ·go_wp2_with (first|(go_at_call 245;refine(zba _ _ _ ?_).mono ?_;(first|assumption|omega);rintro e w' ⟨rfl,rfl⟩)|(go_at_call 309;refine(zd5 _ _).mono ?_;rintro e w' ⟨rfl,rfl⟩)|(go_at_call 247;refine(zcq _ _ _ _ hak hk _hs).mono ?_;rintro e w' ⟨rfl,rfl⟩)|(go_at_call 249;refine(zd6 _ _ _ ?_).mono ?_;omega;rintro e w' ⟨rfl,rfl⟩))
     go_ret;exact⟨zck (by rw[zpb s a E k hp.out hlt (.inr (by omega))]),rfl⟩
  ·go_wp2
   go_ret;exact⟨zck (by rw[zx4 s a E k hp.out hlt]),rfl⟩
end
section
open Go.RowKit
theorem ret3 {a b c a' b' c':Value}(h:a=a')(h':b=b')(h'':c=c'):Ending.returned (.tuple #[a,b,c])=.returned (.tuple #[a',b',c']):=by rw[h,h',h'']
theorem zdc {k:IntKind}{a b:Int}(h:a=b):Value.int k a=.int k b:=by rw[h]
theorem zsw {a b:ByteArray}(h:a=b):Value.string a=.string b:=by rw[h]
theorem zlf (p:Int->Bool)(s:ByteArray)(E k:Nat)(h:E=zaz p s (s.size-k) k)(hb:p (bAt s k)=false):E=k:=by
 rw[h];rcases hm:s.size-k with _|m
 ·rfl
 ·rw[zaz,hb];rfl
theorem zle (p:Int->Bool)(s:ByteArray)(E k:Nat)(h:E=zaz p s (s.size-k) k)(hk:k<s.size)(hb:p (bAt s k)=true):E=zaz p s (s.size-(k+1)) (k+1):=by
 rw[h,show s.size-k=(s.size-(k+1))+1 by omega];rw[zaz,if_pos hb]
theorem zdt (p:Int->Bool)(s:ByteArray):∀ (m e:Nat),e<=zaz p s m e/\zaz p s m e<=e+m
 |0,e=>by simp[zaz]
 |m+1,e=>by
  rw[zaz];split
  ·have:=zdt p s m (e+1);omega
  ·omega
theorem zh5 {s:ByteArray}{k:Nat}(h:isD (bAt s k)=true):k<s.size/\48<=bAt s k/\bAt s k<=57:=by
 have h':48<=bAt s k/\bAt s k<=57:=by simpa[isD]using h
 exact⟨zaw (by omega),h'⟩
theorem zkl {s:ByteArray}{k:Nat}(h:inS (bAt s k)=true):k<s.size:=by
 have h':(32<=bAt s k/\bAt s k<=126)/\bAt s k≠34:=by simpa[inS]using h
 exact zaw (by omega)
theorem zqw (m:Nat)(h:m<=16):(10:Int) ^ m<=10000000000000000:=by
 have h1:10 ^ m<=10 ^ 16:=Nat.pow_le_pow_right (by omega) h;have h2:(10:Int) ^ m=((10 ^ m:Nat):Int):=by simp
 rw[h2];omega
theorem zvw (s:ByteArray)(a k:Nat)(h:a<=k):dVal s a (k+1-a)=dVal s a (k-a)*10+(bAt s k-48):=by
 rw[show k+1-a=(k-a)+1 by omega,dVal,show a+(k-a)=k by omega]
theorem zk1 (s:ByteArray)(a E:Nat)(hE:E=zaz isD s (s.size-a) a)(h:E=a\/16<E-a\/(1<E-a/\bAt s a=48)):pDig s a=none:=by
 unfold pDig;rw[<- hE];simp only[if_pos h]
theorem zk2 (s:ByteArray)(a E:Nat)(hE:E=zaz isD s (s.size-a) a)(h:¬ (E=a\/16<E-a\/(1<E-a/\bAt s a=48))):pDig s a=some (dVal s a (E-a),E):=by
 unfold pDig;rw[<- hE];simp only[if_neg h]
def zv7 (a:Nat):Option (Int×Nat)->Value
 |some (n,e)=>.tuple #[.int .i64 n,.int .i64 e,.bool true]
 |none=>.tuple #[.int .i64 0,.int .i64 a,.bool false]
theorem zqg (s:ByteArray)(a:Nat)(w:World)(_hs:s.size<=9000000)(ha:a<=s.size+1) :
  Calls Tryz.prog 310 #[.string s,.int .i64 a] w fun e w'=>e=.returned (zv7 a (pDig s a))/\w'=w:=by
 obtain⟨E,hE⟩:∃ E,E=zaz isD s (s.size-a) a:=⟨_,rfl⟩;have HE:Hid (E=zaz isD s (s.size-a) a):=hE;have HL:Hid (a<=E):=by rw[hE];exact(zdt _ _ _ _).1
 clear hE
 go_enter Tryz.func310,Tryz.ntmps310
 go_wp2_with fail
 go_loop [7,8] (fun v i=>∃ (k:Nat) (n:Int),a<=k/\k<=s.size+1/\k<=a+16/\i=.int .i64 k/\v=.int .i64 n/\Hid (n=dVal s a (k-a))/\0<=n/\Hid (n<10 ^ (k-a))/\Hid (E=zaz isD s (s.size-k) k)) (fun _ i=>s.size+1-(intOf i).toNat)
 case atStart=>exact⟨a,0,xh _,by omega,by omega,rfl,rfl,by rw[xu];rfl,by omega,by rw[xu];show (0:Int)<10 ^ 0;decide,HE⟩
 case round =>
  obtain⟨k,n,hak,hk,hk16,rfl,rfl,hn,hn0,hn1,hp⟩:=hrel;cases hd:isD (bAt s k) with
  |true =>
   obtain⟨hlt,hd1,hd2⟩:=zh5 hd;have hp1:Hid (E=zaz isD s (s.size-(k+1)) (k+1)):=zle _ _ _ _ hp.out hlt hd;by_cases h16:k=a+16
   ·have hc:((k:Int)-(a:Int) == 16)=true:=by simp;omega
    have H16:Hid (k=a+16):=h16;clear h16
    go_wp2_with (first|(go_at_call 245;refine(zba _ _ _ _hs).mono ?_;rintro e w' ⟨rfl,rfl⟩)|(go_at_call 315;refine(zfh _ _).mono ?_;rintro e w' ⟨rfl,rfl⟩))
    go_ret3
    have:=H16.out;have hlast:k+1<=E:=by rw[hp1.out];exact(zdt _ _ _ _).1
    rw[zk1 s a E HE.out (by omega)];exact⟨rfl,rfl⟩
   ·have hc:((k:Int)-(a:Int) == 16)=false:=by simp;omega
    have hm:=zqw (k-a) (by omega);have hm':n<=10000000000000000:=by have:=hn1.out;omega
    clear hm
    go_wp2_with (first|(go_at_call 245;refine(zba _ _ _ _hs).mono ?_;rintro e w' ⟨rfl,rfl⟩)|(go_at_call 315;refine(zfh _ _).mono ?_;rintro e w' ⟨rfl,rfl⟩))
    go_round
    case rel =>
     refine⟨k+1,n*10+(bAt s k-48),by omega,by omega,by omega,by go_num,zdc (by omega),?_,by omega,?_,hp1⟩
     ·show _=_;rw[zvw s a k hak,<- hn.out]
     ·show _<_;have e:(10:Int) ^ (k+1-a)=10 ^ (k-a)*10:=by rw[show k+1-a=(k-a)+1 by omega,Int.pow_succ]
      have:=hn1.out;rw[e];omega
    case measure=>simp[intOf];omega
  |false =>
   have hEk:E=k:=zlf _ _ _ _ hp.out hd;by_cases h0:k=a
   ·subst h0;have h0':((k:Int) == (k:Int))=true:=by simp
    go_wp2_with (first|(go_at_call 245;refine(zba _ _ _ _hs).mono ?_;rintro e w' ⟨rfl,rfl⟩)|(go_at_call 315;refine(zfh _ _).mono ?_;rintro e w' ⟨rfl,rfl⟩))
    go_ret3
    rw[zk1 s k E HE.out (by omega)];exact⟨rfl,rfl⟩
   ·have h0':((k:Int) == (a:Int))=false:=by simp;omega
    have hE':Hid (E=k):=hEk;clear hEk;by_cases h1:k=a+1
    ·have hb:¬ (1:Int)<(k:Int)-(a:Int):=by omega
     have H1:Hid (k=a+1):=h1;clear h1
     go_wp2_with (first|(go_at_call 245;refine(zba _ _ _ _hs).mono ?_;rintro e w' ⟨rfl,rfl⟩)|(go_at_call 315;refine(zfh _ _).mono ?_;rintro e w' ⟨rfl,rfl⟩))
     go_ret3
     have:=hE'.out;have:=H1.out;rw[zk2 s a E HE.out (by omega)];refine⟨ret3 (zdc ?_) (zdc ?_) rfl,rfl⟩
     ·rw[hE'.out,<- hn.out]
     ·omega
    ·have hb:(1:Int)<(k:Int)-(a:Int):=by omega
     by_cases hz:bAt s a=48
     ·have hz':(bAt s a == 48)=true:=by simp[hz]
      have HZ:Hid (bAt s a=48):=hz;clear hz
      go_wp2_with (first|(go_at_call 245;refine(zba _ _ _ _hs).mono ?_;rintro e w' ⟨rfl,rfl⟩)|(go_at_call 315;refine(zfh _ _).mono ?_;rintro e w' ⟨rfl,rfl⟩))
      go_ret3
      have:=hE'.out;rw[zk1 s a E HE.out (.inr (.inr ⟨by omega,HZ.out⟩))];exact⟨rfl,rfl⟩
     ·have hz':(bAt s a == 48)=false:=by simpa using hz
      go_wp2_with (first|(go_at_call 245;refine(zba _ _ _ _hs).mono ?_;rintro e w' ⟨rfl,rfl⟩)|(go_at_call 315;refine(zfh _ _).mono ?_;rintro e w' ⟨rfl,rfl⟩))
      go_ret3
      have:=hE'.out;rw[zk2 s a E HE.out (by omega)];refine⟨ret3 (zdc ?_) (zdc ?_) rfl,rfl⟩
      ·rw[hE'.out,<- hn.out]
      ·omega
end
section
open Go.RowKit
theorem zni (s:ByteArray)(a:Nat):∀ m,(∀ j,j<m->48<=bAt s (a+j))->0<=dVal s a m
 |0,_=>by simp[dVal]
 |m+1,h=>by
  have:=zni s a m (fun j hj=>h j (by omega));have:=h m (by omega);rw[dVal];omega
theorem zng (s:ByteArray)(a:Nat):∀ m,(∀ j,j<m->bAt s (a+j)<=57)->dVal s a m<10 ^ m
 |0,_=>by simp[dVal]
 |m+1,h=>by
  have:=zng s a m (fun j hj=>h j (by omega));have:=h m (by omega);rw[dVal,Int.pow_succ];omega
theorem zfm (p:Int->Bool)(s:ByteArray):∀ (m e j:Nat),e<=j->j<zaz p s m e->p (bAt s j)=true
 |0,e,j,h1,h2=>by simp[zaz]at h2;omega
 |m+1,e,j,h1,h2=>by
  rw[zaz]at h2;split at h2
  ·by_cases hj:j=e
   ·subst hj;assumption
   ·exact zfm p s m (e+1) j (by omega) h2
  ·omega
theorem zgt {s:ByteArray}{a e:Nat}{n:Int}(h:pDig s a=some (n,e)):a<e/\e<=s.size/\0<=n/\n<10000000000000000:=by
 unfold pDig at h;simp only at h;obtain⟨E,hE⟩:∃ E,E=zaz isD s (s.size-a) a:=⟨_,rfl⟩;rw[<- hE]at h;split at h
 ·cases h
 ·rename_i hc;simp only[xg,xj]at h;obtain⟨rfl,rfl⟩:=h;have hle:=zdt isD s (s.size-a) a;rw[<- hE]at hle;have hd:∀ j,j<E-a->isD (bAt s (a+j))=true:=fun j hj=>zfm isD s (s.size-a) a (a+j) (by omega) (by rw[<- hE];omega);have hlt:a<E:=by omega
  have hlast:=zh5 (hd (E-a-1) (by omega));refine⟨hlt,by omega,zni _ _ _ (fun j hj=>(zh5 (hd j hj)).2.1),?_⟩;have h1:=zng s a (E-a) (fun j hj=>(zh5 (hd j hj)).2.2);have h2:=zqw (E-a) (by omega);omega
def zyo (a:Nat):Option (Int×Nat)->Value
 |some (n,e)=>.tuple #[.int .i64 n,.int .i64 e,.bool true]
 |none=>.tuple #[.int .i64 0,.int .i64 a,.bool false]
theorem zqc {s:ByteArray}{a e:Nat}{n:Int}(h:pNum s a=some (n,e)):a<e/\e<=s.size/\-10000000000000000<n/\n<10000000000000000:=by
 unfold pNum at h;split at h
 ·split at h
  ·cases h
  ·rename_i n' e' hd;have:=zgt hd;split at h
   ·cases h
   ·simp only[xg,xj]at h;omega
 ·have:=zgt h;omega
theorem zqi {s:ByteArray}{a:Nat}{n:Int}{e:Nat}(h:pDig s a=some (n,e))(w:World)(hs:s.size<=9000000)(ha:a<=s.size+1) :
  Calls Tryz.prog 310 #[.string s,.int .i64 a] w fun r w'=>r=.returned (.tuple #[.int .i64 n,.int .i64 e,.bool true])/\w'=w:=by
 have:=zqg s a w hs ha;rw[h]at this;exact this
theorem zqh {s:ByteArray}{a:Nat}(h:pDig s a=none)(w:World)(hs:s.size<=9000000)(ha:a<=s.size+1) :
  Calls Tryz.prog 310 #[.string s,.int .i64 a] w fun r w'=>r=.returned (.tuple #[.int .i64 0,.int .i64 a,.bool false])/\w'=w:=by
 have:=zqg s a w hs ha;rw[h]at this;exact this
theorem zqj (s:ByteArray)(a:Nat)(w:World)(_hs:s.size<=9000000)(ha:a<=s.size) :
  Calls Tryz.prog 304 #[.string s,.int .i64 a] w fun e w'=>e=.returned (zyo a (pNum s a))/\w'=w:=by
 by_cases hm:bAt s a=45
 ·have hm':(bAt s a == 45)=true:=by simp[hm]
  have HM:Hid (bAt s a=45):=hm;clear hm;cases hp:pDig s (a+1) with
  |none =>
   have hr:Hid (pNum s a=none):=by show _=_;unfold pNum;rw[if_pos HM.out,hp]
   have hd:=fun w=>zqh hp w _hs (by omega);clear hp
   go_enter Tryz.func304,Tryz.ntmps304
   go_wp2_with (first|(go_at_call 245;refine(zba _ _ _ _hs).mono ?_;rintro e w' ⟨rfl,rfl⟩)|(go_at_call 310;refine(hd _).mono ?_;rintro e w' ⟨rfl,rfl⟩))
   go_ret3
   rw[hr.out];exact⟨rfl,rfl⟩
  |some p =>
   obtain⟨n,e⟩:=p;have hb:=zgt hp;obtain⟨hb1,hb2,hb3,hb4⟩:=hb;have hd:=fun w=>zqi hp w _hs (by omega);by_cases h0:n=0
   ·subst h0;have hr:Hid (pNum s a=none):=by show _=_;unfold pNum;rw[if_pos HM.out,hp];rfl
    clear hp
    go_enter Tryz.func304,Tryz.ntmps304
    go_wp2_with (first|(go_at_call 245;refine(zba _ _ _ _hs).mono ?_;rintro e w' ⟨rfl,rfl⟩)|(go_at_call 310;refine(hd _).mono ?_;rintro e w' ⟨rfl,rfl⟩))
    go_ret3
    rw[hr.out];exact⟨rfl,rfl⟩
   ·have hr:Hid (pNum s a=some (-n,e)):=by show _=_;unfold pNum;rw[if_pos HM.out,hp];simp only[if_neg h0]
    have h0':(n == 0)=false:=by simpa using h0
    clear hp
    go_enter Tryz.func304,Tryz.ntmps304
    go_wp2_with (first|(go_at_call 245;refine(zba _ _ _ _hs).mono ?_;rintro e w' ⟨rfl,rfl⟩)|(go_at_call 310;refine(hd _).mono ?_;rintro e w' ⟨rfl,rfl⟩))
    go_ret3
    rw[hr.out];exact⟨rfl,rfl⟩
 ·have hm':(bAt s a == 45)=false:=by simpa using hm
  have hr:Hid (pNum s a=pDig s a):=by show _=_;unfold pNum;rw[if_neg hm]
  cases hp:pDig s a with
  |none =>
   rw[hp]at hr;have hd:=fun w=>zqh hp w _hs (by omega);clear hp
   go_enter Tryz.func304,Tryz.ntmps304
   go_wp2_with (first|(go_at_call 245;refine(zba _ _ _ _hs).mono ?_;rintro e w' ⟨rfl,rfl⟩)|(go_at_call 310;refine(hd _).mono ?_;rintro e w' ⟨rfl,rfl⟩))
   go_ret3
   rw[hr.out];exact⟨rfl,rfl⟩
  |some p =>
   obtain⟨n,e⟩:=p;rw[hp]at hr;have hb:=zgt hp;obtain⟨hb1,hb2,hb3,hb4⟩:=hb;have hd:=fun w=>zqi hp w _hs (by omega);clear hp
   go_enter Tryz.func304,Tryz.ntmps304
   go_wp2_with (first|(go_at_call 245;refine(zba _ _ _ _hs).mono ?_;rintro e w' ⟨rfl,rfl⟩)|(go_at_call 310;refine(hd _).mono ?_;rintro e w' ⟨rfl,rfl⟩))
   go_ret3
   rw[hr.out];exact⟨rfl,rfl⟩
set_option maxRecDepth 10000 in
theorem zyq (n:Int)(w:World)(h1:-10000000000000000<=n)(h2:n<=10000000000000000) :
  Calls Tryz.prog 305 #[.int .i64 n] w fun e w'=>e=.returned (.string (zcp n))/\Below w.heap.size w w':=by
 obtain⟨U,hU⟩:∃ U,U=zig n:=⟨_,rfl⟩;obtain⟨D,hD⟩:∃ D,D=zcp n:=⟨_,rfl⟩;rw[<- hD];have HD:Hid (D=codU 8 xe U):=by show _=_;rw[hD,hU];rfl
 have hUb:U<=20000000000000000:=by rw[hU];unfold zig;split<;>omega
 clear hD;by_cases hn:n<0
 all_goals
  have hUn:Hid ((U:Int)=if n<0 then -2*n-1 else 2*n):=by show _=_;rw[hU];unfold zig;split<;>omega
  clear hU
  go_enter Tryz.func305,Tryz.ntmps305
  go_wp2_with fail
  go_loopw [3,4] (fun u d wr=>∃ (m v:Nat) (acc:ByteArray),m<=8/\acc.size+m=8/\u=.int .i64 v/\d=.string acc/\v<=20000000000000000/\Hid (D=codU m acc v)/\Hid (v<128 ^ (m+1))/\Below w.heap.size w wr) (fun u _ _=>(intOf u).toNat)
  case atStart =>
   refine⟨8,U,xe,xh _,rfl,zdc ?_,rfl,hUb,HD,?_,Below.refl _ _⟩
   ·rw[hUn.out];first|rw[if_pos hn]|rw[if_neg (by omega)]
   ·show U<128 ^ 9;omega
  case round =>
   obtain⟨m,v,acc,hm,hacc,rfl,rfl,hv,hD,hlt,hb⟩:=hrel;by_cases hge:128<=v
   ·have hm1:0<m:=by
     rcases Nat.eq_zero_or_pos m with h|h
     ·subst h;have:=hlt.out;omega
     ·exact h
    obtain⟨m',rfl⟩:∃ m',m=m'+1:=⟨m-1,by omega⟩;have hsz:(oneB ((v:Int) % 128+128).toNat).size=1:=rfl
    go_wp2_with (go_at_call 251;refine(zel _ _ (by omega) (by omega)).mono ?_;rintro e w' ⟨rfl,hb'⟩)
    go_roundw
    case rel =>
     refine⟨m',v / 128,acc++oneB ((v:Int) % 128+128).toNat,by omega,by rw[xf,hsz];omega,by go_num,rfl,by omega,?_,?_,hb.trans (hb'.mono hb.size)⟩
     ·show _=_;rw[hD.out,codU,if_pos hge,show ((v:Int) % 128+128).toNat=v % 128+128 by omega]
     ·show _<_;have:=hlt.out;rw[Nat.pow_succ]at this;omega
    case measure=>simp[intOf];omega
   ·have hsz:(oneB v).size=1:=rfl
    go_wp2_with (go_at_call 251;refine(zdp _ _ (by omega)).mono ?_;rintro e w' ⟨rfl,hb'⟩)
    go_ret;refine⟨zen ?_,hb.trans (hb'.mono hb.size)⟩;rw[hD.out];cases m with
    |zero=>rfl
    |succ m=>rw[codU,if_neg hge]
end
section
open Go.RowKit
def zbk (a:Nat):Option (ByteArray×Nat)->Value
 |some (d,k)=>.tuple #[.string d,.int .i64 k,.bool true]
 |none=>.tuple #[.string xe,.int .i64 a,.bool false]
theorem zz3 {s:ByteArray}{a:Nat}{n:Int}{e:Nat}(h:pNum s a=some (n,e))(w:World)(hs:s.size<=9000000)(ha:a<=s.size) :
  Calls Tryz.prog 304 #[.string s,.int .i64 a] w fun r w'=>r=.returned (.tuple #[.int .i64 n,.int .i64 e,.bool true])/\w'=w:=by
 have:=zqj s a w hs ha;rw[h]at this;exact this
theorem zz2 {s:ByteArray}{a:Nat}(h:pNum s a=none)(w:World)(hs:s.size<=9000000)(ha:a<=s.size) :
  Calls Tryz.prog 304 #[.string s,.int .i64 a] w fun r w'=>r=.returned (.tuple #[.int .i64 0,.int .i64 a,.bool false])/\w'=w:=by
 have:=zqj s a w hs ha;rw[h]at this;exact this
theorem zh0 (lo hi:Int)(s:ByteArray)(a:Nat)(w:World)(_hs:s.size<=9000000)(ha:a<=s.size) :
  Calls Tryz.prog 286 #[.int .i64 lo,.int .i64 hi,.string s,.int .i64 a] w fun e w'=>e=.returned (zbk a (zbf false lo hi s a))/\Below w.heap.size w w':=by
 cases hp:pNum s a with
 |none =>
  have hr:Hid (zbf false lo hi s a=none):=by show _=_;unfold zbf;rw[hp]
  have hd:=fun w=>zz2 hp w _hs ha;clear hp
  go_enter Tryz.func286,Tryz.ntmps286
  go_wp2_with (go_at_call 304;refine(hd _).mono ?_;rintro e w' ⟨rfl,rfl⟩)
  go_ret3
  rw[hr.out];exact⟨rfl,Below.refl _ _⟩
 |some p =>
  obtain⟨n,e⟩:=p;obtain⟨hb1,hb2,hb3,hb4⟩:=zqc hp;have hd:=fun w=>zz3 hp w _hs ha;by_cases hlo:n<lo
  ·have hr:Hid (zbf false lo hi s a=none):=by show _=_;unfold zbf;rw[hp];simp[hlo]
   clear hp
   go_enter Tryz.func286,Tryz.ntmps286
   go_wp2_with (go_at_call 304;refine(hd _).mono ?_;rintro e w' ⟨rfl,rfl⟩)
   go_ret3
   rw[hr.out];exact⟨rfl,Below.refl _ _⟩
  ·by_cases hhi:hi<n
   ·have hr:Hid (zbf false lo hi s a=none):=by show _=_;unfold zbf;rw[hp];simp[hhi]
    clear hp
    go_enter Tryz.func286,Tryz.ntmps286
    go_wp2_with (go_at_call 304;refine(hd _).mono ?_;rintro e w' ⟨rfl,rfl⟩)
    go_ret3
    rw[hr.out];exact⟨rfl,Below.refl _ _⟩
   ·have hr:Hid (zbf false lo hi s a=some (zcp n,e)):=by show _=_;unfold zbf;rw[hp];simp[hlo,hhi]
    clear hp
    go_enter Tryz.func286,Tryz.ntmps286
    go_wp2_with (first|(go_at_call 304;refine(hd _).mono ?_;rintro e w' ⟨rfl,rfl⟩)|(go_at_call 305;refine(zyq _ _ (by omega) (by omega)).mono ?_;rintro e w' ⟨rfl,hbw⟩))
    go_ret3
    rw[hr.out];exact⟨rfl,hbw⟩
theorem zp8 (l:ByteArray)(c:Int):∀ m k,za6 l c m k<(k+m:Int)\/za6 l c m k<0
 |0,k=>by simp[za6]
 |m+1,k=>by
  rw[za6];split
  ·left;omega
  ·have:=zp8 l c m (k+1);omega
theorem zp7 (l:ByteArray)(c:Int):∀ m k,-1<=za6 l c m k
 |0,k=>by simp[za6]
 |m+1,k=>by
  rw[za6];split
  ·omega
  ·exact zp7 l c m (k+1)
theorem zzp (l:ByteArray)(c:Int)(h:l.size<=8):-1<=pOf l c/\pOf l c<8:=by
 have h1:=zp8 l c l.size 0;have h2:=zp7 l c l.size 0;unfold pOf;omega
def zde (l t:ByteArray)(j:Nat):Option (ByteArray×Nat):=if pOf l (bAt t j)<0 then none else some (oneB (pOf l (bAt t j)).toNat,j+1)
theorem zoj (l s:ByteArray)(a:Nat)(w:World)(_hs:s.size<=9000000)(hl:l.size<=8)(ha:a<=s.size) :
  Calls Tryz.prog 288 #[.string l,.string s,.int .i64 a] w fun e w'=>e=.returned (zbk a (zde l s a))/\Below w.heap.size w w':=by
 have hp:=zzp l (bAt s a) hl;obtain⟨hp1,hp2⟩:=hp;by_cases h0:pOf l (bAt s a)<0
 ·have hr:Hid (zde l s a=none):=by show _=_;unfold zde;rw[if_pos h0]
  go_enter Tryz.func288,Tryz.ntmps288
  go_wp2_with (first|(go_at_call 245;refine(zba _ _ _ _hs).mono ?_;rintro e w' ⟨rfl,rfl⟩)|(go_at_call 249;refine(zd6 _ _ _ (by omega)).mono ?_;rintro e w' ⟨rfl,rfl⟩))
  go_ret3
  rw[hr.out];exact⟨rfl,Below.refl _ _⟩
 ·have hr:Hid (zde l s a=some (oneB (pOf l (bAt s a)).toNat,a+1)):=by show _=_;unfold zde;rw[if_neg h0]
  go_enter Tryz.func288,Tryz.ntmps288
  go_wp2_with (first|(go_at_call 245;refine(zba _ _ _ _hs).mono ?_;rintro e w' ⟨rfl,rfl⟩)|(go_at_call 249;refine(zd6 _ _ _ (by omega)).mono ?_;rintro e w' ⟨rfl,rfl⟩)|(go_at_call 251;refine(zel _ _ (by omega) (by omega)).mono ?_;rintro e w' ⟨rfl,hbw⟩))
  go_ret3
  rw[hr.out];exact⟨rfl,hbw⟩
theorem zon (s:ByteArray)(a:Nat)(w:World)(_hs:s.size<=9000000)(ha:a<=s.size) :
  Calls Tryz.prog 287 #[.string s,.int .i64 a] w fun e w'=>e=.returned (zbk a (zb2 s a))/\Below w.heap.size w w':=by
 by_cases hq:bAt s a=34
 ·have hq':(bAt s a != 34)=false:=by simp[hq]
  obtain⟨E,hE⟩:∃ E,E=zaz inS s (s.size-(a+1)) (a+1):=⟨_,rfl⟩;have HE:Hid (E=zaz inS s (s.size-(a+1)) (a+1)):=hE;have hr:Hid (zb2 s a=if bAt s E=34/\E-(a+1)<=60 then some (oneB (E-(a+1))++s.extract (a+1) E,E+1) else none):=by show _=_;unfold zb2;rw[if_pos hq,<- hE]
  have hal:a<s.size:=zaw (by omega);clear hq hE
  go_enter Tryz.func287,Tryz.ntmps287
  go_wp2_with (go_at_call 245;refine(zba _ _ _ _hs).mono ?_;rintro e w' ⟨rfl,rfl⟩)
  go_loop [8] (fun i=>∃ k:Nat,a+1<=k/\k<=s.size/\i=.int .i64 k/\Hid (E=zaz inS s (s.size-k) k)) (fun i=>s.size-(intOf i).toNat)
  case atStart=>exact⟨a+1,xh _,by omega,by go_num,HE⟩
  case round =>
   obtain⟨k,hak,hk,rfl,hp⟩:=hrel;cases hd:inS (bAt s k) with
   |true =>
    have hlt:=zkl hd
    go_wp2_with (first|(go_at_call 245;refine(zba _ _ _ _hs).mono ?_;rintro e w' ⟨rfl,rfl⟩)|(go_at_call 294;refine(zfg _ _).mono ?_;rintro e w' ⟨rfl,rfl⟩))
    go_round
    case rel=>exact⟨k+1,by omega,by omega,by go_num,zle _ _ _ _ hp.out hlt hd⟩
    case measure=>simp[intOf];omega
   |false =>
    have hEk:E=k:=zlf _ _ _ _ hp.out hd;rw[hEk]at hr;clear HE hp hEk;by_cases hq2:bAt s k=34
    ·have hq2':(bAt s k != 34)=false:=by simp[hq2]
     by_cases h60:(60:Int)<(k:Int)-((a:Int)+1)
     ·have hr':Hid (zb2 s a=none):=by show _=_;rw[hr.out,if_neg (by omega)]
      clear hr hq2
      go_wp2_with (first|(go_at_call 245;refine(zba _ _ _ _hs).mono ?_;rintro e w' ⟨rfl,rfl⟩)|(go_at_call 294;refine(zfg _ _).mono ?_;rintro e w' ⟨rfl,rfl⟩))
      go_ret3
      rw[hr'.out];exact⟨rfl,Below.refl _ _⟩
     ·have hr':Hid (zb2 s a=some (oneB (k-(a+1))++s.extract (a+1) k,k+1)):=by show _=_;rw[hr.out,if_pos ⟨hq2,by omega⟩]
      have hsz:(oneB ((k:Int)-((a:Int)+1)).toNat).size=1:=rfl;have hsx:=size_extract s (a+1) k (by omega) (by omega);clear hr hq2
      go_wp2_with (first|(go_at_call 245;refine(zba _ _ _ _hs).mono ?_;rintro e w' ⟨rfl,rfl⟩)|(go_at_call 294;refine(zfg _ _).mono ?_;rintro e w' ⟨rfl,rfl⟩)|(go_at_call 251;refine(zel _ _ (by omega) (by omega)).mono ?_;rintro e w' ⟨rfl,hbw⟩)|(go_at_call 247;refine(zcq s (a+1) k _ (by omega) (by omega) _hs).mono ?_;rintro e w' ⟨rfl,rfl⟩))
      go_ret3
      rw[hr'.out];refine⟨ret3 (zsw ?_) (zdc ?_) rfl,hbw⟩
      ·rfl
      ·omega
    ·have hq2':(bAt s k != 34)=true:=by simpa using hq2
     have hr':Hid (zb2 s a=none):=by show _=_;rw[hr.out,if_neg (fun h=>hq2 h.1)]
     clear hr hq2
     go_wp2_with (first|(go_at_call 245;refine(zba _ _ _ _hs).mono ?_;rintro e w' ⟨rfl,rfl⟩)|(go_at_call 294;refine(zfg _ _).mono ?_;rintro e w' ⟨rfl,rfl⟩))
     go_ret3
     rw[hr'.out];exact⟨rfl,Below.refl _ _⟩
 ·have hq':(bAt s a != 34)=true:=by simpa using hq
  have hr:Hid (zb2 s a=none):=by show _=_;unfold zb2;rw[if_neg hq]
  clear hq
  go_enter Tryz.func287,Tryz.ntmps287
  go_wp2_with (go_at_call 245;refine(zba _ _ _ _hs).mono ?_;rintro e w' ⟨rfl,rfl⟩)
  go_ret3
  rw[hr.out];exact⟨rfl,Below.refl _ _⟩
end
section
open Go.RowKit
theorem zap {B:Nat}{W w1:World}(hb:Below B W w1):(∀ b o,b<B->w1.cell? ⟨b,o,none⟩=W.cell? ⟨b,o,none⟩)/\(∀ b o,b<B->w1.frozen? ⟨b,o,none⟩=W.frozen? ⟨b,o,none⟩) :=
 ⟨fun b o h=>hb.cell (p:=⟨b,o,none⟩) h,fun b o h=>hb.frozen (p:=⟨b,o,none⟩) h⟩
theorem zag {w:World}{b o:Nat}{v:Value}(h:w.cell? ⟨b,o,none⟩=some v):b<w.heap.size:=World.block_lt_of_cell? w ⟨b,o,none⟩ h
def Rep:Nat->World->Option Addr->Nat->Nat->Option Addr->Nat->Nat->Ty->Prop
 |0,_,_,_,_,_,_,_,_=>False
 |n+1,w,ai,li,ci,af,lf,cf,ty=>ty.letters.size<=8/\ty.fields.length<=9000000/\lf=ty.fields.length/\((ty.kind=91\/ty.kind=63->ty.inner≠[])/\(ty.kind=123->ty.fields≠[])) /\
   ((ty.inner=[]/\ai=none/\li=0/\ci=0) \/
    ∃ t b p1 p2 p3 q1 q2 q3,ty.inner=[t]/\ai=some ⟨b,0,none⟩/\li=1/\Rep n w p1 p2 p3 q1 q2 q3 t /\
     w.cell? ⟨b,0,none⟩=some (.int .i64 t.kind)/\w.cell? ⟨b,1,none⟩=some (.string t.letters)/\w.cell? ⟨b,2,none⟩=some (.bool t.op)/\w.cell? ⟨b,3,none⟩=some (.slice p1 p2 p3)/\w.cell? ⟨b,4,none⟩=some (.slice q1 q2 q3)) /\
   ((ty.fields=[]/\af=none/\lf=0/\cf=0) \/
    ∃ g,af=some ⟨g,0,none⟩ /\
     ∀ i f,ty.fields[i]?=some f->∃ p1 p2 p3 q1 q2 q3,Rep n w p1 p2 p3 q1 q2 q3 f.2.1/\w.cell? ⟨g,i*7,none⟩=some (.int .i64 f.1) /\
      w.cell? ⟨g,i*7+1,none⟩=some (.int .i64 f.2.1.kind)/\w.cell? ⟨g,i*7+2,none⟩=some (.string f.2.1.letters)/\w.cell? ⟨g,i*7+3,none⟩=some (.bool f.2.1.op)/\w.cell? ⟨g,i*7+4,none⟩=some (.slice p1 p2 p3)/\w.cell? ⟨g,i*7+5,none⟩=some (.slice q1 q2 q3) /\
      w.cell? ⟨g,i*7+6,none⟩=some (.string f.2.2))
theorem zab {w w':World}(hb:Below w.heap.size w w'){b o:Nat}{v:Value}(h:w.cell? ⟨b,o,none⟩=some v):w'.cell? ⟨b,o,none⟩=some v:=by
 rw[hb.cell (p:=⟨b,o,none⟩) (zag h)];exact h
theorem Rep.keep {w w':World}(hb:Below w.heap.size w w'):∀ {n:Nat} {ai af:Option Addr} {li ci lf cf:Nat} {ty:Ty},Rep n w ai li ci af lf cf ty->Rep n w' ai li ci af lf cf ty
 |0,_,_,_,_,_,_,_,h=>h
 |n+1,ai,af,li,ci,lf,cf,ty,h=>by
  obtain⟨hl,hn,hlf,hk,hi,hf⟩:=h;refine⟨hl,hn,hlf,hk,?_,?_⟩
  ·rcases hi with hi|⟨t,b,p1,p2,p3,q1,q2,q3,h1,h2,h2',h3,k0,k1,k2,k3,k4⟩
   ·exact .inl hi
   ·exact .inr ⟨t,b,p1,p2,p3,q1,q2,q3,h1,h2,h2',Rep.keep hb h3,zab hb k0,zab hb k1,zab hb k2,zab hb k3,zab hb k4⟩
  ·rcases hf with hf|⟨g,h1,h2⟩
   ·exact .inl hf
   ·refine .inr ⟨g,h1,fun i f hi=>?_⟩;obtain⟨p1,p2,p3,q1,q2,q3,h3,k0,k1,k2,k3,k4,k5,k6⟩:=h2 i f hi;exact⟨p1,p2,p3,q1,q2,q3,Rep.keep hb h3,zab hb k0,zab hb k1,zab hb k2,zab hb k3,zab hb k4,zab hb k5,zab hb k6⟩
theorem zei (n:Nat)(w:World)(ai af:Option Addr)(li ci lf cf:Nat)(ty:Ty)(h:Rep (n+1) w ai li ci af lf cf ty)(hne:ty.inner≠[]) :
  Calls Tryz.prog 194 #[.agg #[.int .i64 ty.kind,.string ty.letters,.bool ty.op,.slice ai li ci,.slice af lf cf]] w fun e w'=>∃ p1 p2 p3 q1 q2 q3,e=.returned (.agg #[.int .i64 ty.in.kind,.string ty.in.letters,.bool ty.in.op,.slice p1 p2 p3,.slice q1 q2 q3])/\Rep n w' p1 p2 p3 q1 q2 q3 ty.in/\Below w.heap.size w w':=by
 obtain⟨hl,hn,hlf,hk,hi,hf⟩:=h;clear hf hk;rcases hi with⟨hi,_⟩|⟨t,b,p1,p2,p3,q1,q2,q3,h1,rfl,rfl,h3,k0,k1,k2,k3,k4⟩
 ·exact absurd hi hne
 ·have hin:ty.in=t:=by unfold Ty.in;rw[h1];rfl
  rw[hin];have hb:=zag k0;clear hne h1 hin hlf
  go_enter Tryz.func194,Tryz.ntmps194
  go_wp2
  have hB:Below w.heap.size w ((w.alloc (.cells #[.int .i64 ty.kind,.string ty.letters,.bool ty.op,.slice (some ⟨b,0,none⟩) 1 ci,.slice af lf cf] 201)).alloc (.cells #[.int .i64 t.kind,.string t.letters,.bool t.op,.slice p1 p2 p3,.slice q1 q2 q3] 201)) :=
   ((Below.refl _ _).alloc (xh _) _).alloc (by simp) _
  exact bodyPost_ret (v:=.agg #[.int .i64 t.kind,.string t.letters,.bool t.op,.slice p1 p2 p3,.slice q1 q2 q3]) (by simp[results,Tryz.results194,go_sem]) rfl ⟨p1,p2,p3,q1,q2,q3,rfl,h3.keep hB,hB⟩
end
theorem zak (n:Nat):(oneB n).size=1:=rfl
theorem zna:∀ (m:Nat) (acc:ByteArray) (u:Nat),(codU m acc u).size<=acc.size+m+1
 |0,acc,u=>by rw[codU,xf,zak];omega
 |m+1,acc,u=>by
  rw[codU];split
  ·have:=zna m (acc++oneB (u % 128+128)) (u / 128);rw[xf,zak]at this;omega
  ·rw[xf,zak];omega
theorem zyn (n:Int):(zcp n).size<=9:=by
 have:=zna 8 xe (zig n);unfold zcp;have e:ByteArray.empty.size=0:=rfl;omega
theorem zod {st:Bool}{lo hi:Int}{t d:ByteArray}{j k:Nat}(h:zbf st lo hi t j=some (d,k)):j<k/\k<=t.size/\d.size<=9*(k-j):=by
 unfold zbf at h;split at h
 ·cases h
 ·rename_i n e hp;have:=zqc hp;split at h
  ·cases h
  ·split at h
   ·cases h
   ·simp only[xg,xj]at h;obtain⟨rfl,rfl⟩:=h;have:=zyn n;omega
theorem zwf {t d:ByteArray}{j k:Nat}(h:zb2 t j=some (d,k)):j<k/\k<=t.size/\d.size<=9*(k-j):=by
 unfold zb2 at h;split at h
 ·simp only at h;have hle:=zdt inS t (t.size-(j+1)) (j+1);generalize zaz inS t (t.size-(j+1)) (j+1)=E at h hle;split at h
  ·rename_i hc;simp only[xg,xj]at h;obtain⟨rfl,rfl⟩:=h;have hE:E<t.size:=zaw (by omega);rw[xf,zak,size_extract t (j+1) E (by omega) (by omega)];omega
  ·cases h
 ·cases h
theorem zwa {l t d:ByteArray}{j k:Nat}(h:zde l t j=some (d,k)):j<k/\k<=t.size/\d.size<=9*(k-j):=by
 unfold zde at h;split at h
 ·cases h
 ·rename_i hc;simp only[xg,xj]at h;obtain⟨rfl,rfl⟩:=h;rw[zak];have:j<t.size:=by
   rcases Nat.lt_or_ge j t.size with h|h
   ·exact h
   ·exfalso;rw[zd0 t j h]at hc;apply hc;unfold pOf;have key:∀ m k,za6 l (-1) m k<=-1\/(k+m > l.size):=by
     intro m
     induction m with
     |zero=>intro k;left;simp[za6]
     |succ m ih =>
      intro k;rw[za6];by_cases hk:k<l.size
      ·rw[zee l k hk,if_neg (by omega)];rcases ih (k+1)with h|h
       ·exact .inl h
       ·right;omega
      ·right;omega
    rcases key l.size 0 with h|h<;>omega
  omega
def Bd (C:Nat)(T:Nat)(f:Nat->Option (ByteArray×Nat)):Prop:=∀ j d k,f j=some (d,k)->j<k/\k<=T/\d.size<=C*(k-j)
theorem zdo {C a b c:Nat}(h1:a<=b)(h2:b<=c):C*(b-a)+C*(c-b)=C*(c-a):=by
 rw[<- xy];congr 1;omega
theorem zfj {C a b:Nat}(h:a<=b):C*a<=C*b:=xq C h
theorem zpi {C a b:Nat}(hC:1<=C)(h:a<b):C*a+1<=C*b:=by
 have:=xq C (show a+1<=b by omega);rw[xy]at this;omega
theorem zn9 {C:Nat}{f:Nat->Option (ByteArray×Nat)}{t:ByteArray}(hC:1<=C)(hf:Bd C t.size f)(j:Nat) :
  ∀ (m c b:Nat) (d0 d:ByteArray) (k:Nat),j<=b->d0.size<=C*(b-j)->zbh f t m c b d0=some (d,k)->b<k/\k<=t.size/\d.size<=C*(k-j)
 |0,c,b,d0,d,k,_,_,h=>by simp[zbh]at h
 |m+1,c,b,d0,d,k,hj,h0,h=>by
  rw[zbh]at h;split at h
  ·cases h
  ·rename_i x k' hx;have hb:=hf _ _ _ hx;have hs:(d0++x).size<=C*(k'-j):=by
    rw[xf];have h1:=zdo (C:=C) (show j<=b+1 by omega) (show b+1<=k' by omega);have h2:=zfj (C:=C) (show b-j<=b+1-j by omega);omega
   split at h
   ·rename_i hc;simp only[xg,xj]at h;obtain⟨rfl,rfl⟩:=h;have hk':k'<t.size:=zaw (by omega);refine⟨by omega,by omega,?_⟩;rw[xf,zak];have:=zpi hC (show k'-j<k'+1-j by omega);omega
   ·split at h
    ·have:=zn9 hC hf j m (c+1) k' (d0++x) d k (by omega) hs h;omega
    ·cases h
theorem zwb {C:Nat}{f:Nat->Option (ByteArray×Nat)}{t:ByteArray}(hC:1<=C)(hf:Bd C t.size f):Bd C t.size (zb1 f t):=by
 intro j d k h;unfold zb1 at h;split at h
 ·split at h
  ·rename_i h1 h2;simp only[xg,xj]at h;obtain⟨rfl,rfl⟩:=h;have:j+1<t.size:=zaw (by omega);refine⟨by omega,by omega,?_⟩;rw[zak];have:=zpi hC (show 0<j+2-j by omega);omega
  ·have:=zn9 hC hf j 16 1 j xe d k (xh _) (xm _) h;omega
 ·cases h
theorem zwc {C:Nat}{f:Nat->Option (ByteArray×Nat)}{t:ByteArray}(hC:1<=C)(hf:Bd C t.size f):Bd (C+1) t.size (zbq f t):=by
 intro j d k h;unfold zbq at h;split at h
 ·rename_i h1;simp only[xg,xj]at h;obtain⟨rfl,rfl⟩:=h;have:j<t.size:=zaw (by omega);refine⟨by omega,by omega,?_⟩;rw[zak,show j+1-j=1 by omega];omega
 ·split at h
  ·cases h
  ·rename_i x k' hx;simp only[xg,xj]at h;obtain⟨rfl,rfl⟩:=h;have hb:=hf _ _ _ hx;refine⟨hb.1,hb.2.1,?_⟩;rw[xf,zak,Nat.add_mul];omega
theorem zn4 {C:Nat}{f:Ty->Nat->Option (ByteArray×Nat)}{t:ByteArray}(hC:1<=C)(hf:∀ ty,Bd C t.size (f ty))(j:Nat) :
  ∀ (fs:List (Nat×Ty×ByteArray)) (mk:Int) (b:Nat) (d0 d:ByteArray) (k:Nat),j<=b->d0.size<=C*(b-j)->za0 f t fs mk b d0=some (d,k)->b<k/\k<=t.size/\d.size<=C*(k-j)
 |[],mk,b,d0,d,k,hj,h0,h=>by
  rw[za0]at h;split at h
  ·simp only[xg,xj]at h;obtain⟨rfl,rfl⟩:=h;have:b<t.size:=zaw (by omega);have:=zfj (C:=C) (show b-j<=b+1-j by omega);omega
  ·cases h
 |g::fs,mk,b,d0,d,k,hj,h0,h=>by
  rw[za0]at h;split at h
  ·split at h
   ·cases h
   ·rename_i x k' hx;have hb:=hf _ _ _ _ hx;have hs:(d0++x).size<=C*(k'-j):=by
     rw[xf];have h1:=zdo (C:=C) (show j<=b+3 by omega) (show b+3<=k' by omega);have h2:=zfj (C:=C) (show b-j<=b+3-j by omega);omega
    have:=zn4 hC hf j fs 44 k' (d0++x) d k (by omega) hs h;omega
  ·cases h
theorem Bd.mono {C C' T:Nat}{f:Nat->Option (ByteArray×Nat)}(h:Bd C T f)(hC:C<=C'):Bd C' T f:=fun j d k hj=>by
 have:=h j d k hj;have:=xo (k-j) hC;omega
theorem zog (st:Bool)(t:ByteArray):∀ (n:Nat) (ty:Ty),Bd (9*n+9) t.size (enc st t n ty)
 |0,ty=>by intro j d k h;simp[enc]at h
 |n+1,ty=>by
  have ih:=fun ty=>(zog st t n ty);intro j d k h;rw[enc]at h;have up:∀ {d:ByteArray} {k:Nat},j<k/\k<=t.size/\d.size<=9*(k-j)->j<k/\k<=t.size/\d.size<=(9*(n+1)+9)*(k-j):=by
   rintro d k ⟨h1,h2,h3⟩;have:=xo (k-j) (show 9<=9*(n+1)+9 by omega);omega
  split at h
  ·exact up (zod h)
  ·split at h
   ·exact up (zod h)
   ·split at h
    ·exact up (zwf h)
    ·split at h
     ·exact up (zwa h)
     ·split at h
      ·exact(zwb (by omega) (ih ty.in)).mono (by omega) _ _ _ h
      ·split at h
       ·exact(zwc (by omega) (ih ty.in)).mono (by omega) _ _ _ h
       ·split at h
        ·have:=zn4 (C:=9*(n+1)+9) (by omega) (fun ty=>(ih ty).mono (by omega)) j ty.fields 123 j xe d k (xh _) (xm _) h;exact this
        ·cases h
theorem zdf {st:Bool}{t d:ByteArray}{n j k:Nat}{ty:Ty}(h:enc st t n ty j=some (d,k)):j<k/\k<=t.size/\d.size<=(9*n+9)*(k-j):=zog st t n ty j d k h
section
open Go.RowKit
def EncAtOK (n:Nat)(t:ByteArray):Prop:=∀ (ty:Ty) (j:Nat) (w:World) (ai af:Option Addr) (li ci lf cf:Nat),j<=t.size->Rep n w ai li ci af lf cf ty ->
 Calls Tryz.prog 238 #[.agg #[.int .i64 ty.kind,.string ty.letters,.bool ty.op,.slice ai li ci,.slice af lf cf],.string t,.int .i64 j] w fun e w'=>e=.returned (zbk j (enc false t n ty j))/\Below w.heap.size w w'
theorem EncAtOK.no {n:Nat}{t:ByteArray}(IH:EncAtOK n t){ty:Ty}{j:Nat}{w:World}{ai af:Option Addr}{li ci lf cf:Nat}(hj:j<=t.size)(hr:Rep n w ai li ci af lf cf ty)(hx:enc false t n ty j=none) :
 Calls Tryz.prog 238 #[.agg #[.int .i64 ty.kind,.string ty.letters,.bool ty.op,.slice ai li ci,.slice af lf cf],.string t,.int .i64 j] w fun e w'=>e=.returned (.tuple #[.string xe,.int .i64 j,.bool false])/\Below w.heap.size w w':=by
 have:=IH ty j w ai af li ci lf cf hj hr;rw[hx]at this;exact this
theorem EncAtOK.yes {n:Nat}{t:ByteArray}(IH:EncAtOK n t){ty:Ty}{j:Nat}{w:World}{ai af:Option Addr}{li ci lf cf:Nat}(hj:j<=t.size)(hr:Rep n w ai li ci af lf cf ty){d:ByteArray}{k:Nat}(hx:enc false t n ty j=some (d,k)) :
 Calls Tryz.prog 238 #[.agg #[.int .i64 ty.kind,.string ty.letters,.bool ty.op,.slice ai li ci,.slice af lf cf],.string t,.int .i64 j] w fun e w'=>e=.returned (.tuple #[.string d,.int .i64 k,.bool true])/\Below w.heap.size w w':=by
 have:=IH ty j w ai af li ci lf cf hj hr;rw[hx]at this;exact this
theorem zet {n a b:Nat}{d:ByteArray}(h:d.size<=(9*n+9)*(b-a))(hn:n<=100)(hb:b<=4096):d.size<=4000000:=by
 have h1:(9*n+9)*(b-a)<=909*(b-a):=xo _ (by omega);omega
theorem zol {n:Nat}{t:ByteArray}(IH:EncAtOK n t)(ht:t.size<=4096)(hn:n<=100)(ty:Ty)(j:Nat)(w:World)(ai af:Option Addr)(li ci lf cf:Nat)(hj:j<=t.size)(hr:Rep n w ai li ci af lf cf ty) :
  Calls Tryz.prog 290 #[.agg #[.int .i64 ty.kind,.string ty.letters,.bool ty.op,.slice ai li ci,.slice af lf cf],.string t,.int .i64 j] w fun e w'=>e=.returned (zbk j (zbq (enc false t n ty) t j))/\Below w.heap.size w w':=by
 have _hs:t.size<=9000000:=by omega
 have hB:∀ o,Below w.heap.size w (w.alloc o):=fun o=>(Below.refl _ _).alloc (xh _) _;by_cases hm:bAt t j=95
 ·have hm':(bAt t j == 95)=true:=by simp[hm]
  have hr':Hid (zbq (enc false t n ty) t j=some (oneB 0,j+1)):=by show _=_;unfold zbq;rw[if_pos hm]
  clear hm
  go_enter Tryz.func290,Tryz.ntmps290
  go_wp2_with (first|(go_at_call 245;refine(zan _ _ _ (by omega) _hs).mono ?_;rintro e w' ⟨rfl,rfl⟩)|(go_at_call 251;refine(zdp 0 _ (by omega)).mono ?_;rintro e w' ⟨rfl,hbw⟩))
  go_ret3
  rw[hr'.out];exact⟨rfl,(hB _).trans (hbw.mono (by simp))⟩
 ·have hm':(bAt t j == 95)=false:=by simpa using hm
  cases hx:enc false t n ty j with
  |none =>
   have hr':Hid (zbq (enc false t n ty) t j=none):=by show _=_;unfold zbq;rw[if_neg hm,hx]
   have hd:=fun o=>IH.no hj (hr.keep (hB o)) hx;clear hm hx
   go_enter Tryz.func290,Tryz.ntmps290
   go_wp2_with (first|(go_at_call 245;refine(zan _ _ _ (by omega) _hs).mono ?_;rintro e w' ⟨rfl,rfl⟩)|(go_at_call 238;refine(hd _).mono ?_;rintro e w' ⟨rfl,hbw⟩))
   go_ret3
   rw[hr'.out];exact⟨rfl,(hB _).trans (hbw.mono (by simp))⟩
  |some p =>
   obtain⟨d,k⟩:=p;have hr':Hid (zbq (enc false t n ty) t j=some (oneB 1++d,k)):=by show _=_;unfold zbq;rw[if_neg hm,hx]
   have hd:=fun o=>IH.yes hj (hr.keep (hB o)) hx;obtain⟨hb1,hb2,hb3⟩:=zdf hx;have hds:=zet hb3 hn (by omega);have hsz:(oneB 1).size=1:=rfl;clear hm hx hb3
   go_enter Tryz.func290,Tryz.ntmps290
   go_wp2_with (first|(go_at_call 245;refine(zan _ _ _ (by omega) _hs).mono ?_;rintro e w' ⟨rfl,rfl⟩)|(go_at_call 238;refine(hd _).mono ?_;rintro e w' ⟨rfl,hbw⟩)|(go_at_call 251;refine(zdp 1 _ (by omega)).mono ?_;rintro e w' ⟨rfl,hbw2⟩))
   go_ret3
   rw[hr'.out];exact⟨rfl,(hB _).trans ((hbw.mono (by simp)).trans (hbw2.mono (by have:=hbw.size;simp at this;omega)))⟩
theorem zok {n:Nat}{t:ByteArray}(IH:EncAtOK n t)(ht:t.size<=4096)(hn:n<=100)(ty:Ty)(j:Nat)(w:World)(ai af:Option Addr)(li ci lf cf:Nat)(hj:j<=t.size)(hr:Rep n w ai li ci af lf cf ty) :
  Calls Tryz.prog 289 #[.agg #[.int .i64 ty.kind,.string ty.letters,.bool ty.op,.slice ai li ci,.slice af lf cf],.string t,.int .i64 j] w fun e w'=>e=.returned (zbk j (zb1 (enc false t n ty) t j))/\Below w.heap.size w w':=by
 have _hs:t.size<=9000000:=by omega
 have hB:∀ o,Below w.heap.size w (w.alloc o):=fun o=>(Below.refl _ _).alloc (xh _) _;by_cases hm:bAt t j=91
 ·have hm':(bAt t j != 91)=false:=by simp[hm]
  by_cases h2:bAt t (j+1)=93
  ·have h2':(bAt t (j+1) == 93)=true:=by simp[h2]
   have hr':Hid (zb1 (enc false t n ty) t j=some (oneB 0,j+2)):=by show _=_;unfold zb1;rw[if_pos hm,if_pos h2]
   clear hm h2
   go_enter Tryz.func289,Tryz.ntmps289
   go_wp2_with (first|(go_at_call 245;refine(zan _ _ _ (by omega) _hs).mono ?_;rintro e w' ⟨rfl,rfl⟩)|(go_at_call 251;refine(zdp 0 _ (by omega)).mono ?_;rintro e w' ⟨rfl,hbw⟩))
   go_ret3
   rw[hr'.out];exact⟨rfl,(hB _).trans (hbw.mono (by simp))⟩
  ·have h2':(bAt t (j+1) == 93)=false:=by simpa using h2
   obtain⟨R,hR⟩:∃ R,R=zbh (enc false t n ty) t 16 1 j xe:=⟨_,rfl⟩;have hr':zb1 (enc false t n ty) t j=R:=by unfold zb1;rw[if_pos hm,if_neg h2,hR]
   rw[hr'];have HR:Hid (R=zbh (enc false t n ty) t 16 1 j xe):=hR;have hjt:j<t.size:=zaw (by omega);clear hm h2 hr' hR
   go_enter Tryz.func289,Tryz.ntmps289
   go_wp2_with (first|(go_at_call 245;refine(zan _ _ _ (by omega) _hs).mono ?_;rintro e w' ⟨rfl,rfl⟩))
   go_loopw [9,10,11] (fun vd vb vc wr=>∃ (m c b:Nat) (d:ByteArray),c+m=17/\1<=c/\j<=b/\b<t.size/\vc=.int .i64 c/\vb=.int .i64 b/\vd=.string d/\Hid (R=zbh (enc false t n ty) t m c b d)/\Hid (d.size<=(9*n+9)*(b-j))/\Below (w.heap.size+1) (w.alloc (.cells #[.int .i64 ty.kind,.string ty.letters,.bool ty.op,.slice ai li ci,.slice af lf cf] 201)) wr) (fun _ _ c _=>17-(intOf c).toNat)
   case atStart=>exact⟨16,1,j,xe,rfl,xh _,xh _,hjt,rfl,rfl,rfl,HR,xm _,Below.refl _ _⟩
   case round =>
    obtain⟨m,c,b,d,hcm,hc1,hjb,hbt,rfl,rfl,rfl,hR,hd,hb⟩:=hrel;obtain⟨hc,hf⟩:=zap hb;have hrw:Rep n wr ai li ci af lf cf ty:=(hr.keep (hB _)).keep (hb.mono (by simp));have hsw:w.heap.size+1<=wr.heap.size:=by have:=hb.size;simpa using this
    have hbw0:Below w.heap.size w wr:=(hB _).trans (hb.mono (by omega));cases m with
    |zero =>
     have hc17:(17:Int)<=c:=by omega
     have hr':Hid (R=none):=hR
     go_wp2_with fail
     go_ret3
     rw[hr'.out];exact⟨rfl,hbw0⟩
    |succ m =>
     have hc16:(c:Int)<=16:=by omega
     cases hx:enc false t n ty (b+1) with
     |none =>
      have hr':Hid (R=none):=by show _=_;rw[hR.out,zbh,hx]
      have hd:=IH.no (show b+1<=t.size by omega) hrw hx;clear hx
      go_wp2_with (go_at_call 238;refine hd.mono ?_;rintro e w' ⟨rfl,hbw⟩)
      go_ret3
      rw[hr'.out];exact⟨rfl,hbw0.trans (hbw.mono (by omega))⟩
     |some p =>
      obtain⟨x,k⟩:=p;obtain⟨hb1,hb2,hb3⟩:=zdf hx;have hsum:(d++x).size<=(9*n+9)*(k-j):=by
       rw[xf];have h1:=zdo (C:=9*n+9) (show j<=b+1 by omega) (show b+1<=k by omega);have h2:=zfj (C:=9*n+9) (show b-j<=b+1-j by omega);have:=hd.out;omega
      have hs1:=zet hb3 hn (by omega);have hs2:=zet hd.out hn (by omega);have hs3:=zet hsum hn (by omega);have HS:Hid ((d++x).size<=(9*n+9)*(k-j)):=hsum;have hcall:=IH.yes (show b+1<=t.size by omega) hrw hx;have hso:(oneB c).size=1:=rfl;clear hb3 hsum;by_cases h93:bAt t k=93
      ·have hr':Hid (R=some (oneB c++(d++x),k+1)):=by show _=_;rw[hR.out,zbh,hx];simp only[if_pos h93]
       have h93':(bAt t k == 93)=true:=by simp[h93]
       clear hx h93
       go_wp2_with (first|(go_at_call 238;refine hcall.mono ?_;rintro e w' ⟨rfl,hbw⟩)|(go_at_call 245;refine(zan _ _ _ (by omega) _hs).mono ?_;rintro e w' ⟨rfl,rfl⟩)|(go_at_call 251;refine(zdp c _ (by omega)).mono ?_;rintro e w' ⟨rfl,hbw2⟩))
       go_ret3
       rw[hr'.out];exact⟨rfl,hbw0.trans ((hbw.mono (by omega)).trans (hbw2.mono (by have:=hbw.size;omega)))⟩
      ·have h93':(bAt t k == 93)=false:=by simpa using h93
       by_cases h44:bAt t k=44
       ·have h44':(bAt t k != 44)=false:=by simp[h44]
        have hr':Hid (R=zbh (enc false t n ty) t m (c+1) k (d++x)):=by show _=_;rw[hR.out,zbh,hx];simp only[if_neg h93,if_pos h44]
        have hkt:k<t.size:=zaw (by omega);clear hx h93 h44
        go_wp2_with (first|(go_at_call 238;refine hcall.mono ?_;rintro e w' ⟨rfl,hbw⟩)|(go_at_call 245;refine(zan _ _ _ (by omega) _hs).mono ?_;rintro e w' ⟨rfl,rfl⟩))
        go_roundw
        case rel=>exact⟨m,c+1,k,d++x,by omega,by omega,by omega,hkt,by go_num,rfl,rfl,hr',HS,hb.trans (hbw.mono (by omega))⟩
        case measure=>simp[intOf];omega
       ·have h44':(bAt t k != 44)=true:=by simpa using h44
        have hr':Hid (R=none):=by show _=_;rw[hR.out,zbh,hx];simp only[if_neg h93,if_neg h44]
        clear hx h93 h44
        go_wp2_with (first|(go_at_call 238;refine hcall.mono ?_;rintro e w' ⟨rfl,hbw⟩)|(go_at_call 245;refine(zan _ _ _ (by omega) _hs).mono ?_;rintro e w' ⟨rfl,rfl⟩))
        go_ret3
        rw[hr'.out];exact⟨rfl,hbw0.trans (hbw.mono (by omega))⟩
 ·have hm':(bAt t j != 91)=true:=by simpa using hm
  have hr':Hid (zb1 (enc false t n ty) t j=none):=by show _=_;unfold zb1;rw[if_neg hm]
  clear hm
  go_enter Tryz.func289,Tryz.ntmps289
  go_wp2_with (go_at_call 245;refine(zan _ _ _ (by omega) _hs).mono ?_;rintro e w' ⟨rfl,rfl⟩)
  go_ret3
  rw[hr'.out];exact⟨rfl,hB _⟩
end
section
open Go.RowKit
def RepF (n:Nat)(w:World)(af:Option Addr)(fs:List (Nat×Ty×ByteArray)):Prop :=
 (fs=[]/\af=none) \/
    ∃ g,af=some ⟨g,0,none⟩ /\
     ∀ i f,fs[i]?=some f->∃ p1 p2 p3 q1 q2 q3,Rep n w p1 p2 p3 q1 q2 q3 f.2.1/\w.cell? ⟨g,i*7,none⟩=some (.int .i64 f.1) /\
      w.cell? ⟨g,i*7+1,none⟩=some (.int .i64 f.2.1.kind)/\w.cell? ⟨g,i*7+2,none⟩=some (.string f.2.1.letters)/\w.cell? ⟨g,i*7+3,none⟩=some (.bool f.2.1.op)/\w.cell? ⟨g,i*7+4,none⟩=some (.slice p1 p2 p3)/\w.cell? ⟨g,i*7+5,none⟩=some (.slice q1 q2 q3) /\
      w.cell? ⟨g,i*7+6,none⟩=some (.string f.2.2)
theorem Rep.flds {n:Nat}{w:World}{ai af:Option Addr}{li ci lf cf:Nat}{ty:Ty}(h:Rep (n+1) w ai li ci af lf cf ty):lf=ty.fields.length/\ty.fields.length<=9000000/\RepF n w af ty.fields:=by
 obtain⟨_,h1,h2,_,_,h3⟩:=h;refine⟨h2,h1,?_⟩;rcases h3 with h3|h3
 ·exact .inl ⟨h3.1,h3.2.1⟩
 ·exact .inr h3
theorem zom {n:Nat}{t:ByteArray}(IH:EncAtOK n t)(ht:t.size<=4096)(hn:n<=100)(fs:List (Nat×Ty×ByteArray))(j:Nat)(w:World)(af:Option Addr)(lf cf:Nat)(hj:j<=t.size)(hlf:lf=fs.length)(hfl:fs.length<=9000000)(hr:RepF n w af fs) :
  Calls Tryz.prog 291 #[.slice af lf cf,.string t,.int .i64 j] w fun e w'=>e=.returned (zbk j (za0 (enc false t n) t fs 123 j xe))/\Below w.heap.size w w':=by
 have _hs:t.size<=9000000:=by omega
 subst hlf;obtain⟨R,hR⟩:∃ R,R=za0 (enc false t n) t fs 123 j xe:=⟨_,rfl⟩;rw[<- hR];have HR:Hid (R=za0 (enc false t n) t fs 123 j xe):=hR;clear hR
 go_enter Tryz.func291,Tryz.ntmps291
 go_wp2_with fail
 go_loopw [9,10,11,20] (fun vd vb vm vi wr=>∃ (i b:Nat) (mk:Int) (d:ByteArray),i<=fs.length/\j<=b/\b<=t.size/\vi=.int .i64 i/\vb=.int .i64 b/\vm=.int .i64 mk/\vd=.string d/\Hid (0<=mk)/\Hid (R=za0 (enc false t n) t (fs.drop i) mk b d)/\Hid (d.size<=(9*n+9)*(b-j))/\Below w.heap.size w wr) (fun _ _ _ i _=>fs.length-(intOf i).toNat)
 case atStart=>exact⟨0,j,123,xe,xm _,xh _,hj,rfl,rfl,rfl,rfl,(by show (0:Int)<=123;omega),HR,xm _,Below.refl _ _⟩
 case round =>
  obtain⟨i,b,mk,d,hi,hjb,hbt,rfl,rfl,rfl,rfl,hmk,hR,hd,hb⟩:=hrel;by_cases hlt:i<fs.length
  ·obtain⟨f,hf⟩:∃ f,fs[i]?=some f:=⟨fs[i],xp hlt⟩;have hdrop:fs.drop i=f::fs.drop (i+1):=by
    rw[List.drop_eq_getElem_cons hlt];rw[xp hlt]at hf;simp at hf;rw[hf]
   have hr0:=hr;rcases hr with⟨hr,_⟩|⟨g,rfl,hcells⟩
   ·rw[hr]at hf;simp at hf
   ·obtain⟨p1,p2,p3,q1,q2,q3,hrep,k0,k1,k2,k3,k4,k5,k6⟩:=hcells i f hf;have hg:=zag k0;have k0:=zab hb k0;have k1:=zab hb k1;have k2:=zab hb k2;have k3:=zab hb k3;have k4:=zab hb k4;have k5:=zab hb k5;have k6:=zab hb k6;have hg':g<wr.heap.size:=zag k0;have hrepw:=hrep.keep hb;have hBa:∀ o m,Below wr.heap.size wr ((wr.alloc o).drewN m):=fun o m=>below_drewN ((Below.refl _ _).alloc (xh _) _) m;by_cases h1:bAt t b=mk
    ·have h1':(bAt t b != mk)=false:=by simp[h1]
     by_cases h2:bAt t (b+1)=f.1
     ·have h2':(bAt t (b+1) != (f.1:Int))=false:=by simp[h2]
      by_cases h3:bAt t (b+2)=58
      ·have h3':(bAt t (b+2) != 58)=false:=by simp[h3]
       have hb3:b+2<t.size:=zaw (by omega);cases hx:enc false t n f.2.1 (b+3) with
       |none =>
        have hr':Hid (R=none):=by show _=_;rw[hR.out,hdrop,za0,if_pos ⟨h1,h2,h3⟩,hx]
        have hcall:=fun o m=>IH.no (show b+3<=t.size by omega) (hrepw.keep (hBa o m)) hx;clear h1 h2 h3 hx
        go_wp2_with fail
        go_quiet ((go_at_call 245;exact Calls.quiet_of_same (zan _ _ _ (by omega) _hs)))
        go_wp2_with (go_at_call 238;refine(hcall _ _).mono ?_;rintro e w' ⟨rfl,hbw⟩)
        go_ret3
        rw[hr'.out];exact⟨rfl,hb.trans (((hBa _ _).mono hb.size).trans (hbw.mono (by have:=hb.size;simp;omega)))⟩
       |some p =>
        obtain⟨x,k⟩:=p;obtain⟨hb1,hb2,hbs⟩:=zdf hx;have hsum:(d++x).size<=(9*n+9)*(k-j):=by
         rw[xf];have e1:=zdo (C:=9*n+9) (show j<=b+3 by omega) (show b+3<=k by omega);have e2:=zfj (C:=9*n+9) (show b-j<=b+3-j by omega);have:=hd.out;omega
        have hs1:=zet hbs hn (by omega);have hs2:=zet hd.out hn (by omega);have HS:Hid ((d++x).size<=(9*n+9)*(k-j)):=hsum;have hr':Hid (R=za0 (enc false t n) t (fs.drop (i+1)) 44 k (d++x)):=by show _=_;rw[hR.out,hdrop,za0,if_pos ⟨h1,h2,h3⟩,hx]
        have hcall:=fun o m=>IH.yes (show b+3<=t.size by omega) (hrepw.keep (hBa o m)) hx;clear h1 h2 h3 hx hbs hsum
        go_wp2_with fail
        go_quiet ((go_at_call 245;exact Calls.quiet_of_same (zan _ _ _ (by omega) _hs)))
        go_wp2_with (go_at_call 238;refine(hcall _ _).mono ?_;rintro e w' ⟨rfl,hbw⟩)
        go_roundw
        case rel=>exact⟨i+1,k,44,d++x,by omega,by omega,by omega,by go_num,rfl,rfl,rfl,(by show (0:Int)<=44;omega),hr',HS,hb.trans (((hBa _ _).mono hb.size).trans (hbw.mono (by have:=hb.size;simp;omega)))⟩
        case measure=>simp[intOf];omega
      ·have h3':(bAt t (b+2) != 58)=true:=by simpa using h3
       have hr':Hid (R=none):=by show _=_;rw[hR.out,hdrop,za0,if_neg (fun h=>h3 h.2.2)]
       clear h1 h2 h3
       go_wp2_with fail
       go_quiet ((go_at_call 245;exact Calls.quiet_of_same (zan _ _ _ (by omega) _hs)))
       go_wp2_with fail
       go_ret3
       rw[hr'.out];exact⟨rfl,hb.trans ((hBa _ _).mono hb.size)⟩
     ·have h2':(bAt t (b+1) != (f.1:Int))=true:=by simpa using h2
      have hr':Hid (R=none):=by show _=_;rw[hR.out,hdrop,za0,if_neg (fun h=>h2 h.2.1)]
      clear h1 h2
      go_wp2_with fail
      go_quiet ((go_at_call 245;exact Calls.quiet_of_same (zan _ _ _ (by omega) _hs)))
      go_wp2_with fail
      go_ret3
      rw[hr'.out];exact⟨rfl,hb.trans ((hBa _ _).mono hb.size)⟩
    ·have h1':(bAt t b != mk)=true:=by simpa using h1
     have hr':Hid (R=none):=by show _=_;rw[hR.out,hdrop,za0,if_neg (fun h=>h1 h.1)]
     clear h1
     go_wp2_with fail
     go_quiet ((go_at_call 245;exact Calls.quiet_of_same (zan _ _ _ (by omega) _hs)))
     go_wp2_with fail
     go_ret3
     rw[hr'.out];exact⟨rfl,hb.trans ((hBa _ _).mono hb.size)⟩
  ·have hnil:fs.drop i=[]:=List.drop_of_length_le (by omega);by_cases h5:bAt t b=125
   ·have h5':(bAt t b != 125)=false:=by simp[h5]
    have hr':Hid (R=some (d,b+1)):=by show _=_;rw[hR.out,hnil,za0,if_pos h5]
    clear h5
    go_wp2_with (go_at_call 245;refine(zan _ _ _ (by omega) _hs).mono ?_;rintro e w' ⟨rfl,rfl⟩)
    go_ret3
    rw[hr'.out];exact⟨rfl,hb⟩
   ·have h5':(bAt t b != 125)=true:=by simpa using h5
    have hr':Hid (R=none):=by show _=_;rw[hR.out,hnil,za0,if_neg h5]
    clear h5
    go_wp2_with (go_at_call 245;refine(zan _ _ _ (by omega) _hs).mono ?_;rintro e w' ⟨rfl,rfl⟩)
    go_ret3
    rw[hr'.out];exact⟨rfl,hb⟩
end
end Go.Proofs.YtkkekopomiehlabGreatDoor
