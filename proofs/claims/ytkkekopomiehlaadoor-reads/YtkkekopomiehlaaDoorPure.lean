set_option linter.unusedVariables false
set_option linter.unusedSimpArgs false
namespace Go.Proofs.YtkkekopomiehlaaDoor

/-- The byte at a place, or -1. -/
def bAt (s : ByteArray) (i : Nat) : Int := if h : i < s.size then (s[i].toNat : Int) else -1
def oneB (n : Nat) : ByteArray := ⟨#[n.toUInt8]⟩
def isL (b : Int) : Bool := decide (97 ≤ b) && decide (b ≤ 122)
def isD (b : Int) : Bool := decide (48 ≤ b) && decide (b ≤ 57)
def inS (b : Int) : Bool := decide (32 ≤ b) && decide (b ≤ 126) && (b != 34)

/-- The place of a letter among others, from k on, or -1. -/
def pFrom (l : ByteArray) (c : Int) : Nat → Nat → Int
  | 0, _ => -1
  | m + 1, k => if bAt l k = c then (k : Int) else pFrom l c m (k + 1)
def pOf (l : ByteArray) (c : Int) : Int := pFrom l c l.size 0

/-- The place behind the different letters that stand at 'a'. -/
def lEnd (s : ByteArray) (a : Nat) : Nat → Nat → Nat
  | 0, e => e
  | m + 1, e => if isL (bAt s e) = true ∧ pOf (s.extract a e) (bAt s e) < 0 then lEnd s a m (e + 1) else e

/-- The place behind a run of bytes of one kind. -/
def runEnd (p : Int → Bool) (s : ByteArray) : Nat → Nat → Nat
  | 0, e => e
  | m + 1, e => if p (bAt s e) = true then runEnd p s m (e + 1) else e

/-- A number's data, behind 'acc'. -/
def codU : Nat → ByteArray → Nat → ByteArray
  | 0, acc, u => acc ++ oneB u
  | m + 1, acc, u => if 128 ≤ u then codU m (acc ++ oneB (u % 128 + 128)) (u / 128) else acc ++ oneB u
def zig (n : Int) : Nat := if n < 0 then (-2 * n - 1).toNat else (2 * n).toNat
def numData (n : Int) : ByteArray := codU 8 ByteArray.empty (zig n)

/-- What the digits from a place up to another tell. -/
def dVal (s : ByteArray) (a : Nat) : Nat → Int
  | 0 => 0
  | k + 1 => dVal s a k * 10 + (bAt s (a + k) - 48)

/-- The digits that stand at a place: what they tell, and the place behind them. -/
def pDig (s : ByteArray) (a : Nat) : Option (Int × Nat) :=
  let e := runEnd isD s (s.size - a) a
  if e = a ∨ 16 < e - a ∨ (1 < e - a ∧ bAt s a = 48) then none else some (dVal s a (e - a), e)
def pNum (s : ByteArray) (a : Nat) : Option (Int × Nat) :=
  if bAt s a = 45 then
    match pDig s (a + 1) with
    | none => none
    | some (n, e) => if n = 0 then none else some (-n, e)
  else pDig s a
/-- 'st': a number may have no '-' behind it. -/
def encNum (st : Bool) (lo hi : Int) (t : ByteArray) (j : Nat) : Option (ByteArray × Nat) :=
  match pNum t j with
  | none => none
  | some (n, e) => if n < lo ∨ hi < n then none else if st = true ∧ bAt t e = 45 then none else some (numData n, e)
def encStr (t : ByteArray) (j : Nat) : Option (ByteArray × Nat) :=
  if bAt t j = 34 then
    let e := runEnd inS t (t.size - (j + 1)) (j + 1)
    if bAt t e = 34 ∧ e - (j + 1) ≤ 60 then some (oneB (e - (j + 1)) ++ t.extract (j + 1) e, e + 1) else none
  else none

/-- What a schema tells: as the program lays it down. -/
structure Ty where
  kind : Nat
  letters : ByteArray
  op : Bool
  inner : List Ty
  fields : List (Nat × Ty × ByteArray)

def plainTy (k : Nat) : Ty := ⟨k, ByteArray.empty, false, [], []⟩
def Ty.in (t : Ty) : Ty := t.inner.headD (plainTy 0)

def encItems (f : Nat → Option (ByteArray × Nat)) (t : ByteArray) : Nat → Nat → Nat → ByteArray → Option (ByteArray × Nat)
  | 0, _, _, _ => none
  | m + 1, c, b, d =>
    match f (b + 1) with
    | none => none
    | some (x, k) => if bAt t k = 93 then some (oneB c ++ (d ++ x), k + 1) else if bAt t k = 44 then encItems f t m (c + 1) k (d ++ x) else none

def encFlds (f : Ty → Nat → Option (ByteArray × Nat)) (t : ByteArray) : List (Nat × Ty × ByteArray) → Int → Nat → ByteArray → Option (ByteArray × Nat)
  | [], _, b, d => if bAt t b = 125 then some (d, b + 1) else none
  | g :: fs, mk, b, d =>
    if bAt t b = mk ∧ bAt t (b + 1) = g.1 ∧ bAt t (b + 2) = 58 then
      match f g.2.1 (b + 3) with
      | none => none
      | some (x, k) => encFlds f t fs 44 k (d ++ x)
    else none

def encList (f : Nat → Option (ByteArray × Nat)) (t : ByteArray) (j : Nat) : Option (ByteArray × Nat) :=
  if bAt t j = 91 then (if bAt t (j + 1) = 93 then some (oneB 0, j + 2) else encItems f t 16 1 j ByteArray.empty) else none

def encMaybe (f : Nat → Option (ByteArray × Nat)) (t : ByteArray) (j : Nat) : Option (ByteArray × Nat) :=
  if bAt t j = 95 then some (oneB 0, j + 1) else
    match f j with
    | none => none
    | some (d, k) => some (oneB 1 ++ d, k)

/-- The data of the value of a type whose text begins at a place, and the place behind that text. -/
def enc (st : Bool) (t : ByteArray) : Nat → Ty → Nat → Option (ByteArray × Nat)
  | 0, _, _ => none
  | n + 1, ty, j =>
    if ty.kind = 105 then encNum st (-2147483648) 2147483647 t j
    else if ty.kind = 108 then encNum st (-1000000000000000) 1000000000000000 t j
    else if ty.kind = 115 then encStr t j
    else if ty.kind = 60 then (if pOf ty.letters (bAt t j) < 0 then none else some (oneB (pOf ty.letters (bAt t j)).toNat, j + 1))
    else if ty.kind = 91 then encList (enc st t n ty.in) t j
    else if ty.kind = 63 then encMaybe (enc st t n ty.in) t j
    else if ty.kind = 123 then encFlds (enc st t n) t ty.fields 123 j ByteArray.empty
    else none

def pChoice (s : ByteArray) (a : Nat) : Option (Ty × Nat) :=
  let e := lEnd s a (s.size - a) a
  if e - a < 1 ∨ 8 < e - a then none
  else if bAt s e = 43 then (if bAt s (e + 1) = 62 then some (⟨60, s.extract a e, true, [], []⟩, e + 2) else none)
  else if bAt s e = 62 then some (⟨60, s.extract a e, false, [], []⟩, e + 1) else none

def pField (pt : Nat → Option (Ty × Nat)) (ef : Ty → Nat → Option (ByteArray × Nat)) (s : ByteArray) (i : Nat) : Option ((Nat × Ty × ByteArray) × Nat) :=
  if isL (bAt s i) = true ∧ bAt s (i + 1) = 58 then
    match pt (i + 2) with
    | none => none
    | some (t, k) =>
      if bAt s k = 61 then
        match ef t (k + 1) with
        | none => none
        | some (_, m) => some (((bAt s i).toNat, t, s.extract (k + 1) m), m)
      else some (((bAt s i).toNat, t, ByteArray.empty), k)
  else none

def pFlds (pf : Nat → Option ((Nat × Ty × ByteArray) × Nat)) (s : ByteArray) : Nat → Nat → List (Nat × Ty × ByteArray) → Option (List (Nat × Ty × ByteArray) × Nat)
  | 0, _, _ => none
  | m + 1, a, acc =>
    match pf a with
    | none => none
    | some (f, k) =>
      if acc.any (fun g => g.1 == f.1) then none
      else if bAt s k = 125 then some (acc ++ [f], k + 1)
      else if bAt s k = 44 then pFlds pf s m (k + 1) (acc ++ [f])
      else none

def pList (pt : Nat → Option (Ty × Nat)) (s : ByteArray) (a : Nat) : Option (Ty × Nat) :=
  match pt a with
  | none => none
  | some (t, k) => if bAt s k = 93 then some (⟨91, ByteArray.empty, false, [t], []⟩, k + 1) else none

def pMaybe (pt : Nat → Option (Ty × Nat)) (a : Nat) : Option (Ty × Nat) :=
  match pt a with
  | none => none
  | some (t, k) => if t.kind = 63 then none else some (⟨63, ByteArray.empty, false, [t], []⟩, k)

def pRec (pf : Nat → Option ((Nat × Ty × ByteArray) × Nat)) (s : ByteArray) (a : Nat) : Option (Ty × Nat) :=
  match pFlds pf s (s.size - a) a [] with
  | none => none
  | some (fs, k) => some (⟨123, ByteArray.empty, false, [], fs⟩, k)

/-- The type that begins at a place of a schema, and the place behind it. -/
def pType (st : Bool) (s : ByteArray) : Nat → Nat → Option (Ty × Nat)
  | 0, _ => none
  | n + 1, i =>
    if bAt s i = 105 then some (plainTy 105, i + 1)
    else if bAt s i = 108 then some (plainTy 108, i + 1)
    else if bAt s i = 115 then some (plainTy 115, i + 1)
    else if bAt s i = 60 then pChoice s (i + 1)
    else if bAt s i = 91 then pList (pType st s n) s (i + 1)
    else if bAt s i = 63 then pMaybe (pType st s n) (i + 1)
    else if bAt s i = 123 then pRec (pField (pType st s n) (enc st s n) s) s (i + 1)
    else none

end Go.Proofs.YtkkekopomiehlaaDoor
