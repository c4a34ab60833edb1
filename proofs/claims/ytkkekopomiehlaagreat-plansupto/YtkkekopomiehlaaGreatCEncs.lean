import Derived.Test.YtkkekopomiehlaaGreatCPure
import Derived.Deep.AppendLies
set_option linter.unusedVariables false
set_option linter.unusedSimpArgs false
set_option maxHeartbeats 40000000
namespace Go.Proofs.YtkkekopomiehlaaGreat
section
open Go.RowKit
def zeu (a : Nat) : Option (ByteArray × Nat) -> Value
 | some (d,k) => .tuple #[.string d,.int .i64 k,.bool true]
 | none => .tuple #[.string ByteArray.empty,.int .i64 a,.bool false]
theorem zw9 {s : ByteArray} {a : Nat} {n : Int} {e : Nat} (h : pNum s a = some (n,e)) (w : World) (hs : s.size <= 9000000) (ha : a <= s.size) :
  Calls Tryz.prog 143 #[.string s,.int .i64 a] w fun r w' => r = .returned (.tuple #[.int .i64 n,.int .i64 e,.bool true]) /\ w' = w:=by
 have:=zpq s a w hs ha;rw [h] at this;exact this
theorem zw8 {s : ByteArray} {a : Nat} (h : pNum s a = none) (w : World) (hs : s.size <= 9000000) (ha : a <= s.size) :
  Calls Tryz.prog 143 #[.string s,.int .i64 a] w fun r w' => r = .returned (.tuple #[.int .i64 0,.int .i64 a,.bool false]) /\ w' = w:=by
 have:=zpq s a w hs ha;rw [h] at this;exact this
theorem zhr (lo hi : Int) (s : ByteArray) (a : Nat) (w : World) (_hs : s.size <= 9000000) (ha : a <= s.size) :
  Calls Tryz.prog 137 #[.int .i64 lo,.int .i64 hi,.string s,.int .i64 a] w fun e w' => e = .returned (zeu a (za3 false lo hi s a)) /\ Below w.heap.size w w':=by
 cases hp : pNum s a with
 | none =>
  have hr : Hid (za3 false lo hi s a = none):=by show _ = _;unfold za3;rw [hp]
  have hd:=fun w => zw8 hp w _hs ha
  clear hp
  go_enter Tryz.func137,Tryz.ntmps137
  go_wp2_with (go_at_call 143;refine (hd _).mono ?_;rintro e w' ⟨rfl,rfl⟩)
  go_ret3
  rw [hr.out]
  exact ⟨rfl,Below.refl _ _⟩
 | some p =>
  obtain ⟨n,e⟩:=p
  obtain ⟨hb1,hb2,hb3,hb4⟩:=zpj hp
  have hd:=fun w => zw9 hp w _hs ha
  by_cases hlo : n < lo
  ·have hr : Hid (za3 false lo hi s a = none):=by show _ = _;unfold za3;rw [hp];simp [hlo]
   clear hp
   go_enter Tryz.func137,Tryz.ntmps137
   go_wp2_with (go_at_call 143;refine (hd _).mono ?_;rintro e w' ⟨rfl,rfl⟩)
   go_ret3
   rw [hr.out]
   exact ⟨rfl,Below.refl _ _⟩
  ·by_cases hhi : hi < n
   ·have hr : Hid (za3 false lo hi s a = none):=by show _ = _;unfold za3;rw [hp];simp [hhi]
    clear hp
    go_enter Tryz.func137,Tryz.ntmps137
    go_wp2_with (go_at_call 143;refine (hd _).mono ?_;rintro e w' ⟨rfl,rfl⟩)
    go_ret3
    rw [hr.out]
    exact ⟨rfl,Below.refl _ _⟩
   ·have hr : Hid (za3 false lo hi s a = some (zao n,e)):=by show _ = _;unfold za3;rw [hp];simp [hlo,hhi]
    clear hp
    go_enter Tryz.func137,Tryz.ntmps137
    go_wp2_with (first | (go_at_call 143;refine (hd _).mono ?_;rintro e w' ⟨rfl,rfl⟩) | (go_at_call 144;refine (zwi _ _ (by omega) (by omega)).mono ?_;rintro e w' ⟨rfl,hbw⟩))
    go_ret3
    rw [hr.out]
    exact ⟨rfl,hbw⟩
theorem zpg (l : ByteArray) (c : Int) : ∀ m k,za6 l c m k < (k + m : Int) \/ za6 l c m k < 0
 | 0,k => by simp [za6]
 | m + 1,k => by
  rw [za6];split
  ·left;omega
  ·have:=zpg l c m (k + 1);omega
theorem zpe (l : ByteArray) (c : Int) : ∀ m k,-1 <= za6 l c m k
 | 0,k => by simp [za6]
 | m + 1,k => by
  rw [za6];split
  ·omega
  ·exact zpe l c m (k + 1)
theorem zwy (l : ByteArray) (c : Int) (h : l.size <= 8) : -1 <= pOf l c /\ pOf l c < 8:=by
 have h1:=zpg l c l.size 0;have h2:=zpe l c l.size 0;unfold pOf;omega
def zcc (l t : ByteArray) (j : Nat) : Option (ByteArray × Nat):=if pOf l (bAt t j) < 0 then none else some (oneB (pOf l (bAt t j)).toNat,j + 1)
theorem znq (l s : ByteArray) (a : Nat) (w : World) (_hs : s.size <= 9000000) (hl : l.size <= 8) (ha : a <= s.size) :
  Calls Tryz.prog 139 #[.string l,.string s,.int .i64 a] w fun e w' => e = .returned (zeu a (zcc l s a)) /\ Below w.heap.size w w':=by
 have hp:=zwy l (bAt s a) hl
 obtain ⟨hp1,hp2⟩:=hp
 by_cases h0 : pOf l (bAt s a) < 0
 ·have hr : Hid (zcc l s a = none):=by show _ = _;unfold zcc;rw [if_pos h0]
  go_enter Tryz.func139,Tryz.ntmps139
  go_wp2_with (first | (go_at_call 101;refine (zbm _ _ _ _hs).mono ?_;rintro e w' ⟨rfl,rfl⟩) | (go_at_call 126;refine (zfm _ _ _ (by omega)).mono ?_;rintro e w' ⟨rfl,rfl⟩))
  go_ret3
  rw [hr.out]
  exact ⟨rfl,Below.refl _ _⟩
 ·have hr : Hid (zcc l s a = some (oneB (pOf l (bAt s a)).toNat,a + 1)):=by show _ = _;unfold zcc;rw [if_neg h0]
  go_enter Tryz.func139,Tryz.ntmps139
  go_wp2_with (first | (go_at_call 101;refine (zbm _ _ _ _hs).mono ?_;rintro e w' ⟨rfl,rfl⟩) | (go_at_call 126;refine (zfm _ _ _ (by omega)).mono ?_;rintro e w' ⟨rfl,rfl⟩) | (go_at_call 111;refine (zic _ _ (by omega) (by omega)).mono ?_;rintro e w' ⟨rfl,hbw⟩))
  go_ret3
  rw [hr.out]
  exact ⟨rfl,hbw⟩
theorem znu (s : ByteArray) (a : Nat) (w : World) (_hs : s.size <= 9000000) (ha : a <= s.size) :
  Calls Tryz.prog 138 #[.string s,.int .i64 a] w fun e w' => e = .returned (zeu a (zbh s a)) /\ Below w.heap.size w w':=by
 by_cases hq : bAt s a = 34
 ·have hq' : (bAt s a != 34) = false:=by simp [hq]
  obtain ⟨E,hE⟩ : ∃ E,E = zap inS s (s.size - (a + 1)) (a + 1):=⟨_,rfl⟩
  have HE : Hid (E = zap inS s (s.size - (a + 1)) (a + 1)):=hE
  have hr : Hid (zbh s a = if bAt s E = 34 /\ E - (a + 1) <= 60 then some (oneB (E - (a + 1)) ++ s.extract (a + 1) E,E + 1) else none):=by show _ = _;unfold zbh;rw [if_pos hq,<- hE]
  have hal : a < s.size:=zar (by omega)
  clear hq hE
  go_enter Tryz.func138,Tryz.ntmps138
  go_wp2_with (go_at_call 101;refine (zbm _ _ _ _hs).mono ?_;rintro e w' ⟨rfl,rfl⟩)
  go_loop [8] (fun i => ∃ k : Nat,a + 1 <= k /\ k <= s.size /\ i = .int .i64 k /\ Hid (E = zap inS s (s.size - k) k)) (fun i => s.size - (intOf i).toNat)
  case atStart => exact ⟨a + 1,Nat.le_refl _,by omega,by go_num,HE⟩
  case round =>
   obtain ⟨k,hak,hk,rfl,hp⟩:=hrel
   cases hd : inS (bAt s k) with
   | true =>
    have hlt:=zn9 hd
    go_wp2_with (first | (go_at_call 101;refine (zbm _ _ _ _hs).mono ?_;rintro e w' ⟨rfl,rfl⟩) | (go_at_call 145;refine (zhz _ _).mono ?_;rintro e w' ⟨rfl,rfl⟩))
    go_round
    case rel => exact ⟨k + 1,by omega,by omega,by go_num,ze2 _ _ _ _ hp.out hlt hd⟩
    case measure => simp [intOf];omega
   | false =>
    have hEk : E = k:=zd4 _ _ _ _ hp.out hd
    rw [hEk] at hr
    clear HE hp hEk
    by_cases hq2 : bAt s k = 34
    ·have hq2' : (bAt s k != 34) = false:=by simp [hq2]
     by_cases h60 : (60 : Int) < (k : Int) - ((a : Int) + 1)
     ·have hr' : Hid (zbh s a = none):=by show _ = _;rw [hr.out,if_neg (by omega)]
      clear hr hq2
      go_wp2_with (first | (go_at_call 101;refine (zbm _ _ _ _hs).mono ?_;rintro e w' ⟨rfl,rfl⟩) | (go_at_call 145;refine (zhz _ _).mono ?_;rintro e w' ⟨rfl,rfl⟩))
      go_ret3
      rw [hr'.out]
      exact ⟨rfl,Below.refl _ _⟩
     ·have hr' : Hid (zbh s a = some (oneB (k - (a + 1)) ++ s.extract (a + 1) k,k + 1)):=by show _ = _;rw [hr.out,if_pos ⟨hq2,by omega⟩]
      have hsz : (oneB ((k : Int) - ((a : Int) + 1)).toNat).size = 1:=rfl
      have hsx:=size_extract s (a + 1) k (by omega) (by omega)
      clear hr hq2
      go_wp2_with (first | (go_at_call 101;refine (zbm _ _ _ _hs).mono ?_;rintro e w' ⟨rfl,rfl⟩) | (go_at_call 145;refine (zhz _ _).mono ?_;rintro e w' ⟨rfl,rfl⟩) | (go_at_call 111;refine (zic _ _ (by omega) (by omega)).mono ?_;rintro e w' ⟨rfl,hbw⟩) | (go_at_call 124;refine (zdh s (a + 1) k _ (by omega) (by omega) _hs).mono ?_;rintro e w' ⟨rfl,rfl⟩))
      go_ret3
      rw [hr'.out]
      refine ⟨ret3 (zl4 ?_) (zbz ?_) rfl,hbw⟩
      ·rfl
      ·omega
    ·have hq2' : (bAt s k != 34) = true:=by simpa using hq2
     have hr' : Hid (zbh s a = none):=by show _ = _;rw [hr.out,if_neg (fun h => hq2 h.1)]
     clear hr hq2
     go_wp2_with (first | (go_at_call 101;refine (zbm _ _ _ _hs).mono ?_;rintro e w' ⟨rfl,rfl⟩) | (go_at_call 145;refine (zhz _ _).mono ?_;rintro e w' ⟨rfl,rfl⟩))
     go_ret3
     rw [hr'.out]
     exact ⟨rfl,Below.refl _ _⟩
 ·have hq' : (bAt s a != 34) = true:=by simpa using hq
  have hr : Hid (zbh s a = none):=by show _ = _;unfold zbh;rw [if_neg hq]
  clear hq
  go_enter Tryz.func138,Tryz.ntmps138
  go_wp2_with (go_at_call 101;refine (zbm _ _ _ _hs).mono ?_;rintro e w' ⟨rfl,rfl⟩)
  go_ret3
  rw [hr.out]
  exact ⟨rfl,Below.refl _ _⟩
end
section
open Go.RowKit
theorem zal {B : Nat} {W w1 : World} (hb : Below B W w1) : (∀ b o,b < B -> w1.cell? ⟨b,o,none⟩ = W.cell? ⟨b,o,none⟩) /\ (∀ b o,b < B -> w1.frozen? ⟨b,o,none⟩ = W.frozen? ⟨b,o,none⟩) :=
 ⟨fun b o h => hb.cell (p:=⟨b,o,none⟩) h,fun b o h => hb.frozen (p:=⟨b,o,none⟩) h⟩
theorem zaf {w : World} {b o : Nat} {v : Value} (h : w.cell? ⟨b,o,none⟩ = some v) : b < w.heap.size:=World.block_lt_of_cell? w ⟨b,o,none⟩ h
def Rep : Nat -> World -> Option Addr -> Nat -> Nat -> Option Addr -> Nat -> Nat -> Ty -> Prop
 | 0,_,_,_,_,_,_,_,_ => False
 | n + 1,w,ai,li,ci,af,lf,cf,ty => ty.letters.size <= 8 /\ ty.fields.length <= 9000000 /\ lf = ty.fields.length /\ ((ty.kind = 91 \/ ty.kind = 63 -> ty.inner ≠ []) /\ (ty.kind = 123 -> ty.fields ≠ [])) /\
   ((ty.inner = [] /\ ai = none /\ li = 0 /\ ci = 0) \/
    ∃ t b p1 p2 p3 q1 q2 q3,ty.inner = [t] /\ ai = some ⟨b,0,none⟩ /\ li = 1 /\ Rep n w p1 p2 p3 q1 q2 q3 t /\
     w.cell? ⟨b,0,none⟩ = some (.int .i64 t.kind) /\ w.cell? ⟨b,1,none⟩ = some (.string t.letters) /\ w.cell? ⟨b,2,none⟩ = some (.bool t.op) /\ w.cell? ⟨b,3,none⟩ = some (.slice p1 p2 p3) /\ w.cell? ⟨b,4,none⟩ = some (.slice q1 q2 q3)) /\
   ((ty.fields = [] /\ af = none /\ lf = 0 /\ cf = 0) \/
    ∃ g,af = some ⟨g,0,none⟩ /\
     ∀ i f,ty.fields[i]? = some f -> ∃ p1 p2 p3 q1 q2 q3,Rep n w p1 p2 p3 q1 q2 q3 f.2.1 /\ w.cell? ⟨g,i * 7,none⟩ = some (.int .i64 f.1) /\
      w.cell? ⟨g,i * 7 + 1,none⟩ = some (.int .i64 f.2.1.kind) /\ w.cell? ⟨g,i * 7 + 2,none⟩ = some (.string f.2.1.letters) /\ w.cell? ⟨g,i * 7 + 3,none⟩ = some (.bool f.2.1.op) /\ w.cell? ⟨g,i * 7 + 4,none⟩ = some (.slice p1 p2 p3) /\ w.cell? ⟨g,i * 7 + 5,none⟩ = some (.slice q1 q2 q3) /\
      w.cell? ⟨g,i * 7 + 6,none⟩ = some (.string f.2.2))
theorem zaa {w w' : World} (hb : Below w.heap.size w w') {b o : Nat} {v : Value} (h : w.cell? ⟨b,o,none⟩ = some v) : w'.cell? ⟨b,o,none⟩ = some v:=by
 rw [hb.cell (p:=⟨b,o,none⟩) (zaf h)];exact h
theorem Rep.keep {w w' : World} (hb : Below w.heap.size w w') : ∀ {n : Nat} {ai af : Option Addr} {li ci lf cf : Nat} {ty : Ty},Rep n w ai li ci af lf cf ty -> Rep n w' ai li ci af lf cf ty
 | 0,_,_,_,_,_,_,_,h => h
 | n + 1,ai,af,li,ci,lf,cf,ty,h => by
  obtain ⟨hl,hn,hlf,hk,hi,hf⟩:=h
  refine ⟨hl,hn,hlf,hk,?_,?_⟩
  ·rcases hi with hi | ⟨t,b,p1,p2,p3,q1,q2,q3,h1,h2,h2',h3,k0,k1,k2,k3,k4⟩
   ·exact .inl hi
   ·exact .inr ⟨t,b,p1,p2,p3,q1,q2,q3,h1,h2,h2',Rep.keep hb h3,zaa hb k0,zaa hb k1,zaa hb k2,zaa hb k3,zaa hb k4⟩
  ·rcases hf with hf | ⟨g,h1,h2⟩
   ·exact .inl hf
   ·refine .inr ⟨g,h1,fun i f hi => ?_⟩
    obtain ⟨p1,p2,p3,q1,q2,q3,h3,k0,k1,k2,k3,k4,k5,k6⟩:=h2 i f hi
    exact ⟨p1,p2,p3,q1,q2,q3,Rep.keep hb h3,zaa hb k0,zaa hb k1,zaa hb k2,zaa hb k3,zaa hb k4,zaa hb k5,zaa hb k6⟩
theorem zh1 (n : Nat) (w : World) (ai af : Option Addr) (li ci lf cf : Nat) (ty : Ty) (h : Rep (n + 1) w ai li ci af lf cf ty) (hne : ty.inner ≠ []) :
  Calls Tryz.prog 84 #[.agg #[.int .i64 ty.kind,.string ty.letters,.bool ty.op,.slice ai li ci,.slice af lf cf]] w fun e w' => ∃ p1 p2 p3 q1 q2 q3,e = .returned (.agg #[.int .i64 ty.in.kind,.string ty.in.letters,.bool ty.in.op,.slice p1 p2 p3,.slice q1 q2 q3]) /\ Rep n w' p1 p2 p3 q1 q2 q3 ty.in /\ Below w.heap.size w w':=by
 obtain ⟨hl,hn,hlf,hk,hi,hf⟩:=h
 clear hf hk
 rcases hi with ⟨hi,_⟩ | ⟨t,b,p1,p2,p3,q1,q2,q3,h1,rfl,rfl,h3,k0,k1,k2,k3,k4⟩
 ·exact absurd hi hne
 ·have hin : ty.in = t:=by unfold Ty.in;rw [h1];rfl
  rw [hin]
  have hb:=zaf k0
  clear hne h1 hin hlf
  go_enter Tryz.func84,Tryz.ntmps84
  go_wp2
  have hB : Below w.heap.size w ((w.alloc (.cells #[.int .i64 ty.kind,.string ty.letters,.bool ty.op,.slice (some ⟨b,0,none⟩) 1 ci,.slice af lf cf] 135)).alloc (.cells #[.int .i64 t.kind,.string t.letters,.bool t.op,.slice p1 p2 p3,.slice q1 q2 q3] 135)) :=
   ((Below.refl _ _).alloc (Nat.le_refl _) _).alloc (by simp) _
  exact bodyPost_ret (v:=.agg #[.int .i64 t.kind,.string t.letters,.bool t.op,.slice p1 p2 p3,.slice q1 q2 q3]) (by simp [results,Tryz.results84,go_sem]) rfl ⟨p1,p2,p3,q1,q2,q3,rfl,h3.keep hB,hB⟩
end
section
theorem zai (n : Nat) : (oneB n).size = 1:=rfl
theorem zmt : ∀ (m : Nat) (acc : ByteArray) (u : Nat),(codU m acc u).size <= acc.size + m + 1
 | 0,acc,u => by rw [codU,ByteArray.size_append,zai];omega
 | m + 1,acc,u => by
  rw [codU];split
  ·have:=zmt m (acc ++ oneB (u % 128 + 128)) (u / 128)
   rw [ByteArray.size_append,zai] at this;omega
  ·rw [ByteArray.size_append,zai];omega
theorem zwg (n : Int) : (zao n).size <= 9:=by
 have:=zmt 8 ByteArray.empty (zig n);unfold zao
 have e : ByteArray.empty.size = 0:=rfl
 omega
theorem znj {st : Bool} {lo hi : Int} {t d : ByteArray} {j k : Nat} (h : za3 st lo hi t j = some (d,k)) : j < k /\ k <= t.size /\ d.size <= 9 * (k - j):=by
 unfold za3 at h
 split at h
 ·cases h
 ·rename_i n e hp
  have:=zpj hp
  split at h
  ·cases h
  ·split at h
   ·cases h
   ·simp only [Option.some.injEq,Prod.mk.injEq] at h
    obtain ⟨rfl,rfl⟩:=h
    have:=zwg n;omega
theorem zua {t d : ByteArray} {j k : Nat} (h : zbh t j = some (d,k)) : j < k /\ k <= t.size /\ d.size <= 9 * (k - j):=by
 unfold zbh at h
 split at h
 ·simp only at h
  have hle:=zce inS t (t.size - (j + 1)) (j + 1)
  generalize zap inS t (t.size - (j + 1)) (j + 1) = E at h hle
  split at h
  ·rename_i hc
   simp only [Option.some.injEq,Prod.mk.injEq] at h
   obtain ⟨rfl,rfl⟩:=h
   have hE : E < t.size:=zar (by omega)
   rw [ByteArray.size_append,zai,size_extract t (j + 1) E (by omega) (by omega)]
   omega
  ·cases h
 ·cases h
theorem zt6 {l t d : ByteArray} {j k : Nat} (h : zcc l t j = some (d,k)) : j < k /\ k <= t.size /\ d.size <= 9 * (k - j):=by
 unfold zcc at h
 split at h
 ·cases h
 ·rename_i hc
  simp only [Option.some.injEq,Prod.mk.injEq] at h
  obtain ⟨rfl,rfl⟩:=h
  rw [zai]
  have : j < t.size:=by
   rcases Nat.lt_or_ge j t.size with h | h
   ·exact h
   ·exfalso;rw [zci t j h] at hc
    apply hc
    unfold pOf
    have key : ∀ m k,za6 l (-1) m k <= -1 \/ (k + m > l.size):=by
     intro m
     induction m with
     | zero => intro k;left;simp [za6]
     | succ m ih =>
      intro k
      rw [za6]
      by_cases hk : k < l.size
      ·rw [za1 l k hk,if_neg (by omega)]
       rcases ih (k + 1) with h | h
       ·exact .inl h
       ·right;omega
      ·right;omega
    rcases key l.size 0 with h | h <;> omega
  omega
def Bd (C : Nat) (T : Nat) (f : Nat -> Option (ByteArray × Nat)) : Prop:=∀ j d k,f j = some (d,k) -> j < k /\ k <= T /\ d.size <= C * (k - j)
theorem zcj {C a b c : Nat} (h1 : a <= b) (h2 : b <= c) : C * (b - a) + C * (c - b) = C * (c - a):=by
 rw [<- Nat.mul_add];congr 1;omega
theorem zdm {C a b : Nat} (h : a <= b) : C * a <= C * b:=Nat.mul_le_mul_left C h
theorem zos {C a b : Nat} (hC : 1 <= C) (h : a < b) : C * a + 1 <= C * b:=by
 have:=Nat.mul_le_mul_left C (show a + 1 <= b by omega);rw [Nat.mul_add] at this;omega
theorem zng {C : Nat} {f : Nat -> Option (ByteArray × Nat)} {t : ByteArray} (hC : 1 <= C) (hf : Bd C t.size f) (j : Nat) :
  ∀ (m c b : Nat) (d0 d : ByteArray) (k : Nat),j <= b -> d0.size <= C * (b - j) -> za7 f t m c b d0 = some (d,k) -> b < k /\ k <= t.size /\ d.size <= C * (k - j)
 | 0,c,b,d0,d,k,_,_,h => by simp [za7] at h
 | m + 1,c,b,d0,d,k,hj,h0,h => by
  rw [za7] at h
  split at h
  ·cases h
  ·rename_i x k' hx
   have hb:=hf _ _ _ hx
   have hs : (d0 ++ x).size <= C * (k' - j):=by
    rw [ByteArray.size_append]
    have h1:=zcj (C:=C) (show j <= b + 1 by omega) (show b + 1 <= k' by omega)
    have h2:=zdm (C:=C) (show b - j <= b + 1 - j by omega)
    omega
   split at h
   ·rename_i hc
    simp only [Option.some.injEq,Prod.mk.injEq] at h
    obtain ⟨rfl,rfl⟩:=h
    have hk' : k' < t.size:=zar (by omega)
    refine ⟨by omega,by omega,?_⟩
    rw [ByteArray.size_append,zai]
    have:=zos hC (show k' - j < k' + 1 - j by omega)
    omega
   ·split at h
    ·have:=zng hC hf j m (c + 1) k' (d0 ++ x) d k (by omega) hs h
     omega
    ·cases h
theorem zt7 {C : Nat} {f : Nat -> Option (ByteArray × Nat)} {t : ByteArray} (hC : 1 <= C) (hf : Bd C t.size f) : Bd C t.size (zbk f t):=by
 intro j d k h
 unfold zbk at h
 split at h
 ·split at h
  ·rename_i h1 h2
   simp only [Option.some.injEq,Prod.mk.injEq] at h
   obtain ⟨rfl,rfl⟩:=h
   have : j + 1 < t.size:=zar (by omega)
   refine ⟨by omega,by omega,?_⟩
   rw [zai]
   have:=zos hC (show 0 < j + 2 - j by omega)
   omega
  ·have:=zng hC hf j 16 1 j ByteArray.empty d k (Nat.le_refl _) (Nat.zero_le _) h
   omega
 ·cases h
theorem zt8 {C : Nat} {f : Nat -> Option (ByteArray × Nat)} {t : ByteArray} (hC : 1 <= C) (hf : Bd C t.size f) : Bd (C + 1) t.size (zbn f t):=by
 intro j d k h
 unfold zbn at h
 split at h
 ·rename_i h1
  simp only [Option.some.injEq,Prod.mk.injEq] at h
  obtain ⟨rfl,rfl⟩:=h
  have : j < t.size:=zar (by omega)
  refine ⟨by omega,by omega,?_⟩
  rw [zai,show j + 1 - j = 1 by omega]
  omega
 ·split at h
  ·cases h
  ·rename_i x k' hx
   simp only [Option.some.injEq,Prod.mk.injEq] at h
   obtain ⟨rfl,rfl⟩:=h
   have hb:=hf _ _ _ hx
   refine ⟨hb.1,hb.2.1,?_⟩
   rw [ByteArray.size_append,zai,Nat.add_mul]
   omega
theorem znc {C : Nat} {f : Ty -> Nat -> Option (ByteArray × Nat)} {t : ByteArray} (hC : 1 <= C) (hf : ∀ ty,Bd C t.size (f ty)) (j : Nat) :
  ∀ (fs : List (Nat × Ty × ByteArray)) (mk : Int) (b : Nat) (d0 d : ByteArray) (k : Nat),j <= b -> d0.size <= C * (b - j) -> zax f t fs mk b d0 = some (d,k) -> b < k /\ k <= t.size /\ d.size <= C * (k - j)
 | [],mk,b,d0,d,k,hj,h0,h => by
  rw [zax] at h
  split at h
  ·simp only [Option.some.injEq,Prod.mk.injEq] at h
   obtain ⟨rfl,rfl⟩:=h
   have : b < t.size:=zar (by omega)
   have:=zdm (C:=C) (show b - j <= b + 1 - j by omega)
   omega
  ·cases h
 | g :: fs,mk,b,d0,d,k,hj,h0,h => by
  rw [zax] at h
  split at h
  ·split at h
   ·cases h
   ·rename_i x k' hx
    have hb:=hf _ _ _ _ hx
    have hs : (d0 ++ x).size <= C * (k' - j):=by
     rw [ByteArray.size_append]
     have h1:=zcj (C:=C) (show j <= b + 3 by omega) (show b + 3 <= k' by omega)
     have h2:=zdm (C:=C) (show b - j <= b + 3 - j by omega)
     omega
    have:=znc hC hf j fs 44 k' (d0 ++ x) d k (by omega) hs h
    omega
  ·cases h
theorem Bd.mono {C C' T : Nat} {f : Nat -> Option (ByteArray × Nat)} (h : Bd C T f) (hC : C <= C') : Bd C' T f:=fun j d k hj => by
 have:=h j d k hj
 have:=Nat.mul_le_mul_right (k - j) hC
 omega
theorem znm (st : Bool) (t : ByteArray) : ∀ (n : Nat) (ty : Ty),Bd (9 * n + 9) t.size (enc st t n ty)
 | 0,ty => by intro j d k h;simp [enc] at h
 | n + 1,ty => by
  have ih:=fun ty => (znm st t n ty)
  intro j d k h
  rw [enc] at h
  have up : ∀ {d : ByteArray} {k : Nat},j < k /\ k <= t.size /\ d.size <= 9 * (k - j) -> j < k /\ k <= t.size /\ d.size <= (9 * (n + 1) + 9) * (k - j):=by
   rintro d k ⟨h1,h2,h3⟩
   have:=Nat.mul_le_mul_right (k - j) (show 9 <= 9 * (n + 1) + 9 by omega)
   omega
  split at h
  ·exact up (znj h)
  ·split at h
   ·exact up (znj h)
   ·split at h
    ·exact up (zua h)
    ·split at h
     ·exact up (zt6 h)
     ·split at h
      ·exact (zt7 (by omega) (ih ty.in)).mono (by omega) _ _ _ h
      ·split at h
       ·exact (zt8 (by omega) (ih ty.in)).mono (by omega) _ _ _ h
       ·split at h
        ·have:=znc (C:=9 * (n + 1) + 9) (by omega) (fun ty => (ih ty).mono (by omega)) j ty.fields 123 j ByteArray.empty d k (Nat.le_refl _) (Nat.zero_le _) h
         exact this
        ·cases h
theorem zbo {st : Bool} {t d : ByteArray} {n j k : Nat} {ty : Ty} (h : enc st t n ty j = some (d,k)) : j < k /\ k <= t.size /\ d.size <= (9 * n + 9) * (k - j):=znm st t n ty j d k h
end
section
open Go.RowKit
def EncAtOK (n : Nat) (t : ByteArray) : Prop:=∀ (ty : Ty) (j : Nat) (w : World) (ai af : Option Addr) (li ci lf cf : Nat),j <= t.size -> Rep n w ai li ci af lf cf ty ->
 Calls Tryz.prog 135 #[.agg #[.int .i64 ty.kind,.string ty.letters,.bool ty.op,.slice ai li ci,.slice af lf cf],.string t,.int .i64 j] w fun e w' => e = .returned (zeu j (enc false t n ty j)) /\ Below w.heap.size w w'
theorem EncAtOK.no {n : Nat} {t : ByteArray} (IH : EncAtOK n t) {ty : Ty} {j : Nat} {w : World} {ai af : Option Addr} {li ci lf cf : Nat} (hj : j <= t.size) (hr : Rep n w ai li ci af lf cf ty) (hx : enc false t n ty j = none) :
 Calls Tryz.prog 135 #[.agg #[.int .i64 ty.kind,.string ty.letters,.bool ty.op,.slice ai li ci,.slice af lf cf],.string t,.int .i64 j] w fun e w' => e = .returned (.tuple #[.string ByteArray.empty,.int .i64 j,.bool false]) /\ Below w.heap.size w w':=by
 have:=IH ty j w ai af li ci lf cf hj hr;rw [hx] at this;exact this
theorem EncAtOK.yes {n : Nat} {t : ByteArray} (IH : EncAtOK n t) {ty : Ty} {j : Nat} {w : World} {ai af : Option Addr} {li ci lf cf : Nat} (hj : j <= t.size) (hr : Rep n w ai li ci af lf cf ty) {d : ByteArray} {k : Nat} (hx : enc false t n ty j = some (d,k)) :
 Calls Tryz.prog 135 #[.agg #[.int .i64 ty.kind,.string ty.letters,.bool ty.op,.slice ai li ci,.slice af lf cf],.string t,.int .i64 j] w fun e w' => e = .returned (.tuple #[.string d,.int .i64 k,.bool true]) /\ Below w.heap.size w w':=by
 have:=IH ty j w ai af li ci lf cf hj hr;rw [hx] at this;exact this
theorem zcr {n a b : Nat} {d : ByteArray} (h : d.size <= (9 * n + 9) * (b - a)) (hn : n <= 100) (hb : b <= 4096) : d.size <= 4000000:=by
 have h1 : (9 * n + 9) * (b - a) <= 909 * (b - a):=Nat.mul_le_mul_right _ (by omega)
 omega
theorem zns {n : Nat} {t : ByteArray} (IH : EncAtOK n t) (ht : t.size <= 4096) (hn : n <= 100) (ty : Ty) (j : Nat) (w : World) (ai af : Option Addr) (li ci lf cf : Nat) (hj : j <= t.size) (hr : Rep n w ai li ci af lf cf ty) :
  Calls Tryz.prog 141 #[.agg #[.int .i64 ty.kind,.string ty.letters,.bool ty.op,.slice ai li ci,.slice af lf cf],.string t,.int .i64 j] w fun e w' => e = .returned (zeu j (zbn (enc false t n ty) t j)) /\ Below w.heap.size w w':=by
 have _hs : t.size <= 9000000:=by omega
 have hB : ∀ o,Below w.heap.size w (w.alloc o):=fun o => (Below.refl _ _).alloc (Nat.le_refl _) _
 by_cases hm : bAt t j = 95
 ·have hm' : (bAt t j == 95) = true:=by simp [hm]
  have hr' : Hid (zbn (enc false t n ty) t j = some (oneB 0,j + 1)):=by show _ = _;unfold zbn;rw [if_pos hm]
  clear hm
  go_enter Tryz.func141,Tryz.ntmps141
  go_wp2_with (first | (go_at_call 101;refine (zas _ _ _ (by omega) _hs).mono ?_;rintro e w' ⟨rfl,rfl⟩) | (go_at_call 111;refine (zed 0 _ (by omega)).mono ?_;rintro e w' ⟨rfl,hbw⟩))
  go_ret3
  rw [hr'.out]
  exact ⟨rfl,(hB _).trans (hbw.mono (by simp))⟩
 ·have hm' : (bAt t j == 95) = false:=by simpa using hm
  cases hx : enc false t n ty j with
  | none =>
   have hr' : Hid (zbn (enc false t n ty) t j = none):=by show _ = _;unfold zbn;rw [if_neg hm,hx]
   have hd:=fun o => IH.no hj (hr.keep (hB o)) hx
   clear hm hx
   go_enter Tryz.func141,Tryz.ntmps141
   go_wp2_with (first | (go_at_call 101;refine (zas _ _ _ (by omega) _hs).mono ?_;rintro e w' ⟨rfl,rfl⟩) | (go_at_call 135;refine (hd _).mono ?_;rintro e w' ⟨rfl,hbw⟩))
   go_ret3
   rw [hr'.out]
   exact ⟨rfl,(hB _).trans (hbw.mono (by simp))⟩
  | some p =>
   obtain ⟨d,k⟩:=p
   have hr' : Hid (zbn (enc false t n ty) t j = some (oneB 1 ++ d,k)):=by show _ = _;unfold zbn;rw [if_neg hm,hx]
   have hd:=fun o => IH.yes hj (hr.keep (hB o)) hx
   obtain ⟨hb1,hb2,hb3⟩:=zbo hx
   have hds:=zcr hb3 hn (by omega)
   have hsz : (oneB 1).size = 1:=rfl
   clear hm hx hb3
   go_enter Tryz.func141,Tryz.ntmps141
   go_wp2_with (first | (go_at_call 101;refine (zas _ _ _ (by omega) _hs).mono ?_;rintro e w' ⟨rfl,rfl⟩) | (go_at_call 135;refine (hd _).mono ?_;rintro e w' ⟨rfl,hbw⟩) | (go_at_call 111;refine (zed 1 _ (by omega)).mono ?_;rintro e w' ⟨rfl,hbw2⟩))
   go_ret3
   rw [hr'.out]
   exact ⟨rfl,(hB _).trans ((hbw.mono (by simp)).trans (hbw2.mono (by have:=hbw.size;simp at this;omega)))⟩
theorem znr {n : Nat} {t : ByteArray} (IH : EncAtOK n t) (ht : t.size <= 4096) (hn : n <= 100) (ty : Ty) (j : Nat) (w : World) (ai af : Option Addr) (li ci lf cf : Nat) (hj : j <= t.size) (hr : Rep n w ai li ci af lf cf ty) :
  Calls Tryz.prog 140 #[.agg #[.int .i64 ty.kind,.string ty.letters,.bool ty.op,.slice ai li ci,.slice af lf cf],.string t,.int .i64 j] w fun e w' => e = .returned (zeu j (zbk (enc false t n ty) t j)) /\ Below w.heap.size w w':=by
 have _hs : t.size <= 9000000:=by omega
 have hB : ∀ o,Below w.heap.size w (w.alloc o):=fun o => (Below.refl _ _).alloc (Nat.le_refl _) _
 by_cases hm : bAt t j = 91
 ·have hm' : (bAt t j != 91) = false:=by simp [hm]
  by_cases h2 : bAt t (j + 1) = 93
  ·have h2' : (bAt t (j + 1) == 93) = true:=by simp [h2]
   have hr' : Hid (zbk (enc false t n ty) t j = some (oneB 0,j + 2)):=by show _ = _;unfold zbk;rw [if_pos hm,if_pos h2]
   clear hm h2
   go_enter Tryz.func140,Tryz.ntmps140
   go_wp2_with (first | (go_at_call 101;refine (zas _ _ _ (by omega) _hs).mono ?_;rintro e w' ⟨rfl,rfl⟩) | (go_at_call 111;refine (zed 0 _ (by omega)).mono ?_;rintro e w' ⟨rfl,hbw⟩))
   go_ret3
   rw [hr'.out]
   exact ⟨rfl,(hB _).trans (hbw.mono (by simp))⟩
  ·have h2' : (bAt t (j + 1) == 93) = false:=by simpa using h2
   obtain ⟨R,hR⟩ : ∃ R,R = za7 (enc false t n ty) t 16 1 j ByteArray.empty:=⟨_,rfl⟩
   have hr' : zbk (enc false t n ty) t j = R:=by unfold zbk;rw [if_pos hm,if_neg h2,hR]
   rw [hr']
   have HR : Hid (R = za7 (enc false t n ty) t 16 1 j ByteArray.empty):=hR
   have hjt : j < t.size:=zar (by omega)
   clear hm h2 hr' hR
   go_enter Tryz.func140,Tryz.ntmps140
   go_wp2_with (first | (go_at_call 101;refine (zas _ _ _ (by omega) _hs).mono ?_;rintro e w' ⟨rfl,rfl⟩))
   go_loopw [9,10,11] (fun vd vb vc wr => ∃ (m c b : Nat) (d : ByteArray),c + m = 17 /\ 1 <= c /\ j <= b /\ b < t.size /\ vc = .int .i64 c /\ vb = .int .i64 b /\ vd = .string d /\ Hid (R = za7 (enc false t n ty) t m c b d) /\ Hid (d.size <= (9 * n + 9) * (b - j)) /\ Below (w.heap.size + 1) (w.alloc (.cells #[.int .i64 ty.kind,.string ty.letters,.bool ty.op,.slice ai li ci,.slice af lf cf] 135)) wr) (fun _ _ c _ => 17 - (intOf c).toNat)
   case atStart => exact ⟨16,1,j,ByteArray.empty,rfl,Nat.le_refl _,Nat.le_refl _,hjt,rfl,rfl,rfl,HR,Nat.zero_le _,Below.refl _ _⟩
   case round =>
    obtain ⟨m,c,b,d,hcm,hc1,hjb,hbt,rfl,rfl,rfl,hR,hd,hb⟩:=hrel
    obtain ⟨hc,hf⟩:=zal hb
    have hrw : Rep n wr ai li ci af lf cf ty:=(hr.keep (hB _)).keep (hb.mono (by simp))
    have hsw : w.heap.size + 1 <= wr.heap.size:=by have:=hb.size;simpa using this
    have hbw0 : Below w.heap.size w wr:=(hB _).trans (hb.mono (by omega))
    cases m with
    | zero =>
     have hc17 : (17 : Int) <= c:=by omega
     have hr' : Hid (R = none):=hR
     go_wp2_with fail
     go_ret3
     rw [hr'.out]
     exact ⟨rfl,hbw0⟩
    | succ m =>
     have hc16 : (c : Int) <= 16:=by omega
     cases hx : enc false t n ty (b + 1) with
     | none =>
      have hr' : Hid (R = none):=by show _ = _;rw [hR.out,za7,hx]
      have hd:=IH.no (show b + 1 <= t.size by omega) hrw hx
      clear hx
      go_wp2_with (go_at_call 135;refine hd.mono ?_;rintro e w' ⟨rfl,hbw⟩)
      go_ret3
      rw [hr'.out]
      exact ⟨rfl,hbw0.trans (hbw.mono (by omega))⟩
     | some p =>
      obtain ⟨x,k⟩:=p
      obtain ⟨hb1,hb2,hb3⟩:=zbo hx
      have hsum : (d ++ x).size <= (9 * n + 9) * (k - j):=by
       rw [ByteArray.size_append]
       have h1:=zcj (C:=9 * n + 9) (show j <= b + 1 by omega) (show b + 1 <= k by omega)
       have h2:=zdm (C:=9 * n + 9) (show b - j <= b + 1 - j by omega)
       have:=hd.out
       omega
      have hs1:=zcr hb3 hn (by omega)
      have hs2:=zcr hd.out hn (by omega)
      have hs3:=zcr hsum hn (by omega)
      have HS : Hid ((d ++ x).size <= (9 * n + 9) * (k - j)):=hsum
      have hcall:=IH.yes (show b + 1 <= t.size by omega) hrw hx
      have hso : (oneB c).size = 1:=rfl
      clear hb3 hsum
      by_cases h93 : bAt t k = 93
      ·have hr' : Hid (R = some (oneB c ++ (d ++ x),k + 1)):=by show _ = _;rw [hR.out,za7,hx];simp only [if_pos h93]
       have h93' : (bAt t k == 93) = true:=by simp [h93]
       clear hx h93
       go_wp2_with (first | (go_at_call 135;refine hcall.mono ?_;rintro e w' ⟨rfl,hbw⟩) | (go_at_call 101;refine (zas _ _ _ (by omega) _hs).mono ?_;rintro e w' ⟨rfl,rfl⟩) | (go_at_call 111;refine (zed c _ (by omega)).mono ?_;rintro e w' ⟨rfl,hbw2⟩))
       go_ret3
       rw [hr'.out]
       exact ⟨rfl,hbw0.trans ((hbw.mono (by omega)).trans (hbw2.mono (by have:=hbw.size;omega)))⟩
      ·have h93' : (bAt t k == 93) = false:=by simpa using h93
       by_cases h44 : bAt t k = 44
       ·have h44' : (bAt t k != 44) = false:=by simp [h44]
        have hr' : Hid (R = za7 (enc false t n ty) t m (c + 1) k (d ++ x)):=by show _ = _;rw [hR.out,za7,hx];simp only [if_neg h93,if_pos h44]
        have hkt : k < t.size:=zar (by omega)
        clear hx h93 h44
        go_wp2_with (first | (go_at_call 135;refine hcall.mono ?_;rintro e w' ⟨rfl,hbw⟩) | (go_at_call 101;refine (zas _ _ _ (by omega) _hs).mono ?_;rintro e w' ⟨rfl,rfl⟩))
        go_roundw
        case rel => exact ⟨m,c + 1,k,d ++ x,by omega,by omega,by omega,hkt,by go_num,rfl,rfl,hr',HS,hb.trans (hbw.mono (by omega))⟩
        case measure => simp [intOf];omega
       ·have h44' : (bAt t k != 44) = true:=by simpa using h44
        have hr' : Hid (R = none):=by show _ = _;rw [hR.out,za7,hx];simp only [if_neg h93,if_neg h44]
        clear hx h93 h44
        go_wp2_with (first | (go_at_call 135;refine hcall.mono ?_;rintro e w' ⟨rfl,hbw⟩) | (go_at_call 101;refine (zas _ _ _ (by omega) _hs).mono ?_;rintro e w' ⟨rfl,rfl⟩))
        go_ret3
        rw [hr'.out]
        exact ⟨rfl,hbw0.trans (hbw.mono (by omega))⟩
 ·have hm' : (bAt t j != 91) = true:=by simpa using hm
  have hr' : Hid (zbk (enc false t n ty) t j = none):=by show _ = _;unfold zbk;rw [if_neg hm]
  clear hm
  go_enter Tryz.func140,Tryz.ntmps140
  go_wp2_with (go_at_call 101;refine (zas _ _ _ (by omega) _hs).mono ?_;rintro e w' ⟨rfl,rfl⟩)
  go_ret3
  rw [hr'.out]
  exact ⟨rfl,hB _⟩
end
end Go.Proofs.YtkkekopomiehlaaGreat
