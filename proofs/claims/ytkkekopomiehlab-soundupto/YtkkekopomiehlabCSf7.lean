import Derived.Test.YtkkekopomiehlabCLn2
set_option linter.unusedVariables false
set_option linter.unusedSimpArgs false
set_option maxHeartbeats 40000000
namespace Go.Proofs.Ytkkekopomiehlab
section
set_option maxRecDepth 4000
open Go.RowKit
open Go.Lib (below_setCells)
def MovesAt (w : World) (a : Option Addr) (ms : List (Int × Int)) : Prop:=∀ i m,ms[i]? = some m -> ∃ b o,a = some ⟨b,o,none⟩ /\ w.cell? ⟨b,o + i * 2,none⟩ = some (.int .i64 m.1) /\ w.cell? ⟨b,o + i * 2 + 1,none⟩ = some (.int .i64 m.2)
theorem MovesAt.keep {w w' : World} (hb : Below w.heap.size w w') {a : Option Addr} {ms : List (Int × Int)} (h : MovesAt w a ms) : MovesAt w' a ms:=fun i m hi => by
 obtain ⟨b,o,h1,h2,h3⟩:=h i m hi
 exact ⟨b,o,h1,zaa hb h2,zaa hb h3⟩
def aft (s : SiD) (p : Int) : SiD:=if 0 <= p /\ p < 9 then aftD s p.toNat else s
theorem zda {s : SiD} (h : s.ok) (p : Int) : (aft s p).ok:=by unfold aft;split;exact zgl h _;exact h
theorem ze5 (s : SiD) (p : Int) (hs : s.ok) (w : World) : Calls Try.prog 42 #[.agg s.cells.toArray,.int .i64 p] w fun e W => e = .returned (.agg (aft s p).cells.toArray) /\ Below w.heap.size w W:=by
 unfold aft
 by_cases h : 0 <= p /\ p < 9
 ·rw [if_pos h]
  obtain ⟨n,rfl⟩ : ∃ n : Nat,p = n:=⟨p.toNat,by omega⟩
  rw [Int.toNat_natCast]
  exact zka s n (by omega) hs w
 ·rw [if_neg h]
  exact zkb s p h hs w
def mvsB (c : ChD) : SiD -> List (Int × Int) -> Bool
 | _,[] => true
 | s,m :: ms => mvB c s (plI m.1 m.2) && mvsB c (aft s (plI m.1 m.2)) ms
theorem Try.infoCht : (Try.prog.info? 50).map (·.size) = some 189:=by kernel_rfl
theorem ChD.ok.len {c : ChD} (h : c.ok) : c.cells.length = 189:=by
 have h1:=zcw c.alg h.algr
 have h2:=zcw c.fev h.fevr
 simp only [ChD.cells,ChD.bits,List.length_map,List.length_append,h.thr,h.fst,h.wnt,h1,h2,h.alg,h.fev]
theorem zcc {w w' : World} (hb : Below w.heap.size w w') {b o n : Nat} (h : w.there b o n) : w'.there b o n:=fun j hj => by
 obtain ⟨h1,h2⟩:=h j hj
 obtain ⟨v,hv⟩:=Option.isSome_iff_exists.1 h1
 have hlt:=World.block_lt_of_cell? w ⟨b,o + j,none⟩ hv
 refine ⟨?_,?_⟩
 ·rw [hb.cell (p:=⟨b,o + j,none⟩) hlt];exact h1
 ·rw [hb.frozen (p:=⟨b,o + j,none⟩) hlt];exact h2
theorem zbz {s : SiD} (h : s.ok) : (Try.prog.info? 91).map (·.size) = some s.cells.length /\ (Try.prog.info? 91).map (·.size) = some s.cells.toArray.size /\ s.cells.toArray.all (·.oneCell') = true:=by
 refine ⟨by rw [h.len];exact Try.infoSit,by rw [List.size_toArray,h.len];exact Try.infoSit,zb5 _⟩
theorem zjw (c : ChD) (hc : c.ok) (ms : List (Int × Int)) (w : World) (a : Option Addr) (cap : Nat) (hl : ms.length <= 200) (hp : MovesAt w a ms) :
  Calls Try.prog 18 #[.agg c.cells.toArray,.slice a ms.length cap] w fun e W => e = .returned (.bool (mvsB c (begD c) ms)) /\ Below w.heap.size w W:=by
 have hq1:=zay (zao w (.cells c.cells.toArray 50))
 have ic : (Try.prog.info? 50).map (·.size) = some c.cells.length:=by rw [hc.len];exact Try.infoCht
 have hbeg:=fun w => ze8 c hc w
 obtain ⟨b1,b2,b3⟩:=zbz (zb4 hc)
 have hlen:=(zb4 hc).len
 obtain ⟨R,hR⟩ : ∃ R,R = mvsB c (begD c) ms:=⟨_,rfl⟩
 rw [<- hR]
 have HR : Hid (R = mvsB c (begD c) (ms.drop 0)):=hR
 have HP:= zab hp
 have HO:=(zab (zb4 hc))
 have HCC:= zab hc
 have HLN:= zab hlen
 have hmv:=fun s p (hs : SiD.ok s) w => zhm c s p hc hs w
 clear hR hp hc hlen
 go_enter Try.func18,Try.ntmps18
 go_wp2_with (first
  | (refine wpList_load_mid (w:=w.alloc (.cells c.cells.toArray 50)) rfl 50 _ rfl w.heap.size 0 rfl c.cells _ hq1 Try.underlying50 rfl ic ?_)
  | (go_at_call 40;refine (hbeg _).mono ?_;rintro e w1 ⟨rfl,hb1⟩;have ht1 : (w1.alloc (.cells #[.bool false,.bool false,.bool false,.bool false,.bool false,.bool false,.bool false,.bool false,.bool false,.bool false,.bool false,.bool false,.bool false,.bool false,.bool false,.bool false,.bool false,.bool false] 91)).there w1.heap.size 0 (begD c).cells.toArray.size:=by (rw [show (begD c).cells.toArray.size = 18 by simpa using HLN.out];exact zbe (zao w1 (.cells #[.bool false,.bool false,.bool false,.bool false,.bool false,.bool false,.bool false,.bool false,.bool false,.bool false,.bool false,.bool false,.bool false,.bool false,.bool false,.bool false,.bool false,.bool false] 91))))
  | (refine wpList_store_mid (w:=w1.alloc (.cells #[.bool false,.bool false,.bool false,.bool false,.bool false,.bool false,.bool false,.bool false,.bool false,.bool false,.bool false,.bool false,.bool false,.bool false,.bool false,.bool false,.bool false,.bool false] 91)) rfl 91 _ _ rfl w1.heap.size 0 (begD c).cells.toArray rfl rfl ht1 b2 b3 ?_))
 have hB1 : Below w.heap.size w w1:=thn3 (belS w _) hb1
 have hBA : Below w1.heap.size w1 (w1.alloc (.cells #[.bool false,.bool false,.bool false,.bool false,.bool false,.bool false,.bool false,.bool false,.bool false,.bool false,.bool false,.bool false,.bool false,.bool false,.bool false,.bool false,.bool false,.bool false] 91)):=belS _ _
 have rs0:=World.rangeAt_setCells_same (w1.alloc (.cells #[.bool false,.bool false,.bool false,.bool false,.bool false,.bool false,.bool false,.bool false,.bool false,.bool false,.bool false,.bool false,.bool false,.bool false,.bool false,.bool false,.bool false,.bool false] 91)) w1.heap.size 0 (begD c).cells (by simpa using ht1)
 have rt0 : ((w1.alloc (.cells #[.bool false,.bool false,.bool false,.bool false,.bool false,.bool false,.bool false,.bool false,.bool false,.bool false,.bool false,.bool false,.bool false,.bool false,.bool false,.bool false,.bool false,.bool false] 91)).setCells w1.heap.size 0 (begD c).cells).there w1.heap.size 0 18:=World.there_setCells (zbe (zao w1 (.cells #[.bool false,.bool false,.bool false,.bool false,.bool false,.bool false,.bool false,.bool false,.bool false,.bool false,.bool false,.bool false,.bool false,.bool false,.bool false,.bool false,.bool false,.bool false] 91))) _ _ _
 have rc0 : ((w1.alloc (.cells #[.bool false,.bool false,.bool false,.bool false,.bool false,.bool false,.bool false,.bool false,.bool false,.bool false,.bool false,.bool false,.bool false,.bool false,.bool false,.bool false,.bool false,.bool false] 91)).setCells w1.heap.size 0 (begD c).cells).rangeAt w.heap.size 0 c.cells:=World.rangeAt_setCells_apart (zad hBA (zad hb1 hq1)) _ _ _ (.inl (by have:=hb1.size;simp at this;omega))
 have hB2 : Below w1.heap.size w1 ((w1.alloc (.cells #[.bool false,.bool false,.bool false,.bool false,.bool false,.bool false,.bool false,.bool false,.bool false,.bool false,.bool false,.bool false,.bool false,.bool false,.bool false,.bool false,.bool false,.bool false] 91)).setCells w1.heap.size 0 (begD c).cells):=below_setCells w1.heap.size (Nat.le_refl _) _ _ hBA
 go_loopw [16] (fun vi wr => ∃ (i : Nat) (s : SiD),i <= ms.length /\ vi = .int .i64 i /\ s.ok /\ Hid (R = mvsB c s (ms.drop i)) /\ wr.rangeAt w1.heap.size 0 s.cells /\ wr.there w1.heap.size 0 18 /\ wr.rangeAt w.heap.size 0 c.cells /\ Below w1.heap.size w1 wr) (fun i _ => ms.length - (intOf i).toNat)
 case atStart => exact ⟨0,begD c,Nat.zero_le _,rfl,HO.out,HR,rs0,rt0,rc0,hB2⟩
 case round =>
  obtain ⟨i,s,hi,rfl,hso,hr,rs,rt,rc,hb⟩:=hrel
  rename World => w5
  have hbw:=thn3 hB1 hb
  by_cases hlt : i < ms.length
  ·obtain ⟨m,hmi⟩ : ∃ m,ms[i]? = some m:=⟨ms[i],List.getElem?_eq_getElem hlt⟩
   have hdrop : ms.drop i = m :: ms.drop (i + 1):=by
    rw [List.drop_eq_getElem_cons hlt];rw [List.getElem?_eq_getElem hlt] at hmi;simp at hmi;rw [hmi]
   obtain ⟨b,o,rfl,d0,d1⟩:=HP.out i m hmi
   have d0:=zaa hbw d0
   have d1:=zaa hbw d1
   have hbl:=zag d0
   have hst : R = (mvB c s (plI m.1 m.2) && mvsB c (aft s (plI m.1 m.2)) (ms.drop (i + 1))):=by rw [hr.out,hdrop,mvsB]
   obtain ⟨x,y⟩:=m
   simp only at d0 d1 hst
   have hpl:=fun w => zfi x y w
   have hmv1:=fun w => hmv s (plI x y) hso w
   have haf:=fun w => ze5 s (plI x y) hso w
   have hao:=zda hso (plI x y)
   obtain ⟨s1,s2,s3⟩:=zbz hso
   obtain ⟨q1,q2,q3⟩:=zbz hao
   have hx0 := znn i
   have hx1 : (i : Int) < (ms.length : Int):=by omega
   generalize plI x y = p at hpl hmv1 haf hst hao q1 q2 q3
   have HAo:= zab hao
   have HAl:= zab hao.len
   generalize mvB c s p = t at hmv1 hst
   clear hmi hdrop hr hmv hao
   cases t with
   | false =>
    have hR1 : R = false:=hst
    clear hst haf
    subst hR1
    go_wp2_with (first
     | (go_at_call 37;refine (hpl _).mono ?_;rintro e w2 ⟨rfl,hb2⟩;have rs2:=zad hb2 (zad (belS _ _) rs);have rc2:=zad hb2 (zad (belS _ _) rc))
     | (go_at_call 41;refine (hmv1 _).mono ?_;rintro e w3 ⟨rfl,hb3⟩)
     | (refine wpList_load_mid (w:=w2) rfl 50 _ rfl w.heap.size 0 rfl c.cells _ rc2 Try.underlying50 rfl ic ?_)
     | (refine wpList_load_mid (w:=w2) rfl 91 _ rfl w1.heap.size 0 rfl s.cells _ rs2 Try.underlying91 rfl s1 ?_))
    go_ret
    exact ⟨rfl,thn3 (thn3 (thn3 hbw (belS _ _)) hb2) hb3⟩
   | true =>
    have hst' : Hid (R = mvsB c (aft s p) (ms.drop (i + 1))):=hst
    clear hst
    go_wp2_with (first
     | (go_at_call 37;refine (hpl _).mono ?_;rintro e w2 ⟨rfl,hb2⟩;have rs2:=zad hb2 (zad (belS _ _) rs);have rc2:=zad hb2 (zad (belS _ _) rc);have rt2:=zcc hb2 (zcc (belS _ _) rt))
     | (go_at_call 41;refine (hmv1 _).mono ?_;rintro e w3 ⟨rfl,hb3⟩;have rs3:=zad hb3 rs2;have rc3:=zad hb3 rc2;have rt3:=zcc hb3 rt2)
     | (go_at_call 42;refine (haf _).mono ?_;rintro e w4 ⟨rfl,hb4⟩;have rc4:=zad hb4 rc3;have rt4:=zcc hb4 rt3;have rt4' : w4.there w1.heap.size 0 (aft s p).cells.toArray.size:=by (rw [show (aft s p).cells.toArray.size = 18 by simpa using HAl.out];exact rt4))
     | (have hq:=hb4;refine wpList_store_mid (w:=w4) rfl 91 _ _ rfl w1.heap.size 0 (aft s p).cells.toArray rfl rfl rt4' q2 q3 ?_)
     | (have hq:=hb3;(refine wpList_load_mid (w:=w3) rfl 91 _ rfl w1.heap.size 0 rfl s.cells _ rs3 Try.underlying91 rfl s1 ?_))
     | (refine wpList_load_mid (w:=w2) rfl 50 _ rfl w.heap.size 0 rfl c.cells _ rc2 Try.underlying50 rfl ic ?_)
     | (refine wpList_load_mid (w:=w2) rfl 91 _ rfl w1.heap.size 0 rfl s.cells _ rs2 Try.underlying91 rfl s1 ?_))
    go_roundw
    case rel =>
     have h4:=thn3 (thn3 (thn3 (thn3 hb (belS _ _)) hb2) hb3) hb4
     exact ⟨i + 1,aft s p,by omega,by go_num,HAo.out,hst',World.rangeAt_setCells_same _ _ _ _ (by simpa using rt4'),World.there_setCells rt4 _ _ _,World.rangeAt_setCells_apart rc4 _ _ _ (.inl (by have:=hb1.size;simp at this;omega)),below_setCells w1.heap.size (Nat.le_refl _) _ _ h4⟩
    case measure => simp [intOf];omega
  ·have hR1 : R = true:=by rw [hr.out,List.drop_of_length_le (by omega)];rfl
   clear hr HR
   subst hR1
   go_wp2_with fail
   go_ret
   exact ⟨rfl,hbw⟩
end
section
structure TS (α : Type) where
 now : α
 fr : Nat
 to : Nat
section
variable {α : Type}
structure TInv (nx : α -> Nat -> Option α) (L : List (TS α)) (t : Nat) : Prop where
 nd : ∀ (i j : Nat) (a b : TS α),L[i]? = some a -> L[j]? = some b -> a.now = b.now -> i = j
 tm : ∀ (j : Nat) (a : TS α),L[j + 1]? = some a -> 9 * a.fr + a.to < t /\ a.fr < j + 1 /\ a.to < 9 /\ ∃ b,L[a.fr]? = some b /\ nx b.now a.to = some a.now
 mono : ∀ (i j : Nat) (a b : TS α),i < j -> L[i + 1]? = some a -> L[j + 1]? = some b -> 9 * a.fr + a.to < 9 * b.fr + b.to
 ev : ∀ (i : Nat) (a : TS α) (p : Nat) (y : α),L[i]? = some a -> p < 9 -> nx a.now p = some y -> 9 * i + p < t -> ∃ j b,L[j]? = some b /\ b.now = y /\ (j = 0 \/ 9 * b.fr + b.to <= 9 * i + p)
theorem zcp {β : Type} {L : List β} {x a : β} {i : Nat} (h : (L ++ [x])[i]? = some a) : L[i]? = some a \/ (i = L.length /\ a = x):=by
 rcases Nat.lt_trichotomy i L.length with h1 | h1 | h1
 ·rw [List.getElem?_append_left h1] at h;exact .inl h
 ·subst h1;rw [List.getElem?_append_right (Nat.le_refl _)] at h;simp at h;exact .inr ⟨rfl,h.symm⟩
 ·rw [List.getElem?_eq_none (by simp;omega)] at h;cases h
theorem zeu {β : Type} {L : List β} {x a : β} {i : Nat} (h : L[i]? = some a) : (L ++ [x])[i]? = some a:=by
 rw [List.getElem?_append_left (List.getElem?_eq_some_iff.1 h).1];exact h
theorem TInv.skip {nx : α -> Nat -> Option α} {L : List (TS α)} {k p : Nat} {a : TS α} (h : TInv nx L (9 * k + p)) (ha : L[k]? = some a) (hp : p < 9) (hy : nx a.now p = none) : TInv nx L (9 * k + p + 1):=by
 refine ⟨h.nd,fun j a ha => ⟨by have:=(h.tm j a ha).1;omega,(h.tm j a ha).2⟩,h.mono,fun i a' q z hi hq hz ht => ?_⟩
 by_cases he : 9 * i + q < 9 * k + p
 ·exact h.ev i a' q z hi hq hz he
 ·have : i = k /\ q = p:=by omega
  obtain ⟨rfl,rfl⟩:=this
  rw [ha] at hi;cases hi
  rw [hy] at hz;cases hz
end
theorem SiD.eq_iff {s t : SiD} : s = t ↔ s.has = t.has /\ s.had = t.had:=by
 constructor
 ·rintro rfl;exact ⟨rfl,rfl⟩
 ·obtain ⟨a,b⟩:=s;obtain ⟨c,d⟩:=t;rintro ⟨h1,h2⟩;simp only at h1 h2;rw [h1,h2]
def zdy (s t : SiD) : Bool:=decide (s.has = t.has) && decide (s.had = t.had)
theorem zjb {s t : SiD} : zdy s t = true ↔ s = t:=by unfold zdy;rw [Bool.and_eq_true,decide_eq_true_eq,decide_eq_true_eq,SiD.eq_iff]
section
def tins (k : Nat) (L : List (TS SiD)) (p : Nat) (y : SiD) : List (TS SiD) :=
 if L.any (fun t => zdy t.now y) = true then L else L ++ [⟨y,k,p⟩]
def tin (nx : SiD -> Nat -> Option SiD) (k : Nat) (s : SiD) : Nat -> List (TS SiD) -> List (TS SiD)
 | 0,L => L
 | p + 1,L => match nx s p with
  | some y => tins k (tin nx k s p L) p y
  | none => tin nx k s p L
def tou (nx : SiD -> Nat -> Option SiD) (s0 : SiD) : Nat -> List (TS SiD)
 | 0 => [⟨s0,0,0⟩]
 | k + 1 => match (tou nx s0 k)[k]? with
  | some a => tin nx k a.now 9 (tou nx s0 k)
  | none => tou nx s0 k
theorem zo7 {k p i : Nat} {L : List (TS SiD)} {y : SiD} {a : TS SiD} (h : L[i]? = some a) : (tins k L p y)[i]? = some a:=by
 unfold tins;split
 ·exact h
 ·exact zeu h
theorem TInv.step {nx : SiD -> Nat -> Option SiD} {L : List (TS SiD)} {k p : Nat} {a : TS SiD} {y : SiD} (h : TInv nx L (9 * k + p)) (ha : L[k]? = some a) (hp : p < 9) (hy : nx a.now p = some y) : TInv nx (tins k L p y) (9 * k + p + 1):=by
 have hk:=(List.getElem?_eq_some_iff.1 ha).1
 unfold tins
 by_cases hr : L.any (fun t => zdy t.now y) = true
 ·rw [if_pos hr]
  obtain ⟨b,hb,hby⟩:=List.any_eq_true.1 hr
  obtain ⟨j,hj⟩:=List.getElem?_of_mem hb
  refine ⟨h.nd,fun j a ha => ⟨by have:=(h.tm j a ha).1;omega,(h.tm j a ha).2⟩,h.mono,fun i a' q z hi hq hz ht => ?_⟩
  by_cases he : 9 * i + q < 9 * k + p
  ·exact h.ev i a' q z hi hq hz he
  ·have : i = k /\ q = p:=by omega
   obtain ⟨rfl,rfl⟩:=this
   rw [ha] at hi;cases hi
   rw [hy] at hz;cases hz
   refine ⟨j,b,hj,zjb.1 hby,?_⟩
   cases j with
   | zero => exact .inl rfl
   | succ j => exact .inr (by have:=(h.tm j b hj).1;omega)
 ·rw [if_neg hr]
  have hno : ∀ (i : Nat) (b : TS SiD),L[i]? = some b -> b.now ≠ y:=fun i b hi he => hr (List.any_eq_true.2 ⟨b,List.mem_of_getElem? hi,zjb.2 he⟩)
  refine ⟨fun i j a b hi hj he => ?_,fun j b hj => ?_,fun i j b c hij hi hj => ?_,fun i b q z hi hq hz ht => ?_⟩
  ·rcases zcp hi with hi | ⟨rfl,rfl⟩ <;> rcases zcp hj with hj | ⟨rfl,rfl⟩
   ·exact h.nd i j a b hi hj he
   ·exact absurd he (hno i a hi)
   ·exact absurd he.symm (hno j b hj)
   ·rfl
  ·rcases zcp hj with hj | ⟨hl,rfl⟩
   ·obtain ⟨h1,h2,h3,c,h4,h5⟩:=h.tm j b hj
    exact ⟨by omega,h2,h3,c,zeu h4,h5⟩
   ·exact ⟨by simp,by simp;omega,hp,a,zeu ha,hy⟩
  ·rcases zcp hi with hi | ⟨hl,rfl⟩ <;> rcases zcp hj with hj | ⟨hl2,rfl⟩
   ·exact h.mono i j b c hij hi hj
   ·exact (h.tm i b hi).1
   ·have:=(List.getElem?_eq_some_iff.1 hj).1;omega
   ·omega
  ·rcases zcp hi with hi' | ⟨rfl,rfl⟩
   ·clear hi
    have hi:=hi'
    by_cases he : 9 * i + q < 9 * k + p
    ·obtain ⟨j,c,h1,h2,h3⟩:=h.ev i b q z hi hq hz he
     exact ⟨j,c,zeu h1,h2,h3⟩
    ·have : i = k /\ q = p:=by omega
     obtain ⟨rfl,rfl⟩:=this
     rw [ha] at hi;cases hi
     rw [hy] at hz;cases hz
     exact ⟨L.length,⟨y,i,q⟩,by simp,rfl,.inr (by simp)⟩
   ·omega
theorem zc6 {nx : SiD -> Nat -> Option SiD} {k i : Nat} {s : SiD} {L : List (TS SiD)} {a : TS SiD} (h : L[i]? = some a) : ∀ p,(tin nx k s p L)[i]? = some a
 | 0 => h
 | p + 1 => by
  rw [tin];split
  ·exact zo7 (zc6 h p)
  ·exact zc6 h p
theorem TInv.tin {nx : SiD -> Nat -> Option SiD} {L : List (TS SiD)} {k : Nat} {a : TS SiD} (h : TInv nx L (9 * k)) (ha : L[k]? = some a) : ∀ p,p <= 9 -> TInv nx (tin nx k a.now p L) (9 * k + p)
 | 0,_ => h
 | p + 1,hp => by
  have ih:=TInv.tin h ha p (by omega)
  rw [Go.Proofs.Ytkkekopomiehlab.tin]
  split
  ·rename_i y hy;exact ih.step (zc6 ha p) (by omega) hy
  ·rename_i hy;exact ih.skip (zc6 ha p) (by omega) hy
theorem zpa {nx : SiD -> Nat -> Option SiD} {s0 : SiD} {k i : Nat} {a : TS SiD} (h : (tou nx s0 k)[i]? = some a) : (tou nx s0 (k + 1))[i]? = some a:=by
 rw [tou];split
 ·exact zc6 h 9
 ·exact h
theorem ze0 (nx : SiD -> Nat -> Option SiD) (s0 : SiD) : ∀ k,k <= (tou nx s0 k).length -> TInv nx (tou nx s0 k) (9 * k) /\ ∀ j,j <= k -> j <= (tou nx s0 j).length
 | 0,h => by
  refine ⟨⟨fun i j a b hi hj _ => ?_,fun j a hj => by simp [tou] at hj,fun i j a b _ hi => by simp [tou] at hi,fun i a p y _ _ _ ht => by omega⟩,fun j hj => by omega⟩
  have h1:=(List.getElem?_eq_some_iff.1 hi).1
  have h2:=(List.getElem?_eq_some_iff.1 hj).1
  simp [tou] at h1 h2;omega
 | k + 1,h => by
  have hk : k < (tou nx s0 k).length:=by
   apply Nat.lt_of_not_le;intro hc
   have : (tou nx s0 k)[k]? = none:=List.getElem?_eq_none hc
   rw [tou,this] at h;simp only at h;omega
  obtain ⟨h1,h2⟩:=ze0 nx s0 k (Nat.le_of_lt hk)
  obtain ⟨a,ha⟩ : ∃ a,(tou nx s0 k)[k]? = some a:=⟨_,List.getElem?_eq_getElem hk⟩
  refine ⟨?_,fun j hj => ?_⟩
  ·have:=h1.tin ha 9 (Nat.le_refl _)
   rw [tou,ha];simpa [Nat.mul_add] using this
  ·rcases Nat.lt_or_ge j (k + 1) with hj' | hj'
   ·exact h2 j (by omega)
   ·have : j = k + 1:=by omega
    subst this;exact h
end
end
section
def nrB (E : List (Nat × Nat × Nat)) (G : Nat -> Bool) : Nat -> Nat -> Bool
 | 0,i => G i
 | r + 1,i => nrB E G r i || E.any fun e => e.1 == i && nrB E G r e.2.1
theorem zmd {E : List (Nat × Nat × Nat)} {G : Nat -> Bool} {r i : Nat} (h : nrB E G (r + 1) i = true) : nrB E G r i = true \/ ∃ j p,(i,j,p) ∈ E /\ nrB E G r j = true:=by
 rw [nrB,Bool.or_eq_true] at h
 rcases h with h | h
 ·exact .inl h
 ·obtain ⟨⟨a,j,p⟩,he,h2⟩:=List.any_eq_true.1 h
  simp only [Bool.and_eq_true,beq_iff_eq] at h2
  obtain ⟨h3,h4⟩:=h2
  subst h3
  exact .inr ⟨j,p,he,h4⟩
theorem zmc {E : List (Nat × Nat × Nat)} {G : Nat -> Bool} {r i j p : Nat} (he : (i,j,p) ∈ E) (h : nrB E G r j = true) : nrB E G (r + 1) i = true:=by
 rw [nrB,Bool.or_eq_true]
 exact .inr (List.any_eq_true.2 ⟨_,he,by simp [h]⟩)
def rlxB (F : List Int) (e : Nat × Nat × Nat) : Bool:=decide (0 <= F.getD e.2.1 0) && (decide (F.getD e.1 0 < 0) || decide (F.getD e.2.1 0 + 1 < F.getD e.1 0))
structure MI (E : List (Nat × Nat × Nat)) (G : Nat -> Bool) (n r k : Nat) (F : List Int) : Prop where
 len : F.length = n
 snd : ∀ (i : Nat) (x : Int),F[i]? = some x -> 0 <= x -> nrB E G x.toNat i = true
 cmp : ∀ (s i : Nat) (x : Int),s <= r -> nrB E G s i = true -> F[i]? = some x -> 0 <= x /\ x <= s
 nxt : ∀ (c : Nat) (e : Nat × Nat × Nat) (s : Nat) (x : Int),c < k -> E[c]? = some e -> s <= r -> nrB E G s e.2.1 = true -> F[e.1]? = some x -> 0 <= x /\ x <= s + 1
theorem zhk {F : List Int} {i : Nat} {x d : Int} (h : F[i]? = some x) : F.getD i d = x:=by rw [List.getD,h];rfl
theorem MI.step {E : List (Nat × Nat × Nat)} {G : Nat -> Bool} {n r k : Nat} {F : List Int} {e : Nat × Nat × Nat} (h : MI E G n r k F) (he : E[k]? = some e) (hn : ∀ e ∈ E,e.1 < n /\ e.2.1 < n) :
  (rlxB F e = true -> MI E G n r (k + 1) (F.set e.1 (F.getD e.2.1 0 + 1))) /\ (rlxB F e = false -> MI E G n r (k + 1) F):=by
 obtain ⟨a,b,p⟩:=e
 obtain ⟨ha,hb⟩:=hn _ (List.mem_of_getElem? he)
 obtain ⟨x,hx⟩ : ∃ x,F[a]? = some x:=⟨_,List.getElem?_eq_getElem (by rw [h.len];exact ha)⟩
 obtain ⟨y,hy⟩ : ∃ y,F[b]? = some y:=⟨_,List.getElem?_eq_getElem (by rw [h.len];exact hb)⟩
 have hmem:=List.mem_of_getElem? he
 unfold rlxB
 simp only [zhk hx,zhk hy]
 refine ⟨fun ht => ?_,fun ht => ?_⟩
 ·simp only [Bool.and_eq_true,Bool.or_eq_true,decide_eq_true_eq] at ht
  obtain ⟨h0,h1⟩:=ht
  have hal : a < F.length:=by rw [h.len];exact ha
  have hset : ∀ (i : Nat) (z : Int),(F.set a (y + 1))[i]? = some z -> (i = a /\ z = y + 1) \/ (i ≠ a /\ F[i]? = some z):=fun i z hz => by
   rw [List.getElem?_set] at hz
   by_cases hia : a = i
   ·subst hia;rw [if_pos rfl,if_pos hal] at hz;exact .inl ⟨rfl,by simpa using hz.symm⟩
   ·rw [if_neg hia] at hz;exact .inr ⟨fun hc => hia hc.symm,hz⟩
  have hnear : nrB E G (y + 1).toNat a = true:=by
   rw [show (y + 1).toNat = y.toNat + 1 by omega]
   exact zmc hmem (h.snd b y hy h0)
  refine ⟨by rw [List.length_set];exact h.len,fun i z hz h0z => ?_,fun s i z hs hn hz => ?_,fun c e' s z hc hce hs hn hz => ?_⟩
  ·rcases hset i z hz with ⟨rfl,rfl⟩ | ⟨_,hz⟩
   ·exact hnear
   ·exact h.snd i z hz h0z
  ·rcases hset i z hz with ⟨rfl,rfl⟩ | ⟨_,hz⟩
   ·have:=h.cmp s i x hs hn hx;omega
   ·exact h.cmp s i z hs hn hz
  ·rcases hset e'.1 z hz with ⟨hea,rfl⟩ | ⟨hea,hz⟩
   ·by_cases hck : c = k
    ·subst hck;rw [he] at hce;cases hce
     have:=h.cmp s b y hs hn hy;omega
    ·rw [<- hea] at hx
     have:=h.nxt c e' s x (by omega) hce hs hn hx;omega
   ·by_cases hck : c = k
    ·subst hck;rw [he] at hce;cases hce;exact absurd rfl hea
    ·exact h.nxt c e' s z (by omega) hce hs hn hz
 ·refine ⟨h.len,h.snd,h.cmp,fun c e' s z hc hce hs hn hz => ?_⟩
  by_cases hck : c = k
  ·subst hck;rw [he] at hce;cases hce
   simp only [Bool.and_eq_false_iff,Bool.or_eq_false_iff,decide_eq_false_iff_not] at ht
   have:=h.cmp s b y hs hn hy
   simp only at hz
   rw [hx] at hz;cases hz
   omega
  ·exact h.nxt c e' s z (by omega) hce hs hn hz
theorem MI.round {E : List (Nat × Nat × Nat)} {G : Nat -> Bool} {n r : Nat} {F : List Int} (h : MI E G n r E.length F) : MI E G n (r + 1) 0 F:=by
 refine ⟨h.len,h.snd,fun s i x hs hn hx => ?_,fun c e s x hc => by omega⟩
 by_cases hs' : s <= r
 ·exact h.cmp s i x hs' hn hx
 ·have : s = r + 1:=by omega
  subst this
  rcases zmd hn with hn | ⟨j,p,he,hj⟩
  ·have:=h.cmp r i x (Nat.le_refl _) hn hx;omega
  ·obtain ⟨c,hc⟩:=List.getElem?_of_mem he
   have:=h.nxt c _ r x (List.getElem?_eq_some_iff.1 hc).1 hc (Nat.le_refl _) hj hx
   omega
end
section
section
variable {α : Type}
structure EdgesOk (nx : α -> Nat -> Option α) (L : List (TS α)) (E : List (Nat × Nat × Nat)) : Prop where
 ok : ∀ i j p,(i,j,p) ∈ E -> p < 9 /\ ∃ a b,L[i]? = some a /\ L[j]? = some b /\ nx a.now p = some b.now
 all : ∀ (i : Nat) (a : TS α) (p : Nat) (y : α),L[i]? = some a -> p < 9 -> nx a.now p = some y -> ∃ j,(i,j,p) ∈ E
theorem EdgesOk.lt {nx : α -> Nat -> Option α} {L : List (TS α)} {E : List (Nat × Nat × Nat)} (h : EdgesOk nx L E) : ∀ e ∈ E,e.1 < L.length /\ e.2.1 < L.length:=fun ⟨i,j,p⟩ he => by
 obtain ⟨_,a,b,ha,hb,_⟩:=h.ok i j p he
 exact ⟨(List.getElem?_eq_some_iff.1 ha).1,(List.getElem?_eq_some_iff.1 hb).1⟩
structure Way (L : List (TS α)) (g D : Nat) (v : Nat -> Nat) : Prop where
 zero : v 0 = 0
 last : v D = g
 step : ∀ t,t < D -> 0 < v (t + 1) /\ v t < v (t + 1) /\ ∃ a,L[v (t + 1)]? = some a /\ a.fr = v t
theorem zp8 {nx : α -> Nat -> Option α} {L : List (TS α)} {t : Nat} (h : TInv nx L t) : ∀ n g,g <= n -> g < L.length -> ∃ D v,Way L g D v:=by
 intro n
 induction n with
 | zero => exact fun g hg _ => ⟨0,fun _ => 0,rfl,by omega,fun t ht => by omega⟩
 | succ n ih =>
  intro g hg hl
  cases g with
  | zero => exact ⟨0,fun _ => 0,rfl,rfl,fun t ht => by omega⟩
  | succ g =>
   obtain ⟨a,ha⟩ : ∃ a,L[g + 1]? = some a:=⟨_,List.getElem?_eq_getElem hl⟩
   obtain ⟨_,h2,_,_⟩:=h.tm g a ha
   obtain ⟨D,v,hv⟩:=ih a.fr (by omega) (by omega)
   refine ⟨D + 1,fun t => if t <= D then v t else g + 1,?_,?_,fun t ht => ?_⟩
   ·simp only [Nat.zero_le,if_true];exact hv.zero
   ·simp only [show ¬ D + 1 <= D by omega,if_false]
   ·by_cases htD : t < D
    ·simp only [show t <= D by omega,show t + 1 <= D by omega,if_true];exact hv.step t htD
    ·obtain rfl : t = D:=by omega
     simp only [Nat.le_refl,show ¬ t + 1 <= t by omega,if_true,if_false]
     exact ⟨by omega,by rw [hv.last];exact h2,a,ha,hv.last.symm⟩
section
variable {nx : α -> Nat -> Option α} {L : List (TS α)} {E : List (Nat × Nat × Nat)} {G : Nat -> Bool} {g D : Nat} {v : Nat -> Nat}
end
end
section
variable {α : Type} {nx : α -> Nat -> Option α} {L : List (TS α)} {E : List (Nat × Nat × Nat)} {G : Nat -> Bool} {g D : Nat} {v : Nat -> Nat}
end
end
section
theorem zhy : ∀ (N : Nat) (l : List Nat),l.Nodup -> (∀ x ∈ l,x < N) -> l.length <= N
 | 0,[],_,_ => Nat.le_refl _
 | 0,a :: l,_,h => absurd (h a (by simp)) (Nat.not_lt_zero _)
 | N + 1,l,hn,h => by
  have h1:=zhy N (l.erase N) (hn.erase N) fun x hx => by
   have:=(hn.mem_erase_iff).1 hx
   have:=h x this.2
   omega
  rw [List.length_erase] at h1
  split at h1 <;> omega
theorem zma {l : List Nat} (h : ∀ (i j : Nat) (a : Nat),l[i]? = some a -> l[j]? = some a -> i = j) : l.Nodup:=by
 unfold List.Nodup
 rw [List.pairwise_iff_getElem]
 intro i j hi hj hij he
 have:=h i j l[j] (by rw [List.getElem?_eq_getElem hi,he]) (List.getElem?_eq_getElem hj)
 omega
def bitC : List Bool -> Nat
 | [] => 0
 | b :: l => (if b = true then 1 else 0) + 2 * bitC l
theorem zdf : ∀ l,bitC l < 2 ^ l.length
 | [] => by simp [bitC]
 | b :: l => by
  have:=zdf l
  rw [bitC,List.length_cons,Nat.pow_succ]
  split <;> omega
theorem ze9 : ∀ (l m : List Bool),l.length = m.length -> bitC l = bitC m -> l = m
 | [],[],_,_ => rfl
 | [],a :: m,h,_ => by simp at h
 | a :: l,[],h,_ => by simp at h
 | a :: l,b :: m,h,he => by
  rw [bitC,bitC] at he
  have h1 : bitC l = bitC m:=by split at he <;> split at he <;> omega
  have h2 : a = b:=by cases a <;> cases b <;> simp at he ⊢ <;> omega
  rw [h2,ze9 l m (by simpa using h) h1]
section
variable {α : Type}
theorem TInv.len {P : α -> Prop} {nx : α -> Nat -> Option α} {L : List (TS α)} {t N : Nat} (h : TInv nx L t) (hP : ∀ (j : Nat) (a : TS α),L[j]? = some a -> P a.now) (code : α -> Nat) (hinj : ∀ x y,P x -> P y -> code x = code y -> x = y) (hlt : ∀ x,P x -> code x < N) : L.length <= N:=by
 have:=zhy N (L.map fun t => code t.now) (zma fun i j a hi hj => by
  rw [List.getElem?_map,Option.map_eq_some_iff] at hi hj
  obtain ⟨x,hx,hxa⟩:=hi
  obtain ⟨y,hy,hya⟩:=hj
  exact h.nd i j x y hx hy (hinj _ _ (hP i x hx) (hP j y hy) (hxa.trans hya.symm))) fun c hc => by
   obtain ⟨x,hx,rfl⟩:=List.mem_map.1 hc
   obtain ⟨j,hj⟩:=List.getElem?_of_mem hx
   exact hlt _ (hP j x hj)
 rwa [List.length_map] at this
end
section
theorem zo6 {P : SiD -> Prop} {k p : Nat} {L : List (TS SiD)} {y : SiD} (h : ∀ (j : Nat) (a : TS SiD),L[j]? = some a -> P a.now) (hy : P y) : ∀ (j : Nat) (a : TS SiD),(tins k L p y)[j]? = some a -> P a.now:=by
 unfold tins;split
 ·exact h
 ·intro j a ha
  rcases zcp ha with ha | ⟨_,rfl⟩
  ·exact h j a ha
  ·exact hy
theorem zey {P : SiD -> Prop} {nx : SiD -> Nat -> Option SiD} {k : Nat} {s : SiD} {L : List (TS SiD)} (hs : ∀ s p y,P s -> nx s p = some y -> P y) (h0 : P s) (h : ∀ (j : Nat) (a : TS SiD),L[j]? = some a -> P a.now) : ∀ p (j : Nat) (a : TS SiD),(tin nx k s p L)[j]? = some a -> P a.now
 | 0 => h
 | p + 1 => by
  rw [tin];split
  ·rename_i y hy;exact zo6 (zey hs h0 h p) (hs s p y h0 hy)
  ·exact zey hs h0 h p
theorem zez {P : SiD -> Prop} {nx : SiD -> Nat -> Option SiD} {s0 : SiD} (h0 : P s0) (hs : ∀ s p y,P s -> nx s p = some y -> P y) : ∀ k (j : Nat) (a : TS SiD),(tou nx s0 k)[j]? = some a -> P a.now
 | 0 => fun j a ha => by
  have hj:=(List.getElem?_eq_some_iff.1 ha).1
  simp [tou] at hj
  subst hj
  simp [tou] at ha
  rw [<- ha];exact h0
 | k + 1 => by
  rw [tou];split
  ·rename_i a ha;exact zey hs (zez h0 hs k k a ha) (zez h0 hs k) 9
  ·exact zez h0 hs k
end
end
end Go.Proofs.Ytkkekopomiehlab
