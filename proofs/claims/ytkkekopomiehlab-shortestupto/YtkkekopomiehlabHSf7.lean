import Derived.Test.YtkkekopomiehlabHLn2
set_option linter.unusedVariables false
set_option linter.unusedSimpArgs false
set_option maxHeartbeats 40000000
namespace Go.Proofs.Ytkkekopomiehlab
section
set_option maxRecDepth 4000
open Go.RowKit
open Go.Lib (below_setCells)
def MovesAt (w : World) (a : Option Addr) (ms : List (Int × Int)) : Prop:=∀ i m,ms[i]? = some m -> ∃ b o,a = some ⟨b,o,none⟩ /\ w.cell? ⟨b,o + i * 2,none⟩ = some (.int .i64 m.1) /\ w.cell? ⟨b,o + i * 2 + 1,none⟩ = some (.int .i64 m.2)
theorem MovesAt.keep {w w' : World} (hb : Below w.heap.size w w') {a : Option Addr} {ms : List (Int × Int)} (h : MovesAt w a ms) : MovesAt w' a ms:=fun i m hi => by
 obtain ⟨b,o,h1,h2,h3⟩:=h i m hi
 exact ⟨b,o,h1,zaa hb h2,zaa hb h3⟩
def aft (s : SiD) (p : Int) : SiD:=if 0 <= p /\ p < 9 then aftD s p.toNat else s
theorem zcs {s : SiD} (h : s.ok) (p : Int) : (aft s p).ok:=by unfold aft;split;exact zgp h _;exact h
theorem ze4 (s : SiD) (p : Int) (hs : s.ok) (w : World) : Calls Try.prog 42 #[.agg s.cells.toArray,.int .i64 p] w fun e W => e = .returned (.agg (aft s p).cells.toArray) /\ Below w.heap.size w W:=by
 unfold aft
 by_cases h : 0 <= p /\ p < 9
 ·rw [if_pos h]
  obtain ⟨n,rfl⟩ : ∃ n : Nat,p = n:=⟨p.toNat,by omega⟩
  rw [Int.toNat_natCast]
  exact zkh s n (by omega) hs w
 ·rw [if_neg h]
  exact zki s p h hs w
def mvsB (c : ChD) : SiD -> List (Int × Int) -> Bool
 | _,[] => true
 | s,m :: ms => mvB c s (plI m.1 m.2) && mvsB c (aft s (plI m.1 m.2)) ms
theorem Try.infoCht : (Try.prog.info? 50).map (·.size) = some 189:=by kernel_rfl
theorem ChD.ok.len {c : ChD} (h : c.ok) : c.cells.length = 189:=by
 have h1:=zcv c.alg h.algr
 have h2:=zcv c.fev h.fevr
 simp only [ChD.cells,ChD.bits,List.length_map,List.length_append,h.thr,h.fst,h.wnt,h1,h2,h.alg,h.fev]
theorem zcc {w w' : World} (hb : Below w.heap.size w w') {b o n : Nat} (h : w.there b o n) : w'.there b o n:=fun j hj => by
 obtain ⟨h1,h2⟩:=h j hj
 obtain ⟨v,hv⟩:=Option.isSome_iff_exists.1 h1
 have hlt:=World.block_lt_of_cell? w ⟨b,o + j,none⟩ hv
 refine ⟨?_,?_⟩
 ·rw [hb.cell (p:=⟨b,o + j,none⟩) hlt];exact h1
 ·rw [hb.frozen (p:=⟨b,o + j,none⟩) hlt];exact h2
theorem zb2 {s : SiD} (h : s.ok) : (Try.prog.info? 91).map (·.size) = some s.cells.length /\ (Try.prog.info? 91).map (·.size) = some s.cells.toArray.size /\ s.cells.toArray.all (·.oneCell') = true:=by
 refine ⟨by rw [h.len];exact Try.infoSit,by rw [List.size_toArray,h.len];exact Try.infoSit,zb6 _⟩
theorem zj6 (c : ChD) (hc : c.ok) (ms : List (Int × Int)) (w : World) (a : Option Addr) (cap : Nat) (hl : ms.length <= 200) (hp : MovesAt w a ms) :
  Calls Try.prog 18 #[.agg c.cells.toArray,.slice a ms.length cap] w fun e W => e = .returned (.bool (mvsB c (begD c) ms)) /\ Below w.heap.size w W:=by
 have hq1:=za0 (zan w (.cells c.cells.toArray 50))
 have ic : (Try.prog.info? 50).map (·.size) = some c.cells.length:=by rw [hc.len];exact Try.infoCht
 have hbeg:=fun w => ze8 c hc w
 obtain ⟨b1,b2,b3⟩:=zb2 (zbx hc)
 have hlen:=(zbx hc).len
 obtain ⟨R,hR⟩ : ∃ R,R = mvsB c (begD c) ms:=⟨_,rfl⟩
 rw [<- hR]
 have HR : Hid (R = mvsB c (begD c) (ms.drop 0)):=hR
 have HP:= zab hp
 have HO:=(zab (zbx hc))
 have HCC:= zab hc
 have HLN:= zab hlen
 have hmv:=fun s p (hs : SiD.ok s) w => zhq c s p hc hs w
 clear hR hp hc hlen
 go_enter Try.func18,Try.ntmps18
 go_wp2_with (first
  | (refine wpList_load_mid (w:=w.alloc (.cells c.cells.toArray 50)) rfl 50 _ rfl w.heap.size 0 rfl c.cells _ hq1 Try.underlying50 rfl ic ?_)
  | (go_at_call 40;refine (hbeg _).mono ?_;rintro e w1 ⟨rfl,hb1⟩;have ht1 : (w1.alloc (.cells #[.bool false,.bool false,.bool false,.bool false,.bool false,.bool false,.bool false,.bool false,.bool false,.bool false,.bool false,.bool false,.bool false,.bool false,.bool false,.bool false,.bool false,.bool false] 91)).there w1.heap.size 0 (begD c).cells.toArray.size:=by (rw [show (begD c).cells.toArray.size = 18 by simpa using HLN.out];exact zbh (zan w1 (.cells #[.bool false,.bool false,.bool false,.bool false,.bool false,.bool false,.bool false,.bool false,.bool false,.bool false,.bool false,.bool false,.bool false,.bool false,.bool false,.bool false,.bool false,.bool false] 91))))
  | (refine wpList_store_mid (w:=w1.alloc (.cells #[.bool false,.bool false,.bool false,.bool false,.bool false,.bool false,.bool false,.bool false,.bool false,.bool false,.bool false,.bool false,.bool false,.bool false,.bool false,.bool false,.bool false,.bool false] 91)) rfl 91 _ _ rfl w1.heap.size 0 (begD c).cells.toArray rfl rfl ht1 b2 b3 ?_))
 have hB1 : Below w.heap.size w w1:=thn3 (belS w _) hb1
 have hBA : Below w1.heap.size w1 (w1.alloc (.cells #[.bool false,.bool false,.bool false,.bool false,.bool false,.bool false,.bool false,.bool false,.bool false,.bool false,.bool false,.bool false,.bool false,.bool false,.bool false,.bool false,.bool false,.bool false] 91)):=belS _ _
 have rs0:=World.rangeAt_setCells_same (w1.alloc (.cells #[.bool false,.bool false,.bool false,.bool false,.bool false,.bool false,.bool false,.bool false,.bool false,.bool false,.bool false,.bool false,.bool false,.bool false,.bool false,.bool false,.bool false,.bool false] 91)) w1.heap.size 0 (begD c).cells (by simpa using ht1)
 have rt0 : ((w1.alloc (.cells #[.bool false,.bool false,.bool false,.bool false,.bool false,.bool false,.bool false,.bool false,.bool false,.bool false,.bool false,.bool false,.bool false,.bool false,.bool false,.bool false,.bool false,.bool false] 91)).setCells w1.heap.size 0 (begD c).cells).there w1.heap.size 0 18:=World.there_setCells (zbh (zan w1 (.cells #[.bool false,.bool false,.bool false,.bool false,.bool false,.bool false,.bool false,.bool false,.bool false,.bool false,.bool false,.bool false,.bool false,.bool false,.bool false,.bool false,.bool false,.bool false] 91))) _ _ _
 have rc0 : ((w1.alloc (.cells #[.bool false,.bool false,.bool false,.bool false,.bool false,.bool false,.bool false,.bool false,.bool false,.bool false,.bool false,.bool false,.bool false,.bool false,.bool false,.bool false,.bool false,.bool false] 91)).setCells w1.heap.size 0 (begD c).cells).rangeAt w.heap.size 0 c.cells:=World.rangeAt_setCells_apart (zae hBA (zae hb1 hq1)) _ _ _ (.inl (by have:=hb1.size;simp at this;omega))
 have hB2 : Below w1.heap.size w1 ((w1.alloc (.cells #[.bool false,.bool false,.bool false,.bool false,.bool false,.bool false,.bool false,.bool false,.bool false,.bool false,.bool false,.bool false,.bool false,.bool false,.bool false,.bool false,.bool false,.bool false] 91)).setCells w1.heap.size 0 (begD c).cells):=below_setCells w1.heap.size (Nat.le_refl _) _ _ hBA
 go_loopw [16] (fun vi wr => ∃ (i : Nat) (s : SiD),i <= ms.length /\ vi = .int .i64 i /\ s.ok /\ Hid (R = mvsB c s (ms.drop i)) /\ wr.rangeAt w1.heap.size 0 s.cells /\ wr.there w1.heap.size 0 18 /\ wr.rangeAt w.heap.size 0 c.cells /\ Below w1.heap.size w1 wr) (fun i _ => ms.length - (intOf i).toNat)
 case atStart => exact ⟨0,begD c,Nat.zero_le _,rfl,HO.out,HR,rs0,rt0,rc0,hB2⟩
 case round =>
  obtain ⟨i,s,hi,rfl,hso,hr,rs,rt,rc,hb⟩:=hrel
  rename World => w5
  have hbw:=thn3 hB1 hb
  by_cases hlt : i < ms.length
  ·obtain ⟨m,hmi⟩ : ∃ m,ms[i]? = some m:=⟨ms[i],List.getElem?_eq_getElem hlt⟩
   have hdrop : ms.drop i = m :: ms.drop (i + 1):=by
    rw [List.drop_eq_getElem_cons hlt];rw [List.getElem?_eq_getElem hlt] at hmi;simp at hmi;rw [hmi]
   obtain ⟨b,o,rfl,d0,d1⟩:=HP.out i m hmi
   have d0:=zaa hbw d0
   have d1:=zaa hbw d1
   have hbl:=zaj d0
   have hst : R = (mvB c s (plI m.1 m.2) && mvsB c (aft s (plI m.1 m.2)) (ms.drop (i + 1))):=by rw [hr.out,hdrop,mvsB]
   obtain ⟨x,y⟩:=m
   simp only at d0 d1 hst
   have hpl:=fun w => zfj x y w
   have hmv1:=fun w => hmv s (plI x y) hso w
   have haf:=fun w => ze4 s (plI x y) hso w
   have hao:=zcs hso (plI x y)
   obtain ⟨s1,s2,s3⟩:=zb2 hso
   obtain ⟨q1,q2,q3⟩:=zb2 hao
   have hx0 := znn i
   have hx1 : (i : Int) < (ms.length : Int):=by omega
   generalize plI x y = p at hpl hmv1 haf hst hao q1 q2 q3
   have HAo:= zab hao
   have HAl:= zab hao.len
   generalize mvB c s p = t at hmv1 hst
   clear hmi hdrop hr hmv hao
   cases t with
   | false =>
    have hR1 : R = false:=hst
    clear hst haf
    subst hR1
    go_wp2_with (first
     | (go_at_call 37;refine (hpl _).mono ?_;rintro e w2 ⟨rfl,hb2⟩;have rs2:=zae hb2 (zae (belS _ _) rs);have rc2:=zae hb2 (zae (belS _ _) rc))
     | (go_at_call 41;refine (hmv1 _).mono ?_;rintro e w3 ⟨rfl,hb3⟩)
     | (refine wpList_load_mid (w:=w2) rfl 50 _ rfl w.heap.size 0 rfl c.cells _ rc2 Try.underlying50 rfl ic ?_)
     | (refine wpList_load_mid (w:=w2) rfl 91 _ rfl w1.heap.size 0 rfl s.cells _ rs2 Try.underlying91 rfl s1 ?_))
    go_ret
    exact ⟨rfl,thn3 (thn3 (thn3 hbw (belS _ _)) hb2) hb3⟩
   | true =>
    have hst' : Hid (R = mvsB c (aft s p) (ms.drop (i + 1))):=hst
    clear hst
    go_wp2_with (first
     | (go_at_call 37;refine (hpl _).mono ?_;rintro e w2 ⟨rfl,hb2⟩;have rs2:=zae hb2 (zae (belS _ _) rs);have rc2:=zae hb2 (zae (belS _ _) rc);have rt2:=zcc hb2 (zcc (belS _ _) rt))
     | (go_at_call 41;refine (hmv1 _).mono ?_;rintro e w3 ⟨rfl,hb3⟩;have rs3:=zae hb3 rs2;have rc3:=zae hb3 rc2;have rt3:=zcc hb3 rt2)
     | (go_at_call 42;refine (haf _).mono ?_;rintro e w4 ⟨rfl,hb4⟩;have rc4:=zae hb4 rc3;have rt4:=zcc hb4 rt3;have rt4' : w4.there w1.heap.size 0 (aft s p).cells.toArray.size:=by (rw [show (aft s p).cells.toArray.size = 18 by simpa using HAl.out];exact rt4))
     | (have hq:=hb4;refine wpList_store_mid (w:=w4) rfl 91 _ _ rfl w1.heap.size 0 (aft s p).cells.toArray rfl rfl rt4' q2 q3 ?_)
     | (have hq:=hb3;(refine wpList_load_mid (w:=w3) rfl 91 _ rfl w1.heap.size 0 rfl s.cells _ rs3 Try.underlying91 rfl s1 ?_))
     | (refine wpList_load_mid (w:=w2) rfl 50 _ rfl w.heap.size 0 rfl c.cells _ rc2 Try.underlying50 rfl ic ?_)
     | (refine wpList_load_mid (w:=w2) rfl 91 _ rfl w1.heap.size 0 rfl s.cells _ rs2 Try.underlying91 rfl s1 ?_))
    go_roundw
    case rel =>
     have h4:=thn3 (thn3 (thn3 (thn3 hb (belS _ _)) hb2) hb3) hb4
     exact ⟨i + 1,aft s p,by omega,by go_num,HAo.out,hst',World.rangeAt_setCells_same _ _ _ _ (by simpa using rt4'),World.there_setCells rt4 _ _ _,World.rangeAt_setCells_apart rc4 _ _ _ (.inl (by have:=hb1.size;simp at this;omega)),below_setCells w1.heap.size (Nat.le_refl _) _ _ h4⟩
    case measure => simp [intOf];omega
  ·have hR1 : R = true:=by rw [hr.out,List.drop_of_length_le (by omega)];rfl
   clear hr HR
   subst hR1
   go_wp2_with fail
   go_ret
   exact ⟨rfl,hbw⟩
end
section
structure TS (α : Type) where
 now : α
 fr : Nat
 to : Nat
section
variable {α : Type}
structure TInv (nx : α -> Nat -> Option α) (L : List (TS α)) (t : Nat) : Prop where
 nd : ∀ (i j : Nat) (a b : TS α),L[i]? = some a -> L[j]? = some b -> a.now = b.now -> i = j
 tm : ∀ (j : Nat) (a : TS α),L[j + 1]? = some a -> 9 * a.fr + a.to < t /\ a.fr < j + 1 /\ a.to < 9 /\ ∃ b,L[a.fr]? = some b /\ nx b.now a.to = some a.now
 mono : ∀ (i j : Nat) (a b : TS α),i < j -> L[i + 1]? = some a -> L[j + 1]? = some b -> 9 * a.fr + a.to < 9 * b.fr + b.to
 ev : ∀ (i : Nat) (a : TS α) (p : Nat) (y : α),L[i]? = some a -> p < 9 -> nx a.now p = some y -> 9 * i + p < t -> ∃ j b,L[j]? = some b /\ b.now = y /\ (j = 0 \/ 9 * b.fr + b.to <= 9 * i + p)
theorem zcm {β : Type} {L : List β} {x a : β} {i : Nat} (h : (L ++ [x])[i]? = some a) : L[i]? = some a \/ (i = L.length /\ a = x):=by
 rcases Nat.lt_trichotomy i L.length with h1 | h1 | h1
 ·rw [List.getElem?_append_left h1] at h;exact .inl h
 ·subst h1;rw [List.getElem?_append_right (Nat.le_refl _)] at h;simp at h;exact .inr ⟨rfl,h.symm⟩
 ·rw [List.getElem?_eq_none (by simp;omega)] at h;cases h
theorem zeu {β : Type} {L : List β} {x a : β} {i : Nat} (h : L[i]? = some a) : (L ++ [x])[i]? = some a:=by
 rw [List.getElem?_append_left (List.getElem?_eq_some_iff.1 h).1];exact h
theorem TInv.skip {nx : α -> Nat -> Option α} {L : List (TS α)} {k p : Nat} {a : TS α} (h : TInv nx L (9 * k + p)) (ha : L[k]? = some a) (hp : p < 9) (hy : nx a.now p = none) : TInv nx L (9 * k + p + 1):=by
 refine ⟨h.nd,fun j a ha => ⟨by have:=(h.tm j a ha).1;omega,(h.tm j a ha).2⟩,h.mono,fun i a' q z hi hq hz ht => ?_⟩
 by_cases he : 9 * i + q < 9 * k + p
 ·exact h.ev i a' q z hi hq hz he
 ·have : i = k /\ q = p:=by omega
  obtain ⟨rfl,rfl⟩:=this
  rw [ha] at hi;cases hi
  rw [hy] at hz;cases hz
end
theorem SiD.eq_iff {s t : SiD} : s = t ↔ s.has = t.has /\ s.had = t.had:=by
 constructor
 ·rintro rfl;exact ⟨rfl,rfl⟩
 ·obtain ⟨a,b⟩:=s;obtain ⟨c,d⟩:=t;rintro ⟨h1,h2⟩;simp only at h1 h2;rw [h1,h2]
def zdw (s t : SiD) : Bool:=decide (s.has = t.has) && decide (s.had = t.had)
theorem zjg {s t : SiD} : zdw s t = true ↔ s = t:=by unfold zdw;rw [Bool.and_eq_true,decide_eq_true_eq,decide_eq_true_eq,SiD.eq_iff]
section
def tins (k : Nat) (L : List (TS SiD)) (p : Nat) (y : SiD) : List (TS SiD) :=
 if L.any (fun t => zdw t.now y) = true then L else L ++ [⟨y,k,p⟩]
def tin (nx : SiD -> Nat -> Option SiD) (k : Nat) (s : SiD) : Nat -> List (TS SiD) -> List (TS SiD)
 | 0,L => L
 | p + 1,L => match nx s p with
  | some y => tins k (tin nx k s p L) p y
  | none => tin nx k s p L
def tou (nx : SiD -> Nat -> Option SiD) (s0 : SiD) : Nat -> List (TS SiD)
 | 0 => [⟨s0,0,0⟩]
 | k + 1 => match (tou nx s0 k)[k]? with
  | some a => tin nx k a.now 9 (tou nx s0 k)
  | none => tou nx s0 k
theorem zo3 {k p i : Nat} {L : List (TS SiD)} {y : SiD} {a : TS SiD} (h : L[i]? = some a) : (tins k L p y)[i]? = some a:=by
 unfold tins;split
 ·exact h
 ·exact zeu h
theorem TInv.step {nx : SiD -> Nat -> Option SiD} {L : List (TS SiD)} {k p : Nat} {a : TS SiD} {y : SiD} (h : TInv nx L (9 * k + p)) (ha : L[k]? = some a) (hp : p < 9) (hy : nx a.now p = some y) : TInv nx (tins k L p y) (9 * k + p + 1):=by
 have hk:=(List.getElem?_eq_some_iff.1 ha).1
 unfold tins
 by_cases hr : L.any (fun t => zdw t.now y) = true
 ·rw [if_pos hr]
  obtain ⟨b,hb,hby⟩:=List.any_eq_true.1 hr
  obtain ⟨j,hj⟩:=List.getElem?_of_mem hb
  refine ⟨h.nd,fun j a ha => ⟨by have:=(h.tm j a ha).1;omega,(h.tm j a ha).2⟩,h.mono,fun i a' q z hi hq hz ht => ?_⟩
  by_cases he : 9 * i + q < 9 * k + p
  ·exact h.ev i a' q z hi hq hz he
  ·have : i = k /\ q = p:=by omega
   obtain ⟨rfl,rfl⟩:=this
   rw [ha] at hi;cases hi
   rw [hy] at hz;cases hz
   refine ⟨j,b,hj,zjg.1 hby,?_⟩
   cases j with
   | zero => exact .inl rfl
   | succ j => exact .inr (by have:=(h.tm j b hj).1;omega)
 ·rw [if_neg hr]
  have hno : ∀ (i : Nat) (b : TS SiD),L[i]? = some b -> b.now ≠ y:=fun i b hi he => hr (List.any_eq_true.2 ⟨b,List.mem_of_getElem? hi,zjg.2 he⟩)
  refine ⟨fun i j a b hi hj he => ?_,fun j b hj => ?_,fun i j b c hij hi hj => ?_,fun i b q z hi hq hz ht => ?_⟩
  ·rcases zcm hi with hi | ⟨rfl,rfl⟩ <;> rcases zcm hj with hj | ⟨rfl,rfl⟩
   ·exact h.nd i j a b hi hj he
   ·exact absurd he (hno i a hi)
   ·exact absurd he.symm (hno j b hj)
   ·rfl
  ·rcases zcm hj with hj | ⟨hl,rfl⟩
   ·obtain ⟨h1,h2,h3,c,h4,h5⟩:=h.tm j b hj
    exact ⟨by omega,h2,h3,c,zeu h4,h5⟩
   ·exact ⟨by simp,by simp;omega,hp,a,zeu ha,hy⟩
  ·rcases zcm hi with hi | ⟨hl,rfl⟩ <;> rcases zcm hj with hj | ⟨hl2,rfl⟩
   ·exact h.mono i j b c hij hi hj
   ·exact (h.tm i b hi).1
   ·have:=(List.getElem?_eq_some_iff.1 hj).1;omega
   ·omega
  ·rcases zcm hi with hi' | ⟨rfl,rfl⟩
   ·clear hi
    have hi:=hi'
    by_cases he : 9 * i + q < 9 * k + p
    ·obtain ⟨j,c,h1,h2,h3⟩:=h.ev i b q z hi hq hz he
     exact ⟨j,c,zeu h1,h2,h3⟩
    ·have : i = k /\ q = p:=by omega
     obtain ⟨rfl,rfl⟩:=this
     rw [ha] at hi;cases hi
     rw [hy] at hz;cases hz
     exact ⟨L.length,⟨y,i,q⟩,by simp,rfl,.inr (by simp)⟩
   ·omega
theorem zc4 {nx : SiD -> Nat -> Option SiD} {k i : Nat} {s : SiD} {L : List (TS SiD)} {a : TS SiD} (h : L[i]? = some a) : ∀ p,(tin nx k s p L)[i]? = some a
 | 0 => h
 | p + 1 => by
  rw [tin];split
  ·exact zo3 (zc4 h p)
  ·exact zc4 h p
theorem TInv.tin {nx : SiD -> Nat -> Option SiD} {L : List (TS SiD)} {k : Nat} {a : TS SiD} (h : TInv nx L (9 * k)) (ha : L[k]? = some a) : ∀ p,p <= 9 -> TInv nx (tin nx k a.now p L) (9 * k + p)
 | 0,_ => h
 | p + 1,hp => by
  have ih:=TInv.tin h ha p (by omega)
  rw [Go.Proofs.Ytkkekopomiehlab.tin]
  split
  ·rename_i y hy;exact ih.step (zc4 ha p) (by omega) hy
  ·rename_i hy;exact ih.skip (zc4 ha p) (by omega) hy
theorem zjp {nx : SiD -> Nat -> Option SiD} {s0 : SiD} {k i : Nat} {a : TS SiD} (h : (tou nx s0 k)[i]? = some a) : (tou nx s0 (k + 1))[i]? = some a:=by
 rw [tou];split
 ·exact zc4 h 9
 ·exact h
theorem zgb (nx : SiD -> Nat -> Option SiD) (s0 : SiD) : ∀ k,(tou nx s0 k)[0]? = some ⟨s0,0,0⟩
 | 0 => rfl
 | k + 1 => zjp (zgb nx s0 k)
theorem zez (nx : SiD -> Nat -> Option SiD) (s0 : SiD) : ∀ k,k <= (tou nx s0 k).length -> TInv nx (tou nx s0 k) (9 * k) /\ ∀ j,j <= k -> j <= (tou nx s0 j).length
 | 0,h => by
  refine ⟨⟨fun i j a b hi hj _ => ?_,fun j a hj => by simp [tou] at hj,fun i j a b _ hi => by simp [tou] at hi,fun i a p y _ _ _ ht => by omega⟩,fun j hj => by omega⟩
  have h1:=(List.getElem?_eq_some_iff.1 hi).1
  have h2:=(List.getElem?_eq_some_iff.1 hj).1
  simp [tou] at h1 h2;omega
 | k + 1,h => by
  have hk : k < (tou nx s0 k).length:=by
   apply Nat.lt_of_not_le;intro hc
   have : (tou nx s0 k)[k]? = none:=List.getElem?_eq_none hc
   rw [tou,this] at h;simp only at h;omega
  obtain ⟨h1,h2⟩:=zez nx s0 k (Nat.le_of_lt hk)
  obtain ⟨a,ha⟩ : ∃ a,(tou nx s0 k)[k]? = some a:=⟨_,List.getElem?_eq_getElem hk⟩
  refine ⟨?_,fun j hj => ?_⟩
  ·have:=h1.tin ha 9 (Nat.le_refl _)
   rw [tou,ha];simpa [Nat.mul_add] using this
  ·rcases Nat.lt_or_ge j (k + 1) with hj' | hj'
   ·exact h2 j (by omega)
   ·have : j = k + 1:=by omega
    subst this;exact h
end
end
section
def nrB (E : List (Nat × Nat × Nat)) (G : Nat -> Bool) : Nat -> Nat -> Bool
 | 0,i => G i
 | r + 1,i => nrB E G r i || E.any fun e => e.1 == i && nrB E G r e.2.1
theorem zfw {E : List (Nat × Nat × Nat)} {G : Nat -> Bool} {r i : Nat} (h : nrB E G (r + 1) i = true) : nrB E G r i = true \/ ∃ j p,(i,j,p) ∈ E /\ nrB E G r j = true:=by
 rw [nrB,Bool.or_eq_true] at h
 rcases h with h | h
 ·exact .inl h
 ·obtain ⟨⟨a,j,p⟩,he,h2⟩:=List.any_eq_true.1 h
  simp only [Bool.and_eq_true,beq_iff_eq] at h2
  obtain ⟨h3,h4⟩:=h2
  subst h3
  exact .inr ⟨j,p,he,h4⟩
theorem zfu {E : List (Nat × Nat × Nat)} {G : Nat -> Bool} {r i j p : Nat} (he : (i,j,p) ∈ E) (h : nrB E G r j = true) : nrB E G (r + 1) i = true:=by
 rw [nrB,Bool.or_eq_true]
 exact .inr (List.any_eq_true.2 ⟨_,he,by simp [h]⟩)
theorem zfx {E : List (Nat × Nat × Nat)} {G : Nat -> Bool} {i : Nat} {r s : Nat} (hrs : r <= s) (h : nrB E G r i = true) : nrB E G s i = true:=by
 induction hrs with
 | refl => exact h
 | step _ ih => rw [nrB,ih];rfl
theorem zg1 {p q : Nat -> Bool} : ∀ {l : List Nat},(∀ x ∈ l,p x = true -> q x = true) -> (∃ x ∈ l,q x = true /\ p x = false) -> l.countP p < l.countP q
 | [],_,h => by obtain ⟨x,hx,_⟩:=h;cases hx
 | a :: l,h1,h2 => by
  have hle : l.countP p <= l.countP q:=List.countP_mono_left fun x hx => h1 x (by simp [hx])
  have ha:=h1 a (by simp)
  rw [List.countP_cons,List.countP_cons]
  obtain ⟨x,hx,hq,hp⟩:=h2
  rcases List.mem_cons.1 hx with rfl | hx
  ·simp [hq,hp];omega
  ·have:=zg1 (fun y hy => h1 y (by simp [hy])) ⟨x,hx,hq,hp⟩
   cases hpa : p a with
   | true => simp [ha hpa];omega
   | false => simp;omega
theorem zfv {E : List (Nat × Nat × Nat)} {G : Nat -> Bool} {n r : Nat} (hE : ∀ e ∈ E,e.2.1 < n) (h : ∀ i,i < n -> nrB E G (r + 1) i = true -> nrB E G r i = true) : ∀ s i,i < n -> nrB E G s i = true -> nrB E G r i = true
 | 0,i,hi,hs => zfx (Nat.zero_le r) hs
 | s + 1,i,hi,hs => by
  rcases zfw hs with hs | ⟨j,p,he,hj⟩
  ·exact zfv hE h s i hi hs
  ·exact h i hi (zfu he (zfv hE h s j (hE _ he) hj))
theorem zh4 {E : List (Nat × Nat × Nat)} {G : Nat -> Bool} {n : Nat} : ∀ r,(∀ q,q < r -> ¬ ∀ i,i < n -> nrB E G (q + 1) i = true -> nrB E G q i = true) -> r <= (List.range n).countP (nrB E G r)
 | 0,_ => Nat.zero_le _
 | r + 1,h => by
  have ih:=zh4 r (fun q hq => h q (by omega))
  have hr:=h r (by omega)
  have hex : ∃ x ∈ List.range n,nrB E G (r + 1) x = true /\ nrB E G r x = false:=by
   apply Classical.byContradiction;intro hc
   refine hr fun i hi h1 => ?_
   cases h2 : nrB E G r i with
   | true => rfl
   | false => exact absurd ⟨i,List.mem_range.2 hi,h1,h2⟩ hc
  have:=zg1 (p:=nrB E G r) (q:=nrB E G (r + 1)) (l:=List.range n) (fun x _ hx => zfx (Nat.le_succ r) hx) hex
  omega
theorem zmj {E : List (Nat × Nat × Nat)} {G : Nat -> Bool} {n : Nat} (hE : ∀ e ∈ E,e.2.1 < n) {s i : Nat} (hi : i < n) (h : nrB E G s i = true) : nrB E G n i = true:=by
 have hex : ∃ q,q < n + 1 /\ ∀ i,i < n -> nrB E G (q + 1) i = true -> nrB E G q i = true:=by
  apply Classical.byContradiction;intro hc
  have:=zh4 (E:=E) (G:=G) (n:=n) (n + 1) fun q hq hs => hc ⟨q,hq,hs⟩
  have h2:=List.countP_le_length (p:=nrB E G (n + 1)) (l:=List.range n)
  rw [List.length_range] at h2;omega
 obtain ⟨q,hq,hs⟩:=hex
 exact zfx (by omega) (zfv hE hs s i hi h)
def zka (E : List (Nat × Nat × Nat)) (G : Nat -> Bool) (n : Nat) (F : List Int) : Prop :=
 F.length = n /\ ∀ (i : Nat) (x : Int),F[i]? = some x -> (0 <= x -> nrB E G x.toNat i = true) /\ ∀ s,nrB E G s i = true -> 0 <= x /\ x <= s
def rlxB (F : List Int) (e : Nat × Nat × Nat) : Bool:=decide (0 <= F.getD e.2.1 0) && (decide (F.getD e.1 0 < 0) || decide (F.getD e.2.1 0 + 1 < F.getD e.1 0))
structure MI (E : List (Nat × Nat × Nat)) (G : Nat -> Bool) (n r k : Nat) (F : List Int) : Prop where
 len : F.length = n
 snd : ∀ (i : Nat) (x : Int),F[i]? = some x -> 0 <= x -> nrB E G x.toNat i = true
 cmp : ∀ (s i : Nat) (x : Int),s <= r -> nrB E G s i = true -> F[i]? = some x -> 0 <= x /\ x <= s
 nxt : ∀ (c : Nat) (e : Nat × Nat × Nat) (s : Nat) (x : Int),c < k -> E[c]? = some e -> s <= r -> nrB E G s e.2.1 = true -> F[e.1]? = some x -> 0 <= x /\ x <= s + 1
theorem zho {F : List Int} {i : Nat} {x d : Int} (h : F[i]? = some x) : F.getD i d = x:=by rw [List.getD,h];rfl
theorem MI.step {E : List (Nat × Nat × Nat)} {G : Nat -> Bool} {n r k : Nat} {F : List Int} {e : Nat × Nat × Nat} (h : MI E G n r k F) (he : E[k]? = some e) (hn : ∀ e ∈ E,e.1 < n /\ e.2.1 < n) :
  (rlxB F e = true -> MI E G n r (k + 1) (F.set e.1 (F.getD e.2.1 0 + 1))) /\ (rlxB F e = false -> MI E G n r (k + 1) F):=by
 obtain ⟨a,b,p⟩:=e
 obtain ⟨ha,hb⟩:=hn _ (List.mem_of_getElem? he)
 obtain ⟨x,hx⟩ : ∃ x,F[a]? = some x:=⟨_,List.getElem?_eq_getElem (by rw [h.len];exact ha)⟩
 obtain ⟨y,hy⟩ : ∃ y,F[b]? = some y:=⟨_,List.getElem?_eq_getElem (by rw [h.len];exact hb)⟩
 have hmem:=List.mem_of_getElem? he
 unfold rlxB
 simp only [zho hx,zho hy]
 refine ⟨fun ht => ?_,fun ht => ?_⟩
 ·simp only [Bool.and_eq_true,Bool.or_eq_true,decide_eq_true_eq] at ht
  obtain ⟨h0,h1⟩:=ht
  have hal : a < F.length:=by rw [h.len];exact ha
  have hset : ∀ (i : Nat) (z : Int),(F.set a (y + 1))[i]? = some z -> (i = a /\ z = y + 1) \/ (i ≠ a /\ F[i]? = some z):=fun i z hz => by
   rw [List.getElem?_set] at hz
   by_cases hia : a = i
   ·subst hia;rw [if_pos rfl,if_pos hal] at hz;exact .inl ⟨rfl,by simpa using hz.symm⟩
   ·rw [if_neg hia] at hz;exact .inr ⟨fun hc => hia hc.symm,hz⟩
  have hnear : nrB E G (y + 1).toNat a = true:=by
   rw [show (y + 1).toNat = y.toNat + 1 by omega]
   exact zfu hmem (h.snd b y hy h0)
  refine ⟨by rw [List.length_set];exact h.len,fun i z hz h0z => ?_,fun s i z hs hn hz => ?_,fun c e' s z hc hce hs hn hz => ?_⟩
  ·rcases hset i z hz with ⟨rfl,rfl⟩ | ⟨_,hz⟩
   ·exact hnear
   ·exact h.snd i z hz h0z
  ·rcases hset i z hz with ⟨rfl,rfl⟩ | ⟨_,hz⟩
   ·have:=h.cmp s i x hs hn hx;omega
   ·exact h.cmp s i z hs hn hz
  ·rcases hset e'.1 z hz with ⟨hea,rfl⟩ | ⟨hea,hz⟩
   ·by_cases hck : c = k
    ·subst hck;rw [he] at hce;cases hce
     have:=h.cmp s b y hs hn hy;omega
    ·rw [<- hea] at hx
     have:=h.nxt c e' s x (by omega) hce hs hn hx;omega
   ·by_cases hck : c = k
    ·subst hck;rw [he] at hce;cases hce;exact absurd rfl hea
    ·exact h.nxt c e' s z (by omega) hce hs hn hz
 ·refine ⟨h.len,h.snd,h.cmp,fun c e' s z hc hce hs hn hz => ?_⟩
  by_cases hck : c = k
  ·subst hck;rw [he] at hce;cases hce
   simp only [Bool.and_eq_false_iff,Bool.or_eq_false_iff,decide_eq_false_iff_not] at ht
   have:=h.cmp s b y hs hn hy
   simp only at hz
   rw [hx] at hz;cases hz
   omega
  ·exact h.nxt c e' s z (by omega) hce hs hn hz
theorem MI.round {E : List (Nat × Nat × Nat)} {G : Nat -> Bool} {n r : Nat} {F : List Int} (h : MI E G n r E.length F) : MI E G n (r + 1) 0 F:=by
 refine ⟨h.len,h.snd,fun s i x hs hn hx => ?_,fun c e s x hc => by omega⟩
 by_cases hs' : s <= r
 ·exact h.cmp s i x hs' hn hx
 ·have : s = r + 1:=by omega
  subst this
  rcases zfw hn with hn | ⟨j,p,he,hj⟩
  ·have:=h.cmp r i x (Nat.le_refl _) hn hx;omega
  ·obtain ⟨c,hc⟩:=List.getElem?_of_mem he
   have:=h.nxt c _ r x (List.getElem?_eq_some_iff.1 hc).1 hc (Nat.le_refl _) hj hx
   omega
theorem MI.far {E : List (Nat × Nat × Nat)} {G : Nat -> Bool} {n : Nat} {F : List Int} (h : MI E G n n 0 F) (hn : ∀ e ∈ E,e.1 < n /\ e.2.1 < n) : zka E G n F:=by
 refine ⟨h.len,fun i x hx => ⟨h.snd i x hx,fun s hs => ?_⟩⟩
 by_cases hsn : s <= n
 ·exact h.cmp s i x hsn hs hx
 ·have hi : i < n:=by rw [<- h.len];exact (List.getElem?_eq_some_iff.1 hx).1
  have:=h.cmp n i x (Nat.le_refl _) (zmj (fun e he => (hn e he).2) hi hs) hx
  omega
theorem MI.start {E : List (Nat × Nat × Nat)} {G : Nat -> Bool} {n : Nat} {F : List Int} (hl : F.length = n) (h : ∀ (i : Nat) (x : Int),F[i]? = some x -> x = if G i = true then 0 else -1) : MI E G n 0 0 F:=by
 refine ⟨hl,fun i x hx h0 => ?_,fun s i x hs hg hx => ?_,fun c e s x hc => by omega⟩
 ·have:=h i x hx
  split at this
  ·subst this;assumption
  ·omega
 ·obtain rfl : s = 0:=by omega
  have:=h i x hx
  rw [nrB] at hg;rw [if_pos hg] at this;omega
end
end Go.Proofs.Ytkkekopomiehlab
