import Derived.Test.YtkkekopomiehlabHParse6
import Derived.BigFrame
set_option linter.unusedVariables false
set_option linter.unusedSimpArgs false
set_option maxHeartbeats 40000000
set_option maxRecDepth 4000
namespace Go.Proofs.Ytkkekopomiehlab
section
open Go.RowKit
structure PinD where
 t : Int
 w : Int
 r : Int
structure SvcD where
 size : Int
 now : Int
 want : Int
 rels : List (List PinD)
structure zad where
 ss : List ByteArray
 ts : List Int
 vs : List SvcD
def StrsAt (w : World) (a : Option Addr) (ss : List ByteArray) : Prop:=∀ i s,ss[i]? = some s -> ∃ b o,a = some ⟨b,o,none⟩ /\ w.cell? ⟨b,o + i,none⟩ = some (.string s)
def IntsAt (w : World) (a : Option Addr) (ns : List Int) : Prop:=∀ i n,ns[i]? = some n -> ∃ b o,a = some ⟨b,o,none⟩ /\ w.cell? ⟨b,o + i,none⟩ = some (.int .i64 n)
def PinsAt (w : World) (a : Option Addr) (ps : List PinD) : Prop:=∀ i p,ps[i]? = some p -> ∃ b o,a = some ⟨b,o,none⟩ /\ w.cell? ⟨b,o + i * 3,none⟩ = some (.int .i64 p.t) /\ w.cell? ⟨b,o + i * 3 + 1,none⟩ = some (.int .i64 p.w) /\ w.cell? ⟨b,o + i * 3 + 2,none⟩ = some (.int .i64 p.r)
def PinSl (w : World) (pa : Option Addr) (pl pc : Nat) (ps : List PinD) : Prop:=pl = ps.length /\ ps.length <= 2000000 /\ pl <= pc /\ pc <= 9000000 /\ PinsAt w pa ps
def zkd (R : World -> Option Addr -> Nat -> Nat -> List PinD -> Prop) (w : World) (a : Option Addr) (rs : List (List PinD)) : Prop:=∀ i ps,rs[i]? = some ps -> ∃ b o pa pl pc,a = some ⟨b,o,none⟩ /\ w.cell? ⟨b,o + i,none⟩ = some (.slice pa pl pc) /\ R w pa pl pc ps
def RelSl (R : World -> Option Addr -> Nat -> Nat -> List PinD -> Prop) (w : World) (ra : Option Addr) (rl rc : Nat) (rs : List (List PinD)) : Prop:=rl = rs.length /\ rs.length <= 2000000 /\ rl <= rc /\ rc <= 9000000 /\ zkd R w ra rs
def SvcsAt (Q : World -> Option Addr -> Nat -> Nat -> List (List PinD) -> Prop) (w : World) (a : Option Addr) (vs : List SvcD) : Prop:=∀ i v,vs[i]? = some v -> ∃ b o ra rl rc,a = some ⟨b,o,none⟩ /\
 w.cell? ⟨b,o + i * 4,none⟩ = some (.int .i64 v.size) /\ w.cell? ⟨b,o + i * 4 + 1,none⟩ = some (.int .i64 v.now) /\ w.cell? ⟨b,o + i * 4 + 2,none⟩ = some (.int .i64 v.want) /\ w.cell? ⟨b,o + i * 4 + 3,none⟩ = some (.slice ra rl rc) /\ Q w ra rl rc v.rels
theorem StrsAt.keep {w w' : World} (hb : Below w.heap.size w w') {a : Option Addr} {ss : List ByteArray} (h : StrsAt w a ss) : StrsAt w' a ss:=fun i s hi => by
 obtain ⟨b,o,h1,h2⟩:=h i s hi
 exact ⟨b,o,h1,zaa hb h2⟩
theorem IntsAt.keep {w w' : World} (hb : Below w.heap.size w w') {a : Option Addr} {ns : List Int} (h : IntsAt w a ns) : IntsAt w' a ns:=fun i s hi => by
 obtain ⟨b,o,h1,h2⟩:=h i s hi
 exact ⟨b,o,h1,zaa hb h2⟩
theorem PinsAt.keep {w w' : World} (hb : Below w.heap.size w w') {a : Option Addr} {ps : List PinD} (h : PinsAt w a ps) : PinsAt w' a ps:=fun i s hi => by
 obtain ⟨b,o,h1,h2,h3,h4⟩:=h i s hi
 exact ⟨b,o,h1,zaa hb h2,zaa hb h3,zaa hb h4⟩
theorem PinSl.keep {w w' : World} (hb : Below w.heap.size w w') {a : Option Addr} {l c : Nat} {ps : List PinD} (h : PinSl w a l c ps) : PinSl w' a l c ps:=⟨h.1,h.2.1,h.2.2.1,h.2.2.2.1,h.2.2.2.2.keep hb⟩
theorem RelSl.keep {R : World -> Option Addr -> Nat -> Nat -> List PinD -> Prop} {w w' : World} (hR : ∀ a l c ps,R w a l c ps -> R w' a l c ps) (hb : Below w.heap.size w w') {a : Option Addr} {l c : Nat} {rs : List (List PinD)} (h : RelSl R w a l c rs) : RelSl R w' a l c rs:=⟨h.1,h.2.1,h.2.2.1,h.2.2.2.1,fun i ps hi => by
 obtain ⟨b,o,pa,pl,pc,h1,h2,h3⟩:=h.2.2.2.2 i ps hi
 exact ⟨b,o,pa,pl,pc,h1,zaa hb h2,hR _ _ _ _ h3⟩⟩
theorem SvcsAt.keep {Q : World -> Option Addr -> Nat -> Nat -> List (List PinD) -> Prop} {w w' : World} (hQ : ∀ a l c rs,Q w a l c rs -> Q w' a l c rs) (hb : Below w.heap.size w w') {a : Option Addr} {vs : List SvcD} (h : SvcsAt Q w a vs) : SvcsAt Q w' a vs:=fun i v hi => by
 obtain ⟨b,o,ra,rl,rc,h1,h2,h3,h4,h5,h6⟩:=h i v hi
 exact ⟨b,o,ra,rl,rc,h1,zaa hb h2,zaa hb h3,zaa hb h4,zaa hb h5,hQ _ _ _ _ h6⟩
theorem PinsAt.take {w : World} {a : Option Addr} {ps : List PinD} (h : PinsAt w a ps) (k : Nat) : PinsAt w a (ps.take k):=fun i p hi => h i p (by
 rw [List.getElem?_take] at hi
 split at hi
 ·exact hi
 ·cases hi)
theorem zkk (F : Nat -> Bool) (x : Nat) : (List.range (x + 1)).all F = ((List.range x).all F && F x):=by rw [List.range_succ,List.all_append];simp
theorem zkl {F : Nat -> Bool} {x n : Nat} (hx : x < n) (h : F x = false) : (List.range n).all F = false:=by
 cases hc : (List.range n).all F with
 | false => rfl
 | true => rw [List.all_eq_true] at hc;rw [hc x (List.mem_range.2 hx)] at h;cases h
def numB (n c : Int) : Bool:=decide (0 <= n) && decide (n < c)
def pinB (ns nt : Nat) (p : PinD) : Bool:=numB p.t nt && ((p.w == -1) || numB p.w ns) && ((p.r == -1) || numB p.r ns)
theorem zbj (n c : Int) (w : World) : Calls Try.prog 54 #[.int .i64 n,.int .i64 c] w fun e w' => e = .returned (.bool (numB n c)) /\ w = w':=by
 unfold numB
 by_cases h0 : 0 <= n
 ·go_enter Try.func54,Try.ntmps54
  go_wp2_with fail
  go_ret
  exact ⟨zav (by simp [h0]),rfl⟩
 ·go_enter Try.func54,Try.ntmps54
  go_wp2_with fail
  go_ret
  exact ⟨zav (by simp;omega),rfl⟩
theorem zkm {ps : List PinD} {x : Nat} {p : PinD} (f : PinD -> Bool) (h : ps[x]? = some p) : (ps.take (x + 1)).any f = ((ps.take x).any f || f p):=by
 rw [List.take_add_one,h,List.any_append];simp
theorem zlx (ps : List PinD) (t : Int) (w : World) (a : Option Addr) (cap : Nat) (hl : ps.length <= 2000000) (hp : PinsAt w a ps) :
  Calls Try.prog 78 #[.slice a ps.length cap,.int .i64 t] w fun e w' => e = .returned (.bool (ps.any fun q => q.t == t)) /\ Below w.heap.size w w':=by
 obtain ⟨R,hR⟩ : ∃ R,R = ps.any fun q => q.t == t:=⟨_,rfl⟩
 rw [<- hR]
 have HR : Hid (R = ps.any fun q => q.t == t):=hR
 clear hR
 go_enter Try.func78,Try.ntmps78
 go_wp2_with fail
 go_loopw [9] (fun vi wr => ∃ i : Nat,i <= ps.length /\ vi = .int .i64 i /\ Hid (((ps.take i).any fun q => q.t == t) = false) /\ Below w.heap.size w wr) (fun i _ => ps.length - (intOf i).toNat)
 case atStart => exact ⟨0,Nat.zero_le _,rfl,(by show _ = _;rfl),Below.refl _ _⟩
 case round =>
  obtain ⟨i,hi,rfl,hn,hb⟩:=hrel
  by_cases hlt : i < ps.length
  ·obtain ⟨p,hpi⟩ : ∃ p,ps[i]? = some p:=⟨ps[i],List.getElem?_eq_getElem hlt⟩
   obtain ⟨b,o,rfl,c0,c1,c2⟩:=hp i p hpi
   have c0:=zaa hb c0
   have c1:=zaa hb c1
   have c2:=zaa hb c2
   have hbl:=zaj c0
   have hsn:=zkm (fun q => q.t == t) hpi
   by_cases ht : p.t = t
   ·have hR1 : R = true:=by
     rw [HR.out,List.any_eq_true]
     exact ⟨p,List.mem_of_getElem? hpi,by simp [ht]⟩
    have ht' : (p.t == t) = true:=by simp [ht]
    clear HR hn hsn hpi ht
    subst hR1
    go_wp2_with fail
    go_ret
    exact ⟨rfl,Below.alloc' hb _⟩
   ·have ht' : (p.t == t) = false:=by simp [ht]
    have hn' : Hid (((ps.take (i + 1)).any fun q => q.t == t) = false):=by show _ = _;rw [hsn,hn.out,ht'];rfl
    clear HR hn hsn hpi ht
    go_wp2_with fail
    go_roundw
    case rel => exact ⟨i + 1,by omega,by go_num,hn',Below.alloc' hb _⟩
    case measure => simp [intOf];omega
  ·have hR1 : R = false:=by rw [HR.out];have:=hn.out;rw [List.take_of_length_le (by omega)] at this;exact this
   clear HR hn
   subst hR1
   go_wp2_with fail
   go_ret
   exact ⟨rfl,hb⟩
theorem znl (ns nt : Nat) (p : PinD) (sa ta va : Option Addr) (sc tc vl vc : Nat) (hns : ns <= 2000000) (hnt : nt <= 2000000) (w : World) :
  Calls Try.prog 77 #[.agg #[.slice sa ns sc,.slice ta nt tc,.slice va vl vc],.agg #[.int .i64 p.t,.int .i64 p.w,.int .i64 p.r]] w fun e w' => e = .returned (.bool (pinB ns nt p)) /\ Below w.heap.size w w':=by
 obtain ⟨x,y,z⟩:=p
 have h1:=fun w => zbj x nt w
 have h2:=fun w => zbj y ns w
 have h3:=fun w => zbj z ns w
 have hr : Hid (pinB ns nt ⟨x,y,z⟩ = (numB x nt && ((y == -1) || numB y ns) && ((z == -1) || numB z ns))):=rfl
 generalize numB x nt = b1 at h1 hr
 generalize numB y ns = b2 at h2 hr
 generalize numB z ns = b3 at h3 hr
 simp only
 have key : ∀ (y0 z0 : Bool),(y == -1) = y0 -> (z == -1) = z0 -> (y0 = true \/ b2 = true \/ b2 = false) -> (z0 = true \/ b3 = true \/ b3 = false) -> (b1 = true \/ b1 = false) -> Hid (pinB ns nt ⟨x,y,z⟩ = (b1 && (y0 || b2) && (z0 || b3))) -> Calls Try.prog 77 #[.agg #[.slice sa ns sc,.slice ta nt tc,.slice va vl vc],.agg #[.int .i64 x,.int .i64 y,.int .i64 z]] w fun e w' => e = .returned (.bool (pinB ns nt ⟨x,y,z⟩)) /\ Below w.heap.size w w':=by
  intro y0 z0 hy hz c1 c2 c3 hr
  cases y0
  ·cases z0
   ·rcases c3 with rfl | rfl <;> rcases c1 with h | rfl | rfl <;> (try cases h) <;> rcases c2 with h | rfl | rfl <;> (try cases h) <;> (
    go_enter Try.func77,Try.ntmps77
    go_wp2_with (first | (go_at_call 54;have hq:=m2;refine (h1 _).mono ?_;rintro e _ ⟨rfl,rfl⟩;have m3 : True:=trivial) | (go_at_call 54;have hq:=m1;refine (h3 _).mono ?_;rintro e _ ⟨rfl,rfl⟩;have m2 : True:=trivial) | (go_at_call 54; refine (h2 _).mono ?_;rintro e _ ⟨rfl,rfl⟩;have m1 : True:=trivial))
    go_ret
    exact ⟨zav (by rw [hr.out];rfl),Below.alloc' (Below.alloc' (Below.refl _ _) _) _⟩)
   ·rcases c3 with rfl | rfl <;> rcases c1 with h | rfl | rfl <;> (try cases h) <;> (
    clear c2
    go_enter Try.func77,Try.ntmps77
    go_wp2_with (first | (go_at_call 54;have hq:=m1;refine (h1 _).mono ?_;rintro e _ ⟨rfl,rfl⟩;have m2 : True:=trivial) | (go_at_call 54; refine (h2 _).mono ?_;rintro e _ ⟨rfl,rfl⟩;have m1 : True:=trivial))
    go_ret
    exact ⟨zav (by rw [hr.out];rfl),Below.alloc' (Below.alloc' (Below.refl _ _) _) _⟩)
  ·cases z0
   ·rcases c3 with rfl | rfl <;> rcases c2 with h | rfl | rfl <;> (try cases h) <;> (
    clear c1
    go_enter Try.func77,Try.ntmps77
    go_wp2_with (first | (go_at_call 54;have hq:=m1;refine (h1 _).mono ?_;rintro e _ ⟨rfl,rfl⟩;have m2 : True:=trivial) | (go_at_call 54; refine (h3 _).mono ?_;rintro e _ ⟨rfl,rfl⟩;have m1 : True:=trivial))
    go_ret
    exact ⟨zav (by rw [hr.out];rfl),Below.alloc' (Below.alloc' (Below.refl _ _) _) _⟩)
   ·rcases c3 with rfl | rfl <;> (
    clear c1
    clear c2
    go_enter Try.func77,Try.ntmps77
    go_wp2_with (first | (go_at_call 54; refine (h1 _).mono ?_;rintro e _ ⟨rfl,rfl⟩;have m1 : True:=trivial))
    go_ret
    exact ⟨zav (by rw [hr.out];rfl),Below.alloc' (Below.alloc' (Below.refl _ _) _) _⟩)
 refine key _ _ rfl rfl ?_ ?_ ?_ hr
 ·cases b2 <;> simp
 ·cases b3 <;> simp
 ·cases b1 <;> simp
end
section
open Go.RowKit
theorem box3 (w : World) (v0 v1 v2 : Value) (t : TypeId) : (w.alloc (.cells #[v0,v1,v2] t)).cell? ⟨w.heap.size,0,none⟩ = some v0 /\ (w.alloc (.cells #[v0,v1,v2] t)).cell? ⟨w.heap.size,1,none⟩ = some v1 /\ (w.alloc (.cells #[v0,v1,v2] t)).cell? ⟨w.heap.size,2,none⟩ = some v2 :=
 ⟨zau rfl rfl,zau rfl rfl,zau rfl rfl⟩
theorem zag {W w1 : World} (hb : Below W.heap.size W w1) {b : Nat} {v0 v1 v2 : Value} (h : W.cell? ⟨b,0,none⟩ = some v0 /\ W.cell? ⟨b,1,none⟩ = some v1 /\ W.cell? ⟨b,2,none⟩ = some v2) : w1.cell? ⟨b,0,none⟩ = some v0 /\ w1.cell? ⟨b,1,none⟩ = some v1 /\ w1.cell? ⟨b,2,none⟩ = some v2 :=
 ⟨zaa hb h.1,zaa hb h.2.1,zaa hb h.2.2⟩
theorem new3 {W : World} (o : Obj) {b : Nat} {v0 v1 v2 : Value} (h : W.cell? ⟨b,0,none⟩ = some v0 /\ W.cell? ⟨b,1,none⟩ = some v1 /\ W.cell? ⟨b,2,none⟩ = some v2) : (W.alloc o).cell? ⟨b,0,none⟩ = some v0 /\ (W.alloc o).cell? ⟨b,1,none⟩ = some v1 /\ (W.alloc o).cell? ⟨b,2,none⟩ = some v2 :=
 ⟨zar _ h.1,zar _ h.2.1,zar _ h.2.2⟩
theorem zfb {A B : Prop} (a : A) (b : B) : A /\ B:=⟨a,b⟩
theorem zdl {W w1 : World} (hb : Below W.heap.size W w1) {b c : Nat} {v0 v1 v2 u0 u1 u2 : Value} (h : (W.cell? ⟨b,0,none⟩ = some v0 /\ W.cell? ⟨b,1,none⟩ = some v1 /\ W.cell? ⟨b,2,none⟩ = some v2) /\ W.cell? ⟨c,0,none⟩ = some u0 /\ W.cell? ⟨c,1,none⟩ = some u1 /\ W.cell? ⟨c,2,none⟩ = some u2) :
  (w1.cell? ⟨b,0,none⟩ = some v0 /\ w1.cell? ⟨b,1,none⟩ = some v1 /\ w1.cell? ⟨b,2,none⟩ = some v2) /\ w1.cell? ⟨c,0,none⟩ = some u0 /\ w1.cell? ⟨c,1,none⟩ = some u1 /\ w1.cell? ⟨c,2,none⟩ = some u2:=⟨zag hb h.1,zag hb h.2⟩
theorem bel1 (w : World) (o : Obj) : Below w.heap.size w (w.alloc o):=(Below.refl _ _).alloc (Nat.le_refl _) _
theorem thn3 {w W w1 : World} (h : Below w.heap.size w W) (k : Below W.heap.size W w1) : Below w.heap.size w w1:=h.trans (k.mono h.size)
def pinK (ns nt : Nat) (ps : List PinD) (k : Nat) : Bool :=
 match ps[k]? with
 | some p => pinB ns nt p && !((ps.take k).any fun q => q.t == p.t)
 | none => true
def zbn (ns nt : Nat) (ps : List PinD) : Bool:=decide (ps.length <= 4) && (List.range ps.length).all (pinK ns nt ps)
theorem zno (ns nt : Nat) (ps : List PinD) (sa ta va : Option Addr) (sc tc vl vc : Nat) (hns : ns <= 2000000) (hnt : nt <= 2000000) (w : World) (a : Option Addr) (l cap : Nat) (hp : PinSl w a l cap ps) :
  Calls Try.prog 64 #[.agg #[.slice sa ns sc,.slice ta nt tc,.slice va vl vc],.slice a l cap] w fun e w' => e = .returned (.bool (zbn ns nt ps)) /\ Below w.heap.size w w':=by
 obtain ⟨rfl,hl,hlc,hc9,hp⟩:=hp
 obtain ⟨R,hR⟩ : ∃ R,R = zbn ns nt ps:=⟨_,rfl⟩
 rw [<- hR]
 by_cases h4 : ps.length <= 4
 ·have HR : Hid (R = (List.range ps.length).all (pinK ns nt ps)):=by show _ = _;rw [hR];unfold zbn;rw [decide_eq_true h4];rfl
  clear hR
  go_enter Try.func64,Try.ntmps64
  go_wp2_with fail
  go_loopw [12] (fun vi wr => ∃ i : Nat,i <= ps.length /\ vi = .int .i64 i /\ Hid ((List.range i).all (pinK ns nt ps) = true) /\ Below (w.alloc (.cells #[.slice sa ns sc,.slice ta nt tc,.slice va vl vc] 26)).heap.size (w.alloc (.cells #[.slice sa ns sc,.slice ta nt tc,.slice va vl vc] 26)) wr) (fun i _ => ps.length - (intOf i).toNat)
  case atStart => exact ⟨0,Nat.zero_le _,rfl,(by show _ = _;rfl),Below.refl _ _⟩
  case round =>
   obtain ⟨i,hi,rfl,hn,hb⟩:=hrel
   have hbw:=thn3 (bel1 w _) hb
   by_cases hlt : i < ps.length
   ·obtain ⟨p,hpi⟩ : ∃ p,ps[i]? = some p:=⟨ps[i],List.getElem?_eq_getElem hlt⟩
    obtain ⟨b,o,rfl,c0,c1,c2⟩:=hp i p hpi
    have c0:=zaa hbw c0
    have c1:=zaa hbw c1
    have c2:=zaa hbw c2
    have hbl:=zaj c0
    obtain ⟨f0,f1,f2⟩:=zag hb (box3 w _ _ _ _)
    have hfl : w.heap.size < wr.heap.size:=zaj f0
    have hx0 := znn i
    have hx1 : (i : Int) <= (cap : Int):=by omega
    have hx2 : (i : Int) <= (ps.length : Int):=by omega
    have hcall:=fun W => znl ns nt p sa ta va sc tc vl vc hns hnt W
    have hfor:=fun (W : World) (h : Below w.heap.size w W) => zlx (ps.take i) p.t W (some ⟨b,o,none⟩) cap (by rw [List.length_take];omega) ((hp.take i).keep h)
    rw [List.length_take,Nat.min_eq_left (by omega)] at hfor
    have hK : pinK ns nt ps i = (pinB ns nt p && !((ps.take i).any fun q => q.t == p.t)):=by unfold pinK;rw [hpi]
    generalize pinB ns nt p = x1 at hcall hK
    generalize ((ps.take i).any fun q => q.t == p.t) = x2 at hfor hK
    have hno : pinK ns nt ps i = false -> R = false:=fun h => by rw [HR.out];exact zkl hlt h
    have hyes : pinK ns nt ps i = true -> Hid ((List.range (i + 1)).all (pinK ns nt ps) = true):=fun h => by show _ = _;rw [zkk,hn.out,h];rfl
    rw [hK] at hno hyes
    clear hK hpi hn HR hp
    obtain ⟨x,y,z⟩:=p
    simp only at c0 c1 c2 hcall hfor
    cases x1 with
    | false =>
     have hR1:=hno rfl
     clear hno hyes hfor
     subst hR1
     have e0:=zfb (new3 (.cells #[.int .i64 x,.int .i64 y,.int .i64 z] 108) ⟨f0,f1,f2⟩) (box3 wr (.int .i64 x) (.int .i64 y) (.int .i64 z) 108)
     go_wp2_with fail
     first | go_region_with (first | (go_at_call 77;refine (hcall _).mono ?_;rintro e w3 ⟨rfl,hb3⟩;have e1:=zdl hb3 e0)) | fail
     all_goals
      go_wp2_with fail
      go_ret
      first | exact ⟨rfl,thn3 (thn3 hbw (bel1 _ _)).drew hb3⟩ | exact ⟨rfl,thn3 (thn3 hbw (bel1 _ _)) hb3⟩
    | true =>
     cases x2 with
     | true =>
      have hR1:=hno rfl
      clear hno hyes
      subst hR1
      have e0:=zfb (new3 (.cells #[.int .i64 x,.int .i64 y,.int .i64 z] 108) ⟨f0,f1,f2⟩) (box3 wr (.int .i64 x) (.int .i64 y) (.int .i64 z) 108)
      go_wp2_with fail
      go_region_held3 (fun w' => (w'.cell? ⟨w.heap.size,0,none⟩ = some (.slice sa ns sc) /\ w'.cell? ⟨w.heap.size,1,none⟩ = some (.slice ta nt tc) /\ w'.cell? ⟨w.heap.size,2,none⟩ = some (.slice va vl vc)) /\ w'.cell? ⟨wr.heap.size,0,none⟩ = some (.int .i64 x) /\ w'.cell? ⟨wr.heap.size,1,none⟩ = some (.int .i64 y) /\ w'.cell? ⟨wr.heap.size,2,none⟩ = some (.int .i64 z)) (go_keep) (first | (go_at_call 77;refine (hcall _).mono ?_;rintro e w3 ⟨rfl,hb3⟩;have e1:=zdl hb3 e0) | (go_at_call 78;refine (hfor _ (by first | exact thn3 (thn3 hbw (bel1 _ _)).drew hb3 | exact thn3 (thn3 hbw (bel1 _ _)) hb3)).mono ?_;rintro e w4 ⟨rfl,hb4⟩;have e2:=zdl hb4 e1))
      go_wp2_with fail
      go_ret
      first | exact ⟨rfl,thn3 (thn3 (thn3 hbw (bel1 _ _)).drew hb3) hb4⟩ | exact ⟨rfl,thn3 (thn3 (thn3 hbw (bel1 _ _)) hb3) hb4⟩
     | false =>
      have hy:=hyes rfl
      clear hno hyes
      have e0:=zfb (new3 (.cells #[.int .i64 x,.int .i64 y,.int .i64 z] 108) ⟨f0,f1,f2⟩) (box3 wr (.int .i64 x) (.int .i64 y) (.int .i64 z) 108)
      go_wp2_with fail
      go_region_held3 (fun w' => (w'.cell? ⟨w.heap.size,0,none⟩ = some (.slice sa ns sc) /\ w'.cell? ⟨w.heap.size,1,none⟩ = some (.slice ta nt tc) /\ w'.cell? ⟨w.heap.size,2,none⟩ = some (.slice va vl vc)) /\ w'.cell? ⟨wr.heap.size,0,none⟩ = some (.int .i64 x) /\ w'.cell? ⟨wr.heap.size,1,none⟩ = some (.int .i64 y) /\ w'.cell? ⟨wr.heap.size,2,none⟩ = some (.int .i64 z)) (go_keep) (first | (go_at_call 77;refine (hcall _).mono ?_;rintro e w3 ⟨rfl,hb3⟩;have e1:=zdl hb3 e0) | (go_at_call 78;refine (hfor _ (by first | exact thn3 (thn3 hbw (bel1 _ _)).drew hb3 | exact thn3 (thn3 hbw (bel1 _ _)) hb3)).mono ?_;rintro e w4 ⟨rfl,hb4⟩;have e2:=zdl hb4 e1))
      go_wp2_with fail
      go_roundw
      case rel => first | exact ⟨i + 1,by omega,by go_num,hy,thn3 (thn3 (thn3 hb (bel1 _ _)).drew hb3) hb4⟩ | exact ⟨i + 1,by omega,by go_num,hy,thn3 (thn3 (thn3 hb (bel1 _ _)) hb3) hb4⟩
      case measure => simp [intOf];omega
   ·have hR1 : R = true:=by rw [HR.out,<- hn.out,show i = ps.length by omega]
    clear HR hn
    subst hR1
    go_wp2_with fail
    go_ret
    exact ⟨rfl,hbw⟩
 ·have hR1 : R = false:=by rw [hR];unfold zbn;rw [decide_eq_false h4];rfl
  clear hR
  subst hR1
  go_enter Try.func64,Try.ntmps64
  go_wp2_with fail
  go_ret
  exact ⟨rfl,bel1 _ _⟩
end
section
open Go.RowKit
def tabC (T : List (List Bool)) : List Value:=T.flatten.map Value.bool
def tabOk (T : List (List Bool)) : Prop:=T.length = 8 /\ ∀ r ∈ T,r.length = 8
theorem zfk : ∀ (l : List (List Bool)) (i j : Nat) (r : List Bool),(∀ r ∈ l,r.length = 8) -> l[i]? = some r -> j < 8 -> l.flatten[i * 8 + j]? = r[j]?
 | [],i,j,r,h,hi,hj => by simp at hi
 | q :: l,0,j,r,h,hi,hj => by
  simp at hi;subst hi
  rw [List.flatten_cons,List.getElem?_append_left (by rw [h q (by simp)];omega),show 0 * 8 + j = j by omega]
 | q :: l,i + 1,j,r,h,hi,hj => by
  rw [List.getElem?_cons_succ] at hi
  have hq:=h q (by simp)
  rw [List.flatten_cons,List.getElem?_append_right (by rw [hq];omega),hq,show (i + 1) * 8 + j - 8 = i * 8 + j by omega]
  exact zfk l i j r (fun r hr => h r (by simp [hr])) hi hj
def tabG (T : List (List Bool)) (i j : Nat) : Bool:=(T.getD i []).getD j false
def crB (T : List (List Bool)) (x y : Int) : Bool:=((x == -1) || (y == -1)) || (numB x 8 && numB y 8 && tabG T x.toNat y.toNat)
theorem zgx (T : List (List Bool)) (hT : tabOk T) (x y : Int) (w : World) : Calls Try.prog 65 #[.agg (tabC T).toArray,.int .i64 x,.int .i64 y] w fun e W => e = .returned (.bool (crB T x y)) /\ Below w.heap.size w W:=by
 have hq:=za0 (zan w (.cells (tabC T).toArray 86))
 have n1:=fun w => zbj x 8 w
 have n2:=fun w => zbj y 8 w
 obtain ⟨R,hR⟩ : ∃ R,R = crB T x y:=⟨_,rfl⟩
 rw [<- hR]
 unfold crB at hR
 have hB:=belS w (.cells (tabC T).toArray 86)
 by_cases hx : x = -1
 ·subst hx
  have hR1 : R = true:=by rw [hR];simp
  clear hR hq n1 n2
  subst hR1
  go_enter Try.func65,Try.ntmps65
  go_wp2_with fail
  go_ret
  exact ⟨rfl,hB⟩
 by_cases hy : y = -1
 ·subst hy
  have hx' : (x == -1) = false:=by simp [hx]
  have hR1 : R = true:=by rw [hR];simp
  clear hR hq n1 n2 hx
  subst hR1
  go_enter Try.func65,Try.ntmps65
  go_wp2_with fail
  go_ret
  exact ⟨rfl,hB⟩
 have hx' : (x == -1) = false:=by simp [hx]
 have hy' : (y == -1) = false:=by simp [hy]
 rw [hx',hy'] at hR
 clear hx hy
 by_cases h1 : 0 <= x /\ x < 8
 ·have e1 : numB x 8 = true:=by unfold numB;simp;omega
  rw [e1] at n1 hR
  by_cases h2 : 0 <= y /\ y < 8
  ·have e2 : numB y 8 = true:=by unfold numB;simp;omega
   rw [e2] at n2 hR
   obtain ⟨i,rfl⟩ : ∃ n : Nat,x = n:=⟨x.toNat,by omega⟩
   obtain ⟨j,rfl⟩ : ∃ n : Nat,y = n:=⟨y.toNat,by omega⟩
   rw [Int.toNat_natCast,Int.toNat_natCast] at hR
   obtain ⟨r,hr⟩ : ∃ r,T[i]? = some r:=⟨T[i]'(by rw [hT.1];omega),List.getElem?_eq_getElem (by rw [hT.1];omega)⟩
   have lr:=hT.2 r (List.mem_of_getElem? hr)
   obtain ⟨z,hz⟩ : ∃ z,r[j]? = some z:=⟨r[j]'(by omega),List.getElem?_eq_getElem (by omega)⟩
   have hc:=hq (i * 8 + j) (.bool z) (by rw [tabC,List.getElem?_map,zfk _ _ _ _ hT.2 hr (by omega),hz];rfl)
   rw [Nat.zero_add] at hc
   have hR1 : R = z:=by rw [hR];simp [tabG,List.getD,hr,hz]
   have a1 : (i : Int) < 8:=h1.2
   have a2 : (j : Int) < 8:=h2.2
   have a3 := znn i
   have a4 := znn j
   clear hR hq hr hz h1 h2 e1 e2 hT lr
   subst hR1
   go_enter Try.func65,Try.ntmps65
   go_wp2_with (first | (go_at_call 54;have hq:=m1;refine (n2 _).mono ?_;rintro e _ ⟨rfl,rfl⟩;have m2 : True:=trivial) | (go_at_call 54;refine (n1 _).mono ?_;rintro e _ ⟨rfl,rfl⟩;have m1 : True:=trivial))
   go_ret
   exact ⟨rfl,hB⟩
  ·have e2 : numB y 8 = false:=by unfold numB;simp;omega
   rw [e2] at n2 hR
   have hR1 : R = false:=by rw [hR];simp
   clear hR hq h1 h2 e1 e2
   subst hR1
   go_enter Try.func65,Try.ntmps65
   go_wp2_with (first | (go_at_call 54;have hq:=m1;refine (n2 _).mono ?_;rintro e _ ⟨rfl,rfl⟩;have m2 : True:=trivial) | (go_at_call 54;refine (n1 _).mono ?_;rintro e _ ⟨rfl,rfl⟩;have m1 : True:=trivial))
   go_ret
   exact ⟨rfl,hB⟩
 ·have e1 : numB x 8 = false:=by unfold numB;simp;omega
  rw [e1] at n1 hR
  have hR1 : R = false:=by rw [hR];simp
  clear hR hq h1 e1
  subst hR1
  go_enter Try.func65,Try.ntmps65
  go_wp2_with (go_at_call 54;refine (n1 _).mono ?_;rintro e _ ⟨rfl,rfl⟩)
  go_ret
  exact ⟨rfl,hB⟩
theorem Try.infoTab : (Try.prog.info? 86).map (·.size) = some 64:=by kernel_rfl
theorem zfl : ∀ (l : List (List Bool)),(∀ r ∈ l,r.length = 8) -> l.flatten.length = l.length * 8
 | [],_ => rfl
 | q :: l,h => by rw [List.flatten_cons,List.length_append,h q (by simp),zfl l (fun r hr => h r (by simp [hr])),List.length_cons];omega
theorem tabOk.len {T : List (List Bool)} (h : tabOk T) : (tabC T).length = 64:=by rw [tabC,List.length_map,zfl T h.2,h.1]
theorem tabOk.info {T : List (List Bool)} (h : tabOk T) : (Try.prog.info? 86).map (·.size) = some (tabC T).length:=by rw [h.len];exact Try.infoTab
theorem zbv {P : Program} {ops : Array Oper} {rest : List Oper} {op : Oper} {a : Act} {w : World} {Q : Exit -> Act -> World -> Prop} (hw : Region.wanted op (yielded ops a.tmps) = true) (ty : TypeId) (x : Operand) (ho : op.op = .load ty x)
  (b o : Nat) (hx : a.eval x = .pointer (some ⟨b,o,none⟩)) (cs : List Value) (d : TypeDesc) (hc : w.rangeAt b o cs)
  (hu : P.underlying ty = some d) (hd : d.isRow = true) (hi : (P.info? ty).map (·.size) = some cs.length)
  (h : wpList P ops Q rest (a.put op.dst (.agg cs.toArray)) w) : wpList P ops Q (op :: rest) a w :=
 Go.BigFrame.wpList_want hw fun K hK => wp_load_mid ty x ho b o hx cs d hc hu hd hi (hK _ _ h)
def gaB (T : List (List Bool)) (p q : PinD) : Bool:=crB T p.w q.r && crB T q.w p.r
theorem zls (T : List (List Bool)) (hT : tabOk T) (p q : PinD) (w : World) : Calls Try.prog 55 #[.agg (tabC T).toArray,.agg #[.int .i64 p.t,.int .i64 p.w,.int .i64 p.r],.agg #[.int .i64 q.t,.int .i64 q.w,.int .i64 q.r]] w fun e W => e = .returned (.bool (gaB T p q)) /\ Below w.heap.size w W:=by
 obtain ⟨pt,pw,pr⟩:=p
 obtain ⟨qt,qw,qr⟩:=q
 have c1:=fun w => zgx T hT pw qr w
 have c2:=fun w => zgx T hT qw pr w
 have hR : Hid (gaB T ⟨pt,pw,pr⟩ ⟨qt,qw,qr⟩ = (crB T pw qr && crB T qw pr)):=rfl
 obtain ⟨R,hRR⟩ : ∃ R,R = gaB T ⟨pt,pw,pr⟩ ⟨qt,qw,qr⟩:=⟨_,rfl⟩
 rw [<- hRR] at hR ⊢
 generalize crB T pw qr = x at c1 hR
 generalize crB T qw pr = y at c2 hR
 clear hRR
 simp only
 have it:=hT.info
 have hBB : Below w.heap.size w (((w.alloc (.cells (tabC T).toArray 86)).alloc (.cells #[.int .i64 pt,.int .i64 pw,.int .i64 pr] 108)).alloc (.cells #[.int .i64 qt,.int .i64 qw,.int .i64 qr] 108)):=thn3 (thn3 (belS w _) (belS _ _)) (belS _ _)
 have rt:=zae (belS _ (.cells #[.int .i64 qt,.int .i64 qw,.int .i64 qr] 108)) (zae (belS _ (.cells #[.int .i64 pt,.int .i64 pw,.int .i64 pr] 108)) (za0 (zan w (.cells (tabC T).toArray 86))))
 have hz1 : (w.alloc (.cells (tabC T).toArray 86)).heap.size = w.heap.size + 1:=by simp
 have pb:=new3 (.cells #[.int .i64 qt,.int .i64 qw,.int .i64 qr] 108) (box3 (w.alloc (.cells (tabC T).toArray 86)) (.int .i64 pt) (.int .i64 pw) (.int .i64 pr) 108)
 rw [hz1] at pb
 have qb:=box3 ((w.alloc (.cells (tabC T).toArray 86)).alloc (.cells #[.int .i64 pt,.int .i64 pw,.int .i64 pr] 108)) (.int .i64 qt) (.int .i64 qw) (.int .i64 qr) 108
 rw [show ((w.alloc (.cells (tabC T).toArray 86)).alloc (.cells #[.int .i64 pt,.int .i64 pw,.int .i64 pr] 108)).heap.size = w.heap.size + 1 + 1 by simp] at qb
 clear hT hz1
 cases x with
 | false =>
  have hR1 : R = false:=hR.out
  clear hR
  subst hR1
  go_enter Try.func55,Try.ntmps55
  go_wp2_with (first
   | (refine wpList_load_mid (w:=((w.alloc (.cells (tabC T).toArray 86)).alloc (.cells #[.int .i64 pt,.int .i64 pw,.int .i64 pr] 108)).alloc (.cells #[.int .i64 qt,.int .i64 qw,.int .i64 qr] 108)) rfl 86 _ rfl w.heap.size 0 rfl (tabC T) _ rt Try.underlying86 rfl it ?_)
   | (go_at_call 65;refine (c1 _).mono ?_;rintro e w1 ⟨rfl,hb1⟩))
  go_ret
  exact ⟨rfl,thn3 hBB hb1⟩
 | true =>
  have hR1 : R = y:=hR.out
  clear hR
  subst hR1
  go_enter Try.func55,Try.ntmps55
  go_wp2_with (first
   | (have hq:=hb1;(refine zbv (w:=w1) (by rfl) 86 _ rfl w.heap.size 0 rfl (tabC T) _ rt1 Try.underlying86 rfl it ?_))
   | (refine wpList_load_mid (w:=((w.alloc (.cells (tabC T).toArray 86)).alloc (.cells #[.int .i64 pt,.int .i64 pw,.int .i64 pr] 108)).alloc (.cells #[.int .i64 qt,.int .i64 qw,.int .i64 qr] 108)) rfl 86 _ rfl w.heap.size 0 rfl (tabC T) _ rt Try.underlying86 rfl it ?_)
   | (go_at_call 65;have hq:=hb1;refine (c2 _).mono ?_;rintro e w2 ⟨rfl,hb2⟩)
   | (go_at_call 65;refine (c1 _).mono ?_;rintro e w1 ⟨rfl,hb1⟩;have rt1:=zae hb1 rt;have pb1:=zag hb1 pb;have qb1:=zag hb1 qb))
  go_ret
  exact ⟨rfl,thn3 (thn3 hBB hb1) hb2⟩
end
end Go.Proofs.Ytkkekopomiehlab
