import Derived.Test.YtkkekopomiehlabHSf4
set_option linter.unusedVariables false
set_option linter.unusedSimpArgs false
set_option maxHeartbeats 40000000
set_option maxRecDepth 4000
namespace Go.Proofs.Ytkkekopomiehlab
section
open Go.RowKit Go.Lib
def pinC (ps : List PinD) : List Value:=ps.flatMap fun p => [.int .i64 p.t,.int .i64 p.w,.int .i64 p.r]
theorem zis : ∀ ps : List PinD,(pinC ps).length = ps.length * 3
 | [] => rfl
 | p :: ps => by rw [pinC,List.flatMap_cons,List.length_append];have:=zis ps;rw [pinC] at this;rw [this,List.length_cons];simp;omega
theorem zdq : ∀ (ps : List PinD) (j : Nat),(pinC ps)[j]? = match ps[j / 3]? with | some p => some (if j % 3 = 0 then .int .i64 p.t else if j % 3 = 1 then .int .i64 p.w else .int .i64 p.r) | none => none
 | [],j => by simp [pinC]
 | p :: ps,j => by
  rw [pinC,List.flatMap_cons]
  by_cases h : j < 3
  ·rw [List.getElem?_append_left (by simpa using h),show j / 3 = 0 by omega]
   obtain rfl | rfl | rfl : j = 0 \/ j = 1 \/ j = 2:=by omega
   all_goals rfl
  ·have:=zdq ps (j - 3)
   rw [pinC] at this
   rw [List.getElem?_append_right (by simp;omega),show j - [Value.int .i64 p.t,.int .i64 p.w,.int .i64 p.r].length = j - 3 from rfl,this,show j / 3 = (j - 3) / 3 + 1 by omega,List.getElem?_cons_succ,show (j - 3) % 3 = j % 3 by omega]
theorem PinsAt.cells {w : World} {a : Option Addr} {ps : List PinD} (h : PinsAt w a ps) : zd1 w a (pinC ps):=fun j v hj => by
 rw [zdq] at hj
 cases hp : ps[j / 3]? with
 | none => rw [hp] at hj;cases hj
 | some p =>
  rw [hp] at hj
  simp only [Option.some.injEq] at hj
  obtain ⟨b,o,h1,h2,h3,h4⟩:=h _ p hp
  refine ⟨b,o,h1,?_⟩
  rw [<- hj]
  obtain h0 | h0 | h0 : j % 3 = 0 \/ j % 3 = 1 \/ j % 3 = 2:=by omega
  ·rw [if_pos h0,show o + j = o + j / 3 * 3 by omega];exact h2
  ·rw [if_neg (by omega),if_pos h0,show o + j = o + j / 3 * 3 + 1 by omega];exact h3
  ·rw [if_neg (by omega),if_neg (by omega),show o + j = o + j / 3 * 3 + 2 by omega];exact h4
end
section
open Go.RowKit
theorem RowIs.setOther {w : World} {g : Nat} {t : TypeId} {cs : List Value} (h : RowIs w g t cs) {p : Addr} (hp : p.block ≠ g) (u : Value) : RowIs (w.setCell p u) g t cs:=by
 unfold RowIs at h ⊢
 rw [<- h]
 exact heap_setCell_other w p g u hp.symm
def zjj : List Value:=[.int .i64 (-7),.int .i64 (-7),.int .i64 (-7)]
def LPin (w : World) (B : Nat) (v : Value) (ps : List PinD) : Prop:=∃ g,v = .slice (some ⟨g,0,none⟩) ps.length (ps.length + 1) /\ B <= g /\ RowIs w g 108 (pinC ps ++ zjj)
theorem LPin.keep {w w' : World} (hb : Below w.heap.size w w') {B : Nat} {v : Value} {ps : List PinD} (h : LPin w B v ps) : LPin w' B v ps:=by
 obtain ⟨g,h1,h2,h3⟩:=h
 exact ⟨g,h1,h2,h3.keep hb⟩
theorem LPin.setOther {w : World} {B : Nat} {v : Value} {ps : List PinD} (h : LPin w B v ps) {p : Addr} (hp : p.block < B) (u : Value) : LPin (w.setCell p u) B v ps:=by
 obtain ⟨g,h1,h2,h3⟩:=h
 exact ⟨g,h1,h2,h3.setOther (by omega) u⟩
end
section
open Go.RowKit
open Go.Lib (below_setCells)
def curB (s : SiD) (p i : Nat) : List Bool:=(List.range 9).map fun k => if k < i /\ k / 3 = p / 3 then false else s.has.getD k false
theorem za5 (s : SiD) (p i : Nat) : (curB s p i).length = 9:=by simp [curB]
theorem zdj (s : SiD) (p i k : Nat) (hk : k < 9) : (curB s p i)[k]? = some (if k < i /\ k / 3 = p / 3 then false else s.has.getD k false):=by
 rw [curB,List.getElem?_map,List.getElem?_range hk];rfl
theorem zlc {s : SiD} (h : s.ok) (p : Nat) : curB s p 0 = s.has:=by
 apply List.ext_getElem?
 intro k
 by_cases hk : k < 9
 ·rw [zdj s p 0 k hk,if_neg (by omega)]
  simp [List.getD,List.getElem?_eq_getElem (show k < s.has.length by rw [h.1];exact hk)]
 ·rw [List.getElem?_eq_none (by rw [za5];omega),List.getElem?_eq_none (by rw [h.1];omega)]
theorem zlb {s : SiD} {p i : Nat} (hi : i < 9) (he : i / 3 = p / 3) : curB s p (i + 1) = (curB s p i).set i false:=by
 apply List.ext_getElem?
 intro k
 by_cases hk : k < 9
 ·rw [zdj s p (i + 1) k hk,List.getElem?_set]
  by_cases hki : i = k
  ·subst hki
   rw [if_pos (show i < i + 1 /\ i / 3 = p / 3 from ⟨by omega,he⟩),if_pos rfl,if_pos (by rw [za5];exact hi)]
  ·rw [if_neg hki,zdj s p i k hk]
   by_cases hc : k < i /\ k / 3 = p / 3
   ·rw [if_pos hc,if_pos ⟨by omega,hc.2⟩]
   ·rw [if_neg hc,if_neg (by omega)]
 ·rw [List.getElem?_eq_none (by rw [za5];omega),List.getElem?_eq_none (by rw [List.length_set,za5];omega)]
theorem zla {s : SiD} {p i : Nat} (hi : i < 9) (he : i / 3 ≠ p / 3) : curB s p (i + 1) = curB s p i:=by
 apply List.ext_getElem?
 intro k
 by_cases hk : k < 9
 ·rw [zdj s p (i + 1) k hk,zdj s p i k hk]
  by_cases hki : i = k
  ·subst hki;rw [if_neg (by omega),if_neg (by omega)]
  ·by_cases hc : k < i /\ k / 3 = p / 3
   ·rw [if_pos hc,if_pos ⟨by omega,hc.2⟩]
   ·rw [if_neg hc,if_neg (by omega)]
 ·rw [List.getElem?_eq_none (by rw [za5];omega),List.getElem?_eq_none (by rw [za5];omega)]
theorem zk9 (s : SiD) (p : Nat) : curB s p 9 = (List.range 9).map fun i => if i / 3 = p / 3 then false else s.has.getD i false:=by
 unfold curB
 refine List.map_congr_left fun k hk => ?_
 have:=List.mem_range.1 hk
 by_cases h : k / 3 = p / 3
 ·rw [if_pos ⟨this,h⟩,if_pos h]
 ·rw [if_neg (by omega),if_neg h]
theorem zjd {a b : List Bool} {i : Nat} {x : Bool} (h : i < a.length) : ((a ++ b).map Value.bool).set i (.bool x) = ((a.set i x) ++ b).map Value.bool:=by
 rw [<- List.map_set,List.set_append_left _ _ h]
theorem zn8 {a b : List Bool} {i : Nat} {x : Bool} (h : a.length = 9) : ((a ++ b).map Value.bool).set (9 + i) (.bool x) = (a ++ b.set i x).map Value.bool:=by
 rw [<- List.map_set,List.set_append_right _ _ (by omega),h,show 9 + i - 9 = i by omega]
theorem zlp (x y : Int) (W : World) : (Instr.field 45 (.agg #[.int .i64 x,.int .i64 y]) 0).run Try.prog W = .ok (.int .i64 x) W:=by kernel_rfl
theorem zkh (s : SiD) (p : Nat) (hp : p < 9) (hs : s.ok) (w : World) : Calls Try.prog 42 #[.agg s.cells.toArray,.int .i64 p] w fun e W => e = .returned (.agg (aftD s p).cells.toArray) /\ Below w.heap.size w W:=by
 have hnum:=fun w => zbj p 9 w
 rw [show numB (p : Int) 9 = true by unfold numB;simp;omega] at hnum
 have hmv:=fun w => zfr p hp w
 have hrow0 : RowIs ((w.alloc (.cells s.cells.toArray 91)).alloc (.cells #[.bool false,.bool false,.bool false,.bool false,.bool false,.bool false,.bool false,.bool false,.bool false,.bool false,.bool false,.bool false,.bool false,.bool false,.bool false,.bool false,.bool false,.bool false] 91)) w.heap.size 91 ((curB s p 0 ++ s.had).map Value.bool):=by
  rw [zlc hs]
  exact RowIs.keep (w:=w.alloc (.cells s.cells.toArray 91)) (zan w _) (belS _ _)
 have hres0 : RowIs ((w.alloc (.cells s.cells.toArray 91)).alloc (.cells #[.bool false,.bool false,.bool false,.bool false,.bool false,.bool false,.bool false,.bool false,.bool false,.bool false,.bool false,.bool false,.bool false,.bool false,.bool false,.bool false,.bool false,.bool false] 91)) (w.heap.size + 1) 91 ([.bool false,.bool false,.bool false,.bool false,.bool false,.bool false,.bool false,.bool false,.bool false,.bool false,.bool false,.bool false,.bool false,.bool false,.bool false,.bool false,.bool false,.bool false]):=by
  have:=zan (w.alloc (.cells s.cells.toArray 91)) (.cells #[.bool false,.bool false,.bool false,.bool false,.bool false,.bool false,.bool false,.bool false,.bool false,.bool false,.bool false,.bool false,.bool false,.bool false,.bool false,.bool false,.bool false,.bool false] 91)
  rw [show (w.alloc (.cells s.cells.toArray 91)).heap.size = w.heap.size + 1 by simp] at this
  exact this
 have hB0:=(belS w (.cells s.cells.toArray 91)).alloc (by simp) (.cells #[.bool false,.bool false,.bool false,.bool false,.bool false,.bool false,.bool false,.bool false,.bool false,.bool false,.bool false,.bool false,.bool false,.bool false,.bool false,.bool false,.bool false,.bool false] 91)
 have HS:= zab hs
 have hn0 := znn p
 have hn9 : (p : Int) < 9:=by omega
 have hq3 : p / 3 < 3:=by omega
 obtain ⟨q,hq⟩ : ∃ q,q = p / 3:=⟨_,rfl⟩
 rw [<- hq] at hmv
 have HQ:= zab hq
 clear hs hq
 have hfm:=zlp
 generalize p % 3 = r0 at hmv
 go_enter Try.func42,Try.ntmps42
 go_wp2_with (first
  | (go_at_call 54;refine (hnum _).mono ?_;rintro e _ ⟨rfl,rfl⟩)
  | (go_at_call 56;refine (hmv _).mono ?_;rintro e w1 ⟨rfl,hb1⟩))
 go_loopw [6] (fun vi wr => ∃ i : Nat,i <= 9 /\ vi = .int .i64 i /\ RowIs wr w.heap.size 91 ((curB s p i ++ s.had).map Value.bool) /\ RowIs wr (w.heap.size + 1) 91 ([.bool false,.bool false,.bool false,.bool false,.bool false,.bool false,.bool false,.bool false,.bool false,.bool false,.bool false,.bool false,.bool false,.bool false,.bool false,.bool false,.bool false,.bool false]) /\ Below w.heap.size w wr) (fun i _ => 9 - (intOf i).toNat)
 case atStart => exact ⟨0,by omega,rfl,hrow0.keep hb1,hres0.keep hb1,thn3 hB0 hb1⟩
 case round =>
  obtain ⟨i,hi,rfl,hrow,hres,hb⟩:=hrel
  rename World => w5
  have hgl:=hrow.lt
  by_cases hlt : i < 9
  ·have hmi:=fun w => zfr i hlt w
   have hx0 := znn i
   have hx9 : (i : Int) < 9:=by omega
   by_cases he : i / 3 = p / 3
   ·have he' : (((i / 3 : Nat) : Int) == (q : Int)) = true:=by rw [HQ.out];simp;omega
    have hc:=zlb (s:=s) hlt he
    generalize i / 3 = a at hmi he'
    generalize i % 3 = b at hmi
    have hcell : w5.cell? ⟨w.heap.size,i,none⟩ = some (.bool ((curB s p i)[i]'(by rw [za5];exact hlt))):=hrow.cell (by rw [List.getElem?_map,List.getElem?_append_left (by rw [za5];exact hlt),List.getElem?_eq_getElem (by rw [za5];exact hlt)];rfl)
    have hfz:=hrow.frozen i
    have HRow:= zab hrow
    have HRes:= zab hres
    have HC:= zab hc
    clear hrow hres hc he hrow0 hres0
    go_wp2_with (go_at_call 56;refine (hmi _).mono ?_;rintro e w2 ⟨rfl,hb2⟩;have k1:=zaa hb2 hcell;have k2 : w2.frozen? ⟨w.heap.size,i,none⟩ = false:=(hb2.frozen (p:=⟨w.heap.size,i,none⟩) (by simpa using hgl)).trans hfz)
    go_roundw
    case rel =>
     refine ⟨i + 1,by omega,by go_num,?_,(HRes.out.keep hb2).setOther (by show w.heap.size ≠ w.heap.size + 1;omega) _,(thn3 hb hb2).setCell (Nat.le_refl _) _⟩
     have:=(HRow.out.keep hb2).set i (.bool false)
     rw [zjd (by rw [za5];exact hlt),<- HC.out] at this
     exact this
    case measure => simp [intOf];omega
   ·have he' : (((i / 3 : Nat) : Int) == (q : Int)) = false:=by rw [HQ.out];simp;omega
    have hc:=zla (s:=s) hlt he
    generalize i / 3 = a at hmi he'
    generalize i % 3 = b at hmi
    have HRow:= zab hrow
    have HRes:= zab hres
    have HC:= zab hc
    clear hrow hres hc he hrow0 hres0
    go_wp2_with (go_at_call 56;refine (hmi _).mono ?_;rintro e w2 ⟨rfl,hb2⟩)
    go_roundw
    case rel => exact ⟨i + 1,by omega,by go_num,by rw [HC.out];exact HRow.out.keep hb2,HRes.out.keep hb2,thn3 hb hb2⟩
    case measure => simp [intOf];omega
  ·have hie : i = 9:=by omega
   subst hie
   have hs:=HS.out
   have hcA : w5.cell? ⟨w.heap.size,p,none⟩ = some (.bool ((curB s p 9)[p]'(by rw [za5];exact hp))):=hrow.cell (by rw [List.getElem?_map,List.getElem?_append_left (by rw [za5];exact hp),List.getElem?_eq_getElem (by rw [za5];exact hp)];rfl)
   have hcB : w5.cell? ⟨w.heap.size,9 + p,none⟩ = some (.bool (s.had[p]'(by rw [hs.2];exact hp))):=hrow.cell (by rw [List.getElem?_map,List.getElem?_append_right (by rw [za5];omega),za5,show 9 + p - 9 = p by omega,List.getElem?_eq_getElem (by rw [hs.2];exact hp)];rfl)
   have hfA:=hrow.frozen p
   have hfB:=hrow.frozen (9 + p)
   have row6 : RowIs ((w5.setCell ⟨w.heap.size,p,none⟩ (.bool true)).setCell ⟨w.heap.size,9 + p,none⟩ (.bool true)) w.heap.size 91 (aftD s p).cells:=by
    have h1:=(hrow.set p (.bool true)).set (9 + p) (.bool true)
    rw [zjd (by rw [za5];exact hp),zn8 (by rw [List.length_set,za5])] at h1
    rw [zk9] at h1
    exact h1
   have res6 : RowIs ((w5.setCell ⟨w.heap.size,p,none⟩ (.bool true)).setCell ⟨w.heap.size,9 + p,none⟩ (.bool true)) (w.heap.size + 1) 91 ([.bool false,.bool false,.bool false,.bool false,.bool false,.bool false,.bool false,.bool false,.bool false,.bool false,.bool false,.bool false,.bool false,.bool false,.bool false,.bool false,.bool false,.bool false]):=(hres.setOther (by show w.heap.size ≠ w.heap.size + 1;omega) _).setOther (by show w.heap.size ≠ w.heap.size + 1;omega) _
   have hB6 : Below w.heap.size w ((w5.setCell ⟨w.heap.size,p,none⟩ (.bool true)).setCell ⟨w.heap.size,9 + p,none⟩ (.bool true)):=(hb.setCell (Nat.le_refl _) _).setCell (Nat.le_refl _) _
   have hal:=(zgp hs p).len
   have hr6:=za0 row6
   have ht6 : ((w5.setCell ⟨w.heap.size,p,none⟩ (.bool true)).setCell ⟨w.heap.size,9 + p,none⟩ (.bool true)).there (w.heap.size + 1) 0 (aftD s p).cells.toArray.size:=by rw [show (aftD s p).cells.toArray.size = 18 by simpa using hal];exact zbh res6
   have hi6 : (Try.prog.info? 91).map (·.size) = some (aftD s p).cells.length:=by rw [hal];exact Try.infoSit
   have hi7 : (Try.prog.info? 91).map (·.size) = some (aftD s p).cells.toArray.size:=by rw [List.size_toArray];exact hi6
   have h16 : (aftD s p).cells.toArray.all (·.oneCell') = true:=zb6 _
   generalize (curB s p 9)[p]'(by rw [za5];exact hp) = u1 at hcA
   generalize s.had[p]'(by rw [hs.2];exact hp) = u2 at hcB
   clear hrow hres row6 res6 hal hrow0 hres0 hs
   obtain ⟨C,hCe⟩ : ∃ C,C = (aftD s p).cells:=⟨_,rfl⟩
   rw [<- hCe] at hr6 ht6 hi6 hi7 h16
   have HCe:= zab hCe
   clear hCe
   go_wp2_with (first
    | (refine wpList_load_mid (w:=(w5.setCell ⟨w.heap.size,p,none⟩ (.bool true)).setCell ⟨w.heap.size,9 + p,none⟩ (.bool true)) rfl 91 _ rfl _ _ rfl C _ hr6 Try.underlying91 rfl hi6 ?_)
    | (refine wpList_store_mid (w:=(w5.setCell ⟨w.heap.size,p,none⟩ (.bool true)).setCell ⟨w.heap.size,9 + p,none⟩ (.bool true)) rfl 91 _ _ rfl (w.heap.size + 1) 0 C.toArray rfl rfl ht6 hi7 h16 ?_))
   have hrs:=World.rangeAt_setCells_same ((w5.setCell ⟨w.heap.size,p,none⟩ (.bool true)).setCell ⟨w.heap.size,9 + p,none⟩ (.bool true)) (w.heap.size + 1) 0 C (by simpa using ht6)
   refine bodyPost_ret (v:=.agg C.toArray) ?_ rfl ⟨by rw [HCe.out],below_setCells (w.heap.size + 1) (Nat.le_succ _) _ _ hB6⟩
   have hlv:=run_loadVar_mid (P:=Try.prog) _ (w.heap.size + 1) 0 91 C _ hrs Try.underlying91 rfl hi6
   simp [results,Try.results42,asAddr,Act.put,hlv]
end
section
open Go.RowKit
open Go.Lib (below_setCells)
def begD (c : ChD) : SiD:=⟨c.fst,c.fst⟩
theorem zbx {c : ChD} (h : c.ok) : (begD c).ok:=⟨h.fst,h.fst⟩
theorem zej {l : List Bool} (h : l.length = 9) : ∃ b0 b1 b2 b3 b4 b5 b6 b7 b8,l = [b0,b1,b2,b3,b4,b5,b6,b7,b8]:=by
 match l,h with
 | [b0,b1,b2,b3,b4,b5,b6,b7,b8],_ => exact ⟨b0,b1,b2,b3,b4,b5,b6,b7,b8,rfl⟩
theorem ze8 (c : ChD) (hc : c.ok) (w : World) : Calls Try.prog 40 #[.agg c.cells.toArray] w fun e W => e = .returned (.agg (begD c).cells.toArray) /\ Below w.heap.size w W:=by
 have hq1:=zae (belS _ (.cells #[.bool false,.bool false,.bool false,.bool false,.bool false,.bool false,.bool false,.bool false,.bool false,.bool false,.bool false,.bool false,.bool false,.bool false,.bool false,.bool false,.bool false,.bool false] 91)) (za0 (zan w (.cells c.cells.toArray 50)))
 have r1:=zbo (k:=9) (ds:=c.fst.map Value.bool) hq1 (fun j v hj => by
   rw [List.getElem?_map] at hj
   obtain ⟨b,hb,rfl⟩:=Option.map_eq_some_iff.1 hj
   rw [ChD.cells,List.getElem?_map,hc.get_fst hb];rfl)
 rw [Nat.zero_add] at r1
 have i1 : (Try.prog.info? 47).map (·.size) = some (c.fst.map Value.bool).length:=by rw [List.length_map,hc.fst];exact Try.infoSet
 clear hq1
 obtain ⟨b0,b1,b2,b3,b4,b5,b6,b7,b8,hbs⟩:=zej hc.fst
 rw [hbs] at r1 i1
 have hcl : (begD c).cells = [.bool b0,.bool b1,.bool b2,.bool b3,.bool b4,.bool b5,.bool b6,.bool b7,.bool b8,.bool b0,.bool b1,.bool b2,.bool b3,.bool b4,.bool b5,.bool b6,.bool b7,.bool b8]:=by rw [SiD.cells,begD,hbs];rfl
 have HC:= zab hcl
 simp only [List.map_cons,List.map_nil] at r1 i1
 clear hcl hbs hc
 have hB : Below w.heap.size w ((w.alloc (.cells c.cells.toArray 50)).alloc (.cells #[.bool false,.bool false,.bool false,.bool false,.bool false,.bool false,.bool false,.bool false,.bool false,.bool false,.bool false,.bool false,.bool false,.bool false,.bool false,.bool false,.bool false,.bool false] 91)):=(belS w (.cells c.cells.toArray 50)).alloc (by simp) (.cells #[.bool false,.bool false,.bool false,.bool false,.bool false,.bool false,.bool false,.bool false,.bool false,.bool false,.bool false,.bool false,.bool false,.bool false,.bool false,.bool false,.bool false,.bool false] 91)
 have ht:=zbh (zan (w.alloc (.cells c.cells.toArray 50)) (.cells #[.bool false,.bool false,.bool false,.bool false,.bool false,.bool false,.bool false,.bool false,.bool false,.bool false,.bool false,.bool false,.bool false,.bool false,.bool false,.bool false,.bool false,.bool false] 91))
 rw [show (w.alloc (.cells c.cells.toArray 50)).heap.size = w.heap.size + 1 by simp] at ht
 have ht2 : ((w.alloc (.cells c.cells.toArray 50)).alloc (.cells #[.bool false,.bool false,.bool false,.bool false,.bool false,.bool false,.bool false,.bool false,.bool false,.bool false,.bool false,.bool false,.bool false,.bool false,.bool false,.bool false,.bool false,.bool false] 91)).there (w.heap.size + 1) 0 (#[.bool b0,.bool b1,.bool b2,.bool b3,.bool b4,.bool b5,.bool b6,.bool b7,.bool b8,.bool b0,.bool b1,.bool b2,.bool b3,.bool b4,.bool b5,.bool b6,.bool b7,.bool b8] : Array Value).size:=ht
 have hi2 : (Try.prog.info? 91).map (·.size) = some (#[.bool b0,.bool b1,.bool b2,.bool b3,.bool b4,.bool b5,.bool b6,.bool b7,.bool b8,.bool b0,.bool b1,.bool b2,.bool b3,.bool b4,.bool b5,.bool b6,.bool b7,.bool b8] : Array Value).size:=Try.infoSit
 have h12 : (#[.bool b0,.bool b1,.bool b2,.bool b3,.bool b4,.bool b5,.bool b6,.bool b7,.bool b8,.bool b0,.bool b1,.bool b2,.bool b3,.bool b4,.bool b5,.bool b6,.bool b7,.bool b8] : Array Value).all (·.oneCell') = true:=zb6 [b0,b1,b2,b3,b4,b5,b6,b7,b8,b0,b1,b2,b3,b4,b5,b6,b7,b8]
 clear ht
 go_enter Try.func40,Try.ntmps40
 go_wp2_with (first
  | (refine wpList_load_mid (w:=(w.alloc (.cells c.cells.toArray 50)).alloc (.cells #[.bool false,.bool false,.bool false,.bool false,.bool false,.bool false,.bool false,.bool false,.bool false,.bool false,.bool false,.bool false,.bool false,.bool false,.bool false,.bool false,.bool false,.bool false] 91)) rfl 47 _ rfl w.heap.size 9 rfl [.bool b0,.bool b1,.bool b2,.bool b3,.bool b4,.bool b5,.bool b6,.bool b7,.bool b8] _ r1 Try.underlying47 rfl i1 ?_)
  | (refine wpList_store_mid (w:=(w.alloc (.cells c.cells.toArray 50)).alloc (.cells #[.bool false,.bool false,.bool false,.bool false,.bool false,.bool false,.bool false,.bool false,.bool false,.bool false,.bool false,.bool false,.bool false,.bool false,.bool false,.bool false,.bool false,.bool false] 91)) rfl 91 _ _ rfl (w.heap.size + 1) 0 #[.bool b0,.bool b1,.bool b2,.bool b3,.bool b4,.bool b5,.bool b6,.bool b7,.bool b8,.bool b0,.bool b1,.bool b2,.bool b3,.bool b4,.bool b5,.bool b6,.bool b7,.bool b8] rfl rfl ht2 hi2 h12 ?_))
 have hrs:=World.rangeAt_setCells_same ((w.alloc (.cells c.cells.toArray 50)).alloc (.cells #[.bool false,.bool false,.bool false,.bool false,.bool false,.bool false,.bool false,.bool false,.bool false,.bool false,.bool false,.bool false,.bool false,.bool false,.bool false,.bool false,.bool false,.bool false] 91)) (w.heap.size + 1) 0 [.bool b0,.bool b1,.bool b2,.bool b3,.bool b4,.bool b5,.bool b6,.bool b7,.bool b8,.bool b0,.bool b1,.bool b2,.bool b3,.bool b4,.bool b5,.bool b6,.bool b7,.bool b8] ht2
 refine bodyPost_ret (v:=.agg #[.bool b0,.bool b1,.bool b2,.bool b3,.bool b4,.bool b5,.bool b6,.bool b7,.bool b8,.bool b0,.bool b1,.bool b2,.bool b3,.bool b4,.bool b5,.bool b6,.bool b7,.bool b8]) ?_ rfl ⟨by rw [HC.out],below_setCells (w.heap.size + 1) (Nat.le_succ _) _ _ hB⟩
 have hlv:=run_loadVar_mid (P:=Try.prog) _ (w.heap.size + 1) 0 91 [.bool b0,.bool b1,.bool b2,.bool b3,.bool b4,.bool b5,.bool b6,.bool b7,.bool b8,.bool b0,.bool b1,.bool b2,.bool b3,.bool b4,.bool b5,.bool b6,.bool b7,.bool b8] _ hrs Try.underlying91 rfl Try.infoSit
 simp [results,Try.results40,asAddr,Act.put,hlv]
end
end Go.Proofs.Ytkkekopomiehlab
