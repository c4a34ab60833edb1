import Derived.Test.YtkkekopomiehlaaGreatCSf3
import Derived.Test.YtkkekopomiehlaaGreatCLn1
set_option linter.unusedVariables false
set_option linter.unusedSimpArgs false
set_option maxHeartbeats 40000000
set_option maxRecDepth 4000
namespace Go.Proofs.YtkkekopomiehlaaGreat
section
open Go.RowKit
open Go.Lib (below_setCells)
def curB (s : SiD) (p i : Nat) : List Bool:=(List.range 9).map fun k => if k < i /\ k / 3 = p / 3 then false else s.has.getD k false
theorem zb0 (s : SiD) (p i : Nat) : (curB s p i).length = 9:=by simp [curB]
theorem zge (s : SiD) (p i k : Nat) (hk : k < 9) : (curB s p i)[k]? = some (if k < i /\ k / 3 = p / 3 then false else s.has.getD k false):=by
 rw [curB,List.getElem?_map,List.getElem?_range hk];rfl
theorem ztu {s : SiD} (h : s.ok) (p : Nat) : curB s p 0 = s.has:=by
 apply List.ext_getElem?
 intro k
 by_cases hk : k < 9
 ·rw [zge s p 0 k hk,if_neg (by omega)]
  simp [List.getD,List.getElem?_eq_getElem (show k < s.has.length by rw [h.1];exact hk)]
 ·rw [List.getElem?_eq_none (by rw [zb0];omega),List.getElem?_eq_none (by rw [h.1];omega)]
theorem ztt {s : SiD} {p i : Nat} (hi : i < 9) (he : i / 3 = p / 3) : curB s p (i + 1) = (curB s p i).set i false:=by
 apply List.ext_getElem?
 intro k
 by_cases hk : k < 9
 ·rw [zge s p (i + 1) k hk,List.getElem?_set]
  by_cases hki : i = k
  ·subst hki
   rw [if_pos (show i < i + 1 /\ i / 3 = p / 3 from ⟨by omega,he⟩),if_pos rfl,if_pos (by rw [zb0];exact hi)]
  ·rw [if_neg hki,zge s p i k hk]
   by_cases hc : k < i /\ k / 3 = p / 3
   ·rw [if_pos hc,if_pos ⟨by omega,hc.2⟩]
   ·rw [if_neg hc,if_neg (by omega)]
 ·rw [List.getElem?_eq_none (by rw [zb0];omega),List.getElem?_eq_none (by rw [List.length_set,zb0];omega)]
theorem zts {s : SiD} {p i : Nat} (hi : i < 9) (he : i / 3 ≠ p / 3) : curB s p (i + 1) = curB s p i:=by
 apply List.ext_getElem?
 intro k
 by_cases hk : k < 9
 ·rw [zge s p (i + 1) k hk,zge s p i k hk]
  by_cases hki : i = k
  ·subst hki;rw [if_neg (by omega),if_neg (by omega)]
  ·by_cases hc : k < i /\ k / 3 = p / 3
   ·rw [if_pos hc,if_pos ⟨by omega,hc.2⟩]
   ·rw [if_neg hc,if_neg (by omega)]
 ·rw [List.getElem?_eq_none (by rw [zb0];omega),List.getElem?_eq_none (by rw [zb0];omega)]
theorem ztr (s : SiD) (p : Nat) : curB s p 9 = (List.range 9).map fun i => if i / 3 = p / 3 then false else s.has.getD i false:=by
 unfold curB
 refine List.map_congr_left fun k hk => ?_
 have:=List.mem_range.1 hk
 by_cases h : k / 3 = p / 3
 ·rw [if_pos ⟨this,h⟩,if_pos h]
 ·rw [if_neg (by omega),if_neg h]
theorem zqr {a b : List Bool} {i : Nat} {x : Bool} (h : i < a.length) : ((a ++ b).map Value.bool).set i (.bool x) = ((a.set i x) ++ b).map Value.bool:=by
 rw [<- List.map_set,List.set_append_left _ _ h]
theorem zy8 {a b : List Bool} {i : Nat} {x : Bool} (h : a.length = 9) : ((a ++ b).map Value.bool).set (9 + i) (.bool x) = (a ++ b.set i x).map Value.bool:=by
 rw [<- List.map_set,List.set_append_right _ _ (by omega),h,show 9 + i - 9 = i by omega]
theorem zui (x y : Int) (W : World) : (Instr.field 46 (.agg #[.int .i64 x,.int .i64 y]) 0).run Tryz.prog W = .ok (.int .i64 x) W:=by kernel_rfl
theorem zss (s : SiD) (p : Nat) (hp : p < 9) (hs : s.ok) (w : World) : Calls Tryz.prog 50 #[.agg s.cells.toArray,.int .i64 p] w fun e W => e = .returned (.agg (aftD s p).cells.toArray) /\ Below w.heap.size w W:=by
 have hnum:=fun w => zct p 9 w
 rw [show numB (p : Int) 9 = true by unfold numB;simp;omega] at hnum
 have hmv:=fun w => zkj p hp w
 have hrow0 : RowIs ((w.alloc (.cells s.cells.toArray 106)).alloc (.cells #[.bool false,.bool false,.bool false,.bool false,.bool false,.bool false,.bool false,.bool false,.bool false,.bool false,.bool false,.bool false,.bool false,.bool false,.bool false,.bool false,.bool false,.bool false] 106)) w.heap.size 106 ((curB s p 0 ++ s.had).map Value.bool):=by
  rw [ztu hs]
  exact RowIs.keep (w:=w.alloc (.cells s.cells.toArray 106)) (zay w _) (belS _ _)
 have hres0 : RowIs ((w.alloc (.cells s.cells.toArray 106)).alloc (.cells #[.bool false,.bool false,.bool false,.bool false,.bool false,.bool false,.bool false,.bool false,.bool false,.bool false,.bool false,.bool false,.bool false,.bool false,.bool false,.bool false,.bool false,.bool false] 106)) (w.heap.size + 1) 106 ([.bool false,.bool false,.bool false,.bool false,.bool false,.bool false,.bool false,.bool false,.bool false,.bool false,.bool false,.bool false,.bool false,.bool false,.bool false,.bool false,.bool false,.bool false]):=by
  have:=zay (w.alloc (.cells s.cells.toArray 106)) (.cells #[.bool false,.bool false,.bool false,.bool false,.bool false,.bool false,.bool false,.bool false,.bool false,.bool false,.bool false,.bool false,.bool false,.bool false,.bool false,.bool false,.bool false,.bool false] 106)
  rw [show (w.alloc (.cells s.cells.toArray 106)).heap.size = w.heap.size + 1 by simp] at this
  exact this
 have hB0:=(belS w (.cells s.cells.toArray 106)).alloc (by simp) (.cells #[.bool false,.bool false,.bool false,.bool false,.bool false,.bool false,.bool false,.bool false,.bool false,.bool false,.bool false,.bool false,.bool false,.bool false,.bool false,.bool false,.bool false,.bool false] 106)
 have HS:= zab hs
 have hn0 := znn p
 have hn9 : (p : Int) < 9:=by omega
 have hq3 : p / 3 < 3:=by omega
 obtain ⟨q,hq⟩ : ∃ q,q = p / 3:=⟨_,rfl⟩
 rw [<- hq] at hmv
 have HQ:= zab hq
 clear hs hq
 have hfm:=zui
 generalize p % 3 = r0 at hmv
 go_enter Tryz.func50,Tryz.ntmps50
 go_wp2_with (first
  | (go_at_call 69;refine (hnum _).mono ?_;rintro e _ ⟨rfl,rfl⟩)
  | (go_at_call 72;refine (hmv _).mono ?_;rintro e w1 ⟨rfl,hb1⟩))
 go_loopw [6] (fun vi wr => ∃ i : Nat,i <= 9 /\ vi = .int .i64 i /\ RowIs wr w.heap.size 106 ((curB s p i ++ s.had).map Value.bool) /\ RowIs wr (w.heap.size + 1) 106 ([.bool false,.bool false,.bool false,.bool false,.bool false,.bool false,.bool false,.bool false,.bool false,.bool false,.bool false,.bool false,.bool false,.bool false,.bool false,.bool false,.bool false,.bool false]) /\ Below w.heap.size w wr) (fun i _ => 9 - (intOf i).toNat)
 case atStart => exact ⟨0,by omega,rfl,hrow0.keep hb1,hres0.keep hb1,thn3 hB0 hb1⟩
 case round =>
  obtain ⟨i,hi,rfl,hrow,hres,hb⟩:=hrel
  rename World => w5
  have hgl:=hrow.lt
  by_cases hlt : i < 9
  ·have hmi:=fun w => zkj i hlt w
   have hx0 := znn i
   have hx9 : (i : Int) < 9:=by omega
   by_cases he : i / 3 = p / 3
   ·have he' : (((i / 3 : Nat) : Int) == (q : Int)) = true:=by rw [HQ.out];simp;omega
    have hc:=ztt (s:=s) hlt he
    generalize i / 3 = a at hmi he'
    generalize i % 3 = b at hmi
    have hcell : w5.cell? ⟨w.heap.size,i,none⟩ = some (.bool ((curB s p i)[i]'(by rw [zb0];exact hlt))):=hrow.cell (by rw [List.getElem?_map,List.getElem?_append_left (by rw [zb0];exact hlt),List.getElem?_eq_getElem (by rw [zb0];exact hlt)];rfl)
    have hfz:=hrow.frozen i
    have HRow:= zab hrow
    have HRes:= zab hres
    have HC:= zab hc
    clear hrow hres hc he hrow0 hres0
    go_wp2_with (go_at_call 72;refine (hmi _).mono ?_;rintro e w2 ⟨rfl,hb2⟩;have k1:=zaa hb2 hcell;have k2 : w2.frozen? ⟨w.heap.size,i,none⟩ = false:=(hb2.frozen (p:=⟨w.heap.size,i,none⟩) (by simpa using hgl)).trans hfz)
    go_roundw
    case rel =>
     refine ⟨i + 1,by omega,by go_num,?_,(HRes.out.keep hb2).setOther (by show w.heap.size ≠ w.heap.size + 1;omega) _,(thn3 hb hb2).setCell (Nat.le_refl _) _⟩
     have:=(HRow.out.keep hb2).set i (.bool false)
     rw [zqr (by rw [zb0];exact hlt),<- HC.out] at this
     exact this
    case measure => simp [intOf];omega
   ·have he' : (((i / 3 : Nat) : Int) == (q : Int)) = false:=by rw [HQ.out];simp;omega
    have hc:=zts (s:=s) hlt he
    generalize i / 3 = a at hmi he'
    generalize i % 3 = b at hmi
    have HRow:= zab hrow
    have HRes:= zab hres
    have HC:= zab hc
    clear hrow hres hc he hrow0 hres0
    go_wp2_with (go_at_call 72;refine (hmi _).mono ?_;rintro e w2 ⟨rfl,hb2⟩)
    go_roundw
    case rel => exact ⟨i + 1,by omega,by go_num,by rw [HC.out];exact HRow.out.keep hb2,HRes.out.keep hb2,thn3 hb hb2⟩
    case measure => simp [intOf];omega
  ·have hie : i = 9:=by omega
   subst hie
   have hs:=HS.out
   have hcA : w5.cell? ⟨w.heap.size,p,none⟩ = some (.bool ((curB s p 9)[p]'(by rw [zb0];exact hp))):=hrow.cell (by rw [List.getElem?_map,List.getElem?_append_left (by rw [zb0];exact hp),List.getElem?_eq_getElem (by rw [zb0];exact hp)];rfl)
   have hcB : w5.cell? ⟨w.heap.size,9 + p,none⟩ = some (.bool (s.had[p]'(by rw [hs.2];exact hp))):=hrow.cell (by rw [List.getElem?_map,List.getElem?_append_right (by rw [zb0];omega),zb0,show 9 + p - 9 = p by omega,List.getElem?_eq_getElem (by rw [hs.2];exact hp)];rfl)
   have hfA:=hrow.frozen p
   have hfB:=hrow.frozen (9 + p)
   have row6 : RowIs ((w5.setCell ⟨w.heap.size,p,none⟩ (.bool true)).setCell ⟨w.heap.size,9 + p,none⟩ (.bool true)) w.heap.size 106 (aftD s p).cells:=by
    have h1:=(hrow.set p (.bool true)).set (9 + p) (.bool true)
    rw [zqr (by rw [zb0];exact hp),zy8 (by rw [List.length_set,zb0])] at h1
    rw [ztr] at h1
    exact h1
   have res6 : RowIs ((w5.setCell ⟨w.heap.size,p,none⟩ (.bool true)).setCell ⟨w.heap.size,9 + p,none⟩ (.bool true)) (w.heap.size + 1) 106 ([.bool false,.bool false,.bool false,.bool false,.bool false,.bool false,.bool false,.bool false,.bool false,.bool false,.bool false,.bool false,.bool false,.bool false,.bool false,.bool false,.bool false,.bool false]):=(hres.setOther (by show w.heap.size ≠ w.heap.size + 1;omega) _).setOther (by show w.heap.size ≠ w.heap.size + 1;omega) _
   have hB6 : Below w.heap.size w ((w5.setCell ⟨w.heap.size,p,none⟩ (.bool true)).setCell ⟨w.heap.size,9 + p,none⟩ (.bool true)):=(hb.setCell (Nat.le_refl _) _).setCell (Nat.le_refl _) _
   have hal:=(zl9 hs p).len
   have hr6:=zbr row6
   have ht6 : ((w5.setCell ⟨w.heap.size,p,none⟩ (.bool true)).setCell ⟨w.heap.size,9 + p,none⟩ (.bool true)).there (w.heap.size + 1) 0 (aftD s p).cells.toArray.size:=by rw [show (aftD s p).cells.toArray.size = 18 by simpa using hal];exact zdb res6
   have hi6 : (Tryz.prog.info? 106).map (·.size) = some (aftD s p).cells.length:=by rw [hal];exact Tryz.infoSit
   have hi7 : (Tryz.prog.info? 106).map (·.size) = some (aftD s p).cells.toArray.size:=by rw [List.size_toArray];exact hi6
   have h16 : (aftD s p).cells.toArray.all (·.oneCell') = true:=zd9 _
   generalize (curB s p 9)[p]'(by rw [zb0];exact hp) = u1 at hcA
   generalize s.had[p]'(by rw [hs.2];exact hp) = u2 at hcB
   clear hrow hres row6 res6 hal hrow0 hres0 hs
   obtain ⟨C,hCe⟩ : ∃ C,C = (aftD s p).cells:=⟨_,rfl⟩
   rw [<- hCe] at hr6 ht6 hi6 hi7 h16
   have HCe:= zab hCe
   clear hCe
   go_wp2_with (first
    | (refine wpList_load_mid (w:=(w5.setCell ⟨w.heap.size,p,none⟩ (.bool true)).setCell ⟨w.heap.size,9 + p,none⟩ (.bool true)) rfl 106 _ rfl _ _ rfl C _ hr6 Tryz.underlying106 rfl hi6 ?_)
    | (refine wpList_store_mid (w:=(w5.setCell ⟨w.heap.size,p,none⟩ (.bool true)).setCell ⟨w.heap.size,9 + p,none⟩ (.bool true)) rfl 106 _ _ rfl (w.heap.size + 1) 0 C.toArray rfl rfl ht6 hi7 h16 ?_))
   have hrs:=World.rangeAt_setCells_same ((w5.setCell ⟨w.heap.size,p,none⟩ (.bool true)).setCell ⟨w.heap.size,9 + p,none⟩ (.bool true)) (w.heap.size + 1) 0 C (by simpa using ht6)
   refine bodyPost_ret (v:=.agg C.toArray) ?_ rfl ⟨by rw [HCe.out],below_setCells (w.heap.size + 1) (Nat.le_succ _) _ _ hB6⟩
   have hlv:=run_loadVar_mid (P:=Tryz.prog) _ (w.heap.size + 1) 0 106 C _ hrs Tryz.underlying106 rfl hi6
   simp [results,Tryz.results50,asAddr,Act.put,hlv]
end
section
open Go.RowKit
open Go.Lib (below_setCells)
def begD (c : ChD) : SiD:=⟨c.fst,c.fst⟩
theorem zhm {c : ChD} (h : c.ok) : (begD c).ok:=⟨h.fst,h.fst⟩
theorem zh7 {l : List Bool} (h : l.length = 9) : ∃ b0 b1 b2 b3 b4 b5 b6 b7 b8,l = [b0,b1,b2,b3,b4,b5,b6,b7,b8]:=by
 match l,h with
 | [b0,b1,b2,b3,b4,b5,b6,b7,b8],_ => exact ⟨b0,b1,b2,b3,b4,b5,b6,b7,b8,rfl⟩
theorem zs4 (c : ChD) (hc : c.ok) (w : World) : Calls Tryz.prog 48 #[.agg c.cells.toArray] w fun e W => e = .returned (.agg (begD c).cells.toArray) /\ Below w.heap.size w W:=by
 have hq1:=zag (belS _ (.cells #[.bool false,.bool false,.bool false,.bool false,.bool false,.bool false,.bool false,.bool false,.bool false,.bool false,.bool false,.bool false,.bool false,.bool false,.bool false,.bool false,.bool false,.bool false] 106)) (zbr (zay w (.cells c.cells.toArray 52)))
 have r1:=zc4 (k:=9) (ds:=c.fst.map Value.bool) hq1 (fun j v hj => by
   rw [List.getElem?_map] at hj
   obtain ⟨b,hb,rfl⟩:=Option.map_eq_some_iff.1 hj
   rw [ChD.cells,List.getElem?_map,hc.get_fst hb];rfl)
 rw [Nat.zero_add] at r1
 have i1 : (Tryz.prog.info? 49).map (·.size) = some (c.fst.map Value.bool).length:=by rw [List.length_map,hc.fst];exact Tryz.infoSet
 clear hq1
 obtain ⟨b0,b1,b2,b3,b4,b5,b6,b7,b8,hbs⟩:=zh7 hc.fst
 rw [hbs] at r1 i1
 have hcl : (begD c).cells = [.bool b0,.bool b1,.bool b2,.bool b3,.bool b4,.bool b5,.bool b6,.bool b7,.bool b8,.bool b0,.bool b1,.bool b2,.bool b3,.bool b4,.bool b5,.bool b6,.bool b7,.bool b8]:=by rw [SiD.cells,begD,hbs];rfl
 have HC:= zab hcl
 simp only [List.map_cons,List.map_nil] at r1 i1
 clear hcl hbs hc
 have hB : Below w.heap.size w ((w.alloc (.cells c.cells.toArray 52)).alloc (.cells #[.bool false,.bool false,.bool false,.bool false,.bool false,.bool false,.bool false,.bool false,.bool false,.bool false,.bool false,.bool false,.bool false,.bool false,.bool false,.bool false,.bool false,.bool false] 106)):=(belS w (.cells c.cells.toArray 52)).alloc (by simp) (.cells #[.bool false,.bool false,.bool false,.bool false,.bool false,.bool false,.bool false,.bool false,.bool false,.bool false,.bool false,.bool false,.bool false,.bool false,.bool false,.bool false,.bool false,.bool false] 106)
 have ht:=zdb (zay (w.alloc (.cells c.cells.toArray 52)) (.cells #[.bool false,.bool false,.bool false,.bool false,.bool false,.bool false,.bool false,.bool false,.bool false,.bool false,.bool false,.bool false,.bool false,.bool false,.bool false,.bool false,.bool false,.bool false] 106))
 rw [show (w.alloc (.cells c.cells.toArray 52)).heap.size = w.heap.size + 1 by simp] at ht
 have ht2 : ((w.alloc (.cells c.cells.toArray 52)).alloc (.cells #[.bool false,.bool false,.bool false,.bool false,.bool false,.bool false,.bool false,.bool false,.bool false,.bool false,.bool false,.bool false,.bool false,.bool false,.bool false,.bool false,.bool false,.bool false] 106)).there (w.heap.size + 1) 0 (#[.bool b0,.bool b1,.bool b2,.bool b3,.bool b4,.bool b5,.bool b6,.bool b7,.bool b8,.bool b0,.bool b1,.bool b2,.bool b3,.bool b4,.bool b5,.bool b6,.bool b7,.bool b8] : Array Value).size:=ht
 have hi2 : (Tryz.prog.info? 106).map (·.size) = some (#[.bool b0,.bool b1,.bool b2,.bool b3,.bool b4,.bool b5,.bool b6,.bool b7,.bool b8,.bool b0,.bool b1,.bool b2,.bool b3,.bool b4,.bool b5,.bool b6,.bool b7,.bool b8] : Array Value).size:=Tryz.infoSit
 have h12 : (#[.bool b0,.bool b1,.bool b2,.bool b3,.bool b4,.bool b5,.bool b6,.bool b7,.bool b8,.bool b0,.bool b1,.bool b2,.bool b3,.bool b4,.bool b5,.bool b6,.bool b7,.bool b8] : Array Value).all (·.oneCell') = true:=zd9 [b0,b1,b2,b3,b4,b5,b6,b7,b8,b0,b1,b2,b3,b4,b5,b6,b7,b8]
 clear ht
 go_enter Tryz.func48,Tryz.ntmps48
 go_wp2_with (first
  | (refine wpList_load_mid (w:=(w.alloc (.cells c.cells.toArray 52)).alloc (.cells #[.bool false,.bool false,.bool false,.bool false,.bool false,.bool false,.bool false,.bool false,.bool false,.bool false,.bool false,.bool false,.bool false,.bool false,.bool false,.bool false,.bool false,.bool false] 106)) rfl 49 _ rfl w.heap.size 9 rfl [.bool b0,.bool b1,.bool b2,.bool b3,.bool b4,.bool b5,.bool b6,.bool b7,.bool b8] _ r1 Tryz.underlying49 rfl i1 ?_)
  | (refine wpList_store_mid (w:=(w.alloc (.cells c.cells.toArray 52)).alloc (.cells #[.bool false,.bool false,.bool false,.bool false,.bool false,.bool false,.bool false,.bool false,.bool false,.bool false,.bool false,.bool false,.bool false,.bool false,.bool false,.bool false,.bool false,.bool false] 106)) rfl 106 _ _ rfl (w.heap.size + 1) 0 #[.bool b0,.bool b1,.bool b2,.bool b3,.bool b4,.bool b5,.bool b6,.bool b7,.bool b8,.bool b0,.bool b1,.bool b2,.bool b3,.bool b4,.bool b5,.bool b6,.bool b7,.bool b8] rfl rfl ht2 hi2 h12 ?_))
 have hrs:=World.rangeAt_setCells_same ((w.alloc (.cells c.cells.toArray 52)).alloc (.cells #[.bool false,.bool false,.bool false,.bool false,.bool false,.bool false,.bool false,.bool false,.bool false,.bool false,.bool false,.bool false,.bool false,.bool false,.bool false,.bool false,.bool false,.bool false] 106)) (w.heap.size + 1) 0 [.bool b0,.bool b1,.bool b2,.bool b3,.bool b4,.bool b5,.bool b6,.bool b7,.bool b8,.bool b0,.bool b1,.bool b2,.bool b3,.bool b4,.bool b5,.bool b6,.bool b7,.bool b8] ht2
 refine bodyPost_ret (v:=.agg #[.bool b0,.bool b1,.bool b2,.bool b3,.bool b4,.bool b5,.bool b6,.bool b7,.bool b8,.bool b0,.bool b1,.bool b2,.bool b3,.bool b4,.bool b5,.bool b6,.bool b7,.bool b8]) ?_ rfl ⟨by rw [HC.out],below_setCells (w.heap.size + 1) (Nat.le_succ _) _ _ hB⟩
 have hlv:=run_loadVar_mid (P:=Tryz.prog) _ (w.heap.size + 1) 0 106 [.bool b0,.bool b1,.bool b2,.bool b3,.bool b4,.bool b5,.bool b6,.bool b7,.bool b8,.bool b0,.bool b1,.bool b2,.bool b3,.bool b4,.bool b5,.bool b6,.bool b7,.bool b8] _ hrs Tryz.underlying106 rfl Tryz.infoSit
 simp [results,Tryz.results48,asAddr,Act.put,hlv]
end
section
open Go.RowKit
open Go.Lib (below_setCells)
def MovesAt (w : World) (a : Option Addr) (ms : List (Int × Int)) : Prop:=∀ i m,ms[i]? = some m -> ∃ b o,a = some ⟨b,o,none⟩ /\ w.cell? ⟨b,o + i * 2,none⟩ = some (.int .i64 m.1) /\ w.cell? ⟨b,o + i * 2 + 1,none⟩ = some (.int .i64 m.2)
theorem MovesAt.keep {w w' : World} (hb : Below w.heap.size w w') {a : Option Addr} {ms : List (Int × Int)} (h : MovesAt w a ms) : MovesAt w' a ms:=fun i m hi => by
 obtain ⟨b,o,h1,h2,h3⟩:=h i m hi
 exact ⟨b,o,h1,zaa hb h2,zaa hb h3⟩
def aft (s : SiD) (p : Int) : SiD:=if 0 <= p /\ p < 9 then aftD s p.toNat else s
theorem zhh {s : SiD} (h : s.ok) (p : Int) : (aft s p).ok:=by unfold aft;split;exact zl9 h _;exact h
theorem zsr (s : SiD) (p : Int) (hs : s.ok) (w : World) : Calls Tryz.prog 50 #[.agg s.cells.toArray,.int .i64 p] w fun e W => e = .returned (.agg (aft s p).cells.toArray) /\ Below w.heap.size w W:=by
 unfold aft
 by_cases h : 0 <= p /\ p < 9
 ·rw [if_pos h]
  obtain ⟨n,rfl⟩ : ∃ n : Nat,p = n:=⟨p.toNat,by omega⟩
  rw [Int.toNat_natCast]
  exact zss s n (by omega) hs w
 ·rw [if_neg h]
  exact zst s p h hs w
theorem Tryz.infoCht : (Tryz.prog.info? 52).map (·.size) = some 189:=by kernel_rfl
theorem ChD.ok.len {c : ChD} (h : c.ok) : c.cells.length = 189:=by
 have h1:=zfd c.alg h.algr
 have h2:=zfd c.fev h.fevr
 simp only [ChD.cells,ChD.bits,List.length_map,List.length_append,h.thr,h.fst,h.wnt,h1,h2,h.alg,h.fev]
theorem zz9 {w w' : World} (hb : Below w.heap.size w w') {b o n : Nat} (h : w.there b o n) : w'.there b o n:=fun j hj => by
 obtain ⟨h1,h2⟩:=h j hj
 obtain ⟨v,hv⟩:=Option.isSome_iff_exists.1 h1
 have hlt:=World.block_lt_of_cell? w ⟨b,o + j,none⟩ hv
 refine ⟨?_,?_⟩
 ·rw [hb.cell (p:=⟨b,o + j,none⟩) hlt];exact h1
 ·rw [hb.frozen (p:=⟨b,o + j,none⟩) hlt];exact h2
theorem zit {s : SiD} (h : s.ok) : (Tryz.prog.info? 106).map (·.size) = some s.cells.length /\ (Tryz.prog.info? 106).map (·.size) = some s.cells.toArray.size /\ s.cells.toArray.all (·.oneCell') = true:=by
 refine ⟨by rw [h.len];exact Tryz.infoSit,by rw [List.size_toArray,h.len];exact Tryz.infoSit,zd9 _⟩
end
section
structure TS (α : Type) where
 now : α
 fr : Nat
 to : Nat
section
variable {α : Type}
structure TInv (nx : α -> Nat -> Option α) (L : List (TS α)) (t : Nat) : Prop where
 nd : ∀ (i j : Nat) (a b : TS α),L[i]? = some a -> L[j]? = some b -> a.now = b.now -> i = j
 tm : ∀ (j : Nat) (a : TS α),L[j + 1]? = some a -> 9 * a.fr + a.to < t /\ a.fr < j + 1 /\ a.to < 9 /\ ∃ b,L[a.fr]? = some b /\ nx b.now a.to = some a.now
 mono : ∀ (i j : Nat) (a b : TS α),i < j -> L[i + 1]? = some a -> L[j + 1]? = some b -> 9 * a.fr + a.to < 9 * b.fr + b.to
 ev : ∀ (i : Nat) (a : TS α) (p : Nat) (y : α),L[i]? = some a -> p < 9 -> nx a.now p = some y -> 9 * i + p < t -> ∃ j b,L[j]? = some b /\ b.now = y /\ (j = 0 \/ 9 * b.fr + b.to <= 9 * i + p)
theorem zdg {β : Type} {L : List β} {x a : β} {i : Nat} (h : (L ++ [x])[i]? = some a) : L[i]? = some a \/ (i = L.length /\ a = x):=by
 rcases Nat.lt_trichotomy i L.length with h1 | h1 | h1
 ·rw [List.getElem?_append_left h1] at h;exact .inl h
 ·subst h1;rw [List.getElem?_append_right (Nat.le_refl _)] at h;simp at h;exact .inr ⟨rfl,h.symm⟩
 ·rw [List.getElem?_eq_none (by simp;omega)] at h;cases h
theorem zfu {β : Type} {L : List β} {x a : β} {i : Nat} (h : L[i]? = some a) : (L ++ [x])[i]? = some a:=by
 rw [List.getElem?_append_left (List.getElem?_eq_some_iff.1 h).1];exact h
theorem TInv.skip {nx : α -> Nat -> Option α} {L : List (TS α)} {k p : Nat} {a : TS α} (h : TInv nx L (9 * k + p)) (ha : L[k]? = some a) (hp : p < 9) (hy : nx a.now p = none) : TInv nx L (9 * k + p + 1):=by
 refine ⟨h.nd,fun j a ha => ⟨by have:=(h.tm j a ha).1;omega,(h.tm j a ha).2⟩,h.mono,fun i a' q z hi hq hz ht => ?_⟩
 by_cases he : 9 * i + q < 9 * k + p
 ·exact h.ev i a' q z hi hq hz he
 ·have : i = k /\ q = p:=by omega
  obtain ⟨rfl,rfl⟩:=this
  rw [ha] at hi;cases hi
  rw [hy] at hz;cases hz
end
theorem SiD.eq_iff {s t : SiD} : s = t ↔ s.has = t.has /\ s.had = t.had:=by
 constructor
 ·rintro rfl;exact ⟨rfl,rfl⟩
 ·obtain ⟨a,b⟩:=s;obtain ⟨c,d⟩:=t;rintro ⟨h1,h2⟩;simp only at h1 h2;rw [h1,h2]
def zg3 (s t : SiD) : Bool:=decide (s.has = t.has) && decide (s.had = t.had)
theorem zqu {s t : SiD} : zg3 s t = true ↔ s = t:=by unfold zg3;rw [Bool.and_eq_true,decide_eq_true_eq,decide_eq_true_eq,SiD.eq_iff]
section
def tins (k : Nat) (L : List (TS SiD)) (p : Nat) (y : SiD) : List (TS SiD) :=
 if L.any (fun t => zg3 t.now y) = true then L else L ++ [⟨y,k,p⟩]
def tin (nx : SiD -> Nat -> Option SiD) (k : Nat) (s : SiD) : Nat -> List (TS SiD) -> List (TS SiD)
 | 0,L => L
 | p + 1,L => match nx s p with
  | some y => tins k (tin nx k s p L) p y
  | none => tin nx k s p L
def tou (nx : SiD -> Nat -> Option SiD) (s0 : SiD) : Nat -> List (TS SiD)
 | 0 => [⟨s0,0,0⟩]
 | k + 1 => match (tou nx s0 k)[k]? with
  | some a => tin nx k a.now 9 (tou nx s0 k)
  | none => tou nx s0 k
theorem zrh {k p i : Nat} {L : List (TS SiD)} {y : SiD} {a : TS SiD} (h : L[i]? = some a) : (tins k L p y)[i]? = some a:=by
 unfold tins;split
 ·exact h
 ·exact zfu h
theorem TInv.step {nx : SiD -> Nat -> Option SiD} {L : List (TS SiD)} {k p : Nat} {a : TS SiD} {y : SiD} (h : TInv nx L (9 * k + p)) (ha : L[k]? = some a) (hp : p < 9) (hy : nx a.now p = some y) : TInv nx (tins k L p y) (9 * k + p + 1):=by
 have hk:=(List.getElem?_eq_some_iff.1 ha).1
 unfold tins
 by_cases hr : L.any (fun t => zg3 t.now y) = true
 ·rw [if_pos hr]
  obtain ⟨b,hb,hby⟩:=List.any_eq_true.1 hr
  obtain ⟨j,hj⟩:=List.getElem?_of_mem hb
  refine ⟨h.nd,fun j a ha => ⟨by have:=(h.tm j a ha).1;omega,(h.tm j a ha).2⟩,h.mono,fun i a' q z hi hq hz ht => ?_⟩
  by_cases he : 9 * i + q < 9 * k + p
  ·exact h.ev i a' q z hi hq hz he
  ·have : i = k /\ q = p:=by omega
   obtain ⟨rfl,rfl⟩:=this
   rw [ha] at hi;cases hi
   rw [hy] at hz;cases hz
   refine ⟨j,b,hj,zqu.1 hby,?_⟩
   cases j with
   | zero => exact .inl rfl
   | succ j => exact .inr (by have:=(h.tm j b hj).1;omega)
 ·rw [if_neg hr]
  have hno : ∀ (i : Nat) (b : TS SiD),L[i]? = some b -> b.now ≠ y:=fun i b hi he => hr (List.any_eq_true.2 ⟨b,List.mem_of_getElem? hi,zqu.2 he⟩)
  refine ⟨fun i j a b hi hj he => ?_,fun j b hj => ?_,fun i j b c hij hi hj => ?_,fun i b q z hi hq hz ht => ?_⟩
  ·rcases zdg hi with hi | ⟨rfl,rfl⟩ <;> rcases zdg hj with hj | ⟨rfl,rfl⟩
   ·exact h.nd i j a b hi hj he
   ·exact absurd he (hno i a hi)
   ·exact absurd he.symm (hno j b hj)
   ·rfl
  ·rcases zdg hj with hj | ⟨hl,rfl⟩
   ·obtain ⟨h1,h2,h3,c,h4,h5⟩:=h.tm j b hj
    exact ⟨by omega,h2,h3,c,zfu h4,h5⟩
   ·exact ⟨by simp,by simp;omega,hp,a,zfu ha,hy⟩
  ·rcases zdg hi with hi | ⟨hl,rfl⟩ <;> rcases zdg hj with hj | ⟨hl2,rfl⟩
   ·exact h.mono i j b c hij hi hj
   ·exact (h.tm i b hi).1
   ·have:=(List.getElem?_eq_some_iff.1 hj).1;omega
   ·omega
  ·rcases zdg hi with hi' | ⟨rfl,rfl⟩
   ·clear hi
    have hi:=hi'
    by_cases he : 9 * i + q < 9 * k + p
    ·obtain ⟨j,c,h1,h2,h3⟩:=h.ev i b q z hi hq hz he
     exact ⟨j,c,zfu h1,h2,h3⟩
    ·have : i = k /\ q = p:=by omega
     obtain ⟨rfl,rfl⟩:=this
     rw [ha] at hi;cases hi
     rw [hy] at hz;cases hz
     exact ⟨L.length,⟨y,i,q⟩,by simp,rfl,.inr (by simp)⟩
   ·omega
theorem zfx {nx : SiD -> Nat -> Option SiD} {k i : Nat} {s : SiD} {L : List (TS SiD)} {a : TS SiD} (h : L[i]? = some a) : ∀ p,(tin nx k s p L)[i]? = some a
 | 0 => h
 | p + 1 => by
  rw [tin];split
  ·exact zrh (zfx h p)
  ·exact zfx h p
theorem TInv.tin {nx : SiD -> Nat -> Option SiD} {L : List (TS SiD)} {k : Nat} {a : TS SiD} (h : TInv nx L (9 * k)) (ha : L[k]? = some a) : ∀ p,p <= 9 -> TInv nx (tin nx k a.now p L) (9 * k + p)
 | 0,_ => h
 | p + 1,hp => by
  have ih:=TInv.tin h ha p (by omega)
  rw [Go.Proofs.YtkkekopomiehlaaGreat.tin]
  split
  ·rename_i y hy;exact ih.step (zfx ha p) (by omega) hy
  ·rename_i hy;exact ih.skip (zfx ha p) (by omega) hy
theorem zls {nx : SiD -> Nat -> Option SiD} {s0 : SiD} {k i : Nat} {a : TS SiD} (h : (tou nx s0 k)[i]? = some a) : (tou nx s0 (k + 1))[i]? = some a:=by
 rw [tou];split
 ·exact zfx h 9
 ·exact h
theorem zlr (nx : SiD -> Nat -> Option SiD) (s0 : SiD) : ∀ k,(tou nx s0 k)[0]? = some ⟨s0,0,0⟩
 | 0 => rfl
 | k + 1 => zls (zlr nx s0 k)
theorem zi6 (nx : SiD -> Nat -> Option SiD) (s0 : SiD) : ∀ k,k <= (tou nx s0 k).length -> TInv nx (tou nx s0 k) (9 * k) /\ ∀ j,j <= k -> j <= (tou nx s0 j).length
 | 0,h => by
  refine ⟨⟨fun i j a b hi hj _ => ?_,fun j a hj => by simp [tou] at hj,fun i j a b _ hi => by simp [tou] at hi,fun i a p y _ _ _ ht => by omega⟩,fun j hj => by omega⟩
  have h1:=(List.getElem?_eq_some_iff.1 hi).1
  have h2:=(List.getElem?_eq_some_iff.1 hj).1
  simp [tou] at h1 h2;omega
 | k + 1,h => by
  have hk : k < (tou nx s0 k).length:=by
   apply Nat.lt_of_not_le;intro hc
   have : (tou nx s0 k)[k]? = none:=List.getElem?_eq_none hc
   rw [tou,this] at h;simp only at h;omega
  obtain ⟨h1,h2⟩:=zi6 nx s0 k (Nat.le_of_lt hk)
  obtain ⟨a,ha⟩ : ∃ a,(tou nx s0 k)[k]? = some a:=⟨_,List.getElem?_eq_getElem hk⟩
  refine ⟨?_,fun j hj => ?_⟩
  ·have:=h1.tin ha 9 (Nat.le_refl _)
   rw [tou,ha];simpa [Nat.mul_add] using this
  ·rcases Nat.lt_or_ge j (k + 1) with hj' | hj'
   ·exact h2 j (by omega)
   ·have : j = k + 1:=by omega
    subst this;exact h
end
end
end Go.Proofs.YtkkekopomiehlaaGreat
