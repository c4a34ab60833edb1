import Derived.Deep.MidRow
import Derived.Laws.PanicsMore
import Derived.Test.YtkkekopomiehlaaGreatCFl2
import Derived.BigFrame
set_option linter.unusedVariables false
set_option linter.unusedSimpArgs false
set_option maxHeartbeats 40000000
set_option maxRecDepth 4000
namespace Go.Proofs.YtkkekopomiehlaaGreat
section
open Go.RowKit
theorem Tryz.infoSet : (Tryz.prog.info? 49).map (·.size) = some 9:=by kernel_rfl
theorem zqj {P : Program} {w : World} (t e : TypeId) (d : TypeDesc) (n : Nat) (cs : Array Value) (k : IntKind) (i : Nat) (h : P.underlying t = some (.array n e)) (hs : (P.info? e).map (·.size) = some 1) (he : P.underlying e = some d) (hd : ∀ fs,d ≠ .struct fs) (hd2 : ∀ m u,d ≠ .array m u) (hin : i < n) (v : Value) (hv : cs[i]? = some v) :
  (Instr.index t (.agg cs) (.int k i)).run P w = .ok v w:=by
 have hn : (0 <= (i : Int) /\ (i : Int) < (n : Int)):=by omega
 cases hq : P.info? e with
 | none => simp [hq] at hs
 | some ii =>
  have hi : ii.size = 1:=by simpa [hq] using hs
  have hag : (isAgg e).run P w = .ok false w:=by
   unfold isAgg
   rw [Sem.run_bind,run_underlying he w]
   cases d <;> simp_all
  simp [Instr.index,run_underlying h,asIntOf,hn,go_sem,sizeOf,typeInfo,hq,hi,hin,hag,hv]
theorem Tryz.infoBool : (Tryz.prog.info? 4).map (·.size) = some 1:=by kernel_rfl
theorem zay (w : World) (o : Obj) : (w.alloc o).heap[w.heap.size]? = some o:=by show (w.heap.push o)[w.heap.size]? = some o;simp
theorem zbr {w : World} {b : Nat} {t : TypeId} {cs : List Value} (h : w.heap[b]? = some (.cells cs.toArray t (0,0))) : w.rangeAt b 0 cs:=fun j v hj => by
 rw [Nat.zero_add]
 simp only [World.cell?,h]
 simpa using hj
theorem zag {w w' : World} (hb : Below w.heap.size w w') {b o : Nat} {cs : List Value} (h : w.rangeAt b o cs) : w'.rangeAt b o cs:=fun j v hj => by
 have h1:=h j v hj
 rw [hb.cell (p:=⟨b,o + j,none⟩) (World.block_lt_of_cell? w ⟨b,o + j,none⟩ h1)];exact h1
theorem belS (w : World) (o : Obj) : Below w.heap.size w (w.alloc o):=(Below.refl _ _).alloc (Nat.le_refl _) _
def algB (xs ys : List Bool) : Bool:=(List.range 9).all fun i => !(xs.getD i false) || ys.getD i false
theorem zf5 (F : Nat -> Bool) (x : Nat) : (List.range (x + 1)).all F = ((List.range x).all F && F x):=by rw [List.range_succ,List.all_append];simp
theorem zhj {F : Nat -> Bool} {x n : Nat} (hx : x < n) (h : F x = false) : (List.range n).all F = false:=by
 cases hc : (List.range n).all F with
 | false => rfl
 | true => rw [List.all_eq_true] at hc;rw [hc x (List.mem_range.2 hx)] at h;cases h
theorem zjg (xs ys : List Bool) (hx : xs.length = 9) (hy : ys.length = 9) (w : World) :
  Calls Tryz.prog 51 #[.agg (xs.map Value.bool).toArray,.agg (ys.map Value.bool).toArray] w fun e W => e = .returned (.bool (algB xs ys)) /\ Below w.heap.size w W:=by
 have hr:=zag (belS _ (.cells (ys.map Value.bool).toArray 49)) (zbr (zay w (.cells (xs.map Value.bool).toArray 49)))
 have hq:=zbr (zay (w.alloc (.cells (xs.map Value.bool).toArray 49)) (.cells (ys.map Value.bool).toArray 49))
 rw [show (w.alloc (.cells (xs.map Value.bool).toArray 49)).heap.size = w.heap.size + 1 by simp] at hq
 have hi : (Tryz.prog.info? 49).map (·.size) = some (xs.map Value.bool).length:=by rw [List.length_map,hx];exact Tryz.infoSet
 have hB:=(belS w (.cells (xs.map Value.bool).toArray 49)).alloc (by simp) (.cells (ys.map Value.bool).toArray 49)
 obtain ⟨R,hR⟩ : ∃ R,R = algB xs ys:=⟨_,rfl⟩
 rw [<- hR]
 have HR : Hid (R = (List.range 9).all fun i => !(xs.getD i false) || ys.getD i false):=hR
 have HX : Hid (xs.length = 9):=hx
 have HY : Hid (ys.length = 9):=hy
 clear hR hx hy
 go_enter Tryz.func51,Tryz.ntmps51
 go_wp2_with (refine wpList_load_mid (w:=(w.alloc (.cells (xs.map Value.bool).toArray 49)).alloc (.cells (ys.map Value.bool).toArray 49)) rfl 49 _ rfl _ _ rfl (xs.map Value.bool) _ hr Tryz.underlying49 rfl hi ?_)
 go_loopw [8] (fun vi wr => ∃ i : Nat,i <= 9 /\ vi = .int .i64 i /\ Hid ((List.range i).all (fun i => !(xs.getD i false) || ys.getD i false) = true) /\ wr = (w.alloc (.cells (xs.map Value.bool).toArray 49)).alloc (.cells (ys.map Value.bool).toArray 49)) (fun i _ => 9 - (intOf i).toNat)
 case atStart => exact ⟨0,by omega,rfl,(by show _ = _;rfl),rfl⟩
 case round =>
  obtain ⟨i,hi9,rfl,hn,rfl⟩:=hrel
  by_cases hlt : i < 9
  ·obtain ⟨x,hxi⟩ : ∃ x,xs[i]? = some x:=⟨xs[i]'(by rw [HX.out];omega),List.getElem?_eq_getElem (by rw [HX.out];omega)⟩
   obtain ⟨y,hyi⟩ : ∃ y,ys[i]? = some y:=⟨ys[i]'(by rw [HY.out];omega),List.getElem?_eq_getElem (by rw [HY.out];omega)⟩
   have hc:=hq i (.bool y) (by rw [List.getElem?_map,hyi];rfl)
   rw [Nat.zero_add] at hc
   have hx0 := znn i
   have hx1 : (i : Int) < 9:=by omega
   have hidx:=fun W => zqj (P:=Tryz.prog) (w:=W) 49 4 .bool 9 (xs.map Value.bool).toArray .i64 i Tryz.underlying49 Tryz.infoBool Tryz.underlying4 (fun _ h => by cases h) (fun _ _ h => by cases h) hlt (.bool x) (by simp [hxi])
   have hFx : (!(xs.getD i false) || ys.getD i false) = (!x || y):=by simp [List.getD,hxi,hyi]
   have hno : (!x || y) = false -> R = false:=fun h => by rw [HR.out];exact zhj hlt (by rw [hFx];exact h)
   have hyes : (!x || y) = true -> Hid ((List.range (i + 1)).all (fun i => !(xs.getD i false) || ys.getD i false) = true):=fun h => by show _ = _;rw [zf5,hn.out,hFx,h];rfl
   clear hFx hn hxi hyi hq HR
   cases x with
   | true =>
    cases y with
    | true =>
     have hy':=hyes rfl
     clear hno hyes
     go_wp2_with fail
     go_roundw
     case rel => exact ⟨i + 1,by omega,by go_num,hy',trivial⟩
     case measure => simp [intOf];omega
    | false =>
     have hR1:=hno rfl
     clear hno hyes
     subst hR1
     go_wp2_with fail
     go_ret
     exact ⟨rfl,hB⟩
   | false =>
    have hy':=hyes rfl
    clear hno hyes
    go_wp2_with fail
    go_roundw
    case rel => exact ⟨i + 1,by omega,by go_num,hy',trivial⟩
    case measure => simp [intOf];omega
  ·have hR1 : R = true:=by rw [HR.out,<- hn.out,show i = 9 by omega]
   clear HR hn
   subst hR1
   go_wp2_with fail
   go_ret
   exact ⟨rfl,hB⟩
end
section
open Go.RowKit
def tabC (T : List (List Bool)) : List Value:=T.flatten.map Value.bool
def tabOk (T : List (List Bool)) : Prop:=T.length = 8 /\ ∀ r ∈ T,r.length = 8
theorem zj7 : ∀ (l : List (List Bool)) (i j : Nat) (r : List Bool),(∀ r ∈ l,r.length = 8) -> l[i]? = some r -> j < 8 -> l.flatten[i * 8 + j]? = r[j]?
 | [],i,j,r,h,hi,hj => by simp at hi
 | q :: l,0,j,r,h,hi,hj => by
  simp at hi;subst hi
  rw [List.flatten_cons,List.getElem?_append_left (by rw [h q (by simp)];omega),show 0 * 8 + j = j by omega]
 | q :: l,i + 1,j,r,h,hi,hj => by
  rw [List.getElem?_cons_succ] at hi
  have hq:=h q (by simp)
  rw [List.flatten_cons,List.getElem?_append_right (by rw [hq];omega),hq,show (i + 1) * 8 + j - 8 = i * 8 + j by omega]
  exact zj7 l i j r (fun r hr => h r (by simp [hr])) hi hj
def tabG (T : List (List Bool)) (i j : Nat) : Bool:=(T.getD i []).getD j false
def crB (T : List (List Bool)) (x y : Int) : Bool:=((x == -1) || (y == -1)) || (numB x 8 && numB y 8 && tabG T x.toNat y.toNat)
theorem zmh (T : List (List Bool)) (hT : tabOk T) (x y : Int) (w : World) : Calls Tryz.prog 90 #[.agg (tabC T).toArray,.int .i64 x,.int .i64 y] w fun e W => e = .returned (.bool (crB T x y)) /\ Below w.heap.size w W:=by
 have hq:=zbr (zay w (.cells (tabC T).toArray 101))
 have n1:=fun w => zct x 8 w
 have n2:=fun w => zct y 8 w
 obtain ⟨R,hR⟩ : ∃ R,R = crB T x y:=⟨_,rfl⟩
 rw [<- hR]
 unfold crB at hR
 have hB:=belS w (.cells (tabC T).toArray 101)
 by_cases hx : x = -1
 ·subst hx
  have hR1 : R = true:=by rw [hR];simp
  clear hR hq n1 n2
  subst hR1
  go_enter Tryz.func90,Tryz.ntmps90
  go_wp2_with fail
  go_ret
  exact ⟨rfl,hB⟩
 by_cases hy : y = -1
 ·subst hy
  have hx' : (x == -1) = false:=by simp [hx]
  have hR1 : R = true:=by rw [hR];simp
  clear hR hq n1 n2 hx
  subst hR1
  go_enter Tryz.func90,Tryz.ntmps90
  go_wp2_with fail
  go_ret
  exact ⟨rfl,hB⟩
 have hx' : (x == -1) = false:=by simp [hx]
 have hy' : (y == -1) = false:=by simp [hy]
 rw [hx',hy'] at hR
 clear hx hy
 by_cases h1 : 0 <= x /\ x < 8
 ·have e1 : numB x 8 = true:=by unfold numB;simp;omega
  rw [e1] at n1 hR
  by_cases h2 : 0 <= y /\ y < 8
  ·have e2 : numB y 8 = true:=by unfold numB;simp;omega
   rw [e2] at n2 hR
   obtain ⟨i,rfl⟩ : ∃ n : Nat,x = n:=⟨x.toNat,by omega⟩
   obtain ⟨j,rfl⟩ : ∃ n : Nat,y = n:=⟨y.toNat,by omega⟩
   rw [Int.toNat_natCast,Int.toNat_natCast] at hR
   obtain ⟨r,hr⟩ : ∃ r,T[i]? = some r:=⟨T[i]'(by rw [hT.1];omega),List.getElem?_eq_getElem (by rw [hT.1];omega)⟩
   have lr:=hT.2 r (List.mem_of_getElem? hr)
   obtain ⟨z,hz⟩ : ∃ z,r[j]? = some z:=⟨r[j]'(by omega),List.getElem?_eq_getElem (by omega)⟩
   have hc:=hq (i * 8 + j) (.bool z) (by rw [tabC,List.getElem?_map,zj7 _ _ _ _ hT.2 hr (by omega),hz];rfl)
   rw [Nat.zero_add] at hc
   have hR1 : R = z:=by rw [hR];simp [tabG,List.getD,hr,hz]
   have a1 : (i : Int) < 8:=h1.2
   have a2 : (j : Int) < 8:=h2.2
   have a3 := znn i
   have a4 := znn j
   clear hR hq hr hz h1 h2 e1 e2 hT lr
   subst hR1
   go_enter Tryz.func90,Tryz.ntmps90
   go_wp2_with (first | (go_at_call 69;have hq:=m1;refine (n2 _).mono ?_;rintro e _ ⟨rfl,rfl⟩;have m2 : True:=trivial) | (go_at_call 69;refine (n1 _).mono ?_;rintro e _ ⟨rfl,rfl⟩;have m1 : True:=trivial))
   go_ret
   exact ⟨rfl,hB⟩
  ·have e2 : numB y 8 = false:=by unfold numB;simp;omega
   rw [e2] at n2 hR
   have hR1 : R = false:=by rw [hR];simp
   clear hR hq h1 h2 e1 e2
   subst hR1
   go_enter Tryz.func90,Tryz.ntmps90
   go_wp2_with (first | (go_at_call 69;have hq:=m1;refine (n2 _).mono ?_;rintro e _ ⟨rfl,rfl⟩;have m2 : True:=trivial) | (go_at_call 69;refine (n1 _).mono ?_;rintro e _ ⟨rfl,rfl⟩;have m1 : True:=trivial))
   go_ret
   exact ⟨rfl,hB⟩
 ·have e1 : numB x 8 = false:=by unfold numB;simp;omega
  rw [e1] at n1 hR
  have hR1 : R = false:=by rw [hR];simp
  clear hR hq h1 e1
  subst hR1
  go_enter Tryz.func90,Tryz.ntmps90
  go_wp2_with (go_at_call 69;refine (n1 _).mono ?_;rintro e _ ⟨rfl,rfl⟩)
  go_ret
  exact ⟨rfl,hB⟩
theorem Tryz.infoTab : (Tryz.prog.info? 101).map (·.size) = some 64:=by kernel_rfl
theorem zj8 : ∀ (l : List (List Bool)),(∀ r ∈ l,r.length = 8) -> l.flatten.length = l.length * 8
 | [],_ => rfl
 | q :: l,h => by rw [List.flatten_cons,List.length_append,h q (by simp),zj8 l (fun r hr => h r (by simp [hr])),List.length_cons];omega
theorem tabOk.len {T : List (List Bool)} (h : tabOk T) : (tabC T).length = 64:=by rw [tabC,List.length_map,zj8 T h.2,h.1]
theorem tabOk.info {T : List (List Bool)} (h : tabOk T) : (Tryz.prog.info? 101).map (·.size) = some (tabC T).length:=by rw [h.len];exact Tryz.infoTab
theorem zdi {P : Program} {ops : Array Oper} {rest : List Oper} {op : Oper} {a : Act} {w : World} {Q : Exit -> Act -> World -> Prop} (hw : Region.wanted op (yielded ops a.tmps) = true) (ty : TypeId) (x : Operand) (ho : op.op = .load ty x)
  (b o : Nat) (hx : a.eval x = .pointer (some ⟨b,o,none⟩)) (cs : List Value) (d : TypeDesc) (hc : w.rangeAt b o cs)
  (hu : P.underlying ty = some d) (hd : d.isRow = true) (hi : (P.info? ty).map (·.size) = some cs.length)
  (h : wpList P ops Q rest (a.put op.dst (.agg cs.toArray)) w) : wpList P ops Q (op :: rest) a w :=
 Go.BigFrame.wpList_want hw fun K hK => wp_load_mid ty x ho b o hx cs d hc hu hd hi (hK _ _ h)
def gaB (T : List (List Bool)) (p q : PinD) : Bool:=crB T p.w q.r && crB T q.w p.r
theorem zur (T : List (List Bool)) (hT : tabOk T) (p q : PinD) (w : World) : Calls Tryz.prog 71 #[.agg (tabC T).toArray,.agg #[.int .i64 p.t,.int .i64 p.w,.int .i64 p.r],.agg #[.int .i64 q.t,.int .i64 q.w,.int .i64 q.r]] w fun e W => e = .returned (.bool (gaB T p q)) /\ Below w.heap.size w W:=by
 obtain ⟨pt,pw,pr⟩:=p
 obtain ⟨qt,qw,qr⟩:=q
 have c1:=fun w => zmh T hT pw qr w
 have c2:=fun w => zmh T hT qw pr w
 have hR : Hid (gaB T ⟨pt,pw,pr⟩ ⟨qt,qw,qr⟩ = (crB T pw qr && crB T qw pr)):=rfl
 obtain ⟨R,hRR⟩ : ∃ R,R = gaB T ⟨pt,pw,pr⟩ ⟨qt,qw,qr⟩:=⟨_,rfl⟩
 rw [<- hRR] at hR ⊢
 generalize crB T pw qr = x at c1 hR
 generalize crB T qw pr = y at c2 hR
 clear hRR
 simp only
 have it:=hT.info
 have hBB : Below w.heap.size w (((w.alloc (.cells (tabC T).toArray 101)).alloc (.cells #[.int .i64 pt,.int .i64 pw,.int .i64 pr] 94)).alloc (.cells #[.int .i64 qt,.int .i64 qw,.int .i64 qr] 94)):=thn3 (thn3 (belS w _) (belS _ _)) (belS _ _)
 have rt:=zag (belS _ (.cells #[.int .i64 qt,.int .i64 qw,.int .i64 qr] 94)) (zag (belS _ (.cells #[.int .i64 pt,.int .i64 pw,.int .i64 pr] 94)) (zbr (zay w (.cells (tabC T).toArray 101))))
 have hz1 : (w.alloc (.cells (tabC T).toArray 101)).heap.size = w.heap.size + 1:=by simp
 have pb:=new3 (.cells #[.int .i64 qt,.int .i64 qw,.int .i64 qr] 94) (box3 (w.alloc (.cells (tabC T).toArray 101)) (.int .i64 pt) (.int .i64 pw) (.int .i64 pr) 94)
 rw [hz1] at pb
 have qb:=box3 ((w.alloc (.cells (tabC T).toArray 101)).alloc (.cells #[.int .i64 pt,.int .i64 pw,.int .i64 pr] 94)) (.int .i64 qt) (.int .i64 qw) (.int .i64 qr) 94
 rw [show ((w.alloc (.cells (tabC T).toArray 101)).alloc (.cells #[.int .i64 pt,.int .i64 pw,.int .i64 pr] 94)).heap.size = w.heap.size + 1 + 1 by simp] at qb
 clear hT hz1
 cases x with
 | false =>
  have hR1 : R = false:=hR.out
  clear hR
  subst hR1
  go_enter Tryz.func71,Tryz.ntmps71
  go_wp2_with (first
   | (refine wpList_load_mid (w:=((w.alloc (.cells (tabC T).toArray 101)).alloc (.cells #[.int .i64 pt,.int .i64 pw,.int .i64 pr] 94)).alloc (.cells #[.int .i64 qt,.int .i64 qw,.int .i64 qr] 94)) rfl 101 _ rfl w.heap.size 0 rfl (tabC T) _ rt Tryz.underlying101 rfl it ?_)
   | (go_at_call 90;refine (c1 _).mono ?_;rintro e w1 ⟨rfl,hb1⟩))
  go_ret
  exact ⟨rfl,thn3 hBB hb1⟩
 | true =>
  have hR1 : R = y:=hR.out
  clear hR
  subst hR1
  go_enter Tryz.func71,Tryz.ntmps71
  go_wp2_with (first
   | (have hq:=hb1;(refine zdi (w:=w1) (by rfl) 101 _ rfl w.heap.size 0 rfl (tabC T) _ rt1 Tryz.underlying101 rfl it ?_))
   | (refine wpList_load_mid (w:=((w.alloc (.cells (tabC T).toArray 101)).alloc (.cells #[.int .i64 pt,.int .i64 pw,.int .i64 pr] 94)).alloc (.cells #[.int .i64 qt,.int .i64 qw,.int .i64 qr] 94)) rfl 101 _ rfl w.heap.size 0 rfl (tabC T) _ rt Tryz.underlying101 rfl it ?_)
   | (go_at_call 90;have hq:=hb1;refine (c2 _).mono ?_;rintro e w2 ⟨rfl,hb2⟩)
   | (go_at_call 90;refine (c1 _).mono ?_;rintro e w1 ⟨rfl,hb1⟩;have rt1:=zag hb1 rt;have pb1:=zak hb1 pb;have qb1:=zak hb1 qb))
  go_ret
  exact ⟨rfl,thn3 (thn3 hBB hb1) hb2⟩
end
section
open Go.RowKit
structure ChD where
 thr : List Bool
 fst : List Bool
 wnt : List Bool
 alg : List (List Bool)
 fev : List (List Bool)
def ChD.bits (c : ChD) : List Bool:=c.thr ++ (c.fst ++ (c.wnt ++ (c.alg.flatten ++ c.fev.flatten)))
def ChD.cells (c : ChD) : List Value:=c.bits.map Value.bool
structure ChD.ok (c : ChD) : Prop where
 thr : c.thr.length = 9
 fst : c.fst.length = 9
 wnt : c.wnt.length = 9
 alg : c.alg.length = 9
 algr : ∀ r ∈ c.alg,r.length = 9
 fev : c.fev.length = 9
 fevr : ∀ r ∈ c.fev,r.length = 9
theorem zhv : ∀ (l : List (List Bool)) (i j : Nat) (r : List Bool),(∀ r ∈ l,r.length = 9) -> l[i]? = some r -> j < 9 -> l.flatten[i * 9 + j]? = r[j]?
 | [],i,j,r,h,hi,hj => by simp at hi
 | q :: l,0,j,r,h,hi,hj => by
  simp at hi;subst hi
  rw [List.flatten_cons,List.getElem?_append_left (by rw [h q (by simp)];omega),show 0 * 9 + j = j by omega]
 | q :: l,i + 1,j,r,h,hi,hj => by
  rw [List.getElem?_cons_succ] at hi
  have hq:=h q (by simp)
  rw [List.flatten_cons,List.getElem?_append_right (by rw [hq];omega),hq,show (i + 1) * 9 + j - 9 = i * 9 + j by omega]
  exact zhv l i j r (fun r hr => h r (by simp [hr])) hi hj
theorem zfd : ∀ (l : List (List Bool)),(∀ r ∈ l,r.length = 9) -> l.flatten.length = l.length * 9
 | [],_ => rfl
 | q :: l,h => by rw [List.flatten_cons,List.length_append,h q (by simp),zfd l (fun r hr => h r (by simp [hr])),List.length_cons];omega
theorem ChD.ok.get_thr {c : ChD} (h : c.ok) {p : Nat} {b : Bool} (hp : c.thr[p]? = some b) : c.bits[p]? = some b:=by
 have hl:=(List.getElem?_eq_some_iff.1 hp).1
 rw [ChD.bits,List.getElem?_append_left hl];exact hp
theorem ChD.ok.get_fst {c : ChD} (h : c.ok) {p : Nat} {b : Bool} (hp : c.fst[p]? = some b) : c.bits[9 + p]? = some b:=by
 have hl:=(List.getElem?_eq_some_iff.1 hp).1
 rw [ChD.bits,List.getElem?_append_right (by rw [h.thr];omega),h.thr,show 9 + p - 9 = p by omega,List.getElem?_append_left hl];exact hp
theorem ChD.ok.get_alg {c : ChD} (h : c.ok) {p j : Nat} {r : List Bool} {b : Bool} (hp : c.alg[p]? = some r) (hj : r[j]? = some b) : c.bits[27 + p * 9 + j]? = some b:=by
 have hr:=h.algr r (List.mem_of_getElem? hp)
 have hjl:=(List.getElem?_eq_some_iff.1 hj).1
 have hpl:=(List.getElem?_eq_some_iff.1 hp).1
 have hfl:=zfd c.alg h.algr
 have:=h.alg
 rw [ChD.bits,List.getElem?_append_right (by rw [h.thr];omega),h.thr,List.getElem?_append_right (by rw [h.fst];omega),h.fst,List.getElem?_append_right (by rw [h.wnt];omega),h.wnt,show 27 + p * 9 + j - 9 - 9 - 9 = p * 9 + j by omega,List.getElem?_append_left (by omega),zhv _ _ _ _ h.algr hp (by omega)]
 exact hj
theorem ChD.ok.get_fev {c : ChD} (h : c.ok) {p j : Nat} {r : List Bool} {b : Bool} (hp : c.fev[p]? = some r) (hj : r[j]? = some b) : c.bits[108 + p * 9 + j]? = some b:=by
 have hr:=h.fevr r (List.mem_of_getElem? hp)
 have hjl:=(List.getElem?_eq_some_iff.1 hj).1
 have hfl:=zfd c.alg h.algr
 have:=h.alg
 rw [ChD.bits,List.getElem?_append_right (by rw [h.thr];omega),h.thr,List.getElem?_append_right (by rw [h.fst];omega),h.fst,List.getElem?_append_right (by rw [h.wnt];omega),h.wnt,List.getElem?_append_right (by omega),hfl,h.alg,show 108 + p * 9 + j - 9 - 9 - 9 - 9 * 9 = p * 9 + j by omega,zhv _ _ _ _ h.fevr hp (by omega)]
 exact hj
structure SiD where
 has : List Bool
 had : List Bool
def SiD.cells (s : SiD) : List Value:=(s.has ++ s.had).map Value.bool
def SiD.ok (s : SiD) : Prop:=s.has.length = 9 /\ s.had.length = 9
def mvB (c : ChD) (s : SiD) (p : Int) : Bool:=numB p 9 && c.thr.getD p.toNat false && !(s.has.getD p.toNat false)
theorem zu0 (c : ChD) (s : SiD) (p : Int) (hc : c.ok) (hs : s.ok) (w : World) :
  Calls Tryz.prog 49 #[.agg c.cells.toArray,.agg s.cells.toArray,.int .i64 p] w fun e W => e = .returned (.bool (mvB c s p)) /\ Below w.heap.size w W:=by
 have hq1:=zag (belS _ (.cells s.cells.toArray 106)) (zbr (zay w (.cells c.cells.toArray 52)))
 have hq2:=zbr (zay (w.alloc (.cells c.cells.toArray 52)) (.cells s.cells.toArray 106))
 rw [show (w.alloc (.cells c.cells.toArray 52)).heap.size = w.heap.size + 1 by simp] at hq2
 have hB:=(belS w (.cells c.cells.toArray 52)).alloc (by simp) (.cells s.cells.toArray 106)
 have hnum:=fun w => zct p 9 w
 obtain ⟨R,hR⟩ : ∃ R,R = mvB c s p:=⟨_,rfl⟩
 rw [<- hR]
 unfold mvB at hR
 by_cases hp : 0 <= p /\ p < 9
 ·have hnn : numB p 9 = true:=by unfold numB;simp;omega
  rw [hnn] at hnum hR
  obtain ⟨n,rfl⟩ : ∃ n : Nat,p = n:=⟨p.toNat,by omega⟩
  rw [Int.toNat_natCast] at hR
  obtain ⟨x,hx⟩ : ∃ x,c.thr[n]? = some x:=⟨c.thr[n]'(by rw [hc.thr];omega),List.getElem?_eq_getElem (by rw [hc.thr];omega)⟩
  obtain ⟨y,hy⟩ : ∃ y,s.has[n]? = some y:=⟨s.has[n]'(by rw [hs.1];omega),List.getElem?_eq_getElem (by rw [hs.1];omega)⟩
  have k1:=hq1 n (.bool x) (by rw [ChD.cells,List.getElem?_map,hc.get_thr hx];rfl)
  have k2:=hq2 n (.bool y) (by rw [SiD.cells,List.getElem?_map,List.getElem?_append_left (by rw [hs.1];omega),hy];rfl)
  rw [Nat.zero_add] at k1 k2
  have hR1 : R = (x && !y):=by rw [hR];simp [List.getD,hx,hy]
  have hn0 := znn n
  have hn9 : (n : Int) < 9:=hp.2
  clear hR hq1 hq2 hx hy hc hs hnn hp
  subst hR1
  cases x <;> cases y <;> (
   go_enter Tryz.func49,Tryz.ntmps49
   go_wp2_with (go_at_call 69;refine (hnum _).mono ?_;rintro e _ ⟨rfl,rfl⟩)
   go_ret
   exact ⟨rfl,hB⟩)
 ·have hnn : numB p 9 = false:=by unfold numB;simp;omega
  rw [hnn] at hnum hR
  have hR1 : R = false:=hR
  clear hR hq1 hq2 hp hnn
  subst hR1
  go_enter Tryz.func49,Tryz.ntmps49
  go_wp2_with (go_at_call 69;refine (hnum _).mono ?_;rintro e _ ⟨rfl,rfl⟩)
  go_ret
  exact ⟨rfl,hB⟩
end
end Go.Proofs.YtkkekopomiehlaaGreat
