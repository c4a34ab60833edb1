import Derived.Test.YtkkekopomiehlaaGreatCGp2
import Derived.Great.BuildSlice
set_option linter.unusedVariables false
set_option linter.unusedSimpArgs false
set_option maxHeartbeats 40000000
set_option maxRecDepth 4000
namespace Go.Proofs.YtkkekopomiehlaaGreat
section
open Go.RowKit
open Go.Lib (below_setCells)
def stC (t : TS SiD) : List Value:=t.now.cells ++ [.int .i64 t.fr,.int .i64 t.to]
def stsC : List (TS SiD) -> List Value
 | [] => []
 | t :: L => stC t ++ stsC L
def zc8 (L : List (TS SiD)) : Prop:=∀ t ∈ L,t.now.ok
theorem zdq {t : TS SiD} (h : t.now.ok) : (stC t).length = 20:=by
 have:=h.len
 unfold stC;simp [this]
theorem zix : ∀ {L : List (TS SiD)},zc8 L -> (stsC L).length = L.length * 20
 | [],_ => rfl
 | t :: L,h => by
  rw [stsC,List.length_append,zdq (h t (by simp)),zix (fun x hx => h x (by simp [hx])),List.length_cons];omega
theorem zq3 : ∀ (L : List (TS SiD)) (t : TS SiD),stsC (L ++ [t]) = stsC L ++ stC t
 | [],t => by simp [stsC]
 | a :: L,t => by rw [List.cons_append,stsC,zq3 L t,stsC,List.append_assoc]
theorem zq2 : ∀ {L : List (TS SiD)} {i j : Nat} {t : TS SiD} {v : Value},zc8 L -> L[i]? = some t -> (stC t)[j]? = some v -> (stsC L)[i * 20 + j]? = some v
 | [],i,j,t,v,h,hi,hj => by simp at hi
 | q :: L,0,j,t,v,h,hi,hj => by
  simp at hi;subst hi
  have:=(List.getElem?_eq_some_iff.1 hj).1
  rw [stsC,List.getElem?_append_left (by omega),show 0 * 20 + j = j by omega];exact hj
 | q :: L,i + 1,j,t,v,h,hi,hj => by
  rw [List.getElem?_cons_succ] at hi
  rw [stsC,List.getElem?_append_right (by rw [zdq (h q (by simp))];omega),zdq (h q (by simp)),show (i + 1) * 20 + j - 20 = i * 20 + j by omega]
  exact zq2 (fun x hx => h x (by simp [hx])) hi hj
theorem ziy {w : World} {g : Nat} {L : List (TS SiD)} {i : Nat} {t : TS SiD} (hr : w.rangeAt g 0 (stsC L)) (h : zc8 L) (hi : L[i]? = some t) : w.rangeAt g (i * 20) (stC t):=fun j v hj => by
 have:=hr (i * 20 + j) v (zq2 h hi hj)
 rw [Nat.zero_add] at this;exact this
theorem Tryz.infoStp : (Tryz.prog.info? 123).map (·.size) = some 20:=by kernel_rfl
theorem Tryz.eqgSit : Tryz.prog.eqGuardType Tryz.prog.depth 106 = false:=by kernel_rfl
theorem Tryz.eqgSet : Tryz.prog.eqGuardType Tryz.prog.depth 49 = false:=by kernel_rfl
theorem ziw (t : TS SiD) : (stC t).toArray.all (·.oneCell') = true:=all_oneCell_toArray fun v hv => by
 rcases List.mem_append.1 hv with h | h
 ·unfold SiD.cells at h
  obtain ⟨b,_,rfl⟩:=List.mem_map.1 h
  rfl
 ·simp at h;rcases h with rfl | rfl <;> rfl
theorem zcq {P : Program} {ops : Array Oper} {rest : List Oper} {op : Oper} {a : Act} {w : World} {Q : Exit -> Act -> World -> Prop} (hgd : op.guard = none) (ty : TypeId) (x y : Operand) (ho : op.op = .store ty x y)
  (b o : Nat) (cells : Array Value) (hx : a.eval x = .pointer (some ⟨b,o,none⟩)) (hy : a.eval y = .agg cells)
  (ht : w.there b o cells.size) (hi : (P.info? ty).map (·.size) = some cells.size) (h1 : cells.all (·.oneCell') = true) (R : World -> Prop) (hR : R (w.setCells b o cells.toList))
  (h : ∀ W,R W -> wpList P ops Q rest (a.put op.dst undef) W) : wpList P ops Q (op :: rest) a w :=
 wpList_store_mid hgd ty x y ho b o cells hx hy ht hi h1 (h _ hR)
theorem zsy {L : List (TS SiD)} {y : SiD} {i : Nat} {t : TS SiD} (hi : L[i]? = some t) : (L.take (i + 1)).any (fun t => zg3 t.now y) = ((L.take i).any (fun t => zg3 t.now y) || zg3 t.now y):=by
 rw [List.take_add_one,hi,List.any_append];simp
theorem zu2 (L : List (TS SiD)) (hL : zc8 L) (y : SiD) (hy : y.ok) (g cap : Nat) (w : World) (hlen : L.length <= 262144) (hr : w.rangeAt g 0 (stsC L)) :
  Calls Tryz.prog 60 #[.slice (some ⟨g,0,none⟩) L.length cap,.agg y.cells.toArray] w fun e W => e = .returned (.bool (L.any fun t => zg3 t.now y)) /\ Below w.heap.size w W:=by
 have hq1:=zbr (zay w (.cells y.cells.toArray 106))
 obtain ⟨y1,y2,y3⟩:=zit hy
 obtain ⟨R,hR⟩ : ∃ R,R = L.any (fun t => zg3 t.now y):=⟨_,rfl⟩
 rw [<- hR]
 have HR:= zab hR
 have HL:= zab hL
 have HY:= zab hy
 have hb0:=belS w (.cells y.cells.toArray 106)
 have hrr:=zag hb0 hr
 have HRR:= zab hrr
 clear hR hL hy hr hrr
 go_enter Tryz.func60,Tryz.ntmps60
 go_wp2_with fail
 go_loopw [9] (fun vi wr => ∃ i : Nat,i <= L.length /\ vi = .int .i64 i /\ Hid ((L.take i).any (fun t => zg3 t.now y) = false) /\ wr.rangeAt w.heap.size 0 y.cells /\ Below (w.heap.size + 1) (w.alloc (.cells y.cells.toArray 106)) wr) (fun i _ => L.length - (intOf i).toNat)
 case atStart => exact ⟨0,Nat.zero_le _,rfl,(by show _ = _;rfl),hq1,Below.refl _ _⟩
 case round =>
  obtain ⟨i,hi,rfl,hn,rq,hb⟩:=hrel
  rename World => w5
  have hbw : Below w.heap.size w w5:=hb0.trans (hb.mono (by simp))
  by_cases hlt : i < L.length
  ·obtain ⟨t,ht⟩ : ∃ t,L[i]? = some t:=⟨L[i],List.getElem?_eq_getElem hlt⟩
   have hto:=HL.out t (List.mem_of_getElem? ht)
   have r1:=ziy (zag (hb.mono (by simp)) HRR.out) HL.out ht
   have hst:=zsy (y:=y) ht
   rw [hn.out,Bool.false_or] at hst
   have hyes : zg3 t.now y = true -> R = true:=fun h => by rw [HR.out];exact List.any_eq_true.2 ⟨t,List.mem_of_getElem? ht,h⟩
   have heq : ∀ W,(Op.equalIn 10000 106 (.agg t.now.cells.toArray) (.agg y.cells.toArray)).run Tryz.prog W = .ok (zg3 t.now y) W:=fun W => by exact zzh W 9997 hto HY.out
   obtain ⟨t1,t2,t3⟩:=zit hto
   have hi20 : (Tryz.prog.info? 123).map (·.size) = some (stC t).length:=by rw [zdq hto];exact Tryz.infoStp
   have hi21 : (Tryz.prog.info? 123).map (·.size) = some (stC t).toArray.size:=by rw [List.size_toArray];exact hi20
   have h1:=ziw t
   have hz : ∀ cs : Array Value,cs.size = 20 -> (w5.alloc (.cells cs 123)).there w5.heap.size 0 (stC t).toArray.size:=fun cs hcs => by
    have:=zdb (zay w5 (.cells cs 123))
    rw [hcs] at this
    rw [show (stC t).toArray.size = 20 by simpa using zdq hto];exact this
   have h6 : ∀ cs : Array Value,cs.size = 20 -> (fun W : World => W.rangeAt w5.heap.size 0 t.now.cells /\ W.rangeAt w.heap.size 0 y.cells /\ Below (w.heap.size + 1) (w.alloc (.cells y.cells.toArray 106)) W) ((w5.alloc (.cells cs 123)).setCells w5.heap.size 0 (stC t)):=fun cs hcs => by
    have z5:=hb.size
    rw [za2] at z5
    refine ⟨?_,?_,?_⟩
    ·have:=zc4 (k:=0) (ds:=t.now.cells) (World.rangeAt_setCells_same _ w5.heap.size 0 (stC t) (by simpa using hz cs hcs)) (fun j v hj => by
      rw [Nat.zero_add];unfold stC;rw [List.getElem?_append_left (List.getElem?_eq_some_iff.1 hj).1];exact hj)
     exact this
    ·exact World.rangeAt_setCells_apart (zag (belS _ _) rq) _ _ _ (.inl (by omega))
    ·exact below_setCells _ (by omega) _ _ (hb.alloc (by omega) _)
   have HZ:= zab hz
   have H6:= zab h6
   have HTC:=(zab (zdq hto))
   have hx0 := znn i
   have hx1 : (i : Int) < (L.length : Int):=by omega
   have HST:= zab hst
   clear hz h6 hst hn ht
   generalize zg3 t.now y = x at heq hyes HST
   cases x with
   | true =>
    have hR1:=hyes rfl
    clear hyes HST HR
    subst hR1
    go_wp2_with (first
     | (refine wpList_load_mid (w:=w5) rfl 123 _ rfl g (i * 20) rfl (stC t) _ r1 Tryz.underlying123 rfl hi20 ?_;simp only [Act.put,List.setIfInBounds_toArray,List.set_cons_zero,List.set_cons_succ,List.getElem_toArray,List.getElem_cons_zero,List.getElem_cons_succ])
     | (refine zcq rfl 123 _ _ rfl w5.heap.size 0 (stC t).toArray rfl rfl (HZ.out _ (by rfl)) hi21 h1 (fun W => W.rangeAt w5.heap.size 0 t.now.cells /\ W.rangeAt w.heap.size 0 y.cells /\ Below (w.heap.size + 1) (w.alloc (.cells y.cells.toArray 106)) W) (H6.out _ (by rfl)) ?_;rintro w6 ⟨q1,q2,q3⟩)
     | (have hq:=m2;refine zjc rfl 106 _ _ _ rfl _ _ rfl rfl Tryz.eqgSit _ (heq _) ?_)
     | (have hq:=m1;refine wpList_load_mid (w:=w6) rfl 106 _ rfl w.heap.size 0 rfl y.cells _ q2 Tryz.underlying106 rfl y1 ?_;simp only [Act.put,List.setIfInBounds_toArray,List.set_cons_zero,List.set_cons_succ,List.getElem_toArray,List.getElem_cons_zero,List.getElem_cons_succ];have m2 : True:=trivial)
     | (have hq:=q1;refine wpList_load_mid (w:=w6) rfl 106 _ rfl w5.heap.size 0 rfl t.now.cells _ q1 Tryz.underlying106 rfl t1 ?_;simp only [Act.put,List.setIfInBounds_toArray,List.set_cons_zero,List.set_cons_succ,List.getElem_toArray,List.getElem_cons_zero,List.getElem_cons_succ];have m1 : True:=trivial))
    go_ret
    exact ⟨rfl,hb0.trans (q3.mono (by simp))⟩
   | false =>
    clear hyes
    go_wp2_with (first
     | (refine wpList_load_mid (w:=w5) rfl 123 _ rfl g (i * 20) rfl (stC t) _ r1 Tryz.underlying123 rfl hi20 ?_;simp only [Act.put,List.setIfInBounds_toArray,List.set_cons_zero,List.set_cons_succ,List.getElem_toArray,List.getElem_cons_zero,List.getElem_cons_succ])
     | (refine zcq rfl 123 _ _ rfl w5.heap.size 0 (stC t).toArray rfl rfl (HZ.out _ (by rfl)) hi21 h1 (fun W => W.rangeAt w5.heap.size 0 t.now.cells /\ W.rangeAt w.heap.size 0 y.cells /\ Below (w.heap.size + 1) (w.alloc (.cells y.cells.toArray 106)) W) (H6.out _ (by rfl)) ?_;rintro w6 ⟨q1,q2,q3⟩)
     | (have hq:=m2;refine zjc rfl 106 _ _ _ rfl _ _ rfl rfl Tryz.eqgSit _ (heq _) ?_)
     | (have hq:=m1;refine wpList_load_mid (w:=w6) rfl 106 _ rfl w.heap.size 0 rfl y.cells _ q2 Tryz.underlying106 rfl y1 ?_;simp only [Act.put,List.setIfInBounds_toArray,List.set_cons_zero,List.set_cons_succ,List.getElem_toArray,List.getElem_cons_zero,List.getElem_cons_succ];have m2 : True:=trivial)
     | (have hq:=q1;refine wpList_load_mid (w:=w6) rfl 106 _ rfl w5.heap.size 0 rfl t.now.cells _ q1 Tryz.underlying106 rfl t1 ?_;simp only [Act.put,List.setIfInBounds_toArray,List.set_cons_zero,List.set_cons_succ,List.getElem_toArray,List.getElem_cons_zero,List.getElem_cons_succ];have m1 : True:=trivial))
    go_roundw
    case rel => exact ⟨i + 1,by omega,by go_num,HST,q2,q3⟩
    case measure => simp [intOf];omega
  ·have hR1 : R = false:=by rw [HR.out];have:=hn.out;rw [List.take_of_length_le (by omega)] at this;exact this
   clear hn HR
   subst hR1
   go_wp2_with fail
   go_ret
   exact ⟨rfl,hbw⟩
end
section
open Go.RowKit
open Go.Lib (below_setCells)
def nxS (c : ChD) (s : SiD) (p : Nat) : Option SiD:=if mvB c s p = true then (if sfB c s p = true then some (aft s p) else none) else none
theorem zo1 {c : ChD} {s y : SiD} {p : Nat} (hs : s.ok) (h : nxS c s p = some y) : y.ok:=by
 unfold nxS at h
 split at h
 ·split at h
  ·cases h;exact zhh hs _
  ·cases h
 ·cases h
def touS (c : ChD) (k : Nat) : List (TS SiD):=tou (nxS c) (begD c) k
theorem ze7 {c : ChD} (hc : c.ok) (k : Nat) : zc8 (touS c k):=fun t ht => by
 obtain ⟨j,hj⟩:=List.getElem?_of_mem ht
 exact zi5 (P:=SiD.ok) (zhm hc) (fun s p y h1 h2 => zo1 h1 h2) k j t hj
def sitN (s : SiD) : Nat:=bitC s.has + 512 * bitC s.had
theorem zzf {s t : SiD} (hs : s.ok) (ht : t.ok) (h : sitN s = sitN t) : s = t:=by
 unfold sitN at h
 have a:=zf6 s.has
 have b:=zf6 t.has
 rw [hs.1] at a
 rw [ht.1] at b
 rw [SiD.eq_iff]
 exact ⟨zjk _ _ (by rw [hs.1,ht.1]) (by omega),zjk _ _ (by rw [hs.2,ht.2]) (by omega)⟩
theorem zzg {s : SiD} (hs : s.ok) : sitN s < 262144:=by
 have a:=zf6 s.has
 have b:=zf6 s.had
 rw [hs.1] at a
 rw [hs.2] at b
 unfold sitN;omega
theorem zq1 {c : ChD} {L : List (TS SiD)} {t : Nat} (h : TInv (nxS c) L t) (hok : zc8 L) : L.length <= 262144 :=
 h.len (P:=SiD.ok) (fun j a ha => hok a (List.mem_of_getElem? ha)) sitN (fun x y hx hy => zzf hx hy) (fun x hx => zzg hx)
theorem zrf {c : ChD} {L : List (TS SiD)} {k : Nat} {s : SiD} (hL : zc8 L) (hs : s.ok) (p : Nat) : zc8 (tin (nxS c) k s p L):=fun t ht => by
 obtain ⟨j,hj⟩:=List.getElem?_of_mem ht
 exact zi4 (P:=SiD.ok) (fun s p y h1 h2 => zo1 h1 h2) hs (fun j a ha => hL a (List.mem_of_getElem? ha)) p j t hj
theorem zke {s : SiD} (h : s.ok) : ∃ a0 a1 a2 a3 a4 a5 a6 a7 a8 b0 b1 b2 b3 b4 b5 b6 b7 b8,s = ⟨[a0,a1,a2,a3,a4,a5,a6,a7,a8],[b0,b1,b2,b3,b4,b5,b6,b7,b8]⟩:=by
 obtain ⟨x,y⟩:=s
 obtain ⟨h1,h2⟩:=h
 obtain ⟨a0,a1,a2,a3,a4,a5,a6,a7,a8,rfl⟩:=zh7 h1
 obtain ⟨b0,b1,b2,b3,b4,b5,b6,b7,b8,rfl⟩:=zh7 h2
 exact ⟨a0,a1,a2,a3,a4,a5,a6,a7,a8,b0,b1,b2,b3,b4,b5,b6,b7,b8,rfl⟩
theorem zs9 {s : SiD} (h : s.ok) (a b : Nat) : Tryz.prog.built 123 [(0,.agg s.cells.toArray),(1,.int .i64 a),(2,.int .i64 b)] = some (stC ⟨s,a,b⟩).toArray:=by
 obtain ⟨a0,a1,a2,a3,a4,a5,a6,a7,a8,b0,b1,b2,b3,b4,b5,b6,b7,b8,rfl⟩:=zke h
 kernel_rfl
theorem zta {s : SiD} (h : s.ok) : Tryz.prog.built 123 [(0,.agg s.cells.toArray)] = some (stC ⟨s,0,0⟩).toArray:=by
 obtain ⟨a0,a1,a2,a3,a4,a5,a6,a7,a8,b0,b1,b2,b3,b4,b5,b6,b7,b8,rfl⟩:=zke h
 kernel_rfl
theorem ztb (g n cap : Nat) {l : List Bool} (h : l.length = 9) : Tryz.prog.built 71 [(0,.slice (some ⟨g,0,none⟩) n cap),(1,.agg (l.map Value.bool).toArray)] = some (Value.slice (some ⟨g,0,none⟩) n cap :: l.map Value.bool).toArray:=by
 obtain ⟨b0,b1,b2,b3,b4,b5,b6,b7,b8,rfl⟩:=zh7 h
 kernel_rfl
theorem zmg {s : SiD} (h : s.ok) (a b : Nat) (W : World) : (Instr.buildSlice 69 1 #[(0,.agg (stC ⟨s,a,b⟩).toArray)]).run Tryz.prog W = .ok (.slice (some ⟨W.heap.size,0,none⟩) 1 1) (W.alloc (.cells (stC ⟨s,a,b⟩).toArray 123)):=by
 obtain ⟨a0,a1,a2,a3,a4,a5,a6,a7,a8,b0,b1,b2,b3,b4,b5,b6,b7,b8,rfl⟩:=zke h
 kernel_rfl
theorem zr6 {P : Program} {ops : Array Oper} {rest : List Oper} {o : Oper} {a : Act} {w : World} {Q : Exit -> Act -> World -> Prop} (hg : o.guard = none) (t : TypeId) (len : Nat) (parts : Array (Nat × Operand)) (ho : o.op = .buildSlice t len parts) (qs : List (Nat × Value)) (hq : (parts.map fun (i,x) => (i,a.eval x)).toList = qs) (v : Value) (W : World) (hr : (Instr.buildSlice t len qs.toArray).run P w = .ok v W)
  (h : wpList P ops Q rest (a.put o.dst v) W) : wpList P ops Q (o :: rest) a w:=by
 have hq : (parts.map fun (i,x) => (i,a.eval x)) = qs.toArray:=by rw [<- hq]
 refine wpList_plain hg fun K hK => ?_
 unfold Oper.wp execOp
 simp only [ho,hq,Sem.run_bind,hr,Result.andThen_ok,Sem.run_pure]
 exact hK _ _ h
theorem zl5 {P : Program} {ops : Array Oper} {rest : List Oper} {o : Oper} {a : Act} {w : World} {Q : Exit -> Act -> World -> Prop} (hg : o.guard = none) (t : TypeId) (parts : Array (Nat × Operand)) (ho : o.op = .build t parts) (qs : List (Nat × Value)) (hq : (parts.map fun (i,x) => (i,a.eval x)).toList = qs) (cs : Array Value) (hr : P.built t qs = some cs)
  (h : wpList P ops Q rest (a.put o.dst (.agg cs)) w) : wpList P ops Q (o :: rest) a w :=
 wpList_buildTo hg t parts ho _ rfl cs (by rw [hq];exact hr) h
theorem ChD.ok.get_wnt {c : ChD} (h : c.ok) {p : Nat} {b : Bool} (hp : c.wnt[p]? = some b) : c.bits[18 + p]? = some b:=by
 have hl:=(List.getElem?_eq_some_iff.1 hp).1
 rw [ChD.bits,List.getElem?_append_right (by rw [h.thr];omega),h.thr,List.getElem?_append_right (by rw [h.fst];omega),h.fst,show 18 + p - 9 - 9 = p by omega,List.getElem?_append_left hl];exact hp
theorem zkz {w : World} {base : Nat} {e : TypeId} {size : Nat} {g n cap : Nat} {xs : List Value} (h : w.ownsRow base e size (.slice (some ⟨g,0,none⟩) n cap) n xs) : w.rangeAt g 0 xs:=fun j v hj => by
 rw [Nat.zero_add,h.cellAt j (by rw [<- h.1];exact (List.getElem?_eq_some_iff.1 hj).1)];exact hj
end
end Go.Proofs.YtkkekopomiehlaaGreat
