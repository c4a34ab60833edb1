import Derived.Test.YtkkekopomiehlaaGreatCFl2
import Derived.Laws.CopyOwn
import Derived.Laws.CopyRow
import Derived.Laws.MakeOwn
import Derived.Laws.OwnMore
import Derived.Lib.SlBuf
set_option linter.unusedVariables false
set_option linter.unusedSimpArgs false
set_option maxHeartbeats 40000000
set_option maxRecDepth 4000
namespace Go.Proofs.YtkkekopomiehlaaGreat
section
open Go.RowKit Go.Lib
theorem zab {p : Prop} (h : p) : Hid p:=h
def zen (w : World) (a : Option Addr) (cs : List Value) : Prop:=∀ (j : Nat) (v : Value),cs[j]? = some v -> ∃ b o,a = some ⟨b,o,none⟩ /\ w.cell? ⟨b,o + j,none⟩ = some v
def RowIs (w : World) (g : Nat) (t : TypeId) (cs : List Value) : Prop:=w.heap[g]? = some (.cells cs.toArray t (0,0))
theorem Tryz.infoStrL : (Tryz.prog.info? 9).map (fun i => (i.zero,i.size,i.bytes)) = some (some (.string ⟨#[]⟩),1,16):=by kernel_rfl
theorem RowIs.cell {w : World} {g : Nat} {t : TypeId} {cs : List Value} (h : RowIs w g t cs) {j : Nat} {v : Value} (hj : cs[j]? = some v) : w.cell? ⟨g,j,none⟩ = some v:=by
 rw [cell_of_row w g j cs.toArray t (0,0) h];simpa using hj
theorem RowIs.frozen {w : World} {g : Nat} {t : TypeId} {cs : List Value} (h : RowIs w g t cs) (j : Nat) : w.frozen? ⟨g,j,none⟩ = false:=frozen_of_row w g j cs.toArray t h
theorem RowIs.keep {w w' : World} {g : Nat} {t : TypeId} {cs : List Value} (h : RowIs w g t cs) (hb : Below w.heap.size w w') : RowIs w' g t cs:=by
 have hg : g < w.heap.size:=by
  unfold RowIs at h
  rcases Nat.lt_or_ge g w.heap.size with hg | hg
  ·exact hg
  ·rw [Array.getElem?_eq_none (by omega)] at h;cases h
 unfold RowIs
 rw [<- h]
 exact hb.block g hg
theorem RowIs.lt {w : World} {g : Nat} {t : TypeId} {cs : List Value} (h : RowIs w g t cs) : g < w.heap.size:=by
 unfold RowIs at h
 rcases Nat.lt_or_ge g w.heap.size with hg | hg
 ·exact hg
 ·rw [Array.getElem?_eq_none (by omega)] at h;cases h
theorem RowIs.set {w : World} {g : Nat} {t : TypeId} {cs : List Value} (h : RowIs w g t cs) (j : Nat) (u : Value) : RowIs (w.setCell ⟨g,j,none⟩ u) g t (cs.set j u):=by
 have:=heap_setCell_same w g j cs.toArray t u h
 unfold RowIs
 rw [this]
 simp
theorem zyf {P : Program} (w : World) (dT sT ty elem : TypeId) (g dLen dCap : Nat) (ao : Option Addr) (sLen sCap s : Nat) (cur : Array Value) (t : TypeId) (cs : List Value)
  (hu : P.underlying dT = some (.slice elem)) (hs : (P.info? elem).map (·.size) = some s)
  (hg : w.heap[g]? = some (.cells cur t (0,0))) (hs0 : 0 < s) (hn : cs.length = sLen * s) (hle : sLen <= dLen)
  (hsrc : zen w ao cs) (hfit : cs.length <= cur.size) (h1 : ∀ v ∈ cs,v.oneCell' = true) :
  (Builtin.copy_ #[dT,sT] ty #[.slice (some ⟨g,0,none⟩) dLen dCap,.slice ao sLen sCap]).run P w = .ok (goInt sLen) (w.setRow g (cs ++ cur.toList.drop cs.length).toArray):=by
 have hmin : Nat.min sLen dLen = sLen:=Nat.min_eq_left hle
 cases hq : P.info? elem with
 | none => simp [hq] at hs
 | some i =>
  have hi : i.size = s:=by simpa [hq] using hs
  cases cs with
  | nil =>
   have h0 : sLen = 0:=by
    rcases Nat.eq_zero_or_pos sLen with h | h
    ·exact h
    ·have:=Nat.mul_pos h hs0;simp at hn;omega
   subst h0
   have hself : w.setRow g ([] ++ cur.toList.drop ([] : List Value).length).toArray = w:=by simpa using setRow_self w g cur t (0,0) hg
   rw [hself]
   cases ao with
   | none => simp [Builtin.copy_,run_underlying hu,Builtin.lenOf,Builtin.firstCells,sizeOf,typeInfo,hq,hi,storeCells,hmin,loadCells]
   | some a =>
    have hl0 : (loadCells a 0).run P w = .ok #[] w:=run_loadCells_list (P:=P) w a [] (fun j v hj => by simp at hj)
    simp [Builtin.copy_,run_underlying hu,Builtin.lenOf,Builtin.firstCells,sizeOf,typeInfo,hq,hi,storeCells,hmin,hl0]
  | cons c cs' =>
   obtain ⟨b,o,rfl,_⟩:=hsrc 0 c rfl
   have hl:=run_loadCells_list (P:=P) w ⟨b,o,none⟩ (c :: cs') (fun j v hj => by
    obtain ⟨b',o',he,hc⟩:=hsrc j v hj
    cases he
    rw [<- hc]
    unfold Addr.add
    split
    ·rename_i h0;subst h0;rfl
    ·rfl)
   have hst:=run_storeCells_at P g 0 t (c :: cs') 0 cur w hg (by simpa using hfit) h1
   simp only [List.length_cons] at hl hn
   simp [Builtin.copy_,run_underlying hu,Builtin.lenOf,Builtin.firstCells,sizeOf,typeInfo,hq,hi,hmin,<- hn,hl,hst]
theorem StrsAt.cells {w : World} {a : Option Addr} {ss : List ByteArray} (h : StrsAt w a ss) : zen w a (ss.map .string):=fun j v hj => by
 rw [List.getElem?_map] at hj
 obtain ⟨s,hs,rfl⟩:=Option.map_eq_some_iff.1 hj
 exact h j s hs
theorem IntsAt.cells {w : World} {a : Option Addr} {ns : List Int} (h : IntsAt w a ns) : zen w a (ns.map (.int .i64)):=fun j v hj => by
 rw [List.getElem?_map] at hj
 obtain ⟨s,hs,rfl⟩:=Option.map_eq_some_iff.1 hj
 exact h j s hs
def zd8 : ByteArray:=⟨#[98,101,121,111,110,100]⟩
theorem zjy {P : Program} (w : World) (dT sT ty elem : TypeId) (dCap : Nat) (ao : Option Addr) (sLen sCap s : Nat) (M : Array Value) (t : TypeId) (cs : List Value)
  (hu : P.underlying dT = some (.slice elem)) (hs : (P.info? elem).map (·.size) = some s) (hs0 : 0 < s) (hn : cs.length = sLen * s) (hM : M.size = (sLen + 1) * s)
  (hsrc : zen w ao cs) (h1 : ∀ v ∈ cs,v.oneCell' = true) :
  ∃ W,(Builtin.copy_ #[dT,sT] ty #[.slice (some ⟨w.heap.size,0,none⟩) (sLen + 1) dCap,.slice ao sLen sCap]).run P (w.alloc (.cells M t)) = .ok (goInt sLen) W /\ RowIs W w.heap.size t (cs ++ M.toList.drop cs.length) /\ Below w.heap.size w W /\ W.heap.size = w.heap.size + 1:=by
 have hg : (w.alloc (.cells M t)).heap[w.heap.size]? = some (.cells M t (0,0)):=heap_alloc_new w _
 have hsz : M.size = sLen * s + s:=by rw [hM,Nat.add_mul,Nat.one_mul]
 have hsrc' : zen (w.alloc (.cells M t)) ao cs:=fun j v hj => by
  obtain ⟨b,o,h1,h2⟩:=hsrc j v hj
  exact ⟨b,o,h1,zaw _ h2⟩
 refine ⟨_,zyf (w.alloc (.cells M t)) dT sT ty elem w.heap.size (sLen + 1) dCap ao sLen sCap s M t cs hu hs hg hs0 hn (by omega) hsrc' (by omega) h1,?_,?_,?_⟩
 ·exact setRow_heap _ w.heap.size M _ t _ hg
 ·exact below_setRow (bel1 w _) (Nat.le_refl _) _
 ·simp [World.setRow]
theorem zj4 {M : Array Value} {n s : Nat} {cs : List Value} (hM : M.size = (n + 1) * s) (hn : cs.length = n * s) : (M.toList.drop cs.length).length = s:=by
 rw [List.length_drop,Array.length_toList,hM,hn,Nat.add_mul,Nat.one_mul];omega
theorem zll {cs d : List Value} {u : Value} (h : d.length = 1) : (cs ++ d).set cs.length u = cs ++ [u]:=by
 match d,h with
 | [x],_ => simp
theorem zvj (ss : List ByteArray) (w : World) (a : Option Addr) (cap : Nat) (hl : ss.length <= 2000000) (hp : StrsAt w a ss) :
  Calls Tryz.prog 17 #[.slice a ss.length cap] w fun e W => ∃ g,e = .returned (.slice (some ⟨g,0,none⟩) ss.length (ss.length + 1)) /\ w.heap.size <= g /\ RowIs W g 9 (ss.map .string ++ [.string zd8]) /\ Below w.heap.size w W:=by
 obtain ⟨ii,hii,hz0,hzz1,hzz2⟩:=info_parts Tryz.infoStrL
 have hmk:=run_makeSlice (P:=Tryz.prog) (w:=w) 22 9 ii _ Tryz.underlying22 hii hz0 .i64 .i64 ((ss.length : Int) + 1) ((ss.length : Int) + 1) (by omega) (Int.le_refl _) (by rw [hzz1];omega) (by rw [hzz2];omega) (by omega)
 obtain ⟨M,hMd⟩ : ∃ M,M = madeCells (Value.string ⟨#[]⟩).cells (((ss.length : Int) + 1).toNat * ii.size):=⟨_,rfl⟩
 have hM : M.size = (ss.length + 1) * 1:=by rw [hMd,size_madeCells,hzz1];omega
 rw [<- hMd,show ((ss.length : Int) + 1).toNat = ss.length + 1 by omega] at hmk
 clear hMd
 obtain ⟨W1,hcp,hrow,hbel,hsz⟩:=zjy (P:=Tryz.prog) w 22 22 3 9 (ss.length + 1) a ss.length cap 1 M 9 (ss.map .string) Tryz.underlying22 (by rw [hii];simp [hzz1]) (by omega) (by simp) hM hp.cells (fun v hv => by obtain ⟨s,_,rfl⟩:=List.mem_map.1 hv;rfl)
 have hd:=zj4 hM (cs:=ss.map Value.string) (by simp)
 have hc1 : ∃ u,W1.cell? ⟨w.heap.size,ss.length,none⟩ = some u:=by
  obtain ⟨u,hu⟩ : ∃ u,(ss.map Value.string ++ M.toList.drop (ss.map Value.string).length)[ss.length]? = some u:=⟨_,List.getElem?_eq_getElem (by rw [List.length_append,hd,List.length_map];omega)⟩
  exact ⟨u,hrow.cell hu⟩
 obtain ⟨u,hc1⟩:=hc1
 have hf1:=hrow.frozen ss.length
 have hx0 : (0 : Int) <= (ss.length : Int):=Int.natCast_nonneg _
 have hrow2:=hrow.set ss.length (.string zd8)
 have hs2:=zll (cs:=ss.map Value.string) (u:=.string zd8) hd
 rw [List.length_map] at hs2 hrow2
 rw [hs2] at hrow2
 have HRow : Hid (RowIs (W1.setCell ⟨w.heap.size,ss.length,none⟩ (.string zd8)) w.heap.size 9 (ss.map .string ++ [.string zd8])):=hrow2
 clear hrow2 hs2 hrow hd
 go_enter Tryz.func17,Tryz.ntmps17
 go_wp2_with (at_builtin;refine wpList_copy_run _ rfl _ _ _ _ rfl _ _ rfl rfl hcp ?_)
 go_ret
 exact ⟨_,rfl,Nat.le_refl _,HRow.out,hbel.setCell (Nat.le_refl _) _⟩
end
section
open Go.RowKit Go.Lib
theorem Tryz.infoTopL : (Tryz.prog.info? 89).map (fun i => (i.zero,i.size,i.bytes)) = some (some (.agg #[.int .i64 0]),1,8):=by kernel_rfl
theorem Tryz.infoPinL : (Tryz.prog.info? 94).map (fun i => (i.zero,i.size,i.bytes)) = some (some (.agg #[.int .i64 0,.int .i64 0,.int .i64 0]),3,24):=by kernel_rfl
def pinC (ps : List PinD) : List Value:=ps.flatMap fun p => [.int .i64 p.t,.int .i64 p.w,.int .i64 p.r]
theorem zde : ∀ ps : List PinD,(pinC ps).length = ps.length * 3
 | [] => rfl
 | p :: ps => by rw [pinC,List.flatMap_cons,List.length_append];have:=zde ps;rw [pinC] at this;rw [this,List.length_cons];simp;omega
theorem zg0 : ∀ (ps : List PinD) (j : Nat),(pinC ps)[j]? = match ps[j / 3]? with | some p => some (if j % 3 = 0 then .int .i64 p.t else if j % 3 = 1 then .int .i64 p.w else .int .i64 p.r) | none => none
 | [],j => by simp [pinC]
 | p :: ps,j => by
  rw [pinC,List.flatMap_cons]
  by_cases h : j < 3
  ·rw [List.getElem?_append_left (by simpa using h),show j / 3 = 0 by omega]
   obtain rfl | rfl | rfl : j = 0 \/ j = 1 \/ j = 2:=by omega
   all_goals rfl
  ·have:=zg0 ps (j - 3)
   rw [pinC] at this
   rw [List.getElem?_append_right (by simp;omega),show j - [Value.int .i64 p.t,.int .i64 p.w,.int .i64 p.r].length = j - 3 from rfl,this,show j / 3 = (j - 3) / 3 + 1 by omega,List.getElem?_cons_succ,show (j - 3) % 3 = j % 3 by omega]
theorem PinsAt.cells {w : World} {a : Option Addr} {ps : List PinD} (h : PinsAt w a ps) : zen w a (pinC ps):=fun j v hj => by
 rw [zg0] at hj
 cases hp : ps[j / 3]? with
 | none => rw [hp] at hj;cases hj
 | some p =>
  rw [hp] at hj
  simp only [Option.some.injEq] at hj
  obtain ⟨b,o,h1,h2,h3,h4⟩:=h _ p hp
  refine ⟨b,o,h1,?_⟩
  rw [<- hj]
  obtain h0 | h0 | h0 : j % 3 = 0 \/ j % 3 = 1 \/ j % 3 = 2:=by omega
  ·rw [if_pos h0,show o + j = o + j / 3 * 3 by omega];exact h2
  ·rw [if_neg (by omega),if_pos h0,show o + j = o + j / 3 * 3 + 1 by omega];exact h3
  ·rw [if_neg (by omega),if_neg (by omega),show o + j = o + j / 3 * 3 + 2 by omega];exact h4
theorem zy9 {cs d : List Value} {u : Value} (h : d.length = 3) : (((cs ++ d).set cs.length u).set (cs.length + 1) u).set (cs.length + 2) u = cs ++ [u,u,u]:=by
 match d,h with
 | [x,y,z],_ => simp [List.set_append]
theorem zxd {ps : List PinD} {v : Value} (h : v ∈ pinC ps) : v.oneCell' = true:=by
 obtain ⟨p,_,hp⟩:=List.mem_flatMap.1 h
 simp at hp
 rcases hp with rfl | rfl | rfl <;> rfl
theorem zvk (ts : List Int) (w : World) (a : Option Addr) (cap : Nat) (hl : ts.length <= 2000000) (hp : IntsAt w a ts) :
  Calls Tryz.prog 18 #[.slice a ts.length cap] w fun e W => ∃ g,e = .returned (.slice (some ⟨g,0,none⟩) ts.length (ts.length + 1)) /\ w.heap.size <= g /\ RowIs W g 89 (ts.map (.int .i64) ++ [.int .i64 (-7)]) /\ Below w.heap.size w W:=by
 obtain ⟨ii,hii,hz0,hzz1,hzz2⟩:=info_parts Tryz.infoTopL
 have hmk:=run_makeSlice (P:=Tryz.prog) (w:=w) 23 89 ii _ Tryz.underlying23 hii hz0 .i64 .i64 ((ts.length : Int) + 1) ((ts.length : Int) + 1) (by omega) (Int.le_refl _) (by rw [hzz1];omega) (by rw [hzz2];omega) (by omega)
 obtain ⟨M,hMd⟩ : ∃ M,M = madeCells (.agg #[.int .i64 0] : Value).cells (((ts.length : Int) + 1).toNat * ii.size):=⟨_,rfl⟩
 have hM : M.size = (ts.length + 1) * 1:=by rw [hMd,size_madeCells,hzz1];omega
 rw [<- hMd,show ((ts.length : Int) + 1).toNat = ts.length + 1 by omega] at hmk
 clear hMd
 obtain ⟨W1,hcp,hrow,hbel,hsz⟩:=zjy (P:=Tryz.prog) w 23 23 3 89 (ts.length + 1) a ts.length cap 1 M 89 (ts.map (.int .i64)) Tryz.underlying23 (by rw [hii];simp [hzz1]) (by omega) (by simp) hM hp.cells (fun v hv => by obtain ⟨s,_,rfl⟩:=List.mem_map.1 hv;rfl)
 have hd:=zj4 hM (cs:=ts.map (.int .i64)) (by simp)
 obtain ⟨u,hu⟩ : ∃ u,(ts.map (Value.int .i64) ++ M.toList.drop (ts.map (Value.int .i64)).length)[ts.length]? = some u:=⟨_,List.getElem?_eq_getElem (by rw [List.length_append,hd,List.length_map];omega)⟩
 have hc1:=hrow.cell hu
 have hf1:=hrow.frozen ts.length
 have hx0 : (0 : Int) <= (ts.length : Int):=Int.natCast_nonneg _
 have hrow2:=hrow.set ts.length (.int .i64 (-7))
 have hs2:=zll (cs:=ts.map (Value.int .i64)) (u:=.int .i64 (-7)) hd
 rw [List.length_map] at hs2 hrow2
 rw [hs2] at hrow2
 have HRow : Hid (RowIs (W1.setCell ⟨w.heap.size,ts.length,none⟩ (.int .i64 (-7))) w.heap.size 89 (ts.map (.int .i64) ++ [.int .i64 (-7)])):=hrow2
 clear hrow2 hs2 hrow hd hu
 go_enter Tryz.func18,Tryz.ntmps18
 go_wp2_with (at_builtin;refine wpList_copy_run _ rfl _ _ _ _ rfl _ _ rfl rfl hcp ?_)
 go_ret
 exact ⟨_,rfl,Nat.le_refl _,HRow.out,hbel.setCell (Nat.le_refl _) _⟩
theorem zvg (ps : List PinD) (w : World) (a : Option Addr) (cap : Nat) (hl : ps.length <= 2000000) (hp : PinsAt w a ps) :
  Calls Tryz.prog 66 #[.slice a ps.length cap] w fun e W => ∃ g,e = .returned (.slice (some ⟨g,0,none⟩) ps.length (ps.length + 1)) /\ w.heap.size <= g /\ RowIs W g 94 (pinC ps ++ [.int .i64 (-7),.int .i64 (-7),.int .i64 (-7)]) /\ Below w.heap.size w W:=by
 obtain ⟨ii,hii,hz0,hzz1,hzz2⟩:=info_parts Tryz.infoPinL
 have hmk:=run_makeSlice (P:=Tryz.prog) (w:=w) 90 94 ii _ Tryz.underlying90 hii hz0 .i64 .i64 ((ps.length : Int) + 1) ((ps.length : Int) + 1) (by omega) (Int.le_refl _) (by rw [hzz1];omega) (by rw [hzz2];omega) (by omega)
 obtain ⟨M,hMd⟩ : ∃ M,M = madeCells (.agg #[.int .i64 0,.int .i64 0,.int .i64 0] : Value).cells (((ps.length : Int) + 1).toNat * ii.size):=⟨_,rfl⟩
 have hM : M.size = (ps.length + 1) * 3:=by rw [hMd,size_madeCells,hzz1];omega
 rw [<- hMd,show ((ps.length : Int) + 1).toNat = ps.length + 1 by omega] at hmk
 clear hMd
 obtain ⟨W1,hcp,hrow,hbel,hsz⟩:=zjy (P:=Tryz.prog) w 90 90 3 94 (ps.length + 1) a ps.length cap 3 M 94 (pinC ps) Tryz.underlying90 (by rw [hii];simp [hzz1]) (by omega) (zde ps) hM hp.cells (fun v hv => zxd hv)
 have hd:=zj4 hM (cs:=pinC ps) (zde ps)
 have hrow0:=hrow
 obtain ⟨u0,hu0⟩ : ∃ u,(pinC ps ++ M.toList.drop (pinC ps).length)[ps.length * 3]? = some u:=⟨_,List.getElem?_eq_getElem (by rw [List.length_append,hd,zde];omega)⟩
 obtain ⟨u1,hu1⟩ : ∃ u,(pinC ps ++ M.toList.drop (pinC ps).length)[ps.length * 3 + 1]? = some u:=⟨_,List.getElem?_eq_getElem (by rw [List.length_append,hd,zde];omega)⟩
 obtain ⟨u2,hu2⟩ : ∃ u,(pinC ps ++ M.toList.drop (pinC ps).length)[ps.length * 3 + 2]? = some u:=⟨_,List.getElem?_eq_getElem (by rw [List.length_append,hd,zde];omega)⟩
 have hc0:=hrow.cell hu0
 have hc1:=hrow.cell hu1
 have hc2:=hrow.cell hu2
 have hf0:=hrow.frozen (ps.length * 3)
 have hf1:=hrow.frozen (ps.length * 3 + 1)
 have hf2:=hrow.frozen (ps.length * 3 + 2)
 have hx0 : (0 : Int) <= (ps.length : Int):=Int.natCast_nonneg _
 have HRow:= zab hrow
 clear hrow hrow0 hu0 hu1 hu2
 go_enter Tryz.func66,Tryz.ntmps66
 go_wp2_with (at_builtin;refine wpList_copy_run _ rfl _ _ _ _ rfl _ _ rfl rfl hcp ?_)
 go_ret
 refine ⟨_,rfl,Nat.le_refl _,?_,((hbel.setCell (Nat.le_refl _) _).setCell (Nat.le_refl _) _).setCell (Nat.le_refl _) _⟩
 have h3:=((HRow.out.set (ps.length * 3) (.int .i64 (-7))).set (ps.length * 3 + 1) (.int .i64 (-7))).set (ps.length * 3 + 2) (.int .i64 (-7))
 rw [<- zde ps,zy9 hd] at h3
 rw [<- zde ps]
 exact h3
end
section
open Go.RowKit
theorem Tryz.infoRelL : (Tryz.prog.info? 92).map (fun i => (i.zero,i.size,i.bytes)) = some (some (.agg #[.slice none 0 0]),1,24):=by kernel_rfl
theorem RowIs.setOther {w : World} {g : Nat} {t : TypeId} {cs : List Value} (h : RowIs w g t cs) {p : Addr} (hp : p.block ≠ g) (u : Value) : RowIs (w.setCell p u) g t cs:=by
 unfold RowIs at h ⊢
 rw [<- h]
 exact heap_setCell_other w p g u hp.symm
def zd5 : List Value:=[.int .i64 (-7),.int .i64 (-7),.int .i64 (-7)]
def LPin (w : World) (B : Nat) (v : Value) (ps : List PinD) : Prop:=∃ g,v = .slice (some ⟨g,0,none⟩) ps.length (ps.length + 1) /\ B <= g /\ RowIs w g 94 (pinC ps ++ zd5)
theorem LPin.keep {w w' : World} (hb : Below w.heap.size w w') {B : Nat} {v : Value} {ps : List PinD} (h : LPin w B v ps) : LPin w' B v ps:=by
 obtain ⟨g,h1,h2,h3⟩:=h
 exact ⟨g,h1,h2,h3.keep hb⟩
theorem LPin.setOther {w : World} {B : Nat} {v : Value} {ps : List PinD} (h : LPin w B v ps) {p : Addr} (hp : p.block < B) (u : Value) : LPin (w.setCell p u) B v ps:=by
 obtain ⟨g,h1,h2,h3⟩:=h
 exact ⟨g,h1,h2,h3.setOther (by omega) u⟩
theorem zza {d r : List Value} {x v : Value} : (d ++ x :: r).set d.length v = (d ++ [v]) ++ r:=by simp
theorem zvh (rels : List (List PinD)) (w : World) (a : Option Addr) (l cap : Nat) (hp : RelSl PinSl w a l cap rels) :
  Calls Tryz.prog 41 #[.slice a l cap] w fun e W => ∃ (g g' : Nat) (cs : List Value),e = .returned (.slice (some ⟨g,0,none⟩) rels.length (rels.length + 1)) /\ w.heap.size <= g /\ g < g' /\ cs.length = rels.length /\ RowIs W g 92 (cs ++ [.slice (some ⟨g',0,none⟩) 1 1]) /\ RowIs W g' 94 zd5 /\
   (∀ (k : Nat) (v : Value) (ps : List PinD),cs[k]? = some v -> rels[k]? = some ps -> LPin W (g + 1) v ps) /\ Below w.heap.size w W:=by
 obtain ⟨rfl,hl,hlc,hc9,hp⟩:=hp
 obtain ⟨ii,hii,hz0,hzz1,hzz2⟩:=info_parts Tryz.infoRelL
 have hmk:=run_makeSlice (P:=Tryz.prog) (w:=w) 65 92 ii _ Tryz.underlying65 hii hz0 .i64 .i64 ((rels.length : Int) + 1) ((rels.length : Int) + 1) (by omega) (Int.le_refl _) (by rw [hzz1];omega) (by rw [hzz2];omega) (by omega)
 obtain ⟨M,hMd⟩ : ∃ M,M = madeCells (.agg #[.slice none 0 0] : Value).cells (((rels.length : Int) + 1).toNat * ii.size):=⟨_,rfl⟩
 have hM : M.size = rels.length + 1:=by rw [hMd,size_madeCells,hzz1];omega
 rw [<- hMd,show ((rels.length : Int) + 1).toNat = rels.length + 1 by omega] at hmk
 clear hMd
 have hrow0 : RowIs (w.alloc (.cells M 92)) w.heap.size 92 M.toList:=by
  unfold RowIs;rw [heap_alloc_new w _]
 have HP:= zab hp
 clear hp
 go_enter Tryz.func41,Tryz.ntmps41
 go_wp2_with fail
 go_loopw [4] (fun vi wr => ∃ (i : Nat) (d r : List Value),i <= rels.length /\ vi = .int .i64 i /\ d.length = i /\ r.length + i = rels.length + 1 /\ RowIs wr w.heap.size 92 (d ++ r) /\ Hid (∀ (k : Nat) (v : Value) (ps : List PinD),d[k]? = some v -> rels[k]? = some ps -> LPin wr (w.heap.size + 1) v ps) /\ Below w.heap.size w wr) (fun i _ => rels.length - (intOf i).toNat)
 case atStart => exact ⟨0,[],M.toList,Nat.zero_le _,rfl,rfl,by simp [hM],hrow0,(fun k v ps h => by simp at h),bel1 _ _⟩
 case round =>
  obtain ⟨i,d,r,hi,rfl,hdl,hrl,hrow,hall,hb⟩:=hrel
  rename World => w5
  have hgl:=hrow.lt
  by_cases hlt : i < rels.length
  ·obtain ⟨ps,hpi⟩ : ∃ ps,rels[i]? = some ps:=⟨rels[i],List.getElem?_eq_getElem hlt⟩
   obtain ⟨b,o,pa,pl,pc,rfl,c0,hps⟩:=HP.out i ps hpi
   have c0:=zaa hb c0
   have hbl:=zaf c0
   obtain ⟨p1,p2,p3,p4,p5⟩:=hps
   have hcall:=fun (W : World) (h : Below w5.heap.size w5 W) => zvg ps W pa pc p2 (p5.keep (thn3 hb h))
   rw [<- p1] at hcall
   obtain ⟨x,r',rfl⟩ : ∃ x r',r = x :: r':=List.exists_cons_of_length_pos (by omega)
   have hcx : w5.cell? ⟨w.heap.size,i,none⟩ = some x:=hrow.cell (by rw [List.getElem?_append_right (by omega),hdl,Nat.sub_self];rfl)
   have hfx:=hrow.frozen i
   have hx0 := znn i
   have hx1 : (i : Int) < (rels.length : Int):=by omega
   have hx2 : (i : Int) < (rels.length : Int) + 1:=by omega
   have P1:= zab p1
   have HRow:= zab hrow
   have HD:= zab hdl
   have HI:= zab hpi
   clear p1 hrow hdl hpi hrow0
   go_wp2_with fail
   (first | go_region_held3 (fun w' => w'.cell? ⟨b,o + i,none⟩ = some (.slice pa pl pc) /\ w'.cell? ⟨w.heap.size,i,none⟩ = some x /\ w'.frozen? ⟨w.heap.size,i,none⟩ = false) (go_keep) (first | (go_at_call 66;refine (hcall _ (by first | exact Below.refl _ _ | exact (Below.refl _ _).drew)).mono ?_;rintro e w3 ⟨g3,rfl,hg3,hrow3,hb3⟩;have e1:=zaa hb3 c0;have e2:=zaa hb3 hcx;have e3 : w3.frozen? ⟨w.heap.size,i,none⟩ = false:=(hb3.frozen (p:=⟨w.heap.size,i,none⟩) (by simpa using hgl)).trans hfx)) | (go_at_call 66;refine (hcall _ (by first | exact Below.refl _ _ | exact (Below.refl _ _).drew)).mono ?_;rintro e w3 ⟨g3,rfl,hg3,hrow3,hb3⟩;have e1:=zaa hb3 c0;have e2:=zaa hb3 hcx;have e3 : w3.frozen? ⟨w.heap.size,i,none⟩ = false:=(hb3.frozen (p:=⟨w.heap.size,i,none⟩) (by simpa using hgl)).trans hfx))
   go_wp2_with fail
   go_roundw
   case rel =>
    refine ⟨i + 1,d ++ [.slice (some ⟨g3,0,none⟩) pl (pl + 1)],r',by omega,by go_num,by rw [List.length_append,HD.out];rfl,by rw [List.length_cons] at hrl;omega,?_,?_,(thn3 hb hb3).setCell (Nat.le_refl _) _⟩
    ·have h1:=(HRow.out.keep hb3).set i (.slice (some ⟨g3,0,none⟩) pl (pl + 1))
     rw [<- HD.out,zza] at h1
     rw [HD.out] at h1
     exact h1
    ·intro k v ps' hk hk2
     by_cases hkd : k < d.length
     ·rw [List.getElem?_append_left hkd] at hk
      exact ((hall.out k v ps' hk hk2).keep hb3).setOther (by show w.heap.size < w.heap.size + 1;omega) _
     ·have hkl:=(List.getElem?_eq_some_iff.1 hk).1
      rw [List.length_append,List.length_singleton] at hkl
      have hke : k = d.length:=by omega
      rw [hke,List.getElem?_append_right (Nat.le_refl _),Nat.sub_self] at hk
      simp at hk
      rw [hke,HD.out,HI.out] at hk2
      cases hk2
      rw [<- hk,P1.out]
      exact ⟨g3,rfl,by omega,hrow3.setOther (by show w.heap.size ≠ g3;omega) _⟩
   case measure => simp [intOf];omega
  ·have hie : i = rels.length:=by omega
   obtain ⟨x,rfl⟩ : ∃ x,r = [x]:=List.length_eq_one_iff.1 (by omega)
   have hcx : w5.cell? ⟨w.heap.size,rels.length,none⟩ = some x:=hrow.cell (by rw [List.getElem?_append_right (by omega),hdl,hie,Nat.sub_self];rfl)
   have hfx:=hrow.frozen rels.length
   have hx0 : (0 : Int) <= (rels.length : Int):=Int.natCast_nonneg _
   have HRow:= zab hrow
   have HD : Hid (d.length = rels.length):=by show _ = _;omega
   clear hrow hdl hrow0 hie hrl
   go_wp2_with fail
   go_ret
   refine ⟨w.heap.size,w5.heap.size,d,rfl,Nat.le_refl _,hgl,HD.out,?_,?_,?_,Below.alloc' (hb.setCell (Nat.le_refl _) _) _⟩
   ·have h1:=HRow.out.set rels.length (.slice (some ⟨w5.heap.size,0,none⟩) 1 1)
    rw [<- HD.out,zll (d:=[x]) rfl] at h1
    rw [HD.out] at h1
    exact h1.keep (bel1 _ _)
   ·have hz : (w5.setCell ⟨w.heap.size,rels.length,none⟩ (.slice (some ⟨w5.heap.size,0,none⟩) 1 1)).heap.size = w5.heap.size:=by simp [World.setCell]
    have h1:=heap_alloc_new (w5.setCell ⟨w.heap.size,rels.length,none⟩ (.slice (some ⟨w5.heap.size,0,none⟩) 1 1)) (.cells #[.int .i64 (-7),.int .i64 (-7),.int .i64 (-7)] 94)
    rw [hz] at h1
    exact h1
   ·intro k v ps' hk hk2
    exact ((hall.out k v ps' hk hk2).setOther (by show w.heap.size < w.heap.size + 1;omega) _).keep (bel1 _ _)
end
end Go.Proofs.YtkkekopomiehlaaGreat
