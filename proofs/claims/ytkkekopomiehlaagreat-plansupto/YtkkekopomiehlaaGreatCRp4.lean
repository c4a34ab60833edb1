import Derived.Test.YtkkekopomiehlaaGreatCRp2
set_option linter.unusedVariables false
set_option linter.unusedSimpArgs false
set_option maxHeartbeats 40000000
set_option maxRecDepth 4000
namespace Go.Proofs.YtkkekopomiehlaaGreat
section
open Go.RowKit
open Go.Lib (below_setCells)
theorem zd6 {P : Program} {ops : Array Oper} {rest : List Oper} {op : Oper} {a : Act} {w : World} {Q : Exit -> Act -> World -> Prop} (hgd : op.guard = none) (ty : TypeId) (x y : Operand) (ho : op.op = .store ty x y)
  (b o : Nat) (v : Value) (hx : a.eval x = .pointer (some ⟨b,o,none⟩)) (hy : a.eval y = v) (ht : w.there b o 1) (hi : (P.info? ty).map (·.size) = some 1) (h1 : v.oneCell' = true) (R : World -> Prop) (hR : R (w.setCell ⟨b,o,none⟩ v))
  (h : ∀ W,R W -> wpList P ops Q rest (a.put op.dst undef) W) : wpList P ops Q (op :: rest) a w:=by
 have hc : v.cells = #[v]:=by cases v <;> first | rfl | cases h1
 have hs:=run_storeCells_cells (P:=P) b o [v] 0 w (fun j hj => by simpa using (ht j (by simpa using hj)).1) (fun j hj => by simpa using (ht j (by simpa using hj)).2) (fun u hu => by simp at hu;subst hu;exact h1)
 have hr : (storeVar ty ⟨b,o,none⟩ v).run P w = .ok () (w.setCell ⟨b,o,none⟩ v):=by
  cases hq : P.info? ty with
  | none => simp [hq] at hi
  | some i =>
   have hs1 : i.size = 1:=by simpa [hq] using hi
   simp only [Nat.add_zero] at hs
   simp only [World.setCells] at hs
   simp [storeVar,sizeOf,typeInfo,hq,hc,hs1,hs]
 refine wpList_plain hgd fun K hK => ?_
 unfold Oper.wp execOp
 simp only [ho,hx,hy,Instr.storeAt,Instr.sureAddr,Sem.run_bind,Sem.run_pure,Result.andThen_ok,hr]
 exact hK _ _ (h _ hR)
theorem yabh {P : Program} {ops : Array Oper} {rest : List Oper} {op : Oper} {a : Act} {w : World} {Q : Exit -> Act -> World -> Prop} (hgd : op.guard = none) (ty : TypeId) (x y : Operand) (ho : op.op = .store ty x y)
  (b o : Nat) (cells : Array Value) (hx : a.eval x = .pointer (some ⟨b,o,none⟩)) (hy : a.eval y = .agg cells)
  (ht : w.there b o cells.size) (hi : (P.info? ty).map (·.size) = some cells.size) (h1 : cells.all (·.oneCell') = true) (R : World -> Prop) (hR : R (w.setCells b o cells.toList))
  (h : ∀ W,R W -> wpList P ops Q rest (a.put op.dst undef) W) : wpList P ops Q (op :: rest) a w :=
 wpList_store_mid hgd ty x y ho b o cells hx hy ht hi h1 (h _ hR)
theorem zc2 {w : World} {base : Nat} {e : TypeId} {size : Nat} {g n cap : Nat} {xs : List Value} (h : w.ownsRow base e size (.slice (some ⟨g,0,none⟩) n cap) n xs) : w.rangeAt g 0 xs:=fun j v hj => by
 rw [Nat.zero_add,h.cellAt j (by rw [<- h.1];exact (List.getElem?_eq_some_iff.1 hj).1)];exact hj
theorem zdo {w : World} {b o : Nat} {cs : List Value} (h : w.rangeAt b o cs) {p : Addr} (hp : p.block ≠ b) (u : Value) : (w.setCell p u).rangeAt b o cs:=fun j v hj => by
 rw [World.cell?_setCell_other w p ⟨b,o + j,none⟩ u (fun e => hp (by rw [e]))];exact h j v hj
theorem zid {w : World} {base : Nat} {e : TypeId} {size n : Nat} {v : Value} {xs : List Value} (h : w.ownsRow base e size v n xs) {p : Addr} (hp : v.ownBlock ≠ some p.block) (u : Value) : (w.setCell p u).ownsRow base e size v n xs:=by
 refine ⟨h.1,?_⟩
 rcases h.2 with hn | ⟨g,cap,cur,hv,hb,hg,rest⟩
 ·exact .inl hn
 ·refine .inr ⟨g,cap,cur,hv,hb,?_,rest⟩
  have hne : p.block ≠ g:=fun e => hp (by rw [hv,e];rfl)
  have h1 : RowIs w g e cur.toList:=by unfold RowIs;simpa using hg
  have:=h1.setOther hne u
  unfold RowIs at this
  simpa using this
theorem RowIs.there {w : World} {g : Nat} {t : TypeId} {cs : List Value} (h : RowIs w g t cs) {j : Nat} (hj : j < cs.length) : w.there g j 1:=fun k hk => by
 obtain rfl : k = 0:=by omega
 rw [Nat.add_zero]
 exact ⟨by rw [h.cell (List.getElem?_eq_getElem hj)];rfl,h.frozen j⟩
def nowS (xs : List Nat) (a r s : Nat) : List Nat:=(List.range s).map fun i => if i = a then r else xs.getD i 0
def hadS (xs : List Nat) (a r s : Nat) : List Nat:=(List.range s).map fun i => if i = a then xs.getD i 0 ||| 2 ^ r else xs.getD i 0
theorem zox (xs : List Nat) (a r s : Nat) : nowS xs a r (s + 1) = nowS xs a r s ++ [if s = a then r else xs.getD s 0]:=by unfold nowS;rw [List.range_succ,List.map_append];rfl
theorem zn6 (xs : List Nat) (a r s : Nat) : hadS xs a r (s + 1) = hadS xs a r s ++ [if s = a then xs.getD s 0 ||| 2 ^ r else xs.getD s 0]:=by unfold hadS;rw [List.range_succ,List.map_append];rfl
theorem zou (a b : List Nat) : natC (a ++ b) = natC a ++ natC b:=by simp [natC]
structure Sy (w3 : World) (yb : Nat) (x : SE) (a r sN sH : Nat) (wr : World) (vN vH : Value) : Prop where
 row : RowIs wr yb 83 [vN,vH,.int .i64 0]
 oN : wr.ownsRow (yb + 1) 3 1 vN sN (natC (nowS x.now a r sN))
 oH : wr.ownsRow (yb + 1) 3 1 vH sH (natC (hadS x.had a r sH))
 dis : (vN.ownBlock = none /\ vH.ownBlock = none) \/ vN.ownBlock ≠ vH.ownBlock
 bel : Below yb w3 wr
theorem Sy.n1 {w3 : World} {yb : Nat} {x : SE} {a r sN sH : Nat} {wr : World} {vN vH : Value} (h : Sy w3 yb x a r sN sH wr vN vH) : vN.ownBlock ≠ some yb:=fun e => by have:=(h.oN.lt yb e).1;omega
theorem Sy.n2 {w3 : World} {yb : Nat} {x : SE} {a r sN sH : Nat} {wr : World} {vN vH : Value} (h : Sy w3 yb x a r sN sH wr vN vH) : vH.ownBlock ≠ some yb:=fun e => by have:=(h.oH.lt yb e).1;omega
theorem Sy.th {w3 : World} {yb : Nat} {x : SE} {a r sN sH : Nat} {wr w6 : World} {vN vH : Value} {o : Obj} {row : Option Nat} (h : Sy w3 yb x a r sN sH wr vN vH) (hg : (wr.alloc o).grownBy w6 row) (hne : row ≠ some yb) (j : Nat) (hj : j < 3) : w6.there yb j 1 :=
 ((h.row.keep (belS _ _)).grown hg hne).there hj
theorem Sy.app1 {w3 : World} {yb : Nat} {x : SE} {a r sN sH n : Nat} {wr w6 : World} {vN vH : Value} {o : Obj} {g c : Nat} (h : Sy w3 yb x a r sN sH wr vN vH) (hn : nowS x.now a r (sN + 1) = nowS x.now a r sN ++ [n])
  (hown : w6.ownsRow (yb + 1) 3 1 (.slice (some ⟨g,0,none⟩) (sN + 1) c) (sN + 1) (natC (nowS x.now a r sN) ++ [.int .i64 (n : Int)])) (hg : (wr.alloc o).grownBy w6 vN.ownBlock) (hat : vN.ownBlock = some g \/ g = wr.heap.size + 1) :
  Sy w3 yb x a r (sN + 1) sH (w6.setCell ⟨yb,0,none⟩ (.slice (some ⟨g,0,none⟩) (sN + 1) c)) (.slice (some ⟨g,0,none⟩) (sN + 1) c) vH:=by
 have hy:=h.row.lt
 have hk : vH.ownBlock = none \/ vH.ownBlock ≠ vN.ownBlock:=by
  rcases h.dis with hd | hd
  ·exact .inl hd.2
  ·exact .inr (fun e => hd e.symm)
 have hgy : g ≠ yb:=fun e => by
  rcases hat with h1 | h1
  ·exact h.n1 (by rw [h1,e])
  ·omega
 have hz:=h.bel.size
 refine ⟨(((h.row.keep (belS _ _)).grown hg h.n1).set 0 _),?_,zid ((h.oH.alloc _).kept hg hk) h.n2 _,.inr (fun e => ?_),?_⟩
 ·refine zid ?_ (fun e => hgy (by simpa [Value.ownBlock] using e)) _
  rw [hn,zou];exact hown
 ·rcases hat with h1 | h1
  ·rcases hk with h2 | h2
   ·rw [h2] at e;cases e
   ·exact h2 (e.symm.trans h1.symm)
  ·have:=(h.oH.lt g e.symm).2;omega
 ·exact (Below.grown (h.bel.alloc (by omega) _) hg (by simp;omega) (fun k hk => by have:=(h.oN.lt k hk).1;omega)).setCell (Nat.le_refl _) _
theorem Sy.app2 {w3 : World} {yb : Nat} {x : SE} {a r sN sH n : Nat} {wr w6 : World} {vN vH : Value} {o : Obj} {g c : Nat} (h : Sy w3 yb x a r sN sH wr vN vH) (hn : hadS x.had a r (sH + 1) = hadS x.had a r sH ++ [n])
  (hown : w6.ownsRow (yb + 1) 3 1 (.slice (some ⟨g,0,none⟩) (sH + 1) c) (sH + 1) (natC (hadS x.had a r sH) ++ [.int .i64 (n : Int)])) (hg : (wr.alloc o).grownBy w6 vH.ownBlock) (hat : vH.ownBlock = some g \/ g = wr.heap.size + 1) :
  Sy w3 yb x a r sN (sH + 1) (w6.setCell ⟨yb,1,none⟩ (.slice (some ⟨g,0,none⟩) (sH + 1) c)) vN (.slice (some ⟨g,0,none⟩) (sH + 1) c):=by
 have hy:=h.row.lt
 have hk : vN.ownBlock = none \/ vN.ownBlock ≠ vH.ownBlock:=by
  rcases h.dis with hd | hd
  ·exact .inl hd.1
  ·exact .inr hd
 have hgy : g ≠ yb:=fun e => by
  rcases hat with h1 | h1
  ·exact h.n2 (by rw [h1,e])
  ·omega
 have hz:=h.bel.size
 refine ⟨(((h.row.keep (belS _ _)).grown hg h.n2).set 1 _),zid ((h.oN.alloc _).kept hg hk) h.n1 _,?_,.inr (fun e => ?_),?_⟩
 ·refine zid ?_ (fun e => hgy (by simpa [Value.ownBlock] using e)) _
  rw [hn,zou];exact hown
 ·rcases hat with h1 | h1
  ·rcases hk with h2 | h2
   ·rw [h2] at e;cases e
   ·exact h2 (e.trans h1.symm)
  ·have:=(h.oN.lt g e).2;omega
 ·exact (Below.grown (h.bel.alloc (by omega) _) hg (by simp;omega) (fun k hk => by have:=(h.oH.lt k hk).1;omega)).setCell (Nat.le_refl _) _
theorem Tryz.infoInt1 : (Tryz.prog.info? 3).map (fun i => (i.zero,i.size,i.bytes)) = some (some (.int .i64 0),1,8):=by kernel_rfl
theorem Tryz.infoIntC : (Tryz.prog.info? 3).map (·.size) = some 1:=by kernel_rfl
theorem Tryz.infoInts : (Tryz.prog.info? 81).map (·.size) = some 1:=by kernel_rfl
theorem Tryz.infoSitu : (Tryz.prog.info? 83).map (·.size) = some 3:=by kernel_rfl
theorem zzv (w : World) (x : SE) (m a r : Nat) : Sy (((w.alloc (.cells #[.slice (some ⟨x.a,0,none⟩) m x.ca,.slice (some ⟨x.b,0,none⟩) m x.cb,.int .i64 x.far] 83)).alloc (.cells #[.int .i64 (a : Int),.int .i64 (r : Int)] 46)).alloc (.cells #[.slice none 0 0,.slice none 0 0,.int .i64 0] 83)) (w.heap.size + 3) x a r 0 0 ((((w.alloc (.cells #[.slice (some ⟨x.a,0,none⟩) m x.ca,.slice (some ⟨x.b,0,none⟩) m x.cb,.int .i64 x.far] 83)).alloc (.cells #[.int .i64 (a : Int),.int .i64 (r : Int)] 46)).alloc (.cells #[.slice none 0 0,.slice none 0 0,.int .i64 0] 83)).alloc (.cells #[.slice none 0 0,.slice none 0 0,.int .i64 0] 83)) (.slice none 0 0) (.slice none 0 0):=by
 have hz : (((w.alloc (.cells #[.slice (some ⟨x.a,0,none⟩) m x.ca,.slice (some ⟨x.b,0,none⟩) m x.cb,.int .i64 x.far] 83)).alloc (.cells #[.int .i64 (a : Int),.int .i64 (r : Int)] 46)).alloc (.cells #[.slice none 0 0,.slice none 0 0,.int .i64 0] 83)).heap.size = w.heap.size + 3:=by simp
 refine ⟨?_,World.ownsRow_nil _ _ _ _,World.ownsRow_nil _ _ _ _,.inl ⟨rfl,rfl⟩,?_⟩
 ·have:=zay (((w.alloc (.cells #[.slice (some ⟨x.a,0,none⟩) m x.ca,.slice (some ⟨x.b,0,none⟩) m x.cb,.int .i64 x.far] 83)).alloc (.cells #[.int .i64 (a : Int),.int .i64 (r : Int)] 46)).alloc (.cells #[.slice none 0 0,.slice none 0 0,.int .i64 0] 83)) (.cells #[.slice none 0 0,.slice none 0 0,.int .i64 0] 83)
  rw [hz] at this;exact this
 ·have:=belS (((w.alloc (.cells #[.slice (some ⟨x.a,0,none⟩) m x.ca,.slice (some ⟨x.b,0,none⟩) m x.cb,.int .i64 x.far] 83)).alloc (.cells #[.int .i64 (a : Int),.int .i64 (r : Int)] 46)).alloc (.cells #[.slice none 0 0,.slice none 0 0,.int .i64 0] 83)) (.cells #[.slice none 0 0,.slice none 0 0,.int .i64 0] 83)
  rw [hz] at this;exact this
theorem zzu (x : SE) (m a r : Nat) (hm : m <= 3) (hm1 : 1 <= m) (hr3 : r < 3) (w : World) (hx : SeAt w m x) (h8 : ∀ h ∈ x.had,h < 8) :
  Calls Tryz.prog 63 #[.agg #[.slice (some ⟨x.a,0,none⟩) m x.ca,.slice (some ⟨x.b,0,none⟩) m x.cb,.int .i64 x.far],.agg #[.int .i64 (a : Int),.int .i64 (r : Int)]] w fun e W => ∃ ga ca gb cb,e = .returned (.agg #[.slice (some ⟨ga,0,none⟩) m ca,.slice (some ⟨gb,0,none⟩) m cb,.int .i64 (-1)]) /\ SeAt W m ⟨ga,ca,gb,cb,nowS x.now a r m,hadS x.had a r m,-1⟩ /\ w.heap.size <= ga /\ w.heap.size <= gb /\ Below w.heap.size w W:=by
 obtain ⟨ii,hii,hz0,hzz1,hzz2⟩:=info_parts Tryz.infoInt1
 have hS0:=zzv w x m a r
 have hB3 : Below w.heap.size w (((w.alloc (.cells #[.slice (some ⟨x.a,0,none⟩) m x.ca,.slice (some ⟨x.b,0,none⟩) m x.cb,.int .i64 x.far] 83)).alloc (.cells #[.int .i64 (a : Int),.int .i64 (r : Int)] 46)).alloc (.cells #[.slice none 0 0,.slice none 0 0,.int .i64 0] 83)):=((belS w _).alloc (by simp) _).alloc (by simp;omega) _
 have hz3 : (((w.alloc (.cells #[.slice (some ⟨x.a,0,none⟩) m x.ca,.slice (some ⟨x.b,0,none⟩) m x.cb,.int .i64 x.far] 83)).alloc (.cells #[.int .i64 (a : Int),.int .i64 (r : Int)] 46)).alloc (.cells #[.slice none 0 0,.slice none 0 0,.int .i64 0] 83)).heap.size = w.heap.size + 3:=by simp
 obtain ⟨bx0,bx1,bx2⟩:=zak ((belS _ (.cells #[.int .i64 (a : Int),.int .i64 (r : Int)] 46)).alloc (by simp) (.cells #[.slice none 0 0,.slice none 0 0,.int .i64 0] 83)) (box3 w (.slice (some ⟨x.a,0,none⟩) m x.ca) (.slice (some ⟨x.b,0,none⟩) m x.cb) (.int .i64 x.far) 83)
 obtain ⟨bm0,bm1⟩:=zu4 (belS _ (.cells #[.slice none 0 0,.slice none 0 0,.int .i64 0] 83)) (box2 (w.alloc (.cells #[.slice (some ⟨x.a,0,none⟩) m x.ca,.slice (some ⟨x.b,0,none⟩) m x.cb,.int .i64 x.far] 83)) (.int .i64 (a : Int)) (.int .i64 (r : Int)) 46)
 rw [za2] at bm0 bm1
 have rt : RowIs (((w.alloc (.cells #[.slice (some ⟨x.a,0,none⟩) m x.ca,.slice (some ⟨x.b,0,none⟩) m x.cb,.int .i64 x.far] 83)).alloc (.cells #[.int .i64 (a : Int),.int .i64 (r : Int)] 46)).alloc (.cells #[.slice none 0 0,.slice none 0 0,.int .i64 0] 83)) (w.heap.size + 2) 83 [.slice none 0 0,.slice none 0 0,.int .i64 0]:=by
  have:=zay ((w.alloc (.cells #[.slice (some ⟨x.a,0,none⟩) m x.ca,.slice (some ⟨x.b,0,none⟩) m x.cb,.int .i64 x.far] 83)).alloc (.cells #[.int .i64 (a : Int),.int .i64 (r : Int)] 46)) (.cells #[.slice none 0 0,.slice none 0 0,.int .i64 0] 83)
  rw [za2,za2] at this;exact this
 have ra:=zag hB3 hx.2.2.1
 have rb:=zag hB3 hx.2.2.2
 have HX:= zab hx
 have H8:= zab h8
 have HS0:= zab hS0
 have e1:=fun W => zzb hr3 W
 clear hx h8 hS0
 generalize hQ3 : (((w.alloc (.cells #[.slice (some ⟨x.a,0,none⟩) m x.ca,.slice (some ⟨x.b,0,none⟩) m x.cb,.int .i64 x.far] 83)).alloc (.cells #[.int .i64 (a : Int),.int .i64 (r : Int)] 46)).alloc (.cells #[.slice none 0 0,.slice none 0 0,.int .i64 0] 83)) = w3 at HS0 hB3 hz3 bx0 bx1 bx2 bm0 bm1 rt ra rb
 have HQ3:= zab hQ3
 clear hQ3
 go_enter Tryz.func63,Tryz.ntmps63
 go_wp2_with fail
 go_loopw [6] (fun vs wr => ∃ (s : Nat) (vN vH : Value),s <= m /\ vs = .int .i64 s /\ Hid (Sy w3 (w.heap.size + 3) x a r s s wr vN vH)) (fun s _ => m - (intOf s).toNat)
 case atStart => exact ⟨0,_,_,Nat.zero_le _,rfl,by rw [HQ3.out];exact HS0⟩
 case round =>
  clear HS0
  obtain ⟨s,vN,vH,hs,rfl,HS⟩:=hrel
  rename World => w5
  have hb:=HS.out.bel
  have z5:=hb.size
  have zy:=HS.out.row.lt
  have d0:=zaa (hb.mono (by omega)) bx0
  have d1:=zaa (hb.mono (by omega)) bx1
  have k0:=zaa (hb.mono (by omega)) bm0
  have k1:=zaa (hb.mono (by omega)) bm1
  have y0:=HS.out.row.cell (j:=0) rfl
  have y1:=HS.out.row.cell (j:=1) rfl
  have hx0 := znn s
  by_cases hlt : s < m
  ·obtain ⟨y,hy⟩ : ∃ y,x.now[s]? = some y:=⟨x.now[s]'(by rw [HX.out.1];exact hlt),List.getElem?_eq_getElem _⟩
   obtain ⟨h,hh⟩ : ∃ h,x.had[s]? = some h:=⟨x.had[s]'(by rw [HX.out.2.1];exact hlt),List.getElem?_eq_getElem _⟩
   have c1:=zec (zag (hb.mono (by omega)) ra) hy
   have c2:=zec (zag (hb.mono (by omega)) rb) hh
   have hx1 : (s : Int) < (m : Int):=by omega
   have n1:=zox x.now a r s
   have h1:=zn6 x.had a r s
   rw [show x.now.getD s 0 = y by rw [List.getD,hy];rfl] at n1
   rw [show x.had.getD s 0 = h by rw [List.getD,hh];rfl] at h1
   have hh8:=H8.out h (List.mem_of_getElem? hh)
   have e2:=fun W => zwu hh8 hr3 W
   by_cases hsa : s = a
   ·rw [if_pos hsa] at n1 h1
    have hsa' : (s : Int) = (a : Int):=by omega
    have hsb : ((s : Int) == (a : Int)) = true:=by simp [hsa']
    generalize (h ||| 2 ^ r) = hh2 at e2 h1
    generalize 2 ^ r = rr at e1 e2
    have n1:= zab n1
    have h1:= zab h1
    clear hy hh hb hsa hsa'
    go_wp2_with (first
     | (have hq:=m3;refine zd6 rfl 81 _ _ rfl (w.heap.size + 3) 1 _ rfl rfl t8 Tryz.infoInts rfl (fun W => Hid (Sy w3 (w.heap.size + 3) x a r (s + 1) (s + 1) W (.slice (some ⟨g1,0,none⟩) (s + 1) cap1) (.slice (some ⟨g2,0,none⟩) (s + 1) cap2))) S9 ?_;intro w9 T9;simp only [Act.put,List.setIfInBounds_toArray,List.set_cons_zero,List.set_cons_succ,List.getElem_toArray,List.getElem_cons_zero,List.getElem_cons_succ])
     | (at_builtin;have hq:=m2;refine wpList_append_lies _ rfl _ _ _ rfl (w.heap.size + 4) 3 ii _ 1 8 Tryz.underlying81 hii hz0 hzz1 hzz2 rfl (by omega) vH s _ rfl (T7.out.oH.alloc _) ⟨w7.heap.size,0,none⟩ 1 1 [.int .i64 (hh2 : Int)] rfl rfl (World.news_of_block (heap_alloc_new w7 _)) (by simp [Value.oneCell']) (by omega) (by unfold maxLen;omega) (by omega) (by simp;omega) (w7.heap.size + 1) (by simp) ?_;intro g2 cap2 w8 hown2 hgrow2 hat2 hlt2;have S9:=(zab (T7.out.app2 h1.out hown2 hgrow2 hat2));have t8:=T7.out.th hgrow2 T7.out.n2 1 (by omega);have m3 : True:=trivial)
     | (have hq:=m1;refine zd6 rfl 81 _ _ rfl (w.heap.size + 3) 0 _ rfl rfl t6 Tryz.infoInts rfl (fun W => Hid (Sy w3 (w.heap.size + 3) x a r (s + 1) s W (.slice (some ⟨g1,0,none⟩) (s + 1) cap1) vH) /\ w5.heap.size <= W.heap.size) ⟨S7,by have:=hgrow1.size;simp at this ⊢;omega⟩ ?_;rintro w7 ⟨T7,z7⟩;have y71:=T7.out.row.cell (j:=1) rfl;have y72:=T7.out.row.cell (j:=0) rfl;simp only [Act.put,List.setIfInBounds_toArray,List.set_cons_zero,List.set_cons_succ,List.getElem_toArray,List.getElem_cons_zero,List.getElem_cons_succ];have m2 : True:=trivial)
     | (at_builtin;refine wpList_append_lies _ rfl _ _ _ rfl (w.heap.size + 4) 3 ii _ 1 8 Tryz.underlying81 hii hz0 hzz1 hzz2 rfl (by omega) vN s _ rfl (HS.out.oN.alloc _) ⟨w5.heap.size,0,none⟩ 1 1 [.int .i64 (r : Int)] rfl rfl (World.news_of_block (heap_alloc_new w5 _)) (by simp [Value.oneCell']) (by omega) (by unfold maxLen;omega) (by omega) (by simp;omega) (w5.heap.size + 1) (by simp) ?_;intro g1 cap1 w6 hown1 hgrow1 hat1 hlt1;have S7:=(zab (HS.out.app1 n1.out hown1 hgrow1 hat1));have t6:=HS.out.th hgrow1 HS.out.n1 0 (by omega);have m1 : True:=trivial)
     | (refine zf1 rfl .shl 3 _ _ _ rfl _ _ _ rfl rfl rfl (e1 _) ?_;simp only [Act.put,List.setIfInBounds_toArray,List.set_cons_zero,List.set_cons_succ,List.getElem_toArray,List.getElem_cons_zero,List.getElem_cons_succ])
     | (refine zf1 rfl .or 3 _ _ _ rfl _ _ _ rfl rfl rfl (e2 _) ?_;simp only [Act.put,List.setIfInBounds_toArray,List.set_cons_zero,List.set_cons_succ,List.getElem_toArray,List.getElem_cons_zero,List.getElem_cons_succ]))
    go_roundw
    case rel => exact ⟨s + 1,_,_,by omega,by go_num,T9⟩
    case measure => simp [intOf];omega
   ·rw [if_neg hsa] at n1 h1
    have hsb : ((s : Int) == (a : Int)) = false:=by simp;omega
    have n1:= zab n1
    have h1:= zab h1
    clear hy hh hb e1 e2
    go_wp2_with (first
     | (have hq:=m3;refine zd6 rfl 81 _ _ rfl (w.heap.size + 3) 1 _ rfl rfl t8 Tryz.infoInts rfl (fun W => Hid (Sy w3 (w.heap.size + 3) x a r (s + 1) (s + 1) W (.slice (some ⟨g1,0,none⟩) (s + 1) cap1) (.slice (some ⟨g2,0,none⟩) (s + 1) cap2))) S9 ?_;intro w9 T9;simp only [Act.put,List.setIfInBounds_toArray,List.set_cons_zero,List.set_cons_succ,List.getElem_toArray,List.getElem_cons_zero,List.getElem_cons_succ])
     | (at_builtin;have hq:=m2;refine wpList_append_lies _ rfl _ _ _ rfl (w.heap.size + 4) 3 ii _ 1 8 Tryz.underlying81 hii hz0 hzz1 hzz2 rfl (by omega) vH s _ rfl (T7.out.oH.alloc _) ⟨w7.heap.size,0,none⟩ 1 1 [.int .i64 (h : Int)] rfl rfl (World.news_of_block (heap_alloc_new w7 _)) (by simp [Value.oneCell']) (by omega) (by unfold maxLen;omega) (by omega) (by simp;omega) (w7.heap.size + 1) (by simp) ?_;intro g2 cap2 w8 hown2 hgrow2 hat2 hlt2;have S9:=(zab (T7.out.app2 h1.out hown2 hgrow2 hat2));have t8:=T7.out.th hgrow2 T7.out.n2 1 (by omega);have m3 : True:=trivial)
     | (have hq:=m1;refine zd6 rfl 81 _ _ rfl (w.heap.size + 3) 0 _ rfl rfl t6 Tryz.infoInts rfl (fun W => Hid (Sy w3 (w.heap.size + 3) x a r (s + 1) s W (.slice (some ⟨g1,0,none⟩) (s + 1) cap1) vH) /\ w5.heap.size <= W.heap.size) ⟨S7,by have:=hgrow1.size;simp at this ⊢;omega⟩ ?_;rintro w7 ⟨T7,z7⟩;have y71:=T7.out.row.cell (j:=1) rfl;have y72:=T7.out.row.cell (j:=0) rfl;simp only [Act.put,List.setIfInBounds_toArray,List.set_cons_zero,List.set_cons_succ,List.getElem_toArray,List.getElem_cons_zero,List.getElem_cons_succ];have m2 : True:=trivial)
     | (at_builtin;refine wpList_append_lies _ rfl _ _ _ rfl (w.heap.size + 4) 3 ii _ 1 8 Tryz.underlying81 hii hz0 hzz1 hzz2 rfl (by omega) vN s _ rfl (HS.out.oN.alloc _) ⟨w5.heap.size,0,none⟩ 1 1 [.int .i64 (y : Int)] rfl rfl (World.news_of_block (heap_alloc_new w5 _)) (by simp [Value.oneCell']) (by omega) (by unfold maxLen;omega) (by omega) (by simp;omega) (w5.heap.size + 1) (by simp) ?_;intro g1 cap1 w6 hown1 hgrow1 hat1 hlt1;have S7:=(zab (HS.out.app1 n1.out hown1 hgrow1 hat1));have t6:=HS.out.th hgrow1 HS.out.n1 0 (by omega);have m1 : True:=trivial))
    go_roundw
    case rel => exact ⟨s + 1,_,_,by omega,by go_num,T9⟩
    case measure => simp [intOf];omega
  ·obtain rfl : s = m:=by omega
   obtain ⟨ga,ca,rfl⟩:=zez HS.out.oN (by omega)
   obtain ⟨gb,cb,rfl⟩:=zez HS.out.oH (by omega)
   have lA:=(HS.out.oN.lt ga rfl).1
   have lB:=(HS.out.oH.lt gb rfl).1
   have t2:=HS.out.row.there (j:=2) (by simp)
   have rt5 : RowIs w5 (w.heap.size + 2) 83 [.slice none 0 0,.slice none 0 0,.int .i64 0]:=rt.keep (hb.mono (by omega))
   have rA:=zc2 HS.out.oN
   have rB:=zc2 HS.out.oH
   have hR : (fun W : World => RowIs W (w.heap.size + 3) 83 [.slice (some ⟨ga,0,none⟩) s ca,.slice (some ⟨gb,0,none⟩) s cb,.int .i64 (-1)] /\ RowIs W (w.heap.size + 2) 83 [.slice none 0 0,.slice none 0 0,.int .i64 0] /\ W.rangeAt ga 0 (natC (nowS x.now a r s)) /\ W.rangeAt gb 0 (natC (hadS x.had a r s)) /\ Below w.heap.size w W) (w5.setCell ⟨w.heap.size + 3,2,none⟩ (.int .i64 (-1))) :=
    ⟨HS.out.row.set 2 _,rt5.setOther (by simp) _,zdo rA (by simp;omega) _,zdo rB (by simp;omega) _,(thn3 hB3 (hb.mono (by omega))).setCell (by simp) _⟩
   have hR2 : ∀ W : World,(fun W : World => RowIs W (w.heap.size + 3) 83 [.slice (some ⟨ga,0,none⟩) s ca,.slice (some ⟨gb,0,none⟩) s cb,.int .i64 (-1)] /\ RowIs W (w.heap.size + 2) 83 [.slice none 0 0,.slice none 0 0,.int .i64 0] /\ W.rangeAt ga 0 (natC (nowS x.now a r s)) /\ W.rangeAt gb 0 (natC (hadS x.had a r s)) /\ Below w.heap.size w W) W -> (fun V : World => V.rangeAt (w.heap.size + 2) 0 [.slice (some ⟨ga,0,none⟩) s ca,.slice (some ⟨gb,0,none⟩) s cb,.int .i64 (-1)] /\ V.rangeAt ga 0 (natC (nowS x.now a r s)) /\ V.rangeAt gb 0 (natC (hadS x.had a r s)) /\ Below w.heap.size w V) (W.setCells (w.heap.size + 2) 0 [.slice (some ⟨ga,0,none⟩) s ca,.slice (some ⟨gb,0,none⟩) s cb,.int .i64 (-1)]):=fun W ⟨_,q2,q3,q4,q5⟩ =>
    ⟨World.rangeAt_setCells_same _ _ _ _ (show W.there (w.heap.size + 2) 0 3 from zdb q2),World.rangeAt_setCells_apart q3 _ _ _ (.inl (by omega)),World.rangeAt_setCells_apart q4 _ _ _ (.inl (by omega)),below_setCells _ (by omega) _ _ q5⟩
   have HR:= zab hR
   have HR2:= zab hR2
   have h1 : (#[.slice (some ⟨ga,0,none⟩) s ca,.slice (some ⟨gb,0,none⟩) s cb,.int .i64 (-1)] : Array Value).all (·.oneCell') = true:=by simp [Value.oneCell']
   have hi3 : (Tryz.prog.info? 83).map (·.size) = some ([.slice (some ⟨ga,0,none⟩) s ca,.slice (some ⟨gb,0,none⟩) s cb,.int .i64 (-1)] : List Value).length:=Tryz.infoSitu
   clear hR hR2 rA rB rt5 hb y0 y1
   go_wp2_with (first
    | (refine zd6 rfl 3 _ _ rfl (w.heap.size + 3) 2 _ rfl rfl t2 Tryz.infoIntC rfl (fun W => RowIs W (w.heap.size + 3) 83 [.slice (some ⟨ga,0,none⟩) s ca,.slice (some ⟨gb,0,none⟩) s cb,.int .i64 (-1)] /\ RowIs W (w.heap.size + 2) 83 [.slice none 0 0,.slice none 0 0,.int .i64 0] /\ W.rangeAt ga 0 (natC (nowS x.now a r s)) /\ W.rangeAt gb 0 (natC (hadS x.had a r s)) /\ Below w.heap.size w W) HR.out ?_;intro w6 T6;have q6:=zbr T6.1;have t6 : w6.there (w.heap.size + 2) 0 3:=zdb T6.2.1;have T6:= zab T6;simp only [Act.put,List.setIfInBounds_toArray,List.set_cons_zero,List.set_cons_succ,List.getElem_toArray,List.getElem_cons_zero,List.getElem_cons_succ])
    | (have hq:=t6;refine wpList_load_mid (w:=w6) rfl 83 _ rfl (w.heap.size + 3) 0 rfl _ _ q6 Tryz.underlying83 rfl hi3 ?_;simp only [Act.put,List.setIfInBounds_toArray,List.set_cons_zero,List.set_cons_succ,List.getElem_toArray,List.getElem_cons_zero,List.getElem_cons_succ])
    | (have hq:=t6;refine yabh rfl 83 _ _ rfl (w.heap.size + 2) 0 _ rfl rfl t6 Tryz.infoSitu h1 (fun V => V.rangeAt (w.heap.size + 2) 0 [.slice (some ⟨ga,0,none⟩) s ca,.slice (some ⟨gb,0,none⟩) s cb,.int .i64 (-1)] /\ V.rangeAt ga 0 (natC (nowS x.now a r s)) /\ V.rangeAt gb 0 (natC (hadS x.had a r s)) /\ Below w.heap.size w V) (HR2.out w6 T6.out) ?_;rintro w7 ⟨q1,q2,q3,q4⟩;simp only [Act.put,List.setIfInBounds_toArray,List.set_cons_zero,List.set_cons_succ,List.getElem_toArray,List.getElem_cons_zero,List.getElem_cons_succ]))
   refine bodyPost_ret (v:=.agg #[.slice (some ⟨ga,0,none⟩) s ca,.slice (some ⟨gb,0,none⟩) s cb,.int .i64 (-1)]) ?_ rfl ⟨ga,ca,gb,cb,rfl,⟨by simp [nowS],by simp [hadS],q2,q3⟩,by omega,by omega,q4⟩
   have hlv:=run_loadVar_mid (P:=Tryz.prog) w7 (w.heap.size + 2) 0 83 _ _ q1 Tryz.underlying83 rfl hi3
   simp [results,Tryz.results63,asAddr,Act.put,hlv]
end
section
open Go.RowKit
structure RQ (f : zae) (s : SiD) (now had : List Nat) : Prop where
 ok : s.ok
 ln : now.length = f.vs.length
 lh : had.length = f.vs.length
 nr : ∀ (i y : Nat),now[i]? = some y -> y < rlen f.vs i
 h8 : ∀ (i h : Nat),had[i]? = some h -> h < 8
 hr : ∀ (i h r : Nat),had[i]? = some h -> r < 3 -> bitB h r = true -> r < rlen f.vs i
 hs : ∀ p,p < 9 -> s.has.getD p false = (decide (p / 3 < f.vs.length) && decide (now.getD (p / 3) 0 = p % 3))
 hd : ∀ p,p < 9 -> s.had.getD p false = (decide (p / 3 < f.vs.length) && bitB (had.getD (p / 3) 0) (p % 3))
theorem zme {h r t : Nat} (hh : h < 8) (hr : r < 3) (ht : t < 3) : bitB (h ||| 2 ^ r) t = (bitB h t || decide (t = r)):=by
 rcases lt8 hh with rfl | rfl | rfl | rfl | rfl | rfl | rfl | rfl <;> rcases lt3 hr with rfl | rfl | rfl <;> rcases lt3 ht with rfl | rfl | rfl <;> rfl
theorem zmf {r t : Nat} (hr : r < 3) (ht : t < 3) : bitB (2 ^ r) t = decide (t = r):=by
 rcases lt3 hr with rfl | rfl | rfl <;> rcases lt3 ht with rfl | rfl | rfl <;> rfl
theorem zwt {h r : Nat} (hh : h < 8) (hr : r < 3) : h ||| 2 ^ r < 8:=by
 rcases lt8 hh with rfl | rfl | rfl | rfl | rfl | rfl | rfl | rfl <;> rcases lt3 hr with rfl | rfl | rfl <;> decide
theorem zxu {r : Nat} (hr : r < 3) : 2 ^ r < 8:=by rcases lt3 hr with rfl | rfl | rfl <;> decide
theorem zs5 {h k : Nat} (hh : h < 8) (hk : k < 8) (e0 : bitB h 0 = bitB k 0) (e1 : bitB h 1 = bitB k 1) (e2 : bitB h 2 = bitB k 2) : h = k:=by
 rcases lt8 hh with rfl | rfl | rfl | rfl | rfl | rfl | rfl | rfl <;> rcases lt8 hk with rfl | rfl | rfl | rfl | rfl | rfl | rfl | rfl <;> first | rfl | exact absurd e0 (by decide) | exact absurd e1 (by decide) | exact absurd e2 (by decide)
theorem zbp {l : List Nat} {i y : Nat} (h : l[i]? = some y) : l.getD i 0 = y:=by rw [List.getD,h];rfl
theorem zd2 {F : Nat -> Nat} {n i : Nat} (h : i < n) : ((List.range n).map F)[i]? = some (F i):=by rw [List.getElem?_map,List.getElem?_range h];rfl
theorem zfq {F : Nat -> Nat} {n i y : Nat} (h : ((List.range n).map F)[i]? = some y) : i < n /\ y = F i:=by
 have hl:=(List.getElem?_eq_some_iff.1 h).1
 rw [List.length_map,List.length_range] at hl
 rw [zd2 hl] at h
 exact ⟨hl,by simpa using h.symm⟩
theorem RQ.get {f : zae} {s : SiD} {now had : List Nat} (h : RQ f s now had) {i : Nat} (hi : i < f.vs.length) : ∃ y b,now[i]? = some y /\ had[i]? = some b /\ y < rlen f.vs i /\ b < 8:=by
 obtain ⟨y,hy⟩ : ∃ y,now[i]? = some y:=⟨now[i]'(by rw [h.ln];exact hi),List.getElem?_eq_getElem _⟩
 obtain ⟨b,hb⟩ : ∃ b,had[i]? = some b:=⟨had[i]'(by rw [h.lh];exact hi),List.getElem?_eq_getElem _⟩
 exact ⟨y,b,hy,hb,h.nr i y hy,h.h8 i b hb⟩
theorem RQ.start {f : zae} (ho : Ord f) : RQ f (begD (zad f)) ((List.range f.vs.length).map fun s => (nowI f s).toNat) ((List.range f.vs.length).map fun s => 2 ^ (nowI f s).toNat):=by
 refine ⟨zhm (zb5 f),by simp,by simp,fun i y h => ?_,fun i h hh => ?_,fun i h r hh hr hb => ?_,fun p hp => ?_,fun p hp => ?_⟩
 ·obtain ⟨hl,rfl⟩:=zfq h;have:=ho.rl hl;omega
 ·obtain ⟨hl,rfl⟩:=zfq hh;have:=ho.rl hl;exact zxu (by omega)
 ·obtain ⟨hl,rfl⟩:=zfq hh
  have:=ho.rl hl
  rw [zmf (by omega) hr] at hb
  have:=of_decide_eq_true hb
  omega
 ·show (zad f).fst.getD p false = _
  rw [zea f hp,zgl]
  by_cases hl : p / 3 < f.vs.length
  ·have hrl:=ho.rl hl
   have h1:=ze5 f (p / 3) (p % 3) (by omega)
   rw [show p / 3 * 3 + p % 3 = p by omega] at h1
   rw [h1,zbp (zd2 hl)]
   rw [Bool.eq_iff_iff];simp [hl];omega
  ·have h1:=ze5 f (p / 3) (p % 3) (by omega)
   rw [show p / 3 * 3 + p % 3 = p by omega] at h1
   rw [h1];simp [hl]
 ·show (zad f).fst.getD p false = _
  rw [zea f hp,zgl]
  have h1:=ze5 f (p / 3) (p % 3) (by omega)
  rw [show p / 3 * 3 + p % 3 = p by omega] at h1
  by_cases hl : p / 3 < f.vs.length
  ·have hrl:=ho.rl hl
   rw [h1,zbp (zd2 hl),zmf (by omega) (by omega)]
   rw [Bool.eq_iff_iff];simp [hl];omega
  ·rw [h1];simp [hl]
theorem zwe {xs : List Nat} {a r n i : Nat} (h : i < n) : (nowS xs a r n)[i]? = some (if i = a then r else xs.getD i 0):=zd2 h
theorem zuu {xs : List Nat} {a r n i : Nat} (h : i < n) : (hadS xs a r n)[i]? = some (if i = a then xs.getD i 0 ||| 2 ^ r else xs.getD i 0):=zd2 h
theorem RQ.step {f : zae} (ho : Ord f) {s : SiD} {now had : List Nat} (h : RQ f s now had) {x y : Nat} (hx : x < f.vs.length) (hy : y < rlen f.vs x) : RQ f (aft s ((x * 3 + y : Nat) : Int)) (nowS now x y f.vs.length) (hadS had x y f.vs.length):=by
 have h3:=ho.vs3
 have hy3 : y < 3:=by have:=ho.rl hx;omega
 have hp9 : x * 3 + y < 9:=by omega
 refine ⟨zhh h.ok _,by simp [nowS],by simp [hadS],fun i z hz => ?_,fun i b hb => ?_,fun i b r hb hr hbit => ?_,fun p hp => ?_,fun p hp => ?_⟩
 ·obtain ⟨hl,rfl⟩:=zfq hz
  obtain ⟨u,v,hu,hv,hur,hv8⟩:=h.get hl
  by_cases hix : i = x
  ·subst hix;rw [if_pos rfl];exact hy
  ·rw [if_neg hix,zbp hu];exact hur
 ·obtain ⟨hl,rfl⟩:=zfq hb
  obtain ⟨u,v,hu,hv,hur,hv8⟩:=h.get hl
  rw [zbp hv]
  split
  ·exact zwt hv8 hy3
  ·exact hv8
 ·obtain ⟨hl,rfl⟩:=zfq hb
  obtain ⟨u,v,hu,hv,hur,hv8⟩:=h.get hl
  rw [zbp hv] at hbit
  by_cases hix : i = x
  ·subst hix
   rw [if_pos rfl,zme hv8 hy3 hr,Bool.or_eq_true] at hbit
   rcases hbit with hbit | hbit
   ·exact h.hr i v r hv hr hbit
   ·have:=of_decide_eq_true hbit;omega
  ·rw [if_neg hix] at hbit
   exact h.hr i v r hv hr hbit
 ·unfold aft
  rw [if_pos (by omega),Int.toNat_natCast]
  unfold aftD
  simp only
  rw [zhw (by simp;omega),zd3 _ _ hp,show (x * 3 + y) / 3 = x by omega]
  by_cases hl : p / 3 < f.vs.length
  ·rw [zbp (zwe hl)]
   by_cases h1 : p / 3 = x
   ·rw [if_pos h1,if_pos h1]
    rw [Bool.eq_iff_iff]
    simp only [Bool.and_eq_true,decide_eq_true_eq]
    by_cases h2 : x * 3 + y = p
    ·rw [if_pos h2];simp;omega
    ·rw [if_neg h2];simp;omega
   ·rw [if_neg (by omega),if_neg h1,if_neg h1,h.hs p hp]
  ·rw [if_neg (by omega),if_neg (by omega),h.hs p hp];simp [hl]
 ·unfold aft
  rw [if_pos (by omega),Int.toNat_natCast]
  unfold aftD
  simp only
  rw [zhw (by rw [h.ok.2];omega),h.hd p hp]
  by_cases hl : p / 3 < f.vs.length
  ·obtain ⟨u,v,hu,hv,hur,hv8⟩:=h.get hl
   rw [zbp (zuu hl),zbp hv]
   by_cases h1 : p / 3 = x
   ·rw [if_pos h1,zme hv8 hy3 (by omega)]
    by_cases h2 : x * 3 + y = p
    ·rw [if_pos h2,show decide (p % 3 = y) = true by simp;omega];simp [hl]
    ·rw [if_neg h2,show decide (p % 3 = y) = false by simp;omega];simp
   ·rw [if_neg (by omega),if_neg h1]
  ·rw [if_neg (by omega)];simp [hl]
theorem RQ.inj {f : zae} (ho : Ord f) {s t : SiD} {now had now' had' : List Nat} (h : RQ f s now had) (k : RQ f t now' had') : s = t ↔ (now = now' /\ had = had'):=by
 have h3:=ho.vs3
 constructor
 ·rintro rfl
  have hpl : ∀ i r,i < f.vs.length -> r < 3 -> (i * 3 + r) / 3 = i /\ (i * 3 + r) % 3 = r /\ i * 3 + r < 9:=fun i r hi hr => by omega
  constructor
  ·refine List.ext_getElem (by rw [h.ln,k.ln]) fun i h1 h2 => ?_
   have hi : i < f.vs.length:=by rw [<- h.ln];exact h1
   have hrl:=ho.rl hi
   obtain ⟨u,v,hu,hv,hur,hv8⟩:=h.get hi
   obtain ⟨u',v',hu',hv',hur',hv8'⟩:=k.get hi
   have e1 : now[i] = u:=by rw [List.getElem?_eq_getElem h1] at hu;simpa using hu
   have e2 : now'[i] = u':=by rw [List.getElem?_eq_getElem h2] at hu';simpa using hu'
   obtain ⟨a1,a2,a3⟩:=hpl i u hi (by omega)
   have q1:=h.hs (i * 3 + u) a3
   have q2:=k.hs (i * 3 + u) a3
   rw [q1,a1,a2,zbp hu,zbp hu'] at q2
   simp [hi] at q2
   rw [e1,e2,q2]
  ·refine List.ext_getElem (by rw [h.lh,k.lh]) fun i h1 h2 => ?_
   have hi : i < f.vs.length:=by rw [<- h.lh];exact h1
   obtain ⟨u,v,hu,hv,hur,hv8⟩:=h.get hi
   obtain ⟨u',v',hu',hv',hur',hv8'⟩:=k.get hi
   have e1 : had[i] = v:=by rw [List.getElem?_eq_getElem h1] at hv;simpa using hv
   have e2 : had'[i] = v':=by rw [List.getElem?_eq_getElem h2] at hv';simpa using hv'
   have q : ∀ r,r < 3 -> bitB v r = bitB v' r:=fun r hr => by
    obtain ⟨a1,a2,a3⟩:=hpl i r hi hr
    have q1:=h.hd (i * 3 + r) a3
    have q2:=k.hd (i * 3 + r) a3
    rw [q1,a1,a2,zbp hv,zbp hv'] at q2
    simpa [hi] using q2
   rw [e1,e2]
   exact zs5 hv8 hv8' (q 0 (by omega)) (q 1 (by omega)) (q 2 (by omega))
 ·rintro ⟨rfl,rfl⟩
  rw [SiD.eq_iff]
  constructor
  ·refine List.ext_getElem (by rw [h.ok.1,k.ok.1]) fun p h1 h2 => ?_
   have q1:=h.hs p (by rw [<- h.ok.1];exact h1)
   have q2:=k.hs p (by rw [<- h.ok.1];exact h1)
   rw [<- q1] at q2
   simpa [List.getD,h1,h2] using q2.symm
  ·refine List.ext_getElem (by rw [h.ok.2,k.ok.2]) fun p h1 h2 => ?_
   have q1:=h.hd p (by rw [<- h.ok.2];exact h1)
   have q2:=k.hd p (by rw [<- h.ok.2];exact h1)
   rw [<- q1] at q2
   simpa [List.getD,h1,h2] using q2.symm
end
end Go.Proofs.YtkkekopomiehlaaGreat
