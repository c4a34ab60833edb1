import Derived.Test.YtkkekopomiehlaaGreatCLn1
set_option linter.unusedVariables false
set_option linter.unusedSimpArgs false
set_option maxHeartbeats 40000000
set_option maxRecDepth 4000
namespace Go.Proofs.YtkkekopomiehlaaGreat
section
open Go.RowKit
theorem Tryz.infoSvcL : (Tryz.prog.info? 67).map (fun i => (i.zero,i.size,i.bytes)) = some (some (.agg #[.int .i64 0,.int .i64 0,.int .i64 0,.slice none 0 0]),4,48):=by kernel_rfl
def LRel (w : World) (B : Nat) (v : Value) (rels : List (List PinD)) : Prop:=∃ (g g' : Nat) (cs : List Value),v = .slice (some ⟨g,0,none⟩) rels.length (rels.length + 1) /\ B <= g /\ g < g' /\ cs.length = rels.length /\ RowIs w g 92 (cs ++ [.slice (some ⟨g',0,none⟩) 1 1]) /\ RowIs w g' 94 zd5 /\
 ∀ (k : Nat) (v : Value) (ps : List PinD),cs[k]? = some v -> rels[k]? = some ps -> LPin w (g + 1) v ps
theorem LRel.keep {w w' : World} (hb : Below w.heap.size w w') {B : Nat} {v : Value} {rels : List (List PinD)} (h : LRel w B v rels) : LRel w' B v rels:=by
 obtain ⟨g,g',cs,h1,h2,h3,h4,h5,h6,h7⟩:=h
 exact ⟨g,g',cs,h1,h2,h3,h4,h5.keep hb,h6.keep hb,fun k v ps a b => (h7 k v ps a b).keep hb⟩
theorem LRel.setOther {w : World} {B : Nat} {v : Value} {rels : List (List PinD)} (h : LRel w B v rels) {p : Addr} (hp : p.block < B) (u : Value) : LRel (w.setCell p u) B v rels:=by
 obtain ⟨g,g',cs,h1,h2,h3,h4,h5,h6,h7⟩:=h
 exact ⟨g,g',cs,h1,h2,h3,h4,h5.setOther (by omega) u,h6.setOther (by omega) u,fun k v ps a b => (h7 k v ps a b).setOther (by omega) u⟩
def svC (D : List (SvcD × Value)) : List Value:=D.flatMap fun p => [.int .i64 p.1.size,.int .i64 p.1.now,.int .i64 p.1.want,p.2]
theorem zlo : ∀ D : List (SvcD × Value),(svC D).length = D.length * 4
 | [] => rfl
 | p :: D => by rw [svC,List.flatMap_cons,List.length_append];have:=zlo D;rw [svC] at this;rw [this,List.length_cons];simp;omega
theorem zzx (D E : List (SvcD × Value)) : svC (D ++ E) = svC D ++ svC E:=by simp [svC]
theorem set4 {C r : List Value} {x0 x1 x2 x3 a b c d : Value} : ((((C ++ x0 :: x1 :: x2 :: x3 :: r).set C.length a).set (C.length + 1) b).set (C.length + 2) c).set (C.length + 3) d = (C ++ [a,b,c,d]) ++ r:=by simp [List.set_append]
theorem zy6 {C r : List Value} {a b c d e : Value} : ((C ++ [a,b,c,d]) ++ r).set (C.length + 3) e = (C ++ [a,b,c,e]) ++ r:=by simp [List.set_append]
theorem len4 {r : List Value} (h : 4 <= r.length) : ∃ x0 x1 x2 x3 r',r = x0 :: x1 :: x2 :: x3 :: r':=by
 match r,h with
 | x0 :: x1 :: x2 :: x3 :: r',_ => exact ⟨x0,x1,x2,x3,r',rfl⟩
theorem zvi (vs : List SvcD) (w : World) (a : Option Addr) (cap : Nat) (hl : vs.length <= 2000000) (hp : SvcsAt (RelSl PinSl) w a vs) :
  Calls Tryz.prog 19 #[.slice a vs.length cap] w fun e W => ∃ (g : Nat) (D : List (SvcD × Value)),e = .returned (.slice (some ⟨g,0,none⟩) vs.length (vs.length + 1)) /\ w.heap.size <= g /\ D.map Prod.fst = vs /\ RowIs W g 67 (svC D ++ [.int .i64 (-7),.int .i64 (-7),.int .i64 (-7),.slice none 0 0]) /\
   (∀ p ∈ D,LRel W (g + 1) p.2 p.1.rels) /\ Below w.heap.size w W:=by
 obtain ⟨ii,hii,hz0,hzz1,hzz2⟩:=info_parts Tryz.infoSvcL
 have hmk:=run_makeSlice (P:=Tryz.prog) (w:=w) 24 67 ii _ Tryz.underlying24 hii hz0 .i64 .i64 ((vs.length : Int) + 1) ((vs.length : Int) + 1) (by omega) (Int.le_refl _) (by rw [hzz1];omega) (by rw [hzz2];omega) (by omega)
 obtain ⟨M,hMd⟩ : ∃ M,M = madeCells (.agg #[.int .i64 0,.int .i64 0,.int .i64 0,.slice none 0 0] : Value).cells (((vs.length : Int) + 1).toNat * ii.size):=⟨_,rfl⟩
 have hM : M.size = (vs.length + 1) * 4:=by rw [hMd,size_madeCells,hzz1];omega
 rw [<- hMd,show ((vs.length : Int) + 1).toNat = vs.length + 1 by omega] at hmk
 clear hMd
 have hrow0 : RowIs (w.alloc (.cells M 67)) w.heap.size 67 M.toList:=by
  unfold RowIs;rw [heap_alloc_new w _]
 have HP:= zab hp
 clear hp
 go_enter Tryz.func19,Tryz.ntmps19
 go_wp2_with fail
 go_loopw [4] (fun vi wr => ∃ (i : Nat) (D : List (SvcD × Value)) (r : List Value),i <= vs.length /\ vi = .int .i64 i /\ Hid (D.map Prod.fst = vs.take i) /\ r.length + i * 4 = (vs.length + 1) * 4 /\ RowIs wr w.heap.size 67 (svC D ++ r) /\ Hid (∀ p ∈ D,LRel wr (w.heap.size + 1) p.2 p.1.rels) /\ Below w.heap.size w wr) (fun i _ => vs.length - (intOf i).toNat)
 case atStart => exact ⟨0,[],M.toList,Nat.zero_le _,rfl,(by show _ = _;rfl),by simp [hM],hrow0,(fun p h => by simp at h),bel1 _ _⟩
 case round =>
  obtain ⟨i,D,r,hi,rfl,hD,hrl,hrow,hall,hb⟩:=hrel
  rename World => w5
  have hgl:=hrow.lt
  have hDl : D.length = i:=by have:=congrArg List.length hD.out;rw [List.length_map,List.length_take] at this;omega
  have hCl:=zlo D
  rw [hDl] at hCl
  by_cases hlt : i < vs.length
  ·obtain ⟨v,hvi⟩ : ∃ v,vs[i]? = some v:=⟨vs[i],List.getElem?_eq_getElem hlt⟩
   obtain ⟨b,o,ra,rl,rc,rfl,d0,d1,d2,d3,hrs⟩:=HP.out i v hvi
   have c0:=zaa hb d0
   have c1:=zaa hb d1
   have c2:=zaa hb d2
   have c3:=zaa hb d3
   have hbl:=zaf d0
   have hbl5:=zaf c0
   have hne : b ≠ w.heap.size:=by omega
   have hcall:=fun (W : World) (h : Below w.heap.size w W) => zvh v.rels W ra rl rc (RelSl.keepP h hrs)
   obtain ⟨x0,x1,x2,x3,r',rfl⟩:=len4 (r:=r) (by omega)
   have q0 : w5.cell? ⟨w.heap.size,i * 4,none⟩ = some x0:=hrow.cell (by rw [List.getElem?_append_right (by omega),hCl,show i * 4 - i * 4 = 0 by omega];rfl)
   have q1 : w5.cell? ⟨w.heap.size,i * 4 + 1,none⟩ = some x1:=hrow.cell (by rw [List.getElem?_append_right (by omega),hCl,show i * 4 + 1 - i * 4 = 1 by omega];rfl)
   have q2 : w5.cell? ⟨w.heap.size,i * 4 + 2,none⟩ = some x2:=hrow.cell (by rw [List.getElem?_append_right (by omega),hCl,show i * 4 + 2 - i * 4 = 2 by omega];rfl)
   have q3 : w5.cell? ⟨w.heap.size,i * 4 + 3,none⟩ = some x3:=hrow.cell (by rw [List.getElem?_append_right (by omega),hCl,show i * 4 + 3 - i * 4 = 3 by omega];rfl)
   have z0:=hrow.frozen (i * 4)
   have z1:=hrow.frozen (i * 4 + 1)
   have z2:=hrow.frozen (i * 4 + 2)
   have z3:=hrow.frozen (i * 4 + 3)
   have hx0 := znn i
   have hx1 : (i : Int) < (vs.length : Int):=by omega
   have hx2 : (i : Int) < (vs.length : Int) + 1:=by omega
   have HRow:= zab hrow
   have HV:= zab hvi
   have HC:= zab hCl
   have HDl:= zab hDl
   clear hrow hvi hCl hDl hrow0 d0 d1 d2 d3
   obtain ⟨sz,nw,wn,rels⟩:=v
   simp only at c0 c1 c2 c3 hcall
   have hW6 : Below w.heap.size w ((((w5.setCell ⟨w.heap.size,i * 4,none⟩ (.int .i64 sz)).setCell ⟨w.heap.size,i * 4 + 1,none⟩ (.int .i64 nw)).setCell ⟨w.heap.size,i * 4 + 2,none⟩ (.int .i64 wn)).setCell ⟨w.heap.size,i * 4 + 3,none⟩ (.slice ra rl rc)):=(((hb.setCell (Nat.le_refl _) _).setCell (Nat.le_refl _) _).setCell (Nat.le_refl _) _).setCell (Nat.le_refl _) _
   have row6 : RowIs ((((w5.setCell ⟨w.heap.size,i * 4,none⟩ (.int .i64 sz)).setCell ⟨w.heap.size,i * 4 + 1,none⟩ (.int .i64 nw)).setCell ⟨w.heap.size,i * 4 + 2,none⟩ (.int .i64 wn)).setCell ⟨w.heap.size,i * 4 + 3,none⟩ (.slice ra rl rc)) w.heap.size 67 ((svC D ++ [.int .i64 sz,.int .i64 nw,.int .i64 wn,.slice ra rl rc]) ++ r'):=by
    have h1:=(((HRow.out.set (i * 4) (.int .i64 sz)).set (i * 4 + 1) (.int .i64 nw)).set (i * 4 + 2) (.int .i64 wn)).set (i * 4 + 3) (.slice ra rl rc)
    rw [<- HC.out,set4] at h1
    rw [HC.out] at h1
    exact h1
   have ROW6:= zab row6
   clear row6
   go_wp2_with (go_at_call 41;refine (hcall _ hW6).mono ?_;rintro e w7 ⟨g7,g7',cs7,rfl,h71,h72,h73,h74,h75,h76,hb7⟩;have H76:= zab h76;clear h76;have e3 : w7.cell? ⟨w.heap.size,i * 4 + 3,none⟩ = some (.slice ra rl rc):=(ROW6.out.keep hb7).cell (by rw [List.getElem?_append_left (by rw [List.length_append,HC.out];simp),List.getElem?_append_right (by rw [HC.out];omega),HC.out,show i * 4 + 3 - i * 4 = 3 by omega];rfl);have z7:=(ROW6.out.keep hb7).frozen (i * 4 + 3))
   go_roundw
   case rel =>
    have hz6 : ((((w5.setCell ⟨w.heap.size,i * 4,none⟩ (.int .i64 sz)).setCell ⟨w.heap.size,i * 4 + 1,none⟩ (.int .i64 nw)).setCell ⟨w.heap.size,i * 4 + 2,none⟩ (.int .i64 wn)).setCell ⟨w.heap.size,i * 4 + 3,none⟩ (.slice ra rl rc)).heap.size = w5.heap.size:=by simp [World.setCell]
    refine ⟨i + 1,D ++ [(⟨sz,nw,wn,rels⟩,.slice (some ⟨g7,0,none⟩) rels.length (rels.length + 1))],r',by omega,by go_num,?_,by simp only [List.length_cons] at hrl;omega,?_,?_,(thn3 hW6 hb7).setCell (Nat.le_refl _) _⟩
    ·show _ = _
     rw [List.map_append,hD.out,List.take_add_one,HV.out];rfl
    ·have h1:=(ROW6.out.keep hb7).set (i * 4 + 3) (.slice (some ⟨g7,0,none⟩) rels.length (rels.length + 1))
     rw [<- HC.out,zy6] at h1
     rw [HC.out] at h1
     rw [zzx]
     exact h1
    ·intro p hp
     rcases List.mem_append.1 hp with hp | hp
     ·refine LRel.setOther (LRel.keep hb7 ?_) (by show w.heap.size < w.heap.size + 1;omega) _
      exact ((((hall.out p hp).setOther (by show w.heap.size < w.heap.size + 1;omega) _).setOther (by show w.heap.size < w.heap.size + 1;omega) _).setOther (by show w.heap.size < w.heap.size + 1;omega) _).setOther (by show w.heap.size < w.heap.size + 1;omega) _
     ·rw [List.mem_singleton.1 hp]
      refine LRel.setOther ?_ (by show w.heap.size < w.heap.size + 1;omega) _
      exact ⟨g7,g7',cs7,rfl,by omega,h72,h73,h74,h75,H76.out⟩
   case measure => simp [intOf];omega
  ·have hie : i = vs.length:=by omega
   obtain ⟨x0,x1,x2,x3,r',rfl⟩:=len4 (r:=r) (by omega)
   obtain rfl : r' = []:=List.eq_nil_of_length_eq_zero (by simp only [List.length_cons] at hrl;omega)
   have q0 : w5.cell? ⟨w.heap.size,vs.length * 4,none⟩ = some x0:=hrow.cell (by rw [List.getElem?_append_right (by omega),hCl,show vs.length * 4 - i * 4 = 0 by omega];rfl)
   have q1 : w5.cell? ⟨w.heap.size,vs.length * 4 + 1,none⟩ = some x1:=hrow.cell (by rw [List.getElem?_append_right (by omega),hCl,show vs.length * 4 + 1 - i * 4 = 1 by omega];rfl)
   have q2 : w5.cell? ⟨w.heap.size,vs.length * 4 + 2,none⟩ = some x2:=hrow.cell (by rw [List.getElem?_append_right (by omega),hCl,show vs.length * 4 + 2 - i * 4 = 2 by omega];rfl)
   have q3 : w5.cell? ⟨w.heap.size,vs.length * 4 + 3,none⟩ = some x3:=hrow.cell (by rw [List.getElem?_append_right (by omega),hCl,show vs.length * 4 + 3 - i * 4 = 3 by omega];rfl)
   have z0:=hrow.frozen (vs.length * 4)
   have z1:=hrow.frozen (vs.length * 4 + 1)
   have z2:=hrow.frozen (vs.length * 4 + 2)
   have z3:=hrow.frozen (vs.length * 4 + 3)
   have hx0 : (0 : Int) <= (vs.length : Int):=Int.natCast_nonneg _
   have HRow:= zab hrow
   have HC : Hid ((svC D).length = vs.length * 4):=by show _ = _;omega
   have HDD : Hid (D.map Prod.fst = vs):=by show _ = _;rw [hD.out,List.take_of_length_le (by omega)]
   clear hrow hrow0 hie hrl hCl hDl
   go_wp2_with fail
   go_ret
   refine ⟨w.heap.size,D,rfl,Nat.le_refl _,HDD.out,?_,?_,(((hb.setCell (Nat.le_refl _) _).setCell (Nat.le_refl _) _).setCell (Nat.le_refl _) _).setCell (Nat.le_refl _) _⟩
   ·have h1:=(((HRow.out.set (vs.length * 4) (.int .i64 (-7))).set (vs.length * 4 + 1) (.int .i64 (-7))).set (vs.length * 4 + 2) (.int .i64 (-7))).set (vs.length * 4 + 3) (.slice none 0 0)
    rw [<- HC.out,set4,List.append_nil] at h1
    rw [HC.out] at h1
    exact h1
   ·intro p hp
    exact ((((hall.out p hp).setOther (by show w.heap.size < w.heap.size + 1;omega) _).setOther (by show w.heap.size < w.heap.size + 1;omega) _).setOther (by show w.heap.size < w.heap.size + 1;omega) _).setOther (by show w.heap.size < w.heap.size + 1;omega) _
end
section
open Go.RowKit
structure LentF (w : World) (gs gt gv : Nat) (D : List (SvcD × Value)) (f : zae) : Prop where
 s : RowIs w gs 9 (f.ss.map .string ++ [.string zd8])
 t : RowIs w gt 89 (f.ts.map (.int .i64) ++ [.int .i64 (-7)])
 d : D.map Prod.fst = f.vs
 v : RowIs w gv 67 (svC D ++ [.int .i64 (-7),.int .i64 (-7),.int .i64 (-7),.slice none 0 0])
 r : ∀ p ∈ D,LRel w (gv + 1) p.2 p.1.rels
theorem LentF.keep {w w' : World} (hb : Below w.heap.size w w') {gs gt gv : Nat} {D : List (SvcD × Value)} {f : zae} (h : LentF w gs gt gv D f) : LentF w' gs gt gv D f :=
 ⟨h.s.keep hb,h.t.keep hb,h.d,h.v.keep hb,fun p hp => (h.r p hp).keep hb⟩
def zgq (gs gt gv : Nat) (f : zae) : Value:=.agg #[.slice (some ⟨gs,0,none⟩) f.ss.length (f.ss.length + 1),.slice (some ⟨gt,0,none⟩) f.ts.length (f.ts.length + 1),.slice (some ⟨gv,0,none⟩) f.vs.length (f.vs.length + 1)]
theorem RowIs.strs {w : World} {g : Nat} {t : TypeId} {ss : List ByteArray} {r : List Value} (h : RowIs w g t (ss.map .string ++ r)) : StrsAt w (some ⟨g,0,none⟩) ss:=fun i s hi => by
 refine ⟨g,0,rfl,?_⟩
 rw [Nat.zero_add]
 refine h.cell ?_
 rw [List.getElem?_append_left (by rw [List.length_map];exact (List.getElem?_eq_some_iff.1 hi).1),List.getElem?_map,hi];rfl
theorem RowIs.ints {w : World} {g : Nat} {t : TypeId} {ns : List Int} {r : List Value} (h : RowIs w g t (ns.map (.int .i64) ++ r)) : IntsAt w (some ⟨g,0,none⟩) ns:=fun i s hi => by
 refine ⟨g,0,rfl,?_⟩
 rw [Nat.zero_add]
 refine h.cell ?_
 rw [List.getElem?_append_left (by rw [List.length_map];exact (List.getElem?_eq_some_iff.1 hi).1),List.getElem?_map,hi];rfl
theorem zps {ps : List PinD} {i : Nat} {p : PinD} (h : ps[i]? = some p) (r : List Value) : (pinC ps ++ r)[i * 3]? = some (.int .i64 p.t) /\ (pinC ps ++ r)[i * 3 + 1]? = some (.int .i64 p.w) /\ (pinC ps ++ r)[i * 3 + 2]? = some (.int .i64 p.r):=by
 have hl:=(List.getElem?_eq_some_iff.1 h).1
 have hc:=zde ps
 refine ⟨?_,?_,?_⟩
 ·rw [List.getElem?_append_left (by omega),zg0,show i * 3 / 3 = i by omega,h];simp
 ·rw [List.getElem?_append_left (by omega),zg0,show (i * 3 + 1) / 3 = i by omega,h,show (i * 3 + 1) % 3 = 1 by omega];simp
 ·rw [List.getElem?_append_left (by omega),zg0,show (i * 3 + 2) / 3 = i by omega,h,show (i * 3 + 2) % 3 = 2 by omega];simp
theorem RowIs.pins {w : World} {g : Nat} {t : TypeId} {ps : List PinD} {r : List Value} (h : RowIs w g t (pinC ps ++ r)) : PinsAt w (some ⟨g,0,none⟩) ps:=fun i p hi => by
 obtain ⟨h1,h2,h3⟩:=zps hi r
 refine ⟨g,0,rfl,?_,?_,?_⟩ <;> rw [Nat.zero_add]
 ·exact h.cell h1
 ·exact h.cell h2
 ·exact h.cell h3
theorem LRel.sl {w : World} {B : Nat} {v : Value} {rels : List (List PinD)} (h : LRel w B v rels) (hl : rels.length <= 2000000) (hps : ∀ ps ∈ rels,ps.length <= 2000000) : ∃ a l c,v = .slice a l c /\ RelSl PinSl w a l c rels:=by
 obtain ⟨g,g',cs,h1,h2,h3,h4,h5,h6,h7⟩:=h
 refine ⟨_,_,_,h1,rfl,hl,by omega,by omega,fun i ps hi => ?_⟩
 have hil:=(List.getElem?_eq_some_iff.1 hi).1
 obtain ⟨u,hu⟩ : ∃ u,cs[i]? = some u:=⟨cs[i]'(by omega),List.getElem?_eq_getElem (by omega)⟩
 obtain ⟨gp,k1,k2,k3⟩:=h7 i u ps hu hi
 have hc : w.cell? ⟨g,i,none⟩ = some u:=h5.cell (by rw [List.getElem?_append_left (by omega)];exact hu)
 rw [k1] at hc
 exact ⟨g,0,_,_,_,rfl,by rw [Nat.zero_add];exact hc,rfl,hps ps (List.mem_of_getElem? hi),by omega,by have:=hps ps (List.mem_of_getElem? hi);omega,k3.pins⟩
theorem zi0 : ∀ (D : List (SvcD × Value)) (i : Nat) (p : SvcD × Value) (r : List Value),D[i]? = some p -> (svC D ++ r)[i * 4]? = some (.int .i64 p.1.size) /\ (svC D ++ r)[i * 4 + 1]? = some (.int .i64 p.1.now) /\ (svC D ++ r)[i * 4 + 2]? = some (.int .i64 p.1.want) /\ (svC D ++ r)[i * 4 + 3]? = some p.2
 | [],i,p,r,h => by simp at h
 | q :: D,0,p,r,h => by
  simp at h;subst h
  exact ⟨rfl,rfl,rfl,rfl⟩
 | q :: D,i + 1,p,r,h => by
  rw [List.getElem?_cons_succ] at h
  have:=zi0 D i p r h
  have e : svC (q :: D) ++ r = .int .i64 q.1.size :: .int .i64 q.1.now :: .int .i64 q.1.want :: q.2 :: (svC D ++ r):=by simp [svC]
  rw [e,show (i + 1) * 4 = i * 4 + 1 + 1 + 1 + 1 by omega,show i * 4 + 1 + 1 + 1 + 1 + 1 = i * 4 + 1 + 1 + 1 + 1 + 1 by omega]
  exact this
def ziv (f : zae) : Prop:=f.ss.length <= 2000000 /\ (∀ s ∈ f.ss,s.size <= maxLen) /\ f.ts.length <= 2000000 /\ f.vs.length <= 2000000 /\ ∀ v ∈ f.vs,v.rels.length <= 2000000 /\ ∀ ps ∈ v.rels,ps.length <= 2000000
theorem LentF.at {w : World} {gs gt gv : Nat} {D : List (SvcD × Value)} {f : zae} (h : LentF w gs gt gv D f) (hs : ziv f) : FleetAt w (some ⟨gs,0,none⟩) f.ss.length (f.ss.length + 1) (some ⟨gt,0,none⟩) f.ts.length (f.ts.length + 1) (some ⟨gv,0,none⟩) f.vs.length (f.vs.length + 1) f:=by
 obtain ⟨s1,s2,s3,s4,s5⟩:=hs
 refine ⟨rfl,s1,s2,h.s.strs,rfl,s3,h.t.ints,rfl,s4,fun i v hi => ?_⟩
 have hi':=hi
 rw [<- h.d,List.getElem?_map] at hi'
 obtain ⟨p,hp,rfl⟩:=Option.map_eq_some_iff.1 hi'
 obtain ⟨k0,k1,k2,k3⟩:=zi0 D i p [.int .i64 (-7),.int .i64 (-7),.int .i64 (-7),.slice none 0 0] hp
 have hm:=List.mem_of_getElem? hi
 obtain ⟨a,l,c,hv,hr⟩:=(h.r p (List.mem_of_getElem? hp)).sl (s5 _ hm).1 (s5 _ hm).2
 have c3:=h.v.cell k3
 rw [hv] at c3
 refine ⟨gv,0,a,l,c,rfl,?_,?_,?_,?_,hr⟩ <;> rw [Nat.zero_add]
 ·exact h.v.cell k0
 ·exact h.v.cell k1
 ·exact h.v.cell k2
 ·exact c3
end
section
open Go.RowKit
theorem zkb {cs : List Value} {u : Value} {n : Nat} (h : cs.length = n) : (cs ++ [u])[n]? = some u:=by rw [List.getElem?_append_right (by omega),h,Nat.sub_self];rfl
theorem yaaz (ss : List ByteArray) (w : World) (g : Nat) (a : Option Addr) (cap : Nat) (hl : ss.length <= 2000000) (hrow : RowIs w g 9 (ss.map .string ++ [.string zd8])) (hp : StrsAt w a ss) :
  Calls Tryz.prog 25 #[.slice (some ⟨g,0,none⟩) ss.length (ss.length + 1),.slice a ss.length cap] w fun e W => e = .returned (.bool true) /\ Below w.heap.size w W:=by
 have hgl:=hrow.lt
 have hlast : w.cell? ⟨g,ss.length,none⟩ = some (.string zd8):=hrow.cell (zkb (by rw [List.length_map]))
 have HRow:= zab hrow
 have HP:= zab hp
 have hnn : ((ss.length : Int) != (ss.length : Int)) = false:=by simp
 have hx9 : (0 : Int) <= (ss.length : Int):=Int.natCast_nonneg _
 clear hrow hp
 go_enter Tryz.func25,Tryz.ntmps25
 go_wp2_with fail
 go_loopw [6] (fun vi wr => ∃ i : Nat,i <= ss.length /\ vi = .int .i64 i /\ Below w.heap.size w wr) (fun i _ => ss.length - (intOf i).toNat)
 case atStart => exact ⟨0,Nat.zero_le _,rfl,Below.refl _ _⟩
 case round =>
  obtain ⟨i,hi,rfl,hb⟩:=hrel
  have hgl2 : g < wr.heap.size:=Nat.lt_of_lt_of_le hgl hb.size
  have hx0 := znn i
  by_cases hlt : i < ss.length
  ·obtain ⟨s,hsi⟩ : ∃ s,ss[i]? = some s:=⟨ss[i],List.getElem?_eq_getElem hlt⟩
   have c0:=zaa hb (HRow.out.cell (j:=i) (v:=.string s) (by rw [List.getElem?_append_left (by rw [List.length_map];omega),List.getElem?_map,hsi];rfl))
   obtain ⟨b,o,rfl,d0⟩:=HP.out i s hsi
   have d0:=zaa hb d0
   have hbl:=zaf d0
   have hx1 : (i : Int) < (ss.length : Int):=by omega
   have hx2 : (i : Int) < (ss.length : Int) + 1:=by omega
   have heq : (s.toList != s.toList) = false:=by simp
   clear hsi
   go_wp2_with fail
   (first | go_region_held3 (fun w' => w'.cell? ⟨g,i,none⟩ = some (.string s) /\ w'.cell? ⟨b,o + i,none⟩ = some (.string s)) (go_keep) (fail) | skip)
   go_wp2_with fail
   go_roundw
   case rel => first | exact ⟨i + 1,by omega,by go_num,hb.drew⟩ | exact ⟨i + 1,by omega,by go_num,hb⟩
   case measure => simp [intOf];omega
  ·have c9:=zaa hb hlast
   go_wp2_with fail
   go_ret
   exact ⟨za9 (by first | rfl | decide +kernel),hb⟩
theorem yaa0 (ts : List Int) (w : World) (g : Nat) (a : Option Addr) (cap : Nat) (hl : ts.length <= 2000000) (hrow : RowIs w g 89 (ts.map (.int .i64) ++ [.int .i64 (-7)])) (hp : IntsAt w a ts) :
  Calls Tryz.prog 26 #[.slice (some ⟨g,0,none⟩) ts.length (ts.length + 1),.slice a ts.length cap] w fun e W => e = .returned (.bool true) /\ Below w.heap.size w W:=by
 have hgl:=hrow.lt
 have hlast : w.cell? ⟨g,ts.length,none⟩ = some (.int .i64 (-7)):=hrow.cell (zkb (by rw [List.length_map]))
 have HRow:= zab hrow
 have HP:= zab hp
 have hnn : ((ts.length : Int) != (ts.length : Int)) = false:=by simp
 have hx9 : (0 : Int) <= (ts.length : Int):=Int.natCast_nonneg _
 clear hrow hp
 go_enter Tryz.func26,Tryz.ntmps26
 go_wp2_with fail
 go_loopw [6] (fun vi wr => ∃ i : Nat,i <= ts.length /\ vi = .int .i64 i /\ Below w.heap.size w wr) (fun i _ => ts.length - (intOf i).toNat)
 case atStart => exact ⟨0,Nat.zero_le _,rfl,Below.refl _ _⟩
 case round =>
  obtain ⟨i,hi,rfl,hb⟩:=hrel
  have hgl2 : g < wr.heap.size:=Nat.lt_of_lt_of_le hgl hb.size
  have hx0 := znn i
  by_cases hlt : i < ts.length
  ·obtain ⟨s,hsi⟩ : ∃ s,ts[i]? = some s:=⟨ts[i],List.getElem?_eq_getElem hlt⟩
   have c0:=zaa hb (HRow.out.cell (j:=i) (v:=.int .i64 s) (by rw [List.getElem?_append_left (by rw [List.length_map];omega),List.getElem?_map,hsi];rfl))
   obtain ⟨b,o,rfl,d0⟩:=HP.out i s hsi
   have d0:=zaa hb d0
   have hbl:=zaf d0
   have hx1 : (i : Int) < (ts.length : Int):=by omega
   have hx2 : (i : Int) < (ts.length : Int) + 1:=by omega
   have heq : (s != s) = false:=by simp
   clear hsi
   go_wp2_with fail
   (first | go_region_held3 (fun w' => w'.cell? ⟨g,i,none⟩ = some (.int .i64 s) /\ w'.cell? ⟨b,o + i,none⟩ = some (.int .i64 s)) (go_keep) (fail) | skip)
   go_wp2_with fail
   go_roundw
   case rel => first | exact ⟨i + 1,by omega,by go_num,hb.drew⟩ | exact ⟨i + 1,by omega,by go_num,hb⟩
   case measure => simp [intOf];omega
  ·have c9:=zaa hb hlast
   go_wp2_with fail
   go_ret
   exact ⟨za9 (by first | rfl | decide +kernel),hb⟩
end
section
open Go.RowKit Go.Lib
theorem Tryz.infoMvL : (Tryz.prog.info? 46).map (fun i => (i.zero,i.size,i.bytes)) = some (some (.agg #[.int .i64 0,.int .i64 0]),2,16):=by kernel_rfl
def MvsAt (w : World) (a : Option Addr) (ms : List (Int × Int)) : Prop:=∀ i m,ms[i]? = some m -> ∃ b o,a = some ⟨b,o,none⟩ /\ w.cell? ⟨b,o + i * 2,none⟩ = some (.int .i64 m.1) /\ w.cell? ⟨b,o + i * 2 + 1,none⟩ = some (.int .i64 m.2)
def mvC (ms : List (Int × Int)) : List Value:=ms.flatMap fun m => [.int .i64 m.1,.int .i64 m.2]
theorem zkm : ∀ ms : List (Int × Int),(mvC ms).length = ms.length * 2
 | [] => rfl
 | p :: ms => by rw [mvC,List.flatMap_cons,List.length_append];have:=zkm ms;rw [mvC] at this;rw [this,List.length_cons];simp;omega
theorem zgu : ∀ (ms : List (Int × Int)) (j : Nat),(mvC ms)[j]? = match ms[j / 2]? with | some m => some (if j % 2 = 0 then .int .i64 m.1 else .int .i64 m.2) | none => none
 | [],j => by simp [mvC]
 | p :: ms,j => by
  rw [mvC,List.flatMap_cons]
  by_cases h : j < 2
  ·rw [List.getElem?_append_left (by simpa using h),show j / 2 = 0 by omega]
   obtain rfl | rfl : j = 0 \/ j = 1:=by omega
   all_goals rfl
  ·have:=zgu ms (j - 2)
   rw [mvC] at this
   rw [List.getElem?_append_right (by simp;omega),show j - [Value.int .i64 p.1,.int .i64 p.2].length = j - 2 from rfl,this,show j / 2 = (j - 2) / 2 + 1 by omega,List.getElem?_cons_succ,show (j - 2) % 2 = j % 2 by omega]
theorem MvsAt.cells {w : World} {a : Option Addr} {ms : List (Int × Int)} (h : MvsAt w a ms) : zen w a (mvC ms):=fun j v hj => by
 rw [zgu] at hj
 cases hp : ms[j / 2]? with
 | none => rw [hp] at hj;cases hj
 | some p =>
  rw [hp] at hj
  simp only [Option.some.injEq] at hj
  obtain ⟨b,o,h1,h2,h3⟩:=h _ p hp
  refine ⟨b,o,h1,?_⟩
  rw [<- hj]
  obtain h0 | h0 : j % 2 = 0 \/ j % 2 = 1:=by omega
  ·rw [if_pos h0,show o + j = o + j / 2 * 2 by omega];exact h2
  ·rw [if_neg (by omega),show o + j = o + j / 2 * 2 + 1 by omega];exact h3
theorem zkn {ms : List (Int × Int)} {i : Nat} {m : Int × Int} (h : ms[i]? = some m) (r : List Value) : (mvC ms ++ r)[i * 2]? = some (.int .i64 m.1) /\ (mvC ms ++ r)[i * 2 + 1]? = some (.int .i64 m.2):=by
 have hl:=(List.getElem?_eq_some_iff.1 h).1
 have hc:=zkm ms
 refine ⟨?_,?_⟩
 ·rw [List.getElem?_append_left (by omega),zgu,show i * 2 / 2 = i by omega,h];simp
 ·rw [List.getElem?_append_left (by omega),zgu,show (i * 2 + 1) / 2 = i by omega,h,show (i * 2 + 1) % 2 = 1 by omega];simp
end
section
open Go.RowKit
def hasI (now : Int) (ms : List (Int × Int)) (s : Int) : Nat -> Int
 | 0 => now
 | j + 1 => if (ms.getD j (-1,0)).1 = s then (ms.getD j (-1,0)).2 else hasI now ms s j
theorem MvsAt.keep {w w' : World} (hb : Below w.heap.size w w') {a : Option Addr} {ms : List (Int × Int)} (h : MvsAt w a ms) : MvsAt w' a ms:=fun i m hi => by
 obtain ⟨b,o,h1,h2,h3⟩:=h i m hi
 exact ⟨b,o,h1,zaa hb h2,zaa hb h3⟩
theorem box2 (w : World) (v0 v1 : Value) (t : TypeId) : (w.alloc (.cells #[v0,v1] t)).cell? ⟨w.heap.size,0,none⟩ = some v0 /\ (w.alloc (.cells #[v0,v1] t)).cell? ⟨w.heap.size,1,none⟩ = some v1 :=
 ⟨za5 rfl rfl,za5 rfl rfl⟩
theorem new2 {W : World} (o : Obj) {b : Nat} {v0 v1 : Value} (h : W.cell? ⟨b,0,none⟩ = some v0 /\ W.cell? ⟨b,1,none⟩ = some v1) : (W.alloc o).cell? ⟨b,0,none⟩ = some v0 /\ (W.alloc o).cell? ⟨b,1,none⟩ = some v1 :=
 ⟨zaw _ h.1,zaw _ h.2⟩
theorem zu4 {W w1 : World} (hb : Below W.heap.size W w1) {b : Nat} {v0 v1 : Value} (h : W.cell? ⟨b,0,none⟩ = some v0 /\ W.cell? ⟨b,1,none⟩ = some v1) : w1.cell? ⟨b,0,none⟩ = some v0 /\ w1.cell? ⟨b,1,none⟩ = some v1 :=
 ⟨zaa hb h.1,zaa hb h.2⟩
theorem zev (s r : Nat) (hs : s < 9) (hr : r < 9) (w : World) : Calls Tryz.prog 58 #[.agg #[.int .i64 s,.int .i64 r]] w fun e W => e = .returned (.int .i64 ((s * 3 + r : Nat) : Int)) /\ Below w.heap.size w W:=by
 go_enter Tryz.func58,Tryz.ntmps58
 go_wp2_with fail
 go_ret
 exact ⟨by go_num,bel1 _ _⟩
end
section
open Go.RowKit
def MatAt (w : World) (a : Option Addr) (M : List (List Bool)) : Prop:=∀ i r,M[i]? = some r -> ∃ b o g c,a = some ⟨b,o,none⟩ /\ w.cell? ⟨b,o + i,none⟩ = some (.slice (some ⟨g,0,none⟩) r.length c) /\ ∀ j x,r[j]? = some x -> w.cell? ⟨g,j,none⟩ = some (.bool x)
theorem MatAt.keep {w w' : World} (hb : Below w.heap.size w w') {a : Option Addr} {M : List (List Bool)} (h : MatAt w a M) : MatAt w' a M:=fun i r hi => by
 obtain ⟨b,o,g,c,h1,h2,h3⟩:=h i r hi
 exact ⟨b,o,g,c,h1,zaa hb h2,fun j x hj => zaa hb (h3 j x hj)⟩
structure VwAt (w : World) (g : Nat) (sa : Option Addr) (sl sc : Nat) (ta : Option Addr) (tl tc : Nat) (va : Option Addr) (vl vc : Nat) (fa : Option Addr) (fc : Nat) (f : zae) (M : List (List Bool)) : Prop where
 fl : FleetAt w sa sl sc ta tl tc va vl vc f
 c0 : w.cell? ⟨g,0,none⟩ = some (.slice sa sl sc)
 c1 : w.cell? ⟨g,1,none⟩ = some (.slice ta tl tc)
 c2 : w.cell? ⟨g,2,none⟩ = some (.slice va vl vc)
 c3 : w.cell? ⟨g,3,none⟩ = some (.slice fa f.ss.length fc)
 fit : MatAt w fa M
theorem VwAt.keep {w w' : World} (hb : Below w.heap.size w w') {g : Nat} {sa ta va fa : Option Addr} {sl sc tl tc vl vc fc : Nat} {f : zae} {M : List (List Bool)} (h : VwAt w g sa sl sc ta tl tc va vl vc fa fc f M) : VwAt w' g sa sl sc ta tl tc va vl vc fa fc f M :=
 ⟨h.fl.keep hb,zaa hb h.c0,zaa hb h.c1,zaa hb h.c2,zaa hb h.c3,h.fit.keep hb⟩
theorem zdk {W w1 : World} (hb : Below W.heap.size W w1) {b o : Nat} {v0 v1 v2 : Value} (h : W.cell? ⟨b,o,none⟩ = some v0 /\ W.cell? ⟨b,o + 1,none⟩ = some v1 /\ W.cell? ⟨b,o + 2,none⟩ = some v2) : w1.cell? ⟨b,o,none⟩ = some v0 /\ w1.cell? ⟨b,o + 1,none⟩ = some v1 /\ w1.cell? ⟨b,o + 2,none⟩ = some v2 :=
 ⟨zaa hb h.1,zaa hb h.2.1,zaa hb h.2.2⟩
theorem zof {W w1 : World} (hb : Below W.heap.size W w1) {g : Nat} {v0 v1 v2 : Value} (h : W.cell? ⟨g,0,none⟩ = some v0 /\ W.cell? ⟨g,1,none⟩ = some v1 /\ W.cell? ⟨g,2,none⟩ = some v2) : w1.cell? ⟨g,0,none⟩ = some v0 /\ w1.cell? ⟨g,1,none⟩ = some v1 /\ w1.cell? ⟨g,2,none⟩ = some v2 :=
 ⟨zaa hb h.1,zaa hb h.2.1,zaa hb h.2.2⟩
def MatS (S : Nat -> Prop) (w : World) (a : Option Addr) (M : List (List Bool)) : Prop:=∀ i r,M[i]? = some r -> ∃ b o g c,S b /\ S g /\ a = some ⟨b,o,none⟩ /\ w.cell? ⟨b,o + i,none⟩ = some (.slice (some ⟨g,0,none⟩) r.length c) /\ ∀ j x,r[j]? = some x -> w.cell? ⟨g,j,none⟩ = some (.bool x)
theorem MatS.keep {S : Nat -> Prop} {w w' : World} (hb : ∀ b o v,S b -> w.cell? ⟨b,o,none⟩ = some v -> w'.cell? ⟨b,o,none⟩ = some v) {a : Option Addr} {M : List (List Bool)} (h : MatS S w a M) : MatS S w' a M:=fun i r hi => by
 obtain ⟨b,o,g,c,h1,h2,h3,h4,h5⟩:=h i r hi
 exact ⟨b,o,g,c,h1,h2,h3,hb _ _ _ h1 h4,fun j x hj => hb _ _ _ h2 (h5 j x hj)⟩
theorem MatS.at {S : Nat -> Prop} {w : World} {a : Option Addr} {M : List (List Bool)} (h : MatS S w a M) : MatAt w a M:=fun i r hi => by
 obtain ⟨b,o,g,c,h1,h2,h3,h4,h5⟩:=h i r hi
 exact ⟨b,o,g,c,h3,h4,h5⟩
theorem RowIs.ne {w : World} {b b' : Nat} {t t' : TypeId} {cs cs' : List Value} (h : RowIs w b t cs) (h' : RowIs w b' t' cs') (ht : t ≠ t') : b ≠ b':=fun e => by
 subst e
 unfold RowIs at h h'
 rw [h] at h'
 simp at h'
 exact ht h'.2
theorem zcd {w : World} {base size n b : Nat} {e t : TypeId} {v : Value} {xs cs : List Value} (h : w.ownsRow base e size v n xs) (h' : RowIs w b t cs) (ht : t ≠ e) : v.ownBlock ≠ some b:=fun hv => by
 obtain ⟨hl,h | ⟨g',cap',cur,hv',hb,hh,hc,hm,hs,ht'⟩⟩:=h
 ·obtain ⟨h,_⟩:=h;rw [h] at hv;cases hv
 ·rw [hv'] at hv
  have hg : g' = b:=by simpa [Value.ownBlock] using hv
  subst hg
  unfold RowIs at h'
  rw [h'] at hh
  simp at hh
  exact ht hh.2
theorem RowIs.grown {w w' : World} {b : Nat} {t : TypeId} {cs : List Value} {row : Option Nat} (h : RowIs w b t cs) (hg : w.grownBy w' row) (hne : row ≠ some b) : RowIs w' b t cs:=by
 have hlt:=h.lt
 unfold RowIs at h ⊢
 rw [hg.block b hlt (fun e => hne e.symm)];exact h
structure KeptBut (g : Nat) (w w' : World) : Prop where
 size : w.heap.size <= w'.heap.size
 block : ∀ k,k < w.heap.size -> k ≠ g -> w'.heap[k]? = w.heap[k]?
theorem KeptBut.refl (g : Nat) (w : World) : KeptBut g w w:=⟨Nat.le_refl _,fun _ _ _ => rfl⟩
theorem KeptBut.below {g : Nat} {w w1 w2 : World} (h : KeptBut g w w1) (hb : Below w1.heap.size w1 w2) : KeptBut g w w2 :=
 ⟨Nat.le_trans h.size hb.size,fun k hk hg => (hb.block k (Nat.lt_of_lt_of_le hk h.size)).trans (h.block k hk hg)⟩
theorem KeptBut.grown {g : Nat} {w w1 w2 : World} {row : Option Nat} (h : KeptBut g w w1) (hg : w1.grownBy w2 row) (hr : ∀ k,row = some k -> w.heap.size <= k) : KeptBut g w w2 :=
 ⟨Nat.le_trans h.size hg.size,fun k hk hne => (hg.block k (Nat.lt_of_lt_of_le hk h.size) (fun e => by have:=hr k e.symm;omega)).trans (h.block k hk hne)⟩
theorem KeptBut.set {g : Nat} {w w1 : World} (h : KeptBut g w w1) {p : Addr} (hp : p.block = g \/ w.heap.size <= p.block) (u : Value) : KeptBut g w (w1.setCell p u) :=
 ⟨Nat.le_trans h.size (by simp [World.setCell]),fun k hk hne => (Below.heap_setCell _ _ _ _ (by rcases hp with h | h <;> omega)).trans (h.block k hk hne)⟩
theorem KeptBut.cell {g : Nat} {w w' : World} (h : KeptBut g w w') {b o : Nat} {v : Value} (hb : b ≠ g) (hc : w.cell? ⟨b,o,none⟩ = some v) : w'.cell? ⟨b,o,none⟩ = some v:=by
 rw [World.cell?_of_block (w:=w) (a:=⟨b,o,none⟩) (h.block b (zaf hc) hb)];exact hc
end
end Go.Proofs.YtkkekopomiehlaaGreat
