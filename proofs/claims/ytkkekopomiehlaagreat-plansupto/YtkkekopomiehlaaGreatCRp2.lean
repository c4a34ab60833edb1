import Derived.Test.YtkkekopomiehlaaGreatCSq1
set_option linter.unusedVariables false
set_option linter.unusedSimpArgs false
set_option maxHeartbeats 40000000
set_option maxRecDepth 4000
namespace Go.Proofs.YtkkekopomiehlaaGreat
section
open Go.RowKit
structure SE where
 a : Nat
 ca : Nat
 b : Nat
 cb : Nat
 now : List Nat
 had : List Nat
 far : Int
def seC (e : SE) : List Value:=[.slice (some ⟨e.a,0,none⟩) e.now.length e.ca,.slice (some ⟨e.b,0,none⟩) e.had.length e.cb,.int .i64 e.far]
def sesC (l : List SE) : List Value:=l.flatMap seC
theorem zy5 (l m : List SE) : sesC (l ++ m) = sesC l ++ sesC m:=by simp [sesC]
theorem zis : ∀ {l : List SE} {i j : Nat} {e : SE} {v : Value},l[i]? = some e -> (seC e)[j]? = some v -> (sesC l)[i * 3 + j]? = some v
 | [],i,j,e,v,hi,hj => by simp at hi
 | q :: l,0,j,e,v,hi,hj => by
  simp at hi;subst hi
  have:=(List.getElem?_eq_some_iff.1 hj).1
  rw [sesC,List.flatMap_cons,List.getElem?_append_left (by omega),show 0 * 3 + j = j by omega];exact hj
 | q :: l,i + 1,j,e,v,hi,hj => by
  rw [List.getElem?_cons_succ] at hi
  rw [sesC,List.flatMap_cons,List.getElem?_append_right (by simp [seC];omega),show (i + 1) * 3 + j - (seC q).length = i * 3 + j by simp [seC];omega]
  exact zis hi hj
theorem zeg {w : World} {g : Nat} {l : List SE} (hr : w.rangeAt g 0 (sesC l)) {i : Nat} {e : SE} (hi : l[i]? = some e) :
  w.cell? ⟨g,i * 3,none⟩ = some (.slice (some ⟨e.a,0,none⟩) e.now.length e.ca) /\ w.cell? ⟨g,i * 3 + 1,none⟩ = some (.slice (some ⟨e.b,0,none⟩) e.had.length e.cb) /\ w.cell? ⟨g,i * 3 + 2,none⟩ = some (.int .i64 e.far):=by
 have h0:=hr (i * 3 + 0) _ (zis hi rfl)
 have h1:=hr (i * 3 + 1) _ (zis hi rfl)
 have h2:=hr (i * 3 + 2) _ (zis hi rfl)
 rw [Nat.zero_add] at h0 h1 h2
 exact ⟨h0,h1,h2⟩
def SeAt (w : World) (m : Nat) (e : SE) : Prop:=e.now.length = m /\ e.had.length = m /\ w.rangeAt e.a 0 (natC e.now) /\ w.rangeAt e.b 0 (natC e.had)
def SesAt (w : World) (m : Nat) (l : List SE) : Prop:=∀ e ∈ l,SeAt w m e
theorem SeAt.keep {w w' : World} (hb : Below w.heap.size w w') {m : Nat} {e : SE} (h : SeAt w m e) : SeAt w' m e:=⟨h.1,h.2.1,zag hb h.2.2.1,zag hb h.2.2.2⟩
theorem SesAt.keep {w w' : World} (hb : Below w.heap.size w w') {m : Nat} {l : List SE} (h : SesAt w m l) : SesAt w' m l:=fun e he => (h e he).keep hb
def fndI (x : SE) : List SE -> Nat -> Int
 | [],_ => -1
 | e :: l,i => if e.now = x.now /\ e.had = x.had then (i : Int) else fndI x l (i + 1)
theorem zul (l : List SE) (x : SE) (m : Nat) (hm : m <= 1000) (hll : l.length <= 1000000) (g cap : Nat) (w : World) (hr : w.rangeAt g 0 (sesC l)) (hs : SesAt w m l) (hx : SeAt w m x) :
  Calls Tryz.prog 64 #[.slice (some ⟨g,0,none⟩) l.length cap,.agg #[.slice (some ⟨x.a,0,none⟩) m x.ca,.slice (some ⟨x.b,0,none⟩) m x.cb,.int .i64 x.far]] w fun e W => e = .returned (.int .i64 (fndI x l 0)) /\ Below w.heap.size w W:=by
 obtain ⟨R,hR⟩ : ∃ R,R = fndI x l 0:=⟨_,rfl⟩
 rw [<- hR]
 have HR : Hid (R = fndI x (l.drop 0) 0):=hR
 have hb0:=bel1 w (.cells #[.slice (some ⟨x.a,0,none⟩) m x.ca,.slice (some ⟨x.b,0,none⟩) m x.cb,.int .i64 x.far] 83)
 have bx:=box3 w (.slice (some ⟨x.a,0,none⟩) m x.ca) (.slice (some ⟨x.b,0,none⟩) m x.cb) (.int .i64 x.far) 83
 have HRR:= zab hr
 have HS:= zab hs
 have HX:= zab hx
 clear hR hr hs hx
 go_enter Tryz.func64,Tryz.ntmps64
 go_wp2_with fail
 go_loopw [5] (fun vi wr => ∃ i : Nat,i <= l.length /\ vi = .int .i64 i /\ Hid (R = fndI x (l.drop i) i) /\ Below (w.heap.size + 1) (w.alloc (.cells #[.slice (some ⟨x.a,0,none⟩) m x.ca,.slice (some ⟨x.b,0,none⟩) m x.cb,.int .i64 x.far] 83)) wr) (fun i _ => l.length - (intOf i).toNat)
 case atStart => exact ⟨0,Nat.zero_le _,rfl,HR,Below.refl _ _⟩
 case round =>
  clear HR
  obtain ⟨i,hi,rfl,hr,hb⟩:=hrel
  rename World => w5
  have hbw : Below w.heap.size w w5:=hb0.trans (hb.mono (by simp))
  have hx0 := znn i
  by_cases hlt : i < l.length
  ·obtain ⟨e,he⟩ : ∃ e,l[i]? = some e:=⟨l[i],List.getElem?_eq_getElem hlt⟩
   obtain ⟨c0,c1,c2⟩:=zeg (zag hbw HRR.out) he
   obtain ⟨d0,d1,d2⟩:=zak (hb.mono (by simp)) bx
   obtain ⟨l1,l2,r1,r2⟩:=(HS.out e (List.mem_of_getElem? he)).keep hbw
   obtain ⟨k1,k2,q1,q2⟩:=HX.out.keep hbw
   rw [l1] at c0
   rw [l2] at c1
   have hdrop : l.drop i = e :: l.drop (i + 1):=by
    rw [List.drop_eq_getElem_cons hlt];rw [List.getElem?_eq_getElem hlt] at he;simp at he;rw [he]
   have hst : R = if e.now = x.now /\ e.had = x.had then (i : Int) else fndI x (l.drop (i + 1)) (i + 1):=by rw [hr.out,hdrop,fndI]
   have hs1:=fun (W : World) (h : Below w5.heap.size w5 W) => zqk e.now x.now (by omega) (by omega) e.a e.ca x.a x.ca W (zag h r1) (zag h q1)
   have hs2:=fun (W : World) (h : Below w5.heap.size w5 W) => zqk e.had x.had (by omega) (by omega) e.b e.cb x.b x.cb W (zag h r2) (zag h q2)
   rw [k1] at hs1
   rw [k2] at hs2
   have hx1 : (i : Int) < (l.length : Int):=by omega
   have lc:=zaf c0
   have ld:=zaf d0
   have HST : Hid (R = if (decide (e.now = x.now) && decide (e.had = x.had)) = true then (i : Int) else fndI x (l.drop (i + 1)) (i + 1)):=by
    show _ = _;rw [hst];simp
   generalize decide (e.now = x.now) = p at hs1 HST
   generalize decide (e.had = x.had) = q at hs2 HST
   clear hr he hdrop hst r1 r2 q1 q2 l1 l2 k1 k2 c2 d2
   cases p <;> cases q <;> (
    go_wp2_with fail
    go_region_held3 (fun w' => w'.cell? ⟨g,i * 3,none⟩ = some (.slice (some ⟨e.a,0,none⟩) m e.ca) /\ w'.cell? ⟨w.heap.size,0,none⟩ = some (.slice (some ⟨x.a,0,none⟩) m x.ca)) (go_keep) (first | (go_at_call 81;refine (hs1 _ (Below.refl _ _).drew).mono ?_;rintro e w6 ⟨rfl,hb6⟩;have c06:=zaa hb6 c0;have d06:=zaa hb6 d0;have c16:=zaa hb6 c1;have d16:=zaa hb6 d1;have hz6:=hb6.size))
    go_wp2_with fail
    go_region_held3 (fun w' => w'.cell? ⟨g,i * 3 + 1,none⟩ = some (.slice (some ⟨e.b,0,none⟩) m e.cb) /\ w'.cell? ⟨w.heap.size,1,none⟩ = some (.slice (some ⟨x.b,0,none⟩) m x.cb)) (go_keep) (first | (go_at_call 81;refine (hs2 _ (thn3 (Below.refl _ _).drew hb6).drew).mono ?_;rintro e w7 ⟨rfl,hb7⟩;have c17:=zaa hb7 c16;have d17:=zaa hb7 d16))
    go_wp2_with fail
    (first
     | (go_roundw
        case rel => exact ⟨i + 1,by omega,by go_num,HST,(hb.trans (((thn3 (Below.refl _ _).drew hb6).drew.trans (hb7.mono hz6)).mono (by have:=hb.size;rw [za2] at this;omega)))⟩
        case measure => simp [intOf];omega)
     | (have hR1 : (i : Int) = R:=HST.out.symm
        subst hR1
        go_ret
        exact ⟨rfl,thn3 hbw ((thn3 (Below.refl _ _).drew hb6).drew.trans (hb7.mono hz6))⟩)))
  ·have hR1 : R = -1:=by rw [hr.out,List.drop_of_length_le (by omega),fndI]
   clear hr
   subst hR1
   go_wp2_with fail
   go_ret
   exact ⟨rfl,hbw⟩
end
section
open Go.RowKit
theorem lt8 {h : Nat} (hh : h < 8) : h = 0 \/ h = 1 \/ h = 2 \/ h = 3 \/ h = 4 \/ h = 5 \/ h = 6 \/ h = 7:=by omega
theorem lt3 {r : Nat} (hr : r < 3) : r = 0 \/ r = 1 \/ r = 2:=by omega
theorem zzc {h r : Nat} (hh : h < 8) (hr : r < 3) (W : World) : (binOp .shr 3 (.int .i64 (h : Int)) (.int .i64 (r : Int))).run Tryz.prog W = .ok (.int .i64 ((h / 2 ^ r : Nat) : Int)) W:=by
 rcases lt8 hh with rfl | rfl | rfl | rfl | rfl | rfl | rfl | rfl <;> rcases lt3 hr with rfl | rfl | rfl <;> rfl
theorem zsw {z : Nat} (hz : z < 8) (W : World) : (binOp .and 3 (.int .i64 (z : Int)) (.int .i64 1)).run Tryz.prog W = .ok (.int .i64 ((z % 2 : Nat) : Int)) W:=by
 rcases lt8 hz with rfl | rfl | rfl | rfl | rfl | rfl | rfl | rfl <;> rfl
theorem zzb {r : Nat} (hr : r < 3) (W : World) : (binOp .shl 3 (.int .i64 1) (.int .i64 (r : Int))).run Tryz.prog W = .ok (.int .i64 ((2 ^ r : Nat) : Int)) W:=by
 rcases lt3 hr with rfl | rfl | rfl <;> rfl
theorem zwu {h r : Nat} (hh : h < 8) (hr : r < 3) (W : World) : (binOp .or 3 (.int .i64 (h : Int)) (.int .i64 ((2 ^ r : Nat) : Int))).run Tryz.prog W = .ok (.int .i64 ((h ||| 2 ^ r : Nat) : Int)) W:=by
 rcases lt8 hh with rfl | rfl | rfl | rfl | rfl | rfl | rfl | rfl <;> rcases lt3 hr with rfl | rfl | rfl <;> rfl
theorem zf1 {P : Program} {ops : Array Oper} {rest : List Oper} {op : Oper} {a : Act} {w : World} {Q : Exit -> Act -> World -> Prop} (hgd : op.guard = none) (b : BinOp) (t u : TypeId) (x y : Operand) (ho : op.op = .binOp b t x y u) (v1 v2 v : Value) (hx : a.eval x = v1) (hy : a.eval y = v2) (hg : (eqGuard b t x y v1 v2).run P w = .ok () w) (hr : (binOp b t v1 v2).run P w = .ok v w)
  (h : wpList P ops Q rest (a.put op.dst v) w) : wpList P ops Q (op :: rest) a w:=by
 refine wpList_plain hgd fun K hK => ?_
 unfold Oper.wp execOp
 simp only [ho,hx,hy,Sem.run_bind,hg,hr,Result.andThen_ok,Sem.run_pure]
 exact hK _ _ h
def nwL (x : SE) (s : Nat) : List (Nat × Nat):=(List.range s).map fun s => (s,x.now.getD s 0)
def bitB (h r : Nat) : Bool:=h / 2 ^ r % 2 == 1
def psO (x : SE) (s t : Nat) : List (Nat × Nat):=((List.range t).filter fun r => bitB (x.had.getD s 0) r).map fun r => (s,r)
def psL (x : SE) (s : Nat) : List (Nat × Nat):=(List.range s).flatMap fun s => psO x s 3
theorem zwj (x : SE) (s : Nat) : nwL x (s + 1) = nwL x s ++ [(s,x.now.getD s 0)]:=by unfold nwL;rw [List.range_succ,List.map_append];rfl
theorem zp3 (x : SE) (s : Nat) : psL x (s + 1) = psL x s ++ psO x s 3:=by unfold psL;rw [List.range_succ,List.flatMap_append];simp
theorem zxv (x : SE) (s t : Nat) : psO x s (t + 1) = if bitB (x.had.getD s 0) t = true then psO x s t ++ [(s,t)] else psO x s t:=by
 unfold psO
 generalize x.had.getD s 0 = q
 rw [List.range_succ,List.filter_append,List.map_append]
 cases h : bitB q t with
 | true => simp [h]
 | false => simp [h]
theorem zp4 (x : SE) (s t : Nat) : (psO x s t).length <= t:=by
 unfold psO;rw [List.length_map];have:=List.length_filter_le (fun r => bitB (x.had.getD s 0) r) (List.range t);rwa [List.length_range] at this
theorem zld (x : SE) : ∀ s,(psL x s).length <= 3 * s
 | 0 => by simp [psL]
 | s + 1 => by rw [zp3,List.length_append];have:=zld x s;have:=zp4 x s 3;omega
theorem zoz (x : SE) (s : Nat) : (nwL x s).length = s:=by simp [nwL]
theorem zvn (x : SE) (m : Nat) (hm : m <= 3) (w : World) (hx : SeAt w m x) (h8 : ∀ h ∈ x.had,h < 8) :
  Calls Tryz.prog 62 #[.agg #[.slice (some ⟨x.a,0,none⟩) m x.ca,.slice (some ⟨x.b,0,none⟩) m x.cb,.int .i64 x.far]] w fun e W => ∃ u v,e = .returned (.tuple #[u,v]) /\ W.ownsRow w.heap.size 64 2 u m (prC (nwL x m)) /\ W.ownsRow w.heap.size 64 2 v (psL x m).length (prC (psL x m)) /\ Below w.heap.size w W:=by
 have hb0:=bel1 w (.cells #[.slice (some ⟨x.a,0,none⟩) m x.ca,.slice (some ⟨x.b,0,none⟩) m x.cb,.int .i64 x.far] 83)
 obtain ⟨bx0,bx1,bx2⟩:=box3 w (.slice (some ⟨x.a,0,none⟩) m x.ca) (.slice (some ⟨x.b,0,none⟩) m x.cb) (.int .i64 x.far) 83
 obtain ⟨ii,hii,hz0,hzz1,hzz2⟩:=info_parts Tryz.infoPair
 have HX:= zab hx
 have H8:= zab h8
 have HB0:=(zab (zag hb0 hx.2.2.1))
 have HB1:=(zab (zag hb0 hx.2.2.2))
 clear hx h8
 go_enter Tryz.func62,Tryz.ntmps62
 go_wp2_with fail
 go_loopw [4,5,6] (fun vn vp vs wr => ∃ s : Nat,s <= m /\ vs = .int .i64 s /\ wr.ownsRow (w.heap.size + 1) 64 2 vn s (prC (nwL x s)) /\ wr.ownsRow (w.heap.size + 1) 64 2 vp (psL x s).length (prC (psL x s)) /\ Hid ((vn.ownBlock = none /\ vp.ownBlock = none) \/ vn.ownBlock ≠ vp.ownBlock) /\ Below (w.heap.size + 1) (w.alloc (.cells #[.slice (some ⟨x.a,0,none⟩) m x.ca,.slice (some ⟨x.b,0,none⟩) m x.cb,.int .i64 x.far] 83)) wr) (fun _ _ s _ => m - (intOf s).toNat)
 case atStart => exact ⟨0,Nat.zero_le _,rfl,World.ownsRow_nil _ _ _ _,World.ownsRow_nil _ _ _ _,.inl ⟨rfl,rfl⟩,Below.refl _ _⟩
 case round =>
  obtain ⟨s,hs,rfl,hoN,hoP,hdis,hb⟩:=hrel
  rename World => w5
  have z5:=hb.size
  rw [za2] at z5
  have d0:=zaa (hb.mono (by simp)) bx0
  have d1:=zaa (hb.mono (by simp)) bx1
  have hx0 := znn s
  have hdl:=zaf d0
  have lN : ∀ k,u4.ownBlock = some k -> w.heap.size + 1 <= k /\ k < w5.heap.size:=fun k h => hoN.lt k h
  have lP : ∀ k,u5.ownBlock = some k -> w.heap.size + 1 <= k /\ k < w5.heap.size:=fun k h => hoP.lt k h
  by_cases hlt : s < m
  ·obtain ⟨y,hy⟩ : ∃ y,x.now[s]? = some y:=⟨x.now[s]'(by rw [HX.out.1];exact hlt),List.getElem?_eq_getElem _⟩
   obtain ⟨h,hh⟩ : ∃ h,x.had[s]? = some h:=⟨x.had[s]'(by rw [HX.out.2.1];exact hlt),List.getElem?_eq_getElem _⟩
   have c1:=zec (zag (hb.mono (by simp)) HB0.out) hy
   have hx1 : (s : Int) < (m : Int):=by omega
   have hla : x.a < w.heap.size:=zfr HX.out.2.2.1 (by rw [zfh,HX.out.1];omega)
   have hlb : x.b < w.heap.size:=zfr HX.out.2.2.2 (by rw [zfh,HX.out.2.1];omega)
   have hgy : x.now.getD s 0 = y:=by rw [List.getD,hy];rfl
   have hgh : x.had.getD s 0 = h:=by rw [List.getD,hh];rfl
   have hh8:=H8.out h (List.mem_of_getElem? hh)
   have nN:=zwj x s
   rw [hgy] at nN
   have hkP : u5.ownBlock = none \/ u5.ownBlock ≠ u4.ownBlock:=by
    rcases hdis.out with h | h
    ·exact .inl h.2
    ·exact .inr (fun e => h e.symm)
   have hpl:=zld x s
   have HON:= zab hoN
   have HOP:= zab hoP
   have NN:= zab nN
   have HB:= zab hb
   have HHH:= zab hh
   clear hoN hoP nN hb hy hgy
   go_wp2_with (at_builtin;refine wpList_append_lies _ rfl _ _ _ rfl (w.heap.size + 1) 64 ii _ 2 16 Tryz.underlying61 hii hz0 hzz1 hzz2 rfl (by omega) u4 s _ rfl (HON.out.alloc _) ⟨w5.heap.size,0,none⟩ 1 1 [.int .i64 s,.int .i64 y] rfl rfl (World.news_of_block (heap_alloc_new w5 _)) (by simp [Value.oneCell']) (by omega) (by unfold maxLen;omega) (by omega) (by simp;omega) (w5.heap.size + 1) (by simp) ?_;intro g1 cap1 w6 hown1 hgrow1 hat1 hlt1)
   have hB6 : Below (w.heap.size + 1) (w.alloc (.cells #[.slice (some ⟨x.a,0,none⟩) m x.ca,.slice (some ⟨x.b,0,none⟩) m x.cb,.int .i64 x.far] 83)) w6:=Below.grown (HB.out.alloc z5 _) hgrow1 (by simp;omega) (fun k hk => (lN k hk).1)
   have hN6 : w6.ownsRow (w.heap.size + 1) 64 2 (.slice (some ⟨g1,0,none⟩) (s + 1) cap1) (s + 1) (prC (nwL x (s + 1))):=by rw [NN.out,zlb];exact hown1
   have hP6:=(HOP.out.alloc (.cells #[.int .i64 s,.int .i64 y] 64)).kept hgrow1 hkP
   have hd6 : u5.ownBlock ≠ some g1:=fun e => by
    rcases hat1 with h1 | h1
    ·rcases hdis.out with h | h
     ·rw [h.2] at e;cases e
     ·exact h (h1.trans e.symm)
    ·have:=(lP g1 e).2;omega
   have HN6:= zab hN6
   have HP6:= zab hP6
   have HB6:= zab hB6
   have HD6:= zab hd6
   clear hN6 hP6 hB6 hd6 hgrow1 hown1 hat1 HON HOP HB hdis d0 d1 hkP
   go_loopw [5,7] (fun vp vr wr => ∃ r : Nat,r <= 3 /\ vr = .int .i64 r /\ wr.ownsRow (w.heap.size + 1) 64 2 vp (psL x s ++ psO x s r).length (prC (psL x s ++ psO x s r)) /\ Hid (wr.ownsRow (w.heap.size + 1) 64 2 (.slice (some ⟨g1,0,none⟩) (s + 1) cap1) (s + 1) (prC (nwL x (s + 1)))) /\ Hid (vp.ownBlock ≠ some g1) /\ Below (w.heap.size + 1) (w.alloc (.cells #[.slice (some ⟨x.a,0,none⟩) m x.ca,.slice (some ⟨x.b,0,none⟩) m x.cb,.int .i64 x.far] 83)) wr) (fun _ r _ => 3 - (intOf r).toNat)
   case atStart =>
    refine ⟨0,Nat.zero_le _,rfl,?_,HN6,HD6,HB6.out⟩
    have e0 : psO x s 0 = []:=rfl
    rw [e0,List.append_nil];exact HP6.out
   case round =>
    clear HP6 HN6 HD6 HB6 lP lN z5 hdl
    obtain ⟨r,hr,rfl,hoP,hoN,hdis,hb⟩:=hrel
    rename World => w7
    have z7:=hb.size
    rw [za2] at z7
    have lP : ∀ k,u5.ownBlock = some k -> w.heap.size + 1 <= k /\ k < w7.heap.size:=fun k h => hoP.lt k h
    have hr0 := znn r
    by_cases hlt3 : r < 3
    ·have d1:=zaa (hb.mono (by simp)) bx1
     have c2:=zec (zag (hb.mono (by simp)) HB1.out) HHH.out
     have e1:=fun W => zzc hh8 hlt3 W
     have hz8 : h / 2 ^ r < 8:=Nat.lt_of_le_of_lt (Nat.div_le_self _ _) hh8
     have e2:=fun W => zsw hz8 W
     have hps:=zxv x s r
     rw [hgh] at hps
     have hpo:=zp4 x s r
     have hr1 : (r : Int) < 3:=by omega
     have hpl2 : (psL x s ++ psO x s r).length <= 12:=by rw [List.length_append];omega
     obtain ⟨N,hN⟩ : ∃ N,N = (psL x s ++ psO x s r).length:=⟨_,rfl⟩
     rw [<- hN] at hoP hpl2
     have HNN:= zab hN
     have HOP:= zab hoP
     have HB:= zab hb
     clear hoP hb hN
     cases hbit : bitB h r with
     | true =>
      have hm1 : h / 2 ^ r % 2 = 1:=by unfold bitB at hbit;simpa using hbit
      rw [hm1] at e2
      rw [hbit,if_pos rfl] at hps
      have HPS:= zab hps
      generalize h / 2 ^ r = z at e1 e2
      clear hps hbit hm1
      go_wp2_with (first
       | (refine zf1 rfl .shr 3 _ _ _ rfl _ _ _ rfl rfl rfl (e1 _) ?_;simp only [Act.put,List.setIfInBounds_toArray,List.set_cons_zero,List.set_cons_succ,List.getElem_toArray,List.getElem_cons_zero,List.getElem_cons_succ])
       | (refine zf1 rfl .and 3 _ _ _ rfl _ _ _ rfl rfl rfl (e2 _) ?_;simp only [Act.put,List.setIfInBounds_toArray,List.set_cons_zero,List.set_cons_succ,List.getElem_toArray,List.getElem_cons_zero,List.getElem_cons_succ])
       | (at_builtin;refine wpList_append_lies _ rfl _ _ _ rfl (w.heap.size + 1) 64 ii _ 2 16 Tryz.underlying61 hii hz0 hzz1 hzz2 rfl (by omega) u5 N _ rfl (HOP.out.alloc _) ⟨w7.heap.size,0,none⟩ 1 1 [.int .i64 s,.int .i64 r] rfl rfl (World.news_of_block (heap_alloc_new w7 _)) (by simp [Value.oneCell']) (by omega) (by unfold maxLen;omega) (by omega) (by simp;omega) (w7.heap.size + 1) (by simp) ?_;intro g2 cap2 w8 hown2 hgrow2 hat2 hlt2))
      go_roundw
      case rel =>
       have hgne : (Value.slice (some ⟨g1,0,none⟩) (s + 1) cap1).ownBlock ≠ u5.ownBlock:=fun e => hdis.out e.symm
       have hne : (Value.slice (some ⟨g2,0,none⟩) (N + 1) cap2).ownBlock ≠ some g1:=fun e => by
        have e' : g2 = g1:=by simpa [Value.ownBlock] using e
        rcases hat2 with h2 | h2
        ·exact hdis.out (h2.trans (by rw [e']))
        ·have:=(hoN.out.lt g1 rfl).2;omega
       refine ⟨r + 1,by omega,by go_num,?_,(hoN.out.alloc _).kept hgrow2 (.inr hgne),hne,?_⟩
       ·rw [HPS.out,<- List.append_assoc,List.length_append,<- HNN.out,zlb];exact hown2
       ·exact Below.grown (HB.out.alloc z7 _) hgrow2 (by simp;omega) (fun k hk => (lP k hk).1)
      case measure => simp [intOf];omega
     | false =>
      have hm1 : h / 2 ^ r % 2 = 0:=by unfold bitB at hbit;have : h / 2 ^ r % 2 ≠ 1:=(by simpa using hbit);omega
      rw [hm1] at e2
      rw [hbit,if_neg (by simp)] at hps
      have HPS:= zab hps
      generalize h / 2 ^ r = z at e1 e2
      clear hps hbit hm1
      go_wp2_with (first
       | (refine zf1 rfl .shr 3 _ _ _ rfl _ _ _ rfl rfl rfl (e1 _) ?_;simp only [Act.put,List.setIfInBounds_toArray,List.set_cons_zero,List.set_cons_succ,List.getElem_toArray,List.getElem_cons_zero,List.getElem_cons_succ])
       | (refine zf1 rfl .and 3 _ _ _ rfl _ _ _ rfl rfl rfl (e2 _) ?_;simp only [Act.put,List.setIfInBounds_toArray,List.set_cons_zero,List.set_cons_succ,List.getElem_toArray,List.getElem_cons_zero,List.getElem_cons_succ]))
      go_roundw
      case rel => exact ⟨r + 1,by omega,by go_num,by rw [HPS.out,<- HNN.out];exact HOP.out,hoN,hdis,HB.out⟩
      case measure => simp [intOf];omega
    ·obtain rfl : r = 3:=by omega
     have hP8 : w7.ownsRow (w.heap.size + 1) 64 2 u5 (psL x (s + 1)).length (prC (psL x (s + 1))):=by rw [zp3];exact hoP
     have HP8:= zab hP8
     have HB:= zab hb
     clear hoP hb hP8
     go_wp2_with fail
     go_roundw
     case rel => exact ⟨s + 1,by omega,by go_num,hoN.out,HP8.out,.inr (fun e => hdis.out e.symm),HB.out⟩
     case measure => simp [intOf];omega
  ·obtain rfl : s = m:=by omega
   have HON:= zab hoN
   have HOP:= zab hoP
   have HB:= zab hb
   clear hoN hoP hb
   go_wp2_with fail
   go_ret2
   exact ⟨_,_,rfl,HON.out.mono (by omega),HOP.out.mono (by omega),hb0.trans (HB.out.mono (by simp))⟩
end
end Go.Proofs.YtkkekopomiehlaaGreat
