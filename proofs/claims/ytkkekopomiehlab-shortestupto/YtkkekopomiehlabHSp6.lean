import Derived.Test.YtkkekopomiehlabHLn5
set_option linter.unusedVariables false
set_option linter.unusedSimpArgs false
set_option maxHeartbeats 40000000
set_option maxRecDepth 4000
namespace Go.Proofs.Ytkkekopomiehlab
section
set_option maxRecDepth 8000
open Go.RowKit
open Go.Lib (below_setCells)
theorem ze3 (g n cap : Nat) (wn : List Bool) (w : World) : Calls Try.prog 28 #[.agg (zah g n cap wn).toArray] w fun e W => e = .returned (.int .i64 n) /\ Below w.heap.size w W:=by
 have c0:=zgc w g n cap wn
 go_enter Try.func28,Try.ntmps28
 go_wp2_with fail
 go_ret
 exact ⟨rfl,belS _ _⟩
theorem zjs {w : World} {b g n cap : Nat} {wn : List Bool} (h : w.rangeAt b 0 (zah g n cap wn)) : w.rangeAt b 1 (wn.map Value.bool):=by
 have:=zbo (k:=1) (ds:=wn.map Value.bool) h (fun j v hj => by rw [Nat.add_comm,zah,List.getElem?_cons_succ];exact hj)
 rwa [Nat.zero_add] at this
def zoj (L : List (TS SiD)) (wn : List Bool) (B : Nat) (e : Ending) (W : World) : Prop :=
 ((∀ t ∈ L,t.now.has ≠ wn) /\ e = .returned (.tuple #[.slice none 0 0,.bool false])) \/
 ∃ (k D : Nat) (v : Nat -> Nat) (t : TS SiD) (u : Value),L[k]? = some t /\ t.now.has = wn /\ (∀ (i : Nat) (s : TS SiD),i < k -> L[i]? = some s -> s.now.has ≠ wn) /\ Way L k D v /\ e = .returned (.tuple #[u,.bool true]) /\ W.ownsRow B 45 2 u D (mvC (wayL L v D))
theorem zkf (nx : SiD -> Nat -> Option SiD) (L : List (TS SiD)) (hL : zbp L) (hlen : L.length <= 262144) (T : Nat) (hI : TInv nx L T) (wn : List Bool) (hw : wn.length = 9) (g cap : Nat) (w : World) (hr : w.rangeAt g 0 (stsC L)) :
  Calls Try.prog 29 #[.agg (zah g L.length cap wn).toArray] w fun e W => zoj L wn w.heap.size e W /\ Below w.heap.size w W:=by
 have hb0:=belS w (.cells (zah g L.length cap wn).toArray 70)
 have c0:=zgc w g L.length cap wn
 have hq0:=za0 (zan w (.cells (zah g L.length cap wn).toArray 70))
 have iw : (Try.prog.info? 47).map (·.size) = some (wn.map Value.bool).length:=by rw [List.length_map,hw];exact Try.infoSet
 have it : (Try.prog.info? 70).map (·.size) = some (zah g L.length cap wn).length:=by rw [show (zah g L.length cap wn).length = 10 by simp [zah,hw]];exact Try.infoTour
 have HL:= zab hL
 have HRR:=(zab (zae hb0 hr))
 have HI:= zab hI
 have HW:= zab hw
 clear hL hr hI hw
 go_enter Try.func29,Try.ntmps29
 go_wp2_with fail
 go_loopw [9] (fun vi wr => ∃ i : Nat,i <= L.length /\ vi = .int .i64 i /\ Hid (∀ (j : Nat) (s : TS SiD),j < i -> L[j]? = some s -> s.now.has ≠ wn) /\ wr.rangeAt w.heap.size 0 (zah g L.length cap wn) /\ Below (w.heap.size + 1) (w.alloc (.cells (zah g L.length cap wn).toArray 70)) wr) (fun i _ => L.length - (intOf i).toNat)
 case atStart => exact ⟨0,Nat.zero_le _,rfl,(fun j s hj => by omega),hq0,Below.refl _ _⟩
 case round =>
  obtain ⟨i,hi,rfl,hn,rq,hb⟩:=hrel
  rename World => w5
  have hbw : Below w.heap.size w w5:=hb0.trans (hb.mono (by simp))
  by_cases hlt : i < L.length
  ·obtain ⟨t,ht⟩ : ∃ t,L[i]? = some t:=⟨L[i],List.getElem?_eq_getElem hlt⟩
   have hto:=HL.out t (List.mem_of_getElem? ht)
   have r1:=zex (zae (hb.mono (by simp)) HRR.out) HL.out ht
   have heq : ∀ W,(Op.equalIn 10000 47 (.agg (t.now.has.map Value.bool).toArray) (.agg (wn.map Value.bool).toArray)).run Try.prog W = .ok (decide (t.now.has = wn)) W:=fun W => zf8 W 9998 hto.1 HW.out
   have h20 : (stC t).toArray.size = 20:=by simpa using zb3 hto
   have hi20 : (Try.prog.info? 110).map (·.size) = some (stC t).length:=by rw [zb3 hto];exact Try.infoStp
   have hi21 : (Try.prog.info? 110).map (·.size) = some (stC t).toArray.size:=by rw [List.size_toArray];exact hi20
   have ih : (Try.prog.info? 47).map (·.size) = some (t.now.has.map Value.bool).length:=by rw [List.length_map,hto.1];exact Try.infoSet
   have h1:=zev t
   have h6 : ∀ cs : Array Value,cs.size = 20 -> (fun W => W.rangeAt w5.heap.size 0 (t.now.has.map Value.bool) /\ W.rangeAt w.heap.size 0 (zah g L.length cap wn) /\ Below (w.heap.size + 1) (w.alloc (.cells (zah g L.length cap wn).toArray 70)) W) ((w5.alloc (.cells cs 110)).setCells w5.heap.size 0 (stC t)):=fun cs hcs => by
    have z5:=hb.size
    rw [za9] at z5
    refine ⟨?_,?_,?_⟩
    ·have:=zbo (k:=0) (ds:=t.now.has.map Value.bool) (World.rangeAt_setCells_same _ w5.heap.size 0 (stC t) (by simpa using zbq (xs:=(stC t).toArray) (t:=110) h20 hcs)) (fun j v hj => by
      have hl:=(List.getElem?_eq_some_iff.1 hj).1
      rw [Nat.zero_add];unfold stC SiD.cells
      rw [List.getElem?_append_left (by simp at hl ⊢;omega),List.map_append,List.getElem?_append_left hl];exact hj)
     exact this
    ·exact World.rangeAt_setCells_apart (zae (belS _ _) rq) _ _ _ (.inl (by omega))
    ·exact below_setCells _ (by omega) _ _ (hb.alloc (by omega) _)
   have H6:= zab h6
   have hx0 := znn i
   have hx1 : (i : Int) < (L.length : Int):=by omega
   have HT:= zab ht
   clear h6 ht
   by_cases hx : t.now.has = wn
   ·have HX:= zab hx
    rw [decide_eq_true hx] at heq
    obtain ⟨D,v,hway⟩:=zpx HI.out i i (Nat.le_refl _) hlt
    have hmt:=fun (W : World) (h : W.rangeAt g 0 (stsC L)) => zmc L HL.out hlen i D v hlt hway (fun j a ha => (HI.out.tm j a ha).2.2.1) wn g cap W h
    have rg5:=zae (hb.mono (by simp)) HRR.out
    have hgl : g < w5.heap.size:=zeq rg5 (by rw [zew HL.out];omega)
    have hgw : g < w.heap.size + 1:=by
     have:=zeq HRR.out (by rw [zew HL.out];omega);rw [za9] at this;exact this
    have HWY:= zab hway
    clear hx hway
    go_wp2_with (first
     | (refine wpList_load_mid (w:=w5) rfl 110 _ rfl g (i * 20) rfl (stC t) _ r1 Try.underlying110 rfl hi20 ?_;simp only [Act.put,List.setIfInBounds_toArray,List.set_cons_zero,List.set_cons_succ,List.getElem_toArray,List.getElem_cons_zero,List.getElem_cons_succ])
     | (refine zbi rfl 110 _ _ rfl w5.heap.size 0 (stC t).toArray rfl rfl (zbq h20 (by rfl)) hi21 h1 (fun W => W.rangeAt w5.heap.size 0 (t.now.has.map Value.bool) /\ W.rangeAt w.heap.size 0 (zah g L.length cap wn) /\ Below (w.heap.size + 1) (w.alloc (.cells (zah g L.length cap wn).toArray 70)) W) (H6.out _ (by rfl)) ?_;rintro w6 ⟨q1,q2,q3⟩;have qw:=zjs q2;simp only [Act.put,List.setIfInBounds_toArray,List.set_cons_zero,List.set_cons_succ,List.getElem_toArray,List.getElem_cons_zero,List.getElem_cons_succ];have m0 : True:=trivial)
     | (have hq:=m2;refine ze2 rfl 47 _ _ _ rfl _ _ rfl rfl Try.eqgSet _ (heq _) ?_;simp only [Act.put,List.setIfInBounds_toArray,List.set_cons_zero,List.set_cons_succ,List.getElem_toArray,List.getElem_cons_zero,List.getElem_cons_succ])
     | (have hq:=m1;refine wpList_load_mid (w:=w6) rfl 47 _ rfl w.heap.size 1 rfl (wn.map Value.bool) _ qw Try.underlying47 rfl iw ?_;simp only [Act.put,List.setIfInBounds_toArray,List.set_cons_zero,List.set_cons_succ,List.getElem_toArray,List.getElem_cons_zero,List.getElem_cons_succ];have m2 : True:=trivial)
     | (have hq:=m0;refine wpList_load_mid (w:=w6) rfl 47 _ rfl w5.heap.size 0 rfl (t.now.has.map Value.bool) _ q1 Try.underlying47 rfl ih ?_;simp only [Act.put,List.setIfInBounds_toArray,List.set_cons_zero,List.set_cons_succ,List.getElem_toArray,List.getElem_cons_zero,List.getElem_cons_succ];have m1 : True:=trivial)
     | (have hq:=m2;refine wpList_load_mid (w:=w6) rfl 70 _ rfl w.heap.size 0 rfl (zah g L.length cap wn) _ q2 Try.underlying70 rfl it ?_;simp only [Act.put,List.setIfInBounds_toArray,List.set_cons_zero,List.set_cons_succ,List.getElem_toArray,List.getElem_cons_zero,List.getElem_cons_succ])
     | (go_at_call 51;refine (hmt _ (zae (q3.mono (by simp)) HRR.out)).mono ?_;rintro e w7 ⟨u,rfl,hown7,hb7⟩))
    go_ret2
    have hb8 : Below w.heap.size w w6:=hb0.trans (q3.mono (by simp))
    exact ⟨.inr ⟨i,D,v,t,u,HT.out,HX.out,hn.out,HWY.out,rfl,hown7.mono hb8.size⟩,thn3 hb8 hb7⟩
   ·rw [decide_eq_false hx] at heq
    have HX:= zab hx
    clear hx
    go_wp2_with (first
     | (refine wpList_load_mid (w:=w5) rfl 110 _ rfl g (i * 20) rfl (stC t) _ r1 Try.underlying110 rfl hi20 ?_;simp only [Act.put,List.setIfInBounds_toArray,List.set_cons_zero,List.set_cons_succ,List.getElem_toArray,List.getElem_cons_zero,List.getElem_cons_succ])
     | (refine zbi rfl 110 _ _ rfl w5.heap.size 0 (stC t).toArray rfl rfl (zbq h20 (by rfl)) hi21 h1 (fun W => W.rangeAt w5.heap.size 0 (t.now.has.map Value.bool) /\ W.rangeAt w.heap.size 0 (zah g L.length cap wn) /\ Below (w.heap.size + 1) (w.alloc (.cells (zah g L.length cap wn).toArray 70)) W) (H6.out _ (by rfl)) ?_;rintro w6 ⟨q1,q2,q3⟩;have qw:=zjs q2;simp only [Act.put,List.setIfInBounds_toArray,List.set_cons_zero,List.set_cons_succ,List.getElem_toArray,List.getElem_cons_zero,List.getElem_cons_succ];have m0 : True:=trivial)
     | (have hq:=m2;refine ze2 rfl 47 _ _ _ rfl _ _ rfl rfl Try.eqgSet _ (heq _) ?_;simp only [Act.put,List.setIfInBounds_toArray,List.set_cons_zero,List.set_cons_succ,List.getElem_toArray,List.getElem_cons_zero,List.getElem_cons_succ])
     | (have hq:=m1;refine wpList_load_mid (w:=w6) rfl 47 _ rfl w.heap.size 1 rfl (wn.map Value.bool) _ qw Try.underlying47 rfl iw ?_;simp only [Act.put,List.setIfInBounds_toArray,List.set_cons_zero,List.set_cons_succ,List.getElem_toArray,List.getElem_cons_zero,List.getElem_cons_succ];have m2 : True:=trivial)
     | (have hq:=m0;refine wpList_load_mid (w:=w6) rfl 47 _ rfl w5.heap.size 0 rfl (t.now.has.map Value.bool) _ q1 Try.underlying47 rfl ih ?_;simp only [Act.put,List.setIfInBounds_toArray,List.set_cons_zero,List.set_cons_succ,List.getElem_toArray,List.getElem_cons_zero,List.getElem_cons_succ];have m1 : True:=trivial))
    go_roundw
    case rel =>
     refine ⟨i + 1,by omega,by go_num,fun j s hj hs => ?_,q2,q3⟩
     by_cases hji : j = i
     ·subst hji;rw [HT.out] at hs;cases hs;exact HX.out
     ·exact hn.out j s (by omega) hs
    case measure => simp [intOf];omega
  ·have hno : ∀ t ∈ L,t.now.has ≠ wn:=fun t ht => by
    obtain ⟨j,hj⟩:=List.getElem?_of_mem ht
    exact hn.out j t (by have:=(List.getElem?_eq_some_iff.1 hj).1;omega) hj
   have HNO:= zab hno
   clear hn hno
   go_wp2_with fail
   go_ret2
   exact ⟨.inl ⟨HNO.out,rfl⟩,hbw⟩
end
section
open Go.RowKit
def tw (l : ByteArray) : Bool:=(List.range l.size).any fun i => (List.range i).any fun j => bAt l i == bAt l j
theorem zjt {l : ByteArray} {i j : Nat} (h1 : j < i) (h2 : i < l.size) (h : bAt l i = bAt l j) : tw l = true:=by
 unfold tw;rw [List.any_eq_true]
 exact ⟨i,by simpa using h2,by rw [List.any_eq_true];exact ⟨j,by simpa using h1,by simpa using h⟩⟩
theorem zo9 {l : ByteArray} (h : ∀ i j,j < i -> i < l.size -> bAt l i ≠ bAt l j) : tw l = false:=by
 unfold tw;rw [List.any_eq_false];intro i hi
 simp only [List.mem_range] at hi
 rw [Bool.not_eq_true,List.any_eq_false]
 intro j hj
 simp only [List.mem_range] at hj
 simpa using h i j hj hi
end
section
open Go.RowKit
def decS : Nat -> Nat -> ByteArray
 | 0,n => oneB (48 + n)
 | m + 1,n => if n < 10 then oneB (48 + n) else decS m (n / 10) ++ oneB (48 + n % 10)
theorem zfi : ∀ m n,(decS m n).size <= m + 1
 | 0,n => by rw [decS,za7];omega
 | m + 1,n => by
  rw [decS];split
  ·rw [za7];omega
  ·have:=zfi m (n / 10);rw [ByteArray.size_append,za7];omega
def decI (n : Int) : ByteArray:=if n < 0 then ⟨#[45]⟩ ++ decS 18 (-n).toNat else decS 18 n.toNat
end
section
open Go.RowKit
def quo : ByteArray:=⟨#[34]⟩
theorem zle (n : Int) : (decI n).size <= 20:=by
 unfold decI
 split
 ·rw [ByteArray.size_append];have:=zfi 18 (-n).toNat;have e : (⟨#[45]⟩ : ByteArray).size = 1:=rfl;omega
 ·have:=zfi 18 n.toNat;omega
theorem zny : quo.size = 1:=rfl
end
section
open Go.RowKit
end
section
theorem zda (s : ByteArray) (i : Nat) (h : i < s.size) : bAt s i = (s.data[i]'h).toNat:=by rw [zct s i h];rfl
theorem zcf (s : ByteArray) (a b i : Nat) (h1 : a + i < b) (h2 : b <= s.size) : bAt (s.extract a b) i = bAt s (a + i):=by
 have hs:=size_extract s a b (by omega) h2
 rw [zda _ _ (by omega),zda s _ (by omega)]
 congr 2
 simp only [ByteArray.data_extract]
 exact Array.getElem_extract _
theorem zfe {a b : ByteArray} (hs : a.size = b.size) (h : ∀ i,i < a.size -> bAt a i = bAt b i) : a = b:=by
 apply ByteArray.ext
 apply Array.ext
 ·exact hs
 ·intro i h1 h2
  have:=h i h1
  rw [zda _ _ h1,zda _ _ h2] at this
  exact UInt8.toNat_inj.mp (by omega)
theorem zgu (n : Nat) (h : n < 256) : bAt (oneB n) 0 = n:=by
 rw [zda _ _ (by rw [za7];omega)]
 simp [oneB,Nat.toUInt8]
 omega
theorem zi9 (p : Int -> Bool) (s : ByteArray) (hp : p (-1) = false) : ∀ (m e : Nat),s.size <= e + m -> p (bAt s (zao p s m e)) = false
 | 0,e,h => by rw [zao,zdb s e (by omega)];exact hp
 | m + 1,e,h => by
  rw [zao];split
  ·exact zi9 p s hp m (e + 1) (by omega)
  ·rename_i hq;simpa using hq
end
section
open Go.RowKit
structure Val where
 tag : Nat
 n : Int
 s : ByteArray
 vs : List Val
def Val.num (x : Int) : Val:=⟨0,x,ByteArray.empty,[]⟩
def Val.str (s : ByteArray) : Val:=⟨1,0,s,[]⟩
def Val.cho (i : Nat) : Val:=⟨2,i,ByteArray.empty,[]⟩
def Val.lst (vs : List Val) : Val:=⟨3,0,ByteArray.empty,vs⟩
def Val.non : Val:=⟨4,0,ByteArray.empty,[]⟩
def Val.som (v : Val) : Val:=⟨5,0,ByteArray.empty,[v]⟩
def Val.rcd (vs : List Val) : Val:=⟨6,0,ByteArray.empty,vs⟩
def Val.hd (v : Val) : Val:=v.vs.headD Val.non
def At (d : ByteArray) (j : Nat) (x : ByteArray) : Prop:=j + x.size <= d.size /\ ∀ i,i < x.size -> bAt d (j + i) = bAt x i
theorem At.nil {d : ByteArray} {j : Nat} (h : j <= d.size) : At d j ByteArray.empty:=⟨by simpa using h,fun i hi => by simp at hi⟩
theorem At.one {d : ByteArray} {j b : Nat} (hb : b < 256) : At d j (oneB b) ↔ bAt d j = b:=by
 unfold At
 rw [za7]
 constructor
 ·rintro ⟨_,h⟩;have:=h 0 (by omega);rw [zgu b hb] at this;exact this
 ·intro h
  refine ⟨by have:=zaq (s:=d) (i:=j) (by omega);omega,fun i hi => ?_⟩
  obtain rfl : i = 0:=by omega
  rw [zgu b hb];exact h
theorem At.ext {d x : ByteArray} {j : Nat} (h : At d j x) : d.extract j (j + x.size) = x:=by
 have hs:=size_extract d j (j + x.size) (by omega) h.1
 refine zfe (by omega) (fun i hi => ?_)
 rw [zcf _ _ _ _ (by omega) h.1,h.2 i (by omega)]
theorem At.le {d x : ByteArray} {j : Nat} (h : At d j x) : j + x.size <= d.size:=h.1
def zfn : Nat -> List ByteArray -> ByteArray -> ByteArray
 | _,[],t => t ++ ⟨#[93]⟩
 | k,x :: xs,t => zfn (k + 1) xs ((if 0 < k then t ++ ⟨#[44]⟩ else t) ++ x)
def zdk : List (Nat × ByteArray) -> ByteArray -> ByteArray -> ByteArray
 | [],_,t => t ++ ⟨#[125]⟩
 | p :: ps,mk,t => zdk ps ⟨#[44]⟩ (t ++ (((mk ++ oneB p.1) ++ ⟨#[58]⟩) ++ p.2))
def txtV : Nat -> Ty -> Val -> ByteArray
 | 0,_,_ => ByteArray.empty
 | n + 1,ty,v =>
  if v.tag = 0 then decI v.n
  else if v.tag = 1 then quo ++ v.s ++ quo
  else if v.tag = 2 then oneB (bAt ty.letters v.n.toNat).toNat
  else if v.tag = 3 then zfn 0 (v.vs.map (txtV n ty.in)) ⟨#[91]⟩
  else if v.tag = 4 then ⟨#[95]⟩
  else if v.tag = 5 then txtV n ty.in v.hd
  else zdk ((ty.fields.zip v.vs).map fun p => (p.1.1,txtV n p.1.2.1 p.2)) ⟨#[123]⟩ ByteArray.empty
theorem zpc (n : Nat) (ty : Ty) (x : Int) : txtV (n + 1) ty (.num x) = decI x:=rfl
theorem zpe (n : Nat) (ty : Ty) (s : ByteArray) : txtV (n + 1) ty (.str s) = quo ++ s ++ quo:=rfl
theorem zge (n : Nat) (ty : Ty) (i : Nat) : txtV (n + 1) ty (.cho i) = oneB (bAt ty.letters i).toNat:=rfl
theorem zju (n : Nat) (ty : Ty) (vs : List Val) : txtV (n + 1) ty (.lst vs) = zfn 0 (vs.map (txtV n ty.in)) ⟨#[91]⟩:=rfl
theorem zpb (n : Nat) (ty : Ty) : txtV (n + 1) ty .non = ⟨#[95]⟩:=rfl
theorem zpd (n : Nat) (ty : Ty) (v : Val) : txtV (n + 1) ty (.som v) = txtV n ty.in v:=rfl
theorem zdz (n : Nat) (ty : Ty) (vs : List Val) : txtV (n + 1) ty (.rcd vs) = zdk ((ty.fields.zip vs).map fun p => (p.1.1,txtV n p.1.2.1 p.2)) ⟨#[123]⟩ ByteArray.empty:=rfl
end
section
open Go.RowKit
end
section
open Go.RowKit
def RowR (n : Nat) (s : ByteArray) (xs : List Value) (fs : List (Nat × Ty × ByteArray)) : Prop :=
 xs.length = fs.length * 4 /\ ∀ i f,fs[i]? = some f -> ∃ p k : Nat,zaf true s n p = some (f.2.1,k) /\ s.size <= p + n /\ f.1 < 256 /\ xs[i * 4]? = some (.int .u8 f.1) /\ xs[i * 4 + 1]? = some (.int .i64 p) /\ xs[i * 4 + 2]? = some (.bool (decide (0 < f.2.2.size))) /\ xs[i * 4 + 3]? = some (.string f.2.2)
theorem RowR.nil {n : Nat} {s : ByteArray} : RowR n s [] []:=⟨rfl,fun i f hi => by simp at hi⟩
theorem RowR.snoc {n : Nat} {s : ByteArray} {xs : List Value} {fs : List (Nat × Ty × ByteArray)} (h : RowR n s xs fs) {f : Nat × Ty × ByteArray} {p k : Nat} (hp : zaf true s n p = some (f.2.1,k)) (hn : s.size <= p + n) (h1 : f.1 < 256) :
  RowR n s (xs ++ [.int .u8 f.1,.int .i64 p,.bool (decide (0 < f.2.2.size)),.string f.2.2]) (fs ++ [f]):=by
 refine ⟨by simp [h.1];omega,fun i g hi => ?_⟩
 by_cases hl : i < fs.length
 ·rw [List.getElem?_append_left hl] at hi
  obtain ⟨q,k',a1,a2,a3,h2⟩:=h.2 i g hi
  have hx:=h.1
  refine ⟨q,k',a1,a2,a3,?_⟩
  rw [List.getElem?_append_left (by omega),List.getElem?_append_left (by omega),List.getElem?_append_left (by omega),List.getElem?_append_left (by omega)]
  exact h2
 ·rw [List.getElem?_append_right (by omega)] at hi
  obtain rfl : i = fs.length:=by
   rcases Nat.eq_or_lt_of_le (Nat.le_of_not_lt hl) with h | h
   ·exact h.symm
   ·rw [List.getElem?_eq_none (by simp;omega)] at hi;cases hi
  simp at hi
  subst hi
  have hx:=h.1
  refine ⟨p,k,hp,hn,h1,?_⟩
  rw [<- hx]
  refine ⟨?_,?_,?_,?_⟩ <;> (rw [List.getElem?_append_right (by omega)];simp)
end
section
def Dup (fs : List (Nat × Ty × ByteArray)) : Prop:=∃ i j,∃ (h1 : j < i) (h2 : i < fs.length),(fs[i]).1 = (fs[j]'(by omega)).1
theorem Dup.has {acc : List (Nat × Ty × ByteArray)} {f : Nat × Ty × ByteArray} (h : hasL acc f.1 = true) : Dup (acc ++ [f]):=by
 unfold hasL at h
 rw [List.any_eq_true] at h
 obtain ⟨g,hg,he⟩:=h
 obtain ⟨j,hj,rfl⟩:=List.getElem_of_mem hg
 refine ⟨acc.length,j,hj,by simp,?_⟩
 rw [List.getElem_append_left hj]
 simp at he ⊢
 exact he.symm
theorem zh9 {pt : Nat -> Option (Ty × Nat)} {ef : Ty -> Nat -> Option (ByteArray × Nat)} {s : ByteArray} {i k : Nat} {f : Nat × Ty × ByteArray} (h : zal pt ef s i = some (f,k)) : f.1 < 256:=by
 unfold zal at h
 have:=zgt s i
 split at h
 ·split at h
  ·cases h
  ·split at h
   ·split at h
    ·cases h
    ·simp only [Option.some.injEq,Prod.mk.injEq] at h
     rw [<- h.1];show (bAt s i).toNat < 256;omega
   ·simp only [Option.some.injEq,Prod.mk.injEq] at h
    rw [<- h.1];show (bAt s i).toNat < 256;omega
 ·cases h
end
section
theorem zih (l : ByteArray) (c : Int) : ∀ m k,(∀ i,k <= i -> i < k + m -> bAt l i ≠ c) -> zay l c m k = -1
 | 0,k,_ => rfl
 | m + 1,k,h => by rw [zay,if_neg (h k (by omega) (by omega))];exact zih l c m (k + 1) (fun i h1 h2 => h i (by omega) (by omega))
theorem zii (l : ByteArray) (c : Int) : ∀ m k i,k <= i -> i < k + m -> bAt l i = c -> 0 <= zay l c m k
 | 0,k,i,h1,h2,_ => by omega
 | m + 1,k,i,h1,h2,h3 => by
  rw [zay];split
  ·omega
  ·rename_i h
   by_cases e : i = k
   ·subst e;exact absurd h3 h
   ·exact zii l c m (k + 1) i (by omega) (by omega) h3
theorem zm7 (s : ByteArray) (a e : Nat) (h1 : a <= e) (h2 : e <= s.size) (c : Int) (h : ∀ i,a <= i -> i < e -> bAt s i ≠ c) : pOf (s.extract a e) c < 0:=by
 have hs:=size_extract s a e h1 h2
 unfold pOf
 rw [zih _ _ _ _ (fun i _ hi => by rw [zcf s a e i (by omega) h2];exact h _ (by omega) (by omega))]
 omega
theorem zm8 (s : ByteArray) (a e i : Nat) (h2 : e <= s.size) (c : Int) (h3 : a <= i) (h4 : i < e) (h : bAt s i = c) : 0 <= pOf (s.extract a e) c:=by
 have hs:=size_extract s a e (by omega) h2
 exact zii _ _ _ _ (i - a) (by omega) (by omega) (by rw [zcf s a e (i - a) (by omega) h2,show a + (i - a) = i by omega];exact h)
theorem zhs (s : ByteArray) (a : Nat) : ∀ (m e : Nat),a <= e -> e + m <= s.size -> (∀ i,a <= i -> i < e -> isL (bAt s i) = true) -> (∀ i j,a <= j -> j < i -> i < e -> bAt s i ≠ bAt s j) ->
  (∀ i,a <= i -> i < lEnd s a m e -> isL (bAt s i) = true) /\ (∀ i j,a <= j -> j < i -> i < lEnd s a m e -> bAt s i ≠ bAt s j) /\ (lEnd s a m e = e + m \/ isL (bAt s (lEnd s a m e)) = false \/ ∃ j,a <= j /\ j < lEnd s a m e /\ bAt s (lEnd s a m e) = bAt s j)
 | 0,e,h1,h2,h3,h4 => ⟨h3,h4,.inl rfl⟩
 | m + 1,e,h1,h2,h3,h4 => by
  rw [lEnd]
  by_cases h : isL (bAt s e) = true /\ pOf (s.extract a e) (bAt s e) < 0
  ·rw [if_pos h]
   have ih:=zhs s a m (e + 1) (by omega) (by omega) (fun i i1 i2 => by
    by_cases x : i = e
    ·subst x;exact h.1
    ·exact h3 i i1 (by omega)) (fun i j j1 j2 i2 => by
    by_cases x : i = e
    ·subst x;intro hh
     have:=zm8 s a i j (by omega) (bAt s i) j1 j2 hh.symm
     omega
    ·exact h4 i j j1 j2 (by omega))
   refine ⟨ih.1,ih.2.1,?_⟩
   rcases ih.2.2 with h5 | h5
   ·left;omega
   ·exact .inr h5
  ·rw [if_neg h]
   refine ⟨h3,h4,.inr ?_⟩
   cases hl : isL (bAt s e) with
   | false => exact .inl rfl
   | true =>
    right
    rcases Classical.em (∃ j,a <= j /\ j < e /\ bAt s e = bAt s j) with h5 | h5
    ·exact h5
    ·exfalso;apply h
     exact ⟨hl,zm7 s a e h1 (by omega) _ (fun i i1 i2 hh => h5 ⟨i,i1,i2,hh.symm⟩)⟩
def zby (s : ByteArray) (a : Nat) : Option (Ty × Nat) :=
 let E:=zao isL s (s.size - a) a
 if E - a < 1 \/ 8 < E - a \/ tw (s.extract a E) = true then none
 else if bAt s E = 43 then (if bAt s (E + 1) = 62 then some (⟨60,s.extract a E,true,[],[]⟩,E + 2) else none)
 else if bAt s E = 62 then some (⟨60,s.extract a E,false,[],[]⟩,E + 1) else none
theorem zly {b : Int} (h : isL b = true) : 97 <= b /\ b <= 122:=by simpa [isL] using h
theorem zfz (s : ByteArray) (a : Nat) (ha : a <= s.size) : zbb s a = zby s a:=by
 unfold zbb zby
 simp only
 obtain ⟨E,hE⟩ : ∃ E,E = zao isL s (s.size - a) a:=⟨_,rfl⟩
 obtain ⟨X,hX⟩ : ∃ X,X = lEnd s a (s.size - a) a:=⟨_,rfl⟩
 have hsp:=zhs s a (s.size - a) a (Nat.le_refl _) (by omega) (fun i h1 h2 => by omega) (fun i j h1 h2 h3 => by omega)
 have hXl:=zei s a (s.size - a) a
 have hEl:=zcb isL s (s.size - a) a
 rw [<- hX] at hsp hXl ⊢
 rw [<- hE] at hEl ⊢
 have hall : ∀ i,a <= i -> i < E -> isL (bAt s i) = true:=fun i h1 h2 => zes isL s (s.size - a) a i h1 (by rw [<- hE];exact h2)
 have hnot : isL (bAt s E) = false:=by rw [hE];exact zi9 isL s rfl _ _ (by omega)
 obtain ⟨s1,s2,s3⟩:=hsp
 have hXE : X <= E:=by
  rcases Nat.lt_or_ge E X with h | h
  ·rw [s1 E (by omega) h] at hnot;cases hnot
  ·exact h
 have hsz:=size_extract s a E (by omega) (by omega)
 by_cases hlt : X < E
 ·have hlet:=zly (hall X (by omega) hlt)
  have htw : tw (s.extract a E) = true:=by
   rcases s3 with h | h | ⟨j,j1,j2,j3⟩
   ·omega
   ·rw [hall X (by omega) hlt] at h;cases h
   ·refine zjt (i:=X - a) (j:=j - a) (by omega) (by omega) ?_
    rw [zcf s a E (X - a) (by omega) (by omega),zcf s a E (j - a) (by omega) (by omega),show a + (X - a) = X by omega,show a + (j - a) = j by omega]
    exact j3
  rw [if_pos (show E - a < 1 \/ 8 < E - a \/ tw (s.extract a E) = true from .inr (.inr htw))]
  split
  ·rfl
  ·rw [if_neg (by omega),if_neg (by omega)]
 ·obtain rfl : X = E:=by omega
  have htw : tw (s.extract a X) = false:=zo9 (fun i j h1 h2 h3 => by
   rw [zcf s a X i (by omega) (by omega),zcf s a X j (by omega) (by omega)] at h3
   exact s2 (a + i) (a + j) (by omega) (by omega) (by omega) h3)
  simp only [htw,Bool.false_eq_true,or_false]
end
section
open Go.RowKit
def za3 (a b : Nat) : Bool:=(a == 105 && (b == 105 || b == 108)) || ((a == 108 || a == 115) && b == a)
def wt : Nat -> Ty -> Nat
 | 0,_ => 0
 | n + 1,ty => 70 + (ty.inner.map (wt n)).sum + (ty.fields.map fun f => wt n f.2.1 + f.2.2.size + 4).sum
theorem zgk (n : Nat) (ty : Ty) : 70 <= wt (n + 1) ty:=by rw [wt];omega
end
section
open Go.RowKit
theorem beqK (b k : Nat) : ((b : Int) == (k : Int)) = (b == k):=by
 by_cases h : b = k
 ·subst h;simp
 ·rw [show (b == k) = false by simpa using h];simp;omega
theorem zc1 (a b : Nat) (w : World) :
  Calls Try.prog 58 #[.int .i64 a,.int .i64 b] w fun e w' => e = .returned (.bool (za3 a b)) /\ w = w':=by
 by_cases h1 : a = 105
 ·subst h1
  by_cases h2 : b = 105
  ·subst h2
   go_enter Try.func58,Try.ntmps58
   go_wp2_with fail
   go_ret
   exact ⟨rfl,rfl⟩
  ·have h2' : ((b : Int) == 105) = false:=by simp;omega
   have hr : Hid (za3 105 b = ((b : Int) == 108)):=by
    show _ = _;rw [show ((b : Int) == 108) = (b == 108) from beqK b 108];simp [za3,h2]
   clear h2
   go_enter Try.func58,Try.ntmps58
   go_wp2_with fail
   go_ret
   exact ⟨zav (by rw [hr.out]),rfl⟩
 ·have h1' : ((a : Int) == 105) = false:=by simp;omega
  by_cases h2 : a = 108
  ·subst h2
   have hr : Hid (za3 108 b = ((b : Int) == 108)):=by
    show _ = _;rw [show ((b : Int) == 108) = (b == 108) from beqK b 108];simp [za3]
   go_enter Try.func58,Try.ntmps58
   go_wp2_with fail
   go_ret
   exact ⟨zav (by rw [hr.out]),rfl⟩
  ·have h2' : ((a : Int) == 108) = false:=by simp;omega
   by_cases h3 : a = 115
   ·subst h3
    have hr : Hid (za3 115 b = ((b : Int) == 115)):=by
     show _ = _;rw [show ((b : Int) == 115) = (b == 115) from beqK b 115];simp [za3]
    go_enter Try.func58,Try.ntmps58
    go_wp2_with fail
    go_ret
    exact ⟨zav (by rw [hr.out]),rfl⟩
   ·have h3' : ((a : Int) == 115) = false:=by simp;omega
    have hr : Hid (za3 a b = false):=by show _ = _;simp [za3,h1,h2,h3]
    clear h1 h2 h3
    go_enter Try.func58,Try.ntmps58
    go_wp2_with fail
    go_ret
    exact ⟨zav (by rw [hr.out]),rfl⟩
theorem zoy (ty : Ty) (ai : Option Addr) (li ci : Nat) (af : Option Addr) (lf cf : Nat) (c : Int) (w : World) (hl : ty.letters.size <= 8) :
  Calls Try.prog 69 #[.agg #[.int .i64 ty.kind,.string ty.letters,.bool ty.op,.slice ai li ci,.slice af lf cf],.int .i64 c] w fun e w' => e = .returned (.bool (ty.op || decide (0 <= pOf ty.letters c))) /\ Below w.heap.size w w':=by
 have _hl : ty.letters.size <= 9000000:=by omega
 have hB : ∀ o,Below w.heap.size w (w.alloc o):=fun o => (Below.refl _ _).alloc (Nat.le_refl _) _
 cases hop : ty.op with
 | true =>
  go_enter Try.func69,Try.ntmps69
  go_wp2_with (go_at_call 80;refine (zcz _ _ _ _hl).mono ?_;rintro e w' ⟨rfl,rfl⟩)
  go_ret
  exact ⟨rfl,by first | exact hB _ | exact Below.refl _ _⟩
 | false =>
  go_enter Try.func69,Try.ntmps69
  go_wp2_with (go_at_call 80;refine (zcz _ _ _ _hl).mono ?_;rintro e w' ⟨rfl,rfl⟩)
  go_ret
  exact ⟨zav (by simp),by first | exact hB _ | exact Below.refl _ _⟩
theorem zoq (s : ByteArray) (a b : Nat) (w : World) (h : s.size < b) (_hs : s.size <= 9000000) (hb : b <= 9000000) :
  Calls Try.prog 79 #[.string s,.int .i64 a,.int .i64 b] w fun e w' => e = .returned (.string ByteArray.empty) /\ w' = w:=by
 by_cases hab : b < a
 iterate 2
  ·go_enter Try.func79,Try.ntmps79
   go_wp2_with fail
   go_ret
   exact ⟨rfl,rfl⟩
theorem zlr (ty : Ty) (ai : Option Addr) (li ci : Nat) (af : Option Addr) (lf cf : Nat) (w : World) (hl : ty.letters.size <= 8) :
  Calls Try.prog 66 #[.agg #[.int .i64 ty.kind,.string ty.letters,.bool ty.op,.slice ai li ci,.slice af lf cf]] w fun e w' => e = .returned (.string (ty.letters.extract 0 1)) /\ Below w.heap.size w w':=by
 have _hl : ty.letters.size <= 9000000:=by omega
 have hB : ∀ o,Below w.heap.size w (w.alloc o):=fun o => (Below.refl _ _).alloc (Nat.le_refl _) _
 have hsp : ∀ w,Calls Try.prog 79 #[.string ty.letters,.int .i64 0,.int .i64 1] w fun e w' => e = .returned (.string (ty.letters.extract 0 1)) /\ w' = w:=fun w => by
  by_cases h1 : 1 <= ty.letters.size
  ·exact zbu ty.letters 0 1 w (by omega) h1 _hl
  ·rw [show ty.letters.extract 0 1 = ByteArray.empty from zfe (by rw [ByteArray.size_extract];show _ = 0;omega) (fun i hi => by rw [ByteArray.size_extract] at hi;omega)]
   exact zoq ty.letters 0 1 w (by omega) _hl (by omega)
 go_enter Try.func66,Try.ntmps66
 go_wp2_with (go_at_call 79;refine (hsp _).mono ?_;rintro e w' ⟨rfl,rfl⟩)
 go_ret
 exact ⟨rfl,by first | exact hB _ | exact Below.refl _ _⟩
end
section
open Go.RowKit
theorem zlo (s : ByteArray) (p : Nat) (h : p < s.size) : s.extract p (p + 1) = oneB (bAt s p).toNat:=by
 rw [zct s p h]
 apply ByteArray.ext
 have : p < s.data.size:=h
 apply Array.ext
 ·simp [oneB];omega
 ·intro i h1 h2
  simp [oneB] at h2
  subst h2
  simp [oneB]
  rfl
end
end Go.Proofs.Ytkkekopomiehlab
